/-
  Joined by a program out of: ZoneGK.
-/
import Derived.Test.YtphhbojdolhieaaGreatDoorMgAB
import Derived.Test.YtphhbojdolhieaaGreatDoorMgAN

/-
  Plain: GIBBONS, KORACH: of a register whose values are unlike there is a right order just if nothing can't be.
-/
namespace Go.Proofs.YtphhbojdolhieaaGreatDoor
open Go.RowKit
set_option maxRecDepth 20000
/-- What was written last. -/
def lastF : Int → List Dd → Int
  | s, [] => s
  | s, d :: r => lastF (if d.kind = 1 then d.arg else s) r
def regB : Int → List Dd → Bool
  | _, [] => true
  | s, d :: r => if d.kind = 1 then d.res == 0 && regB d.arg r else d.res == s && regB s r
def RegD (d : Dd) : Prop := (d.kind = 1 ∧ 1 ≤ d.arg ∧ d.arg ≤ 1000) ∨ (d.kind = 2 ∧ d.arg = 0)
theorem reg_goes : ∀ (l : List Dd) (s : Int), 0 ≤ s → s ≤ 1000 → (∀ d ∈ l, RegD d) → goesB 1 [s] l = regB s l
  | [], s, _, _, _ => rfl
  | d :: r, s, h0, h1, hd => by
    have hs : stateE 1 [s] = 0 := by
      unfold stateE
      rw [if_neg (by decide), if_neg (by simp), if_neg ?_]
      rw [Bool.not_eq_false]
      exact (valid_one (by decide)).2 ⟨rfl, h0, h1⟩
    rw [goesB, regB]
    have ht : takesB d.kind d.arg = true := by
      unfold takesB
      rcases hd d List.mem_cons_self with h2 | h2
      · rw [if_pos (.inl h2.1), btw_iff]; exact h2.2
      · rw [if_neg (by omega), beq_iff_eq]; exact h2.2
    have hf : fitsB 1 d.kind = true := by
      unfold fitsB kindType
      rw [decide_eq_true_iff]
      rcases hd d List.mem_cons_self with h2 | h2
      · rw [if_pos (.inl h2.1)]; decide
      · rw [if_pos (.inr h2.1)]; decide
    have he : stepO 1 [s] d.kind d.arg = stepped [s] d.kind d.arg := by
      unfold stepO
      rw [if_neg (by rw [hs]; simp), ht, hf, if_neg (by decide)]
    rw [he]
    unfold stepped
    rcases hd d List.mem_cons_self with h2 | h2
    · rw [if_pos h2.1, if_pos h2.1]
      simp only
      rw [reg_goes r d.arg (by omega) h2.2.2 (fun x hx => hd x (List.mem_cons_of_mem _ hx))]
      have e : ((0 : Int) == d.res) = (d.res == 0) := by
        rw [Bool.eq_iff_iff, beq_iff_eq, beq_iff_eq]
        exact eq_comm
      rw [e]
      simp
    · rw [if_neg (by omega), if_pos h2.1, if_neg (by omega)]
      simp only
      rw [reg_goes r s h0 h1 (fun x hx => hd x (List.mem_cons_of_mem _ hx))]
      have e : (([s].getD 0 0 : Int) == d.res) = (d.res == s) := by
        rw [Bool.eq_iff_iff, beq_iff_eq, beq_iff_eq]
        exact eq_comm
      rw [e]
      simp
theorem regB_of : ∀ (l : List Dd) (s : Int), (∀ a d b, l = a ++ d :: b → (d.kind = 1 → d.res = 0) ∧ (d.kind ≠ 1 → d.res = lastF s a)) → regB s l = true
  | [], _, _ => rfl
  | d :: r, s, h => by
    rw [regB]
    have h0 := h [] d r rfl
    by_cases hk : d.kind = 1
    · rw [if_pos hk, Bool.and_eq_true, beq_iff_eq]
      refine ⟨h0.1 hk, regB_of r d.arg fun a x b e => ?_⟩
      have := h (d :: a) x b (by rw [e]; rfl)
      rwa [lastF, if_pos hk] at this
    · rw [if_neg hk, Bool.and_eq_true, beq_iff_eq]
      refine ⟨h0.2 hk, regB_of r s fun a x b e => ?_⟩
      have := h (d :: a) x b (by rw [e]; rfl)
      rwa [lastF, if_neg hk] at this
theorem regB_at : ∀ (a : List Dd) (d : Dd) (b : List Dd) (s : Int), regB s (a ++ d :: b) = true → d.kind ≠ 1 → d.res = lastF s a
  | [], d, b, s, h, hk => by
    rw [List.nil_append, regB, if_neg hk, Bool.and_eq_true, beq_iff_eq] at h
    exact h.1
  | x :: a, d, b, s, h, hk => by
    rw [List.cons_append, regB] at h
    rw [lastF]
    split at h
    · rename_i h1
      rw [if_pos h1]
      rw [Bool.and_eq_true] at h
      exact regB_at a d b _ h.2 hk
    · rename_i h1
      rw [if_neg h1]
      rw [Bool.and_eq_true] at h
      exact regB_at a d b _ h.2 hk
theorem lastF_append (s : Int) : ∀ (a b : List Dd), lastF s (a ++ b) = lastF (lastF s a) b
  | a, b => by
    induction a generalizing s with
    | nil => rfl
    | cons x a ih => rw [List.cons_append, lastF, lastF, ih]
theorem lastF_none {s : Int} : ∀ {a : List Dd}, (∀ d ∈ a, d.kind ≠ 1) → lastF s a = s
  | [], _ => rfl
  | d :: r, h => by
    rw [lastF, if_neg (h d List.mem_cons_self)]
    exact lastF_none fun x hx => h x (List.mem_cons_of_mem _ hx)
/-- Nothing was written, or there is a write behind which there is none. -/
theorem lastF_cases (s : Int) (a : List Dd) : ((∀ d ∈ a, d.kind ≠ 1) ∧ lastF s a = s) ∨ ∃ a1 w a2, a = a1 ++ w :: a2 ∧ w.kind = 1 ∧ (∀ d ∈ a2, d.kind ≠ 1) ∧ lastF s a = w.arg := by
  induction a generalizing s with
  | nil => exact .inl ⟨fun d h => by simp at h, rfl⟩
  | cons x a ih =>
    rw [lastF]
    by_cases hk : x.kind = 1
    · rw [if_pos hk]
      rcases ih x.arg with ⟨h1, h2⟩ | ⟨a1, w, a2, h1, h2, h3, h4⟩
      · exact .inr ⟨[], x, a, rfl, hk, h1, h2⟩
      · exact .inr ⟨x :: a1, w, a2, by rw [h1]; rfl, h2, h3, h4⟩
    · rw [if_neg hk]
      rcases ih s with ⟨h1, h2⟩ | ⟨a1, w, a2, h1, h2, h3, h4⟩
      · refine .inl ⟨fun d hd => ?_, h2⟩
        rcases List.mem_cons.1 hd with rfl | hd
        · exact hk
        · exact h1 d hd
      · exact .inr ⟨x :: a1, w, a2, by rw [h1]; rfl, h2, h3, h4⟩
/-- Where no two each have their first ahead of the other's last there is a row in which whoever has its first ahead of another one's last stands ahead. -/
def tK (V : List Int) (F L : Int → Int) (b : Int) : Int := match V.find? (fun a => decide (F a < L b ∧ L b < L a)) with
  | some a => L a
  | none => L b
def kK (V : List Int) (F L : Int → Int) (a : Int) : Int := if F a < L a then 2 * F a + 1 else 2 * tK V F L a
theorem kK_lt {V : List Int} {F L : Int → Int} (h : ∀ a ∈ V, ∀ b ∈ V, a ≠ b → ¬ (F a < L b ∧ F b < L a)) {a b : Int} (ha : a ∈ V) (hb : b ∈ V) (hne : a ≠ b) (hab : F a < L b) : kK V F L a < kK V F L b := by
  have T : ∀ b ∈ V, ¬ F b < L b → (L b ≤ tK V F L b ∧ tK V F L b ≤ F b) ∧ ∀ c ∈ V, F c < L c → tK V F L b ≤ F c ∨ L c ≤ tK V F L b := by
    intro b hb hnb
    unfold tK
    cases hf : V.find? (fun a => decide (F a < L b ∧ L b < L a)) with
    | none =>
      simp only
      refine ⟨by omega, fun c hc hfc => ?_⟩
      have := List.find?_eq_none.1 hf c hc
      rw [decide_eq_true_iff] at this
      omega
    | some a =>
      simp only
      have h1 := List.find?_some hf
      rw [decide_eq_true_iff] at h1
      have ha := List.mem_of_find?_eq_some hf
      have hne : a ≠ b := fun e => by subst e; omega
      have h2 := h a ha b hb hne
      refine ⟨by omega, fun c hc hfc => ?_⟩
      by_cases e : c = a
      · subst e; omega
      · have := h a ha c hc (Ne.symm e)
        omega
  have h1 := h a ha b hb hne
  unfold kK
  by_cases fa : F a < L a
  · rw [if_pos fa]
    by_cases fb : F b < L b
    · rw [if_pos fb]; omega
    · rw [if_neg fb]
      have := T b hb fb
      have := this.2 a ha fa
      omega
  · rw [if_neg fa]
    have ta := T a ha fa
    by_cases fb : F b < L b
    · rw [if_pos fb]
      have := ta.2 b hb fb
      omega
    · rw [if_neg fb]
      have := T b hb fb
      omega
section
variable {n : Nat} {cs : List Cl}
theorem aheadB_iff {i j : Nat} : aheadB cs i j = true ↔ (cs.getD i default).til ≠ -1 ∧ (cs.getD i default).til < (cs.getD j default).frm := by
  unfold aheadB
  rw [decide_eq_true_iff]
/-- What a call is of. -/
def valC (c : Cl) : Int := if c.kind = 1 then c.arg else c.res
theorem RegH.hasV_val (h : RegH n cs) {c : Cl} (hc : c ∈ cs) (ha : c.kind = 1 ∨ c.til ≠ -1) : hasV (valC c) c = true := by
  rw [hasV_iff]
  unfold valC
  rcases h.kind hc with h1 | h1
  · rw [if_pos h1.1]; exact .inl ⟨h1.1, rfl⟩
  · rw [if_neg (by omega)]; exact .inr ⟨h1.1, ha.resolve_left (by omega), rfl⟩
theorem val_hasV {c : Cl} {v : Int} (hv : hasV v c = true) : valC c = v := by
  unfold valC
  rcases hasV_iff.1 hv with h1 | h1
  · rw [if_pos h1.1]; exact h1.2
  · rw [if_neg (by omega)]; exact h1.2.2
/-- Does it stand in the order? -/
def cntB (cs : List Cl) (i : Nat) : Bool := (cs.getD i default).til != -1 || ((cs.getD i default).kind == 1 && cs.any fun r => isR r && r.res == (cs.getD i default).arg)
theorem cntB_iff {i : Nat} : cntB cs i = true ↔ (cs.getD i default).til ≠ -1 ∨ ((cs.getD i default).kind = 1 ∧ ∃ r ∈ cs, isR r = true ∧ r.res = (cs.getD i default).arg) := by
  unfold cntB
  rw [Bool.or_eq_true, bne_iff_ne, Bool.and_eq_true, beq_iff_eq, List.any_eq_true]
  simp only [Bool.and_eq_true, beq_iff_eq]
/-- Where a call stands in the row. -/
def mK (K : Int → Int) (c : Cl) : Int := (K (valC c) * 1001 + valC c) * 1000 + (if c.kind = 1 then 0 else 1 + c.frm)
theorem RegH.val_rng (h : RegH n cs) (hs : ¬ StrayP cs) {c : Cl} (hc : c ∈ cs) (ha : c.kind = 1 ∨ c.til ≠ -1) : 0 ≤ valC c ∧ valC c ≤ 1000 ∧ (c.kind = 1 → 1 ≤ valC c) := by
  unfold valC
  rcases h.kind hc with h1 | h1
  · rw [if_pos h1.1]; omega
  · rw [if_neg (by omega)]
    by_cases h0 : c.res = 0
    · omega
    · apply Classical.byContradiction
      intro hn
      refine hs ⟨c, hc, isR_iff.2 ⟨h1.1, ha.resolve_left (by omega)⟩, h0, fun d hd => ?_⟩
      rw [Bool.eq_false_iff]
      intro hw
      have := isW_iff.1 hw
      rcases h.kind hd with h2 | h2 <;> omega
theorem mK_lex (K : Int → Int) {c d : Cl} (hc : 0 ≤ valC c ∧ valC c ≤ 1000) (hd : 0 ≤ valC d ∧ valC d ≤ 1000) (fc : 0 ≤ c.frm ∧ c.frm < 200) (fd : 0 ≤ d.frm ∧ d.frm < 200) (h : K (valC c) < K (valC d)) : mK K c < mK K d := by
  unfold mK
  split <;> split <;> omega
/-- **The row is a right order.** -/
theorem RegH.gk_back (h : RegH n cs) (hres : ∀ c ∈ cs, c.kind = 1 → c.res = 0) (hs : ¬ StrayP cs) (he : ¬ EarlyP cs) (ht : ¬ TwoP cs) : ∃ ws, RiteP [1] cs (aheadB cs) ws := by
  obtain ⟨F, hF⟩ : ∃ F : Int → Int, ∀ v w, wOf cs v = some w → F v = zF v (rds 0 cs) w.til := ⟨fun v => match wOf cs v with | some w => zF v (rds 0 cs) w.til | none => 0, fun v w e => by simp only [e]⟩
  obtain ⟨L, hL⟩ : ∃ L : Int → Int, ∀ v w, wOf cs v = some w → L v = zL v (rds 0 cs) w.frm := ⟨fun v => match wOf cs v with | some w => zL v (rds 0 cs) w.frm | none => 0, fun v w e => by simp only [e]⟩
  obtain ⟨V, hV⟩ : ∃ V : List Int, ∀ v, v ∈ V ↔ (0 ≤ v ∧ v ≤ 1000) ∧ wOf cs v ≠ none := by
    refine ⟨((List.range 1001).map fun (k : Nat) => (k : Int)).filter fun v => (wOf cs v).isSome, fun v => ?_⟩
    rw [List.mem_filter, List.mem_map, Option.isSome_iff_ne_none]
    constructor
    · rintro ⟨⟨k, h1, rfl⟩, h2⟩
      rw [List.mem_range] at h1
      exact ⟨by omega, h2⟩
    · rintro ⟨h1, h2⟩
      exact ⟨⟨v.toNat, List.mem_range.2 (by omega), by omega⟩, h2⟩
  have hFL : ∀ a ∈ V, ∀ b ∈ V, (F a < L b ↔ BefV cs a b) := by
    intro a ha b hb
    obtain ⟨wa, h1⟩ := Option.ne_none_iff_exists'.1 ((hV a).1 ha).2
    obtain ⟨wb, h2⟩ := Option.ne_none_iff_exists'.1 ((hV b).1 hb).2
    rw [hF a wa h1, hL b wb h2]
    exact h.befV h1 h2
  obtain ⟨K, hK⟩ : ∃ K : Int → Int, ∀ a ∈ V, ∀ b ∈ V, a ≠ b → BefV cs a b → K a < K b := by
    refine ⟨kK V F L, fun a ha b hb hne hab => kK_lt (fun x hx y hy hxy hh => ht ⟨x, y, hxy, (hFL x hx y hy).1 hh.1, (hFL y hy x hx).1 hh.2⟩) ha hb hne ((hFL a ha b hb).2 hab)⟩
  have hval : ∀ c ∈ cs, (c.kind = 1 ∨ c.til ≠ -1) → valC c ∈ V := by
    intro c hc ha
    have h1 := h.val_rng hs hc ha
    refine (hV _).2 ⟨⟨h1.1, h1.2.1⟩, fun e => ?_⟩
    obtain ⟨h2, h3⟩ := wOf_none.1 e
    rcases hasV_iff.1 (h.hasV_val hc ha) with h4 | h4
    · have := h3 c hc
      rw [isW_iff.2 h4] at this
      cases this
    · rw [← h4.2.2] at h2 h3
      exact hs ⟨c, hc, isR_iff.2 ⟨h4.1, h4.2.1⟩, h2, h3⟩
  -- the row
  obtain ⟨O, hO⟩ : ∃ O, O = (List.range cs.length).filter (cntB cs) := ⟨_, rfl⟩
  obtain ⟨S, hS⟩ : ∃ S, S = O.mergeSort (fun i j => decide (mK K (cs.getD i default) ≤ mK K (cs.getD j default))) := ⟨_, rfl⟩
  have hperm : S.Perm O := by rw [hS]; exact List.mergeSort_perm _ _
  have hpair : S.Pairwise (fun i j => mK K (cs.getD i default) ≤ mK K (cs.getD j default)) := by
    have := List.pairwise_mergeSort (le := fun i j => decide (mK K (cs.getD i default) ≤ mK K (cs.getD j default))) (fun a b c h1 h2 => by rw [decide_eq_true_iff] at *; omega) (fun a b => by rw [Bool.or_eq_true, decide_eq_true_iff, decide_eq_true_iff]; omega) O
    rw [← hS] at this
    exact this.imp fun h => by rwa [decide_eq_true_iff] at h
  have hmem : ∀ i, i ∈ S ↔ i < cs.length ∧ cntB cs i = true := by
    intro i
    rw [hperm.mem_iff, hO, List.mem_filter, List.mem_range]
  have hnd : S.Nodup := by
    rw [hperm.nodup_iff, hO]
    exact List.nodup_range.filter _
  have hat : ∀ i, i < cs.length → cs.getD i default ∈ cs := fun i hi => List.mem_of_getElem? (getD_some hi)
  have hans : ∀ i ∈ S, (cs.getD i default).kind = 1 ∨ (cs.getD i default).til ≠ -1 := by
    intro i hi
    rcases cntB_iff.1 ((hmem i).1 hi).2 with h1 | h1
    · exact .inr h1
    · exact .inl h1.1
  -- strictly less stands ahead
  have hless : ∀ i j a b, S = a ++ j :: b → i ∈ S → mK K (cs.getD i default) < mK K (cs.getD j default) → i ∈ a := by
    intro i j a b e hi hlt
    rw [e] at hi hpair
    rcases List.mem_append.1 hi with h1 | h1
    · exact h1
    · rcases List.mem_cons.1 h1 with rfl | h1
      · omega
      · have := (List.pairwise_cons.1 (List.pairwise_append.1 hpair).2.1).1 i h1
        omega
  have hle : ∀ i j a b, S = a ++ j :: b → i ∈ a → mK K (cs.getD i default) ≤ mK K (cs.getD j default) := by
    intro i j a b e hi
    rw [e] at hpair
    exact (List.pairwise_append.1 hpair).2.2 i hi j List.mem_cons_self
  have hdd : ∀ (l : List Nat), (∀ i ∈ l, i < cs.length) → ownD cs 0 (l.map fun (i : Nat) => ((i : Int), (cs.getD i default).res)) = l.map fun i => ⟨(cs.getD i default).kind, (cs.getD i default).arg, (cs.getD i default).res⟩ := by
    intro l
    induction l with
    | nil => intro _; rfl
    | cons i l ih =>
      intro hl
      rw [List.map_cons, ownD_cons, List.map_cons, ih fun j hj => hl j (List.mem_cons_of_mem _ hj)]
      have e : atC cs ((i : Int), (cs.getD i default).res) = cs.getD i default := by unfold atC; simp
      rw [e, if_pos (by rw [h.thing (hat i (hl i List.mem_cons_self))]; rfl)]
      unfold ddC
      rw [e]
  refine ⟨S.map fun (i : Nat) => ((i : Int), (cs.getD i default).res), ?_, ?_, ?_, ?_, ?_, ?_⟩
  · intro x hx
    obtain ⟨i, hi, rfl⟩ := List.mem_map.1 hx
    have := ((hmem i).1 hi).1
    exact ⟨by simp only; omega, by simp only; omega⟩
  · rw [List.map_map]
    unfold List.Nodup
    rw [List.pairwise_map]
    refine hnd.imp fun hne e => hne ?_
    simp only [Function.comp_apply] at e
    omega
  · intro x hx _
    obtain ⟨i, hi, rfl⟩ := List.mem_map.1 hx
    unfold atC
    simp
  · intro i hi hti
    rw [List.map_map, List.mem_map]
    exact ⟨i, (hmem i).2 ⟨hi, cntB_iff.2 (.inl hti)⟩, rfl⟩
  · -- whoever is ahead stands ahead
    intro i j hi hj hah a y b e ey
    obtain ⟨a', r, e1, rfl, e2⟩ := List.map_eq_append_iff.1 e
    obtain ⟨j', b', rfl, rfl, rfl⟩ := List.map_eq_cons_iff.1 e2
    have hj' : j' = j := by simp only at ey; omega
    subst hj'
    obtain ⟨h1, h2⟩ := aheadB_iff.1 hah
    have hci := hat i hi
    have hcj := hat j' hj
    have hjS : j' ∈ S := by rw [e1]; simp
    have hiS : i ∈ S := (hmem i).2 ⟨hi, cntB_iff.2 (.inl h1)⟩
    have vi := h.val_rng hs hci (.inr h1)
    have vj := h.val_rng hs hcj (hans _ hjS)
    have fi := h.frm hci
    have fj := h.frm hcj
    have hlt : mK K (cs.getD i default) < mK K (cs.getD j' default) := by
      by_cases hv : valC (cs.getD i default) = valC (cs.getD j' default)
      · unfold mK
        rw [hv]
        rcases h.kind hci with k1 | k1
        · rcases h.kind hcj with k2 | k2
          · have : i = j' := h.once i j' _ _ (getD_some hi) (getD_some hj) k1.1 k2.1 (by unfold valC at hv; rwa [if_pos k1.1, if_pos k2.1] at hv)
            subst this
            omega
          · rw [if_pos k1.1, if_neg (by omega)]; omega
        · rcases h.kind hcj with k2 | k2
          · refine absurd ⟨_, hci, isR_iff.2 ⟨k1.1, h1⟩, ?_, _, hcj, isW_iff.2 ⟨k2.1, ?_⟩, h2⟩ he
            · unfold valC at hv; rw [if_neg (by omega), if_pos k2.1] at hv; omega
            · unfold valC at hv; rw [if_neg (by omega), if_pos k2.1] at hv; exact hv.symm
          · rw [if_neg (by omega), if_neg (by omega)]; omega
      · refine mK_lex K ⟨vi.1, vi.2.1⟩ ⟨vj.1, vj.2.1⟩ ⟨fi.1, fi.2.1⟩ ⟨fj.1, fj.2.1⟩ (hK _ (hval _ hci (.inr h1)) _ (hval _ hcj (hans _ hjS)) hv ?_)
        exact ⟨_, hcj, h.hasV_val hcj (hans _ hjS), .inr ⟨_, hci, h.hasV_val hci (.inr h1), h1, h2⟩⟩
    have := hless i j' a' b' e1 hiS hlt
    rw [List.map_map, List.mem_map]
    exact ⟨i, this, rfl⟩
  · -- it goes
    intro t ht0
    have ht0 : t = 0 := by simp at ht0; omega
    subst ht0
    rw [hdd S fun i hi => ((hmem i).1 hi).1]
    show goesB 1 [0] _ = true
    rw [reg_goes _ _ (by omega) (by omega) ?_]
    · refine regB_of _ _ fun a d b e => ?_
      obtain ⟨a', r, e1, rfl, e2⟩ := List.map_eq_append_iff.1 e
      obtain ⟨i, b', rfl, rfl, rfl⟩ := List.map_eq_cons_iff.1 e2
      have hiS : i ∈ S := by rw [e1]; simp
      have hi := ((hmem i).1 hiS).1
      have hci := hat i hi
      refine ⟨fun hk => hres _ hci hk, fun hk => ?_⟩
      simp only at hk ⊢
      have hk2 : (cs.getD i default).kind = 2 := by rcases h.kind hci with k | k <;> omega
      have hti := (hans i hiS).resolve_left (by omega)
      have vi := h.val_rng hs hci (.inr hti)
      have evi : valC (cs.getD i default) = (cs.getD i default).res := by unfold valC; rw [if_neg (by omega)]
      have fi := h.frm hci
      -- the write of its value stands ahead of it
      have hwr : (cs.getD i default).res ≠ 0 → ∃ x ∈ a', (cs.getD x default).kind = 1 ∧ (cs.getD x default).arg = (cs.getD i default).res := by
        intro h0
        have h1 : ∃ c ∈ cs, isW (cs.getD i default).res c = true := by
          apply Classical.byContradiction
          intro hn
          exact hs ⟨_, hci, isR_iff.2 ⟨hk2, hti⟩, h0, fun c hc => Bool.eq_false_iff.2 fun hw => hn ⟨c, hc, hw⟩⟩
        obtain ⟨c, hc, hw⟩ := h1
        obtain ⟨x, hx, rfl⟩ := List.getElem_of_mem hc
        have ex : cs.getD x default = cs[x] := by rw [List.getD_eq_getElem?_getD, List.getElem?_eq_getElem hx]; rfl
        rw [← ex] at hw
        obtain ⟨h2, h3⟩ := isW_iff.1 hw
        refine ⟨x, hless x i a' b' e1 ((hmem x).2 ⟨hx, cntB_iff.2 (.inr ⟨h2, _, hci, isR_iff.2 ⟨hk2, hti⟩, h3.symm⟩)⟩) ?_, h2, h3⟩
        have evx : valC (cs.getD x default) = (cs.getD i default).res := by unfold valC; rw [if_pos h2]; exact h3
        unfold mK
        rw [evx, evi, if_pos h2, if_neg (by omega)]
        omega
      rcases lastF_cases 0 (a'.map fun i => (⟨(cs.getD i default).kind, (cs.getD i default).arg, (cs.getD i default).res⟩ : Dd)) with ⟨h1, h2⟩ | ⟨a1, w, a2, h1, h2, h3, h4⟩
      · rw [h2]
        apply Classical.byContradiction
        intro h0
        obtain ⟨x, hx, h3, _⟩ := hwr h0
        exact h1 _ (List.mem_map.2 ⟨x, hx, rfl⟩) h3
      · rw [h4]
        obtain ⟨p1, r1, q1, rfl, q2⟩ := List.map_eq_append_iff.1 h1
        obtain ⟨u, p2, rfl, rfl, rfl⟩ := List.map_eq_cons_iff.1 q2
        simp only at h2 ⊢
        have huS : u ∈ S := by rw [e1, q1]; simp
        have hu := ((hmem u).1 huS).1
        have hcu := hat u hu
        have vu := h.val_rng hs hcu (.inl h2)
        have evu : valC (cs.getD u default) = (cs.getD u default).arg := by unfold valC; rw [if_pos h2]
        have fu := h.frm hcu
        have hle1 := hle u i a' b' e1 (by rw [q1]; simp)
        apply Classical.byContradiction
        intro hne
        have hvne : valC (cs.getD u default) ≠ valC (cs.getD i default) := by rw [evu, evi]; exact fun e => hne e.symm
        -- the row of values: the one's ahead of the other's
        have hcl : K (valC (cs.getD u default)) * 1001 + valC (cs.getD u default) < K (valC (cs.getD i default)) * 1001 + valC (cs.getD i default) := by
          unfold mK at hle1
          rw [if_pos h2, if_neg hk] at hle1
          by_cases hlt : K (valC (cs.getD u default)) * 1001 + valC (cs.getD u default) < K (valC (cs.getD i default)) * 1001 + valC (cs.getD i default)
          · exact hlt
          · exfalso
            have hKK : K (valC (cs.getD u default)) = K (valC (cs.getD i default)) ∧ valC (cs.getD u default) = valC (cs.getD i default) := by omega
            exact hvne hKK.2
        by_cases h0 : (cs.getD i default).res = 0
        · have := hK (valC (cs.getD i default)) (hval _ hci (.inr hti)) (valC (cs.getD u default)) (hval _ hcu (.inl h2)) (Ne.symm hvne) ⟨_, hcu, h.hasV_val hcu (.inl h2), .inl (by rw [evi]; exact h0)⟩
          omega
        · obtain ⟨x, hx, h5, h6⟩ := hwr h0
          have hxS : x ∈ S := by rw [e1]; exact List.mem_append_left _ hx
          have evx : valC (cs.getD x default) = valC (cs.getD i default) := by
            rw [evi]; unfold valC; rw [if_pos h5]; exact h6
          have hlt2 : mK K (cs.getD u default) < mK K (cs.getD x default) := by
            unfold mK
            rw [evx, if_pos h2, if_pos h5]
            omega
          rw [q1] at hx
          rcases List.mem_append.1 hx with h7 | h7
          · have := hle x u p1 (p2 ++ i :: b') (by rw [e1, q1]; simp) h7
            omega
          · rcases List.mem_cons.1 h7 with rfl | h7
            · omega
            · exact h3 _ (List.mem_map.2 ⟨x, h7, rfl⟩) h5
    · intro d hd
      obtain ⟨i, hi, rfl⟩ := List.mem_map.1 hd
      exact h.kind (hat i ((hmem i).1 hi).1)
theorem split_idx {α : Type} {l : List α} {p : Nat} {x : α} (h : l[p]? = some x) : l = l.take p ++ x :: l.drop (p + 1) := by
  obtain ⟨h1, h2⟩ := List.getElem?_eq_some_iff.1 h
  rw [← h2, ← List.drop_eq_getElem_cons h1, List.take_append_drop]
theorem RegH.gk_fore (h : RegH n cs) {ws : List (Int × Int)} (hr : RiteP [1] cs (aheadB cs) ws) : ¬ StrayP cs ∧ ¬ EarlyP cs ∧ ¬ TwoP cs := by
  have hat : ∀ x ∈ ws, atC cs x ∈ cs := fun x hx => by
    have := hr.rng x hx
    exact List.mem_of_getElem? (getD_some (by omega))
  have hall : ∀ l : List (Int × Int), (∀ x ∈ l, x ∈ ws) → ownD cs 0 l = l.map (ddC cs) := by
    intro l hl
    unfold ownD
    rw [List.filter_eq_self.2 fun x hx => by rw [beq_iff_eq, h.thing (hat x (hl x hx))]; rfl]
  have hreg : regB 0 (ws.map (ddC cs)) = true := by
    have h1 := hr.goes 0 (by decide)
    rw [hall ws fun x hx => hx] at h1
    have h2 : goesB 1 [0] (ws.map (ddC cs)) = true := h1
    rwa [reg_goes _ _ (by omega) (by omega) ?_] at h2
    intro d hd
    obtain ⟨x, hx, rfl⟩ := List.mem_map.1 hd
    exact h.kind (hat x hx)
  -- what a read gives
  have hread : ∀ (p : Nat) (x : Int × Int), ws[p]? = some x → (atC cs x).kind = 2 → (∀ (q : Nat) (y : Int × Int), q < p → ws[q]? = some y → (atC cs y).kind ≠ 1) ∧ x.2 = 0 ∨
      ∃ (q : Nat) (y : Int × Int), q < p ∧ ws[q]? = some y ∧ (atC cs y).kind = 1 ∧ (atC cs y).arg = x.2 ∧ ∀ (r : Nat) (z : Int × Int), q < r → r < p → ws[r]? = some z → (atC cs z).kind ≠ 1 := by
    intro p x hp hk
    have hpl := (List.getElem?_eq_some_iff.1 hp).1
    have e := split_idx hp
    rw [e, List.map_append, List.map_cons] at hreg
    have h1 := regB_at _ _ _ _ hreg (by show (atC cs x).kind ≠ 1; omega)
    have h1 : x.2 = lastF 0 ((ws.take p).map (ddC cs)) := h1
    rcases lastF_cases 0 ((ws.take p).map (ddC cs)) with ⟨h2, h3⟩ | ⟨a1, w, a2, h2, h3, h4, h5⟩
    · refine .inl ⟨fun q y hq hy hy1 => ?_, h1.trans h3⟩
      refine h2 (ddC cs y) (List.mem_map.2 ⟨y, ?_, rfl⟩) hy1
      exact List.mem_of_getElem? (i := q) (by rw [List.getElem?_take, if_pos hq]; exact hy)
    · obtain ⟨p1, r1, q1, rfl, q2⟩ := List.map_eq_append_iff.1 h2
      obtain ⟨y, p2, rfl, rfl, rfl⟩ := List.map_eq_cons_iff.1 q2
      have hlen : p1.length + (p2.length + 1) = p := by
        have := congrArg List.length q1
        rw [List.length_take, List.length_append, List.length_cons] at this
        omega
      have hg : ∀ r, r < p → ws[r]? = (p1 ++ y :: p2)[r]? := fun r hr0 => by rw [← q1, List.getElem?_take, if_pos hr0]
      refine .inr ⟨p1.length, y, by omega, ?_, h3, ?_, fun r z hr1 hr2 hz hz1 => ?_⟩
      · rw [hg _ (by omega)]; simp
      · exact (h1.trans h5).symm
      · rw [hg r hr2, List.getElem?_append_right (by omega), show r - p1.length = (r - p1.length - 1) + 1 by omega, List.getElem?_cons_succ] at hz
        exact h4 (ddC cs z) (List.mem_map.2 ⟨z, List.mem_of_getElem? hz, rfl⟩) hz1
  have hidx : ∀ i, i < cs.length → (cs.getD i default).til ≠ -1 → ∃ (p : Nat) (x : Int × Int), ws[p]? = some x ∧ x.1 = (i : Int) ∧ x.2 = (cs.getD i default).res ∧ atC cs x = cs.getD i default := by
    intro i hi hti
    obtain ⟨x, hx, e⟩ := List.mem_map.1 (hr.all i hi hti)
    obtain ⟨p, hp, rfl⟩ := List.getElem_of_mem hx
    have ea : atC cs ws[p] = cs.getD i default := by unfold atC; rw [e]; rfl
    refine ⟨p, _, List.getElem?_eq_getElem hp, e, ?_, ea⟩
    have := hr.res _ hx (by rw [ea]; exact hti)
    rw [← this, ea]
  have hord : ∀ (i j : Nat), i < cs.length → j < cs.length → aheadB cs i j = true → ∀ (p q : Nat) (x y : Int × Int), ws[p]? = some x → ws[q]? = some y → x.1 = (i : Int) → y.1 = (j : Int) → p < q := by
    intro i j hi hj hah p q x y hp hq ex ey
    obtain ⟨z, hz, ez⟩ := List.mem_map.1 (hr.ord i j hi hj hah _ _ _ (split_idx hq) ey)
    obtain ⟨r, hrl, rfl⟩ := List.getElem_of_mem hz
    have hrq : r < q := by rw [List.length_take] at hrl; omega
    have h1 : ws[r]? = some (ws.take q)[r] := by
      rw [List.getElem_take]
      exact List.getElem?_eq_getElem (by rw [List.length_take] at hrl; omega)
    have := once_at hr.once h1 hp (by rw [ez, ex])
    omega
  have hge : ∀ c ∈ cs, ∃ i, i < cs.length ∧ cs.getD i default = c := fun c hc => by
    obtain ⟨i, hi, rfl⟩ := List.getElem_of_mem hc
    exact ⟨i, hi, by rw [List.getD_eq_getElem?_getD, List.getElem?_eq_getElem hi]; rfl⟩
  -- each write of the order is the write of its value
  have hwr : ∀ (q : Nat) (y : Int × Int), ws[q]? = some y → (atC cs y).kind = 1 → ∃ j, j < cs.length ∧ y.1 = (j : Int) ∧ atC cs y = cs.getD j default := by
    intro q y hy hk
    have := hr.rng y (List.mem_of_getElem? hy)
    exact ⟨y.1.toNat, by omega, by omega, rfl⟩
  refine ⟨?_, ?_, ?_⟩
  · rintro ⟨x, hx, h1, h2, h3⟩
    obtain ⟨i, hi, rfl⟩ := hge x hx
    obtain ⟨h4, h5⟩ := isR_iff.1 h1
    obtain ⟨p, x, h6, h7, h8, h9⟩ := hidx i hi h5
    rcases hread p x h6 (by rw [h9]; exact h4) with ⟨_, h10⟩ | ⟨q, y, h10, h11, h12, h13, _⟩
    · exact h2 (by rw [← h8, h10])
    · have := h3 (atC cs y) (hat y (List.mem_of_getElem? h11))
      rw [isW_iff.2 ⟨h12, h13.trans h8⟩] at this
      cases this
  · rintro ⟨x, hx, h1, h2, c, hc, h3, h3b⟩
    obtain ⟨i, hi, rfl⟩ := hge x hx
    obtain ⟨j, hj, rfl⟩ := hge c hc
    obtain ⟨h4, h5⟩ := isR_iff.1 h1
    obtain ⟨p, x, h6, h7, h8, h9⟩ := hidx i hi h5
    rcases hread p x h6 (by rw [h9]; exact h4) with ⟨_, h10⟩ | ⟨q, y, h10, h11, h12, h13, _⟩
    · exact h2 (by rw [← h8, h10])
    · obtain ⟨k, hk, e1, e2⟩ := hwr q y h11 h12
      have : j = k := h.once j k _ _ (getD_some hj) (getD_some hk) (isW_iff.1 h3).1 (by rw [← e2]; exact h12) (by rw [← e2, h13, h8]; exact (isW_iff.1 h3).2)
      subst this
      have := hord i j hi hj (aheadB_iff.2 ⟨h5, h3b⟩) p q x y h6 h11 h7 e1
      omega
  · -- two values: the one's stand whole ahead of the other's
    rintro ⟨a, b, hab, h1, h2⟩
    -- where a call of a value stands: behind its write, and no other write between
    have hin : ∀ (v : Int) (i : Nat), i < cs.length → hasV v (cs.getD i default) = true → ((cs.getD i default).til ≠ -1 ∨ ∃ (p : Nat) (x : Int × Int), ws[p]? = some x ∧ x.1 = (i : Int)) →
        ∃ (p : Nat) (x : Int × Int), ws[p]? = some x ∧ x.1 = (i : Int) ∧ ((v = 0 ∧ ∀ (q : Nat) (y : Int × Int), q < p → ws[q]? = some y → (atC cs y).kind ≠ 1) ∨
          (v ≠ 0 ∧ ∃ (q : Nat) (y : Int × Int), q ≤ p ∧ ws[q]? = some y ∧ (atC cs y).kind = 1 ∧ (atC cs y).arg = v ∧ ∀ (r : Nat) (z : Int × Int), q < r → r ≤ p → ws[r]? = some z → (atC cs z).kind ≠ 1)) := by
      intro v i hi hv hor
      rcases hasV_iff.1 hv with h3 | ⟨h3, h4, h5⟩
      · have hv0 : v ≠ 0 := by rcases h.kind (List.mem_of_getElem? (getD_some hi)) with k | k <;> omega
        have : ∃ (p : Nat) (x : Int × Int), ws[p]? = some x ∧ x.1 = (i : Int) := by
          rcases hor with h4 | h4
          · obtain ⟨p, x, h5, h6, _⟩ := hidx i hi h4
            exact ⟨p, x, h5, h6⟩
          · exact h4
        obtain ⟨p, x, h4, h5⟩ := this
        have ea : atC cs x = cs.getD i default := by unfold atC; rw [h5]; rfl
        exact ⟨p, x, h4, h5, .inr ⟨hv0, p, x, Nat.le_refl _, h4, by rw [ea]; exact h3.1, by rw [ea]; exact h3.2, fun r z h6 h7 => by omega⟩⟩
      · obtain ⟨p, x, h6, h7, h8, h9⟩ := hidx i hi h4
        refine ⟨p, x, h6, h7, ?_⟩
        have hk : (atC cs x).kind = 2 := by rw [h9]; exact h3
        rcases hread p x h6 hk with ⟨h10, h11⟩ | ⟨q, y, h10, h11, h12, h13, h14⟩
        · exact .inl ⟨by rw [← h5, ← h8, h11], h10⟩
        · have hv0 : v ≠ 0 := by
            rcases h.kind (hat y (List.mem_of_getElem? h11)) with k | k
            · rw [← h5, ← h8, ← h13]; omega
            · omega
          refine .inr ⟨hv0, q, y, by omega, h11, h12, by rw [h13, h8, h5], fun r z hr1 hr2 hz => ?_⟩
          by_cases e : r = p
          · subst e
            rw [h6] at hz
            injection hz with hz
            subst hz
            omega
          · exact h14 r z hr1 (by omega) hz
    -- of a value one of whose calls was answered each call that has come to pass stands there
    have hst : ∀ (v : Int) (i j : Nat), i < cs.length → j < cs.length → hasV v (cs.getD i default) = true → (cs.getD i default).til ≠ -1 → hasV v (cs.getD j default) = true → ((cs.getD j default).til ≠ -1 ∨ ∃ (p : Nat) (x : Int × Int), ws[p]? = some x ∧ x.1 = (j : Int)) := by
      intro v i j hi hj hvi hti hvj
      rcases hasV_iff.1 hvj with h3 | h3
      · right
        obtain ⟨p, x, h4, h5, h6 | ⟨h6, q, y, h7, h8, h9, h10, _⟩⟩ := hin v i hi hvi (.inl hti)
        · rcases h.kind (List.mem_of_getElem? (getD_some hj)) with k | k <;> omega
        · obtain ⟨k, hk, e1, e2⟩ := hwr q y h8 h9
          have : j = k := h.once j k _ _ (getD_some hj) (getD_some hk) h3.1 (by rw [← e2]; exact h9) (by rw [← e2, h10]; exact h3.2)
          subst this
          exact ⟨q, y, h8, e1⟩
      · exact .inl h3.2.1
    -- a call of a answered ahead of one of b's
    have hbef : ∀ a b : Int, a ≠ b → BefV cs a b → BefV cs b a → (a = 0 ∧ ∃ j, j < cs.length ∧ hasV b (cs.getD j default) = true) ∨ (a ≠ 0 ∧ ∃ i j, i < cs.length ∧ j < cs.length ∧ hasV a (cs.getD i default) = true ∧ hasV b (cs.getD j default) = true ∧ (cs.getD i default).til ≠ -1 ∧ aheadB cs i j = true) := by
      intro a b hab h1 h2
      obtain ⟨y, hy, h3, h4⟩ := h1
      obtain ⟨j, hj, rfl⟩ := hge y hy
      by_cases ha : a = 0
      · exact .inl ⟨ha, j, hj, h3⟩
      · obtain ⟨x, hx, h5, h6, h7⟩ := h4.resolve_left ha
        obtain ⟨i, hi, rfl⟩ := hge x hx
        exact .inr ⟨ha, i, j, hi, hj, h5, h3, h6, aheadB_iff.2 ⟨h6, h7⟩⟩
    -- two values, both written
    have hboth : ∀ a b : Int, a ≠ 0 → b ≠ 0 → a ≠ b → BefV cs a b → BefV cs b a → False := by
      intro a b ha0 hb0 hab h1 h2
      obtain ⟨i, j, hi, hj, vi, vj, ti, aij⟩ := ((hbef a b hab h1 h2).resolve_left (fun h => ha0 h.1)).2
      obtain ⟨k, m, hk, hm, vk, vm, tk, akm⟩ := ((hbef b a (Ne.symm hab) h2 h1).resolve_left (fun h => hb0 h.1)).2
      obtain ⟨pi, xi, i1, i2, i3⟩ := hin a i hi vi (.inl ti)
      obtain ⟨pj, xj, j1, j2, j3⟩ := hin b j hj vj (hst b k j hk hj vk tk vj)
      obtain ⟨pk, xk, k1, k2, k3⟩ := hin b k hk vk (.inl tk)
      obtain ⟨pm, xm, m1, m2, m3⟩ := hin a m hm vm (hst a i m hi hm vi ti vm)
      have o1 := hord i j hi hj aij pi pj xi xj i1 j1 i2 j2
      have o2 := hord k m hk hm akm pk pm xk xm k1 m1 k2 m2
      obtain ⟨_, qi, yi, i4, i5, i6, i7, i8⟩ := i3.resolve_left (fun h => ha0 h.1)
      obtain ⟨_, qj, yj, j4, j5, j6, j7, j8⟩ := j3.resolve_left (fun h => hb0 h.1)
      obtain ⟨_, qk, yk, k4, k5, k6, k7, k8⟩ := k3.resolve_left (fun h => hb0 h.1)
      obtain ⟨_, qm, ym, m4, m5, m6, m7, m8⟩ := m3.resolve_left (fun h => ha0 h.1)
      have same : ∀ (q r : Nat) (y z : Int × Int), ws[q]? = some y → ws[r]? = some z → (atC cs y).kind = 1 → (atC cs z).kind = 1 → (atC cs y).arg = (atC cs z).arg → q = r := by
        intro q r y z hy hz ky kz e
        obtain ⟨u, hu, u1, u2⟩ := hwr q y hy ky
        obtain ⟨v, hv, v1, v2⟩ := hwr r z hz kz
        have : u = v := h.once u v _ _ (getD_some hu) (getD_some hv) (by rw [← u2]; exact ky) (by rw [← v2]; exact kz) (by rw [← u2, ← v2]; exact e)
        subst this
        exact once_at hr.once hy hz (by omega)
      have e1 : qi = qm := same qi qm yi ym i5 m5 i6 m6 (by rw [i7, m7])
      have e2 : qj = qk := same qj qk yj yk j5 k5 j6 k6 (by rw [j7, k7])
      subst e1 e2
      have hne : qi ≠ qj := fun e => by
        subst e
        rw [i5] at j5
        injection j5 with j5
        subst j5
        exact hab (by rw [← i7, j7])
      by_cases hlt : qi < qj
      · have : pm < qj := by
          apply Classical.byContradiction
          intro hn
          exact m8 qj yj hlt (by omega) j5 j6
        omega
      · have : pj < qi := by
          apply Classical.byContradiction
          intro hn
          exact j8 qi yi (by omega) (by omega) i5 i6
        omega
    -- 0 and a value that is written
    have hzero : ∀ b : Int, b ≠ 0 → BefV cs 0 b → BefV cs b 0 → False := by
      intro b hb0 h1 h2
      obtain ⟨k, m, hk, hm, vk, vm, tk, akm⟩ := ((hbef b 0 hb0 h2 h1).resolve_left (fun h => hb0 h.1)).2
      have tm : (cs.getD m default).til ≠ -1 := by
        rcases hasV_iff.1 vm with h3 | h3
        · rcases h.kind (List.mem_of_getElem? (getD_some hm)) with k | k <;> omega
        · exact h3.2.1
      obtain ⟨pk, xk, k1, k2, k3⟩ := hin b k hk vk (.inl tk)
      obtain ⟨pm, xm, m1, m2, m3⟩ := hin 0 m hm vm (.inl tm)
      have o2 := hord k m hk hm akm pk pm xk xm k1 m1 k2 m2
      obtain ⟨_, qk, yk, k4, k5, k6, k7, k8⟩ := k3.resolve_left (fun h => hb0 h.1)
      obtain ⟨_, m4⟩ := m3.resolve_right (fun h => h.1 rfl)
      exact m4 qk yk (by omega) k5 k6
    by_cases ha0 : a = 0
    · subst ha0
      exact hzero b (Ne.symm hab) h1 h2
    · by_cases hb0 : b = 0
      · subst hb0
        exact hzero a hab h2 h1
      · exact hboth a b ha0 hb0 hab h1 h2
/-- **GIBBONS, KORACH.** -/
theorem RegH.gk (h : RegH n cs) (hres : ∀ c ∈ cs, c.kind = 1 → c.res = 0) : (badZ cs).kind = 0 ↔ ∃ ws, RiteP [1] cs (aheadB cs) ws := by
  rw [h.bad_iff]
  exact ⟨fun h1 => h.gk_back hres h1.1 h1.2.1 h1.2.2, fun ⟨_, h1⟩ => h.gk_fore h1⟩
end
end Go.Proofs.YtphhbojdolhieaaGreatDoor
