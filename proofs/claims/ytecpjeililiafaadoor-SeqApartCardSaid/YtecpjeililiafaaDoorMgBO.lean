/-
  Joined by a program out of: CalmPure.
-/
import Derived.Test.YtecpjeililiafaaDoorMgAZ

/-
  Plain: places at which nobody waits; how many stand ahead of each call.
-/
namespace Go.Proofs.YtecpjeililiafaaDoor
open Go.RowKit
set_option maxRecDepth 20000

/-- At place t somebody has called, and nobody waits. -/
def Quiet (cs : List Cl) (t : Int) : Prop := (∃ y ∈ cs, y.frm ≤ t) ∧ ∀ y ∈ cs, y.frm ≤ t → y.til ≠ -1 ∧ y.til ≤ t
def quietB (cs : List Cl) (t : Int) : Bool := (cs.any fun y => decide (y.frm ≤ t)) && (cs.all fun y => decide (y.frm ≤ t → y.til ≠ -1 ∧ y.til ≤ t))
theorem quietB_iff {cs : List Cl} {t : Int} : quietB cs t = true ↔ Quiet cs t := by
  unfold quietB Quiet
  simp only [Bool.and_eq_true, List.any_eq_true, List.all_eq_true, decide_eq_true_eq]
/-- How many of the first n places are so. -/
def quietN (cs : List Cl) (n : Nat) : Nat := (List.range n).countP fun (t : Nat) => quietB cs (t : Int)
def openN (cs : List Cl) : Nat := cs.countP fun y => y.til == -1
/-- The calm of a call. -/
def epochC (cs : List Cl) (c : Cl) : Int := (quietN cs c.frm.toNat : Nat)
/-- What package seq counts. -/
def calmF : Int → Int → List Ev → List Int
  | _, _, [] => []
  | p, q, x :: r => if x.kind = 0 then (if q - 1 = 0 then calmF (p + 1) (q - 1) r else calmF p (q - 1) r) else p :: calmF p (q + 1) r
def calmsL (l : List Ev) : List Int := calmF 0 0 l
theorem quiet_grow {m : Nat} {d c : List Cl} (h : Grow m d c) {t : Int} (ht : t < m) : quietB c t = quietB d t := by
  rw [Bool.eq_iff_iff, quietB_iff, quietB_iff]
  have fwd : ∀ i y, c[i]? = some y → y.frm ≤ t → ∃ x, d[i]? = some x ∧ x = before_ m y := fun i y hy hf => by
    have hlt : i < d.length := by
      apply Classical.byContradiction
      intro hn
      have := h.new i y (by omega) hy
      omega
    exact ⟨d[i], List.getElem?_eq_getElem hlt, h.same i _ y (List.getElem?_eq_getElem hlt) hy⟩
  have bwd : ∀ (i : Nat) x, d[i]? = some x → ∃ y, c[i]? = some y ∧ x = before_ m y := fun i x hx => by
    have hlt := (List.getElem?_eq_some_iff.1 hx).1
    have hl := h.len
    exact ⟨c[i], List.getElem?_eq_getElem (by omega), h.same i x _ hx (List.getElem?_eq_getElem (by omega))⟩
  have hfrm : ∀ y, (before_ m y).frm = y.frm := fun y => by unfold before_; split <;> rfl
  have htil : ∀ y, (before_ m y).til = if (m : Int) ≤ y.til then -1 else y.til := fun y => by unfold before_; split <;> rfl
  constructor
  · rintro ⟨⟨y, hy, hf⟩, h2⟩
    obtain ⟨i, hi⟩ := List.mem_iff_getElem?.1 hy
    obtain ⟨x, hx, e⟩ := fwd i y hi hf
    refine ⟨⟨x, List.mem_of_getElem? hx, by rw [e, hfrm]; exact hf⟩, fun x hx hf => ?_⟩
    obtain ⟨i, hi⟩ := List.mem_iff_getElem?.1 hx
    obtain ⟨y, hy, e⟩ := bwd i x hi
    rw [e, hfrm] at hf
    have := h2 y (List.mem_of_getElem? hy) hf
    rw [e, htil, if_neg (by omega)]
    exact this
  · rintro ⟨⟨x, hx, hf⟩, h2⟩
    obtain ⟨i, hi⟩ := List.mem_iff_getElem?.1 hx
    obtain ⟨y, hy, e⟩ := bwd i x hi
    rw [e, hfrm] at hf
    refine ⟨⟨y, List.mem_of_getElem? hy, hf⟩, fun y hy hf => ?_⟩
    obtain ⟨i, hi⟩ := List.mem_iff_getElem?.1 hy
    obtain ⟨x, hx, e⟩ := fwd i y hi hf
    have := h2 x (List.mem_of_getElem? hx) (by rw [e, hfrm]; exact hf)
    rw [e, htil] at this
    split at this
    · exact absurd rfl this.1
    · exact this
theorem quietN_grow {m : Nat} {d c : List Cl} (h : Grow m d c) {n : Nat} (hn : n ≤ m) : quietN c n = quietN d n := by
  unfold quietN
  apply List.countP_congr
  intro t ht
  have := List.mem_range.1 ht
  rw [quiet_grow h (by omega)]
theorem quietN_succ (cs : List Cl) (n : Nat) : quietN cs (n + 1) = quietN cs n + if quietB cs (n : Int) = true then 1 else 0 := by
  unfold quietN
  rw [List.range_succ, List.countP_append, List.countP_cons, List.countP_nil]
  split <;> rfl
theorem step_grow {ts : List Int} {n : Nat} {cs cs' : List Cl} {x : Ev} (ht : Tidy n cs) (hs : step ts n cs x = .inr cs') : Grow n cs cs' := (Grow.refl ht).step (Nat.le_refl _) ht hs
theorem openN_zero {cs : List Cl} : openN cs = 0 ↔ ∀ y ∈ cs, y.til ≠ -1 := by
  unfold openN
  rw [List.countP_eq_zero]
  constructor
  · intro h y hy e
    exact h y hy (by rw [beq_iff_eq]; exact e)
  · intro h y hy e
    exact h y hy (by rw [beq_iff_eq] at e; exact e)
theorem openN_set {cs : List Cl} {i : Nat} {c : Cl} (hi : i < cs.length) (h1 : (cs.getD i default).til = -1) (h2 : c.til ≠ -1) : openN cs = openN (cs.set i c) + 1 := by
  induction cs generalizing i with
  | nil => simp at hi
  | cons a r ih =>
    unfold openN at ih ⊢
    cases i with
    | zero =>
      simp at h1
      rw [List.set_cons_zero, List.countP_cons, List.countP_cons, if_pos (by rw [beq_iff_eq]; exact h1), if_neg (by rw [beq_iff_eq]; exact h2)]
    | succ i =>
      rw [List.set_cons_succ, List.countP_cons, List.countP_cons, ih (by simpa using hi) (by simpa using h1)]
      omega
/-- What package seq counts: of each call how many quiet places stand ahead of it. -/
theorem calm_run {ts : List Int} : ∀ (l : List Ev) (n : Nat) (cs : List Cl), Tidy n cs → (run ts n cs l).2.2 = 0 →
    calmF (quietN cs n : Nat) (openN cs : Nat) l = ((run ts n cs l).1.drop cs.length).map (epochC (run ts n cs l).1)
  | [], n, cs, ht, h0 => by
    rw [calmF, run]
    simp
  | x :: r, n, cs, ht, h0 => by
    rw [run] at h0 ⊢
    cases hs : step ts n cs x with
    | inl e => rw [hs] at h0; exact absurd h0 (step_err hs)
    | inr cs' =>
      rw [hs] at h0
      simp only at h0 ⊢
      have ht' := step_tidy ht hs
      have hg := step_grow ht hs
      have ih := calm_run r (n + 1) cs' ht' h0
      have hG := Grow.run r (n + 1) cs' (Grow.refl ht') (Nat.le_refl _) ht' h0
      have hq := quietN_grow hg (Nat.le_refl n)
      rw [quietN_succ, hq] at ih
      rcases step_ways hs with ⟨hk, i, hi, _, _, ho, rfl, _⟩ | ⟨hk, _, rfl, _⟩
      · rw [calmF, if_pos hk]
        have hop := openN_set (c := { cs.getD i default with res := x.val, til := (n : Int) }) hi ho (by show (n : Int) ≠ -1; omega)
        have hqn : quietB (cs.set i { cs.getD i default with res := x.val, til := (n : Int) }) (n : Int) = true ↔ openN (cs.set i { cs.getD i default with res := x.val, til := (n : Int) }) = 0 := by
          rw [quietB_iff, openN_zero]
          constructor
          · rintro ⟨_, h2⟩ y hy
            exact (h2 y hy (by have := (ht' y hy).2.1; omega)).1
          · intro h2
            refine ⟨⟨_, List.mem_set hi _, ?_⟩, fun y hy _ => ⟨h2 y hy, by have := (ht' y hy).1; omega⟩⟩
            have hm : cs.getD i default ∈ cs := by rw [List.getD_eq_getElem?_getD, List.getElem?_eq_getElem hi]; exact List.getElem_mem _
            have := (ht _ hm).2.1
            show (cs.getD i default).frm ≤ (n : Int)
            omega
        rw [List.length_set] at ih
        by_cases h0' : openN (cs.set i { cs.getD i default with res := x.val, til := (n : Int) }) = 0
        · rw [if_pos (hqn.2 h0')] at ih
          rw [if_pos (by omega), ← ih, hop, h0']
          rfl
        · rw [if_neg (fun h => h0' (hqn.1 h))] at ih
          rw [if_neg (by omega), ← ih, hop, Nat.add_zero]
          congr 1
          omega
      · rw [calmF, if_neg hk]
        have hnq : ¬ quietB (cs ++ [⟨x.who, x.thing, x.kind, x.val, 0, (n : Int), -1⟩]) (n : Int) = true := by
          rw [quietB_iff]
          rintro ⟨_, h2⟩
          exact (h2 _ (List.mem_append.2 (.inr (List.mem_singleton.2 rfl))) (Int.le_refl _)).1 rfl
        have hop : openN (cs ++ [⟨x.who, x.thing, x.kind, x.val, 0, (n : Int), -1⟩]) = openN cs + 1 := by
          unfold openN
          rw [List.countP_append, List.countP_cons, List.countP_nil]
          rfl
        rw [if_neg hnq, hop, List.length_append, Nat.add_zero] at ih
        generalize hfin : (run ts (n + 1) (cs ++ [⟨x.who, x.thing, x.kind, x.val, 0, (n : Int), -1⟩]) r).1 = fin at ih hG ⊢
        have hl := hG.len
        rw [List.length_append] at hl
        simp only [List.length_cons, List.length_nil, Nat.zero_add] at hl ih
        rw [List.drop_eq_getElem_cons (by omega : cs.length < fin.length), List.map_cons, ← ih]
        congr 1
        have hs2 := hG.same cs.length _ _ (by rw [List.getElem?_append_right (Nat.le_refl _), Nat.sub_self]; rfl) (List.getElem?_eq_getElem (by omega : cs.length < fin.length))
        have hfrm : (fin[cs.length]'(by omega)).frm = (n : Int) := by
          have h3 := congrArg Cl.frm hs2
          unfold before_ at h3
          split at h3 <;> exact h3.symm
        unfold epochC
        rw [hfrm, Int.toNat_natCast, ← hq, quietN_grow hG (by omega)]
theorem calms_of {ts : List Int} {l : List Ev} (h : (callsOf ts l).2.2 = 0) : calmsL l = (callsOf ts l).1.map (epochC (callsOf ts l).1) := by
  have e := (calls_zero h).2.2
  rw [e] at h ⊢
  have := calm_run l 0 [] (fun c hc => by simp at hc) h
  simpa [calmsL, quietN, openN] using this

/-- Who has the lesser calm. -/
def calmB (cs : List Cl) (i j : Nat) : Bool := decide (epochC cs (cs.getD i default) < epochC cs (cs.getD j default))
/-- One's own calls, as they came. -/
def ownB (cs : List Cl) (i j : Nat) : Bool := decide (i < j ∧ (cs.getD i default).who = (cs.getD j default).who)
theorem count_more {p : Nat → Bool} (a : Nat) : ∀ b, (List.range a).countP p < (List.range b).countP p → ∃ t, a ≤ t ∧ t < b ∧ p t = true
  | 0, h => by simp at h
  | b + 1, h => by
    by_cases hb : b + 1 ≤ a
    · obtain ⟨d, rfl⟩ : ∃ d, a = b + 1 + d := ⟨a - (b + 1), by omega⟩
      rw [List.range_add, List.countP_append] at h
      omega
    · rw [List.range_succ, List.countP_append, List.countP_cons, List.countP_nil] at h
      by_cases hp : p b = true
      · exact ⟨b, by omega, by omega, hp⟩
      · rw [if_neg hp] at h
        obtain ⟨t, h1, h2, h3⟩ := count_more a b (by omega)
        exact ⟨t, h1, by omega, h3⟩
/-- Who has the lesser calm stands ahead. -/
theorem calm_ahead {n : Nat} {cs : List Cl} (ht : Tidy n cs) {i j : Nat} (hi : i < cs.length) (hj : j < cs.length) (h : calmB cs i j = true) : aheadB cs i j = true := by
  have mi := List.mem_of_getElem? (getD_some hi)
  have mj := List.mem_of_getElem? (getD_some hj)
  have h1 := (ht _ mi).2.2.1
  have h2 := (ht _ mj).2.2.1
  unfold calmB epochC quietN at h
  rw [decide_eq_true_iff] at h
  obtain ⟨t, a1, a2, a3⟩ := count_more _ _ (Int.ofNat_lt.1 h)
  have := (quietB_iff.1 a3).2 _ mi (by omega)
  unfold aheadB
  rw [decide_eq_true_iff]
  exact ⟨this.1, by omega⟩
theorem own_ahead {n : Nat} {cs : List Cl} (ho : Orderly n cs) {i j : Nat} (hi : i < cs.length) (hj : j < cs.length) (h : ownB cs i j = true) : aheadB cs i j = true := by
  unfold ownB at h
  rw [decide_eq_true_iff] at h
  unfold aheadB
  rw [decide_eq_true_iff]
  exact ho.own i j _ _ h.1 (getD_some hi) (getD_some hj) h.2
theorem riteP_weak {ts : List Int} {cs : List Cl} {p q : Nat → Nat → Bool} {ws : List (Int × Int)} (hpq : ∀ i j, i < cs.length → j < cs.length → q i j = true → p i j = true) (h : RiteP ts cs p ws) : RiteP ts cs q ws :=
  ⟨h.rng, h.once, h.res, h.all, fun i j hi hj hq => h.ord i j hi hj (hpq i j hi hj hq), h.goes⟩

/-! ### Calls stand as they came -/
def Inc (cs : List Cl) : Prop := ∀ i j, i < j → j < cs.length → (cs.getD i default).frm < (cs.getD j default).frm
theorem Inc.step {ts : List Int} {n : Nat} {cs cs' : List Cl} {x : Ev} (ht : Tidy n cs) (h : Inc cs) (hs : step ts n cs x = .inr cs') : Inc cs' := by
  intro i j hij hj
  rcases step_ways hs with ⟨hk, k, hk2, _, _, ho, rfl, _⟩ | ⟨hk, _, rfl, _⟩
  · rw [List.length_set] at hj
    have := h i j hij hj
    have key : ∀ m, ((cs.set k { cs.getD k default with res := x.val, til := (n : Int) }).getD m default).frm = (cs.getD m default).frm := fun m => by
      rw [getD_set hk2]
      split
      · rename_i e; subst e; rfl
      · rfl
    rw [key, key]
    exact this
  · rw [List.length_append] at hj
    simp only [List.length_cons, List.length_nil, Nat.zero_add] at hj
    rw [getD_snoc, getD_snoc, if_pos (by omega)]
    by_cases e : j < cs.length
    · rw [if_pos e]
      exact h i j hij e
    · rw [if_neg e, if_pos (by omega)]
      have := (ht _ (List.mem_of_getElem? (getD_some (cs := cs) (i := i) (by omega)))).2.1
      exact this
theorem Inc.run {ts : List Int} : ∀ (l : List Ev) (n : Nat) (cs : List Cl), Tidy n cs → Inc cs → (run ts n cs l).2.2 = 0 → Inc (run ts n cs l).1
  | [], n, cs, _, h, _ => by rw [Go.Proofs.YtecpjeililiafaaDoor.run]; exact h
  | x :: r, n, cs, ht, h, h0 => by
    rw [Go.Proofs.YtecpjeililiafaaDoor.run] at h0 ⊢
    cases hs : Go.Proofs.YtecpjeililiafaaDoor.step ts n cs x with
    | inl e => rw [hs] at h0; exact absurd h0 (step_err hs)
    | inr cs' =>
      rw [hs] at h0
      simp only at h0 ⊢
      exact Inc.run r (n + 1) cs' (step_tidy ht hs) (h.step ht hs) h0
theorem calls_inc {ts : List Int} {l : List Ev} (h : (callsOf ts l).2.2 = 0) : Inc (callsOf ts l).1 := by
  have e := (calls_zero h).2.2
  rw [e] at h ⊢
  exact Inc.run l 0 [] (fun c hc => by simp at hc) (fun i j _ hj => by simp at hj) h
theorem quietN_mono (cs : List Cl) {a b : Nat} (h : a ≤ b) : quietN cs a ≤ quietN cs b := by
  obtain ⟨d, rfl⟩ : ∃ d, b = a + d := ⟨b - a, by omega⟩
  unfold quietN
  rw [List.range_add, List.countP_append]
  omega
theorem epoch_mono {cs : List Cl} (hi : Inc cs) {i j : Nat} (hij : i ≤ j) (hj : j < cs.length) : epochC cs (cs.getD i default) ≤ epochC cs (cs.getD j default) := by
  unfold epochC
  refine Int.ofNat_le.2 (quietN_mono cs ?_)
  by_cases e : i = j
  · subst e; exact Nat.le_refl _
  · have := hi i j (by omega) hj
    omega
/-- Where the calm of each is greater than the one's before, it tells who is ahead of whom. -/
theorem calm_strict {n : Nat} {cs : List Cl} (ho : Orderly n cs) (hi : Inc cs) (h : ∀ i, 0 < i → i < cs.length → epochC cs (cs.getD (i - 1) default) < epochC cs (cs.getD i default)) {i j : Nat} (h1 : i < cs.length) (h2 : j < cs.length) : aheadB cs i j = calmB cs i j := by
  rw [Bool.eq_iff_iff]
  refine ⟨fun ha => ?_, calm_ahead ho.tidy h1 h2⟩
  have hij : i < j := by
    apply Classical.byContradiction
    intro hn
    unfold aheadB at ha
    rw [decide_eq_true_iff] at ha
    have he := ho.ends _ (List.mem_of_getElem? (getD_some h1))
    by_cases e : i = j
    · subst e; omega
    · have := hi j i (by omega) h1
      omega
  unfold calmB
  rw [decide_eq_true_iff]
  have a1 := epoch_mono hi (i := i) (j := j - 1) (by omega) (by omega)
  have a2 := h j (by omega) h2
  omega
end Go.Proofs.YtecpjeililiafaaDoor
