/-
  Joined by a program out of: SubCalls, Unlike, BagGoes.
-/
import Derived.Test.YtfgangkpebkicaaDoorMgAQ
import Derived.Test.YtfgangkpebkicaaDoorMgAP
import Derived.Test.YtfgangkpebkicaaDoorMgAM
import Derived.Test.YtfgangkpebkicaaDoorMgAR

/-
  Plain: a part of a history, some of its calls whole, tells these calls, their times counted anew.
-/
namespace Go.Proofs.YtfgangkpebkicaaDoor
open Go.RowKit
set_option maxRecDepth 20000
/-- The events whose numbers are kept, from number n on. -/
def subL (k : Int → Bool) : Nat → List Ev → List Ev
  | _, [] => []
  | n, x :: l => if k n = true then x :: subL k (n + 1) l else subL k (n + 1) l
/-- A call, its times counted anew. -/
def rtC (r : Int → Int) (c : Cl) : Cl := { c with frm := r c.frm, til := if c.til = -1 then -1 else r c.til }
/-- The calls that are kept. -/
def sbt (k : Int → Bool) (r : Int → Int) (cs : List Cl) : List Cl := (cs.filter fun c => k c.frm).map (rtC r)
theorem sbt_append (k : Int → Bool) (r : Int → Int) (a b : List Cl) : sbt k r (a ++ b) = sbt k r a ++ sbt k r b := by
  unfold sbt
  rw [List.filter_append, List.map_append]
theorem sbt_yes {k : Int → Bool} {r : Int → Int} {c : Cl} (h : k c.frm = true) (l : List Cl) : sbt k r (c :: l) = rtC r c :: sbt k r l := by
  unfold sbt
  rw [List.filter_cons, if_pos h, List.map_cons]
theorem sbt_no {k : Int → Bool} {r : Int → Int} {c : Cl} (h : k c.frm = false) (l : List Cl) : sbt k r (c :: l) = sbt k r l := by
  unfold sbt
  rw [List.filter_cons, if_neg (by rw [h]; decide)]
theorem sbt_mem {k : Int → Bool} {r : Int → Int} {cs : List Cl} {d : Cl} : d ∈ sbt k r cs ↔ ∃ c ∈ cs, k c.frm = true ∧ rtC r c = d := by
  unfold sbt
  rw [List.mem_map]
  constructor
  · rintro ⟨c, h, e⟩
    rw [List.mem_filter] at h
    exact ⟨c, h.1, h.2, e⟩
  · rintro ⟨c, h1, h2, e⟩
    exact ⟨c, by rw [List.mem_filter]; exact ⟨h1, h2⟩, e⟩
theorem rtC_til {r : Int → Int} (hr : ∀ z, 0 ≤ r z) (c : Cl) : (rtC r c).til = -1 ↔ c.til = -1 := by
  unfold rtC
  simp only
  by_cases h : c.til = -1
  · rw [if_pos h]; exact ⟨fun _ => h, fun _ => rfl⟩
  · rw [if_neg h]
    have := hr c.til
    exact ⟨fun h2 => by omega, fun h2 => absurd h2 h⟩
theorem oneOpen_pair {cs : List Cl} : OneOpen cs ↔ cs.Pairwise fun c d => ¬ (c.who = d.who ∧ c.til = -1 ∧ d.til = -1) := by
  rw [List.pairwise_iff_getElem]
  constructor
  · intro h i j hi hj hij hh
    have := h i j _ _ (List.getElem?_eq_getElem hi) (List.getElem?_eq_getElem hj) hh.1 hh.2.1 hh.2.2
    omega
  · intro h i j c d hc hd hw h1 h2
    obtain ⟨hi, rfl⟩ := List.getElem?_eq_some_iff.1 hc
    obtain ⟨hj, rfl⟩ := List.getElem?_eq_some_iff.1 hd
    rcases Nat.lt_trichotomy i j with hlt | heq | hgt
    · exact absurd ⟨hw, h1, h2⟩ (h i j hi hj hlt)
    · exact heq
    · exact absurd ⟨hw.symm, h2, h1⟩ (h j i hj hi hgt)
theorem OneOpen.sbt {k : Int → Bool} {r : Int → Int} (hr : ∀ z, 0 ≤ r z) {cs : List Cl} (h : OneOpen cs) : OneOpen (sbt k r cs) := by
  rw [oneOpen_pair] at h ⊢
  unfold Proofs.YtfgangkpebkicaaDoor.sbt
  rw [List.pairwise_map]
  refine (h.filter _).imp fun {c d} hcd hh => hcd ⟨hh.1, (rtC_til hr c).1 hh.2.1, (rtC_til hr d).1 hh.2.2⟩
/-- One more event, seen by what is kept. -/
theorem step_sbt {ts : List Int} {n m : Nat} {cs cs' : List Cl} {x : Ev} {k : Int → Bool} {r : Int → Int} (hr : ∀ z, 0 ≤ r z) (h1 : OneOpen cs) (hs : step ts n cs x = .inr cs')
    (hk : ∀ c ∈ cs', c.til = (n : Int) → k c.frm = k n) :
    (k n = true → r n = m → step ts m (sbt k r cs) x = .inr (sbt k r cs')) ∧ (k n = false → sbt k r cs' = sbt k r cs) := by
  unfold step at hs ⊢
  split at hs
  · cases hs
  rename_i hx
  rw [if_neg hx]
  split at hs
  · rename_i hk0
    rw [if_pos hk0]
    unfold respS at hs ⊢
    split at hs
    · cases hs
    rename_i ho
    split at hs
    · cases hs
    rename_i hg
    obtain ⟨c, e1, e2, e3, e4⟩ := openOf_at (cs := cs) (who := x.who) (by omega)
    generalize (openOf cs x.who).toNat = i at *
    have hgd : cs.getD i default = c := by rw [List.getD_eq_getElem?_getD, e1]; rfl
    rw [hgd] at hs hg
    injection hs with hs
    have hth : c.thing = x.thing := Classical.byContradiction fun h => hg (.inl h)
    have hgi : ¬ givesB c.kind x.val = false := fun h => hg (.inr h)
    have hsp : cs = cs.take i ++ c :: cs.drop (i + 1) := by
      have h2 : cs.drop i = c :: cs.drop (i + 1) := by rw [List.drop_eq_getElem_cons e4, (List.getElem?_eq_some_iff.1 e1).2]
      rw [← h2, List.take_append_drop]
    have hset : cs' = cs.take i ++ { c with res := x.val, til := (n : Int) } :: cs.drop (i + 1) := by
      rw [← hs, List.set_eq_take_append_cons_drop, if_pos e4]
    have hkc : k c.frm = k n := hk { c with res := x.val, til := (n : Int) } (by rw [hset]; simp) rfl
    constructor
    · intro hq hrn
      rw [hq] at hkc
      have hp1 : sbt k r cs = sbt k r (cs.take i) ++ rtC r c :: sbt k r (cs.drop (i + 1)) := by
        conv => lhs; rw [hsp]
        rw [sbt_append, sbt_yes hkc]
      have hp2 : sbt k r cs' = sbt k r (cs.take i) ++ rtC r { c with res := x.val, til := (n : Int) } :: sbt k r (cs.drop (i + 1)) := by
        rw [hset, sbt_append, sbt_yes (by show k c.frm = true; exact hkc)]
      have hat : (sbt k r cs)[(sbt k r (cs.take i)).length]? = some (rtC r c) := by rw [hp1]; simp
      have hoo := openOf_eq (OneOpen.sbt (k := k) hr h1) hat (who := x.who) e2 ((rtC_til hr c).2 e3)
      rw [hoo, if_neg (by omega), Int.toNat_natCast, List.getD_eq_getElem?_getD, hat]
      simp only [Option.getD_some]
      rw [if_neg (by
        rintro (h | h)
        · exact h (by show c.thing = x.thing; exact hth)
        · exact hgi h)]
      rw [hp2, hp1]
      congr 1
      rw [List.set_append, if_neg (Nat.lt_irrefl _), Nat.sub_self, List.set_cons_zero]
      congr 2
      unfold rtC
      simp only
      rw [if_neg (by omega : ¬ (n : Int) = -1), hrn]
    · intro hq
      rw [hq] at hkc
      rw [hset]
      conv => rhs; rw [hsp]
      rw [sbt_append, sbt_append, sbt_no (by show k c.frm = false; exact hkc), sbt_no hkc]
  · rename_i hk0
    rw [if_neg hk0]
    unfold invS at hs ⊢
    split at hs
    · cases hs
    rename_i hf
    rw [if_neg hf]
    split at hs
    · cases hs
    rename_i ho
    injection hs with hs
    constructor
    · intro hq hrn
      rw [if_neg (fun h0 => by
        obtain ⟨d, d1, d2, d3, _⟩ := openOf_at h0
        obtain ⟨c, c1, c2, c3⟩ := sbt_mem.1 (List.mem_of_getElem? d1)
        obtain ⟨j, c4⟩ := List.getElem?_of_mem c1
        exact openOf_none (by omega : openOf cs x.who < 0) c4 (by rw [← d2, ← c3]; rfl) ((rtC_til hr c).1 (by rw [c3]; exact d3)))]
      rw [← hs, sbt_append, sbt_yes (by exact hq)]
      unfold rtC sbt
      simp only [if_true, List.filter_nil, List.map_nil]
      rw [hrn]
    · intro hq
      rw [← hs, sbt_append, sbt_no (by exact hq)]
      exact List.append_nil _
/-- What was answered stays. -/
theorem step_closed {ts : List Int} {n : Nat} {cs cs' : List Cl} {x : Ev} (hs : step ts n cs x = .inr cs') {c : Cl} (hc : c ∈ cs) (ht : c.til ≠ -1) : c ∈ cs' := by
  unfold step respS invS at hs
  repeat' split at hs
  all_goals (try cases hs)
  · obtain ⟨e, e1, e2, e3, e4⟩ := openOf_at (cs := cs) (who := x.who) (by omega)
    obtain ⟨i, hi⟩ := List.getElem?_of_mem hc
    have hne : (openOf cs x.who).toNat ≠ i := fun h => by
      rw [h, hi] at e1
      injection e1 with e1
      subst e1
      exact ht e3
    refine List.mem_of_getElem? (i := i) ?_
    rw [List.getElem?_set_ne hne]
    exact hi
  · exact List.mem_append_left _ hc
theorem run_closed {ts : List Int} : ∀ (l : List Ev) (n : Nat) (cs : List Cl), (run ts n cs l).2.2 = 0 → ∀ c ∈ cs, c.til ≠ -1 → c ∈ (run ts n cs l).1
  | [], _, _, _, c, hc, _ => hc
  | x :: l, n, cs, h0, c, hc, ht => by
    rw [run] at h0 ⊢
    cases hs : step ts n cs x with
    | inl e => rw [hs] at h0; exact absurd h0 (step_err hs)
    | inr cs' =>
      rw [hs] at h0
      exact run_closed l (n + 1) cs' h0 c (step_closed hs hc ht) ht
/-- All events, seen by what is kept. -/
theorem run_sbt {ts : List Int} {k : Int → Bool} {r : Int → Int} (hr : ∀ z, 0 ≤ r z) : ∀ (l : List Ev) (n m : Nat) (cs : List Cl), OneOpen cs → (∀ j, j ≤ l.length → r ((n + j : Nat) : Int) = ((m + (subL k n (l.take j)).length : Nat) : Int)) →
    (run ts n cs l).2.2 = 0 → (∀ c ∈ (run ts n cs l).1, c.til ≠ -1 → k c.til = k c.frm) → run ts m (sbt k r cs) (subL k n l) = (sbt k r (run ts n cs l).1, 0, 0)
  | [], n, m, cs, _, _, _, _ => rfl
  | x :: l, n, m, cs, h1, hj, h0, hfin => by
    have hn := hj 0 (Nat.zero_le _)
    rw [List.take_zero] at hn
    have hn2 : r (n : Int) = (m : Int) := by simpa [subL] using hn
    rw [run] at h0 hfin ⊢
    rcases step_K (ts := ts) (n := n) (x := x) h1 with ⟨e, he, _⟩ | ⟨cs', he, h2, _⟩
    · rw [he] at h0
      exact absurd h0 (step_err he)
    · rw [he] at h0 hfin
      simp only [he]
      simp only at h0 hfin
      obtain ⟨s1, s2⟩ := step_sbt (m := m) (k := k) hr h1 he (fun c hc ht => by
        have h3 := hfin c (run_closed l (n + 1) cs' h0 c hc (by omega)) (by omega)
        rw [ht] at h3
        exact h3.symm)
      rw [subL]
      cases hq : k n
      · rw [if_neg (by decide), ← s2 hq]
        refine run_sbt hr l (n + 1) m cs' h2 (fun j hj2 => ?_) h0 hfin
        have := hj (j + 1) (by simp; omega)
        rw [List.take_succ_cons, subL, if_neg (by rw [hq]; decide)] at this
        rw [show n + 1 + j = n + (j + 1) by omega, this]
      · rw [if_pos rfl, run, s1 hq hn2]
        simp only
        refine run_sbt hr l (n + 1) (m + 1) cs' h2 (fun j hj2 => ?_) h0 hfin
        have := hj (j + 1) (by simp; omega)
        rw [List.take_succ_cons, subL, if_pos hq, List.length_cons] at this
        rw [show n + 1 + j = n + (j + 1) by omega, this]
        omega
/-- How many that are kept come before time z. -/
def rkS (k : Int → Bool) (l : List Ev) (z : Int) : Int := (subL k 0 (l.take z.toNat)).length
theorem subL_append (k : Int → Bool) : ∀ (a b : List Ev) (n : Nat), subL k n (a ++ b) = subL k n a ++ subL k (n + a.length) b
  | [], b, n => by simp [subL]
  | x :: a, b, n => by
    rw [List.cons_append, subL, subL, subL_append k a b (n + 1), List.length_cons, show n + 1 + a.length = n + (a.length + 1) by omega]
    split <;> rfl
theorem rkS_ge (k : Int → Bool) (l : List Ev) (z : Int) : 0 ≤ rkS k l z := by unfold rkS; omega
theorem rkS_up (k : Int → Bool) (l : List Ev) {y z : Int} (h : y ≤ z) : rkS k l y ≤ rkS k l z := by
  unfold rkS
  have e : l.take z.toNat = l.take y.toNat ++ (l.take z.toNat).drop y.toNat := by
    have h1 : l.take y.toNat = (l.take z.toNat).take y.toNat := by rw [List.take_take]; congr 1; omega
    rw [h1, List.take_append_drop]
  rw [e, subL_append, List.length_append]
  omega
theorem rkS_lt (k : Int → Bool) (l : List Ev) {y z : Int} (h0 : 0 ≤ y) (h : y < z) (hk : k y = true) (hl : y < l.length) : rkS k l y < rkS k l z := by
  have h1 : rkS k l (y + 1) = rkS k l y + 1 := by
    unfold rkS
    have hy : y.toNat < l.length := by omega
    rw [show (y + 1).toNat = y.toNat + 1 by omega, List.take_add_one, List.getElem?_eq_getElem hy, Option.toList_some, subL_append, List.length_append, List.length_take, Nat.min_eq_left (by omega), Nat.zero_add, subL, if_pos (by rw [show ((y.toNat : Nat) : Int) = y by omega]; exact hk)]
    simp [subL]
  have := rkS_up k l (y := y + 1) (z := z) (by omega)
  omega
/-- **Some calls of a history, whole, and no others: a history of these.** -/
theorem sub_calls {ts : List Int} {l : List Ev} (h : (callsOf ts l).2.2 = 0) {k : Int → Bool} (hk : ∀ c ∈ (callsOf ts l).1, c.til ≠ -1 → k c.til = k c.frm) : callsOf ts (subL k 0 l) = (sbt k (rkS k l) (callsOf ts l).1, 0, 0) := by
  obtain ⟨t1, t2, e1⟩ := calls_zero h
  rw [e1] at h hk
  have hsl : ∀ (l : List Ev) (n : Nat), (subL k n l).length ≤ l.length := by
    intro l
    induction l with
    | nil => intro n; simp [subL]
    | cons x l ih =>
      intro n
      rw [subL]
      have := ih (n + 1)
      split <;> simp <;> omega
  have e2 : callsOf ts (subL k 0 l) = run ts 0 [] (subL k 0 l) := by
    unfold callsOf
    rw [t1, if_neg (by decide), if_neg (by have := hsl l 0; omega)]
  rw [e2, e1]
  exact run_sbt (rkS_ge k l) l 0 0 [] OneOpen.nil (fun j hj => by unfold rkS; rw [Int.toNat_natCast, Nat.zero_add, Nat.zero_add]) h hk
/-- One more event. -/
theorem subL_take {k : Int → Bool} {l : List Ev} {j : Nat} {x : Ev} (h : l[j]? = some x) : subL k 0 (l.take (j + 1)) = if k j = true then subL k 0 (l.take j) ++ [x] else subL k 0 (l.take j) := by
  have hj := (List.getElem?_eq_some_iff.1 h).1
  rw [List.take_add_one, h, Option.toList_some, subL_append, List.length_take, Nat.min_eq_left (by omega), Nat.zero_add, subL]
  split
  · rfl
  · rw [subL, List.append_nil]
theorem subL_len (k : Int → Bool) : ∀ (l : List Ev) (n : Nat), (subL k n l).length ≤ l.length
  | [], n => by simp [subL]
  | x :: l, n => by
    rw [subL]
    have := subL_len k l (n + 1)
    split <;> simp <;> omega
end Go.Proofs.YtfgangkpebkicaaDoor

/-
  Plain: no two calls begin at one event, or end at one.
-/
namespace Go.Proofs.YtfgangkpebkicaaDoor
open Go.RowKit
set_option maxRecDepth 20000
def Unlike (cs : List Cl) : Prop := ∀ (i j : Nat) (c d : Cl), cs[i]? = some c → cs[j]? = some d → (c.frm = d.frm → i = j) ∧ (c.til ≠ -1 → c.til = d.til → i = j)
theorem step_unlike {ts : List Int} {n : Nat} {cs cs' : List Cl} {x : Ev} (h : Tidy n cs) (ha : Unlike cs) (hs : step ts n cs x = .inr cs') : Unlike cs' := by
  unfold step respS invS at hs
  repeat' split at hs
  all_goals (try cases hs)
  · obtain ⟨e, e1, _, e3, e4⟩ := openOf_at (cs := cs) (who := x.who) (by omega)
    have hg : cs.getD (openOf cs x.who).toNat default = e := by rw [List.getD_eq_getElem?_getD, e1]; rfl
    rw [hg]
    intro i j c d hc hd
    rw [List.getElem?_set] at hc hd
    split at hc
    · rename_i hi
      subst hi
      injection hc with hc
      subst hc
      split at hd
      · rename_i hj
        exact ⟨fun _ => hj, fun _ _ => hj⟩
      · have h2 := h d (List.mem_of_getElem? hd)
        exact ⟨(ha _ j e d e1 hd).1, fun _ h3 => by simp only at h3; omega⟩
    · have h1 := h c (List.mem_of_getElem? hc)
      split at hd
      · rename_i hj
        subst hj
        injection hd with hd
        subst hd
        exact ⟨(ha i _ c e hc e1).1, fun _ h3 => by simp only at h3; omega⟩
      · exact ha i j c d hc hd
  · intro i j c d hc hd
    have hil := (List.getElem?_eq_some_iff.1 hc).1
    have hjl := (List.getElem?_eq_some_iff.1 hd).1
    rw [List.length_append] at hil hjl
    simp only [List.length_cons, List.length_nil] at hil hjl
    rw [List.getElem?_append] at hc hd
    split at hc
    · have h1 := h c (List.mem_of_getElem? hc)
      split at hd
      · exact ha i j c d hc hd
      · have : j - cs.length = 0 := by omega
        rw [this] at hd
        simp at hd
        subst hd
        exact ⟨fun h3 => by simp only at h3; omega, fun h2 h3 => by simp only at h3; omega⟩
    · have : i - cs.length = 0 := by omega
      rw [this] at hc
      simp at hc
      subst hc
      split at hd
      · have h1 := h d (List.mem_of_getElem? hd)
        exact ⟨fun h3 => by simp only at h3; omega, fun h2 => absurd rfl h2⟩
      · exact ⟨fun _ => by omega, fun _ _ => by omega⟩
theorem calls_unlike {ts : List Int} {l : List Ev} (h : (callsOf ts l).2.2 = 0) : Unlike (callsOf ts l).1 := by
  obtain ⟨_, _, e⟩ := calls_zero h
  rw [e] at h ⊢
  have key : ∀ (r : List Ev) (n : Nat) (cs : List Cl), Tidy n cs → Unlike cs → (run ts n cs r).2.2 = 0 → Unlike (run ts n cs r).1 := by
    intro r
    induction r with
    | nil => intro n cs _ h _; exact h
    | cons x r ih =>
      intro n cs h h1 h2
      rw [run] at h2 ⊢
      cases hs : step ts n cs x with
      | inl e => rw [hs] at h2; exact absurd h2 (step_err hs)
      | inr cs' =>
        rw [hs] at h2
        exact ih (n + 1) cs' (step_tidy h hs) (step_unlike h h1 hs) h2
  exact key l 0 [] (fun c hc => by simp at hc) (fun i j c d hc => by simp at hc) h
/-- Of unlike calls no end is another one's begin. -/
theorem step_apart {ts : List Int} {n : Nat} {cs cs' : List Cl} {x : Ev} (h : Tidy n cs) (ha : ∀ c ∈ cs, ∀ d ∈ cs, c.til ≠ d.frm) (hs : step ts n cs x = .inr cs') : ∀ c ∈ cs', ∀ d ∈ cs', c.til ≠ d.frm := by
  unfold step at hs
  split at hs
  · cases hs
  split at hs
  · unfold respS at hs
    split at hs
    · cases hs
    rename_i ho
    split at hs
    · cases hs
    injection hs with hs
    subst hs
    obtain ⟨e, e1, e2, e3, e4⟩ := openOf_at (cs := cs) (who := x.who) (by omega)
    have hg : cs.getD (openOf cs x.who).toNat default = e := by rw [List.getD_eq_getElem?_getD, e1]; rfl
    rw [hg]
    have hem := List.mem_of_getElem? e1
    intro c hc d hd
    have hdf : ∃ d0 ∈ cs, d.frm = d0.frm := by
      rcases List.mem_or_eq_of_mem_set hd with hd | rfl
      · exact ⟨d, hd, rfl⟩
      · exact ⟨e, hem, rfl⟩
    obtain ⟨d0, hd0, hdf⟩ := hdf
    rw [hdf]
    rcases List.mem_or_eq_of_mem_set hc with hc | rfl
    · exact ha c hc d0 hd0
    · show (n : Int) ≠ d0.frm
      have := (h d0 hd0).2.1
      omega
  · unfold invS at hs
    split at hs
    · cases hs
    split at hs
    · cases hs
    injection hs with hs
    subst hs
    intro c hc d hd
    rcases List.mem_append.1 hc with hc | hc
    · rcases List.mem_append.1 hd with hd | hd
      · exact ha c hc d hd
      · rw [List.mem_singleton] at hd
        subst hd
        show c.til ≠ (n : Int)
        have := (h c hc).1
        omega
    · rw [List.mem_singleton] at hc
      subst hc
      show (-1 : Int) ≠ d.frm
      rcases List.mem_append.1 hd with hd | hd
      · have := (h d hd).2.2.1
        omega
      · rw [List.mem_singleton] at hd
        subst hd
        show (-1 : Int) ≠ (n : Int)
        omega
theorem calls_apart {ts : List Int} {l : List Ev} (h : (callsOf ts l).2.2 = 0) : ∀ c ∈ (callsOf ts l).1, ∀ d ∈ (callsOf ts l).1, c.til ≠ d.frm := by
  obtain ⟨_, _, e⟩ := calls_zero h
  rw [e] at h ⊢
  have key : ∀ (r : List Ev) (n : Nat) (cs : List Cl), Tidy n cs → (∀ c ∈ cs, ∀ d ∈ cs, c.til ≠ d.frm) → (run ts n cs r).2.2 = 0 → ∀ c ∈ (run ts n cs r).1, ∀ d ∈ (run ts n cs r).1, c.til ≠ d.frm := by
    intro r
    induction r with
    | nil => intro n cs _ h _; exact h
    | cons x r ih =>
      intro n cs h h1 h2
      rw [run] at h2 ⊢
      cases hs : step ts n cs x with
      | inl e => rw [hs] at h2; exact absurd h2 (step_err hs)
      | inr cs' =>
        rw [hs] at h2
        exact ih (n + 1) cs' (step_tidy h hs) (step_apart h h1 hs) h2
  exact key l 0 [] (fun c hc => by simp at hc) (fun c hc => by simp at hc) h
theorem run_lenU {ts : List Int} : ∀ (l : List Ev) (n : Nat) (cs : List Cl), (run ts n cs l).1.length ≤ cs.length + l.length
  | [], n, cs => by simp [run]
  | x :: r, n, cs => by
    rw [run]
    cases h : step ts n cs x with
    | inl e => simp
    | inr cs' =>
      have h1 := step_len h
      have h2 := run_lenU r (n + 1) cs' (ts := ts)
      simp only [List.length_cons]
      omega
/-- How many there are: no more than events. -/
theorem calls_lenQ {ts : List Int} {l : List Ev} (h : (callsOf ts l).2.2 = 0) : (callsOf ts l).1.length ≤ 200 := by
  obtain ⟨_, h2, e⟩ := calls_zero h
  rw [e]
  have := run_lenU (ts := ts) l 0 []
  simp at this
  omega
end Go.Proofs.YtfgangkpebkicaaDoor

/-
  Plain: a set goes well just if it goes well number by number; what the numbers are is no matter.
-/
namespace Go.Proofs.YtfgangkpebkicaaDoor
open Go.RowKit
set_option maxRecDepth 20000
/-- What is asked of one number: is it there? -/
def one1 (b : Bool) (k : Int) : Bool × Int := if k = 7 then (true, if b = true then 0 else 1) else if k = 8 then (false, if b = true then 1 else 0) else (b, if b = true then 1 else 0)
def goes1 : Bool → List Dd → Bool
  | _, [] => true
  | b, d :: r => (one1 b d.kind).2 == d.res && goes1 (one1 b d.kind).1 r
/-- What may be asked of a set. -/
def AskS (d : Dd) : Prop := (d.kind = 7 ∨ d.kind = 8 ∨ d.kind = 9) ∧ 1 ≤ d.arg ∧ d.arg ≤ 1000
theorem step4 {s : List Int} {k a : Int} (h : stateE 4 s = 0) (hk : k = 7 ∨ k = 8 ∨ k = 9) (ha : 1 ≤ a ∧ a ≤ 1000) (hn : s.length < 50) :
    (stepO 4 s k a).2.2 = 0 ∧ (stepO 4 s k a).2.1 = (one1 (decide (a ∈ s)) k).2 ∧ ∀ v, decide (v ∈ (stepO 4 s k a).1) = if v = a then (one1 (decide (a ∈ s)) k).1 else decide (v ∈ s) := by
  have hsort := ((valid_row (typ := 4) (by decide)).1 (stateE_ok.1 h).2.2).2 rfl
  have hf : (fitsB 4 k && takesB k a) = true := by
    rcases hk with rfl | rfl | rfl
    · exact Bool.and_eq_true_iff.2 ⟨by decide, btw_iff.2 ha⟩
    · exact Bool.and_eq_true_iff.2 ⟨by decide, btw_iff.2 ha⟩
    · exact Bool.and_eq_true_iff.2 ⟨by decide, btw_iff.2 ha⟩
  have he : stepO 4 s k a = stepped s k a := by
    unfold stepO
    rw [if_neg (by rw [h]; decide), if_neg (by rw [hf]; decide)]
  rw [he]
  have h50 : ¬ s.length = 50 := by omega
  rcases hk with rfl | rfl | rfl
  · have e7 : stepped s 7 a = if a ∈ s then (s, 0, 0) else if s.length = 50 then ([], 0, 2) else (insAt s (lessN s a) a, 1, 0) := rfl
    rw [e7]
    by_cases hm : a ∈ s
    · rw [if_pos hm, decide_eq_true hm]
      refine ⟨rfl, rfl, fun v => ?_⟩
      by_cases hv : v = a
      · subst hv; rw [if_pos rfl]; exact decide_eq_true hm
      · rw [if_neg hv]
    · rw [if_neg hm, if_neg h50, decide_eq_false hm]
      refine ⟨rfl, rfl, fun v => ?_⟩
      by_cases hv : v = a
      · subst hv; rw [if_pos rfl]; exact decide_eq_true (insAt_mem.2 (.inl rfl))
      · rw [if_neg hv]
        exact decide_eq_decide.2 ⟨fun h => (insAt_mem.1 h).resolve_left hv, fun h => insAt_mem.2 (.inr h)⟩
  · have e8 : stepped s 8 a = if a ∈ s then (delAt s (lessN s a), 1, 0) else (s, 0, 0) := rfl
    rw [e8]
    by_cases hm : a ∈ s
    · rw [if_pos hm, decide_eq_true hm]
      refine ⟨rfl, rfl, fun v => ?_⟩
      by_cases hv : v = a
      · subst hv; rw [if_pos rfl]; exact decide_eq_false (fun h => ((del_mem hsort hm).1 h).1 rfl)
      · rw [if_neg hv]
        exact decide_eq_decide.2 ⟨fun h => ((del_mem hsort hm).1 h).2, fun h => (del_mem hsort hm).2 ⟨hv, h⟩⟩
    · rw [if_neg hm, decide_eq_false hm]
      refine ⟨rfl, rfl, fun v => ?_⟩
      by_cases hv : v = a
      · subst hv; rw [if_pos rfl]; exact decide_eq_false hm
      · rw [if_neg hv]
  · have e9 : stepped s 9 a = (s, if a ∈ s then 1 else 0, 0) := rfl
    rw [e9]
    refine ⟨rfl, ?_, fun v => ?_⟩
    · by_cases hm : a ∈ s
      · rw [decide_eq_true hm]; exact if_pos hm
      · rw [decide_eq_false hm]; exact if_neg hm
    · by_cases hv : v = a
      · subst hv; rw [if_pos rfl]; rfl
      · rw [if_neg hv]
/-- A set goes well just if it does number by number. -/
theorem set_goes : ∀ (ds : List Dd) (s : List Int), stateE 4 s = 0 → s.length + ds.length ≤ 50 → (∀ d ∈ ds, AskS d) → (goesB 4 s ds = true ↔ ∀ v : Int, goes1 (decide (v ∈ s)) (ds.filter fun d => d.arg == v) = true)
  | [], s, _, _, _ => ⟨fun _ _ => rfl, fun _ => rfl⟩
  | d :: r, s, h, hn, ha => by
    obtain ⟨hk, h2⟩ := ha d List.mem_cons_self
    rw [List.length_cons] at hn
    obtain ⟨e1, e2, e3⟩ := step4 h hk h2 (by omega)
    obtain ⟨o1, o2, _, _⟩ := stepO_ok e1
    have ih := set_goes r _ o1 (by omega) (fun x hx => ha x (List.mem_cons_of_mem _ hx))
    rw [goes_cons, ih, e2]
    constructor
    · rintro ⟨_, h3, h4⟩ v
      have h5 := h4 v
      rw [e3 v] at h5
      rw [List.filter_cons]
      by_cases hv : d.arg = v
      · subst hv
        rw [if_pos rfl] at h5
        rw [if_pos (by rw [beq_iff_eq]), goes1, Bool.and_eq_true, beq_iff_eq]
        exact ⟨h3, h5⟩
      · rw [if_neg (fun e => hv e.symm)] at h5
        rw [if_neg (by rw [beq_iff_eq]; exact hv)]
        exact h5
    · intro h4
      have h5 := h4 d.arg
      rw [List.filter_cons, if_pos (by rw [beq_iff_eq]), goes1, Bool.and_eq_true, beq_iff_eq] at h5
      refine ⟨e1, h5.1, fun v => ?_⟩
      rw [e3 v]
      by_cases hv : v = d.arg
      · subst hv
        rw [if_pos rfl]
        exact h5.2
      · rw [if_neg hv]
        have h6 := h4 v
        rw [List.filter_cons, if_neg (by rw [beq_iff_eq]; exact fun e => hv e.symm)] at h6
        exact h6
def SetOk (cs : List Cl) : Prop := ∀ c ∈ cs, (c.kind = 7 ∨ c.kind = 8 ∨ c.kind = 9) ∧ 1 ≤ c.arg ∧ c.arg ≤ 1000 ∧ c.thing = 0
theorem atC_mem {cs : List Cl} {x : Int × Int} (h : 0 ≤ x.1 ∧ x.1 < cs.length) : atC cs x ∈ cs := by
  unfold atC
  rw [List.getD_eq_getElem?_getD, List.getElem?_eq_getElem (by omega : x.1.toNat < cs.length)]
  exact List.getElem_mem _
theorem ddC_ask {cs : List Cl} (hs : SetOk cs) {ws : List (Int × Int)} (hr : ∀ x ∈ ws, 0 ≤ x.1 ∧ x.1 < cs.length) : ∀ d ∈ ws.map (ddC cs), AskS d := fun d hd => by
  obtain ⟨x, hx, rfl⟩ := List.mem_map.1 hd
  have := hs _ (atC_mem (hr x hx))
  exact ⟨this.1, this.2.1, this.2.2.1⟩
theorem once_len {cs : List Cl} {ws : List (Int × Int)} (hr : ∀ x ∈ ws, 0 ≤ x.1 ∧ x.1 < cs.length) (ho : (ws.map (·.1)).Nodup) : ws.length ≤ cs.length := by
  have := nodup_lt cs.length ho (fun k hk => by
    obtain ⟨x, hx, rfl⟩ := List.mem_map.1 hk
    exact hr x hx)
  rwa [List.length_map] at this
theorem goes1_nil (b : Bool) : goes1 b [] = true := rfl
/-- Number by number. -/
def Goes1 (cs : List Cl) (ws : List (Int × Int)) : Prop := ∀ v : Int, goes1 false ((ws.map (ddC cs)).filter fun d => d.arg == v) = true
theorem ownD_all {cs : List Cl} {ws : List (Int × Int)} (h : ∀ x ∈ ws, (atC cs x).thing = 0) : ownD cs 0 ws = ws.map (ddC cs) := by
  unfold ownD
  rw [List.filter_eq_self.2 (fun x hx => by rw [beq_iff_eq, h x hx]; rfl)]
theorem goes_set {cs : List Cl} (hs : SetOk cs) (hn : cs.length ≤ 50) {ws : List (Int × Int)} (hr : ∀ x ∈ ws, 0 ≤ x.1 ∧ x.1 < cs.length) (ho : (ws.map (·.1)).Nodup) :
    (∀ t, t < [(4 : Int)].length → goesB ([(4 : Int)].getD t 0) (beginL ([(4 : Int)].getD t 0)) (ownD cs t ws) = true) ↔ Goes1 cs ws := by
  have hl := once_len hr ho
  have h0 := ownD_all (cs := cs) (ws := ws) (fun x hx => (hs _ (atC_mem (hr x hx))).2.2.2)
  have hg := set_goes (ws.map (ddC cs)) [] (by decide) (by rw [List.length_map]; simp; omega) (ddC_ask hs hr)
  have hd : ∀ v : Int, decide (v ∈ ([] : List Int)) = false := fun v => decide_eq_false (by simp)
  simp only [hd] at hg
  constructor
  · intro h
    have := h 0 (by decide)
    rw [h0] at this
    exact hg.1 this
  · intro h t ht
    have : t = 0 := by simp at ht; exact ht
    subst this
    rw [h0]
    exact hg.2 h
/-- A set's right order, number by number. -/
theorem rite_set {cs : List Cl} (hs : SetOk cs) (hn : cs.length ≤ 50) {ws : List (Int × Int)} : Rite [4] cs ws ↔ (∀ x ∈ ws, 0 ≤ x.1 ∧ x.1 < cs.length) ∧ (ws.map (·.1)).Nodup ∧ (∀ x ∈ ws, (atC cs x).til ≠ -1 → (atC cs x).res = x.2) ∧ (∀ i, i < cs.length → (cs.getD i default).til ≠ -1 → (i : Int) ∈ ws.map (·.1)) ∧
    (∀ i j, i < cs.length → j < cs.length → aheadB cs i j = true → ∀ a y b, ws = a ++ y :: b → y.1 = (j : Int) → (i : Int) ∈ a.map (·.1)) ∧ Goes1 cs ws :=
  ⟨fun h => ⟨h.rng, h.once, h.res, h.all, h.ord, (goes_set hs hn h.rng h.once).1 h.goes⟩, fun ⟨h1, h2, h3, h4, h5, h6⟩ => ⟨h1, h2, h3, h4, h5, (goes_set hs hn h1 h2).2 h6⟩⟩
/-- With other numbers, unlike ones unlike. -/
def argC (f : Int → Int) (c : Cl) : Cl := { c with arg := f c.arg }
theorem getD_map {cs : List Cl} {g : Cl → Cl} {i : Nat} (h : i < cs.length) : (cs.map g).getD i default = g (cs.getD i default) := by
  rw [List.getD_eq_getElem?_getD, List.getElem?_map, List.getElem?_eq_getElem h, List.getD_eq_getElem?_getD, List.getElem?_eq_getElem h]
  rfl
theorem goes1_args : ∀ (ds ds' : List Dd) (b : Bool), ds.map (fun d => (d.kind, d.res)) = ds'.map (fun d => (d.kind, d.res)) → goes1 b ds = goes1 b ds'
  | [], ds', b, h => by
    cases ds' with
    | nil => rfl
    | cons d r => cases h
  | d :: r, ds', b, h => by
    cases ds' with
    | nil => cases h
    | cons d' r' =>
      rw [List.map_cons, List.map_cons] at h
      injection h with h1 h2
      injection h1 with h3 h4
      rw [goes1, goes1, h3, h4, goes1_args r r' _ h2]
theorem goes_argC {f : Int → Int} (hf : ∀ x y, f x = f y → x = y) {cs : List Cl} {ws : List (Int × Int)} (hr : ∀ x ∈ ws, 0 ≤ x.1 ∧ x.1 < cs.length) : Goes1 (cs.map (argC f)) ws ↔ Goes1 cs ws := by
  have hd : ws.map (ddC (cs.map (argC f))) = (ws.map (ddC cs)).map fun d => { d with arg := f d.arg } := by
    rw [List.map_map]
    refine List.map_congr_left fun x hx => ?_
    have := hr x hx
    unfold ddC atC
    rw [getD_map (by omega)]
    rfl
  have hy : ∀ v, goes1 false ((ws.map (ddC (cs.map (argC f)))).filter fun d => d.arg == f v) = goes1 false ((ws.map (ddC cs)).filter fun d => d.arg == v) := fun v => by
    refine goes1_args _ _ _ ?_
    rw [hd, List.filter_map, List.map_map]
    have : (fun d : Dd => d.arg == f v) ∘ (fun d : Dd => { d with arg := f d.arg }) = fun d : Dd => d.arg == v := by
      funext d
      show (f d.arg == f v) = (d.arg == v)
      by_cases e : d.arg = v
      · rw [e, beq_self_eq_true, beq_self_eq_true]
      · rw [beq_eq_false_iff_ne.2 e, beq_eq_false_iff_ne.2 (fun h => e (hf _ _ h))]
    rw [this]
    rfl
  constructor
  · intro h v
    rw [← hy v]
    exact h (f v)
  · intro h v
    by_cases hv : ∃ u, f u = v
    · obtain ⟨u, rfl⟩ := hv
      rw [hy u]
      exact h u
    · rw [List.filter_eq_nil_iff.2]
      · exact goes1_nil _
      · intro d hd2
        rw [hd] at hd2
        obtain ⟨e, _, rfl⟩ := List.mem_map.1 hd2
        rw [beq_iff_eq]
        exact fun e2 => hv ⟨_, e2⟩
/-- With other numbers it is right just if it was. -/
theorem rite_argC {f : Int → Int} (hf : ∀ x y, f x = f y → x = y) {cs : List Cl} (hs : SetOk cs) (hs2 : SetOk (cs.map (argC f))) (hn : cs.length ≤ 50) {ws : List (Int × Int)} : Rite [4] (cs.map (argC f)) ws ↔ Rite [4] cs ws := by
  rw [rite_set hs hn, rite_set hs2 (by rw [List.length_map]; exact hn), List.length_map]
  have hah : ∀ i j, i < cs.length → j < cs.length → aheadB (cs.map (argC f)) i j = aheadB cs i j := fun i j hi hj => by
    unfold aheadB
    rw [getD_map hi, getD_map hj]
    rfl
  constructor
  · rintro ⟨h1, h2, h3, h4, h5, h6⟩
    refine ⟨h1, h2, fun x hx => ?_, fun i hi => ?_, fun i j hi hj ha => h5 i j hi hj (by rw [hah i j hi hj]; exact ha), (goes_argC hf h1).1 h6⟩
    · have := h3 x hx
      have hx2 := h1 x hx
      unfold atC at this ⊢
      rw [getD_map (by omega)] at this
      exact this
    · have := h4 i hi
      rw [getD_map hi] at this
      exact this
  · rintro ⟨h1, h2, h3, h4, h5, h6⟩
    refine ⟨h1, h2, fun x hx => ?_, fun i hi => ?_, fun i j hi hj ha => h5 i j hi hj (by rw [hah i j hi hj] at ha; exact ha), (goes_argC hf h1).2 h6⟩
    · have := h3 x hx
      have hx2 := h1 x hx
      unfold atC at this ⊢
      rw [getD_map (by omega)]
      exact this
    · rw [getD_map hi]
      exact h4 i hi
end Go.Proofs.YtfgangkpebkicaaDoor
