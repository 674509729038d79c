/-
  Joined by a program out of: ZonePure.
-/
import Derived.Test.YthjmncngegchjaaMgAB

/-
  Plain: zones of a register whose values are unlike; what can't be.
-/
namespace Go.Proofs.Ythjmncngegchjaa
open Go.RowKit
set_option maxRecDepth 20000
/-- A write, or a read that was answered. -/
structure Zop where
  index : Int
  value : Int
  frm : Int
  til : Int
def wrZ (i : Nat) (c : Cl) : Zop := ⟨i, c.arg, c.frm, if c.til = -1 then 200 else c.til⟩
def rdZ (i : Nat) (c : Cl) : Zop := ⟨i, c.res, c.frm, c.til⟩
def isW (v : Int) (c : Cl) : Bool := c.kind == 1 && c.arg == v
def isR (c : Cl) : Bool := c.kind == 2 && c.til != -1
def hasV (v : Int) (c : Cl) : Bool := isW v c || (isR c && c.res == v)
/-- The first write of a value, from number k on. -/
def wAt (v : Int) : Nat → List Cl → Option Nat
  | _, [] => none
  | k, c :: r => if isW v c = true then some k else wAt v (k + 1) r
/-- The write of a value; that of 0 is ahead of all. -/
def wOf (cs : List Cl) (v : Int) : Option Zop := if v = 0 then some ⟨-1, 0, -1, -1⟩ else (wAt v 0 cs).map fun i => wrZ i (cs.getD i default)
/-- The reads that were answered, from number k on. -/
def rds : Nat → List Cl → List Zop
  | _, [] => []
  | k, c :: r => if isR c = true then rdZ k c :: rds (k + 1) r else rds (k + 1) r
/-- A zone. -/
structure Zn where
  value : Int
  first : Int
  last : Int
  fwd : Bool
def zF (v : Int) : List Zop → Int → Int
  | [], a => a
  | r :: l, a => zF v l (if r.value = v then (if r.til < a then r.til else a) else a)
def zL (v : Int) : List Zop → Int → Int
  | [], a => a
  | r :: l, a => zL v l (if r.value = v then (if a < r.frm then r.frm else a) else a)
def zAny (v : Int) (l : List Zop) : Bool := l.any fun r => r.value == v
def zoneOf (w : Zop) (R : List Zop) : Zn := ⟨w.value, zF w.value R w.til, zL w.value R w.frm, decide (zF w.value R w.til < zL w.value R w.frm)⟩
def countsZ (w : Zop) (R : List Zop) : Bool := (w.value != 0 && w.til != 200) || zAny w.value R
def zoneV (cs : List Cl) (v : Int) : Option Zn := match wOf cs v with
  | none => none
  | some w => if countsZ w (rds 0 cs) = true then some (zoneOf w (rds 0 cs)) else none
def zonesL (cs : List Cl) : List Zn := (List.range 1001).filterMap fun (v : Nat) => zoneV cs v
/-- What can't be: which kind, and of what. -/
structure Bz where
  kind : Int
  a : Int
  b : Int
def noBz : Bz := ⟨0, 0, 0⟩
def strayZ (cs : List Cl) : List Zop → Bz
  | [] => noBz
  | r :: l => if (wOf cs r.value).isNone = true then ⟨1, r.index, 0⟩ else strayZ cs l
def earlyZ (cs : List Cl) : List Zop → Bz
  | [] => noBz
  | r :: l => match wOf cs r.value with
    | none => earlyZ cs l
    | some w => if r.til < w.frm then ⟨3, r.index, w.index⟩ else earlyZ cs l
def lapZ (a b : Zn) : Bool := decide (a.first < b.last ∧ b.first < a.last)
def crossRow (a : Zn) : List Zn → Bz
  | [] => noBz
  | b :: l => if (a.fwd && b.fwd && lapZ a b) = true then ⟨4, a.value, b.value⟩ else crossRow a l
def crossZ : List Zn → Bz
  | [] => noBz
  | a :: l => if (crossRow a l).kind ≠ 0 then crossRow a l else crossZ l
def insideRow (a : Zn) : List Zn → Bz
  | [] => noBz
  | b :: l => if (a.fwd && !b.fwd && lapZ a b) = true then ⟨5, a.value, b.value⟩ else insideRow a l
def insideZ (all : List Zn) : List Zn → Bz
  | [] => noBz
  | a :: l => if (insideRow a all).kind ≠ 0 then insideRow a all else insideZ all l
/-- The first of these that there is. -/
def orZ (x y : Bz) : Bz := if x.kind ≠ 0 then x else y
def badZ (cs : List Cl) : Bz := orZ (strayZ cs (rds 0 cs)) (orZ (earlyZ cs (rds 0 cs)) (orZ (crossZ (zonesL cs)) (insideZ (zonesL cs) (zonesL cs))))
theorem wAt_some {v : Int} : ∀ (cs : List Cl) (k i : Nat), wAt v k cs = some i → k ≤ i ∧ ∃ c, cs[i - k]? = some c ∧ isW v c = true
  | [], k, i, h => by cases h
  | c :: r, k, i, h => by
    rw [wAt] at h
    split at h
    · rename_i hw
      injection h with h
      subst h
      exact ⟨Nat.le_refl _, c, by simp, hw⟩
    · obtain ⟨h1, d, h2, h3⟩ := wAt_some r (k + 1) i h
      refine ⟨by omega, d, ?_, h3⟩
      rw [show i - k = (i - (k + 1)) + 1 by omega, List.getElem?_cons_succ]
      exact h2
theorem wAt_none {v : Int} : ∀ (cs : List Cl) (k : Nat), wAt v k cs = none ↔ ∀ c ∈ cs, isW v c = false
  | [], k => by simp [wAt]
  | c :: r, k => by
    rw [wAt]
    split
    · rename_i hw
      simp [hw]
    · rename_i hw
      rw [wAt_none r (k + 1)]
      simp [hw]
theorem mem_rds {r : Zop} : ∀ (cs : List Cl) (k : Nat), r ∈ rds k cs ↔ ∃ i c, cs[i]? = some c ∧ isR c = true ∧ r = rdZ (k + i) c
  | [], k => by simp [rds]
  | c :: l, k => by
    rw [rds]
    have ih := mem_rds (r := r) l (k + 1)
    constructor
    · intro h
      by_cases hc : isR c = true
      · rw [if_pos hc, List.mem_cons] at h
        rcases h with h | h
        · exact ⟨0, c, rfl, hc, h⟩
        · obtain ⟨i, d, h1, h2, h3⟩ := ih.1 h
          exact ⟨i + 1, d, by simpa using h1, h2, by rw [h3, show k + 1 + i = k + (i + 1) by omega]⟩
      · rw [if_neg hc] at h
        obtain ⟨i, d, h1, h2, h3⟩ := ih.1 h
        exact ⟨i + 1, d, by simpa using h1, h2, by rw [h3, show k + 1 + i = k + (i + 1) by omega]⟩
    · rintro ⟨i, d, h1, h2, h3⟩
      cases i with
      | zero =>
        simp at h1
        subst h1
        rw [if_pos h2, List.mem_cons]
        exact .inl h3
      | succ i =>
        have h4 := ih.2 ⟨i, d, by simpa using h1, h2, by rw [h3, show k + (i + 1) = k + 1 + i by omega]⟩
        split
        · exact List.mem_cons_of_mem _ h4
        · exact h4
theorem zF_lt {v k : Int} : ∀ (l : List Zop) (a : Int), zF v l a < k ↔ a < k ∨ ∃ r ∈ l, r.value = v ∧ r.til < k
  | [], a => by simp [zF]
  | r :: l, a => by
    rw [zF, zF_lt l]
    by_cases hv : r.value = v
    · rw [if_pos hv]
      constructor
      · rintro (h | ⟨q, h1, h2, h3⟩)
        · split at h
          · exact .inr ⟨r, List.mem_cons_self, hv, h⟩
          · exact .inl h
        · exact .inr ⟨q, List.mem_cons_of_mem _ h1, h2, h3⟩
      · rintro (h | ⟨q, h1, h2, h3⟩)
        · left; split <;> omega
        · rcases List.mem_cons.1 h1 with rfl | h1
          · left; split <;> omega
          · exact .inr ⟨q, h1, h2, h3⟩
    · rw [if_neg hv]
      constructor
      · rintro (h | ⟨q, h1, h2, h3⟩)
        · exact .inl h
        · exact .inr ⟨q, List.mem_cons_of_mem _ h1, h2, h3⟩
      · rintro (h | ⟨q, h1, h2, h3⟩)
        · exact .inl h
        · rcases List.mem_cons.1 h1 with rfl | h1
          · exact absurd h2 hv
          · exact .inr ⟨q, h1, h2, h3⟩
theorem lt_zL {v k : Int} : ∀ (l : List Zop) (a : Int), k < zL v l a ↔ k < a ∨ ∃ r ∈ l, r.value = v ∧ k < r.frm
  | [], a => by simp [zL]
  | r :: l, a => by
    rw [zL, lt_zL l]
    by_cases hv : r.value = v
    · rw [if_pos hv]
      constructor
      · rintro (h | ⟨q, h1, h2, h3⟩)
        · split at h
          · exact .inr ⟨r, List.mem_cons_self, hv, h⟩
          · exact .inl h
        · exact .inr ⟨q, List.mem_cons_of_mem _ h1, h2, h3⟩
      · rintro (h | ⟨q, h1, h2, h3⟩)
        · left; split <;> omega
        · rcases List.mem_cons.1 h1 with rfl | h1
          · left; split <;> omega
          · exact .inr ⟨q, h1, h2, h3⟩
    · rw [if_neg hv]
      constructor
      · rintro (h | ⟨q, h1, h2, h3⟩)
        · exact .inl h
        · exact .inr ⟨q, List.mem_cons_of_mem _ h1, h2, h3⟩
      · rintro (h | ⟨q, h1, h2, h3⟩)
        · exact .inl h
        · rcases List.mem_cons.1 h1 with rfl | h1
          · exact absurd h2 hv
          · exact .inr ⟨q, h1, h2, h3⟩
/-- No value is written twice. -/
def Once (cs : List Cl) : Prop := ∀ (i j : Nat) (c d : Cl), cs[i]? = some c → cs[j]? = some d → c.kind = 1 → d.kind = 1 → c.arg = d.arg → i = j
/-- The calls of a history of a register, no value of which is written twice. -/
structure RegH (n : Nat) (cs : List Cl) : Prop where
  ord : Orderly n cs
  n200 : n ≤ 200
  ok : ∀ c ∈ cs, CallOk [1] c
  once : Once cs
section
variable {n : Nat} {cs : List Cl}
theorem RegH.kind (h : RegH n cs) {c : Cl} (hc : c ∈ cs) : (c.kind = 1 ∧ 1 ≤ c.arg ∧ c.arg ≤ 1000) ∨ (c.kind = 2 ∧ c.arg = 0) := by
  have hk := h.ok c hc
  have hf := hk.fits
  have ht := hk.takes
  have h0 : c.thing.toNat = 0 := by have := hk.thing; simp at this; omega
  rw [h0] at hf
  unfold fitsB at hf
  rw [decide_eq_true_iff] at hf
  have h1 : (1 : Int) = kindType c.kind := hf.2
  unfold kindType at h1
  have h2 : c.kind = 1 ∨ c.kind = 2 := by
    apply Classical.byContradiction
    intro hn
    rw [if_neg hn] at h1
    repeat' split at h1
    all_goals omega
  rcases h2 with h2 | h2
  · left
    rw [h2] at ht
    unfold takesB at ht
    rw [if_pos (by simp), btw_iff] at ht
    exact ⟨h2, ht⟩
  · right
    rw [h2] at ht
    unfold takesB at ht
    rw [if_neg (by simp), beq_iff_eq] at ht
    exact ⟨h2, ht⟩
theorem RegH.thing (h : RegH n cs) {c : Cl} (hc : c ∈ cs) : c.thing = 0 := by
  have := (h.ok c hc).thing
  simp at this
  omega
theorem RegH.frm (h : RegH n cs) {c : Cl} (hc : c ∈ cs) : 0 ≤ c.frm ∧ c.frm < 200 ∧ c.til < 200 ∧ (c.til = -1 ∨ c.frm < c.til) := by
  have h1 := h.ord.tidy c hc
  have h2 := h.n200
  exact ⟨h1.2.2.1, by omega, by omega, h.ord.ends c hc⟩
theorem isW_iff {v : Int} {c : Cl} : isW v c = true ↔ c.kind = 1 ∧ c.arg = v := by
  unfold isW; rw [Bool.and_eq_true, beq_iff_eq, beq_iff_eq]
theorem isR_iff {c : Cl} : isR c = true ↔ c.kind = 2 ∧ c.til ≠ -1 := by
  unfold isR; rw [Bool.and_eq_true, beq_iff_eq, bne_iff_ne]
theorem hasV_iff {v : Int} {c : Cl} : hasV v c = true ↔ (c.kind = 1 ∧ c.arg = v) ∨ (c.kind = 2 ∧ c.til ≠ -1 ∧ c.res = v) := by
  unfold hasV
  rw [Bool.or_eq_true, Bool.and_eq_true, isW_iff, isR_iff, beq_iff_eq, and_assoc]
/-- What the write of a value is. -/
theorem RegH.wOf_some (h : RegH n cs) {v : Int} {w : Zop} : wOf cs v = some w ↔ (v = 0 ∧ w = ⟨-1, 0, -1, -1⟩) ∨ (v ≠ 0 ∧ ∃ i c, cs[i]? = some c ∧ isW v c = true ∧ w = wrZ i c) := by
  unfold wOf
  by_cases hv : v = 0
  · rw [if_pos hv]
    simp only [hv, true_and, ne_eq, not_true_eq_false, false_and, or_false, Option.some.injEq]
    exact eq_comm
  · rw [if_neg hv]
    simp only [hv, false_and, false_or, ne_eq, not_false_eq_true, true_and]
    constructor
    · intro e
      obtain ⟨i, h1, h2⟩ := Option.map_eq_some_iff.1 e
      obtain ⟨_, c, h4, h5⟩ := wAt_some cs 0 i h1
      refine ⟨i, c, by simpa using h4, h5, ?_⟩
      rw [← h2, List.getD_eq_getElem?_getD, show cs[i]? = some c by simpa using h4]
      rfl
    · rintro ⟨i, c, h1, h2, rfl⟩
      cases e : wAt v 0 cs with
      | none => exact absurd h2 (by rw [(wAt_none cs 0).1 e c (List.mem_of_getElem? h1)]; decide)
      | some j =>
        obtain ⟨_, d, h4, h5⟩ := wAt_some cs 0 j e
        have h6 : cs[j]? = some d := by simpa using h4
        have := h.once i j c d h1 h6 (isW_iff.1 h2).1 (isW_iff.1 h5).1 ((isW_iff.1 h2).2.trans (isW_iff.1 h5).2.symm)
        subst this
        rw [Option.map_some, List.getD_eq_getElem?_getD, h1]
        rfl
theorem wOf_none {v : Int} : wOf cs v = none ↔ v ≠ 0 ∧ ∀ c ∈ cs, isW v c = false := by
  unfold wOf
  split
  · rename_i hv; simp [hv]
  · rename_i hv
    rw [Option.map_eq_none_iff, wAt_none]
    exact ⟨fun h => ⟨hv, h⟩, fun h => h.2⟩
/-- A call of a is answered ahead of one of b's; that of 0 is ahead of all. -/
def BefV (cs : List Cl) (a b : Int) : Prop := ∃ y ∈ cs, hasV b y = true ∧ (a = 0 ∨ ∃ x ∈ cs, hasV a x = true ∧ x.til ≠ -1 ∧ x.til < y.frm)
/-- First and last of a value that has a write. -/
theorem RegH.befV (h : RegH n cs) {a b : Int} {wa wb : Zop} (ha : wOf cs a = some wa) (hb : wOf cs b = some wb) :
    zF a (rds 0 cs) wa.til < zL b (rds 0 cs) wb.frm ↔ BefV cs a b := by
  rw [zF_lt, lt_zL]
  have hrb : ∀ k : Int, (∃ r ∈ rds 0 cs, r.value = b ∧ k < r.frm) ↔ ∃ y ∈ cs, (isR y = true ∧ y.res = b) ∧ k < y.frm := by
    intro k
    constructor
    · rintro ⟨r, h1, h2, h3⟩
      obtain ⟨i, c, h4, h5, rfl⟩ := (mem_rds cs 0).1 h1
      exact ⟨c, List.mem_of_getElem? h4, ⟨h5, h2⟩, h3⟩
    · rintro ⟨y, h1, ⟨h2, h3⟩, h4⟩
      obtain ⟨i, hi, rfl⟩ := List.getElem_of_mem h1
      exact ⟨_, (mem_rds cs 0).2 ⟨i, _, List.getElem?_eq_getElem hi, h2, rfl⟩, h3, h4⟩
  have hB : ∀ k : Int, -1 ≤ k → ((k < wb.frm ∨ ∃ r ∈ rds 0 cs, r.value = b ∧ k < r.frm) ↔ ∃ y ∈ cs, hasV b y = true ∧ k < y.frm) := by
    intro k hk
    rw [hrb]
    rcases h.wOf_some.1 hb with ⟨hb0, rfl⟩ | ⟨hb0, i, c, h1, h2, rfl⟩
    · constructor
      · rintro (h3 | ⟨y, h3, h4, h5⟩)
        · simp only at h3; omega
        · exact ⟨y, h3, hasV_iff.2 (.inr ⟨(isR_iff.1 h4.1).1, (isR_iff.1 h4.1).2, h4.2⟩), h5⟩
      · rintro ⟨y, h3, h4, h5⟩
        rcases hasV_iff.1 h4 with ⟨h6, h7⟩ | ⟨h6, h7, h8⟩
        · rcases h.kind h3 with h9 | h9 <;> omega
        · exact .inr ⟨y, h3, ⟨isR_iff.2 ⟨h6, h7⟩, h8⟩, h5⟩
    · constructor
      · rintro (h3 | ⟨y, h3, h4, h5⟩)
        · exact ⟨c, List.mem_of_getElem? h1, hasV_iff.2 (.inl (isW_iff.1 h2)), h3⟩
        · exact ⟨y, h3, hasV_iff.2 (.inr ⟨(isR_iff.1 h4.1).1, (isR_iff.1 h4.1).2, h4.2⟩), h5⟩
      · rintro ⟨y, h3, h4, h5⟩
        rcases hasV_iff.1 h4 with h6 | ⟨h6, h7, h8⟩
        · obtain ⟨j, hj, rfl⟩ := List.getElem_of_mem h3
          have := h.once i j c _ h1 (List.getElem?_eq_getElem hj) (isW_iff.1 h2).1 h6.1 ((isW_iff.1 h2).2.trans h6.2.symm)
          subst this
          rw [List.getElem?_eq_getElem hj] at h1
          injection h1 with h1
          subst h1
          exact .inl h5
        · exact .inr ⟨y, h3, ⟨isR_iff.2 ⟨h6, h7⟩, h8⟩, h5⟩
  have hra : ∀ k : Int, (∃ r ∈ rds 0 cs, r.value = a ∧ r.til < k) ↔ ∃ x ∈ cs, (isR x = true ∧ x.res = a) ∧ x.til < k := by
    intro k
    constructor
    · rintro ⟨r, h1, h2, h3⟩
      obtain ⟨i, c, h4, h5, rfl⟩ := (mem_rds cs 0).1 h1
      exact ⟨c, List.mem_of_getElem? h4, ⟨h5, h2⟩, h3⟩
    · rintro ⟨y, h1, ⟨h2, h3⟩, h4⟩
      obtain ⟨i, hi, rfl⟩ := List.getElem_of_mem h1
      exact ⟨_, (mem_rds cs 0).2 ⟨i, _, List.getElem?_eq_getElem hi, h2, rfl⟩, h3, h4⟩
  have hLt : ∀ k : Int, (k < zL b (rds 0 cs) wb.frm) ↔ (k < wb.frm ∨ ∃ r ∈ rds 0 cs, r.value = b ∧ k < r.frm) := fun k => lt_zL _ _
  constructor
  · rintro (h1 | ⟨r, h1, h2, h3⟩)
    · rcases h.wOf_some.1 ha with ⟨ha0, rfl⟩ | ⟨ha0, i, c, h4, h5, rfl⟩
      · obtain ⟨y, h6, h7, h8⟩ := (hB (-1) (Int.le_refl _)).1 h1
        exact ⟨y, h6, h7, .inl ha0⟩
      · have hc := List.mem_of_getElem? h4
        have hf := h.frm hc
        by_cases ht : c.til = -1
        · have e : (wrZ i c).til = 200 := by unfold wrZ; simp [ht]
          rw [e] at h1
          obtain ⟨y, h6, _, h8⟩ := (hB 200 (by omega)).1 h1
          have := h.frm h6
          omega
        · have e : (wrZ i c).til = c.til := by unfold wrZ; simp [ht]
          rw [e] at h1
          obtain ⟨y, h6, h7, h8⟩ := (hB c.til (by omega)).1 h1
          exact ⟨y, h6, h7, .inr ⟨c, hc, hasV_iff.2 (.inl (isW_iff.1 h5)), ht, h8⟩⟩
    · obtain ⟨i, c, h4, h5, rfl⟩ := (mem_rds cs 0).1 h1
      have hc := List.mem_of_getElem? h4
      have hf := h.frm hc
      have ht := (isR_iff.1 h5).2
      obtain ⟨y, h6, h7, h8⟩ := (hB (rdZ (0 + i) c).til (by show -1 ≤ c.til; omega)).1 ((hLt _).1 h3)
      exact ⟨y, h6, h7, .inr ⟨c, hc, hasV_iff.2 (.inr ⟨(isR_iff.1 h5).1, ht, h2⟩), ht, h8⟩⟩
  · rintro ⟨y, h1, h2, h3⟩
    rcases h3 with h3 | ⟨x, h3, h4, h5, h6⟩
    · rcases h.wOf_some.1 ha with ⟨ha0, rfl⟩ | ⟨ha0, _⟩
      · left
        exact (hB (-1) (Int.le_refl _)).2 ⟨y, h1, h2, by have := h.frm h1; omega⟩
      · exact absurd h3 ha0
    · have hf := h.frm h3
      have hl : x.til < zL b (rds 0 cs) wb.frm := (hLt _).2 ((hB x.til (by omega)).2 ⟨y, h1, h2, h6⟩)
      rcases hasV_iff.1 h4 with h7 | ⟨h7, h8, h9⟩
      · rcases h.wOf_some.1 ha with ⟨ha0, _⟩ | ⟨ha0, i, c, h10, h11, rfl⟩
        · rcases h.kind h3 with h12 | h12 <;> omega
        · obtain ⟨j, hj, rfl⟩ := List.getElem_of_mem h3
          have := h.once i j c _ h10 (List.getElem?_eq_getElem hj) (isW_iff.1 h11).1 h7.1 ((isW_iff.1 h11).2.trans h7.2.symm)
          subst this
          rw [List.getElem?_eq_getElem hj] at h10
          injection h10 with h10
          subst h10
          left
          have e : (wrZ i cs[i]).til = cs[i].til := by unfold wrZ; simp [h5]
          rw [e]
          exact (hLt _).1 hl
      · right
        obtain ⟨j, hj, rfl⟩ := List.getElem_of_mem h3
        exact ⟨_, (mem_rds cs 0).2 ⟨j, _, List.getElem?_eq_getElem hj, isR_iff.2 ⟨h7, h8⟩, rfl⟩, h9, hl⟩
end
/-- A read of what nobody wrote. -/
def StrayP (cs : List Cl) : Prop := ∃ x ∈ cs, isR x = true ∧ x.res ≠ 0 ∧ ∀ c ∈ cs, isW x.res c = false
/-- A read that was answered ahead of the write of its value. -/
def EarlyP (cs : List Cl) : Prop := ∃ x ∈ cs, isR x = true ∧ x.res ≠ 0 ∧ ∃ c ∈ cs, isW x.res c = true ∧ x.til < c.frm
/-- Two values, each with a call that is answered ahead of one of the other's. -/
def TwoP (cs : List Cl) : Prop := ∃ a b, a ≠ b ∧ BefV cs a b ∧ BefV cs b a
theorem stray_kind {cs : List Cl} : ∀ (l : List Zop), (∀ r ∈ l, wOf cs r.value ≠ none) ∧ strayZ cs l = noBz ∨ ∃ r ∈ l, wOf cs r.value = none ∧ strayZ cs l = ⟨1, r.index, 0⟩
  | [] => .inl ⟨fun r h => (by simp at h), rfl⟩
  | r :: l => by
    rw [strayZ]
    by_cases h : wOf cs r.value = none
    · rw [if_pos (by rw [h]; rfl)]
      exact .inr ⟨r, List.mem_cons_self, h, rfl⟩
    · rw [if_neg (by rw [Option.isNone_iff_eq_none]; exact h)]
      rcases stray_kind (cs := cs) l with ⟨h1, h2⟩ | ⟨q, h1, h2, h3⟩
      · refine .inl ⟨fun q hq => ?_, h2⟩
        rcases List.mem_cons.1 hq with rfl | hq
        · exact h
        · exact h1 q hq
      · exact .inr ⟨q, List.mem_cons_of_mem _ h1, h2, h3⟩
theorem early_kind {cs : List Cl} : ∀ (l : List Zop), (∀ r ∈ l, ∀ w, wOf cs r.value = some w → ¬ r.til < w.frm) ∧ earlyZ cs l = noBz ∨ ∃ r ∈ l, ∃ w, wOf cs r.value = some w ∧ r.til < w.frm ∧ earlyZ cs l = ⟨3, r.index, w.index⟩
  | [] => .inl ⟨fun r h => (by simp at h), rfl⟩
  | r :: l => by
    rw [earlyZ]
    have ih := early_kind (cs := cs) l
    cases h : wOf cs r.value with
    | none =>
      simp only
      rcases ih with ⟨h1, h2⟩ | ⟨q, h1, h2⟩
      · refine .inl ⟨fun q hq w hw => ?_, h2⟩
        rcases List.mem_cons.1 hq with rfl | hq
        · rw [h] at hw; cases hw
        · exact h1 q hq w hw
      · exact .inr ⟨q, List.mem_cons_of_mem _ h1, h2⟩
    | some w =>
      simp only
      by_cases hlt : r.til < w.frm
      · rw [if_pos hlt]
        exact .inr ⟨r, List.mem_cons_self, w, h, hlt, rfl⟩
      · rw [if_neg hlt]
        rcases ih with ⟨h1, h2⟩ | ⟨q, h1, h2⟩
        · refine .inl ⟨fun q hq w2 hw => ?_, h2⟩
          rcases List.mem_cons.1 hq with rfl | hq
          · rw [h] at hw; injection hw with hw; subst hw; exact hlt
          · exact h1 q hq w2 hw
        · exact .inr ⟨q, List.mem_cons_of_mem _ h1, h2⟩
theorem crossRow_kind (a : Zn) : ∀ (l : List Zn), (∀ b ∈ l, (a.fwd && b.fwd && lapZ a b) = false) ∧ crossRow a l = noBz ∨ ∃ b ∈ l, (a.fwd && b.fwd && lapZ a b) = true ∧ crossRow a l = ⟨4, a.value, b.value⟩
  | [] => .inl ⟨fun r h => (by simp at h), rfl⟩
  | b :: l => by
    rw [crossRow]
    by_cases h : (a.fwd && b.fwd && lapZ a b) = true
    · rw [if_pos h]; exact .inr ⟨b, List.mem_cons_self, h, rfl⟩
    · rw [if_neg h]
      rcases crossRow_kind a l with ⟨h1, h2⟩ | ⟨q, h1, h2⟩
      · refine .inl ⟨fun q hq => ?_, h2⟩
        rcases List.mem_cons.1 hq with rfl | hq
        · exact Bool.eq_false_iff.2 h
        · exact h1 q hq
      · exact .inr ⟨q, List.mem_cons_of_mem _ h1, h2⟩
theorem insideRow_kind (a : Zn) : ∀ (l : List Zn), (∀ b ∈ l, (a.fwd && !b.fwd && lapZ a b) = false) ∧ insideRow a l = noBz ∨ ∃ b ∈ l, (a.fwd && !b.fwd && lapZ a b) = true ∧ insideRow a l = ⟨5, a.value, b.value⟩
  | [] => .inl ⟨fun r h => (by simp at h), rfl⟩
  | b :: l => by
    rw [insideRow]
    by_cases h : (a.fwd && !b.fwd && lapZ a b) = true
    · rw [if_pos h]; exact .inr ⟨b, List.mem_cons_self, h, rfl⟩
    · rw [if_neg h]
      rcases insideRow_kind a l with ⟨h1, h2⟩ | ⟨q, h1, h2⟩
      · refine .inl ⟨fun q hq => ?_, h2⟩
        rcases List.mem_cons.1 hq with rfl | hq
        · exact Bool.eq_false_iff.2 h
        · exact h1 q hq
      · exact .inr ⟨q, List.mem_cons_of_mem _ h1, h2⟩
theorem lapZ_symm (a b : Zn) : lapZ a b = lapZ b a := by
  unfold lapZ
  rw [decide_eq_decide]
  exact and_comm
theorem cross_kind : ∀ (l : List Zn), l.Pairwise (fun a b => a.value < b.value) → ((∀ a ∈ l, ∀ b ∈ l, a.value ≠ b.value → (a.fwd && b.fwd && lapZ a b) = false) ∧ crossZ l = noBz ∨ ∃ a ∈ l, ∃ b ∈ l, a.value < b.value ∧ (a.fwd && b.fwd && lapZ a b) = true ∧ crossZ l = ⟨4, a.value, b.value⟩)
  | [], _ => .inl ⟨fun r h => (by simp at h), rfl⟩
  | a :: l, hp => by
    obtain ⟨hp1, hp2⟩ := List.pairwise_cons.1 hp
    rw [crossZ]
    rcases crossRow_kind a l with ⟨h1, h2⟩ | ⟨b, h1, h2, h3⟩
    · rw [h2, if_neg (by show ¬ (0 : Int) ≠ 0; simp)]
      rcases cross_kind l hp2 with ⟨h3, h4⟩ | ⟨x, h3, y, h4, h5⟩
      · refine .inl ⟨fun x hx y hy hxy => ?_, h4⟩
        rcases List.mem_cons.1 hx with rfl | hx2
        · rcases List.mem_cons.1 hy with rfl | hy
          · exact absurd rfl hxy
          · exact h1 y hy
        · rcases List.mem_cons.1 hy with rfl | hy2
          · rw [lapZ_symm, Bool.and_comm x.fwd y.fwd]
            exact h1 x hx2
          · exact h3 x hx2 y hy2 hxy
      · exact .inr ⟨x, List.mem_cons_of_mem _ h3, y, List.mem_cons_of_mem _ h4, h5⟩
    · rw [h3, if_pos (by show (4 : Int) ≠ 0; decide)]
      exact .inr ⟨a, List.mem_cons_self, b, List.mem_cons_of_mem _ h1, hp1 b h1, h2, rfl⟩
theorem inside_kind (all : List Zn) : ∀ (l : List Zn), (∀ a ∈ l, ∀ b ∈ all, (a.fwd && !b.fwd && lapZ a b) = false) ∧ insideZ all l = noBz ∨ ∃ a ∈ l, ∃ b ∈ all, (a.fwd && !b.fwd && lapZ a b) = true ∧ insideZ all l = ⟨5, a.value, b.value⟩
  | [] => .inl ⟨fun r h => (by simp at h), rfl⟩
  | a :: l => by
    rw [insideZ]
    rcases insideRow_kind a all with ⟨h1, h2⟩ | ⟨b, h1, h2, h3⟩
    · rw [h2, if_neg (by show ¬ (0 : Int) ≠ 0; simp)]
      rcases inside_kind all l with ⟨h3, h4⟩ | ⟨x, h3, y, h4, h5⟩
      · refine .inl ⟨fun x hx y hy => ?_, h4⟩
        rcases List.mem_cons.1 hx with rfl | hx
        · exact h1 y hy
        · exact h3 x hx y hy
      · exact .inr ⟨x, List.mem_cons_of_mem _ h3, y, h4, h5⟩
    · rw [h3, if_pos (by show (5 : Int) ≠ 0; decide)]
      exact .inr ⟨a, List.mem_cons_self, b, h1, h2, rfl⟩
section
variable {n : Nat} {cs : List Cl}
theorem RegH.zoneV (h : RegH n cs) {v : Int} {z : Zn} (hz : zoneV cs v = some z) : ∃ w, wOf cs v = some w ∧ z = ⟨v, zF v (rds 0 cs) w.til, zL v (rds 0 cs) w.frm, decide (zF v (rds 0 cs) w.til < zL v (rds 0 cs) w.frm)⟩ ∧ 0 ≤ v ∧ v ≤ 1000 := by
  unfold Go.Proofs.Ythjmncngegchjaa.zoneV at hz
  cases hw : wOf cs v with
  | none => rw [hw] at hz; cases hz
  | some w =>
    rw [hw] at hz
    simp only at hz
    split at hz
    · injection hz with hz
      have e : w.value = v ∧ 0 ≤ v ∧ v ≤ 1000 := by
        rcases h.wOf_some.1 hw with ⟨h1, rfl⟩ | ⟨h1, i, c, h2, h3, rfl⟩
        · exact ⟨h1.symm, by omega⟩
        · have h4 := isW_iff.1 h3
          rcases h.kind (List.mem_of_getElem? h2) with h5 | h5
          · exact ⟨h4.2, by omega⟩
          · omega
      refine ⟨w, rfl, ?_, e.2⟩
      rw [← hz]
      unfold zoneOf
      rw [e.1]
    · cases hz
theorem RegH.mem_zones (h : RegH n cs) {z : Zn} : z ∈ zonesL cs ↔ ∃ v, Go.Proofs.Ythjmncngegchjaa.zoneV cs v = some z := by
  unfold zonesL
  rw [List.mem_filterMap]
  constructor
  · rintro ⟨v, _, h1⟩
    exact ⟨_, h1⟩
  · rintro ⟨v, h1⟩
    obtain ⟨_, _, _, h2, h3⟩ := h.zoneV h1
    refine ⟨v.toNat, List.mem_range.2 (by omega), ?_⟩
    rw [show ((v.toNat : Nat) : Int) = v by omega]
    exact h1
theorem RegH.zones_up (h : RegH n cs) : (zonesL cs).Pairwise (fun a b => a.value < b.value) := by
  unfold zonesL
  rw [List.pairwise_filterMap]
  refine List.Pairwise.imp ?_ (List.pairwise_lt_range)
  intro v u hvu a ha b hb
  obtain ⟨_, _, e1, _⟩ := h.zoneV ha
  obtain ⟨_, _, e2, _⟩ := h.zoneV hb
  rw [e1, e2]
  show (v : Int) < (u : Int)
  omega
/-- Of a value that has a write, and a call that was answered, there is a zone. -/
theorem RegH.counts (h : RegH n cs) {v : Int} {w : Zop} (hw : wOf cs v = some w) (hx : ∃ x ∈ cs, hasV v x = true ∧ x.til ≠ -1) : Go.Proofs.Ythjmncngegchjaa.zoneV cs v = some ⟨v, zF v (rds 0 cs) w.til, zL v (rds 0 cs) w.frm, decide (zF v (rds 0 cs) w.til < zL v (rds 0 cs) w.frm)⟩ := by
  have hc : countsZ w (rds 0 cs) = true := by
    obtain ⟨x, h1, h2, h3⟩ := hx
    unfold countsZ
    rw [Bool.or_eq_true]
    rcases hasV_iff.1 h2 with h4 | ⟨h4, h5, h6⟩
    · left
      have h5 : v ≠ 0 := by rcases h.kind h1 with h6 | h6 <;> omega
      rcases h.wOf_some.1 hw with ⟨h7, _⟩ | ⟨_, i, c, h7, h8, rfl⟩
      · exact absurd h7 h5
      · obtain ⟨j, hj, rfl⟩ := List.getElem_of_mem h1
        have := h.once i j c _ h7 (List.getElem?_eq_getElem hj) (isW_iff.1 h8).1 h4.1 ((isW_iff.1 h8).2.trans h4.2.symm)
        subst this
        rw [List.getElem?_eq_getElem hj] at h7
        injection h7 with h7
        subst h7
        have hf := h.frm h1
        unfold wrZ
        rw [Bool.and_eq_true, bne_iff_ne, bne_iff_ne, if_neg h3]
        exact ⟨by show (cs[i]).arg ≠ 0; rw [h4.2]; exact h5, by show (cs[i]).til ≠ 200; omega⟩
    · right
      unfold zAny
      obtain ⟨j, hj, rfl⟩ := List.getElem_of_mem h1
      refine List.any_eq_true.2 ⟨_, (mem_rds cs 0).2 ⟨j, _, List.getElem?_eq_getElem hj, isR_iff.2 ⟨h4, h5⟩, rfl⟩, ?_⟩
      rw [beq_iff_eq]
      show (cs[j]).res = w.value
      rcases h.wOf_some.1 hw with ⟨h7, rfl⟩ | ⟨_, i, c, h7, h8, rfl⟩
      · exact h6.trans h7
      · exact h6.trans (isW_iff.1 h8).2.symm
  have e : w.value = v := by
    rcases h.wOf_some.1 hw with ⟨h1, rfl⟩ | ⟨h1, i, c, h2, h3, rfl⟩
    · exact h1.symm
    · exact (isW_iff.1 h3).2
  unfold Go.Proofs.Ythjmncngegchjaa.zoneV
  rw [hw]
  simp only
  rw [if_pos hc]
  unfold zoneOf
  rw [e]
/-- Where a read has a value that nobody wrote, that is told. -/
theorem RegH.stray (_h : RegH n cs) : (strayZ cs (rds 0 cs) = noBz ∧ ¬ StrayP cs) ∨ (StrayP cs ∧ ∃ (i : Nat) (c : Cl), cs[i]? = some c ∧ isR c = true ∧ c.res ≠ 0 ∧ (∀ d ∈ cs, isW c.res d = false) ∧ strayZ cs (rds 0 cs) = ⟨1, i, 0⟩) := by
  rcases stray_kind (cs := cs) (rds 0 cs) with ⟨h1, h2⟩ | ⟨r, h1, h2, h3⟩
  · refine .inl ⟨h2, ?_⟩
    rintro ⟨x, hx, h3, h4, h5⟩
    obtain ⟨j, hj, rfl⟩ := List.getElem_of_mem hx
    exact h1 _ ((mem_rds cs 0).2 ⟨j, _, List.getElem?_eq_getElem hj, h3, rfl⟩) (wOf_none.2 ⟨h4, h5⟩)
  · obtain ⟨i, c, h4, h5, rfl⟩ := (mem_rds cs 0).1 h1
    obtain ⟨h6, h7⟩ := wOf_none.1 h2
    refine .inr ⟨⟨c, List.mem_of_getElem? h4, h5, h6, h7⟩, i, c, h4, h5, h6, h7, ?_⟩
    rw [h3]
    show (⟨1, ((0 + i : Nat) : Int), 0⟩ : Bz) = _
    rw [Nat.zero_add]
theorem RegH.early (h : RegH n cs) : (earlyZ cs (rds 0 cs) = noBz ∧ ¬ EarlyP cs) ∨ (EarlyP cs ∧ ∃ (i : Nat) (c : Cl) (j : Nat) (d : Cl), cs[i]? = some c ∧ cs[j]? = some d ∧ isR c = true ∧ isW c.res d = true ∧ c.til < d.frm ∧ earlyZ cs (rds 0 cs) = ⟨3, i, j⟩) := by
  rcases early_kind (cs := cs) (rds 0 cs) with ⟨h1, h2⟩ | ⟨r, h1, w, h2, h3, h4⟩
  · refine .inl ⟨h2, ?_⟩
    rintro ⟨x, hx, h3, h4, c, hc, h5, h6⟩
    obtain ⟨i, hi, rfl⟩ := List.getElem_of_mem hx
    obtain ⟨j, hj, rfl⟩ := List.getElem_of_mem hc
    exact h1 _ ((mem_rds cs 0).2 ⟨i, _, List.getElem?_eq_getElem hi, h3, rfl⟩) (wrZ j cs[j]) (h.wOf_some.2 (.inr ⟨h4, j, _, List.getElem?_eq_getElem hj, h5, rfl⟩)) h6
  · obtain ⟨i, c, h5, h6, rfl⟩ := (mem_rds cs 0).1 h1
    have hc := List.mem_of_getElem? h5
    rcases h.wOf_some.1 h2 with ⟨h7, rfl⟩ | ⟨h7, j, d, h8, h9, rfl⟩
    · have := (h.frm hc).1
      have h10 : c.til < -1 := h3
      have := (h.frm hc).2.2.2
      omega
    · refine .inr ⟨⟨c, hc, h6, h7, d, List.mem_of_getElem? h8, h9, h3⟩, i, c, j, d, h5, h8, h6, h9, h3, ?_⟩
      rw [h4]
      show (⟨3, ((0 + i : Nat) : Int), ((j : Nat) : Int)⟩ : Bz) = _
      rw [Nat.zero_add]
theorem RegH.zone_pair (h : RegH n cs) {a b : Zn} (ha : a ∈ zonesL cs) (hb : b ∈ zonesL cs) : (a.first < b.last ↔ BefV cs a.value b.value) ∧ a.fwd = decide (a.first < a.last) := by
  obtain ⟨va, hva⟩ := h.mem_zones.1 ha
  obtain ⟨vb, hvb⟩ := h.mem_zones.1 hb
  obtain ⟨wa, h1, rfl, _⟩ := h.zoneV hva
  obtain ⟨wb, h2, rfl, _⟩ := h.zoneV hvb
  exact ⟨h.befV h1 h2, rfl⟩
/-- Where two values each have a call that is answered ahead of one of the other's, both have zones. -/
theorem RegH.zone_two (h : RegH n cs) (hs : ¬ StrayP cs) {a b : Int} (h1 : BefV cs a b) (h2 : BefV cs b a) : ∃ z ∈ zonesL cs, z.value = a := by
  have hw : wOf cs a ≠ none := by
    intro e
    obtain ⟨e1, e2⟩ := wOf_none.1 e
    obtain ⟨y, h3, h4, _⟩ := h2
    rcases hasV_iff.1 h4 with h5 | ⟨h5, h6, h7⟩
    · have := e2 y h3
      rw [isW_iff.2 h5] at this
      cases this
    · exact hs ⟨y, h3, isR_iff.2 ⟨h5, h6⟩, by rw [h7]; exact e1, by rw [h7]; exact e2⟩
  obtain ⟨w, hw⟩ := Option.ne_none_iff_exists'.1 hw
  refine ⟨_, h.mem_zones.2 ⟨a, h.counts hw ?_⟩, rfl⟩
  obtain ⟨y, h3, h4, h5 | ⟨x, h5, h6, h7, _⟩⟩ := h1
  · obtain ⟨y, h3, h4, _⟩ := h2
    refine ⟨y, h3, h4, ?_⟩
    rcases hasV_iff.1 h4 with h6 | h6
    · rcases h.kind h3 with h7 | h7 <;> omega
    · exact h6.2.1
  · exact ⟨x, h5, h6, h7⟩
theorem and3 {a b c : Bool} : (a && b && c) = true ↔ a = true ∧ b = true ∧ c = true := by
  cases a <;> cases b <;> cases c <;> decide
/-- What is told of zones is so. -/
theorem RegH.laps (h : RegH n cs) : (∀ a ∈ zonesL cs, ∀ b ∈ zonesL cs, a.value ≠ b.value → lapZ a b = true → BefV cs a.value b.value ∧ BefV cs b.value a.value ∧ (a.fwd = true ∨ b.fwd = true)) := by
  intro a ha b hb hne hl
  unfold lapZ at hl
  rw [decide_eq_true_iff] at hl
  refine ⟨(h.zone_pair ha hb).1.1 hl.1, (h.zone_pair hb ha).1.1 hl.2, ?_⟩
  rw [(h.zone_pair ha ha).2, (h.zone_pair hb hb).2, decide_eq_true_iff, decide_eq_true_iff]
  omega
/-- **What Check tells, by what there is.** -/
theorem RegH.bad (h : RegH n cs) : ((badZ cs).kind = 0 ∧ badZ cs = noBz ∧ ¬ StrayP cs ∧ ¬ EarlyP cs ∧ ¬ TwoP cs) ∨
    (StrayP cs ∧ ∃ (i : Nat) (c : Cl), cs[i]? = some c ∧ isR c = true ∧ c.res ≠ 0 ∧ (∀ d ∈ cs, isW c.res d = false) ∧ badZ cs = ⟨1, i, 0⟩) ∨
    (¬ StrayP cs ∧ EarlyP cs ∧ ∃ (i : Nat) (c : Cl) (j : Nat) (d : Cl), cs[i]? = some c ∧ cs[j]? = some d ∧ isR c = true ∧ isW c.res d = true ∧ c.til < d.frm ∧ badZ cs = ⟨3, i, j⟩) ∨
    (¬ StrayP cs ∧ ¬ EarlyP cs ∧ ∃ a ∈ zonesL cs, ∃ b ∈ zonesL cs, a.value ≠ b.value ∧ a.fwd = true ∧ b.fwd = true ∧ lapZ a b = true ∧ badZ cs = ⟨4, a.value, b.value⟩) ∨
    (¬ StrayP cs ∧ ¬ EarlyP cs ∧ (∀ a ∈ zonesL cs, ∀ b ∈ zonesL cs, a.value ≠ b.value → (a.fwd && b.fwd && lapZ a b) = false) ∧ ∃ a ∈ zonesL cs, ∃ b ∈ zonesL cs, a.value ≠ b.value ∧ a.fwd = true ∧ b.fwd = false ∧ lapZ a b = true ∧ badZ cs = ⟨5, a.value, b.value⟩) := by
  have o0 : ∀ y, orZ noBz y = y := fun y => rfl
  unfold badZ
  rcases h.stray with ⟨e1, s1⟩ | ⟨s1, i, c, h1, h2, h3, h4, e1⟩
  · rcases h.early with ⟨e2, s2⟩ | ⟨s2, i, c, j, d, h1, h2, h3, h4, h5, e2⟩
    · rw [e1, e2, o0, o0]
      rcases cross_kind (zonesL cs) h.zones_up with ⟨s3, e3⟩ | ⟨a, ha, b, hb, h1, h2, e3⟩
      · rw [e3, o0]
        rcases inside_kind (zonesL cs) (zonesL cs) with ⟨s4, e4⟩ | ⟨a, ha, b, hb, h2, e4⟩
        · left
          refine ⟨by rw [e4]; rfl, e4, s1, s2, ?_⟩
          rintro ⟨a, b, hab, h1, h2⟩
          obtain ⟨za, ha, hav⟩ := h.zone_two s1 h1 h2
          obtain ⟨zb, hb, hbv⟩ := h.zone_two s1 h2 h1
          have hl : lapZ za zb = true := by
            unfold lapZ
            rw [decide_eq_true_iff]
            exact ⟨(h.zone_pair ha hb).1.2 (by rw [hav, hbv]; exact h1), (h.zone_pair hb ha).1.2 (by rw [hav, hbv]; exact h2)⟩
          have h5 := s3 za ha zb hb (by rw [hav, hbv]; exact hab)
          have h6 := s4 za ha zb hb
          have h7 := s4 zb hb za ha
          rw [lapZ_symm] at h7
          rw [hl] at h5 h6 h7
          rcases (h.laps za ha zb hb (by rw [hav, hbv]; exact hab) hl).2.2 with h8 | h8 <;> cases h9 : za.fwd <;> cases h10 : zb.fwd <;> simp [h9, h10] at h5 h6 h7 h8
        · right; right; right; right
          obtain ⟨h3, h4, h5⟩ := and3.1 h2
          have hbf : b.fwd = false := by simpa using h4
          refine ⟨s1, s2, s3, a, ha, b, hb, fun he => ?_, h3, hbf, h5, e4⟩
          have h6 := (h.zone_pair ha hb)
          have h7 := (h.zone_pair hb ha)
          unfold lapZ at h5
          rw [decide_eq_true_iff] at h5
          obtain ⟨va, hva⟩ := h.mem_zones.1 ha
          obtain ⟨vb, hvb⟩ := h.mem_zones.1 hb
          obtain ⟨wa, k1, k2, _⟩ := h.zoneV hva
          obtain ⟨wb, k3, k4, _⟩ := h.zoneV hvb
          have k5 : va = vb := by rw [k2, k4] at he; exact he
          subst k5
          rw [hva] at hvb
          injection hvb with hvb
          subst hvb
          rw [h3] at hbf
          cases hbf
      · right; right; right; left
        obtain ⟨h3, h4, h5⟩ := and3.1 h2
        refine ⟨s1, s2, a, ha, b, hb, by omega, h3, h4, h5, ?_⟩
        rw [e3]
        rfl
    · right; right; left
      refine ⟨s1, s2, i, c, j, d, h1, h2, h3, h4, h5, ?_⟩
      rw [e1, o0, e2]
      rfl
  · right; left
    refine ⟨s1, i, c, h1, h2, h3, h4, ?_⟩
    rw [e1]
    rfl
/-- Nothing can't be just if there is none of the three. -/
theorem RegH.bad_iff (h : RegH n cs) : (badZ cs).kind = 0 ↔ ¬ StrayP cs ∧ ¬ EarlyP cs ∧ ¬ TwoP cs := by
  rcases h.bad with ⟨h1, _, h2⟩ | ⟨h1, i, c, _, _, _, _, e⟩ | ⟨_, h1, i, c, j, d, _, _, _, _, _, e⟩ | ⟨_, _, a, ha, b, hb, hne, _, _, hl, e⟩ | ⟨_, _, _, a, ha, b, hb, hne, _, _, hl, e⟩
  · exact ⟨fun _ => h2, fun _ => h1⟩
  · rw [e]; exact ⟨fun h0 => (by cases h0), fun h0 => absurd h1 h0.1⟩
  · rw [e]; exact ⟨fun h0 => (by cases h0), fun h0 => absurd h1 h0.2.1⟩
  · rw [e]
    obtain ⟨k1, k2, _⟩ := h.laps a ha b hb hne hl
    exact ⟨fun h0 => (by cases h0), fun h0 => absurd ⟨_, _, hne, k1, k2⟩ h0.2.2⟩
  · rw [e]
    obtain ⟨k1, k2, _⟩ := h.laps a ha b hb hne hl
    exact ⟨fun h0 => (by cases h0), fun h0 => absurd ⟨_, _, hne, k1, k2⟩ h0.2.2⟩
end
end Go.Proofs.Ythjmncngegchjaa
