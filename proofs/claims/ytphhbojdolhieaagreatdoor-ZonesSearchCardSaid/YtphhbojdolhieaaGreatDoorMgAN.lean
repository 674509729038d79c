/-
  Joined by a program out of: AheadPure, RiteDef.
-/
import Derived.Test.YtphhbojdolhieaaGreatDoorMgAM
import Derived.Test.YtphhbojdolhieaaGreatDoorMgAC
import Derived.Test.YtphhbojdolhieaaGreatDoorMgAA

/-
  A relation given by a test of two items, row by row; who is ahead of whom among calls.
-/
namespace Go.Proofs.YtphhbojdolhieaaGreatDoor
open Go.RowKit
set_option maxRecDepth 20000
def relP (p : Nat → Nat → Bool) (m : Nat) : Nat → Nat := fun i => if i < m then pickS (p i) m else 0
theorem relP_bit (p : Nat → Nat → Bool) (m i j : Nat) : (relP p m i).testBit j = (decide (i < m) && decide (j < m) && p i j) := by
  unfold relP
  by_cases h : i < m
  · rw [if_pos h, pickS_bit]; simp [h]
  · rw [if_neg h]; simp [h]
theorem relP_lt (p : Nat → Nat → Bool) {m : Nat} (hm : m ≤ 12) (i : Nat) : relP p m i < 65536 := by
  unfold relP
  split
  · exact pickS_lt16 _ hm
  · omega
/-- The relation behind k whole rows and the first j of row k. -/
def upP (p : Nat → Nat → Bool) (m k j : Nat) : Nat → Nat := fun i => if i < k then pickS (p i) m else if i = k then pickS (p k) j else 0
theorem upP_end (p : Nat → Nat → Bool) (m k : Nat) : upP p m k m = upP p m (k + 1) 0 := by
  funext i
  unfold upP
  by_cases h1 : i < k
  · rw [if_pos h1, if_pos (by omega)]
  · rw [if_neg h1]
    by_cases h2 : i = k
    · subst h2; rw [if_pos rfl, if_pos (by omega)]
    · rw [if_neg h2, if_neg (by omega)]
      by_cases h3 : i = k + 1
      · rw [if_pos h3]; rfl
      · rw [if_neg h3]
theorem upP_step (p : Nat → Nat → Bool) (m k j : Nat) : upP p m k (j + 1) = if p k j = true then (fun i => if i = k then upP p m k j k ||| 2 ^ j else upP p m k j i) else upP p m k j := by
  have hs : pickS (p k) (j + 1) = if p k j = true then pickS (p k) j ||| 2 ^ j else pickS (p k) j := by
    apply Nat.eq_of_testBit_eq
    intro i
    rw [pickS_bit]
    by_cases h : p k j = true
    · rw [if_pos h, Nat.testBit_or, pickS_bit, Nat.testBit_two_pow]
      by_cases e : j = i
      · subst e; simp [h]
      · simp [e, show i < j + 1 ↔ i < j by omega]
    · rw [if_neg h, pickS_bit]
      by_cases e : i = j
      · subst e; simp [h]
      · simp [show i < j + 1 ↔ i < j by omega]
  by_cases h : p k j = true
  · rw [if_pos h] at hs ⊢
    funext i
    unfold upP
    by_cases h1 : i = k
    · subst h1; simp [hs]
    · simp [h1]
  · rw [if_neg h] at hs ⊢
    funext i
    unfold upP
    rw [hs]
theorem upP_lt (p : Nat → Nat → Bool) (m k j : Nat) (hm : m ≤ 12) (hj : j ≤ 12) (i : Nat) : upP p m k j i < 65536 := by
  unfold upP
  split
  · exact pickS_lt16 _ hm
  · split
    · exact pickS_lt16 _ hj
    · omega
theorem upP_all (p : Nat → Nat → Bool) (m : Nat) : upP p m m 0 = relP p m := by
  funext i
  unfold upP relP
  by_cases h : i < m
  · rw [if_pos h, if_pos h]
  · rw [if_neg h, if_neg h]
    split <;> rfl
theorem upP_none (p : Nat → Nat → Bool) (m : Nat) : upP p m 0 0 = fun _ => 0 := by
  funext i
  unfold upP
  rw [if_neg (by omega)]
  split <;> rfl
/-- Is call i answered ahead of call j? -/
def aheadB (l : List Cl) (i j : Nat) : Bool := decide ((l.getD i default).til ≠ -1 ∧ (l.getD i default).til < (l.getD j default).frm)
theorem aheadB_at {l : List Cl} {i j : Nat} {x y : Cl} (hx : l[i]? = some x) (hy : l[j]? = some y) : aheadB l i j = decide (x.til ≠ -1 ∧ x.til < y.frm) := by
  unfold aheadB
  rw [List.getD_eq_getElem?_getD, hx, List.getD_eq_getElem?_getD, hy]
  rfl
end Go.Proofs.YtphhbojdolhieaaGreatDoor

/-
  Plain: what a right order is.
-/
namespace Go.Proofs.YtphhbojdolhieaaGreatDoor
open Go.RowKit
set_option maxRecDepth 20000
/-- The call that a step names. -/
def atC (cs : List Cl) (x : Int × Int) : Cl := cs.getD x.1.toNat default
/-- What a step does at its thing. -/
def ddC (cs : List Cl) (x : Int × Int) : Dd := ⟨(atC cs x).kind, (atC cs x).arg, x.2⟩
/-- What is done at thing t. -/
def ownD (cs : List Cl) (t : Nat) (ws : List (Int × Int)) : List Dd := (ws.filter fun x => (atC cs x).thing.toNat == t).map (ddC cs)
/-- May all of it be, one behind the other? -/
def goesB (typ : Int) : List Int → List Dd → Bool
  | _, [] => true
  | s, d :: r => (stepO typ s d.kind d.arg).2.2 == 0 && ((stepO typ s d.kind d.arg).2.1 == d.res && goesB typ (stepO typ s d.kind d.arg).1 r)
theorem goes_cons {typ : Int} {s : List Int} {d : Dd} {r : List Dd} : goesB typ s (d :: r) = true ↔ (stepO typ s d.kind d.arg).2.2 = 0 ∧ (stepO typ s d.kind d.arg).2.1 = d.res ∧ goesB typ (stepO typ s d.kind d.arg).1 r = true := by
  rw [goesB, Bool.and_eq_true, Bool.and_eq_true, beq_iff_eq, beq_iff_eq]
theorem ownD_cons (cs : List Cl) (t : Nat) (x : Int × Int) (r : List (Int × Int)) : ownD cs t (x :: r) = if (atC cs x).thing.toNat = t then ddC cs x :: ownD cs t r else ownD cs t r := by
  unfold ownD
  by_cases h : (atC cs x).thing.toNat = t
  · rw [if_pos h, List.filter_cons_of_pos (by rw [beq_iff_eq]; exact h)]; rfl
  · rw [if_neg h, List.filter_cons_of_neg (by rw [beq_iff_eq]; exact h)]
/-- A right order, where p says who must stand ahead of whom. -/
structure RiteP (ts : List Int) (cs : List Cl) (p : Nat → Nat → Bool) (ws : List (Int × Int)) : Prop where
  rng : ∀ x ∈ ws, 0 ≤ x.1 ∧ x.1 < cs.length
  once : (ws.map (·.1)).Nodup
  res : ∀ x ∈ ws, (atC cs x).til ≠ -1 → (atC cs x).res = x.2
  all : ∀ i, i < cs.length → (cs.getD i default).til ≠ -1 → (i : Int) ∈ ws.map (·.1)
  ord : ∀ i j, i < cs.length → j < cs.length → p i j = true → ∀ a y b, ws = a ++ y :: b → y.1 = (j : Int) → (i : Int) ∈ a.map (·.1)
  goes : ∀ t, t < ts.length → goesB (ts.getD t 0) (beginL (ts.getD t 0)) (ownD cs t ws) = true
theorem atC_thing {ts : List Int} {cs : List Cl} (hth : ∀ c, c ∈ cs → 0 ≤ c.thing ∧ c.thing < ts.length) {x : Int × Int} (h : 0 ≤ x.1 ∧ x.1 < cs.length) : 0 ≤ (atC cs x).thing ∧ (atC cs x).thing < ts.length := by
  unfold atC
  rw [List.getD_eq_getElem?_getD, List.getElem?_eq_getElem (by omega : x.1.toNat < cs.length)]
  exact hth _ (List.getElem_mem _)
theorem ownD_none {ts : List Int} {cs : List Cl} (hth : ∀ c, c ∈ cs → 0 ≤ c.thing ∧ c.thing < ts.length) {ws : List (Int × Int)} (h : ∀ x ∈ ws, 0 ≤ x.1 ∧ x.1 < cs.length) {t : Nat} (ht : ts.length ≤ t) : ownD cs t ws = [] := by
  unfold ownD
  rw [List.filter_eq_nil_iff.2 fun x hx => ?_]
  · rfl
  · have := atC_thing hth (h x hx)
    rw [beq_iff_eq]
    omega
theorem once_at {ws : List (Int × Int)} (h : (ws.map (·.1)).Nodup) {i j : Nat} {x y : Int × Int} (hx : ws[i]? = some x) (hy : ws[j]? = some y) (e : x.1 = y.1) : i = j := by
  have h1 : (ws.map (·.1))[i]? = some x.1 := by rw [List.getElem?_map, hx]; rfl
  have h2 : (ws.map (·.1))[j]? = some y.1 := by rw [List.getElem?_map, hy]; rfl
  obtain ⟨i1, e1⟩ := List.getElem?_eq_some_iff.1 h1
  obtain ⟨i2, e2⟩ := List.getElem?_eq_some_iff.1 h2
  rcases Nat.lt_trichotomy i j with hlt | heq | hgt
  · exact absurd (by rw [e1, e2, e]) (List.pairwise_iff_getElem.1 h i j i1 i2 hlt)
  · exact heq
  · exact absurd (by rw [e1, e2, e]) (List.pairwise_iff_getElem.1 h j i i2 i1 hgt)
end Go.Proofs.YtphhbojdolhieaaGreatDoor
