/-
  Joined by a program out of: SpanPure, AheadPure, LinPure, LinKey, LinShelf.
-/
import Derived.WalkKit
import Derived.Test.YtecpjeililiafaaDoorMgAA
import Derived.Test.YtecpjeililiafaaDoorMgAC
import Derived.Lib.ItoaMem
import Derived.Test.YtecpjeililiafaaDoorProg
import Derived.Shelf.Strconv.AppendIntPublic10

/-
  Plain mathematics for package spans: m spans, from F i to T i. No Go, no program.
-/
namespace Go.Proofs.YtecpjeililiafaaDoor
open Go.RowKit
set_option maxRecDepth 20000

def spOk (F T : Nat → Int) (i : Nat) : Bool := decide (0 ≤ F i ∧ F i ≤ T i ∧ T i ≤ 1000000)
def spAll (F T : Nat → Int) : Nat → Bool
  | 0 => true
  | k + 1 => spAll F T k && spOk F T k
/-- What Check answers. -/
def spErr (m : Nat) (F T : Nat → Int) : Int := if 12 < m then 2 else if spAll F T m = true then 0 else 3
theorem spAll_iff (F T : Nat → Int) : ∀ m, spAll F T m = true ↔ ∀ i, i < m → spOk F T i = true
  | 0 => by simp [spAll]
  | m + 1 => by
    rw [spAll, Bool.and_eq_true, spAll_iff F T m]
    constructor
    · rintro ⟨h1, h2⟩ i hi
      rcases Nat.lt_or_ge i m with h | h
      · exact h1 i h
      · obtain rfl : i = m := by omega
        exact h2
    · exact fun h => ⟨fun i hi => h i (by omega), h m (by omega)⟩
theorem spErr_zero {m : Nat} {F T : Nat → Int} : spErr m F T = 0 ↔ m ≤ 12 ∧ ∀ i, i < m → spOk F T i = true := by
  unfold spErr
  rw [← spAll_iff]
  split
  · constructor
    · intro h; omega
    · intro h; omega
  · split
    · exact ⟨fun _ => ⟨by omega, by assumption⟩, fun _ => rfl⟩
    · exact ⟨fun h => by omega, fun h => by simp_all⟩
theorem spErr_ways (m : Nat) (F T : Nat → Int) : spErr m F T = 0 ∨ (spErr m F T != 0) = true := by
  unfold spErr
  repeat' split
  all_goals simp

/-- The set of the items below m of which p holds. -/
def pickS (p : Nat → Bool) : Nat → Nat
  | 0 => 0
  | m + 1 => if p m = true then pickS p m ||| 2 ^ m else pickS p m
theorem pickS_bit (p : Nat → Bool) (i : Nat) : ∀ m, (pickS p m).testBit i = (decide (i < m) && p i)
  | 0 => by simp [pickS]
  | m + 1 => by
    rw [pickS]
    have ih := pickS_bit p i m
    by_cases e : m = i
    · subst e
      cases hp : p m
      · simp [ih, hp]
      · simp
    · have : decide (i < m + 1) = decide (i < m) := by simp; omega
      rw [this, ← ih]
      split
      · rw [Nat.testBit_or, Nat.testBit_two_pow]; simp [e]
      · rfl
theorem pickS_lt (p : Nat → Bool) : ∀ m, pickS p m < 2 ^ m
  | 0 => by simp [pickS]
  | m + 1 => by
    have ih := pickS_lt p m
    rw [pickS]
    split
    · exact Nat.or_lt_two_pow (Nat.lt_trans ih (Nat.pow_lt_pow_right (by omega) (by omega))) (Nat.pow_lt_pow_right (by omega) (by omega))
    · exact Nat.lt_trans ih (Nat.pow_lt_pow_right (by omega) (by omega))
theorem pickS_lt16 (p : Nat → Bool) {m : Nat} (hm : m ≤ 12) : pickS p m < 65536 :=
  Nat.lt_of_lt_of_le (pickS_lt p m) (Nat.le_trans (Nat.pow_le_pow_right (by omega) hm) (by decide))
theorem pickS_congr {p q : Nat → Bool} : ∀ {m : Nat}, (∀ i, i < m → p i = q i) → pickS p m = pickS q m
  | 0, _ => rfl
  | m + 1, h => by rw [pickS, pickS, pickS_congr (fun i hi => h i (by omega)), h m (by omega)]

/-- Whom span i precedes. -/
def spRow (m : Nat) (F T : Nat → Int) (i : Nat) : Nat := pickS (fun j => decide (T i < F j)) m
def spRel (m : Nat) (F T : Nat → Int) (i : Nat) : Nat := if i < m then spRow m F T i else 0
theorem spRel_lt (m : Nat) (F T : Nat → Int) (hm : m ≤ 12) (i : Nat) : spRel m F T i < 65536 := by
  unfold spRel
  split
  · exact pickS_lt16 _ hm
  · decide
theorem spRel_bit (m : Nat) (F T : Nat → Int) (i j : Nat) : (spRel m F T i).testBit j = (decide (i < m) && decide (j < m) && decide (T i < F j)) := by
  unfold spRel spRow
  split
  · rename_i h
    rw [pickS_bit]; simp [h]
  · rename_i h
    simp [h]

/-- How many of the first k spans hold the time t. -/
def cntAt (F T : Nat → Int) (t : Int) : Nat → Nat
  | 0 => 0
  | k + 1 => cntAt F T t k + if F k ≤ t ∧ t ≤ T k then 1 else 0
theorem cntAt_le (F T : Nat → Int) (t : Int) : ∀ k, cntAt F T t k ≤ k
  | 0 => Nat.le_refl _
  | k + 1 => by
    have := cntAt_le F T t k
    rw [cntAt]
    split <;> omega
/-- The best time, and how many hold it, behind k rounds. -/
def bestUp (m : Nat) (F T : Nat → Int) : Nat → Int × Nat
  | 0 => (0, 0)
  | k + 1 => if (bestUp m F T k).2 < cntAt F T (F k) m ∨ (cntAt F T (F k) m = (bestUp m F T k).2 ∧ F k < (bestUp m F T k).1) then (F k, cntAt F T (F k) m) else bestUp m F T k
theorem bestUp_le (m : Nat) (F T : Nat → Int) : ∀ k, (bestUp m F T k).2 ≤ m
  | 0 => Nat.zero_le _
  | k + 1 => by
    rw [bestUp]
    split
    · exact cntAt_le _ _ _ _
    · exact bestUp_le m F T k
end Go.Proofs.YtecpjeililiafaaDoor

/-
  A relation given by a test of two items, row by row; who is ahead of whom among calls.
-/
namespace Go.Proofs.YtecpjeililiafaaDoor
open Go.RowKit
set_option maxRecDepth 20000

def relP (p : Nat → Nat → Bool) (m : Nat) : Nat → Nat := fun i => if i < m then pickS (p i) m else 0
theorem relP_bit (p : Nat → Nat → Bool) (m i j : Nat) : (relP p m i).testBit j = (decide (i < m) && decide (j < m) && p i j) := by
  unfold relP
  by_cases h : i < m
  · rw [if_pos h, pickS_bit]; simp [h]
  · rw [if_neg h]; simp [h]
theorem relP_lt (p : Nat → Nat → Bool) {m : Nat} (hm : m ≤ 12) (i : Nat) : relP p m i < 65536 := by
  unfold relP
  split
  · exact pickS_lt16 _ hm
  · omega
/-- The relation behind k whole rows and the first j of row k. -/
def upP (p : Nat → Nat → Bool) (m k j : Nat) : Nat → Nat := fun i => if i < k then pickS (p i) m else if i = k then pickS (p k) j else 0
theorem upP_end (p : Nat → Nat → Bool) (m k : Nat) : upP p m k m = upP p m (k + 1) 0 := by
  funext i
  unfold upP
  by_cases h1 : i < k
  · rw [if_pos h1, if_pos (by omega)]
  · rw [if_neg h1]
    by_cases h2 : i = k
    · subst h2; rw [if_pos rfl, if_pos (by omega)]
    · rw [if_neg h2, if_neg (by omega)]
      by_cases h3 : i = k + 1
      · rw [if_pos h3]; rfl
      · rw [if_neg h3]
theorem upP_step (p : Nat → Nat → Bool) (m k j : Nat) : upP p m k (j + 1) = if p k j = true then (fun i => if i = k then upP p m k j k ||| 2 ^ j else upP p m k j i) else upP p m k j := by
  have hs : pickS (p k) (j + 1) = if p k j = true then pickS (p k) j ||| 2 ^ j else pickS (p k) j := by
    apply Nat.eq_of_testBit_eq
    intro i
    rw [pickS_bit]
    by_cases h : p k j = true
    · rw [if_pos h, Nat.testBit_or, pickS_bit, Nat.testBit_two_pow]
      by_cases e : j = i
      · subst e; simp [h]
      · simp [e, show i < j + 1 ↔ i < j by omega]
    · rw [if_neg h, pickS_bit]
      by_cases e : i = j
      · subst e; simp [h]
      · simp [show i < j + 1 ↔ i < j by omega]
  by_cases h : p k j = true
  · rw [if_pos h] at hs ⊢
    funext i
    unfold upP
    by_cases h1 : i = k
    · subst h1; simp [hs]
    · simp [h1]
  · rw [if_neg h] at hs ⊢
    funext i
    unfold upP
    rw [hs]
theorem upP_lt (p : Nat → Nat → Bool) (m k j : Nat) (hm : m ≤ 12) (hj : j ≤ 12) (i : Nat) : upP p m k j i < 65536 := by
  unfold upP
  split
  · exact pickS_lt16 _ hm
  · split
    · exact pickS_lt16 _ hj
    · omega
theorem upP_all (p : Nat → Nat → Bool) (m : Nat) : upP p m m 0 = relP p m := by
  funext i
  unfold upP relP
  by_cases h : i < m
  · rw [if_pos h, if_pos h]
  · rw [if_neg h, if_neg h]
    split <;> rfl
theorem upP_none (p : Nat → Nat → Bool) (m : Nat) : upP p m 0 0 = fun _ => 0 := by
  funext i
  unfold upP
  rw [if_neg (by omega)]
  split <;> rfl

/-- Is call i answered ahead of call j? -/
def aheadB (l : List Cl) (i j : Nat) : Bool := decide ((l.getD i default).til ≠ -1 ∧ (l.getD i default).til < (l.getD j default).frm)
theorem aheadB_at {l : List Cl} {i j : Nat} {x y : Cl} (hx : l[i]? = some x) (hy : l[j]? = some y) : aheadB l i j = decide (x.til ≠ -1 ∧ x.til < y.frm) := by
  unfold aheadB
  rw [List.getD_eq_getElem?_getD, hx, List.getD_eq_getElem?_getD, hy]
  rfl
end Go.Proofs.YtecpjeililiafaaDoor

/-
  Plain mathematics for package search: points, what may come next, the least order from a point on.
-/
namespace Go.Proofs.YtecpjeililiafaaDoor
open Go.RowKit
set_option maxRecDepth 20000
variable {Rl : Nat → Nat → Bool}

/-- Where some calls, one behind the other, have led to. -/
structure Pt where
  done : Nat
  st : Nat → List Int
/-- What must be done ahead of each call. -/
def befP (Rl : Nat → Nat → Bool) (cs : List Cl) : Nat → Nat := relP (fun j i => Rl i j) cs.length
/-- Who was answered. -/
def ansP (cs : List Cl) : Nat := pickS (fun i => decide ((cs.getD i default).til ≠ -1)) cs.length
/-- Does nothing have to follow? -/
def fullB (cs : List Cl) (p : Pt) : Bool := ansP cs &&& (65535 - p.done) == 0
/-- What the thing of a call makes of it. -/
def thingO (ts : List Int) (cs : List Cl) (p : Pt) (k : Nat) : List Int × Int × Int :=
  stepO (ts.getD (cs.getD k default).thing.toNat 0) (p.st (cs.getD k default).thing.toNat) (cs.getD k default).kind (cs.getD k default).arg
/-- The point behind call k. -/
def nextP (ts : List Int) (cs : List Cl) (p : Pt) (k : Nat) : Pt :=
  ⟨p.done ||| 2 ^ k, fun t => if t = (cs.getD k default).thing.toNat then (thingO ts cs p k).1 else p.st t⟩
/-- May call k come next? -/
def mayB (Rl : Nat → Nat → Bool) (ts : List Int) (cs : List Cl) (p : Pt) (k : Nat) : Bool :=
  !p.done.testBit k && (befP Rl cs k &&& (65535 - p.done) == 0) && ((thingO ts cs p k).2.2 == 0) && ((cs.getD k default).til == -1 || (thingO ts cs p k).2.1 == (cs.getD k default).res)
/-- Numbers from k on, m of them: the first that may come next, and from which the rest goes on. -/
def tryO (Rl : Nat → Nat → Bool) (go : Pt → Option (List (Nat × Int))) (ts : List Int) (cs : List Cl) (p : Pt) : Nat → Nat → Option (List (Nat × Int))
  | 0, _ => none
  | m + 1, k => if mayB Rl ts cs p k = true then (match go (nextP ts cs p k) with
    | some l => some ((k, (thingO ts cs p k).2.1) :: l)
    | none => tryO Rl go ts cs p m (k + 1)) else tryO Rl go ts cs p m (k + 1)
/-- The least order from a point on; at most f more calls. -/
def findO (Rl : Nat → Nat → Bool) (ts : List Int) (cs : List Cl) : Nat → Pt → Option (List (Nat × Int))
  | 0, p => if fullB cs p = true then some [] else none
  | f + 1, p => if fullB cs p = true then some [] else tryO Rl (findO Rl ts cs f) ts cs p cs.length 0
/-- How many calls are left. -/
def leftN (n : Nat) (p : Pt) : Nat := (List.range n).countP fun k => !p.done.testBit k
/-- The point ahead of all calls. -/
def startP (ts : List Int) : Pt := ⟨0, fun t => if t < ts.length then beginL (ts.getD t 0) else []⟩
theorem countP_less {n k : Nat} {p q : Nat → Bool} (hk : k < n) (hp : p k = true) (hq : q k = false) (h : ∀ j, j ≠ k → q j = p j) : (List.range n).countP p = (List.range n).countP q + 1 := by
  induction n with
  | zero => omega
  | succ n ih =>
    rw [List.range_succ, List.countP_append, List.countP_append]
    simp only [List.countP_cons, List.countP_nil]
    by_cases e : k = n
    · subst e
      rw [hp, hq]
      have : (List.range k).countP p = (List.range k).countP q := by
        apply List.countP_congr
        intro j hj
        rw [h j (by have := List.mem_range.1 hj; omega)]
      simp only [Bool.false_eq_true, if_false, if_true]
      omega
    · have := ih (by omega)
      rw [h n (by omega)]
      omega
theorem left_next {ts : List Int} {cs : List Cl} {p : Pt} {n k : Nat} (hk : k < n) (h : p.done.testBit k = false) : leftN n p = leftN n (nextP ts cs p k) + 1 := by
  unfold leftN nextP
  refine countP_less hk (by rw [h]; rfl) (by simp) (fun j hj => ?_)
  simp only [Nat.testBit_or, Nat.testBit_two_pow]
  rw [decide_eq_false (by omega), Bool.or_false]
theorem may_done {ts : List Int} {cs : List Cl} {p : Pt} {k : Nat} (h : mayB Rl ts cs p k = true) : p.done.testBit k = false := by
  unfold mayB at h
  simp only [Bool.and_eq_true, Bool.not_eq_true'] at h
  exact h.1.1.1
/-- What a search finds hangs on the calls done, and on the states of things that there are, alone. -/
theorem try_congr {go go' : Pt → Option (List (Nat × Int))} {ts : List Int} {cs : List Cl} {p q : Pt} (hd : p.done = q.done) (hst : p.st = q.st) (hgo : ∀ r, go r = go' r) : ∀ m k, tryO Rl go ts cs p m k = tryO Rl go' ts cs q m k := by
  have : p = q := by cases p; cases q; simp at hd hst; subst hd; subst hst; rfl
  subst this
  intro m
  induction m with
  | zero => intro k; rfl
  | succ m ih => intro k; rw [tryO, tryO, hgo, ih]
end Go.Proofs.YtecpjeililiafaaDoor

/-
  Plain: a point's letters tell the point.
-/
namespace Go.Proofs.YtecpjeililiafaaDoor
open Go.RowKit
set_option maxRecDepth 20000

/-- What a row of digits comes to. -/
def valL (l : List UInt8) : Nat := l.foldl (fun a d => a * 10 + (d.toNat - 48)) 0
theorem digit_nat {d : Nat} (h : d < 10) : (UInt8.ofNat (48 + d)).toNat = 48 + d := by
  rw [UInt8.toNat_ofNat']
  omega
theorem dec_val (u : Nat) : valL (Lib.decDigits u) = u := by
  induction u using Nat.strongRecOn with
  | ind u ih =>
    rw [Lib.decDigits]
    split
    · rename_i h
      unfold valL
      simp only [List.foldl_cons, List.foldl_nil]
      rw [digit_nat h]
      omega
    · rename_i h
      have := ih (u / 10) (by omega)
      unfold valL at this ⊢
      rw [List.foldl_append, this]
      simp only [List.foldl_cons, List.foldl_nil]
      rw [digit_nat (Nat.mod_lt _ (by omega))]
      omega
theorem dec_digit (u : Nat) : ∀ d, d ∈ Lib.decDigits u → 48 ≤ d.toNat ∧ d.toNat ≤ 57 := by
  induction u using Nat.strongRecOn with
  | ind u ih =>
    intro d hd
    rw [Lib.decDigits] at hd
    split at hd
    · rename_i h
      rw [List.mem_singleton] at hd
      subst hd
      rw [digit_nat h]
      omega
    · rename_i h
      rcases List.mem_append.1 hd with hd | hd
      · exact ih (u / 10) (by omega) d hd
      · rw [List.mem_singleton] at hd
        subst hd
        rw [digit_nat (Nat.mod_lt _ (by omega))]
        omega
theorem dec_ne (u : Nat) : Lib.decDigits u ≠ [] := by
  rw [Lib.decDigits]
  split
  · exact List.cons_ne_nil _ _
  · simp
theorem dec_inj {u v : Nat} (h : Lib.decDigits u = Lib.decDigits v) : u = v := by rw [← dec_val u, h, dec_val]
theorem itoa_inj {a b : Int} (h : Lib.itoa a = Lib.itoa b) : a = b := by
  unfold Lib.itoa at h
  have key : ∀ u v : Nat, (45 : UInt8) :: Lib.decDigits u ≠ Lib.decDigits v := fun u v e => by
    have := dec_digit v 45 (by rw [← e]; exact List.mem_cons_self ..)
    exact absurd this.1 (by decide)
  split at h
  · split at h
    · injection h with _ h
      have := dec_inj h
      omega
    · exact absurd h (key _ _)
  · split at h
    · exact absurd h.symm (key _ _)
    · have := dec_inj h
      omega
/-- Is it between two numbers? -/
def sepB (d : UInt8) : Bool := d == 32 || d == 59
theorem itoa_sep (a : Int) : ∀ d, d ∈ Lib.itoa a → sepB d = false := by
  intro d hd
  have key : ∀ u : Nat, d ∈ Lib.decDigits u → sepB d = false := fun u h => by
    have := dec_digit u d h
    unfold sepB
    rw [Bool.or_eq_false_iff]
    constructor
    · rw [beq_eq_false_iff_ne]; rintro rfl; exact absurd this.1 (by decide)
    · rw [beq_eq_false_iff_ne]; rintro rfl; exact absurd this.2 (by decide)
  unfold Lib.itoa at hd
  split at hd
  · rcases List.mem_cons.1 hd with rfl | hd
    · rfl
    · exact key _ hd
  · exact key _ hd
/-- Nothing, or what begins between two numbers. -/
def HeadS (l : List UInt8) : Prop := ∀ d r, l = d :: r → sepB d = true
theorem cut_same : ∀ {a b x y : List UInt8}, (∀ d, d ∈ a → sepB d = false) → (∀ d, d ∈ b → sepB d = false) → HeadS x → HeadS y → a ++ x = b ++ y → a = b ∧ x = y
  | [], [], x, y, _, _, _, _, h => ⟨rfl, h⟩
  | [], d :: b, x, y, _, hb, hx, _, h => by
    rw [List.nil_append, List.cons_append] at h
    have h1 := hx d _ h
    rw [hb d (List.mem_cons_self ..)] at h1
    cases h1
  | d :: a, [], x, y, ha, _, _, hy, h => by
    rw [List.nil_append, List.cons_append] at h
    have h1 := hy d _ h.symm
    rw [ha d (List.mem_cons_self ..)] at h1
    cases h1
  | d :: a, e :: b, x, y, ha, hb, hx, hy, h => by
    rw [List.cons_append, List.cons_append] at h
    injection h with h1 h2
    obtain ⟨h3, h4⟩ := cut_same (fun d hd => ha d (List.mem_cons_of_mem _ hd)) (fun d hd => hb d (List.mem_cons_of_mem _ hd)) hx hy h2
    exact ⟨by rw [h1, h3], h4⟩
/-- A state's letters. -/
def rowB8 : List Int → List UInt8
  | [] => []
  | x :: r => 32 :: (Lib.itoa x ++ rowB8 r)
theorem rowB8_snoc : ∀ (l : List Int) (x : Int), rowB8 (l ++ [x]) = rowB8 l ++ 32 :: Lib.itoa x
  | [], x => by simp [rowB8]
  | y :: r, x => by rw [List.cons_append, rowB8, rowB8, rowB8_snoc r x]; simp
/-- Nothing, or what begins behind a state. -/
def HeadE (l : List UInt8) : Prop := l = [] ∨ ∃ r, l = 59 :: r
theorem HeadE.sep {l : List UInt8} (h : HeadE l) : HeadS l := by
  intro d r e
  rcases h with rfl | ⟨r', rfl⟩
  · cases e
  · injection e with e _; subst e; rfl
theorem row_head {l : List Int} {x : List UInt8} (h : HeadE x) : HeadS (rowB8 l ++ x) := by
  cases l with
  | nil => exact h.sep
  | cons y r =>
    intro d r' e
    rw [rowB8, List.cons_append] at e
    injection e with e _
    subst e
    rfl
theorem row_same : ∀ {a b : List Int} {x y : List UInt8}, HeadE x → HeadE y → rowB8 a ++ x = rowB8 b ++ y → a = b ∧ x = y
  | [], [], x, y, _, _, h => ⟨rfl, h⟩
  | [], e :: b, x, y, hx, _, h => by
    rw [rowB8, rowB8, List.nil_append, List.cons_append] at h
    rcases hx with rfl | ⟨r, rfl⟩
    · cases h
    · injection h with h _; exact absurd h (by decide)
  | e :: a, [], x, y, _, hy, h => by
    rw [rowB8, rowB8, List.nil_append, List.cons_append] at h
    rcases hy with rfl | ⟨r, rfl⟩
    · cases h
    · injection h with h _; exact absurd h (by decide)
  | d :: a, e :: b, x, y, hx, hy, h => by
    rw [rowB8, rowB8, List.cons_append, List.cons_append, List.append_assoc, List.append_assoc] at h
    injection h with _ h
    obtain ⟨h1, h2⟩ := cut_same (itoa_sep d) (itoa_sep e) (row_head hx) (row_head hy) h
    obtain ⟨h3, h4⟩ := row_same hx hy h2
    exact ⟨by rw [itoa_inj h1, h3], h4⟩
/-- The letters of the first m states, each behind a 59. -/
def rowsB8 (st : Nat → List Int) : Nat → List UInt8
  | 0 => []
  | m + 1 => rowsB8 st m ++ 59 :: rowB8 (st m)
/-- A point's letters. -/
def keyB (p : Pt) : List UInt8 := Lib.decDigits p.done ++ rowsB8 p.st 4
theorem head_e (l : List UInt8) : HeadE (59 :: l) := .inr ⟨l, rfl⟩
theorem key_same {p q : Pt} (h : keyB p = keyB q) : p.done = q.done ∧ ∀ i, i < 4 → p.st i = q.st i := by
  unfold keyB at h
  simp only [rowsB8, List.nil_append, List.append_assoc, List.cons_append] at h
  have hd : ∀ u : Nat, ∀ d, d ∈ Lib.decDigits u → sepB d = false := fun u d hd => itoa_sep (u : Int) d (by rw [Lib.itoa_nonneg]; exact hd)
  obtain ⟨h0, h⟩ := cut_same (hd _) (hd _) (head_e _).sep (head_e _).sep h
  injection h with _ h
  obtain ⟨h1, h⟩ := row_same (head_e _) (head_e _) h
  injection h with _ h
  obtain ⟨h2, h⟩ := row_same (head_e _) (head_e _) h
  injection h with _ h
  obtain ⟨h3, h⟩ := row_same (head_e _) (head_e _) h
  injection h with _ h
  have h4 := row_same (x := []) (y := []) (.inl rfl) (.inl rfl) (by simpa using h)
  refine ⟨dec_inj h0, fun i hi => ?_⟩
  rcases i with _ | _ | _ | _ | i
  · exact h1
  · exact h2
  · exact h3
  · exact h4.1
  · omega
end Go.Proofs.YtecpjeililiafaaDoor

/-
  The library's contracts of strconv.AppendInt and AppendUint, laid at this program.
-/
namespace Go.Proofs.YtecpjeililiafaaDoor
open Go.RowKit Go.Shelf
set_option maxRecDepth 20000

def strRen : Go.Shelf.Ren := ⟨fun | 129 => 135 | 176 => 124 | 249 => 128 | 283 => 130 | 284 => 131 | 285 => 132 | 286 => 133 | 288 => 127 | 317 => 134 | 318 => 136 | 319 => 137 | 320 => 138 | 337 => 139 | 338 => 140 | n => n,
  fun | 0 => 0 | 2 => 2 | 3 => 3 | 4 => 4 | 5 => 5 | 9 => 9 | 20 => 20 | 37 => 162 | 46 => 151 | 51 => 150 | 53 => 164 | 171 => 185 | 173 => 188 | 212 => 191 | 213 => 192 | 232 => 149 | 233 => 196 | n => n, fun | 17 => 1 | 18 => 0 | 19 => 2 | n => n⟩

theorem laysStr176 : LaysM.n176 Tryd.prog strRen := {
  mixed := by kernel_rfl
  f129 := Tryd.func135.trans (congrArg some (by kernel_rfl))
  f176 := Tryd.func124.trans (congrArg some (by kernel_rfl))
  f249 := Tryd.func128.trans (congrArg some (by kernel_rfl))
  f283 := Tryd.func130.trans (congrArg some (by kernel_rfl))
  f284 := Tryd.func131.trans (congrArg some (by kernel_rfl))
  f285 := Tryd.func132.trans (congrArg some (by kernel_rfl))
  f286 := Tryd.func133.trans (congrArg some (by kernel_rfl))
  f288 := Tryd.func127.trans (congrArg some (by kernel_rfl))
  f317 := Tryd.func134.trans (congrArg some (by kernel_rfl))
  f318 := Tryd.func136.trans (congrArg some (by kernel_rfl))
  f319 := Tryd.func137.trans (congrArg some (by kernel_rfl))
  f320 := Tryd.func138.trans (congrArg some (by kernel_rfl))
  f337 := Tryd.func139.trans (congrArg some (by kernel_rfl))
  f338 := Tryd.func140.trans (congrArg some (by kernel_rfl))
  t0 := Tryd.underlying0
  a0 := Tryd.isAgg0
  z0 := Tryd.sizeOf0
  v0 := Tryd.zeroValue0
  t2 := Tryd.underlying2
  a2 := Tryd.isAgg2
  z2 := Tryd.sizeOf2
  v2 := Tryd.zeroValue2
  t3 := Tryd.underlying3
  a3 := Tryd.isAgg3
  z3 := Tryd.sizeOf3
  v3 := Tryd.zeroValue3
  t4 := Tryd.underlying4
  a4 := Tryd.isAgg4
  z4 := Tryd.sizeOf4
  v4 := Tryd.zeroValue4
  t5 := Tryd.underlying5
  a5 := Tryd.isAgg5
  z5 := Tryd.sizeOf5
  v5 := Tryd.zeroValue5
  t9 := Tryd.underlying9
  a9 := Tryd.isAgg9
  z9 := Tryd.sizeOf9
  v9 := Tryd.zeroValue9
  t20 := Tryd.underlying20
  a20 := Tryd.isAgg20
  z20 := Tryd.sizeOf20
  v20 := Tryd.zeroValue20
  t37 := Tryd.underlying162
  a37 := Tryd.isAgg162
  z37 := Tryd.sizeOf162
  v37 := Tryd.zeroValue162
  t46 := Tryd.underlying151
  a46 := Tryd.isAgg151
  z46 := Tryd.sizeOf151
  v46 := Tryd.zeroValue151
  t51 := Tryd.underlying150
  a51 := Tryd.isAgg150
  z51 := Tryd.sizeOf150
  v51 := Tryd.zeroValue150
  t53 := Tryd.underlying164
  a53 := Tryd.isAgg164
  z53 := Tryd.sizeOf164
  v53 := Tryd.zeroValue164
  t171 := Tryd.underlying185
  a171 := Tryd.isAgg185
  z171 := Tryd.sizeOf185
  v171 := Tryd.zeroValue185
  t173 := Tryd.underlying188
  a173 := Tryd.isAgg188
  z173 := Tryd.sizeOf188
  v173 := Tryd.zeroValue188
  t212 := Tryd.underlying191
  a212 := Tryd.isAgg191
  z212 := Tryd.sizeOf191
  v212 := Tryd.zeroValue191
  t213 := Tryd.underlying192
  a213 := Tryd.isAgg192
  z213 := Tryd.sizeOf192
  t232 := Tryd.underlying149
  a232 := Tryd.isAgg149
  z232 := Tryd.sizeOf149
  v232 := Tryd.zeroValue149
  t233 := Tryd.underlying196
  a233 := Tryd.isAgg196
  z233 := Tryd.sizeOf196
  v233 := Tryd.zeroValue196
  g17 := by kernel_rfl
  g18 := by kernel_rfl
  g19 := by kernel_rfl
  i0 := by kernel_rfl
  i2 := by kernel_rfl
  i3 := by kernel_rfl
  i4 := by kernel_rfl
  i5 := by kernel_rfl
  i9 := by kernel_rfl
  i20 := by kernel_rfl
  i37 := by kernel_rfl
  i46 := by kernel_rfl
  i51 := by kernel_rfl
  i53 := by kernel_rfl
  i171 := by kernel_rfl
  i173 := by kernel_rfl
  i212 := by kernel_rfl
  i232 := by kernel_rfl
  i233 := by kernel_rfl
  m17 := by kernel_rfl
  m18 := by kernel_rfl
  m19 := by kernel_rfl
  }

theorem laysStr288 : LaysM.n288 Tryd.prog strRen := {
  mixed := by kernel_rfl
  f129 := Tryd.func135.trans (congrArg some (by kernel_rfl))
  f283 := Tryd.func130.trans (congrArg some (by kernel_rfl))
  f284 := Tryd.func131.trans (congrArg some (by kernel_rfl))
  f285 := Tryd.func132.trans (congrArg some (by kernel_rfl))
  f286 := Tryd.func133.trans (congrArg some (by kernel_rfl))
  f288 := Tryd.func127.trans (congrArg some (by kernel_rfl))
  f317 := Tryd.func134.trans (congrArg some (by kernel_rfl))
  f318 := Tryd.func136.trans (congrArg some (by kernel_rfl))
  f319 := Tryd.func137.trans (congrArg some (by kernel_rfl))
  f320 := Tryd.func138.trans (congrArg some (by kernel_rfl))
  f337 := Tryd.func139.trans (congrArg some (by kernel_rfl))
  f338 := Tryd.func140.trans (congrArg some (by kernel_rfl))
  t0 := Tryd.underlying0
  a0 := Tryd.isAgg0
  z0 := Tryd.sizeOf0
  v0 := Tryd.zeroValue0
  t3 := Tryd.underlying3
  a3 := Tryd.isAgg3
  z3 := Tryd.sizeOf3
  v3 := Tryd.zeroValue3
  t4 := Tryd.underlying4
  a4 := Tryd.isAgg4
  z4 := Tryd.sizeOf4
  v4 := Tryd.zeroValue4
  t5 := Tryd.underlying5
  a5 := Tryd.isAgg5
  z5 := Tryd.sizeOf5
  v5 := Tryd.zeroValue5
  t9 := Tryd.underlying9
  a9 := Tryd.isAgg9
  z9 := Tryd.sizeOf9
  v9 := Tryd.zeroValue9
  t20 := Tryd.underlying20
  a20 := Tryd.isAgg20
  z20 := Tryd.sizeOf20
  v20 := Tryd.zeroValue20
  t37 := Tryd.underlying162
  a37 := Tryd.isAgg162
  z37 := Tryd.sizeOf162
  v37 := Tryd.zeroValue162
  t46 := Tryd.underlying151
  a46 := Tryd.isAgg151
  z46 := Tryd.sizeOf151
  v46 := Tryd.zeroValue151
  t51 := Tryd.underlying150
  a51 := Tryd.isAgg150
  z51 := Tryd.sizeOf150
  v51 := Tryd.zeroValue150
  t53 := Tryd.underlying164
  a53 := Tryd.isAgg164
  z53 := Tryd.sizeOf164
  v53 := Tryd.zeroValue164
  t171 := Tryd.underlying185
  a171 := Tryd.isAgg185
  z171 := Tryd.sizeOf185
  v171 := Tryd.zeroValue185
  t173 := Tryd.underlying188
  a173 := Tryd.isAgg188
  z173 := Tryd.sizeOf188
  v173 := Tryd.zeroValue188
  t212 := Tryd.underlying191
  a212 := Tryd.isAgg191
  z212 := Tryd.sizeOf191
  v212 := Tryd.zeroValue191
  t213 := Tryd.underlying192
  a213 := Tryd.isAgg192
  z213 := Tryd.sizeOf192
  t232 := Tryd.underlying149
  a232 := Tryd.isAgg149
  z232 := Tryd.sizeOf149
  v232 := Tryd.zeroValue149
  t233 := Tryd.underlying196
  a233 := Tryd.isAgg196
  z233 := Tryd.sizeOf196
  v233 := Tryd.zeroValue196
  g17 := by kernel_rfl
  g18 := by kernel_rfl
  g19 := by kernel_rfl
  i0 := by kernel_rfl
  i3 := by kernel_rfl
  i4 := by kernel_rfl
  i5 := by kernel_rfl
  i9 := by kernel_rfl
  i20 := by kernel_rfl
  i37 := by kernel_rfl
  i46 := by kernel_rfl
  i51 := by kernel_rfl
  i53 := by kernel_rfl
  i171 := by kernel_rfl
  i173 := by kernel_rfl
  i212 := by kernel_rfl
  i232 := by kernel_rfl
  i233 := by kernel_rfl
  m17 := by kernel_rfl
  m18 := by kernel_rfl
  m19 := by kernel_rfl
  }

end Go.Proofs.YtecpjeililiafaaDoor
