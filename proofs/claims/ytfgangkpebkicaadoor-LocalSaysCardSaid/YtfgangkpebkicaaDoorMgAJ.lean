/-
  Joined by a program out of: Pure, Answered, U16, RelMem, AheadOf, LinMem.
-/
import Derived.Test.YtfgangkpebkicaaDoorProg
import Derived.WalkKit
import Derived.Test.YtfgangkpebkicaaDoorMgAA
import Derived.Test.YtfgangkpebkicaaDoorMgAI
import Derived.Test.YtfgangkpebkicaaDoorMgAB

/-
  Plain mathematics for package order: sets as numbers, relations as functions, the closure by Warshall's rounds. No Go, no program.
-/
namespace Go.Proofs.YtfgangkpebkicaaDoor
open Go.RowKit
set_option maxRecDepth 20000
/-- One round of the closure, over the items below m alone. -/
def stepV (m : Nat) (a : Nat → Nat) (v : Nat) : Nat → Nat := fun i => if i < m ∧ (a i).testBit v = true then a i ||| a v else a i
/-- k rounds of the closure on n items. -/
def warsh (n : Nat) (a : Nat → Nat) : Nat → Nat → Nat
  | 0 => a
  | k + 1 => stepV n (warsh n a k) k
/-- Does one of the first m items come back to itself? -/
def cyc (c : Nat → Nat) : Nat → Bool
  | 0 => false
  | m + 1 => cyc c m || (c m).testBit m
theorem stepV_zero (a : Nat → Nat) (v : Nat) : stepV 0 a v = a := by funext i; simp [stepV]
theorem stepV_lt {m : Nat} {a : Nat → Nat} {v B : Nat} (hB : ∀ i, i < 12 → a i < 2 ^ B) (hv : v < 12) : ∀ i, i < 12 → stepV m a v i < 2 ^ B := by
  intro i hi
  unfold stepV
  split
  · exact Nat.or_lt_two_pow (hB i hi) (hB v hv)
  · exact hB i hi
theorem warsh_lt {n : Nat} {a : Nat → Nat} {B : Nat} (hB : ∀ i, i < 12 → a i < 2 ^ B) : ∀ k, k ≤ 12 → ∀ i, i < 12 → warsh n a k i < 2 ^ B
  | 0, _ => hB
  | k + 1, hk => stepV_lt (warsh_lt hB k (by omega)) (by omega)
/-- One step of a round: item m's row. -/
theorem stepV_succ (m : Nat) (a : Nat → Nat) (v : Nat) :
    stepV (m + 1) a v = fun i => if i = m then (if (a m).testBit v = true then a m ||| a v else a m) else stepV m a v i := by
  funext i
  unfold stepV
  by_cases h : i = m
  · subst h; simp
  · simp [h, show i < m + 1 ↔ i < m by omega]
/-- In the midst of a round row m and row v are as they were. -/
theorem stepV_at (m : Nat) (a : Nat → Nat) (v : Nat) : stepV m a v m = a m := by simp [stepV]
theorem stepV_via (m : Nat) (a : Nat → Nat) (v : Nat) : stepV m a v v = a v := by
  unfold stepV; split <;> simp
def stepR (m : Nat) (a : Nat → Nat) (i : Nat) (r : Nat → Nat) : Nat → Nat := fun j => if j < m ∧ (a i).testBit j = true then r j ||| 2 ^ i else r j
def revs (n : Nat) (a : Nat → Nat) : Nat → Nat → Nat
  | 0 => fun _ => 0
  | k + 1 => stepR n a k (revs n a k)
/-- Bit i of row j, where bit j of row i was. -/
def rev (n : Nat) (a : Nat → Nat) : Nat → Nat := revs n a n
theorem stepR_zero (a : Nat → Nat) (i : Nat) (r : Nat → Nat) : stepR 0 a i r = r := by funext j; simp [stepR]
theorem stepR_succ (m : Nat) (a : Nat → Nat) (i : Nat) (r : Nat → Nat) :
    stepR (m + 1) a i r = fun j => if j = m then (if (a i).testBit m = true then r m ||| 2 ^ i else r m) else stepR m a i r j := by
  funext j
  unfold stepR
  by_cases h : j = m
  · subst h; simp
  · simp [h, show j < m + 1 ↔ j < m by omega]
theorem stepR_at (m : Nat) (a : Nat → Nat) (i : Nat) (r : Nat → Nat) : stepR m a i r m = r m := by simp [stepR]
theorem stepR_lt {m : Nat} {a : Nat → Nat} {i : Nat} {r : Nat → Nat} {j B : Nat} (h : r j < 2 ^ B) (hi : i < B) : stepR m a i r j < 2 ^ B := by
  unfold stepR
  split
  · exact Nat.or_lt_two_pow h (Nat.pow_lt_pow_right (by omega) hi)
  · exact h
theorem revs_lt (n : Nat) (a : Nat → Nat) (B j : Nat) : ∀ k, k ≤ B → revs n a k j < 2 ^ B
  | 0, _ => Nat.two_pow_pos B
  | k + 1, hk => stepR_lt (revs_lt n a B j k (by omega)) (by omega)
def rdyUp (b : Nat → Nat) (d : Nat) : Nat → Nat
  | 0 => 0
  | m + 1 => if d.testBit m = false ∧ b m &&& (65535 - d) = 0 then rdyUp b d m ||| 2 ^ m else rdyUp b d m
theorem rdyUp_lt (b : Nat → Nat) (d B : Nat) : ∀ m, m ≤ B → rdyUp b d m < 2 ^ B
  | 0, _ => Nat.two_pow_pos B
  | m + 1, hm => by
    unfold rdyUp
    split
    · exact Nat.or_lt_two_pow (rdyUp_lt b d B m (by omega)) (Nat.pow_lt_pow_right (by omega) (by omega))
    · exact rdyUp_lt b d B m (by omega)
theorem revs_bit (n : Nat) (a : Nat → Nat) (x t : Nat) : ∀ k, (revs n a k x).testBit t = (decide (t < k) && decide (x < n) && (a t).testBit x)
  | 0 => by simp [revs]
  | k + 1 => by
    show (stepR n a k (revs n a k) x).testBit t = _
    have ih := revs_bit n a x t k
    unfold stepR
    by_cases hc : x < n ∧ (a k).testBit x = true
    · rw [if_pos hc, Nat.testBit_or, ih, Nat.testBit_two_pow]
      by_cases e : k = t
      · subst e; simp [hc]
      · simp [e, show t < k + 1 ↔ t < k by omega]
    · rw [if_neg hc, ih]
      by_cases e : k = t
      · subst e
        by_cases hx : x < n
        · have : (a k).testBit x = false := by
            cases h : (a k).testBit x
            · rfl
            · exact absurd ⟨hx, h⟩ hc
          simp [this]
        · simp [hx]
      · simp [show t < k + 1 ↔ t < k by omega]
theorem rev_bit (n : Nat) (a : Nat → Nat) (x t : Nat) : (rev n a x).testBit t = (decide (t < n) && decide (x < n) && (a t).testBit x) := revs_bit n a x t n
theorem rev_at {n : Nat} {a : Nat → Nat} {x t : Nat} : (rev n a x).testBit t = true ↔ t < n ∧ x < n ∧ (a t).testBit x = true := by
  rw [rev_bit]; simp [and_assoc]
theorem cyc_iff (c : Nat → Nat) : ∀ m, cyc c m = true ↔ ∃ v, v < m ∧ (c v).testBit v = true
  | 0 => by simp [cyc]
  | m + 1 => by
    rw [cyc, Bool.or_eq_true, cyc_iff c m]
    constructor
    · rintro (⟨v, hv, h⟩ | h)
      · exact ⟨v, by omega, h⟩
      · exact ⟨m, by omega, h⟩
    · rintro ⟨v, hv, h⟩
      rcases Nat.lt_or_ge v m with h' | h'
      · exact .inl ⟨v, h', h⟩
      · obtain rfl : v = m := by omega
        exact .inr h
def sumUp (f : Nat → Nat) : Nat → Nat
  | 0 => 0
  | m + 1 => sumUp f m + f m
def card (n S : Nat) : Nat := sumUp (fun i => if S.testBit i = true then 1 else 0) n
end Go.Proofs.YtfgangkpebkicaaDoor

/-
  Contract of history.answered.
-/
namespace Go.Proofs.YtfgangkpebkicaaDoor
open Go.RowKit
set_option maxRecDepth 20000
theorem answered_any (c : Cl) (w : World) : Calls Tryd.prog 66 #[clV c] w fun e w' => e = .returned (.bool (c.til != -1)) ∧ Below w.heap.size w w' := by
  generalize hv : (c.til != -1) = d
  go_enter Tryd.func66, Tryd.ntmps66
  go_wp2
  go_ret
  exact ⟨rfl, (Below.refl _ _).alloc (Nat.le_refl _) _⟩
end Go.Proofs.YtfgangkpebkicaaDoor

/-
  Facts of uint16; no function of a program.
-/
namespace Go.Proofs.YtfgangkpebkicaaDoor
open Go.RowKit
set_option maxRecDepth 20000
theorem wrap_u16_nat (n : Nat) (h : n < 65536) : IntKind.u16.wrap (n : Int) = n := by rw [IntKind.wrap_u16]; omega
theorem pow_u16 (i : Nat) (h : i ≤ 15) : IntKind.u16.wrap (2 ^ i) = ((2 ^ i : Nat) : Int) := by
  have h2 : 2 ^ i < 65536 := Nat.lt_of_le_of_lt (Nat.pow_le_pow_right (by omega) h) (by decide)
  rw [show ((2 : Int) ^ i) = ((2 ^ i : Nat) : Int) from by simp]
  exact wrap_u16_nat _ h2
theorem pow_lt (i : Nat) (h : i ≤ 15) : 2 ^ i < 65536 := Nat.lt_of_le_of_lt (Nat.pow_le_pow_right (by omega) h) (by decide)
theorem or_pow (x k : Nat) (hx : x < 65536) (hk : k ≤ 15) : bits BinOp.or IntKind.u16 (x : Int) ((2 : Int) ^ k) = ((x ||| 2 ^ k : Nat) : Int) := by
  rw [show ((2 : Int) ^ k) = ((2 ^ k : Nat) : Int) from by simp]
  exact u16_or_nat x (2 ^ k) hx (pow_lt k hk)
theorem nat_eq0 (x : Nat) : ((x : Int) == 0) = decide (x = 0) := by rw [Bool.eq_iff_iff, beq_iff_eq, decide_eq_true_iff]; omega
theorem add_or (x j : Nat) (hx : x < 2 ^ j) : x + 2 ^ j = x ||| 2 ^ j := by
  have := Nat.two_pow_add_eq_or_of_lt hx 1
  rw [Nat.mul_one] at this
  rw [Nat.or_comm, ← this, Nat.add_comm]
theorem add_pow (x j : Nat) (hx : x < 2 ^ j) (hj : j ≤ 15) : IntKind.u16.wrap ((x : Int) + (2 : Int) ^ j) = ((x ||| 2 ^ j : Nat) : Int) := by
  have h2 : 2 ^ (j + 1) ≤ 65536 := Nat.le_trans (Nat.pow_le_pow_right (by omega) (by omega : j + 1 ≤ 16)) (by decide)
  rw [show ((2 : Int) ^ j) = ((2 ^ j : Nat) : Int) from by simp, ← Int.natCast_add, add_or x j hx]
  refine wrap_u16_nat _ (Nat.lt_of_lt_of_le (Nat.or_lt_two_pow (Nat.lt_trans hx (Nat.pow_lt_pow_right (by omega) (by omega))) (Nat.pow_lt_pow_right (by omega) (by omega))) h2)
end Go.Proofs.YtfgangkpebkicaaDoor

/-
  A relation as a value and in a block; no function of a program.
-/
namespace Go.Proofs.YtfgangkpebkicaaDoor
open Go.RowKit
set_option maxRecDepth 20000
/-- A relation as a value: the number of items, and a set for each of twelve. -/
abbrev relV (n : Int) (a : Nat → Nat) : Value := .agg #[.int .i64 n, .int .u16 (a 0), .int .u16 (a 1), .int .u16 (a 2), .int .u16 (a 3), .int .u16 (a 4), .int .u16 (a 5), .int .u16 (a 6), .int .u16 (a 7), .int .u16 (a 8), .int .u16 (a 9), .int .u16 (a 10), .int .u16 (a 11)]
abbrev rowsV (a : Nat → Nat) : Value := .agg #[.int .u16 (a 0), .int .u16 (a 1), .int .u16 (a 2), .int .u16 (a 3), .int .u16 (a 4), .int .u16 (a 5), .int .u16 (a 6), .int .u16 (a 7), .int .u16 (a 8), .int .u16 (a 9), .int .u16 (a 10), .int .u16 (a 11)]
/-- The cells of a relation. -/
abbrev relCs (n : Int) (a : Nat → Nat) : Array Value := #[.int .i64 n, .int .u16 (a 0), .int .u16 (a 1), .int .u16 (a 2), .int .u16 (a 3), .int .u16 (a 4), .int .u16 (a 5), .int .u16 (a 6), .int .u16 (a 7), .int .u16 (a 8), .int .u16 (a 9), .int .u16 (a 10), .int .u16 (a 11)]
def RelB (w : World) (g : Nat) (n : Int) (a : Nat → Nat) : Prop := Lies w g 46 (relCs n a)
theorem nat12 {k : Nat} (hk : k < 12) : k = 0 ∨ k = 1 ∨ k = 2 ∨ k = 3 ∨ k = 4 ∨ k = 5 ∨ k = 6 ∨ k = 7 ∨ k = 8 ∨ k = 9 ∨ k = 10 ∨ k = 11 := by omega
section
variable {w w' : World} {g : Nat} {n : Int} {a : Nat → Nat}
theorem RelB.size (h : RelB w g n a) : w.cell? ⟨g, 0, none⟩ = some (.int .i64 n) := Lies.cell h 0
theorem RelB.row (h : RelB w g n a) {k : Nat} (hk : k < 12) : w.cell? ⟨g, k + 1, none⟩ = some (.int .u16 (a k)) := by
  rw [Lies.cell h]
  rcases nat12 hk with rfl | rfl | rfl | rfl | rfl | rfl | rfl | rfl | rfl | rfl | rfl | rfl <;> rfl
theorem RelB.row' (h : RelB w g n a) {k : Nat} (hk : k < 12) : w.cell? ⟨g, 1 + k, none⟩ = some (.int .u16 (a k)) := by
  rw [Nat.add_comm]; exact h.row hk
theorem RelB.rows (h : RelB w g n a) : w.cell? ⟨g, 1, none⟩ = some (.int .u16 (a 0)) ∧ w.cell? ⟨g, 2, none⟩ = some (.int .u16 (a 1)) ∧ w.cell? ⟨g, 3, none⟩ = some (.int .u16 (a 2)) ∧ w.cell? ⟨g, 4, none⟩ = some (.int .u16 (a 3)) ∧ w.cell? ⟨g, 5, none⟩ = some (.int .u16 (a 4)) ∧ w.cell? ⟨g, 6, none⟩ = some (.int .u16 (a 5)) ∧ w.cell? ⟨g, 7, none⟩ = some (.int .u16 (a 6)) ∧ w.cell? ⟨g, 8, none⟩ = some (.int .u16 (a 7)) ∧ w.cell? ⟨g, 9, none⟩ = some (.int .u16 (a 8)) ∧ w.cell? ⟨g, 10, none⟩ = some (.int .u16 (a 9)) ∧ w.cell? ⟨g, 11, none⟩ = some (.int .u16 (a 10)) ∧ w.cell? ⟨g, 12, none⟩ = some (.int .u16 (a 11)) :=
  ⟨h.row (k := 0) (by omega), h.row (k := 1) (by omega), h.row (k := 2) (by omega), h.row (k := 3) (by omega), h.row (k := 4) (by omega), h.row (k := 5) (by omega), h.row (k := 6) (by omega), h.row (k := 7) (by omega), h.row (k := 8) (by omega), h.row (k := 9) (by omega), h.row (k := 10) (by omega), h.row (k := 11) (by omega)⟩
theorem RelB.set' (h : RelB w g n a) {k : Nat} (hk : k < 12) (x : Nat) : RelB (w.setCell ⟨g, 1 + k, none⟩ (.int .u16 x)) g n (fun i => if i = k then x else a i) := by
  refine Lies.cast (Lies.set_ h (1 + k) (.int .u16 x)) ?_
  rcases nat12 hk with rfl | rfl | rfl | rfl | rfl | rfl | rfl | rfl | rfl | rfl | rfl | rfl <;> simp [relCs]
theorem RelB.free (h : RelB w g n a) (i : Nat) : w.frozen? ⟨g, i, none⟩ = false := Lies.frozen h i
theorem RelB.set_ (h : RelB w g n a) {k : Nat} (hk : k < 12) (x : Nat) : RelB (w.setCell ⟨g, k + 1, none⟩ (.int .u16 x)) g n (fun i => if i = k then x else a i) := by
  refine Lies.cast (Lies.set_ h (k + 1) (.int .u16 x)) ?_
  rcases nat12 hk with rfl | rfl | rfl | rfl | rfl | rfl | rfl | rfl | rfl | rfl | rfl | rfl <;> simp [relCs]
theorem RelB.congr {b : Nat → Nat} (h : RelB w g n a) (e : ∀ i, i < 12 → a i = b i) : RelB w g n b := by
  refine Lies.cast h ?_
  simp [relCs, e 0, e 1, e 2, e 3, e 4, e 5, e 6, e 7, e 8, e 9, e 10, e 11]
end
/-- The world behind thirteen stores. -/
abbrev fillW (w : World) (g : Nat) (m : Int) (b : Nat → Nat) : World := (((((((((((((w.setCell ⟨g, 0, none⟩ (.int .i64 m)).setCell ⟨g, 1, none⟩ (.int .u16 (b 0))).setCell ⟨g, 2, none⟩ (.int .u16 (b 1))).setCell ⟨g, 3, none⟩ (.int .u16 (b 2))).setCell ⟨g, 4, none⟩ (.int .u16 (b 3))).setCell ⟨g, 5, none⟩ (.int .u16 (b 4))).setCell ⟨g, 6, none⟩ (.int .u16 (b 5))).setCell ⟨g, 7, none⟩ (.int .u16 (b 6))).setCell ⟨g, 8, none⟩ (.int .u16 (b 7))).setCell ⟨g, 9, none⟩ (.int .u16 (b 8))).setCell ⟨g, 10, none⟩ (.int .u16 (b 9))).setCell ⟨g, 11, none⟩ (.int .u16 (b 10))).setCell ⟨g, 12, none⟩ (.int .u16 (b 11)))
theorem RelB.fill {w : World} {g : Nat} {n : Int} {a : Nat → Nat} (h : RelB w g n a) (m : Int) (b : Nat → Nat) : RelB (fillW w g m b) g m b := by
  have h0 := Lies.set_ h 0 (.int .i64 m)
  have h1 := Lies.set_ h0 1 (.int .u16 (b 0))
  have h2 := Lies.set_ h1 2 (.int .u16 (b 1))
  have h3 := Lies.set_ h2 3 (.int .u16 (b 2))
  have h4 := Lies.set_ h3 4 (.int .u16 (b 3))
  have h5 := Lies.set_ h4 5 (.int .u16 (b 4))
  have h6 := Lies.set_ h5 6 (.int .u16 (b 5))
  have h7 := Lies.set_ h6 7 (.int .u16 (b 6))
  have h8 := Lies.set_ h7 8 (.int .u16 (b 7))
  have h9 := Lies.set_ h8 9 (.int .u16 (b 8))
  have h10 := Lies.set_ h9 10 (.int .u16 (b 9))
  have h11 := Lies.set_ h10 11 (.int .u16 (b 10))
  have h12 := Lies.set_ h11 12 (.int .u16 (b 11))
  exact Lies.cast h12 (by simp [relCs])
theorem fillW_below {B : Nat} {w0 w : World} {g : Nat} (h : Below B w0 w) (hg : B ≤ g) (m : Int) (b : Nat → Nat) : Below B w0 (fillW w g m b) :=
  ((((((((((((h.setCell (p := ⟨g, 0, none⟩) hg _).setCell (p := ⟨g, 1, none⟩) hg _).setCell (p := ⟨g, 2, none⟩) hg _).setCell (p := ⟨g, 3, none⟩) hg _).setCell (p := ⟨g, 4, none⟩) hg _).setCell (p := ⟨g, 5, none⟩) hg _).setCell (p := ⟨g, 6, none⟩) hg _).setCell (p := ⟨g, 7, none⟩) hg _).setCell (p := ⟨g, 8, none⟩) hg _).setCell (p := ⟨g, 9, none⟩) hg _).setCell (p := ⟨g, 10, none⟩) hg _).setCell (p := ⟨g, 11, none⟩) hg _).setCell (p := ⟨g, 12, none⟩) hg _
theorem post_fill {P : Program} {fn : Func} {R : Ending → World → Prop} {act : Act} {w W : World} {B g : Nat} {n0 : Int} {a0 : Nat → Nat} (n : Int) (a : Nat → Nat)
    (hB : RelB W g n0 a0) (hb : Below B w W) (hg : B ≤ g) (k : ∀ wz, RelB wz g n a → Below B w wz → bodyPost P fn R .ret act wz) : bodyPost P fn R .ret act (fillW W g n a) :=
  k _ (hB.fill n a) (fillW_below hb hg n a)
theorem post_fill1 {P : Program} {fn : Func} {R : Ending → World → Prop} {act : Act} {w W : World} {B g : Nat} {n0 : Int} {a0 : Nat → Nat} {o : Obj} (n : Int) (a : Nat → Nat)
    (hB : RelB W g n0 a0) (hb : Below B w W) (hg : B ≤ g) (hs : B ≤ W.heap.size) (k : ∀ wz, RelB wz g n a → Below B w wz → bodyPost P fn R .ret act wz) : bodyPost P fn R .ret act ((fillW W g n a).alloc o) :=
  k _ (Lies.alloc (hB.fill n a) _) ((fillW_below hb hg n a).alloc (Nat.le_trans hs (fillW_below (Below.refl 0 W) (Nat.zero_le g) n a).size) _)
structure ORel (w : World) (R G m : Nat) (c : Nat → Nat) (wr : World) : Prop where
  below : Below w.heap.size w wr
  res : RelB wr R 0 (fun _ => 0)
  own : RelB wr G m c
  ge : w.heap.size ≤ R
  far : R < G
theorem ORel.far' {w wr : World} {R G m : Nat} {c : Nat → Nat} (h : ORel w R G m c wr) : w.heap.size ≤ G := by
  have := h.ge
  have := h.far
  omega
theorem ORel.set_ {w wr : World} {R G m : Nat} {c : Nat → Nat} (h : ORel w R G m c wr) {k : Nat} (hk : k < 12) (x : Nat) :
    ORel w R G m (fun i => if i = k then x else c i) (wr.setCell ⟨G, 1 + k, none⟩ (.int .u16 x)) :=
  ⟨h.below.setCell h.far' _, Lies.far h.res (by have := h.far; show R ≠ G; omega) _, h.own.set' hk x, h.ge, h.far⟩
theorem ORel.drew {w wr : World} {R G m : Nat} {c : Nat → Nat} (h : ORel w R G m c wr) : ORel w R G m c wr.drew := ⟨h.below.drew, h.res, h.own, h.ge, h.far⟩
theorem ORel.drewN {w wr : World} {R G m : Nat} {c : Nat → Nat} (h : ORel w R G m c wr) (n : Nat) : ORel w R G m c (wr.drewN n) := ⟨belowN h.below n, Lies.drewN h.res n, Lies.drewN h.own n, h.ge, h.far⟩
theorem ORel.alloc {w wr : World} {R G m : Nat} {c : Nat → Nat} (h : ORel w R G m c wr) (o : Obj) : ORel w R G m c (wr.alloc o) := ⟨h.below.alloc h.below.size _, Lies.alloc h.res _, Lies.alloc h.own _, h.ge, h.far⟩
theorem ORel.congr {w wr : World} {R G m : Nat} {c d : Nat → Nat} (h : ORel w R G m c wr) (e : ∀ i, i < 12 → c i = d i) : ORel w R G m d wr := ⟨h.below, h.res, h.own.congr e, h.ge, h.far⟩
theorem ORel.next {w wr wr' : World} {R G m : Nat} {c : Nat → Nat} (h : ORel w R G m c wr) (hb : Below wr.heap.size wr wr') : ORel w R G m c wr' :=
  ⟨h.below.trans (hb.mono h.below.size), Lies.below h.res hb h.res.lt, Lies.below h.own hb h.own.lt, h.ge, h.far⟩
end Go.Proofs.YtfgangkpebkicaaDoor

/-
  Contract of history.Ahead.
-/
namespace Go.Proofs.YtfgangkpebkicaaDoor
open Go.RowKit
set_option maxRecDepth 20000
set_option maxHeartbeats 4000000 in
theorem ahead_few {B : Nat} {v : Value} {l : List Cl} {w : World} (h : CRd w B v l) (hB : B ≤ w.heap.size) (hl : l.length ≤ 12) :
    Calls Tryd.prog 48 #[v] w fun e w' => e = .returned (.tuple #[relV l.length (relP (aheadB l) l.length), .int .i64 0]) ∧ Below w.heap.size w w' := by
  obtain ⟨A, c, rfl, -, -⟩ := h.is
  have H := Lib.hid (And.intro h hB)
  obtain ⟨m, hm⟩ : ∃ m, m = l.length := ⟨_, rfl⟩
  rw [← hm]
  rw [← hm] at hl
  have HM := Lib.hid hm
  have hn12 : ¬ (12 : Int) < (m : Int) := by omega
  have hO : ORel w w.heap.size (w.heap.size + 1) m (upP (aheadB l) m 0 0) ((w.alloc (.cells (relCs 0 fun _ => 0) 46)).alloc (.cells (relCs m fun _ => 0) 46)) := by
    rw [upP_none]
    have h2 := Lies.new (w.alloc (.cells (relCs 0 fun _ => 0) 46)) 46 (relCs m fun _ => 0)
    rw [World.size_alloc] at h2
    exact ⟨((Below.refl _ _).alloc (Nat.le_refl _) _).alloc (by simp) _, Lies.alloc (Lies.new _ _ _) _, h2, Nat.le_refl _, by omega⟩
  have HO := Lib.hid hO
  clear h hB hm hO
  go_enter Tryd.func48, Tryd.ntmps48
  go_wp2_with fail
  have hO := HO.out
  clear HO
  change Code.wp _ _ _ _ ((w.alloc (.cells (relCs 0 fun _ => 0) 46)).alloc (.cells (relCs m fun _ => 0) 46))
  generalize (w.alloc (.cells (relCs 0 fun _ => 0) 46)).alloc (.cells (relCs m fun _ => 0) 46) = W at hO ⊢
  obtain ⟨G, hG⟩ : ∃ G, G = w.heap.size + 1 := ⟨_, rfl⟩
  rw [← hG] at hO ⊢
  clear hG
  go_loopw [18] (fun i wr => ∃ k : Nat, k ≤ m ∧ i = .int .i64 k ∧ ORel w w.heap.size G m (upP (aheadB l) m k 0) wr) (fun i _ => m - (intOf i).toNat)
  case atStart => exact ⟨0, by omega, rfl, hO⟩
  case round =>
    clear hO
    obtain ⟨k, hk, rfl, hO⟩ := hrel
    by_cases hkm : k < m
    · obtain ⟨x, hx⟩ : ∃ x, l[k]? = some x := ⟨_, List.getElem?_eq_getElem (by rw [← HM.out]; exact hkm)⟩
      have hb := hO.below
      have h' := H.out.1.below (hb.mono H.out.2)
      rw [← HM.out] at h'
      obtain ⟨g, o, rfl, -, d0, d1, d2, d3, d4, d5, d6⟩ := h'.cl hx
      have HO := Lib.hid hO
      have HX := Lib.hid hx
      have i1 : (0 : Int) ≤ (k : Int) := by omega
      have i2 : (k : Int) < (m : Int) := by omega
      obtain ⟨x0, x1, x2, x3, x4, x5, x6⟩ := x
      clear h' hb hO hx
      go_wp2_with fail
      obtain ⟨P, hP⟩ : ∃ P, P = wr.heap.size := ⟨_, rfl⟩
      have hl1 : Lies (wr.alloc (.cells (clCs ⟨x0, x1, x2, x3, x4, x5, x6⟩).toArray 51)) P 51 (clCs ⟨x0, x1, x2, x3, x4, x5, x6⟩).toArray := by rw [hP]; exact Lies.new _ _ _
      have hGP : G < P := by rw [hP]; exact HO.out.own.lt
      have hO := HO.out.alloc (.cells (clCs ⟨x0, x1, x2, x3, x4, x5, x6⟩).toArray 51)
      rw [← hP]
      clear hP HO d0 d1 d2 d3 d4 d5 d6
      change Code.wp _ _ _ _ (wr.alloc (.cells (clCs ⟨x0, x1, x2, x3, x4, x5, x6⟩).toArray 51))
      generalize wr.alloc (.cells (clCs ⟨x0, x1, x2, x3, x4, x5, x6⟩).toArray 51) = W2 at hl1 hO ⊢
      go_loopw [25] (fun i wr => ∃ j : Nat, j ≤ m ∧ i = .int .i64 j ∧ ORel w w.heap.size G m (upP (aheadB l) m k j) wr ∧ Lies wr P 51 (clCs ⟨x0, x1, x2, x3, x4, x5, x6⟩).toArray) (fun i _ => m - (intOf i).toNat)
      case atStart => exact ⟨0, by omega, rfl, hO, hl1⟩
      case round =>
        clear hO hl1
        obtain ⟨j, hj, rfl, hO, hl1⟩ := hrel
        by_cases hjm : j < m
        · obtain ⟨y, hy⟩ : ∃ y, l[j]? = some y := ⟨_, List.getElem?_eq_getElem (by rw [← HM.out]; exact hjm)⟩
          have hb := hO.below
          have h' := H.out.1.below (hb.mono H.out.2)
          rw [← HM.out] at h'
          obtain ⟨g', o', hA, -, d0, d1, d2, d3, d4, d5, d6⟩ := h'.cl hy
          injection hA with hA
          injection hA with hA1 hA2
          subst hA1
          subst hA2
          have hst := upP_step (aheadB l) m k j
          rw [aheadB_at HX.out hy] at hst
          have j1 : (0 : Int) ≤ (j : Int) := by omega
          have j2 : (j : Int) < (m : Int) := by omega
          obtain ⟨y0, y1, y2, y3, y4, y5, y6⟩ := y
          simp only at hst
          have hba : Below wr.heap.size wr (wr.alloc (.cells (clCs ⟨y0, y1, y2, y3, y4, y5, y6⟩).toArray 51)) := (Below.refl _ _).alloc (Nat.le_refl _) _
          have hY := Lies.new wr 51 (clCs ⟨y0, y1, y2, y3, y4, y5, y6⟩).toArray
          have e6 := Lies.cell hl1
          have HO := Lib.hid (And.intro (hO.next hba) (And.intro (Lies.below hl1 hba hl1.lt) hY))
          have HS := Lib.hid hst
          obtain ⟨q0, q1, q2, q3, q4, q5, q6⟩ : wr.cell? ⟨P, 0, none⟩ = some (.int .i64 x0) ∧ wr.cell? ⟨P, 1, none⟩ = some (.int .i64 x1) ∧ wr.cell? ⟨P, 2, none⟩ = some (.int .i64 x2) ∧ wr.cell? ⟨P, 3, none⟩ = some (.int .i64 x3) ∧ wr.cell? ⟨P, 4, none⟩ = some (.int .i64 x4) ∧ wr.cell? ⟨P, 5, none⟩ = some (.int .i64 x5) ∧ wr.cell? ⟨P, 6, none⟩ = some (.int .i64 x6) := ⟨e6 0, e6 1, e6 2, e6 3, e6 4, e6 5, e6 6⟩
          have hPl := hl1.lt
          clear h' hb hO hl1 hba hY hst hy e6
          go_wp2_with fail
          change Calls _ _ _ (wr.alloc (.cells (clCs ⟨y0, y1, y2, y3, y4, y5, y6⟩).toArray 51)) _
          have HO' := HO.out
          clear HO q0 q1 q2 q3 q4 q5 q6 d0 d1 d2 d3 d4 d5 d6 hPl
          generalize wr.alloc (.cells (clCs ⟨y0, y1, y2, y3, y4, y5, y6⟩).toArray 51) = W3 at HO' ⊢
          generalize wr.heap.size = P2 at HO' ⊢
          refine (answered_any ⟨x0, x1, x2, x3, x4, x5, x6⟩ W3).mono ?_
          rintro e w4 ⟨rfl, hb4⟩
          have hO := HO'.1.next hb4
          have hl1 := Lies.below HO'.2.1 hb4 HO'.2.1.lt
          have hl2 := Lies.below HO'.2.2 hb4 HO'.2.2.lt
          clear HO' hb4
          have q6 : w4.cell? ⟨P, 6, none⟩ = some (.int .i64 x6) := Lies.cell hl1 6
          have q5 : w4.cell? ⟨P2, 5, none⟩ = some (.int .i64 y5) := Lies.cell hl2 5
          have k12 : (k : Int) < 12 := by omega
          have hk12 : k < 12 := by omega
          have ck := hO.own.row' hk12
          have fk := hO.own.free (1 + k)
          have hlt := upP_lt (aheadB l) m k j hl (by omega) k
          have HOO := Lib.hid (And.intro hO hl1)
          have hGl := hO.own.lt
          clear hO hl1 hl2
          generalize hxx : upP (aheadB l) m k j k = z at ck hlt HS
          have ho := or_pow z j hlt (by omega)
          have hp := pow_u16 j (by omega)
          have HXX := Lib.hid hxx
          clear hxx
          by_cases t1 : x6 = -1
          · have hz : (x6 != -1) = false := by rw [bne_eq_false_iff_eq]; exact t1
            have hs := HS.out
            rw [if_neg (by simp [t1])] at hs
            have HS2 := Lib.hid hs
            simp only
            rw [hz]
            clear hs t1 hz
            go_wp2_with fail
            go_roundw
            case rel => exact ⟨j + 1, by omega, by go_num, by rw [HS2.out]; exact HOO.out.1, HOO.out.2⟩
            case measure => simp [intOf]; omega
          · have hz : (x6 != -1) = true := by rw [bne_iff_ne]; exact t1
            simp only
            rw [hz]
            by_cases t2 : x6 < y5
            · have hs := HS.out
              rw [if_pos (by simp [t1, t2])] at hs
              have HS2 := Lib.hid hs
              clear hs t1 hz
              go_wp2_with fail
              go_region
              have h1 : ORel w w.heap.size G m (upP (aheadB l) m k (j + 1)) (w4.setCell ⟨G, 1 + k, none⟩ (.int .u16 ((z ||| 2 ^ j : Nat) : Int))).drew := by
                rw [HS2.out]
                exact (HOO.out.1.set_ hk12 _).drew
              have h2 : Lies (w4.setCell ⟨G, 1 + k, none⟩ (.int .u16 ((z ||| 2 ^ j : Nat) : Int))).drew P 51 (clCs ⟨x0, x1, x2, x3, x4, x5, x6⟩).toArray :=
                (Lies.far HOO.out.2 (by show P ≠ G; omega) _).drew
              clear ck fk q6 q5 ho hp
              generalize (w4.setCell ⟨G, 1 + k, none⟩ (.int .u16 ((z ||| 2 ^ j : Nat) : Int))).drew = w5 at h1 h2 ⊢
              have HX := Lib.hid (And.intro h1 h2)
              clear h1 h2 hGl
              go_wp2_with fail
              go_roundw
              case rel => exact ⟨j + 1, by omega, by go_num, HX.out⟩
              case measure => simp [intOf]; omega
            · have hs := HS.out
              rw [if_neg (by simp [t2])] at hs
              have HS2 := Lib.hid hs
              clear hs t1 hz
              go_wp2_with fail
              go_roundw
              case rel => exact ⟨j + 1, by omega, by go_num, by rw [HS2.out]; exact HOO.out.1, HOO.out.2⟩
              case measure => simp [intOf]; omega
        · obtain rfl : j = m := by omega
          rw [upP_end] at hO
          have HOO := Lib.hid hO
          clear hO hl1
          go_wp2_with fail
          go_roundw
          case rel => exact ⟨k + 1, by omega, by go_num, HOO.out⟩
          case measure => simp [intOf]; omega
    · obtain rfl : k = m := by omega
      rw [upP_all] at hO
      have hr := hO.res.size
      obtain ⟨r0, r1, r2, r3, r4, r5, r6, r7, r8, r9, r10, r11⟩ := hO.res.rows
      have hc := hO.own.size
      obtain ⟨c0, c1, c2, c3, c4, c5, c6, c7, c8, c9, c10, c11⟩ := hO.own.rows
      have hf := hO.res.free
      go_wp2_with fail
      clear hr r0 r1 r2 r3 r4 r5 r6 r7 r8 r9 r10 r11 hc c0 c1 c2 c3 c4 c5 c6 c7 c8 c9 c10 c11 hf
      refine post_fill (W := wr) (g := w.heap.size) k (relP (aheadB l) k) hO.res hO.below (by omega) ?_
      intro wz hz hbz
      have hs := hz.size
      obtain ⟨c0, c1, c2, c3, c4, c5, c6, c7, c8, c9, c10, c11⟩ := hz.rows
      exact bodyPost_ret (v := .tuple #[relV k (relP (aheadB l) k), .int .i64 0])
        (by simp [results, Tryd.results48, go_sem, hs, c0, c1, c2, c3, c4, c5, c6, c7, c8, c9, c10, c11]) rfl ⟨rfl, hbz⟩
end Go.Proofs.YtfgangkpebkicaaDoor

/-
  What package search keeps in memory: a record, a point; contracts of its small functions.
-/
namespace Go.Proofs.YtfgangkpebkicaaDoor
open Go.RowKit
set_option maxRecDepth 20000
variable {Rl : Nat → Nat → Bool}
theorem lbit_val (s i : Nat) (hs : s < 65536) : (bits BinOp.and IntKind.u16 ((s : Int) / 2 ^ ((i : Int).toNat)) 1 != 0) = s.testBit i := by
  have e : (s : Int) / 2 ^ ((i : Int).toNat) = ((s / 2 ^ i : Nat) : Int) := by simp
  rw [e, show (1 : Int) = ((1 : Nat) : Int) from rfl, u16_and_nat _ _ (Nat.lt_of_le_of_lt (Nat.div_le_self _ _) hs) (by omega)]
  rw [Nat.testBit, Nat.shiftRight_eq_div_pow, Nat.and_comm, Bool.eq_iff_iff, bne_iff_ne, bne_iff_ne]
  omega
theorem lhas_any (s i : Nat) (w : World) (hs : s < 65536) (h1 : i ≤ 15) :
    Calls Tryd.prog 72 #[.int .u16 s, .int .i64 i] w fun e w' => e = .returned (.bool (s.testBit i)) ∧ w = w' := by
  go_enter Tryd.func72, Tryd.ntmps72
  go_wp2
  go_ret
  exact ⟨ret_bool (by rw [← lbit_val s i hs]; simp), rfl⟩
theorem lresp_any (c : Cl) (w : World) : Calls Tryd.prog 71 #[clV c] w fun e w' => e = .returned (.bool (c.til != -1)) ∧ Below w.heap.size w w' := by
  generalize hv : (c.til != -1) = d
  go_enter Tryd.func71, Tryd.ntmps71
  go_wp2
  go_ret
  exact ⟨rfl, (Below.refl _ _).alloc (Nat.le_refl _) _⟩
abbrev srCs (tv cv : Value) (b : Nat → Nat) (an : Nat) : Array Value := #[tv, cv, .int .u16 (b 0 : Nat), .int .u16 (b 1 : Nat), .int .u16 (b 2 : Nat), .int .u16 (b 3 : Nat), .int .u16 (b 4 : Nat), .int .u16 (b 5 : Nat), .int .u16 (b 6 : Nat), .int .u16 (b 7 : Nat), .int .u16 (b 8 : Nat), .int .u16 (an : Nat)]
abbrev srV (tv cv : Value) (b : Nat → Nat) (an : Nat) : Value := .agg #[tv, cv, .int .u16 (b 0 : Nat), .int .u16 (b 1 : Nat), .int .u16 (b 2 : Nat), .int .u16 (b 3 : Nat), .int .u16 (b 4 : Nat), .int .u16 (b 5 : Nat), .int .u16 (b 6 : Nat), .int .u16 (b 7 : Nat), .int .u16 (b 8 : Nat), .int .u16 (an : Nat)]
/-- A record lies in block g. -/
def SrB (w : World) (g : Nat) (tv cv : Value) (b : Nat → Nat) (an : Nat) : Prop := Lies w g 108 (srCs tv cv b an)
abbrev fillS (w : World) (g : Nat) (tv cv : Value) (b : Nat → Nat) (an : Nat) : World := ((((((((((((w.setCell ⟨g, 0, none⟩ tv).setCell ⟨g, 1, none⟩ cv).setCell ⟨g, 2, none⟩ (.int .u16 (b 0 : Nat))).setCell ⟨g, 3, none⟩ (.int .u16 (b 1 : Nat))).setCell ⟨g, 4, none⟩ (.int .u16 (b 2 : Nat))).setCell ⟨g, 5, none⟩ (.int .u16 (b 3 : Nat))).setCell ⟨g, 6, none⟩ (.int .u16 (b 4 : Nat))).setCell ⟨g, 7, none⟩ (.int .u16 (b 5 : Nat))).setCell ⟨g, 8, none⟩ (.int .u16 (b 6 : Nat))).setCell ⟨g, 9, none⟩ (.int .u16 (b 7 : Nat))).setCell ⟨g, 10, none⟩ (.int .u16 (b 8 : Nat))).setCell ⟨g, 11, none⟩ (.int .u16 (an : Nat)))
theorem fillS_below {B : Nat} {w0 w : World} {g : Nat} (h : Below B w0 w) (hg : B ≤ g) (tv cv : Value) (b : Nat → Nat) (an : Nat) : Below B w0 (fillS w g tv cv b an) := ((((((((((((h.setCell (p := ⟨g, 0, none⟩) hg _).setCell (p := ⟨g, 1, none⟩) hg _).setCell (p := ⟨g, 2, none⟩) hg _).setCell (p := ⟨g, 3, none⟩) hg _).setCell (p := ⟨g, 4, none⟩) hg _).setCell (p := ⟨g, 5, none⟩) hg _).setCell (p := ⟨g, 6, none⟩) hg _).setCell (p := ⟨g, 7, none⟩) hg _).setCell (p := ⟨g, 8, none⟩) hg _).setCell (p := ⟨g, 9, none⟩) hg _).setCell (p := ⟨g, 10, none⟩) hg _).setCell (p := ⟨g, 11, none⟩) hg _)
section
variable {w : World} {g : Nat} {tv cv : Value} {b : Nat → Nat} {an : Nat}
theorem SrB.fill (h : SrB w g tv cv b an) (tv' cv' : Value) (b' : Nat → Nat) (an' : Nat) : SrB (fillS w g tv' cv' b' an') g tv' cv' b' an' := by
  have h0 := Lies.set_ h 0 tv'
  have h1 := Lies.set_ h0 1 cv'
  have h2 := Lies.set_ h1 2 (.int .u16 (b' 0 : Nat))
  have h3 := Lies.set_ h2 3 (.int .u16 (b' 1 : Nat))
  have h4 := Lies.set_ h3 4 (.int .u16 (b' 2 : Nat))
  have h5 := Lies.set_ h4 5 (.int .u16 (b' 3 : Nat))
  have h6 := Lies.set_ h5 6 (.int .u16 (b' 4 : Nat))
  have h7 := Lies.set_ h6 7 (.int .u16 (b' 5 : Nat))
  have h8 := Lies.set_ h7 8 (.int .u16 (b' 6 : Nat))
  have h9 := Lies.set_ h8 9 (.int .u16 (b' 7 : Nat))
  have h10 := Lies.set_ h9 10 (.int .u16 (b' 8 : Nat))
  have h11 := Lies.set_ h10 11 (.int .u16 (an' : Nat))
  exact Lies.cast h11 (by simp [srCs])
theorem nat9 {k : Nat} (h : k < 9) : k = 0 ∨ k = 1 ∨ k = 2 ∨ k = 3 ∨ k = 4 ∨ k = 5 ∨ k = 6 ∨ k = 7 ∨ k = 8 := by omega
theorem SrB.setB (h : SrB w g tv cv b an) {k : Nat} (hk : k < 9) (x : Nat) : SrB (w.setCell ⟨g, 2 + k, none⟩ (.int .u16 (x : Nat))) g tv cv (fun i => if i = k then x else b i) an := by
  refine Lies.cast (Lies.set_ h (2 + k) (.int .u16 (x : Nat))) ?_
  rcases nat9 hk with rfl | rfl | rfl | rfl | rfl | rfl | rfl | rfl | rfl <;> simp [srCs]
theorem SrB.setA (h : SrB w g tv cv b an) (x : Nat) : SrB (w.setCell ⟨g, 11, none⟩ (.int .u16 (x : Nat))) g tv cv b x := by
  refine Lies.cast (Lies.set_ h 11 (.int .u16 (x : Nat))) ?_
  simp [srCs]
theorem SrB.congr {b' : Nat → Nat} (h : SrB w g tv cv b an) (e : ∀ i, i < 9 → b i = b' i) : SrB w g tv cv b' an := by
  refine Lies.cast h ?_
  simp [srCs, e 0, e 1, e 2, e 3, e 4, e 5, e 6, e 7, e 8]
theorem SrB.row (h : SrB w g tv cv b an) {k : Nat} (hk : k < 9) : w.cell? ⟨g, 2 + k, none⟩ = some (.int .u16 (b k : Nat)) := by
  rw [Lies.cell h]
  rcases nat9 hk with rfl | rfl | rfl | rfl | rfl | rfl | rfl | rfl | rfl <;> rfl
theorem SrB.ans (h : SrB w g tv cv b an) : w.cell? ⟨g, 11, none⟩ = some (.int .u16 (an : Nat)) := Lies.cell h 11
theorem SrB.free (h : SrB w g tv cv b an) (i : Nat) : w.frozen? ⟨g, i, none⟩ = false := Lies.frozen h i
theorem SrB.cells (h : SrB w g tv cv b an) : w.cell? ⟨g, 0, none⟩ = some tv ∧ w.cell? ⟨g, 1, none⟩ = some cv ∧ w.cell? ⟨g, 2, none⟩ = some (.int .u16 (b 0 : Nat)) ∧ w.cell? ⟨g, 3, none⟩ = some (.int .u16 (b 1 : Nat)) ∧ w.cell? ⟨g, 4, none⟩ = some (.int .u16 (b 2 : Nat)) ∧ w.cell? ⟨g, 5, none⟩ = some (.int .u16 (b 3 : Nat)) ∧ w.cell? ⟨g, 6, none⟩ = some (.int .u16 (b 4 : Nat)) ∧ w.cell? ⟨g, 7, none⟩ = some (.int .u16 (b 5 : Nat)) ∧ w.cell? ⟨g, 8, none⟩ = some (.int .u16 (b 6 : Nat)) ∧ w.cell? ⟨g, 9, none⟩ = some (.int .u16 (b 7 : Nat)) ∧ w.cell? ⟨g, 10, none⟩ = some (.int .u16 (b 8 : Nat)) ∧ w.cell? ⟨g, 11, none⟩ = some (.int .u16 (an : Nat)) := ⟨Lies.cell h 0, Lies.cell h 1, Lies.cell h 2, Lies.cell h 3, Lies.cell h 4, Lies.cell h 5, Lies.cell h 6, Lies.cell h 7, Lies.cell h 8, Lies.cell h 9, Lies.cell h 10, Lies.cell h 11⟩
end
theorem bef_rev (cs : List Cl) : befP Rl cs = rev cs.length (relP Rl cs.length) := by
  funext x
  apply Nat.eq_of_testBit_eq
  intro t
  unfold befP
  rw [relP_bit, rev_bit, relP_bit]
  by_cases h1 : t < cs.length <;> by_cases h2 : x < cs.length <;> simp [h1, h2]
theorem bef_lt {cs : List Cl} (h : cs.length ≤ 9) (j : Nat) : befP Rl cs j < 65536 := relP_lt _ (by omega) j
theorem ans_lt {cs : List Cl} (h : cs.length ≤ 9) : ansP cs < 65536 := pickS_lt16 _ (by omega)
end Go.Proofs.YtfgangkpebkicaaDoor
