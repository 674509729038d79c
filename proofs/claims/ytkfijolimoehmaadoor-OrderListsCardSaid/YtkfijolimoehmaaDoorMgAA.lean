/-
  Joined by a program out of: Lies, U16, Pure, Has, RelMem, Check, Mem.
-/
import Derived.Test.YtkfijolimoehmaaDoorProg
import Derived.WalkKit
import Derived.Deep.QuietTactic
import Derived.BigQuiet
import Derived.Lib.Hide
import Derived.Deep.Draws
import Derived.Laws.OwnMore

/-
  Words for memory: a block that is known whole.
-/
namespace Go.Proofs.YtkfijolimoehmaaDoor
open Go.RowKit
set_option maxRecDepth 20000

/-- Block g of w: the cells cs, of type t, none of them frozen. -/
def Lies (w : World) (g : Nat) (t : TypeId) (cs : Array Value) : Prop := w.heap[g]? = some (.cells cs t (0, 0))

section
variable {w w' : World} {g : Nat} {t : TypeId} {cs : Array Value}
/-- It still lies there, wherever the heap has the same block. -/
theorem Lies.keep (h : Lies w g t cs) (e : w'.heap[g]? = w.heap[g]?) : Lies w' g t cs := by
  show w'.heap[g]? = _
  rw [e]
  exact h
theorem Lies.lt (h : Lies w g t cs) : g < w.heap.size := (Array.getElem?_eq_some_iff.1 h).1
theorem Lies.below {B : Nat} (h : Lies w g t cs) (hb : Below B w w') (hg : g < B) : Lies w' g t cs := h.keep (hb.block g hg)
theorem Lies.alloc (h : Lies w g t cs) (o : Obj) : Lies (w.alloc o) g t cs := h.below ((Below.refl _ _).alloc (Nat.le_refl _) o) h.lt
theorem Lies.far (h : Lies w g t cs) {p : Addr} (hp : g ≠ p.block) (u : Value) : Lies (w.setCell p u) g t cs := h.keep (Below.heap_setCell w p u g hp)
theorem Lies.drew (h : Lies w g t cs) : Lies w.drew g t cs := h.keep rfl
theorem Lies.new (w : World) (t : TypeId) (cs : Array Value) : Lies (w.alloc (.cells cs t)) w.heap.size t cs := by
  show (w.heap.push _)[w.heap.size]? = _
  simp
theorem Lies.cell (h : Lies w g t cs) (i : Nat) : w.cell? ⟨g, i, none⟩ = cs[i]? := cell_of_row w g i cs t (0, 0) h
theorem Lies.frozen (h : Lies w g t cs) (i : Nat) : w.frozen? ⟨g, i, none⟩ = false := by
  have h' : w.heap[g]? = some (.cells cs t (0, 0)) := h
  simp [World.frozen?, h']
theorem Lies.set_ (h : Lies w g t cs) (i : Nat) (u : Value) : Lies (w.setCell ⟨g, i, none⟩ u) g t (cs.setIfInBounds i u) := by
  have h' : w.heap[g]? = some (.cells cs t (0, 0)) := h
  simp [Lies, World.setCell, Array.getElem?_modify, h']
theorem Lies.cast {cs' : Array Value} (h : Lies w g t cs) (e : cs = cs') : Lies w g t cs' := by rw [← e]; exact h
end

theorem belowN {B : Nat} {a w : World} (h : Below B a w) (n : Nat) : Below B a (w.drewN n) := ⟨h.os, h.tape, h.output, h.size, h.block⟩
theorem Lies.drewN {w : World} {g : Nat} {t : TypeId} {cs : Array Value} (h : Lies w g t cs) (n : Nat) : Lies (w.drewN n) g t cs := h
/-- The cells of a block that was just made. -/
theorem new_cells (W : World) (t : TypeId) (l : List Value) : ∀ j u, l[j]? = some u → (W.alloc (.cells l.toArray t)).cell? ⟨W.heap.size, j, none⟩ = some u := by
  intro j u hu
  rw [Lies.cell (Lies.new W t l.toArray)]
  simpa using hu
theorem quiet_left {P : Program} {f : FuncId} {args : Array Value} {w : World} {n : Nat} {v : Value}
    (h : Calls P f args (w.drewN n) fun e w' => e = .returned v ∧ w.drewN n = w') : Calls P f args (w.drewN n) fun e w'' => e = .returned v ∧ ∃ m, w'' = w.drewN m :=
  h.mono fun _ _ ⟨he, hm⟩ => ⟨he, n, hm.symm⟩
theorem ret_bool {a b : Bool} (h : a = b) : Ending.returned (.bool a) = .returned (.bool b) := by rw [h]
theorem ret_int {k : IntKind} {a b : Int} (h : a = b) : Ending.returned (.int k a) = .returned (.int k b) := by rw [h]
end Go.Proofs.YtkfijolimoehmaaDoor

/-
  Facts of uint16; no function of a program.
-/
namespace Go.Proofs.YtkfijolimoehmaaDoor
open Go.RowKit
set_option maxRecDepth 20000

theorem wrap_u16_nat (n : Nat) (h : n < 65536) : IntKind.u16.wrap (n : Int) = n := by rw [IntKind.wrap_u16]; omega

theorem pow_u16 (i : Nat) (h : i ≤ 15) : IntKind.u16.wrap (2 ^ i) = ((2 ^ i : Nat) : Int) := by
  have h2 : 2 ^ i < 65536 := Nat.lt_of_le_of_lt (Nat.pow_le_pow_right (by omega) h) (by decide)
  rw [show ((2 : Int) ^ i) = ((2 ^ i : Nat) : Int) from by simp]
  exact wrap_u16_nat _ h2
theorem pow_lt (i : Nat) (h : i ≤ 15) : 2 ^ i < 65536 := Nat.lt_of_le_of_lt (Nat.pow_le_pow_right (by omega) h) (by decide)

theorem or_pow (x k : Nat) (hx : x < 65536) (hk : k ≤ 15) : bits BinOp.or IntKind.u16 (x : Int) ((2 : Int) ^ k) = ((x ||| 2 ^ k : Nat) : Int) := by
  rw [show ((2 : Int) ^ k) = ((2 ^ k : Nat) : Int) from by simp]
  exact u16_or_nat x (2 ^ k) hx (pow_lt k hk)
theorem nat_eq0 (x : Nat) : ((x : Int) == 0) = decide (x = 0) := by rw [Bool.eq_iff_iff, beq_iff_eq, decide_eq_true_iff]; omega

theorem nat_ne0 (x : Nat) : ((x : Int) != 0) = decide (x ≠ 0) := by rw [Bool.eq_iff_iff, bne_iff_ne, decide_eq_true_iff]; omega
theorem add_or (x j : Nat) (hx : x < 2 ^ j) : x + 2 ^ j = x ||| 2 ^ j := by
  have := Nat.two_pow_add_eq_or_of_lt hx 1
  rw [Nat.mul_one] at this
  rw [Nat.or_comm, ← this, Nat.add_comm]
theorem add_pow (x j : Nat) (hx : x < 2 ^ j) (hj : j ≤ 15) : IntKind.u16.wrap ((x : Int) + (2 : Int) ^ j) = ((x ||| 2 ^ j : Nat) : Int) := by
  have h2 : 2 ^ (j + 1) ≤ 65536 := Nat.le_trans (Nat.pow_le_pow_right (by omega) (by omega : j + 1 ≤ 16)) (by decide)
  rw [show ((2 : Int) ^ j) = ((2 ^ j : Nat) : Int) from by simp, ← Int.natCast_add, add_or x j hx]
  refine wrap_u16_nat _ (Nat.lt_of_lt_of_le (Nat.or_lt_two_pow (Nat.lt_trans hx (Nat.pow_lt_pow_right (by omega) (by omega))) (Nat.pow_lt_pow_right (by omega) (by omega))) h2)
end Go.Proofs.YtkfijolimoehmaaDoor

/-
  Plain mathematics for package order: sets as numbers, relations as functions, the closure by Warshall's rounds. No Go, no program.
-/
namespace Go.Proofs.YtkfijolimoehmaaDoor
open Go.RowKit
set_option maxRecDepth 20000

/-- One round of the closure, over the items below m alone. -/
def stepV (m : Nat) (a : Nat → Nat) (v : Nat) : Nat → Nat := fun i => if i < m ∧ (a i).testBit v = true then a i ||| a v else a i
/-- k rounds of the closure on n items. -/
def warsh (n : Nat) (a : Nat → Nat) : Nat → Nat → Nat
  | 0 => a
  | k + 1 => stepV n (warsh n a k) k

def bitAt (s i : Nat) : Bool := s.testBit i

/-- Does one of the first m items come back to itself? -/
def cyc (c : Nat → Nat) : Nat → Bool
  | 0 => false
  | m + 1 => cyc c m || (c m).testBit m

theorem stepV_zero (a : Nat → Nat) (v : Nat) : stepV 0 a v = a := by funext i; simp [stepV]

theorem stepV_lt {m : Nat} {a : Nat → Nat} {v B : Nat} (hB : ∀ i, i < 12 → a i < 2 ^ B) (hv : v < 12) : ∀ i, i < 12 → stepV m a v i < 2 ^ B := by
  intro i hi
  unfold stepV
  split
  · exact Nat.or_lt_two_pow (hB i hi) (hB v hv)
  · exact hB i hi

theorem warsh_lt {n : Nat} {a : Nat → Nat} {B : Nat} (hB : ∀ i, i < 12 → a i < 2 ^ B) : ∀ k, k ≤ 12 → ∀ i, i < 12 → warsh n a k i < 2 ^ B
  | 0, _ => hB
  | k + 1, hk => stepV_lt (warsh_lt hB k (by omega)) (by omega)

/-- One step of a round: item m's row. -/
theorem stepV_succ (m : Nat) (a : Nat → Nat) (v : Nat) :
    stepV (m + 1) a v = fun i => if i = m then (if (a m).testBit v = true then a m ||| a v else a m) else stepV m a v i := by
  funext i
  unfold stepV
  by_cases h : i = m
  · subst h; simp
  · simp [h, show i < m + 1 ↔ i < m by omega]

/-- In the midst of a round row m and row v are as they were. -/
theorem stepV_at (m : Nat) (a : Nat → Nat) (v : Nat) : stepV m a v m = a m := by simp [stepV]
theorem stepV_via (m : Nat) (a : Nat → Nat) (v : Nat) : stepV m a v v = a v := by
  unfold stepV; split <;> simp

/-! ### The relation turned round -/
def stepR (m : Nat) (a : Nat → Nat) (i : Nat) (r : Nat → Nat) : Nat → Nat := fun j => if j < m ∧ (a i).testBit j = true then r j ||| 2 ^ i else r j
def revs (n : Nat) (a : Nat → Nat) : Nat → Nat → Nat
  | 0 => fun _ => 0
  | k + 1 => stepR n a k (revs n a k)
/-- Bit i of row j, where bit j of row i was. -/
def rev (n : Nat) (a : Nat → Nat) : Nat → Nat := revs n a n

theorem stepR_zero (a : Nat → Nat) (i : Nat) (r : Nat → Nat) : stepR 0 a i r = r := by funext j; simp [stepR]
theorem stepR_succ (m : Nat) (a : Nat → Nat) (i : Nat) (r : Nat → Nat) :
    stepR (m + 1) a i r = fun j => if j = m then (if (a i).testBit m = true then r m ||| 2 ^ i else r m) else stepR m a i r j := by
  funext j
  unfold stepR
  by_cases h : j = m
  · subst h; simp
  · simp [h, show j < m + 1 ↔ j < m by omega]
theorem stepR_at (m : Nat) (a : Nat → Nat) (i : Nat) (r : Nat → Nat) : stepR m a i r m = r m := by simp [stepR]
theorem stepR_lt {m : Nat} {a : Nat → Nat} {i : Nat} {r : Nat → Nat} {j B : Nat} (h : r j < 2 ^ B) (hi : i < B) : stepR m a i r j < 2 ^ B := by
  unfold stepR
  split
  · exact Nat.or_lt_two_pow h (Nat.pow_lt_pow_right (by omega) hi)
  · exact h
theorem revs_lt (n : Nat) (a : Nat → Nat) (B j : Nat) : ∀ k, k ≤ B → revs n a k j < 2 ^ B
  | 0, _ => Nat.two_pow_pos B
  | k + 1, hk => stepR_lt (revs_lt n a B j k (by omega)) (by omega)

/-! ### What may come next -/
def rdyUp (b : Nat → Nat) (d : Nat) : Nat → Nat
  | 0 => 0
  | m + 1 => if d.testBit m = false ∧ b m &&& (65535 - d) = 0 then rdyUp b d m ||| 2 ^ m else rdyUp b d m
theorem rdyUp_lt (b : Nat → Nat) (d B : Nat) : ∀ m, m ≤ B → rdyUp b d m < 2 ^ B
  | 0, _ => Nat.two_pow_pos B
  | m + 1, hm => by
    unfold rdyUp
    split
    · exact Nat.or_lt_two_pow (rdyUp_lt b d B m (by omega)) (Nat.pow_lt_pow_right (by omega) (by omega))
    · exact rdyUp_lt b d B m (by omega)


theorem revs_bit (n : Nat) (a : Nat → Nat) (x t : Nat) : ∀ k, (revs n a k x).testBit t = (decide (t < k) && decide (x < n) && (a t).testBit x)
  | 0 => by simp [revs]
  | k + 1 => by
    show (stepR n a k (revs n a k) x).testBit t = _
    have ih := revs_bit n a x t k
    unfold stepR
    by_cases hc : x < n ∧ (a k).testBit x = true
    · rw [if_pos hc, Nat.testBit_or, ih, Nat.testBit_two_pow]
      by_cases e : k = t
      · subst e; simp [hc]
      · simp [e, show t < k + 1 ↔ t < k by omega]
    · rw [if_neg hc, ih]
      by_cases e : k = t
      · subst e
        by_cases hx : x < n
        · have : (a k).testBit x = false := by
            cases h : (a k).testBit x
            · rfl
            · exact absurd ⟨hx, h⟩ hc
          simp [this]
        · simp [hx]
      · simp [show t < k + 1 ↔ t < k by omega]
theorem rev_bit (n : Nat) (a : Nat → Nat) (x t : Nat) : (rev n a x).testBit t = (decide (t < n) && decide (x < n) && (a t).testBit x) := revs_bit n a x t n
theorem rev_at {n : Nat} {a : Nat → Nat} {x t : Nat} : (rev n a x).testBit t = true ↔ t < n ∧ x < n ∧ (a t).testBit x = true := by
  rw [rev_bit]; simp [and_assoc]

theorem cyc_iff (c : Nat → Nat) : ∀ m, cyc c m = true ↔ ∃ v, v < m ∧ (c v).testBit v = true
  | 0 => by simp [cyc]
  | m + 1 => by
    rw [cyc, Bool.or_eq_true, cyc_iff c m]
    constructor
    · rintro (⟨v, hv, h⟩ | h)
      · exact ⟨v, by omega, h⟩
      · exact ⟨m, by omega, h⟩
    · rintro ⟨v, hv, h⟩
      rcases Nat.lt_or_ge v m with h' | h'
      · exact .inl ⟨v, h', h⟩
      · obtain rfl : v = m := by omega
        exact .inr h


def sumUp (f : Nat → Nat) : Nat → Nat
  | 0 => 0
  | m + 1 => sumUp f m + f m
def card (n S : Nat) : Nat := sumUp (fun i => if S.testBit i = true then 1 else 0) n
end Go.Proofs.YtkfijolimoehmaaDoor

/-
  Contracts of order.has and order.firstItems; the values in memory of a relation.
-/
namespace Go.Proofs.YtkfijolimoehmaaDoor
open Go.RowKit
set_option maxRecDepth 20000

theorem has_val (s i : Nat) (hs : s < 65536) : (bits BinOp.and IntKind.u16 ((s : Int) / 2 ^ ((i : Int).toNat)) 1 != 0) = s.testBit i := by
  have e : (s : Int) / 2 ^ ((i : Int).toNat) = ((s / 2 ^ i : Nat) : Int) := by simp
  rw [e, show (1 : Int) = ((1 : Nat) : Int) from rfl, u16_and_nat _ _ (Nat.lt_of_le_of_lt (Nat.div_le_self _ _) hs) (by omega)]
  rw [Nat.testBit, Nat.shiftRight_eq_div_pow, Nat.and_comm, Bool.eq_iff_iff, bne_iff_ne, bne_iff_ne]
  omega


theorem has_any (s i : Nat) (w : World) (hs : s < 65536) (h1 : i ≤ 15) :
    Calls Tryd.prog 22 #[.int .u16 s, .int .i64 i] w fun e w' => e = .returned (.bool (s.testBit i)) ∧ w = w' := by
  go_enter Tryd.func22, Tryd.ntmps22
  go_wp2
  go_ret
  exact ⟨ret_bool (by rw [← has_val s i hs]; simp), rfl⟩

theorem has_yes (s i : Nat) (w : World) (hs : s < 65536) (h1 : i ≤ 15) (h : s.testBit i = true) :
    Calls Tryd.prog 22 #[.int .u16 s, .int .i64 i] w fun e w' => e = .returned (.bool true) ∧ w = w' := h ▸ has_any s i w hs h1
theorem has_no (s i : Nat) (w : World) (hs : s < 65536) (h1 : i ≤ 15) (h : s.testBit i = false) :
    Calls Tryd.prog 22 #[.int .u16 s, .int .i64 i] w fun e w' => e = .returned (.bool false) ∧ w = w' := h ▸ has_any s i w hs h1

theorem first_val (n : Nat) (h : n ≤ 15) : IntKind.u16.wrap (IntKind.u16.wrap (2 ^ ((n : Int).toNat)) - 1) = ((2 ^ n - 1 : Nat) : Int) := by
  have h2 : 2 ^ n < 65536 := Nat.lt_of_le_of_lt (Nat.pow_le_pow_right (by omega) h) (by decide)
  have h1 : 1 ≤ 2 ^ n := Nat.one_le_two_pow
  rw [show ((2 : Int) ^ ((n : Int).toNat)) = ((2 ^ n : Nat) : Int) from by simp, wrap_u16_nat _ h2, ← Int.natCast_one, ← Int.natCast_sub h1]
  exact wrap_u16_nat _ (by omega)

theorem first_any (n : Nat) (w : World) (h1 : n ≤ 15) :
    Calls Tryd.prog 28 #[.int .i64 n] w fun e w' => e = .returned (.int .u16 ((2 ^ n - 1 : Nat) : Int)) ∧ w = w' := by
  go_enter Tryd.func28, Tryd.ntmps28
  go_wp2
  go_ret
  exact ⟨ret_int (by rw [← first_val n h1]; simp), rfl⟩

end Go.Proofs.YtkfijolimoehmaaDoor

/-
  A relation as a value and in a block; no function of a program.
-/
namespace Go.Proofs.YtkfijolimoehmaaDoor
open Go.RowKit
set_option maxRecDepth 20000

/-- A relation as a value: the number of items, and a set for each of twelve. -/
abbrev relV (n : Int) (a : Nat → Nat) : Value := .agg #[.int .i64 n, .int .u16 (a 0), .int .u16 (a 1), .int .u16 (a 2), .int .u16 (a 3), .int .u16 (a 4), .int .u16 (a 5), .int .u16 (a 6), .int .u16 (a 7), .int .u16 (a 8), .int .u16 (a 9), .int .u16 (a 10), .int .u16 (a 11)]
abbrev rowsV (a : Nat → Nat) : Value := .agg #[.int .u16 (a 0), .int .u16 (a 1), .int .u16 (a 2), .int .u16 (a 3), .int .u16 (a 4), .int .u16 (a 5), .int .u16 (a 6), .int .u16 (a 7), .int .u16 (a 8), .int .u16 (a 9), .int .u16 (a 10), .int .u16 (a 11)]

/-- The cells of a relation. -/
abbrev relCs (n : Int) (a : Nat → Nat) : Array Value := #[.int .i64 n, .int .u16 (a 0), .int .u16 (a 1), .int .u16 (a 2), .int .u16 (a 3), .int .u16 (a 4), .int .u16 (a 5), .int .u16 (a 6), .int .u16 (a 7), .int .u16 (a 8), .int .u16 (a 9), .int .u16 (a 10), .int .u16 (a 11)]
def RelB (w : World) (g : Nat) (n : Int) (a : Nat → Nat) : Prop := Lies w g 25 (relCs n a)

theorem nat12 {k : Nat} (hk : k < 12) : k = 0 ∨ k = 1 ∨ k = 2 ∨ k = 3 ∨ k = 4 ∨ k = 5 ∨ k = 6 ∨ k = 7 ∨ k = 8 ∨ k = 9 ∨ k = 10 ∨ k = 11 := by omega

section
variable {w w' : World} {g : Nat} {n : Int} {a : Nat → Nat}
theorem RelB.size (h : RelB w g n a) : w.cell? ⟨g, 0, none⟩ = some (.int .i64 n) := Lies.cell h 0
theorem RelB.row (h : RelB w g n a) {k : Nat} (hk : k < 12) : w.cell? ⟨g, k + 1, none⟩ = some (.int .u16 (a k)) := by
  rw [Lies.cell h]
  rcases nat12 hk with rfl | rfl | rfl | rfl | rfl | rfl | rfl | rfl | rfl | rfl | rfl | rfl <;> rfl
theorem RelB.row' (h : RelB w g n a) {k : Nat} (hk : k < 12) : w.cell? ⟨g, 1 + k, none⟩ = some (.int .u16 (a k)) := by
  rw [Nat.add_comm]; exact h.row hk
theorem RelB.rows (h : RelB w g n a) : w.cell? ⟨g, 1, none⟩ = some (.int .u16 (a 0)) ∧ w.cell? ⟨g, 2, none⟩ = some (.int .u16 (a 1)) ∧ w.cell? ⟨g, 3, none⟩ = some (.int .u16 (a 2)) ∧ w.cell? ⟨g, 4, none⟩ = some (.int .u16 (a 3)) ∧ w.cell? ⟨g, 5, none⟩ = some (.int .u16 (a 4)) ∧ w.cell? ⟨g, 6, none⟩ = some (.int .u16 (a 5)) ∧ w.cell? ⟨g, 7, none⟩ = some (.int .u16 (a 6)) ∧ w.cell? ⟨g, 8, none⟩ = some (.int .u16 (a 7)) ∧ w.cell? ⟨g, 9, none⟩ = some (.int .u16 (a 8)) ∧ w.cell? ⟨g, 10, none⟩ = some (.int .u16 (a 9)) ∧ w.cell? ⟨g, 11, none⟩ = some (.int .u16 (a 10)) ∧ w.cell? ⟨g, 12, none⟩ = some (.int .u16 (a 11)) :=
  ⟨h.row (k := 0) (by omega), h.row (k := 1) (by omega), h.row (k := 2) (by omega), h.row (k := 3) (by omega), h.row (k := 4) (by omega), h.row (k := 5) (by omega), h.row (k := 6) (by omega), h.row (k := 7) (by omega), h.row (k := 8) (by omega), h.row (k := 9) (by omega), h.row (k := 10) (by omega), h.row (k := 11) (by omega)⟩
theorem RelB.set' (h : RelB w g n a) {k : Nat} (hk : k < 12) (x : Nat) : RelB (w.setCell ⟨g, 1 + k, none⟩ (.int .u16 x)) g n (fun i => if i = k then x else a i) := by
  refine Lies.cast (Lies.set_ h (1 + k) (.int .u16 x)) ?_
  rcases nat12 hk with rfl | rfl | rfl | rfl | rfl | rfl | rfl | rfl | rfl | rfl | rfl | rfl <;> simp [relCs]
theorem RelB.free (h : RelB w g n a) (i : Nat) : w.frozen? ⟨g, i, none⟩ = false := Lies.frozen h i
theorem RelB.set_ (h : RelB w g n a) {k : Nat} (hk : k < 12) (x : Nat) : RelB (w.setCell ⟨g, k + 1, none⟩ (.int .u16 x)) g n (fun i => if i = k then x else a i) := by
  refine Lies.cast (Lies.set_ h (k + 1) (.int .u16 x)) ?_
  rcases nat12 hk with rfl | rfl | rfl | rfl | rfl | rfl | rfl | rfl | rfl | rfl | rfl | rfl <;> simp [relCs]
theorem RelB.congr {b : Nat → Nat} (h : RelB w g n a) (e : ∀ i, i < 12 → a i = b i) : RelB w g n b := by
  refine Lies.cast h ?_
  simp [relCs, e 0, e 1, e 2, e 3, e 4, e 5, e 6, e 7, e 8, e 9, e 10, e 11]
end

/-- The world behind thirteen stores. -/
abbrev fillW (w : World) (g : Nat) (m : Int) (b : Nat → Nat) : World := (((((((((((((w.setCell ⟨g, 0, none⟩ (.int .i64 m)).setCell ⟨g, 1, none⟩ (.int .u16 (b 0))).setCell ⟨g, 2, none⟩ (.int .u16 (b 1))).setCell ⟨g, 3, none⟩ (.int .u16 (b 2))).setCell ⟨g, 4, none⟩ (.int .u16 (b 3))).setCell ⟨g, 5, none⟩ (.int .u16 (b 4))).setCell ⟨g, 6, none⟩ (.int .u16 (b 5))).setCell ⟨g, 7, none⟩ (.int .u16 (b 6))).setCell ⟨g, 8, none⟩ (.int .u16 (b 7))).setCell ⟨g, 9, none⟩ (.int .u16 (b 8))).setCell ⟨g, 10, none⟩ (.int .u16 (b 9))).setCell ⟨g, 11, none⟩ (.int .u16 (b 10))).setCell ⟨g, 12, none⟩ (.int .u16 (b 11)))
theorem RelB.fill {w : World} {g : Nat} {n : Int} {a : Nat → Nat} (h : RelB w g n a) (m : Int) (b : Nat → Nat) : RelB (fillW w g m b) g m b := by
  have h0 := Lies.set_ h 0 (.int .i64 m)
  have h1 := Lies.set_ h0 1 (.int .u16 (b 0))
  have h2 := Lies.set_ h1 2 (.int .u16 (b 1))
  have h3 := Lies.set_ h2 3 (.int .u16 (b 2))
  have h4 := Lies.set_ h3 4 (.int .u16 (b 3))
  have h5 := Lies.set_ h4 5 (.int .u16 (b 4))
  have h6 := Lies.set_ h5 6 (.int .u16 (b 5))
  have h7 := Lies.set_ h6 7 (.int .u16 (b 6))
  have h8 := Lies.set_ h7 8 (.int .u16 (b 7))
  have h9 := Lies.set_ h8 9 (.int .u16 (b 8))
  have h10 := Lies.set_ h9 10 (.int .u16 (b 9))
  have h11 := Lies.set_ h10 11 (.int .u16 (b 10))
  have h12 := Lies.set_ h11 12 (.int .u16 (b 11))
  exact Lies.cast h12 (by simp [relCs])
theorem fillW_below {B : Nat} {w0 w : World} {g : Nat} (h : Below B w0 w) (hg : B ≤ g) (m : Int) (b : Nat → Nat) : Below B w0 (fillW w g m b) :=
  ((((((((((((h.setCell (p := ⟨g, 0, none⟩) hg _).setCell (p := ⟨g, 1, none⟩) hg _).setCell (p := ⟨g, 2, none⟩) hg _).setCell (p := ⟨g, 3, none⟩) hg _).setCell (p := ⟨g, 4, none⟩) hg _).setCell (p := ⟨g, 5, none⟩) hg _).setCell (p := ⟨g, 6, none⟩) hg _).setCell (p := ⟨g, 7, none⟩) hg _).setCell (p := ⟨g, 8, none⟩) hg _).setCell (p := ⟨g, 9, none⟩) hg _).setCell (p := ⟨g, 10, none⟩) hg _).setCell (p := ⟨g, 11, none⟩) hg _).setCell (p := ⟨g, 12, none⟩) hg _
theorem post_fill {P : Program} {fn : Func} {R : Ending → World → Prop} {act : Act} {w W : World} {B g : Nat} {n0 : Int} {a0 : Nat → Nat} (n : Int) (a : Nat → Nat)
    (hB : RelB W g n0 a0) (hb : Below B w W) (hg : B ≤ g) (k : ∀ wz, RelB wz g n a → Below B w wz → bodyPost P fn R .ret act wz) : bodyPost P fn R .ret act (fillW W g n a) :=
  k _ (hB.fill n a) (fillW_below hb hg n a)

theorem post_fill1 {P : Program} {fn : Func} {R : Ending → World → Prop} {act : Act} {w W : World} {B g : Nat} {n0 : Int} {a0 : Nat → Nat} {o : Obj} (n : Int) (a : Nat → Nat)
    (hB : RelB W g n0 a0) (hb : Below B w W) (hg : B ≤ g) (hs : B ≤ W.heap.size) (k : ∀ wz, RelB wz g n a → Below B w wz → bodyPost P fn R .ret act wz) : bodyPost P fn R .ret act ((fillW W g n a).alloc o) :=
  k _ (Lies.alloc (hB.fill n a) _) ((fillW_below hb hg n a).alloc (Nat.le_trans hs (fillW_below (Below.refl 0 W) (Nat.zero_le g) n a).size) _)

structure ORel (w : World) (R G m : Nat) (c : Nat → Nat) (wr : World) : Prop where
  below : Below w.heap.size w wr
  res : RelB wr R 0 (fun _ => 0)
  own : RelB wr G m c
  ge : w.heap.size ≤ R
  far : R < G
theorem ORel.far' {w wr : World} {R G m : Nat} {c : Nat → Nat} (h : ORel w R G m c wr) : w.heap.size ≤ G := by
  have := h.ge
  have := h.far
  omega
theorem ORel.set_ {w wr : World} {R G m : Nat} {c : Nat → Nat} (h : ORel w R G m c wr) {k : Nat} (hk : k < 12) (x : Nat) :
    ORel w R G m (fun i => if i = k then x else c i) (wr.setCell ⟨G, 1 + k, none⟩ (.int .u16 x)) :=
  ⟨h.below.setCell h.far' _, Lies.far h.res (by have := h.far; show R ≠ G; omega) _, h.own.set' hk x, h.ge, h.far⟩
theorem ORel.drew {w wr : World} {R G m : Nat} {c : Nat → Nat} (h : ORel w R G m c wr) : ORel w R G m c wr.drew := ⟨h.below.drew, h.res, h.own, h.ge, h.far⟩
theorem ORel.drewN {w wr : World} {R G m : Nat} {c : Nat → Nat} (h : ORel w R G m c wr) (n : Nat) : ORel w R G m c (wr.drewN n) := ⟨belowN h.below n, Lies.drewN h.res n, Lies.drewN h.own n, h.ge, h.far⟩
theorem ORel.alloc {w wr : World} {R G m : Nat} {c : Nat → Nat} (h : ORel w R G m c wr) (o : Obj) : ORel w R G m c (wr.alloc o) := ⟨h.below.alloc h.below.size _, Lies.alloc h.res _, Lies.alloc h.own _, h.ge, h.far⟩
theorem ORel.congr {w wr : World} {R G m : Nat} {c d : Nat → Nat} (h : ORel w R G m c wr) (e : ∀ i, i < 12 → c i = d i) : ORel w R G m d wr := ⟨h.below, h.res, h.own.congr e, h.ge, h.far⟩

theorem ORel.next {w wr wr' : World} {R G m : Nat} {c : Nat → Nat} (h : ORel w R G m c wr) (hb : Below wr.heap.size wr wr') : ORel w R G m c wr' :=
  ⟨h.below.trans (hb.mono h.below.size), Lies.below h.res hb h.res.lt, Lies.below h.own hb h.own.lt, h.ge, h.far⟩

end Go.Proofs.YtkfijolimoehmaaDoor

/-
  Contract of order.Check.
-/
namespace Go.Proofs.YtkfijolimoehmaaDoor
open Go.RowKit
set_option maxRecDepth 20000

theorem idx12 (a : Nat → Nat) (k : Nat) (hk : k < 12) (w : World) :
    (Instr.index 23 (rowsV a) (.int .i64 k)).run Tryd.prog w = .ok (.int .u16 (a k)) w := by
  have h : k = 0 ∨ k = 1 ∨ k = 2 ∨ k = 3 ∨ k = 4 ∨ k = 5 ∨ k = 6 ∨ k = 7 ∨ k = 8 ∨ k = 9 ∨ k = 10 ∨ k = 11 := by omega
  clear hk
  rcases h with rfl | rfl | rfl | rfl | rfl | rfl | rfl | rfl | rfl | rfl | rfl | rfl <;> rfl

theorem check_arg (n : Int) (a : Nat → Nat) (w : World) (h : n < 0 ∨ 12 < n) :
    Calls Tryd.prog 9 #[relV n a] w fun e w' => e = .returned (.int .i64 1) ∧ Below w.heap.size w w' := by
  rcases h with h | h
  · go_enter Tryd.func9, Tryd.ntmps9
    go_wp2
    go_ret
    exact ⟨rfl, (Below.refl _ _).alloc (Nat.le_refl _) _⟩
  · have h' : ¬ n < 0 := by omega
    go_enter Tryd.func9, Tryd.ntmps9
    go_wp2
    go_ret
    exact ⟨rfl, (Below.refl _ _).alloc (Nat.le_refl _) _⟩

/-- What is wrong with a row: a bit from n on, or a row from n on that is not empty. -/
def rowBad (n i x : Nat) : Bool := (x &&& (65535 - (2 ^ n - 1))) != 0 || (decide (n ≤ i) && x != 0)

theorem andNot_val (n x : Nat) (hn : n ≤ 12) (hx : x < 65536) : (bits BinOp.andNot IntKind.u16 (x : Int) ((2 ^ n - 1 : Nat) : Int) != 0) = ((x &&& (65535 - (2 ^ n - 1))) != 0) := by
  have h2 : 2 ^ n < 65536 := Nat.lt_of_le_of_lt (Nat.pow_le_pow_right (by omega) hn) (by decide)
  rw [u16_andNot_nat _ _ hx (by omega), Bool.eq_iff_iff, bne_iff_ne, bne_iff_ne]
  omega

theorem check_ok (n : Nat) (a : Nat → Nat) (w : World) (hn : n ≤ 12) (ha : ∀ i, i < 12 → a i < 65536) (hg : ∀ i, i < 12 → rowBad n i (a i) = false) :
    Calls Tryd.prog 9 #[relV n a] w fun e w' => e = .returned (.int .i64 0) ∧ Below w.heap.size w w' := by
  have h0 : ¬ (n : Int) < 0 := by omega
  have h1 : ¬ 12 < (n : Int) := by omega
  go_enter Tryd.func9, Tryd.ntmps9
  go_wp2
  go_loop [15] (fun i => ∃ k : Nat, k ≤ 12 ∧ i = .int .i64 k) (fun i => 12 - (intOf i).toNat)
  case atStart => exact ⟨0, by omega, rfl⟩
  case round =>
    obtain ⟨k, hk, rfl⟩ := hrel
    by_cases hlt : k < 12
    · have hi := idx12 a k hlt
      have hv := andNot_val n (a k) hn (ha k hlt)
      have hb := hg k hlt
      unfold rowBad at hb
      rw [Bool.or_eq_false_iff, Bool.and_eq_false_iff] at hb
      obtain ⟨hb1, hb2⟩ := hb
      rw [hb1] at hv
      clear hb1
      have hz : n ≤ k → ((a k : Int) != 0) = false := by
        intro h
        rcases hb2 with h' | h'
        · simp at h'; omega
        · rw [bne_eq_false_iff_eq] at h' ⊢; omega
      clear hb2
      by_cases hnk : n ≤ k
      · have hz' := hz hnk
        clear hz
        go_wp2_with (go_at_call 28; refine (first_any n _ (by omega)).mono ?_; rintro e w' ⟨rfl, rfl⟩)
        go_round
        case rel => exact ⟨k + 1, by omega, by go_num⟩
        case measure => simp [intOf]; omega
      · clear hz
        go_wp2_with (go_at_call 28; refine (first_any n _ (by omega)).mono ?_; rintro e w' ⟨rfl, rfl⟩)
        go_round
        case rel => exact ⟨k + 1, by omega, by go_num⟩
        case measure => simp [intOf]; omega
    · go_wp2
      go_ret
      exact ⟨rfl, (Below.refl _ _).alloc (Nat.le_refl _) _⟩

theorem check_form (n : Nat) (a : Nat → Nat) (w : World) (hn : n ≤ 12) (ha : ∀ i, i < 12 → a i < 65536) (m : Nat) (hm : m < 12) (hmb : rowBad n m (a m) = true) :
    Calls Tryd.prog 9 #[relV n a] w fun e w' => e = .returned (.int .i64 3) ∧ Below w.heap.size w w' := by
  have h0 : ¬ (n : Int) < 0 := by omega
  have h1 : ¬ 12 < (n : Int) := by omega
  go_enter Tryd.func9, Tryd.ntmps9
  go_wp2
  go_loop [15] (fun i => ∃ k : Nat, k ≤ m ∧ i = .int .i64 k) (fun i => 12 - (intOf i).toNat)
  case atStart => exact ⟨0, by omega, rfl⟩
  case round =>
    obtain ⟨k, hk, rfl⟩ := hrel
    have hlt : k < 12 := by omega
    have hi := idx12 a k hlt
    have hv := andNot_val n (a k) hn (ha k hlt)
    by_cases hb1 : ((a k &&& (65535 - (2 ^ n - 1))) != 0) = true
    · rw [hb1] at hv
      clear hb1 hmb
      go_wp2_with (go_at_call 28; refine (first_any n _ (by omega)).mono ?_; rintro e w' ⟨rfl, rfl⟩)
      go_ret
      exact ⟨rfl, (Below.refl _ _).alloc (Nat.le_refl _) _⟩
    · rw [Bool.not_eq_true] at hb1
      rw [hb1] at hv
      by_cases hnk : n ≤ k
      · by_cases hz : a k = 0
        · have hkm : k < m := by
            rcases Nat.lt_or_ge k m with h | h
            · exact h
            · exfalso
              have : k = m := by omega
              subst this
              unfold rowBad at hmb
              rw [hb1, hz] at hmb
              simp at hmb
          have hz' : ((a k : Int) != 0) = false := by rw [bne_eq_false_iff_eq]; omega
          clear hb1 hmb hz
          go_wp2_with (go_at_call 28; refine (first_any n _ (by omega)).mono ?_; rintro e w' ⟨rfl, rfl⟩)
          go_round
          case rel => exact ⟨k + 1, by omega, by go_num⟩
          case measure => simp [intOf]; omega
        · have hz' : ((a k : Int) != 0) = true := by rw [bne_iff_ne]; omega
          clear hb1 hmb hz
          go_wp2_with (go_at_call 28; refine (first_any n _ (by omega)).mono ?_; rintro e w' ⟨rfl, rfl⟩)
          go_ret
          exact ⟨rfl, (Below.refl _ _).alloc (Nat.le_refl _) _⟩
      · have hkm : k < m := by
          rcases Nat.lt_or_ge k m with h | h
          · exact h
          · exfalso
            have : k = m := by omega
            subst this
            unfold rowBad at hmb
            rw [hb1] at hmb
            simp at hmb
            omega
        clear hb1 hmb
        go_wp2_with (go_at_call 28; refine (first_any n _ (by omega)).mono ?_; rintro e w' ⟨rfl, rfl⟩)
        go_round
        case rel => exact ⟨k + 1, by omega, by go_num⟩
        case measure => simp [intOf]; omega
end Go.Proofs.YtkfijolimoehmaaDoor

/-
  A joint: a relation in a block (RelMem), order.Check.
-/
