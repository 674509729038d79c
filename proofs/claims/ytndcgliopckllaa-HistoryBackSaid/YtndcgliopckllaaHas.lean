/-
  Contracts of order.has and order.firstItems; the values in memory of a relation.
-/
import Derived.Test.YtndcgliopckllaaLies
import Derived.Test.YtndcgliopckllaaPure
import Derived.WalkKit
import Derived.Deep.QuietTactic
import Derived.BigQuiet
import Derived.Lib.Hide
namespace Go.Proofs.Ytndcgliopckllaa
open Go.RowKit
set_option maxRecDepth 20000

theorem has_val (s i : Nat) (hs : s < 65536) : (bits BinOp.and IntKind.u16 ((s : Int) / 2 ^ ((i : Int).toNat)) 1 != 0) = s.testBit i := by
  have e : (s : Int) / 2 ^ ((i : Int).toNat) = ((s / 2 ^ i : Nat) : Int) := by simp
  rw [e, show (1 : Int) = ((1 : Nat) : Int) from rfl, u16_and_nat _ _ (Nat.lt_of_le_of_lt (Nat.div_le_self _ _) hs) (by omega)]
  rw [Nat.testBit, Nat.shiftRight_eq_div_pow, Nat.and_comm, Bool.eq_iff_iff, bne_iff_ne, bne_iff_ne]
  omega


theorem has_any (s i : Nat) (w : World) (hs : s < 65536) (h1 : i ≤ 15) :
    Calls Try.prog 42 #[.int .u16 s, .int .i64 i] w fun e w' => e = .returned (.bool (s.testBit i)) ∧ w = w' := by
  go_enter Try.func42, Try.ntmps42
  go_wp2
  go_ret
  exact ⟨ret_bool (by rw [← has_val s i hs]; simp), rfl⟩

theorem has_yes (s i : Nat) (w : World) (hs : s < 65536) (h1 : i ≤ 15) (h : s.testBit i = true) :
    Calls Try.prog 42 #[.int .u16 s, .int .i64 i] w fun e w' => e = .returned (.bool true) ∧ w = w' := h ▸ has_any s i w hs h1
theorem has_no (s i : Nat) (w : World) (hs : s < 65536) (h1 : i ≤ 15) (h : s.testBit i = false) :
    Calls Try.prog 42 #[.int .u16 s, .int .i64 i] w fun e w' => e = .returned (.bool false) ∧ w = w' := h ▸ has_any s i w hs h1

theorem wrap_u16_nat (n : Nat) (h : n < 65536) : IntKind.u16.wrap (n : Int) = n := by rw [IntKind.wrap_u16]; omega

theorem first_val (n : Nat) (h : n ≤ 15) : IntKind.u16.wrap (IntKind.u16.wrap (2 ^ ((n : Int).toNat)) - 1) = ((2 ^ n - 1 : Nat) : Int) := by
  have h2 : 2 ^ n < 65536 := Nat.lt_of_le_of_lt (Nat.pow_le_pow_right (by omega) h) (by decide)
  have h1 : 1 ≤ 2 ^ n := Nat.one_le_two_pow
  rw [show ((2 : Int) ^ ((n : Int).toNat)) = ((2 ^ n : Nat) : Int) from by simp, wrap_u16_nat _ h2, ← Int.natCast_one, ← Int.natCast_sub h1]
  exact wrap_u16_nat _ (by omega)

theorem first_any (n : Nat) (w : World) (h1 : n ≤ 15) :
    Calls Try.prog 46 #[.int .i64 n] w fun e w' => e = .returned (.int .u16 ((2 ^ n - 1 : Nat) : Int)) ∧ w = w' := by
  go_enter Try.func46, Try.ntmps46
  go_wp2
  go_ret
  exact ⟨ret_int (by rw [← first_val n h1]; simp), rfl⟩

theorem pow_u16 (i : Nat) (h : i ≤ 15) : IntKind.u16.wrap (2 ^ i) = ((2 ^ i : Nat) : Int) := by
  have h2 : 2 ^ i < 65536 := Nat.lt_of_le_of_lt (Nat.pow_le_pow_right (by omega) h) (by decide)
  rw [show ((2 : Int) ^ i) = ((2 ^ i : Nat) : Int) from by simp]
  exact wrap_u16_nat _ h2
theorem pow_lt (i : Nat) (h : i ≤ 15) : 2 ^ i < 65536 := Nat.lt_of_le_of_lt (Nat.pow_le_pow_right (by omega) h) (by decide)

theorem or_pow (x k : Nat) (hx : x < 65536) (hk : k ≤ 15) : bits BinOp.or IntKind.u16 (x : Int) ((2 : Int) ^ k) = ((x ||| 2 ^ k : Nat) : Int) := by
  rw [show ((2 : Int) ^ k) = ((2 ^ k : Nat) : Int) from by simp]
  exact u16_or_nat x (2 ^ k) hx (pow_lt k hk)
theorem nat_eq0 (x : Nat) : ((x : Int) == 0) = decide (x = 0) := by rw [Bool.eq_iff_iff, beq_iff_eq, decide_eq_true_iff]; omega

theorem nat_ne0 (x : Nat) : ((x : Int) != 0) = decide (x ≠ 0) := by rw [Bool.eq_iff_iff, bne_iff_ne, decide_eq_true_iff]; omega
end Go.Proofs.Ytndcgliopckllaa
