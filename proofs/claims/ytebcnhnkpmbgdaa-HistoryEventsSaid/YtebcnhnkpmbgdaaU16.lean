/-
  Facts of uint16; no function of a program.
-/
import Derived.Test.YtebcnhnkpmbgdaaLies
namespace Go.Proofs.Ytebcnhnkpmbgdaa
open Go.RowKit
set_option maxRecDepth 20000

theorem wrap_u16_nat (n : Nat) (h : n < 65536) : IntKind.u16.wrap (n : Int) = n := by rw [IntKind.wrap_u16]; omega

theorem pow_u16 (i : Nat) (h : i ≤ 15) : IntKind.u16.wrap (2 ^ i) = ((2 ^ i : Nat) : Int) := by
  have h2 : 2 ^ i < 65536 := Nat.lt_of_le_of_lt (Nat.pow_le_pow_right (by omega) h) (by decide)
  rw [show ((2 : Int) ^ i) = ((2 ^ i : Nat) : Int) from by simp]
  exact wrap_u16_nat _ h2
theorem pow_lt (i : Nat) (h : i ≤ 15) : 2 ^ i < 65536 := Nat.lt_of_le_of_lt (Nat.pow_le_pow_right (by omega) h) (by decide)

theorem or_pow (x k : Nat) (hx : x < 65536) (hk : k ≤ 15) : bits BinOp.or IntKind.u16 (x : Int) ((2 : Int) ^ k) = ((x ||| 2 ^ k : Nat) : Int) := by
  rw [show ((2 : Int) ^ k) = ((2 ^ k : Nat) : Int) from by simp]
  exact u16_or_nat x (2 ^ k) hx (pow_lt k hk)
theorem nat_eq0 (x : Nat) : ((x : Int) == 0) = decide (x = 0) := by rw [Bool.eq_iff_iff, beq_iff_eq, decide_eq_true_iff]; omega

theorem nat_ne0 (x : Nat) : ((x : Int) != 0) = decide (x ≠ 0) := by rw [Bool.eq_iff_iff, bne_iff_ne, decide_eq_true_iff]; omega
theorem add_or (x j : Nat) (hx : x < 2 ^ j) : x + 2 ^ j = x ||| 2 ^ j := by
  have := Nat.two_pow_add_eq_or_of_lt hx 1
  rw [Nat.mul_one] at this
  rw [Nat.or_comm, ← this, Nat.add_comm]
theorem add_pow (x j : Nat) (hx : x < 2 ^ j) (hj : j ≤ 15) : IntKind.u16.wrap ((x : Int) + (2 : Int) ^ j) = ((x ||| 2 ^ j : Nat) : Int) := by
  have h2 : 2 ^ (j + 1) ≤ 65536 := Nat.le_trans (Nat.pow_le_pow_right (by omega) (by omega : j + 1 ≤ 16)) (by decide)
  rw [show ((2 : Int) ^ j) = ((2 ^ j : Nat) : Int) from by simp, ← Int.natCast_add, add_or x j hx]
  refine wrap_u16_nat _ (Nat.lt_of_lt_of_le (Nat.or_lt_two_pow (Nat.lt_trans hx (Nat.pow_lt_pow_right (by omega) (by omega))) (Nat.pow_lt_pow_right (by omega) (by omega))) h2)
end Go.Proofs.Ytebcnhnkpmbgdaa
