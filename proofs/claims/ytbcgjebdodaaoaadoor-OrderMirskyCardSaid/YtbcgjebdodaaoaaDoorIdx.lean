/-
  Contracts of slices.Index and alibref.Ahead.
-/
import Derived.Test.YtbcgjebdodaaoaaDoorRd
import Derived.Test.YtbcgjebdodaaoaaDoorMem
import Derived.Test.YtbcgjebdodaaoaaDoorSzpPure
namespace Go.Proofs.YtbcgjebdodaaoaaDoor
open Go.RowKit

theorem index_any {B : Nat} {v : Value} {xs : List Int} {w : World} (h : IRd w B v xs) (hn : xs.length ≤ 1000000) (y : Int) :
    Calls Tryd.prog 29 #[v, .int .i64 y] w fun e w' => ∃ r, e = .returned (.int .i64 r) ∧ FirstAt xs y r ∧ Below w.heap.size w w' := by
  obtain ⟨A, c, rfl, k⟩ := h
  have HK := Lib.hid k
  clear k
  go_enter Tryd.func29, Tryd.ntmps29
  go_wp2_with fail
  go_loopw [8] (fun i wr => ∃ k : Nat, k ≤ xs.length ∧ i = .int .i64 k ∧ (∀ j, j < k → xs.getD j 0 ≠ y) ∧ w = wr) (fun i _ => xs.length - (intOf i).toNat)
  case atStart => exact ⟨0, by omega, rfl, fun j hj => by omega, rfl⟩
  case round =>
    obtain ⟨k, hk, rfl, ha, rfl⟩ := hrel
    have HA := Lib.hid ha
    clear ha
    by_cases hkn : k < xs.length
    · obtain ⟨g, rfl, hg, hc⟩ := HK.out (by omega)
      have d1 : w.cell? ⟨g, k, none⟩ = some (.int .i64 (xs.getD k 0)) := hc k hkn
      clear hc
      have i1 : (0 : Int) ≤ (k : Int) := by omega
      have i2 : (k : Int) < (xs.length : Int) := by omega
      generalize hxk : xs.getD k 0 = x at d1
      have HXK := Lib.hid hxk
      clear hxk
      by_cases hx : y = x
      · have hz : (y == x) = true := by rw [beq_iff_eq]; exact hx
        have HX := Lib.hid hx
        clear hx
        go_wp2_with fail
        go_ret
        exact ⟨k, rfl, .inl ⟨k, rfl, hkn, by rw [HXK.out, HX.out], HA.out⟩, Below.refl _ _⟩
      · have hz : (y == x) = false := by rw [beq_eq_false_iff_ne]; exact hx
        have HX := Lib.hid hx
        clear hx
        go_wp2_with fail
        go_roundw
        case rel => exact ⟨k + 1, by omega, by go_num, fun j hj => by
          rcases Nat.lt_or_ge j k with h | h
          · exact HA.out j h
          · obtain rfl : j = k := by omega
            rw [HXK.out]
            exact fun e => HX.out e.symm, by trivial⟩
        case measure => simp [intOf]; omega
    · have hkn' : k = xs.length := by omega
      subst hkn'
      go_wp2_with fail
      go_ret
      exact ⟨-1, rfl, .inr ⟨rfl, HA.out⟩, Below.refl _ _⟩

theorem ahead_val (s j : Nat) : (((s : Int) / 2 ^ ((j : Int).toNat)).tmod 2 == 1) = s.testBit j := by
  have e : (s : Int) / 2 ^ ((j : Int).toNat) = ((s / 2 ^ j : Nat) : Int) := by simp
  rw [e, Nat.testBit, Nat.shiftRight_eq_div_pow, Nat.and_comm, Nat.and_one_is_mod, Bool.eq_iff_iff, beq_iff_eq, bne_iff_ne]
  have : (((s / 2 ^ j : Nat) : Int)).tmod 2 = ((s / 2 ^ j % 2 : Nat) : Int) := rfl
  rw [this]
  omega

theorem ahead_any (n : Int) (c : Nat → Nat) (i j : Nat) (w : World) (hi : i < 12) (hj : j ≤ 15) :
    Calls Tryd.prog 26 #[relV n c, .int .i64 i, .int .i64 j] w fun e w' => e = .returned (.bool ((c i).testBit j)) ∧ Below w.heap.size w w' := by
  have hb := (Below.refl w.heap.size w).alloc (Nat.le_refl _) (.cells (relCs n c) 25)
  have hR : RelB (w.alloc (.cells (relCs n c) 25)) w.heap.size n c := Lies.new _ _ _
  have hk := hR.row' (k := i) hi
  have HB := Lib.hid (And.intro hb hR)
  clear hb hR
  go_enter Tryd.func26, Tryd.ntmps26
  go_wp2_with fail
  go_ret
  exact ⟨ret_bool (by rw [← ahead_val]; simp), HB.out.1⟩
theorem ahead_yes (n : Int) (c : Nat → Nat) (i j : Nat) (w : World) (hi : i < 12) (hj : j ≤ 15) (h : (c i).testBit j = true) :
    Calls Tryd.prog 26 #[relV n c, .int .i64 i, .int .i64 j] w fun e w' => e = .returned (.bool true) ∧ Below w.heap.size w w' := h ▸ ahead_any n c i j w hi hj
theorem ahead_no (n : Int) (c : Nat → Nat) (i j : Nat) (w : World) (hi : i < 12) (hj : j ≤ 15) (h : (c i).testBit j = false) :
    Calls Tryd.prog 26 #[relV n c, .int .i64 i, .int .i64 j] w fun e w' => e = .returned (.bool false) ∧ Below w.heap.size w w' := h ▸ ahead_any n c i j w hi hj
end Go.Proofs.YtbcgjebdodaaoaaDoor
