/-
  The contract of slices.Equal.
-/
import Derived.Test.YtcpmhflkooipdaaDoorIRd
import Derived.WalkKit
import Derived.Deep.QuietTactic
import Derived.BigQuiet
import Derived.Lib.Hide
namespace Go.Proofs.YtcpmhflkooipdaaDoor
open Go.RowKit
set_option maxRecDepth 20000

theorem equal_len (A1 A2 : Option Addr) (n m c1 c2 : Nat) (w : World) (h : n ≠ m) :
    Calls Tryd.prog 11 #[.slice A1 n c1, .slice A2 m c2] w fun e w' => e = .returned (.bool false) ∧ w = w' := by
  have hz : ((n : Int) != (m : Int)) = true := by rw [bne_iff_ne]; omega
  go_enter Tryd.func11, Tryd.ntmps11
  go_wp2
  go_ret
  exact ⟨rfl, rfl⟩
theorem equal_nil (A1 A2 : Option Addr) (c1 c2 : Nat) (w : World) :
    Calls Tryd.prog 11 #[.slice A1 0 c1, .slice A2 0 c2] w fun e w' => e = .returned (.bool true) ∧ w = w' := by
  go_enter Tryd.func11, Tryd.ntmps11
  go_wp2
  go_loop [13] (fun i => i = .int .i64 0) (fun _ => 0)
  case atStart => rfl
  case round =>
    obtain rfl := hrel
    go_wp2
    go_ret
    exact ⟨rfl, rfl⟩

/-- The first k of both are alike. -/
def alike (xs ys : List Int) (k : Nat) : Prop := ∀ j, j < k → xs.getD j 0 = ys.getD j 0
theorem alike_all {xs ys : List Int} (hl : xs.length = ys.length) (h : alike xs ys xs.length) : xs = ys := by
  apply List.ext_getElem hl
  intro j h1 h2
  have := h j h1
  simpa [List.getD, h1, h2] using this
theorem alike_not {xs ys : List Int} {k : Nat} (h : xs.getD k 0 ≠ ys.getD k 0) : xs ≠ ys := fun e => h (by rw [e])

set_option maxHeartbeats 1000000 in
theorem equal_pos (g1 g2 n c1 c2 : Nat) (xs ys : List Int) (w : World) (hx : xs.length = n) (hy : ys.length = n) (hn : n ≤ 1000000) (h0 : 0 < n)
    (hc1 : ∀ j, j < n → w.cell? ⟨g1, j, none⟩ = some (.int .i64 (xs.getD j 0))) (hc2 : ∀ j, j < n → w.cell? ⟨g2, j, none⟩ = some (.int .i64 (ys.getD j 0))) :
    Calls Tryd.prog 11 #[.slice (some ⟨g1, 0, none⟩) n c1, .slice (some ⟨g2, 0, none⟩) n c2] w fun e w' => e = .returned (.bool (decide (xs = ys))) ∧ Below w.heap.size w w' := by
  have HC1 := Lib.hid hc1
  have HC2 := Lib.hid hc2
  have HX := Lib.hid hx
  have HY := Lib.hid hy
  clear hc1 hc2 hx hy
  go_enter Tryd.func11, Tryd.ntmps11
  go_wp2_with fail
  go_loopw [13] (fun i wr => ∃ k : Nat, k ≤ n ∧ i = .int .i64 k ∧ alike xs ys k ∧ ∃ nq, wr = w.drewN nq) (fun i _ => n - (intOf i).toNat)
  case atStart => exact ⟨0, by omega, rfl, fun j hj => by omega, 0, rfl⟩
  case round =>
    obtain ⟨k, hk, rfl, ha, nq, rfl⟩ := hrel
    have HA := Lib.hid ha
    clear ha
    by_cases hkn : k < n
    · have d1 : w.cell? ⟨g1, k, none⟩ = some (.int .i64 (xs.getD k 0)) := HC1.out k hkn
      have d2 : w.cell? ⟨g2, k, none⟩ = some (.int .i64 (ys.getD k 0)) := HC2.out k hkn
      have i1 : (0 : Int) ≤ (k : Int) := by omega
      have i2 : (k : Int) < (n : Int) := by omega
      generalize hxk : xs.getD k 0 = x at d1
      generalize hyk : ys.getD k 0 = y at d2
      have HXK := Lib.hid hxk
      have HYK := Lib.hid hyk
      clear hxk hyk
      by_cases hxy : x = y
      · have hz : (x != y) = false := by rw [bne_eq_false_iff_eq]; exact hxy
        have HXY := Lib.hid hxy
        clear hxy
        go_wp2_with fail
        go_quiet (fail)
        go_wp2_with fail
        go_roundw
        case rel => exact ⟨k + 1, by omega, by go_num, fun j hj => by
          rcases Nat.lt_or_ge j k with h | h
          · exact HA.out j h
          · obtain rfl : j = k := by omega
            rw [HXK.out, HYK.out, HXY.out], _, rfl⟩
        case measure => simp [intOf]; omega
      · have hz : (x != y) = true := by rw [bne_iff_ne]; exact hxy
        have HXY := Lib.hid hxy
        clear hxy
        go_wp2_with fail
        go_quiet (fail)
        go_wp2_with fail
        go_ret
        exact ⟨congrArg (fun b => Ending.returned (.bool b)) (decide_eq_false (alike_not (k := k) (by rw [HXK.out, HYK.out]; exact HXY.out))).symm, rdBelowN (rdBelowN (Below.refl _ _) _) _⟩
    · have hkn' : k = n := by omega
      subst hkn'
      go_wp2_with fail
      go_ret
      exact ⟨congrArg (fun b => Ending.returned (.bool b)) (decide_eq_true (alike_all (by rw [HX.out, HY.out]) (by rw [HX.out]; exact HA.out))).symm, rdBelowN (Below.refl _ _) _⟩

/-- slices.Equal of two slices that read as xs and ys. -/
theorem equal_any {B1 B2 : Nat} {v1 v2 : Value} {xs ys : List Int} {w : World} (h1 : IRd w B1 v1 xs) (h2 : IRd w B2 v2 ys) (hn : xs.length ≤ 1000000) :
    Calls Tryd.prog 11 #[v1, v2] w fun e w' => e = .returned (.bool (decide (xs = ys))) ∧ Below w.heap.size w w' := by
  obtain ⟨A1, c1, rfl, k1⟩ := h1
  obtain ⟨A2, c2, rfl, k2⟩ := h2
  by_cases hl : xs.length = ys.length
  · by_cases h0 : xs.length = 0
    · have e1 : xs = [] := List.eq_nil_of_length_eq_zero h0
      have e2 : ys = [] := List.eq_nil_of_length_eq_zero (by omega)
      subst e1
      subst e2
      exact (equal_nil A1 A2 c1 c2 w).mono fun e w' ⟨he, hw⟩ => ⟨he, hw ▸ Below.refl _ _⟩
    · have p1 : 0 < xs.length := Nat.pos_of_ne_zero h0
      have p2 : 0 < ys.length := hl ▸ p1
      obtain ⟨g1, rfl, _, hc1⟩ := k1 p1
      obtain ⟨g2, rfl, _, hc2⟩ := k2 p2
      rw [← hl]
      exact equal_pos g1 g2 xs.length c1 c2 xs ys w rfl hl.symm hn p1 hc1 (fun j hj => hc2 j (hl ▸ hj))
  · have e : decide (xs = ys) = false := decide_eq_false fun e => hl (by rw [e])
    rw [e]
    exact (equal_len A1 A2 xs.length ys.length c1 c2 w hl).mono fun e w' ⟨he, hw⟩ => ⟨he, hw ▸ Below.refl _ _⟩
theorem equal_same {B1 B2 : Nat} {v1 v2 : Value} {xs : List Int} {w : World} (h1 : IRd w B1 v1 xs) (h2 : IRd w B2 v2 xs) (hn : xs.length ≤ 1000000) :
    Calls Tryd.prog 11 #[v1, v2] w fun e w' => e = .returned (.bool true) ∧ Below w.heap.size w w' := by
  have h := equal_any h1 h2 hn
  rw [decide_eq_true rfl] at h
  exact h
end Go.Proofs.YtcpmhflkooipdaaDoor
