/-
  Contract of alibkeep.ok.
-/
import Derived.Test.YtphhbojdolhieaaIRd
namespace Go.Proofs.Ytphhbojdolhieaa
open Go.RowKit
set_option maxRecDepth 20000
theorem all_zero {xs : List Int} (h : ∀ j, j < xs.length → xs.getD j 0 = 0) : ∀ x ∈ xs, x = 0 := by
  intro x hx
  obtain ⟨j, hj, rfl⟩ := List.getElem_of_mem hx
  have := h j hj
  rwa [List.getD_eq_getElem?_getD, List.getElem?_eq_getElem hj] at this
theorem not_all_zero {xs : List Int} {k : Nat} (hk : k < xs.length) (h : xs.getD k 0 ≠ 0) : ¬ ∀ x ∈ xs, x = 0 := fun ha => by
  rw [List.getD_eq_getElem?_getD, List.getElem?_eq_getElem hk] at h
  exact h (ha _ (List.getElem_mem hk))
theorem ok_any {B : Nat} {v : Value} {xs : List Int} {w : World} (h : IRd w B v xs) (hn : xs.length ≤ 1000000) :
    Calls Try.prog 15 #[v] w fun e w' => e = .returned (.bool (decide (∀ x ∈ xs, x = 0))) ∧ w = w' := by
  obtain ⟨A, c, rfl, k⟩ := h
  have HK := Lib.hid k
  clear k
  go_enter Try.func15, Try.ntmps15
  go_wp2_with fail
  go_loopw [7] (fun i wr => ∃ k : Nat, k ≤ xs.length ∧ i = .int .i64 k ∧ (∀ j, j < k → xs.getD j 0 = 0) ∧ w = wr) (fun i _ => xs.length - (intOf i).toNat)
  case atStart => exact ⟨0, by omega, rfl, fun j hj => by omega, rfl⟩
  case round =>
    obtain ⟨k, hk, rfl, ha, rfl⟩ := hrel
    have HA := Lib.hid ha
    clear ha
    by_cases hkn : k < xs.length
    · obtain ⟨g, rfl, hg, hc⟩ := HK.out (by omega)
      have d1 : w.cell? ⟨g, k, none⟩ = some (.int .i64 (xs.getD k 0)) := hc k hkn
      clear hc
      have i1 : (0 : Int) ≤ (k : Int) := by omega
      have i2 : (k : Int) < (xs.length : Int) := by omega
      generalize hxk : xs.getD k 0 = x at d1
      have HXK := Lib.hid hxk
      clear hxk
      by_cases hx : x = 0
      · subst hx
        go_wp2_with fail
        go_roundw
        case rel => exact ⟨k + 1, by omega, by go_num, fun j hj => by
          rcases Nat.lt_or_ge j k with h | h
          · exact HA.out j h
          · obtain rfl : j = k := by omega
            exact HXK.out, by trivial⟩
        case measure => simp [intOf]; omega
      · have hz : (x != 0) = true := by rw [bne_iff_ne]; exact hx
        have HX := Lib.hid hx
        clear hx
        go_wp2_with fail
        go_ret
        exact ⟨congrArg (fun b => Ending.returned (.bool b)) (decide_eq_false (not_all_zero hkn (by rw [HXK.out]; exact HX.out))).symm, rfl⟩
    · have hkn' : k = xs.length := by omega
      subst hkn'
      go_wp2_with fail
      go_ret
      exact ⟨congrArg (fun b => Ending.returned (.bool b)) (decide_eq_true (all_zero HA.out)).symm, rfl⟩
/-- A slice that was just written out. -/
theorem IRd.fresh (w : World) (t : TypeId) (xs : List Int) (n : Nat) (hn : n = xs.length) (cs : Array Value) (hcs : cs = (xs.map (Value.int .i64)).toArray) :
    IRd (w.alloc (.cells cs t)) (w.heap.size + 1) (.slice (some ⟨w.heap.size, 0, none⟩) n n) xs := by
  subst hn
  refine ⟨_, _, rfl, fun _ => ⟨_, rfl, by omega, fun j hj => ?_⟩⟩
  rw [cell_of_row _ _ j cs t (0, 0) (heap_alloc_new w _), hcs]
  simp [hj]
theorem ok_zero {B : Nat} {v : Value} {xs : List Int} {w : World} (h : IRd w B v xs) (hz : ∀ x ∈ xs, x = 0) (hn : xs.length ≤ 1000000) :
    Calls Try.prog 15 #[v] w fun e w' => e = .returned (.bool true) ∧ w = w' := by
  have := ok_any h hn
  rw [decide_eq_true hz] at this
  exact this
theorem ok_not {B : Nat} {v : Value} {xs : List Int} {w : World} (h : IRd w B v xs) {x : Int} (hx : x ∈ xs) (hz : x ≠ 0) (hn : xs.length ≤ 1000000) :
    Calls Try.prog 15 #[v] w fun e w' => e = .returned (.bool false) ∧ w = w' := by
  have := ok_any h hn
  rw [decide_eq_false (fun k => hz (k x hx))] at this
  exact this
end Go.Proofs.Ytphhbojdolhieaa
