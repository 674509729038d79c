/-
  The walk of ObjectOwn.
-/
import Derived.Test.YtebcnhnkpmbgdabOLives
import Derived.Test.YtebcnhnkpmbgdabEqInt
namespace Go.Proofs.Ytebcnhnkpmbgdab
open Go.RowKit
set_option maxRecDepth 20000

theorem nrd_on {w w' : World} {v : Value} {l : List Int} (h : NRd w w.heap.size v l) (hb : Below w.heap.size w w') : NRd w' w'.heap.size v l := (LRd.below h hb).mono hb.size
theorem blw_on {w W W' : World} (h : Below w.heap.size w W) (hb : Below W.heap.size W W') : Below w.heap.size w W' := h.trans (hb.mono h.size)

theorem Lies.setInt {w : World} {g : Nat} {t : TypeId} {ys : List Int} (h : Lies w g t (ys.map (Value.int .i64)).toArray) (k : Nat) (y : Int) : Lies (w.setCell ⟨g, k, none⟩ (.int .i64 y)) g t ((ys.set k y).map (Value.int .i64)).toArray :=
  (h.set_ k (.int .i64 y)).cast (by rw [List.map_set]; simp)

set_option maxHeartbeats 4000000 in
theorem oown_any {v : Value} {s : List Int} {w : World} (typ : Int) (hr : NRd w w.heap.size v s) (kind arg : Int) (hs : s.length * 8 ≤ 140737488355328) :
    Calls Try.prog 4 #[.int .i64 typ, v, .int .i64 kind, .int .i64 arg] w fun e w' => e = .returned (.bool true) ∧ Below w.heap.size w w' := by
  obtain ⟨A, cap, rfl, m1, m2⟩ := hr.is
  unfold maxLen at m2
  have HC := Lib.hid (cloneI_any hr hs)
  have HS := Lib.hid (fun (W : World) (h : Below w.heap.size w W) => step_any typ kind arg (nrd_on hr h))
  have HR := Lib.hid hr
  unfold StepPost at HS
  clear hr hs
  generalize stepO typ s kind arg = o at HS
  obtain ⟨s', r, er⟩ := o
  simp only at HS
  go_enter Try.func4, Try.ntmps4
  go_wp2_with fail
  refine HC.out.mono ?_
  rintro e w1 ⟨v1, rfl, ho1, hb1⟩
  obtain ⟨A1, c1, rfl, m3, m4⟩ := ho1.rd.is
  unfold maxLen at m4
  have H1 := Lib.hid (And.intro ho1.rd hb1)
  clear ho1 hb1 HC
  go_wp2_with fail
  refine (HS.out _ H1.out.2).mono ?_
  rintro e w2 ⟨v2, rfl, ho2, hb2⟩
  obtain ⟨A2, c2, rfl, m5, m6⟩ := ho2.rd.is
  unfold maxLen at m6
  have H2 := Lib.hid (And.intro ho2 hb2)
  clear ho2 hb2 HS
  go_wp2_with fail
  refine (eqInt_same (HR.out.below (blw_on H1.out.2 H2.out.2)) (nrd_on H1.out.1 H2.out.2)).mono ?_
  rintro e w3 ⟨rfl, hb3⟩
  have H3 := Lib.hid (And.intro (H2.out.1.below hb3) (blw_on H2.out.2 hb3))
  clear hb3 H2
  rcases H3.out.1 with ⟨hv, hl⟩ | ⟨g, cap', zs, hv, hB, hL, hz, hc, hm, ht⟩
  · injection hv with e1 e2 e3
    subst e1 e3
    have hs' : s' = [] := hl
    subst hs'
    go_wp2_with fail
    go_loopw [35] (fun i wr => i = .int .i64 0 ∧ wr = w3) (fun _ _ => 0)
    case atStart => exact ⟨rfl, rfl⟩
    case round =>
      obtain ⟨rfl, rfl⟩ := hrel
      go_wp2_with fail
      refine (olives_any _).mono ?_
      rintro e w4 ⟨rfl, hb4⟩
      have H4 := Lib.hid (blw_on H3.out.2 hb4)
      clear hb4
      go_wp2_with fail
      refine (eqInt_same (HR.out.below (blw_on H1.out.2 H4.out)) (nrd_on H1.out.1 H4.out)).mono ?_
      rintro e w5 ⟨rfl, hb5⟩
      have H5 := Lib.hid (blw_on (blw_on H1.out.2 H4.out) hb5)
      clear hb5
      go_wp2_with fail
      go_ret
      exact ⟨rfl, H5.out⟩
  · injection hv with e1 e2 e3
    subst e1 e3
    have HL := Lib.hid (And.intro hL (And.intro hz hB))
    clear hL hz hB hm ht e2 hc
    go_wp2_with fail
    go_loopw [35] (fun i wr => ∃ (k : Nat) (ys : List Int), k ≤ c2 ∧ i = .int .i64 k ∧ ys.length = c2 ∧ Lies wr g 3 (ys.map (Value.int .i64)).toArray ∧ Below w1.heap.size w1 wr) (fun i _ => c2 - (intOf i).toNat)
    case atStart => exact ⟨0, zs, by omega, rfl, HL.out.2.1, HL.out.1, H3.out.2⟩
    case round =>
      obtain ⟨k, ys, hk, rfl, hy, hL, hb⟩ := hrel
      have HA := Lib.hid (And.intro hy (And.intro hL hb))
      clear hy hL hb
      by_cases hkc : k < c2
      · obtain ⟨x, hx⟩ : ∃ x, ys[k]? = some x := ⟨_, List.getElem?_eq_getElem (by rw [HA.out.1]; exact hkc)⟩
        have d0 : wr.cell? ⟨g, k, none⟩ = some (.int .i64 x) := int_cell HA.out.2.1 hx
        have f0 := HA.out.2.1.frozen k
        have i1 : (0 : Int) ≤ (k : Int) := by omega
        have i2 : (k : Int) < (c2 : Int) := by omega
        clear hx
        go_wp2_with fail
        go_roundw
        case rel => exact ⟨k + 1, ys.set k _, by omega, by go_num, by rw [List.length_set]; exact HA.out.1, Lies.setInt HA.out.2.1 k _, HA.out.2.2.setCell (by have := HL.out.2.2; exact this) _⟩
        case measure => simp [intOf]; omega
      · obtain rfl : k = c2 := by omega
        go_wp2_with fail
        refine (olives_any _).mono ?_
        rintro e w4 ⟨rfl, hb4⟩
        have H4 := Lib.hid (blw_on HA.out.2.2 hb4)
        clear hb4
        go_wp2_with fail
        refine (eqInt_same (HR.out.below (blw_on H1.out.2 H4.out)) (nrd_on H1.out.1 H4.out)).mono ?_
        rintro e w5 ⟨rfl, hb5⟩
        have H5 := Lib.hid (blw_on (blw_on H1.out.2 H4.out) hb5)
        clear hb5
        go_wp2_with fail
        go_ret
        exact ⟨rfl, H5.out⟩
end Go.Proofs.Ytebcnhnkpmbgdab
