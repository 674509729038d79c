/-
  The walk of ObjectOne.
-/
import Derived.Test.YtebcnhnkpmbgdaaObjLaws
import Derived.Test.YtebcnhnkpmbgdaaOLives
import Derived.Test.YtebcnhnkpmbgdaaEqInt
namespace Go.Proofs.Ytebcnhnkpmbgdaa
open Go.RowKit
set_option maxRecDepth 20000

theorem NRd.on {w w' : World} {v : Value} {l : List Int} (h : NRd w w.heap.size v l) (hb : Below w.heap.size w w') : NRd w' w'.heap.size v l := (LRd.below h hb).mono hb.size
theorem below_on {w W W' : World} (h : Below w.heap.size w W) (hb : Below W.heap.size W W') : Below w.heap.size w W' := h.trans (hb.mono h.size)

set_option maxHeartbeats 4000000 in
theorem one_any {v : Value} {s : List Int} {w : World} (typ : Int) (hr : NRd w w.heap.size v s) (kind arg : Int) :
    Calls Try.prog 6 #[.int .i64 typ, v, .int .i64 kind, .int .i64 arg] w fun e w' => e = .returned (.bool true) ∧ Below w.heap.size w w' := by
  obtain ⟨A, cap, rfl, m1, m2⟩ := hr.is
  unfold maxLen at m2
  have HR := Lib.hid hr
  have HS := Lib.hid (fun (W : World) (h : Below w.heap.size w W) => step_any typ kind arg ((hr.below h).mono h.size))
  unfold StepPost at HS
  have HB := Lib.hid (stepO_bad (typ := typ) (s := s) (kind := kind) (arg := arg))
  have HK := Lib.hid (stepO_ok (typ := typ) (s := s) (kind := kind) (arg := arg))
  clear hr
  generalize stepO typ s kind arg = o at HS HB HK
  obtain ⟨s', r, er⟩ := o
  simp only at HS HB HK
  go_enter Try.func6, Try.ntmps6
  go_wp2_with fail
  refine (HS.out _ (Below.refl _ _)).mono ?_
  rintro e w1 ⟨v1, rfl, ho1, hb1⟩
  have H1 := Lib.hid (And.intro ho1.rd hb1)
  obtain ⟨A1, c1, rfl, m3, m4⟩ := ho1.rd.is
  unfold maxLen at m4
  clear ho1 hb1
  go_wp2_with fail
  refine (HS.out _ H1.out.2).mono ?_
  rintro e w2 ⟨v2, rfl, ho2, hb2⟩
  obtain ⟨A2, c2, rfl, m5, m6⟩ := ho2.rd.is
  have H2 := Lib.hid (And.intro ho2.rd (And.intro (NRd.on H1.out.1 hb2) (below_on H1.out.2 hb2)))
  clear ho2 hb2 m5 m6 H1
  go_wp2_with fail
  refine (olives_any _).mono ?_
  rintro e w3 ⟨rfl, hb3⟩
  have H3 := Lib.hid (And.intro (NRd.on H2.out.1 hb3) (And.intro (NRd.on H2.out.2.1 hb3) (below_on H2.out.2.2 hb3)))
  clear hb3 H2
  have hn1 : (er != er) = false := by simp
  have hn2 : (r != r) = false := by simp
  go_wp2_with fail
  refine (eqInt_same H3.out.2.1 H3.out.1).mono ?_
  rintro e w4 ⟨rfl, hb4⟩
  have H4 := Lib.hid (And.intro (NRd.on H3.out.2.1 hb4) (below_on H3.out.2.2 hb4))
  clear hb4 H3
  by_cases hz : er = 0
  · subst hz
    obtain ⟨e1, e2, e3, e4⟩ := HK.out rfl
    have hc := check_any typ H4.out.1
    rw [e1] at hc
    have HC := Lib.hid hc
    have l1 := (stateE_ok.1 e1).2.1
    have l2 : ¬ ((s.length : Int) + 1 < (s'.length : Int)) := by omega
    have l3 : ¬ ((s'.length : Int) + 1 < (s.length : Int)) := by omega
    have l4 : (s'.length : Int) ≤ 50 := by omega
    have l5 : (s.length : Int) ≤ 51 := by omega
    have H5 := Lib.hid e4
    clear hc e1 e2 e3 e4 l1 HK HB
    by_cases hk : kind = 2 ∨ kind = 9
    · have e := H5.out hk
      subst e
      rcases hk with rfl | rfl
      all_goals
        go_wp2_with fail
        refine HC.out.mono ?_
        rintro e w5 ⟨rfl, hb5⟩
        have H6 := Lib.hid (And.intro (NRd.on H4.out.1 hb5) (below_on H4.out.2 hb5))
        clear hb5 HC
        go_wp2_with fail
        refine (eqInt_same H6.out.1 (NRd.on HR.out H6.out.2)).mono ?_
        rintro e w6 ⟨rfl, hb6⟩
        have H7 := Lib.hid (below_on H6.out.2 hb6)
        clear hb6
        go_wp2_with fail
        go_ret
        exact ⟨rfl, H7.out⟩
    · have k1 : (kind != 2) = true := by rw [bne_iff_ne]; exact fun h => hk (.inl h)
      have k2 : (kind != 9) = true := by rw [bne_iff_ne]; exact fun h => hk (.inr h)
      clear hk H5
      go_wp2_with fail
      refine HC.out.mono ?_
      rintro e w5 ⟨rfl, hb5⟩
      have H6 := Lib.hid (below_on H4.out.2 hb5)
      clear hb5 HC
      go_wp2_with fail
      go_ret
      exact ⟨rfl, H6.out⟩
  · obtain ⟨e1, e2⟩ := HB.out hz
    have hz' : (er != 0) = true := by rw [bne_iff_ne]; exact hz
    subst e1 e2
    clear hz
    go_wp2_with fail
    go_ret
    exact ⟨rfl, H4.out.2⟩
end Go.Proofs.Ytebcnhnkpmbgdaa
