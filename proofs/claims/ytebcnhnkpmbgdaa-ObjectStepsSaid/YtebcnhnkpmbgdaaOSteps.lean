/-
  The walks of ObjectSteps and ObjectPlays.
-/
import Derived.Test.YtebcnhnkpmbgdaaRefState
import Derived.Test.YtebcnhnkpmbgdaaRefSet
import Derived.Test.YtebcnhnkpmbgdaaObjLaws
import Derived.Test.YtebcnhnkpmbgdaaEqInt
namespace Go.Proofs.Ytebcnhnkpmbgdaa
open Go.RowKit
set_option maxRecDepth 20000

theorem nrdOn {w w' : World} {v : Value} {l : List Int} (h : NRd w w.heap.size v l) (hb : Below w.heap.size w w') : NRd w' w'.heap.size v l := (LRd.below h hb).mono hb.size
theorem blwOn {w W W' : World} (h : Below w.heap.size w W) (hb : Below W.heap.size W W') : Below w.heap.size w W' := h.trans (hb.mono h.size)

/-- The reference's step, of a kind that belongs to the type, at a state that may be. -/
theorem refStep_any {v : Value} {l : List Int} {w : World} {typ kind arg : Int} (hr : NRd w w.heap.size v l) (he : stateE typ l = 0) (hi : (fitsB typ kind && takesB kind arg) = true) :
    Calls Try.prog 24 #[v, .int .i64 kind, .int .i64 arg] w (RefPost w (stepped l kind arg)) := by
  obtain ⟨ht, hn, hv⟩ := stateE_ok.1 he
  obtain ⟨hf, hk⟩ := Bool.and_eq_true_iff.1 hi
  obtain ⟨k1, k2, k3, k4, k5⟩ := fits_ways hf
  have ty : typ = 1 ∨ typ = 2 ∨ typ = 3 ∨ typ = 4 ∨ typ = 5 := by omega
  rcases ty with rfl | rfl | rfl | rfl | rfl
  · have h1 := ((valid_one rfl).1 hv).1
    rcases k1 rfl with rfl | rfl
    · exact ref1 hr arg
    · exact ref2 hr arg (by omega)
  · rcases k2 rfl with rfl | rfl
    · exact ref3 hr arg hn
    · exact ref4 hr arg
  · rcases k3 rfl with rfl | rfl
    · exact ref5 hr arg hn
    · exact ref6 hr arg
  · have hs := ((valid_row rfl).1 hv).2 rfl
    rcases k4 rfl with rfl | rfl | rfl
    · exact ref7 hr arg hn hs
    · exact ref8 hr arg hn hs
    · exact ref9 hr arg hn hs
  · obtain ⟨h1, h2, h3⟩ := (valid_one rfl).1 hv
    rw [k5 rfl]
    exact ref10 hr arg h1 h2 h3

set_option maxHeartbeats 8000000 in
theorem osteps_any {v : Value} {s : List Int} {w : World} (typ : Int) (hr : NRd w w.heap.size v s) (kind arg : Int) :
    Calls Try.prog 4 #[.int .i64 typ, v, .int .i64 kind, .int .i64 arg] w fun e w' => e = .returned (.bool true) ∧ Below w.heap.size w w' := by
  obtain ⟨A, cap, rfl, m1, m2⟩ := hr.is
  unfold maxLen at m2
  have hS := start_any typ w
  have hT := fun (W : World) (h : Below w.heap.size w W) => step_any typ kind arg (nrdOn hr h)
  have hK := fun (W : World) (h : Below w.heap.size w W) => check_any typ (nrdOn hr h)
  have hQ := fun (W : World) (h : Below w.heap.size w W) => right_any typ (nrdOn hr h)
  have hA := fun (W : World) => asked_any typ kind arg W
  unfold StartPost at hS
  unfold StepPost at hT
  have est : stepO typ s kind arg = if stateE typ s ≠ 0 then ([], 0, stateE typ s) else if (fitsB typ kind && takesB kind arg) = false then ([], 0, 3) else stepped s kind arg := rfl
  cases hb : btw 1 typ 5
  · have e1 : stateE typ s = 1 := by unfold stateE; rw [if_pos hb]
    have e2 : startE typ = 1 := by unfold startE; rw [hb]; rfl
    have e3 : beginL typ = [] := by
      have := btw_not.1 hb
      unfold beginL oneB
      rw [if_neg (by simp; omega)]
    rw [e1] at est hK hQ
    rw [if_pos (by decide)] at est
    rw [est] at hT
    rw [e2, e3] at hS
    have HS := Lib.hid hS
    have HT := Lib.hid hT
    have HK := Lib.hid hK
    have HQ := Lib.hid hQ
    have HBW := Lib.hid (fun W : World => btwn_false W hb)
    clear hS hT hK hQ hA est e1 e2 e3 hb hr
    go_enter Try.func4, Try.ntmps4
    go_wp2_with fail
    refine HS.out.mono ?_
    rintro e w1 ⟨v1, rfl, ho1, hb1⟩
    obtain ⟨A1, c1, rfl, m3, m4⟩ := ho1.rd.is
    unfold maxLen at m4
    have H1 := Lib.hid (And.intro ho1.rd hb1)
    clear ho1 hb1 HS
    go_wp2_with fail
    refine (HT.out _ H1.out.2).mono ?_
    rintro e w2 ⟨v2, rfl, ho2, hb2⟩
    obtain ⟨A2, c2, rfl, m5, m6⟩ := ho2.rd.is
    have H2 := Lib.hid (And.intro ho2.rd (And.intro (nrdOn H1.out.1 hb2) (blwOn H1.out.2 hb2)))
    clear ho2 hb2 HT H1
    go_wp2_with fail
    refine (HQ.out _ H2.out.2.2).mono ?_
    rintro e w3 ⟨rfl, hb3⟩
    have H3 := Lib.hid (And.intro (nrdOn H2.out.1 hb3) (And.intro (nrdOn H2.out.2.1 hb3) (blwOn H2.out.2.2 hb3)))
    clear hb3 HQ H2
    go_wp2_with fail
    refine (HK.out _ H3.out.2.2).mono ?_
    rintro e w4 ⟨rfl, hb4⟩
    have H4 := Lib.hid (And.intro (nrdOn H3.out.1 hb4) (And.intro (nrdOn H3.out.2.1 hb4) (blwOn H3.out.2.2 hb4)))
    clear hb4 HK H3
    go_wp2_with fail
    refine (HBW.out _).mono ?_
    rintro e w5 ⟨rfl, rfl⟩
    clear HBW
    have H7 := Lib.hid (And.intro H4.out.1 H4.out.2.2)
    clear H4
    go_wp2_with fail
    refine (eqInt_same H7.out.1 (LRd.nil _ (0 : Nat))).mono ?_
    rintro e w9 ⟨rfl, hb9⟩
    have H9 := Lib.hid (blwOn H7.out.2 hb9)
    clear hb9
    go_wp2_with fail
    go_ret
    exact ⟨rfl, H9.out⟩
  · have e2 : startE typ = 0 := by unfold startE; rw [hb]; rfl
    rw [e2] at hS
    have HS := Lib.hid hS
    have HBW := Lib.hid (fun W : World => btwn_true W hb)
    by_cases he : stateE typ s = 0
    · rw [he] at est hK hQ
      rw [if_neg (by decide)] at est
      have HK := Lib.hid hK
      have HQ := Lib.hid hQ
      cases hi : fitsB typ kind && takesB kind arg
      · rw [hi, if_pos rfl] at est
        rw [est] at hT
        rw [hi] at hA
        have HT := Lib.hid hT
        have HA := Lib.hid hA
        clear hS hT hK hQ hA est e2 hb hr he hi
        go_enter Try.func4, Try.ntmps4
        go_wp2_with fail
        refine HS.out.mono ?_
        rintro e w1 ⟨v1, rfl, ho1, hb1⟩
        obtain ⟨A1, c1, rfl, m3, m4⟩ := ho1.rd.is
        unfold maxLen at m4
        have H1 := Lib.hid (And.intro ho1.rd hb1)
        clear ho1 hb1 HS
        go_wp2_with fail
        refine (HT.out _ H1.out.2).mono ?_
        rintro e w2 ⟨v2, rfl, ho2, hb2⟩
        obtain ⟨A2, c2, rfl, m5, m6⟩ := ho2.rd.is
        have H2 := Lib.hid (And.intro ho2.rd (And.intro (nrdOn H1.out.1 hb2) (blwOn H1.out.2 hb2)))
        clear ho2 hb2 HT H1
        go_wp2_with fail
        refine (HQ.out _ H2.out.2.2).mono ?_
        rintro e w3 ⟨rfl, hb3⟩
        have H3 := Lib.hid (And.intro (nrdOn H2.out.1 hb3) (And.intro (nrdOn H2.out.2.1 hb3) (blwOn H2.out.2.2 hb3)))
        clear hb3 HQ H2
        go_wp2_with fail
        refine (HK.out _ H3.out.2.2).mono ?_
        rintro e w4 ⟨rfl, hb4⟩
        have H4 := Lib.hid (And.intro (nrdOn H3.out.1 hb4) (And.intro (nrdOn H3.out.2.1 hb4) (blwOn H3.out.2.2 hb4)))
        clear hb4 HK H3
        go_wp2_with fail
        refine (HBW.out _).mono ?_
        rintro e w5 ⟨rfl, rfl⟩
        clear HBW
        go_wp2_with fail
        refine (begin_any _ _).mono ?_
        rintro e w6 ⟨v6, rfl, hr6, hb6⟩
        obtain ⟨A6, c6, rfl, m7, m8⟩ := hr6.is
        have H6 := Lib.hid (And.intro (nrdOn H4.out.1 hb6) (And.intro (nrdOn H4.out.2.1 hb6) (And.intro hr6 (blwOn H4.out.2.2 hb6))))
        clear hr6 hb6 H4
        go_wp2_with fail
        refine (eqInt_same H6.out.2.1 H6.out.2.2.1).mono ?_
        rintro e w7 ⟨rfl, hb7⟩
        have H7 := Lib.hid (And.intro (nrdOn H6.out.1 hb7) (blwOn H6.out.2.2.2 hb7))
        clear hb7 H6
        go_wp2_with fail
        refine (HA.out _).mono ?_
        rintro e w8 ⟨rfl, hb8⟩
        have H8 := Lib.hid (And.intro (nrdOn H7.out.1 hb8) (blwOn H7.out.2 hb8))
        clear hb8 H7
        go_wp2_with fail
        refine (eqInt_same H8.out.1 (LRd.nil _ (0 : Nat))).mono ?_
        rintro e w9 ⟨rfl, hb9⟩
        have H9 := Lib.hid (blwOn H8.out.2 hb9)
        clear hb9
        go_wp2_with fail
        go_ret
        exact ⟨rfl, H9.out⟩
      · rw [hi, if_neg (by decide)] at est
        rw [est] at hT
        rw [hi] at hA
        have hF := fun (W : World) (h : Below w.heap.size w W) => refStep_any (nrdOn hr h) he hi
        unfold RefPost at hF
        generalize stepped s kind arg = o at hT hF
        obtain ⟨s', r, e'⟩ := o
        simp only at hT hF
        have HT := Lib.hid hT
        have HA := Lib.hid hA
        have HF := Lib.hid hF
        clear hS hT hK hQ hA hF est e2 hb hr he hi
        go_enter Try.func4, Try.ntmps4
        go_wp2_with fail
        refine HS.out.mono ?_
        rintro e w1 ⟨v1, rfl, ho1, hb1⟩
        obtain ⟨A1, c1, rfl, m3, m4⟩ := ho1.rd.is
        unfold maxLen at m4
        have H1 := Lib.hid (And.intro ho1.rd hb1)
        clear ho1 hb1 HS
        go_wp2_with fail
        refine (HT.out _ H1.out.2).mono ?_
        rintro e w2 ⟨v2, rfl, ho2, hb2⟩
        obtain ⟨A2, c2, rfl, m5, m6⟩ := ho2.rd.is
        have H2 := Lib.hid (And.intro ho2.rd (And.intro (nrdOn H1.out.1 hb2) (blwOn H1.out.2 hb2)))
        clear ho2 hb2 HT H1
        go_wp2_with fail
        refine (HQ.out _ H2.out.2.2).mono ?_
        rintro e w3 ⟨rfl, hb3⟩
        have H3 := Lib.hid (And.intro (nrdOn H2.out.1 hb3) (And.intro (nrdOn H2.out.2.1 hb3) (blwOn H2.out.2.2 hb3)))
        clear hb3 HQ H2
        go_wp2_with fail
        refine (HK.out _ H3.out.2.2).mono ?_
        rintro e w4 ⟨rfl, hb4⟩
        have H4 := Lib.hid (And.intro (nrdOn H3.out.1 hb4) (And.intro (nrdOn H3.out.2.1 hb4) (blwOn H3.out.2.2 hb4)))
        clear hb4 HK H3
        go_wp2_with fail
        refine (HBW.out _).mono ?_
        rintro e w5 ⟨rfl, rfl⟩
        clear HBW
        go_wp2_with fail
        refine (begin_any _ _).mono ?_
        rintro e w6 ⟨v6, rfl, hr6, hb6⟩
        obtain ⟨A6, c6, rfl, m7, m8⟩ := hr6.is
        have H6 := Lib.hid (And.intro (nrdOn H4.out.1 hb6) (And.intro (nrdOn H4.out.2.1 hb6) (And.intro hr6 (blwOn H4.out.2.2 hb6))))
        clear hr6 hb6 H4
        go_wp2_with fail
        refine (eqInt_same H6.out.2.1 H6.out.2.2.1).mono ?_
        rintro e w7 ⟨rfl, hb7⟩
        have H7 := Lib.hid (And.intro (nrdOn H6.out.1 hb7) (blwOn H6.out.2.2.2 hb7))
        clear hb7 H6
        go_wp2_with fail
        refine (HA.out _).mono ?_
        rintro e w8 ⟨rfl, hb8⟩
        have H8 := Lib.hid (And.intro (nrdOn H7.out.1 hb8) (blwOn H7.out.2 hb8))
        clear hb8 H7
        go_wp2_with fail
        refine (HF.out _ H8.out.2).mono ?_
        rintro e w10 ⟨v10, rfl, hr10, hb10⟩
        obtain ⟨A10, c10, rfl, m9, m10⟩ := hr10.is
        have H10 := Lib.hid (And.intro (nrdOn H8.out.1 hb10) (And.intro hr10 (blwOn H8.out.2 hb10)))
        clear hr10 hb10 H8
        have q1 : (r == r) = true := by simp
        have q2 : (e' == e') = true := by simp
        go_wp2_with fail
        refine (eqInt_same H10.out.1 H10.out.2.1).mono ?_
        rintro e w9 ⟨rfl, hb9⟩
        have H9 := Lib.hid (blwOn H10.out.2.2 hb9)
        clear hb9
        go_wp2_with fail
        go_ret
        exact ⟨rfl, H9.out⟩
    · rw [if_pos he] at est
      rw [est] at hT
      generalize stateE typ s = er at he hT hK hQ
      have z1 : (er == 0) = false := by rw [beq_eq_false_iff_ne]; exact he
      have z2 : (er != er) = false := by simp
      have z3 : (er == er) = true := by simp
      have HK := Lib.hid hK
      have HQ := Lib.hid hQ
      have HT := Lib.hid hT
      clear hS hT hK hQ hA est e2 hb hr he
      go_enter Try.func4, Try.ntmps4
      go_wp2_with fail
      refine HS.out.mono ?_
      rintro e w1 ⟨v1, rfl, ho1, hb1⟩
      obtain ⟨A1, c1, rfl, m3, m4⟩ := ho1.rd.is
      unfold maxLen at m4
      have H1 := Lib.hid (And.intro ho1.rd hb1)
      clear ho1 hb1 HS
      go_wp2_with fail
      refine (HT.out _ H1.out.2).mono ?_
      rintro e w2 ⟨v2, rfl, ho2, hb2⟩
      obtain ⟨A2, c2, rfl, m5, m6⟩ := ho2.rd.is
      have H2 := Lib.hid (And.intro ho2.rd (And.intro (nrdOn H1.out.1 hb2) (blwOn H1.out.2 hb2)))
      clear ho2 hb2 HT H1
      go_wp2_with fail
      refine (HQ.out _ H2.out.2.2).mono ?_
      rintro e w3 ⟨rfl, hb3⟩
      have H3 := Lib.hid (And.intro (nrdOn H2.out.1 hb3) (And.intro (nrdOn H2.out.2.1 hb3) (blwOn H2.out.2.2 hb3)))
      clear hb3 HQ H2
      go_wp2_with fail
      refine (HK.out _ H3.out.2.2).mono ?_
      rintro e w4 ⟨rfl, hb4⟩
      have H4 := Lib.hid (And.intro (nrdOn H3.out.1 hb4) (And.intro (nrdOn H3.out.2.1 hb4) (blwOn H3.out.2.2 hb4)))
      clear hb4 HK H3
      go_wp2_with fail
      refine (HBW.out _).mono ?_
      rintro e w5 ⟨rfl, rfl⟩
      clear HBW
      go_wp2_with fail
      refine (begin_any _ _).mono ?_
      rintro e w6 ⟨v6, rfl, hr6, hb6⟩
      obtain ⟨A6, c6, rfl, m7, m8⟩ := hr6.is
      have H6 := Lib.hid (And.intro (nrdOn H4.out.1 hb6) (And.intro (nrdOn H4.out.2.1 hb6) (And.intro hr6 (blwOn H4.out.2.2 hb6))))
      clear hr6 hb6 H4
      go_wp2_with fail
      refine (eqInt_same H6.out.2.1 H6.out.2.2.1).mono ?_
      rintro e w7 ⟨rfl, hb7⟩
      have H7 := Lib.hid (And.intro (nrdOn H6.out.1 hb7) (blwOn H6.out.2.2.2 hb7))
      clear hb7 H6
      go_wp2_with fail
      refine (eqInt_same H7.out.1 (LRd.nil _ (0 : Nat))).mono ?_
      rintro e w9 ⟨rfl, hb9⟩
      have H9 := Lib.hid (blwOn H7.out.2 hb9)
      clear hb9
      go_wp2_with fail
      go_ret
      exact ⟨rfl, H9.out⟩
end Go.Proofs.Ytebcnhnkpmbgdaa
