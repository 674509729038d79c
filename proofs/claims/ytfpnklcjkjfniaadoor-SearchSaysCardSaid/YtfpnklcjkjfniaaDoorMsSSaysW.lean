/-
  Joined by a program out of: SSaysW.
-/
import Derived.Test.YtfpnklcjkjfniaaDoorMsLinCmp
import Derived.Test.YtfpnklcjkjfniaaDoorMsRo
import Derived.Test.YtfpnklcjkjfniaaDoorMgAV
import Derived.Test.YtfpnklcjkjfniaaDoorMsCallsOf
import Derived.Test.YtfpnklcjkjfniaaDoorMsCallRel

/-
  The walk of the law SearchSays.
-/
namespace Go.Proofs.YtfpnklcjkjfniaaDoor
open Go.RowKit
set_option maxRecDepth 20000

theorem searched_any {tv lv : Value} {ts : List Int} {l : List Ev} {w : World} (ht : NRd w w.heap.size tv ts) (hl : ERd w w.heap.size lv l) :
    Calls Tryd.prog 16 #[tv, lv] w fun e w' => Below w.heap.size w w' ∧ ∃ v, e = .returned (.tuple #[v, .int .i64 (searchE (callsOf ts l))]) ∧ (searchE (callsOf ts l) = 0 → CRd w' w'.heap.size v (callsOf ts l).1) := by
  have HC := Lib.hid (callsOf_any ht hl)
  obtain ⟨At, capt, rfl, -, -⟩ := ht.is
  obtain ⟨Al, capl, rfl, -, -⟩ := hl.is
  obtain ⟨tl, htl⟩ : ∃ tl, tl = ts.length := ⟨_, rfl⟩
  obtain ⟨L, hL⟩ : ∃ L, L = l.length := ⟨_, rfl⟩
  rw [← htl, ← hL] at HC
  rw [← htl, ← hL]
  clear ht hl htl hL
  have hse : searchE (callsOf ts l) = if (callsOf ts l).2.2 ≠ 0 then (callsOf ts l).2.2 else if 9 < (callsOf ts l).1.length then 2 else 0 := rfl
  generalize searchE (callsOf ts l) = E at hse ⊢
  go_enter Tryd.func16, Tryd.ntmps16
  go_wp2_with fail
  refine HC.out.mono ?_
  rintro e w1 ⟨cv, rfl, hb1, hc1⟩
  obtain ⟨Ac, capc, rfl, hc2, hc3⟩ := hc1.is
  unfold maxLen at hc3
  obtain ⟨m, hm⟩ : ∃ m, m = (callsOf ts l).1.length := ⟨_, rfl⟩
  have H1 := Lib.hid (And.intro hb1 hc1)
  rw [← hm] at H1 hse hc2 ⊢
  have HM := Lib.hid hm
  clear hb1 hc1 HC hm
  generalize ((callsOf ts l).2.1 : Int) = at1
  by_cases hE : (callsOf ts l).2.2 = 0
  · rw [if_neg (fun h => h hE)] at hse
    rw [hE]
    by_cases h9 : 9 < m
    · rw [if_pos h9] at hse
      subst hse
      have i9 : (9 : Int) < (m : Int) := by omega
      clear hE h9
      go_wp2_with fail
      go_ret2
      exact ⟨H1.out.1, _, rfl, fun h => absurd h (by decide)⟩
    · rw [if_neg h9] at hse
      subst hse
      have i9 : ¬ (9 : Int) < (m : Int) := by omega
      clear hE h9
      go_wp2_with fail
      go_ret2
      exact ⟨H1.out.1, _, rfl, H1.out.2⟩
  · rw [if_pos hE] at hse
    have hz : ((callsOf ts l).2.2 == 0) = false := by rw [beq_eq_false_iff_ne]; exact hE
    rw [← hse] at hz ⊢
    have HE := Lib.hid (show E ≠ 0 by rw [hse]; exact hE)
    clear hse hE
    go_wp2_with fail
    go_ret2
    exact ⟨H1.out.1, _, rfl, fun h => absurd h HE.out⟩

set_option maxHeartbeats 4000000 in
theorem ssays_any {tv lv sv : Value} {ts : List Int} {l : List Ev} {ws : List (Int × Int)} {w : World} (ht : NRd w w.heap.size tv ts) (hl : ERd w w.heap.size lv l) (hw : SRd w w.heap.size sv ws) (hp : Pow10 w.heap.size w) :
    Calls Tryd.prog 3 #[tv, lv, sv] w fun e w' => e = .returned (.bool true) ∧ Below w.heap.size w w' := by
  obtain ⟨At, capt, rfl, -, -⟩ := ht.is
  obtain ⟨Al, capl, rfl, hl1, hl2⟩ := hl.is
  obtain ⟨As, caps, rfl, -, -⟩ := hw.is
  unfold maxLen at hl2
  have HT := Lib.hid (And.intro ht (And.intro hl (And.intro hw hp)))
  have HR := Lib.hid (right_say ht hl hw)
  obtain ⟨tl, htl⟩ : ∃ tl, tl = ts.length := ⟨_, rfl⟩
  obtain ⟨L, hL⟩ : ∃ L, L = l.length := ⟨_, rfl⟩
  obtain ⟨M, hM⟩ : ∃ M, M = ws.length := ⟨_, rfl⟩
  rw [← htl, ← hL, ← hM] at HR HT
  rw [← htl, ← hL, ← hM]
  clear ht hl hw hp htl hL hM hl1
  go_enter Tryd.func3, Tryd.ntmps3
  go_wp2_with fail
  refine HR.out.mono ?_
  rintro e w1 ⟨hb1, rfl⟩
  have H1 := Lib.hid hb1
  have HF := Lib.hid (find_say ((HT.out.1.below H1.out).mono H1.out.size) ((HT.out.2.1.below H1.out).mono H1.out.size) ((HT.out.2.2.2.on H1.out).mono H1.out.size))
  clear hb1 HR
  go_wp2_with fail
  refine HF.out.mono ?_
  rintro e w2 ⟨hb2, v, rfl, hv⟩
  have H2 := Lib.hid (H1.out.trans (hb2.mono H1.out.size))
  have hv2 := hv.rd
  obtain ⟨Av, capv, rfl, -, -⟩ := hv2.is
  obtain ⟨k, hk⟩ : ∃ k, k = (foundL ts (callsOf ts l)).length := ⟨_, rfl⟩
  have HV2 := Lib.hid hv2
  rw [← hk] at HV2 ⊢
  have HK := Lib.hid hk
  have HS := Lib.hid (searched_any ((HT.out.1.below H2.out).mono H2.out.size) ((HT.out.2.1.below H2.out).mono H2.out.size))
  clear hb2 hv hv2 HF hk
  go_wp2_with fail
  refine HS.out.mono ?_
  rintro e w3 ⟨hb3, cv, rfl, hcv⟩
  have H3 := Lib.hid (H2.out.trans (hb3.mono H2.out.size))
  have HV3 := Lib.hid ((HV2.out.below hb3).mono hb3.size)
  by_cases hE : searchE (callsOf ts l) = 0
  · have hc3 := hcv hE
    obtain ⟨Ac, capc, rfl, -, -⟩ := hc3.is
    obtain ⟨q1, q2⟩ := search_ok.1 hE
    have hok := calls_callOk q1
    have hord := (calls_orderly q1).1
    have hty : ∀ t ∈ ts, 1 ≤ t ∧ t ≤ 5 := by
      have h1 := (calls_zero q1).1
      unfold typesB at h1
      simp only [Bool.and_eq_true, List.all_eq_true, decide_eq_true_eq] at h1
      exact h1.2
    have hrb := @rightB_iff ts l ws
    rw [hE] at hrb
    have hfo : foundO ts (callsOf ts l).1 = findG (befP (callsOf ts l).1) ts (callsOf ts l).1 (callsOf ts l).1.length (startP ts) := find_G _ _
    have hfb : foundB ts (callsOf ts l) = (foundO ts (callsOf ts l).1).isSome := by unfold foundB; rw [decide_eq_true hE]; rfl
    have hfl : foundL ts (callsOf ts l) = asSteps ((foundO ts (callsOf ts l).1).getD []) := by unfold foundL; rw [if_pos hE]
    rw [hfb]
    rw [hE]
    rw [hfl] at HV3
    rw [hfo] at HV3 ⊢
    generalize rightB ts (callsOf ts l) ws = rb at hrb ⊢
    generalize (callsOf ts l).1 = cs at hc3 q2 hok hord hrb HV3 ⊢
    obtain ⟨n, hn⟩ : ∃ n, n = cs.length := ⟨_, rfl⟩
    have HCR := Lib.hid (callrel_any hc3 (Nat.le_refl _) (by omega))
    have HC3 := Lib.hid hc3
    rw [← hn] at HCR HC3 ⊢
    have HN := Lib.hid (And.intro hn (And.intro q2 (And.intro hok (And.intro hord (And.intro hty hrb)))))
    clear hb3 hcv HS HV2 hE q1 q2 hok hord hty hrb hfo hfb hfl hc3 hn
    obtain ⟨r, hr⟩ : ∃ r, r = relP (aheadB cs) n := ⟨_, rfl⟩
    rw [← hr] at HCR
    have HRR := Lib.hid hr
    clear hr
    go_wp2_with fail
    refine HCR.out.mono ?_
    rintro e w4 ⟨rfl, hb4⟩
    have H4 := Lib.hid (H3.out.trans (hb4.mono H3.out.size))
    have HV4 := Lib.hid ((HV3.out.below hb4).mono hb4.size)
    have HC4 := Lib.hid ((HC3.out.below hb4).mono hb4.size)
    obtain ⟨W5, hW5⟩ : ∃ W5, W5 = w4.alloc (.cells (relCs n r) 36) := ⟨_, rfl⟩
    have hal : Below w4.heap.size w4 W5 := by rw [hW5]; exact (Below.refl _ _).alloc (Nat.le_refl _) _
    have hR5 : RelB W5 w4.heap.size n r := by rw [hW5]; exact Lies.new _ _ _
    have H5 := Lib.hid (H4.out.trans (hal.mono H4.out.size))
    have HV5 := Lib.hid ((HV4.out.below hal).mono hal.size)
    have HC5 := Lib.hid ((HC4.out.below hal).mono hal.size)
    have HR5 := Lib.hid hR5
    clear hb4 HCR HV3 HC3 HV4 HC4 hal hR5
    go_upto_region 7 with fail
    rw [← hW5]
    obtain ⟨P, hP⟩ : ∃ P, P = w4.heap.size := ⟨_, rfl⟩
    rw [← hP] at HR5 ⊢
    clear hW5 hP
    have c0 := HR5.out.size
    obtain ⟨c1, c2, c3, c4, c5, c6, c7, c8, c9, c10, c11, c12⟩ := HR5.out.rows
    have hirr : ∀ i, (r i).testBit i = false := fun i => by
      rw [HRR.out, relP_bit, ahead_irr HN.out.2.2.2.1, Bool.and_false]
    have HIR := Lib.hid hirr
    have HRO := Lib.hid (ro_any ((HT.out.1.below H5.out).mono H5.out.size) HC5.out ((HT.out.2.2.1.below H5.out).mono H5.out.size) (by have := HN.out.2.1; omega) hirr HN.out.2.2.2.2.1 (fun c hc => (HN.out.2.2.1 c hc).thing))
    rw [← HN.out.1] at HRO
    clear hirr
    go_wp2_with fail
    refine HRO.out.mono ?_
    rintro e w6 ⟨bb, rfl, hiff, hb6⟩
    have hbb : bb = rb := by
      rw [Bool.eq_iff_iff, hiff, HN.out.2.2.2.2.2, ← riteP_iff]
      rw [riteP_congr (q := aheadB cs) (fun i j hi hj => by rw [HRR.out, relP_bit, ← HN.out.1] at *; rw [decide_eq_true (by rw [HN.out.1]; exact hi), decide_eq_true (by rw [HN.out.1]; exact hj)]; rfl)]
      exact ⟨fun h => ⟨trivial, h⟩, fun h => h.2⟩
    subst hbb
    have H6 := Lib.hid (H5.out.trans (hb6.mono H5.out.size))
    have HV6 := Lib.hid ((HV5.out.below hb6).mono hb6.size)
    have HC6 := Lib.hid ((HC5.out.below hb6).mono hb6.size)
    have hR6 : RelB w6 P n r := Lies.below HR5.out hb6 (Lies.lt HR5.out)
    have HR6 := Lib.hid hR6
    clear hR6
    clear c0 c1 c2 c3 c4 c5 c6 c7 c8 c9 c10 c11 c12 hb6 hiff HRO HV5 HC5 HR5
    have c0 := HR6.out.size
    obtain ⟨c1, c2, c3, c4, c5, c6, c7, c8, c9, c10, c11, c12⟩ := HR6.out.rows
    have hal7 : Below w6.heap.size w6 (w6.alloc (.cells #[] 42)) := (Below.refl _ _).alloc (Nat.le_refl _) _
    have H7 := Lib.hid (H6.out.trans (hal7.mono H6.out.size))
    have HV7 := Lib.hid ((HV6.out.below hal7).mono hal7.size)
    have hb1 : ∀ k, k < cs.length → ∀ i, i < cs.length → ((befP cs k).testBit i = (r i).testBit k) := fun k hk i hi => by
      unfold befP
      rw [HRR.out, ← HN.out.1, relP_bit, relP_bit, Bool.and_comm (decide (k < n))]
    have hb2 : ∀ k i, cs.length ≤ i → (befP cs k).testBit i = false := fun k i hi => by
      unfold befP
      rw [relP_bit, decide_eq_false (p := i < cs.length) (by omega), Bool.and_false, Bool.false_and]
    have HLO := Lib.hid (lo_any (b := befP cs) (by have := HN.out.2.1; have := HN.out.1; omega) HIR.out HN.out.2.2.2.2.1 HN.out.2.2.1 hb1 hb2 cs.length [] (startP ts) Legal.start (by simp)
      ((HT.out.1.below H7.out).mono H7.out.size) ((HC6.out.below hal7).mono hal7.size) (own_empty w6).rd)
    rw [← HN.out.1] at HLO
    unfold LoPost at HLO
    clear hal7 hb1 hb2 HV6 HC6
    rw [← HN.out.1] at HV7
    cases hG : findG (befP cs) ts cs n (startP ts) with
    | none =>
      rw [hG] at HLO HV7
      simp only [Option.isSome_none]
      clear hG
      go_wp2_with fail
      refine HLO.out.mono ?_
      rintro e w8 ⟨hb8, ⟨-, rfl⟩ | ⟨S, a, N, c, h, -⟩⟩
      · have H8 := Lib.hid (H7.out.trans (hb8.mono H7.out.size))
        have HEQ := Lib.hid (eqSt_any ((HV7.out.below hb8).mono hb8.size) (LRd.nil w8 0))
        rw [show decide (asSteps ((none : Option (List (Nat × Int))).getD []) = []) = true from rfl] at HEQ
        clear c0 c1 c2 c3 c4 c5 c6 c7 c8 c9 c10 c11 c12 HLO HV7 HR6 hb8
        have hq1 := fun W : World => st_nil_ne W
        go_wp2_with fail
        refine HEQ.out.mono ?_
        rintro e w9 ⟨rfl, hb9⟩
        have H9 := Lib.hid (H8.out.trans (hb9.mono H8.out.size))
        clear hb9 HEQ
        go_wp2_with fail
        go_ret
        exact ⟨rfl, H9.out⟩
      · cases h
    | some S0 =>
      rw [hG] at HLO HV7
      simp only [Option.isSome_some]
      clear hG
      go_wp2_with fail
      refine HLO.out.mono ?_
      rintro e w8 ⟨hb8, ⟨h, -⟩ | ⟨S, a, N, c, h, rfl, hS⟩⟩
      · cases h
      · obtain rfl := Option.some.inj h
        rw [List.nil_append] at hS
        have H8 := Lib.hid (H7.out.trans (hb8.mono H7.out.size))
        have HEQ := Lib.hid (eqSt_any ((HV7.out.below hb8).mono hb8.size) hS)
        rw [show decide (asSteps ((some S0).getD []) = asSteps S0) = true from decide_eq_true rfl] at HEQ
        clear c0 c1 c2 c3 c4 c5 c6 c7 c8 c9 c10 c11 c12 HLO HV7 HR6 hb8 hS h
        have hq2 := fun (W : World) => st_some_ne a N c W
        go_wp2_with fail
        refine HEQ.out.mono ?_
        rintro e w9 ⟨rfl, hb9⟩
        have H9 := Lib.hid (H8.out.trans (hb9.mono H8.out.size))
        clear hb9 HEQ
        go_wp2_with fail
        go_ret
        exact ⟨rfl, H9.out⟩
  · obtain ⟨q1, q2, q3⟩ := say_bad (ts := ts) hE ws
    have hk0 : k = 0 := by rw [HK.out, q2]; rfl
    rw [q1, q3]
    have HKK := Lib.hid hk0
    subst hk0
    generalize hEE : searchE (callsOf ts l) = E at hE ⊢
    have HE := Lib.hid (show ¬ E = 0 from hE)
    have hz : (E == 0) = false := by rw [beq_eq_false_iff_ne]; exact hE
    clear q1 q2 q3 hEE hE hcv HS hb3
    go_wp2_with fail
    go_ret
    exact ⟨rfl, H3.out⟩
end Go.Proofs.YtfpnklcjkjfniaaDoor
