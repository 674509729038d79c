/-
  Joined by a program out of: SqSaysW, SqSaysCard.
-/
import Derived.Test.YtecpjeililiafaaDoorMgBN
import Derived.Test.YtecpjeililiafaaDoorMgBQ
import Derived.Test.YtecpjeililiafaaDoorMgAX
import Derived.Test.YtecpjeililiafaaDoorTie
import Derived.Test.YtecpjeililiafaaDoorCards
import Derived.SevenTiedAt
import Derived.Stop.Joined

/-
  The walk of the law SeqSays.
-/
namespace Go.Proofs.YtecpjeililiafaaDoor
open Go.RowKit
set_option maxRecDepth 20000

set_option maxHeartbeats 4000000 in
theorem sqsays_any {tv lv sv : Value} {ts : List Int} {l : List Ev} {ws : List (Int × Int)} {w : World} (ht : NRd w w.heap.size tv ts) (hl : ERd w w.heap.size lv l) (hw : SRd w w.heap.size sv ws) (hp : Pow10 w.heap.size w) :
    Calls Tryd.prog 6 #[tv, lv, sv] w fun e w' => e = .returned (.bool true) ∧ Below w.heap.size w w' := by
  obtain ⟨At, capt, rfl, -, -⟩ := ht.is
  obtain ⟨Al, capl, rfl, hl1, hl2⟩ := hl.is
  obtain ⟨As, caps, rfl, -, -⟩ := hw.is
  unfold maxLen at hl2
  have HT := Lib.hid (And.intro ht (And.intro hl (And.intro hw hp)))
  have HR := Lib.hid (sqright_any ht hl hw)
  obtain ⟨tl, htl⟩ : ∃ tl, tl = ts.length := ⟨_, rfl⟩
  obtain ⟨L, hL⟩ : ∃ L, L = l.length := ⟨_, rfl⟩
  obtain ⟨M, hM⟩ : ∃ M, M = ws.length := ⟨_, rfl⟩
  rw [← htl, ← hL, ← hM] at HR HT
  rw [← htl, ← hL, ← hM]
  clear ht hl hw hp htl hL hM hl1
  go_enter Tryd.func6, Tryd.ntmps6
  go_wp2_with fail
  refine HR.out.mono ?_
  rintro e w1 ⟨hb1, rfl⟩
  have H1 := Lib.hid hb1
  have HF := Lib.hid (sqfind_any ((HT.out.1.below H1.out).mono H1.out.size) ((HT.out.2.1.below H1.out).mono H1.out.size) ((HT.out.2.2.2.on H1.out).mono H1.out.size))
  clear hb1 HR
  go_wp2_with fail
  refine HF.out.mono ?_
  rintro e w2 ⟨hb2, v, rfl, hv⟩
  have H2 := Lib.hid (H1.out.trans (hb2.mono H1.out.size))
  have hv2 := hv.rd
  obtain ⟨Av, capv, rfl, -, -⟩ := hv2.is
  obtain ⟨k, hk⟩ : ∃ k, k = (fndL (ownB (callsOf ts l).1) ts (callsOf ts l)).length := ⟨_, rfl⟩
  have HV2 := Lib.hid hv2
  rw [← hk] at HV2 ⊢
  have HK := Lib.hid hk
  have HS := Lib.hid (searched_any ((HT.out.1.below H2.out).mono H2.out.size) ((HT.out.2.1.below H2.out).mono H2.out.size))
  clear hb2 hv hv2 HF hk
  go_wp2_with fail
  refine HS.out.mono ?_
  rintro e w3 ⟨hb3, cv, rfl, hcv⟩
  have H3 := Lib.hid (H2.out.trans (hb3.mono H2.out.size))
  have HV3 := Lib.hid ((HV2.out.below hb3).mono hb3.size)
  by_cases hE : searchE (callsOf ts l) = 0
  · have hc3 := hcv hE
    obtain ⟨Ac, capc, rfl, -, -⟩ := hc3.is
    obtain ⟨q1, q2⟩ := search_ok.1 hE
    have hok := calls_callOk q1
    have hord := (calls_orderly q1).1
    have hty : ∀ t ∈ ts, 1 ≤ t ∧ t ≤ 5 := by
      have h1 := (calls_zero q1).1
      unfold typesB at h1
      simp only [Bool.and_eq_true, List.all_eq_true, decide_eq_true_eq] at h1
      exact h1.2
    have hrb := @rgtB_iff (ownB (callsOf ts l).1) ts l ws
    rw [hE] at hrb
    have hfo : foundO (ownB (callsOf ts l).1) ts (callsOf ts l).1 = findG (befP (ownB (callsOf ts l).1) (callsOf ts l).1) ts (callsOf ts l).1 (callsOf ts l).1.length (startP ts) := find_G _ _
    have hfb : fndB (ownB (callsOf ts l).1) ts (callsOf ts l) = (foundO (ownB (callsOf ts l).1) ts (callsOf ts l).1).isSome := by unfold fndB; rw [decide_eq_true hE]; rfl
    have hfl : fndL (ownB (callsOf ts l).1) ts (callsOf ts l) = asSteps ((foundO (ownB (callsOf ts l).1) ts (callsOf ts l).1).getD []) := by unfold fndL; rw [if_pos hE]
    rw [hfb]
    rw [hE]
    rw [hfl] at HV3
    rw [hfo] at HV3 ⊢
    generalize rgtB (ownB (callsOf ts l).1) ts (callsOf ts l) ws = rb at hrb ⊢
    generalize (callsOf ts l).1 = cs at hc3 q2 hok hord hrb HV3 ⊢
    obtain ⟨n, hn⟩ : ∃ n, n = cs.length := ⟨_, rfl⟩
    have HCR := Lib.hid (people_any hc3 (Nat.le_refl _) (by omega))
    have HC3 := Lib.hid hc3
    rw [← hn] at HCR HC3 ⊢
    have HN := Lib.hid (And.intro hn (And.intro q2 (And.intro hok (And.intro hord (And.intro hty hrb)))))
    clear hb3 hcv HS HV2 hE q1 q2 hok hord hty hrb hfo hfb hfl hc3 hn
    obtain ⟨r, hr⟩ : ∃ r, r = relP (ownB cs) n := ⟨_, rfl⟩
    rw [← hr] at HCR
    have HRR := Lib.hid hr
    clear hr
    go_wp2_with fail
    refine HCR.out.mono ?_
    rintro e w4 ⟨rfl, hb4⟩
    have H4 := Lib.hid (H3.out.trans (hb4.mono H3.out.size))
    have HV4 := Lib.hid ((HV3.out.below hb4).mono hb4.size)
    have HC4 := Lib.hid ((HC3.out.below hb4).mono hb4.size)
    obtain ⟨W5, hW5⟩ : ∃ W5, W5 = w4.alloc (.cells (relCs n r) 36) := ⟨_, rfl⟩
    have hal : Below w4.heap.size w4 W5 := by rw [hW5]; exact (Below.refl _ _).alloc (Nat.le_refl _) _
    have hR5 : RelB W5 w4.heap.size n r := by rw [hW5]; exact Lies.new _ _ _
    have H5 := Lib.hid (H4.out.trans (hal.mono H4.out.size))
    have HV5 := Lib.hid ((HV4.out.below hal).mono hal.size)
    have HC5 := Lib.hid ((HC4.out.below hal).mono hal.size)
    have HR5 := Lib.hid hR5
    clear hb4 HCR HV3 HC3 HV4 HC4 hal hR5
    go_upto_region 7 with fail
    rw [← hW5]
    obtain ⟨P, hP⟩ : ∃ P, P = w4.heap.size := ⟨_, rfl⟩
    rw [← hP] at HR5 ⊢
    clear hW5 hP
    have c0 := HR5.out.size
    obtain ⟨c1, c2, c3, c4, c5, c6, c7, c8, c9, c10, c11, c12⟩ := HR5.out.rows
    have hirr : ∀ i, (r i).testBit i = false := fun i => by
      rw [HRR.out, relP_bit, show ownB cs i i = false from decide_eq_false fun h => by omega, Bool.and_false]
    have HIR := Lib.hid hirr
    have hal7 : Below W5.heap.size W5 (W5.alloc (.cells #[] 42)) := (Below.refl _ _).alloc (Nat.le_refl _) _
    have H7 := Lib.hid (H5.out.trans (hal7.mono H5.out.size))
    have HV7 := Lib.hid ((HV5.out.below hal7).mono hal7.size)
    have HC7 := Lib.hid ((HC5.out.below hal7).mono hal7.size)
    have HR7 : Hid (RelB (W5.alloc (.cells #[] 42)) P n r) := Lib.hid (Lies.below HR5.out hal7 (Lies.lt HR5.out))
    have hb1 : ∀ k, k < cs.length → ∀ i, i < cs.length → ((befP (ownB cs) cs k).testBit i = (r i).testBit k) := fun k hk i hi => by
      unfold befP
      rw [HRR.out, ← HN.out.1, relP_bit, relP_bit, Bool.and_comm (decide (k < n))]
    have hb2 : ∀ k i, cs.length ≤ i → (befP (ownB cs) cs k).testBit i = false := fun k i hi => by
      unfold befP
      rw [relP_bit, decide_eq_false (p := i < cs.length) (by omega), Bool.and_false, Bool.false_and]
    have HLO := Lib.hid (lo_any (b := befP (ownB cs) cs) (by have := HN.out.2.1; have := HN.out.1; omega) HIR.out HN.out.2.2.2.2.1 HN.out.2.2.1 hb1 hb2 cs.length [] (startP ts) Legal.start (by simp)
      ((HT.out.1.below H7.out).mono H7.out.size) HC7.out (own_empty W5).rd)
    rw [← HN.out.1] at HLO
    unfold LoPost at HLO
    clear hirr hal7 hb1 hb2 HV5 HC5 HR5
    rw [← HN.out.1] at HV7
    cases hG : findG (befP (ownB cs) cs) ts cs n (startP ts) with
    | none =>
      rw [hG] at HLO HV7
      simp only [Option.isSome_none]
      clear hG
      go_wp2_with fail
      refine HLO.out.mono ?_
      rintro e w8 ⟨hb8, ⟨-, rfl⟩ | ⟨S, a, N, c, h, -⟩⟩
      · skip
        have H8 := Lib.hid (H7.out.trans (hb8.mono H7.out.size))
        have HV8 := Lib.hid ((HV7.out.below hb8).mono hb8.size)
        have HC8 := Lib.hid ((HC7.out.below hb8).mono hb8.size)
        have HR8 : Hid (RelB w8 P n r) := Lib.hid (Lies.below HR7.out hb8 (Lies.lt HR7.out))
        clear c0 c1 c2 c3 c4 c5 c6 c7 c8 c9 c10 c11 c12 HLO HV7 HC7 HR7 hb8
        have c0 := HR8.out.size
        obtain ⟨c1, c2, c3, c4, c5, c6, c7, c8, c9, c10, c11, c12⟩ := HR8.out.rows
        have HRO := Lib.hid (ro_any ((HT.out.1.below H8.out).mono H8.out.size) HC8.out ((HT.out.2.2.1.below H8.out).mono H8.out.size) (by have := HN.out.2.1; omega) HIR.out HN.out.2.2.2.2.1 (fun c hc => (HN.out.2.2.1 c hc).thing))
        rw [← HN.out.1] at HRO
        go_wp2_with fail
        refine HRO.out.mono ?_
        rintro e w9 ⟨bb, rfl, hiff, hb9⟩
        have hbb : bb = rb := by
          rw [Bool.eq_iff_iff, hiff, HN.out.2.2.2.2.2]
          rw [riteP_congr (q := ownB cs) (fun i j hi hj => by rw [HRR.out, relP_bit, ← HN.out.1] at *; rw [decide_eq_true (by rw [HN.out.1]; exact hi), decide_eq_true (by rw [HN.out.1]; exact hj)]; rfl)]
          exact ⟨fun h => ⟨trivial, h⟩, fun h => h.2⟩
        subst hbb
        have H9 := Lib.hid (H8.out.trans (hb9.mono H8.out.size))
        have HEQ := Lib.hid (eqSt_any ((HV8.out.below hb9).mono hb9.size) (LRd.nil w9 0))
        rw [show decide (asSteps ((none : Option (List (Nat × Int))).getD []) = []) = true from rfl] at HEQ
        clear c0 c1 c2 c3 c4 c5 c6 c7 c8 c9 c10 c11 c12 HRO HV8 HC8 HR8 hb9 hiff
        have hq1 := fun W : World => st_nil_ne W
        go_wp2_with fail
        refine HEQ.out.mono ?_
        rintro e w10 ⟨rfl, hb10⟩
        have H10 := Lib.hid (H9.out.trans (hb10.mono H9.out.size))
        clear hb10 HEQ
        go_wp2_with fail
        go_ret
        exact ⟨rfl, H10.out⟩
      · cases h
    | some S0 =>
      rw [hG] at HLO HV7
      simp only [Option.isSome_some]
      clear hG
      go_wp2_with fail
      refine HLO.out.mono ?_
      rintro e w8 ⟨hb8, ⟨h, -⟩ | ⟨S, a, N, c, h, rfl, hS⟩⟩
      · cases h
      · obtain rfl := Option.some.inj h
        rw [List.nil_append] at hS
        have H8 := Lib.hid (H7.out.trans (hb8.mono H7.out.size))
        have HV8 := Lib.hid ((HV7.out.below hb8).mono hb8.size)
        have HC8 := Lib.hid ((HC7.out.below hb8).mono hb8.size)
        have HR8 : Hid (RelB w8 P n r) := Lib.hid (Lies.below HR7.out hb8 (Lies.lt HR7.out))
        have HS8 := Lib.hid hS
        clear hS h
        clear c0 c1 c2 c3 c4 c5 c6 c7 c8 c9 c10 c11 c12 HLO HV7 HC7 HR7 hb8
        have c0 := HR8.out.size
        obtain ⟨c1, c2, c3, c4, c5, c6, c7, c8, c9, c10, c11, c12⟩ := HR8.out.rows
        have HRO := Lib.hid (ro_any ((HT.out.1.below H8.out).mono H8.out.size) HC8.out ((HT.out.2.2.1.below H8.out).mono H8.out.size) (by have := HN.out.2.1; omega) HIR.out HN.out.2.2.2.2.1 (fun c hc => (HN.out.2.2.1 c hc).thing))
        rw [← HN.out.1] at HRO
        go_wp2_with fail
        refine HRO.out.mono ?_
        rintro e w9 ⟨bb, rfl, hiff, hb9⟩
        have hbb : bb = rb := by
          rw [Bool.eq_iff_iff, hiff, HN.out.2.2.2.2.2]
          rw [riteP_congr (q := ownB cs) (fun i j hi hj => by rw [HRR.out, relP_bit, ← HN.out.1] at *; rw [decide_eq_true (by rw [HN.out.1]; exact hi), decide_eq_true (by rw [HN.out.1]; exact hj)]; rfl)]
          exact ⟨fun h => ⟨trivial, h⟩, fun h => h.2⟩
        subst hbb
        have H9 := Lib.hid (H8.out.trans (hb9.mono H8.out.size))
        have HEQ := Lib.hid (eqSt_any ((HV8.out.below hb9).mono hb9.size) (HS8.out.below hb9))
        rw [show decide (asSteps ((some S0).getD []) = asSteps S0) = true from decide_eq_true rfl] at HEQ
        clear c0 c1 c2 c3 c4 c5 c6 c7 c8 c9 c10 c11 c12 HRO HV8 HC8 HR8 hb9 hiff
        have hq2 := fun (W : World) => st_some_ne a N c W
        go_wp2_with fail
        refine HEQ.out.mono ?_
        rintro e w10 ⟨rfl, hb10⟩
        have H10 := Lib.hid (H9.out.trans (hb10.mono H9.out.size))
        clear hb10 HEQ
        go_wp2_with fail
        go_ret
        exact ⟨rfl, H10.out⟩
  · obtain ⟨q1, q2, q3⟩ := fnd_bad (p := ownB (callsOf ts l).1) (ts := ts) hE ws
    have hk0 : k = 0 := by rw [HK.out, q2]; rfl
    rw [q1, q3]
    have HKK := Lib.hid hk0
    subst hk0
    generalize hEE : searchE (callsOf ts l) = E at hE ⊢
    have HE := Lib.hid (show ¬ E = 0 from hE)
    have hz : (E == 0) = false := by rw [beq_eq_false_iff_ne]; exact hE
    clear q1 q2 q3 hEE hE hcv HS hb3
    go_wp2_with fail
    go_ret
    exact ⟨rfl, H3.out⟩
end Go.Proofs.YtecpjeililiafaaDoor

/-
  The tied card of aliblaw.SeqSays: whatever is handed in (the listed tables reading as the program's own text lays them), the law answers true and leaves its arguments as they were.
-/
namespace Go.Proofs.YtecpjeililiafaaDoor
open Go.ChangeShapes Go.WideShapes Go.ChangeAt Go.RowKit
set_option maxRecDepth 20000

theorem seqSays_knob : ownKnob Tryd.prog.godebug = none := by kernel_rfl

set_option maxRecDepth 100000 in
theorem seqSays_lifted (os : Os) (started : os.Started) (H : Type) (enc : TypeId × Value → H) :
    ReturnsInHanded {} Tryd.checked os 6 .any (fun w args => (Rows.seqSaysSpec.pre enc Tryd.prog Tryd.f6 [] false w args ∧ laidMetH Tryd.prog tab3Laid w) ∧ sizedMet enc Tryd.prog Tryd.f6 (OpenSpec.ofChange Rows.seqSaysSpec) false w args)
      (Rows.seqSaysSpec.post enc Tryd.prog Tryd.f6 false true false false) := by
  refine returnsInHanded_of_change_and (C := Tryd.checked) (X := fun w _ => laidMetH Tryd.prog tab3Laid w) (fun _ _ _ hh h => h.of_heap hh) seqSays_knob started (by kernel_rfl) Tryd.func6
    (ChangeSpec.witness_shaped (enc := enc) (C := Tryd.checked) (os := os) (X := fun w _ => laidMetH Tryd.prog tab3Laid w) false (World.laidAll Tryd.prog os tab3Laid) #[.slice none 0 0, .slice none 0 0, .slice none 0 0] 8 (World.laidAll_os _ _ _)
      (World.shaped_of_ZipB (by kernel_rfl) (by kernel_rfl)) (by kernel_rfl) (by kernel_rfl) (by kernel_rfl)
      (by rw [MakeChecks.laidMetH_plain _ _ _ (by kernel_rfl)]; exact laidMet_laidAll _ (by kernel_rfl) (by kernel_rfl))) ?_
  intro W base args ds gs before hval0 hW _ _ hL _
  have hval : ∀ (j : Nat) t v, Tryd.f6.params[j]? = some t → args[j]? = some v → Value.okWide Tryd.prog W .any base t v := hval0
  have hW' := hW
  have hlt := hW.lt
  obtain ⟨p, q, hA0, hV, rfl, _, _⟩ := hW
  have hA : DataW.TrodAll enc Tryd.prog W 0 (fun _ => true) true Tryd.f6.params.toList args.toList ds p := hA0
  rw [Tryd.params6] at hA hval
  obtain ⟨v0, v1, v2, d0, d1, d2, p0, p1, p2, rfl, rfl, rfl, h0, h1, h2⟩ := trodAll_three hA
  obtain ⟨rfl, rfl⟩ := trodVars_none hV
  obtain ⟨l0, hL0⟩ := open_nums (hval 0 22 v0 rfl rfl) h0
  obtain ⟨l1, hL1⟩ := open_evs (hval 1 23 v1 rfl rfl) h1
  obtain ⟨l2, hL2⟩ := open_sps (hval 2 24 v2 rfl rfl) h2
  have hT := pow_of_laid hL
  clear hA0 hval0
  simp only [List.append_nil] at hW' hlt
  refine (sqsays_any hL0 hL1 hL2 hT).mono fun e W' ⟨he, hb⟩ => ?_
  subst he
  refine ⟨_, rfl, end_of_below (pa := p0 ++ p1 ++ p2) (pv := []) hW' hb (by simp) (fun _ _ _ => ?_) (fun sp hsp => ?_) (fun _ _ => rfl) (ok_one (by kernel_rfl) rfl (okWide_bool_mk Tryd.underlying4 _))⟩
  · exact trodAll_mk1 (shut_bool Tryd.underlying4 _)
  · skip
    have hk0 := WideElems.Trod_stays laidOutIt (by kernel_rfl) (of_decide_eq_true (by kernel_rfl)) h0 (fun x hx => hb.same (hlt x (List.mem_append.2 (.inl (List.mem_append.2 (.inl hx)))))) (fun x hx => hsp x (List.mem_append.2 (.inl (List.mem_append.2 (.inl hx)))))
    have hk1 := WideElems.Trod_stays laidOutIt (by kernel_rfl) (of_decide_eq_true (by kernel_rfl)) h1 (fun x hx => hb.same (hlt x (List.mem_append.2 (.inl (List.mem_append.2 (.inr hx)))))) (fun x hx => hsp x (List.mem_append.2 (.inl (List.mem_append.2 (.inr hx)))))
    have hk2 := WideElems.Trod_stays laidOutIt (by kernel_rfl) (of_decide_eq_true (by kernel_rfl)) h2 (fun x hx => hb.same (hlt x (List.mem_append.2 (.inr hx)))) (fun x hx => hsp x (List.mem_append.2 (.inr hx)))
    have := trodAll_mk3 hk0 hk1 hk2
    simp only [List.append_assoc] at this ⊢
    exact this

theorem seqSays_holds : Rows.SeqSaysSaid :=
  OpenClaim.holds_of_wide 6 Tryd.f6 rfl rfl rfl rfl rfl rfl rfl ⟨rfl, rfl, rfl, rfl, rfl⟩ rfl rfl rfl rfl rfl (by kernel_rfl) Tryd.func6 (by kernel_rfl)
    (of_decide_eq_true (by kernel_rfl)) (by unfold Func.isWrapper; first | (rw [if_pos (by decide +kernel)]; kernel_rfl) | (rw [if_neg (by decide +kernel)]; exact ⟨rfl, rfl⟩))
    (fun os started H enc _ => seqSays_lifted os started H enc)

theorem seqSays_card : Rows.SeqSaysCardSaid :=
  Claim7.holds_tied_plain_at .later [] [.data, .data, .data] true Rows.seqSaysCard.stood.harness false seqSays_holds (fun _ h => by cases h) (by kernel_rfl) (fun _ h => by cases h) seqSays_row_tie rfl ⟨rfl, rfl⟩ (by kernel_rfl) rfl
    (fun f fn hf hfn => by
      obtain rfl : f = 6 := Option.some.inj ((show Tryd.prog.funcNamed "alibi/aliblaw.SeqSays" = some 6 by kernel_rfl).symm.trans hf) |>.symm
      obtain rfl : fn = Tryd.f6 := (Option.some.inj (Tryd.func6.symm.trans hfn)).symm
      exact ⟨by kernel_rfl, fun j t ht => by
        rw [Tryd.params6] at ht
        have hm : t ∈ [22, 23, 24] := by simpa using Array.mem_of_getElem? ht
        have hall : ([22, 23, 24].all fun u => !Tryd.prog.wantsStandIn u) = true := by kernel_rfl
        exact (show Tryd.prog.wantsStandIn t = false by simpa using List.all_eq_true.1 hall t hm)⟩)
    (by kernel_rfl)
#print axioms seqSays_card
end Go.Proofs.YtecpjeililiafaaDoor
