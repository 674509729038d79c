/-
  Joined by a program out of: SFoundW, SFoundCard.
-/
import Derived.Test.YtecpjeililiafaaDoorMgAW
import Derived.Test.YtecpjeililiafaaDoorMgAX
import Derived.Test.YtecpjeililiafaaDoorTie
import Derived.Test.YtecpjeililiafaaDoorCards
import Derived.SevenTiedAt
import Derived.Stop.Joined

/-
  The walk of the law SearchFound.
-/
namespace Go.Proofs.YtecpjeililiafaaDoor
open Go.RowKit
set_option maxRecDepth 20000

set_option maxHeartbeats 4000000 in
theorem sfound_any {tv lv sv : Value} {ts : List Int} {l : List Ev} {ws : List (Int × Int)} {w : World} (ht : NRd w w.heap.size tv ts) (hl : ERd w w.heap.size lv l) (hw : SRd w w.heap.size sv ws) (hp : Pow10 w.heap.size w) :
    Calls Tryd.prog 8 #[tv, lv, sv] w fun e w' => e = .returned (.bool true) ∧ Below w.heap.size w w' := by
  have HW := Lib.hid hw
  obtain ⟨At, capt, rfl, -, -⟩ := ht.is
  obtain ⟨Al, capl, rfl, hl1, hl2⟩ := hl.is
  unfold maxLen at hl2
  have HT := Lib.hid (And.intro ht (And.intro hl hp))
  have HF := Lib.hid (find_say ht hl hp)
  obtain ⟨tl, htl⟩ : ∃ tl, tl = ts.length := ⟨_, rfl⟩
  obtain ⟨L, hL⟩ : ∃ L, L = l.length := ⟨_, rfl⟩
  rw [← htl, ← hL] at HF HT
  rw [← htl, ← hL]
  rw [← hL] at hl1
  have HLL := Lib.hid (And.intro htl hL)
  clear ht hl hp htl hL
  obtain ⟨As, caps, rfl, -, -⟩ := hw.is
  obtain ⟨M, hM⟩ : ∃ M, M = ws.length := ⟨_, rfl⟩
  rw [← hM] at HW ⊢
  clear hw hM
  go_enter Tryd.func8, Tryd.ntmps8
  go_wp2_with fail
  refine HF.out.mono ?_
  rintro e w1 ⟨hb1, v, rfl, hv⟩
  have H1 := Lib.hid hb1
  have hv1 := hv.rd
  obtain ⟨Av, capv, rfl, -, -⟩ := hv1.is
  have HR1 := Lib.hid (right_say ((HT.out.1.below H1.out).mono H1.out.size) ((HT.out.2.1.below H1.out).mono H1.out.size) hv1)
  have HV1 := Lib.hid hv1
  clear hb1 hv HF hv1
  obtain ⟨k, hk⟩ : ∃ k, k = (foundL ts (callsOf ts l)).length := ⟨_, rfl⟩
  rw [← hk] at HR1 HV1 ⊢
  have HK := Lib.hid hk
  clear hk
  go_wp2_with fail
  refine HR1.out.mono ?_
  rintro e w2 ⟨hb2, rfl⟩
  have H2 := Lib.hid (H1.out.trans (hb2.mono H1.out.size))
  have HV2 := Lib.hid (HV1.out.below hb2)
  have HR2 := Lib.hid (right_say ((HT.out.1.below H2.out).mono H2.out.size) ((HT.out.2.1.below H2.out).mono H2.out.size) ((HW.out.below H2.out).mono H2.out.size))
  have HS12 := Lib.hid hb2.size
  clear hb2 HR1 HV1
  go_wp2_with fail
  refine HR2.out.mono ?_
  rintro e w3 ⟨hb3, rfl⟩
  have H3 := Lib.hid (H2.out.trans (hb3.mono H2.out.size))
  have HV3 := Lib.hid ((HV2.out.below (hb3.mono HS12.out)).mono (Nat.le_trans HS12.out hb3.size))
  clear hb3 HR2 HV2 HS12
  by_cases hE : searchE (callsOf ts l) = 0
  · rw [hE]
    cases hb : foundB ts (callsOf ts l)
    · have hk0 : k = 0 := by rw [HK.out, foundL_none hb]; rfl
      have ha : rightB ts (callsOf ts l) ws = false := by
        cases h9 : rightB ts (callsOf ts l) ws
        · rfl
        · have := (found_least h9).1
          rw [hb] at this
          cases this
      rw [ha]
      generalize rightB ts (callsOf ts l) (foundL ts (callsOf ts l)) = bi
      have HKK := Lib.hid hk0
      subst hk0
      clear hE hb ha
      have HS3 := Lib.hid (slives_any w3 ((HT.out.2.2.on H3.out).mono H3.out.size))
      go_wp2_with fail
      refine HS3.out.mono ?_
      rintro e w4 ⟨rfl, hb4⟩
      have H4 := Lib.hid (H3.out.trans (hb4.mono H3.out.size))
      clear hb4 HS3
      have HOK := Lib.hid (ok_zero (IRd.fresh w4 25 [0, 0, 0] 3 rfl #[.int .i64 0, .int .i64 0, .int .i64 0] rfl) (by decide) (by decide))
      go_wp2_with fail
      refine HOK.out.mono ?_
      rintro e w5 ⟨rfl, rfl⟩
      have H5 := Lib.hid (H4.out.alloc H4.out.size (.cells #[.int .i64 0, .int .i64 0, .int .i64 0] 25))
      clear HOK
      go_wp2_with fail
      go_ret
      exact ⟨rfl, H5.out⟩
    · have hr := foundL_rite hb
      have hi : rightB ts (callsOf ts l) (foundL ts (callsOf ts l)) = true := rightB_iff.2 ⟨hE, hr⟩
      rw [hi]
      have HE := Lib.hid (And.intro hE (rite_rng hE hr))
      clear hE hb hi hr
      cases ha : rightB ts (callsOf ts l) ws
      · clear ha
        have HS3 := Lib.hid (slives_any w3 ((HT.out.2.2.on H3.out).mono H3.out.size))
        go_wp2_with fail
        refine HS3.out.mono ?_
        rintro e w4 ⟨rfl, hb4⟩
        have H4 := Lib.hid (H3.out.trans (hb4.mono H3.out.size))
        clear hb4 HS3
        have HOK := Lib.hid (ok_zero (IRd.fresh w4 25 [0, 0, 0] 3 rfl #[.int .i64 0, .int .i64 0, .int .i64 0] rfl) (by decide) (by decide))
        go_wp2_with fail
        refine HOK.out.mono ?_
        rintro e w5 ⟨rfl, rfl⟩
        have H5 := Lib.hid (H4.out.alloc H4.out.size (.cells #[.int .i64 0, .int .i64 0, .int .i64 0] 25))
        clear HOK
        go_wp2_with fail
        go_ret
        exact ⟨rfl, H5.out⟩
      · have HA := Lib.hid (And.intro (found_least ha).2 (rite_rng HE.out.1 (rightB_iff.1 ha).2))
        clear ha
        have HS3 := Lib.hid (slives_any w3 ((HT.out.2.2.on H3.out).mono H3.out.size))
        go_wp2_with fail
        refine HS3.out.mono ?_
        rintro e w4 ⟨rfl, hb4⟩
        have H4 := Lib.hid (H3.out.trans (hb4.mono H3.out.size))
        have HV4 := Lib.hid ((HV3.out.below hb4).mono hb4.size)
        clear hb4 HS3
        have HOK := Lib.hid (ok_zero (IRd.fresh w4 25 [0, 0, 0] 3 rfl #[.int .i64 0, .int .i64 0, .int .i64 0] rfl) (by decide) (by decide))
        go_wp2_with fail
        refine HOK.out.mono ?_
        rintro e w5 ⟨rfl, rfl⟩
        have hal : Below w4.heap.size w4 (w4.alloc (.cells #[.int .i64 0, .int .i64 0, .int .i64 0] 25)) := (Below.refl _ _).alloc (Nat.le_refl _) _
        have H5 := Lib.hid (H4.out.trans (hal.mono H4.out.size))
        have HC := Lib.hid (cmpF_any (HV4.out.below hal) (HW.out.below H5.out) hal.size H5.out.size HE.out.2 HA.out.2)
        clear HOK hal
        have hcm : (cmpL (foundL ts (callsOf ts l)) ws ≤ 0) := (cmp_lex _ _).2 HA.out.1
        generalize cmpL (foundL ts (callsOf ts l)) ws = cm at HC hcm
        go_wp2_with fail
        refine HC.out.mono ?_
        rintro e w6 ⟨rfl, hb6⟩
        have H6 := Lib.hid (H5.out.trans (hb6.mono H5.out.size))
        clear hb6 HC
        go_wp2_with fail
        go_ret
        exact ⟨rfl, H6.out⟩
  · obtain ⟨q1, q2, q3⟩ := say_bad (ts := ts) hE ws
    obtain ⟨-, -, q4⟩ := say_bad (ts := ts) hE (foundL ts (callsOf ts l))
    have hk0 : k = 0 := by rw [HK.out, q2]; rfl
    rw [q1, q3, q4]
    have HKK := Lib.hid hk0
    subst hk0
    generalize hEE : searchE (callsOf ts l) = E at hE ⊢
    have HE := Lib.hid hE
    clear q1 q2 q3 q4 hEE hE
    have HS3 := Lib.hid (slives_any w3 ((HT.out.2.2.on H3.out).mono H3.out.size))
    go_wp2_with fail
    refine HS3.out.mono ?_
    rintro e w4 ⟨rfl, hb4⟩
    have H4 := Lib.hid (H3.out.trans (hb4.mono H3.out.size))
    clear hb4 HS3
    have HOK := Lib.hid (ok_not (IRd.fresh w4 25 [E, E, E] 3 rfl #[.int .i64 E, .int .i64 E, .int .i64 E] rfl) (x := E) (by simp) HE.out (by simp))
    go_wp2_with fail
    refine HOK.out.mono ?_
    rintro e w5 ⟨rfl, rfl⟩
    have H5 := Lib.hid (H4.out.alloc H4.out.size (.cells #[.int .i64 E, .int .i64 E, .int .i64 E] 25))
    clear HOK
    have HS5 := Lib.hid (slives_any (w4.alloc (.cells #[.int .i64 E, .int .i64 E, .int .i64 E] 25)) ((HT.out.2.2.on H5.out).mono H5.out.size))
    go_wp2_with fail
    refine HS5.out.mono ?_
    rintro e w6 ⟨rfl, hb6⟩
    have H6 := Lib.hid (H5.out.trans (hb6.mono H5.out.size))
    clear hb6 HS5
    go_wp2_with fail
    go_ret
    exact ⟨rfl, H6.out⟩
end Go.Proofs.YtecpjeililiafaaDoor

/-
  The tied card of alibkeep.SearchFound: whatever is handed in (the listed tables reading as the program's own text lays them), the law answers true and leaves its arguments as they were.
-/
namespace Go.Proofs.YtecpjeililiafaaDoor
open Go.ChangeShapes Go.WideShapes Go.ChangeAt Go.RowKit
set_option maxRecDepth 20000

theorem searchFound_knob : ownKnob Tryd.prog.godebug = none := by kernel_rfl

set_option maxRecDepth 100000 in
theorem searchFound_lifted (os : Os) (started : os.Started) (H : Type) (enc : TypeId × Value → H) :
    ReturnsInHanded {} Tryd.checked os 8 .any (fun w args => (Rows.searchFoundSpec.pre enc Tryd.prog Tryd.f8 [] false w args ∧ laidMetH Tryd.prog tab3Laid w) ∧ sizedMet enc Tryd.prog Tryd.f8 (OpenSpec.ofChange Rows.searchFoundSpec) false w args)
      (Rows.searchFoundSpec.post enc Tryd.prog Tryd.f8 false true false false) := by
  refine returnsInHanded_of_change_and (C := Tryd.checked) (X := fun w _ => laidMetH Tryd.prog tab3Laid w) (fun _ _ _ hh h => h.of_heap hh) searchFound_knob started (by kernel_rfl) Tryd.func8
    (ChangeSpec.witness_shaped (enc := enc) (C := Tryd.checked) (os := os) (X := fun w _ => laidMetH Tryd.prog tab3Laid w) false (World.laidAll Tryd.prog os tab3Laid) #[.slice none 0 0, .slice none 0 0, .slice none 0 0] 8 (World.laidAll_os _ _ _)
      (World.shaped_of_ZipB (by kernel_rfl) (by kernel_rfl)) (by kernel_rfl) (by kernel_rfl) (by kernel_rfl)
      (by rw [MakeChecks.laidMetH_plain _ _ _ (by kernel_rfl)]; exact laidMet_laidAll _ (by kernel_rfl) (by kernel_rfl))) ?_
  intro W base args ds gs before hval0 hW _ _ hL _
  have hval : ∀ (j : Nat) t v, Tryd.f8.params[j]? = some t → args[j]? = some v → Value.okWide Tryd.prog W .any base t v := hval0
  have hW' := hW
  have hlt := hW.lt
  obtain ⟨p, q, hA0, hV, rfl, _, _⟩ := hW
  have hA : DataW.TrodAll enc Tryd.prog W 0 (fun _ => true) true Tryd.f8.params.toList args.toList ds p := hA0
  rw [Tryd.params8] at hA hval
  obtain ⟨v0, v1, v2, d0, d1, d2, p0, p1, p2, rfl, rfl, rfl, h0, h1, h2⟩ := trodAll_three hA
  obtain ⟨rfl, rfl⟩ := trodVars_none hV
  obtain ⟨l0, hL0⟩ := open_nums (hval 0 22 v0 rfl rfl) h0
  obtain ⟨l1, hL1⟩ := open_evs (hval 1 23 v1 rfl rfl) h1
  obtain ⟨l2, hL2⟩ := open_sps (hval 2 24 v2 rfl rfl) h2
  have hT := pow_of_laid hL
  clear hA0 hval0
  simp only [List.append_nil] at hW' hlt
  refine (sfound_any hL0 hL1 hL2 hT).mono fun e W' ⟨he, hb⟩ => ?_
  subst he
  refine ⟨_, rfl, end_of_below (pa := p0 ++ p1 ++ p2) (pv := []) hW' hb (by simp) (fun _ _ _ => ?_) (fun sp hsp => ?_) (fun _ _ => rfl) (ok_one (by kernel_rfl) rfl (okWide_bool_mk Tryd.underlying4 _))⟩
  · exact trodAll_mk1 (shut_bool Tryd.underlying4 _)
  · skip
    have hk0 := WideElems.Trod_stays laidOutIt (by kernel_rfl) (of_decide_eq_true (by kernel_rfl)) h0 (fun x hx => hb.same (hlt x (List.mem_append.2 (.inl (List.mem_append.2 (.inl hx)))))) (fun x hx => hsp x (List.mem_append.2 (.inl (List.mem_append.2 (.inl hx)))))
    have hk1 := WideElems.Trod_stays laidOutIt (by kernel_rfl) (of_decide_eq_true (by kernel_rfl)) h1 (fun x hx => hb.same (hlt x (List.mem_append.2 (.inl (List.mem_append.2 (.inr hx)))))) (fun x hx => hsp x (List.mem_append.2 (.inl (List.mem_append.2 (.inr hx)))))
    have hk2 := WideElems.Trod_stays laidOutIt (by kernel_rfl) (of_decide_eq_true (by kernel_rfl)) h2 (fun x hx => hb.same (hlt x (List.mem_append.2 (.inr hx)))) (fun x hx => hsp x (List.mem_append.2 (.inr hx)))
    have := trodAll_mk3 hk0 hk1 hk2
    simp only [List.append_assoc] at this ⊢
    exact this

theorem searchFound_holds : Rows.SearchFoundSaid :=
  OpenClaim.holds_of_wide 8 Tryd.f8 rfl rfl rfl rfl rfl rfl rfl ⟨rfl, rfl, rfl, rfl, rfl⟩ rfl rfl rfl rfl rfl (by kernel_rfl) Tryd.func8 (by kernel_rfl)
    (of_decide_eq_true (by kernel_rfl)) (by unfold Func.isWrapper; first | (rw [if_pos (by decide +kernel)]; kernel_rfl) | (rw [if_neg (by decide +kernel)]; exact ⟨rfl, rfl⟩))
    (fun os started H enc _ => searchFound_lifted os started H enc)

theorem searchFound_card : Rows.SearchFoundCardSaid :=
  Claim7.holds_tied_plain_at .later [] [.data, .data, .data] true Rows.searchFoundCard.stood.harness false searchFound_holds (fun _ h => by cases h) (by kernel_rfl) (fun _ h => by cases h) searchFound_row_tie rfl ⟨rfl, rfl⟩ (by kernel_rfl) rfl
    (fun f fn hf hfn => by
      obtain rfl : f = 8 := Option.some.inj ((show Tryd.prog.funcNamed "alibi/alibkeep.SearchFound" = some 8 by kernel_rfl).symm.trans hf) |>.symm
      obtain rfl : fn = Tryd.f8 := (Option.some.inj (Tryd.func8.symm.trans hfn)).symm
      exact ⟨by kernel_rfl, fun j t ht => by
        rw [Tryd.params8] at ht
        have hm : t ∈ [22, 23, 24] := by simpa using Array.mem_of_getElem? ht
        have hall : ([22, 23, 24].all fun u => !Tryd.prog.wantsStandIn u) = true := by kernel_rfl
        exact (show Tryd.prog.wantsStandIn t = false by simpa using List.all_eq_true.1 hall t hm)⟩)
    (by kernel_rfl)
#print axioms searchFound_card
end Go.Proofs.YtecpjeililiafaaDoor
