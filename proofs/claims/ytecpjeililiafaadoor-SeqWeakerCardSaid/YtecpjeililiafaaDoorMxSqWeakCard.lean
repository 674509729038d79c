/-
  Joined by a program out of: SqWeakW, SqWeakCard.
-/
import Derived.Test.YtecpjeililiafaaDoorMgBR
import Derived.Test.YtecpjeililiafaaDoorMgAX
import Derived.Test.YtecpjeililiafaaDoorTie
import Derived.Test.YtecpjeililiafaaDoorCards
import Derived.SevenTiedAt
import Derived.Stop.Joined

/-
  The walk of the law SeqWeaker.
-/
namespace Go.Proofs.YtecpjeililiafaaDoor
open Go.RowKit
set_option maxRecDepth 20000

/-- What is right by time is right by each one's own order, and by calm. -/
theorem weaker {ts : List Int} {l : List Ev} (hE : searchE (callsOf ts l) = 0) (h : foundB ts (callsOf ts l) = true) :
    fndB (ownB (callsOf ts l).1) ts (callsOf ts l) = true ∧ fndB (calmB (callsOf ts l).1) ts (callsOf ts l) = true ∧ rgtB (ownB (callsOf ts l).1) ts (callsOf ts l) (foundL ts (callsOf ts l)) = true := by
  have hr := riteP_iff.2 (foundL_rite h)
  have ho := (calls_orderly (search_few hE).1).1
  have h1 := riteP_weak (q := ownB (callsOf ts l).1) (fun i j hi hj hq => own_ahead ho hi hj hq) hr
  exact ⟨fndB_iff.2 ⟨hE, _, h1⟩, fndB_iff.2 ⟨hE, _, riteP_weak (fun i j hi hj hq => calm_ahead ho.tidy hi hj hq) hr⟩, rgtB_iff.2 ⟨hE, h1⟩⟩
set_option maxHeartbeats 4000000 in
theorem sweaker_any {tv lv : Value} {ts : List Int} {l : List Ev} {w : World} (ht : NRd w w.heap.size tv ts) (hl : ERd w w.heap.size lv l) (hp : Pow10 w.heap.size w) :
    Calls Tryd.prog 17 #[tv, lv] w fun e w' => e = .returned (.bool true) ∧ Below w.heap.size w w' := by
  obtain ⟨At, capt, rfl, -, -⟩ := ht.is
  obtain ⟨Al, capl, rfl, hl1, hl2⟩ := hl.is
  unfold maxLen at hl2
  have HT := Lib.hid (And.intro ht (And.intro hl hp))
  have HF := Lib.hid (find_say ht hl hp)
  obtain ⟨tl, htl⟩ : ∃ tl, tl = ts.length := ⟨_, rfl⟩
  obtain ⟨L, hL⟩ : ∃ L, L = l.length := ⟨_, rfl⟩
  rw [← htl, ← hL] at HF HT
  rw [← htl, ← hL]
  clear ht hl hp htl hL hl1 hl2
  have hfb : foundB ts (callsOf ts l) = false ∨ searchE (callsOf ts l) = 0 ∧ fndB (ownB (callsOf ts l).1) ts (callsOf ts l) = true ∧ fndB (calmB (callsOf ts l).1) ts (callsOf ts l) = true ∧ rgtB (ownB (callsOf ts l).1) ts (callsOf ts l) (foundL ts (callsOf ts l)) = true := by
    cases h : foundB ts (callsOf ts l)
    · exact .inl rfl
    · have hE := (foundB_iff.1 h).1
      exact .inr ⟨hE, weaker hE h⟩
  have HFB := Lib.hid hfb
  clear hfb
  go_enter Tryd.func17, Tryd.ntmps17
  go_wp2_with fail
  refine HF.out.mono ?_
  rintro e w1 ⟨hb, v, rfl, hv⟩
  have H1 := Lib.hid (hb)
  have hv2 := hv.rd
  obtain ⟨Av, cv, rfl, -, -⟩ := hv2.is
  have HV := Lib.hid hv2
  have HA := Lib.hid (sqfind_any ((HT.out.1.below H1.out).mono H1.out.size) ((HT.out.2.1.below H1.out).mono H1.out.size) ((HT.out.2.2.on H1.out).mono H1.out.size))
  clear hb hv hv2 HF
  go_wp2_with fail
  refine HA.out.mono ?_
  rintro e w2 ⟨hb, v2, rfl, -⟩
  have H2 := Lib.hid (H1.out.trans (hb.mono H1.out.size))
  have HV2 := Lib.hid ((HV.out.below hb).mono hb.size)
  have HQ := Lib.hid (quiet_any ((HT.out.1.below H2.out).mono H2.out.size) ((HT.out.2.1.below H2.out).mono H2.out.size) ((HT.out.2.2.on H2.out).mono H2.out.size))
  clear hb HA HV
  go_wp2_with fail
  refine HQ.out.mono ?_
  rintro e w3 ⟨hb, v3, rfl, -⟩
  have H3 := Lib.hid (H2.out.trans (hb.mono H2.out.size))
  have HV3 := Lib.hid ((HV2.out.below hb).mono hb.size)
  have HR := Lib.hid (sqright_any ((HT.out.1.below H3.out).mono H3.out.size) ((HT.out.2.1.below H3.out).mono H3.out.size) HV3.out)
  clear hb HQ HV2
  go_wp2_with fail
  refine HR.out.mono ?_
  rintro e w4 ⟨hb, rfl⟩
  have H4 := Lib.hid (H3.out.trans (hb.mono H3.out.size))
  clear hb HR HV3
  generalize fndB (ownB (callsOf ts l).1) ts (callsOf ts l) = a at HFB ⊢
  generalize fndB (calmB (callsOf ts l).1) ts (callsOf ts l) = b at HFB ⊢
  generalize rgtB (ownB (callsOf ts l).1) ts (callsOf ts l) (foundL ts (callsOf ts l)) = i at HFB ⊢
  generalize foundB ts (callsOf ts l) = fb at HFB ⊢
  generalize (foundL ts (callsOf ts l)).length = m
  by_cases hE : searchE (callsOf ts l) = 0
  · rw [hE]
    clear hE
    have hfb := HFB.out
    clear HFB
    rcases hfb with rfl | ⟨-, rfl, rfl, rfl⟩
    · have HS := Lib.hid (sqlives_any w4 ((HT.out.2.2.on H4.out).mono H4.out.size))
      go_wp2_with fail
      refine HS.out.mono ?_
      rintro e w5 ⟨rfl, hb⟩
      have H5 := Lib.hid (H4.out.trans (hb.mono H4.out.size))
      clear hb HS
      have HOK := Lib.hid (ok_zero (IRd.fresh w5 25 [0, 0, 0, 0] 4 rfl #[.int .i64 0, .int .i64 0, .int .i64 0, .int .i64 0] rfl) (by decide) (by decide))
      go_wp2_with fail
      refine HOK.out.mono ?_
      rintro e w6 ⟨rfl, rfl⟩
      have H6 := Lib.hid (H5.out.alloc H5.out.size (.cells #[.int .i64 0, .int .i64 0, .int .i64 0, .int .i64 0] 25))
      clear HOK
      go_wp2_with fail
      go_ret
      exact ⟨rfl, H6.out⟩
    · cases fb
      · have HS := Lib.hid (sqlives_any w4 ((HT.out.2.2.on H4.out).mono H4.out.size))
        go_wp2_with fail
        refine HS.out.mono ?_
        rintro e w5 ⟨rfl, hb⟩
        have H5 := Lib.hid (H4.out.trans (hb.mono H4.out.size))
        clear hb HS
        have HOK := Lib.hid (ok_zero (IRd.fresh w5 25 [0, 0, 0, 0] 4 rfl #[.int .i64 0, .int .i64 0, .int .i64 0, .int .i64 0] rfl) (by decide) (by decide))
        go_wp2_with fail
        refine HOK.out.mono ?_
        rintro e w6 ⟨rfl, rfl⟩
        have H6 := Lib.hid (H5.out.alloc H5.out.size (.cells #[.int .i64 0, .int .i64 0, .int .i64 0, .int .i64 0] 25))
        clear HOK
        go_wp2_with fail
        go_ret
        exact ⟨rfl, H6.out⟩
      · have HS := Lib.hid (sqlives_any w4 ((HT.out.2.2.on H4.out).mono H4.out.size))
        go_wp2_with fail
        refine HS.out.mono ?_
        rintro e w5 ⟨rfl, hb⟩
        have H5 := Lib.hid (H4.out.trans (hb.mono H4.out.size))
        clear hb HS
        have HOK := Lib.hid (ok_zero (IRd.fresh w5 25 [0, 0, 0, 0] 4 rfl #[.int .i64 0, .int .i64 0, .int .i64 0, .int .i64 0] rfl) (by decide) (by decide))
        go_wp2_with fail
        refine HOK.out.mono ?_
        rintro e w6 ⟨rfl, rfl⟩
        have H6 := Lib.hid (H5.out.alloc H5.out.size (.cells #[.int .i64 0, .int .i64 0, .int .i64 0, .int .i64 0] 25))
        clear HOK
        go_wp2_with fail
        go_ret
        exact ⟨rfl, H6.out⟩
  · generalize hEE : searchE (callsOf ts l) = E at hE ⊢
    have HE := Lib.hid hE
    clear hEE hE
    have HS := Lib.hid (sqlives_any w4 ((HT.out.2.2.on H4.out).mono H4.out.size))
    go_wp2_with fail
    refine HS.out.mono ?_
    rintro e w5 ⟨rfl, hb⟩
    have H5 := Lib.hid (H4.out.trans (hb.mono H4.out.size))
    clear hb HS
    have HOK := Lib.hid (ok_not (IRd.fresh w5 25 [E, E, E, E] 4 rfl #[.int .i64 E, .int .i64 E, .int .i64 E, .int .i64 E] rfl) (x := E) (by simp) HE.out (by simp))
    go_wp2_with fail
    refine HOK.out.mono ?_
    rintro e w6 ⟨rfl, rfl⟩
    have H6 := Lib.hid (H5.out.alloc H5.out.size (.cells #[.int .i64 E, .int .i64 E, .int .i64 E, .int .i64 E] 25))
    clear HOK
    have HS := Lib.hid (sqlives_any (w5.alloc (.cells #[.int .i64 E, .int .i64 E, .int .i64 E, .int .i64 E] 25)) ((HT.out.2.2.on H6.out).mono H6.out.size))
    go_wp2_with fail
    refine HS.out.mono ?_
    rintro e w7 ⟨rfl, hb⟩
    have H7 := Lib.hid (H6.out.trans (hb.mono H6.out.size))
    clear hb HS
    go_wp2_with fail
    go_ret
    exact ⟨rfl, H7.out⟩
end Go.Proofs.YtecpjeililiafaaDoor

/-
  The tied card of alibkeep.SeqWeaker: whatever is handed in (the listed tables reading as the program's own text lays them), the law answers true and leaves its arguments as they were.
-/
namespace Go.Proofs.YtecpjeililiafaaDoor
open Go.ChangeShapes Go.WideShapes Go.ChangeAt Go.RowKit
set_option maxRecDepth 20000

theorem seqWeaker_knob : ownKnob Tryd.prog.godebug = none := by kernel_rfl

set_option maxRecDepth 100000 in
theorem seqWeaker_lifted (os : Os) (started : os.Started) (H : Type) (enc : TypeId × Value → H) :
    ReturnsInHanded {} Tryd.checked os 17 .any (fun w args => (Rows.seqWeakerSpec.pre enc Tryd.prog Tryd.f17 [] false w args ∧ laidMetH Tryd.prog tab3Laid w) ∧ sizedMet enc Tryd.prog Tryd.f17 (OpenSpec.ofChange Rows.seqWeakerSpec) false w args)
      (Rows.seqWeakerSpec.post enc Tryd.prog Tryd.f17 false true false false) := by
  refine returnsInHanded_of_change_and (C := Tryd.checked) (X := fun w _ => laidMetH Tryd.prog tab3Laid w) (fun _ _ _ hh h => h.of_heap hh) seqWeaker_knob started (by kernel_rfl) Tryd.func17
    (ChangeSpec.witness_shaped (enc := enc) (C := Tryd.checked) (os := os) (X := fun w _ => laidMetH Tryd.prog tab3Laid w) false (World.laidAll Tryd.prog os tab3Laid) #[.slice none 0 0, .slice none 0 0] 8 (World.laidAll_os _ _ _)
      (World.shaped_of_ZipB (by kernel_rfl) (by kernel_rfl)) (by kernel_rfl) (by kernel_rfl) (by kernel_rfl)
      (by rw [MakeChecks.laidMetH_plain _ _ _ (by kernel_rfl)]; exact laidMet_laidAll _ (by kernel_rfl) (by kernel_rfl))) ?_
  intro W base args ds gs before hval0 hW _ _ hL _
  have hval : ∀ (j : Nat) t v, Tryd.f17.params[j]? = some t → args[j]? = some v → Value.okWide Tryd.prog W .any base t v := hval0
  have hW' := hW
  have hlt := hW.lt
  obtain ⟨p, q, hA0, hV, rfl, _, _⟩ := hW
  have hA : DataW.TrodAll enc Tryd.prog W 0 (fun _ => true) true Tryd.f17.params.toList args.toList ds p := hA0
  rw [Tryd.params17] at hA hval
  obtain ⟨v0, v1, d0, d1, p0, p1, rfl, rfl, rfl, h0, h1⟩ := trodAll_two hA
  obtain ⟨rfl, rfl⟩ := trodVars_none hV
  obtain ⟨l0, hL0⟩ := open_nums (hval 0 22 v0 rfl rfl) h0
  obtain ⟨l1, hL1⟩ := open_evs (hval 1 23 v1 rfl rfl) h1
  have hT := pow_of_laid hL
  clear hA0 hval0
  simp only [List.append_nil] at hW' hlt
  refine (sweaker_any hL0 hL1 hT).mono fun e W' ⟨he, hb⟩ => ?_
  subst he
  refine ⟨_, rfl, end_of_below (pa := p0 ++ p1) (pv := []) hW' hb (by simp) (fun _ _ _ => ?_) (fun sp hsp => ?_) (fun _ _ => rfl) (ok_one (by kernel_rfl) rfl (okWide_bool_mk Tryd.underlying4 _))⟩
  · exact trodAll_mk1 (shut_bool Tryd.underlying4 _)
  · skip
    have hk0 := WideElems.Trod_stays laidOutIt (by kernel_rfl) (of_decide_eq_true (by kernel_rfl)) h0 (fun x hx => hb.same (hlt x (List.mem_append.2 (.inl hx)))) (fun x hx => hsp x (List.mem_append.2 (.inl hx)))
    have hk1 := WideElems.Trod_stays laidOutIt (by kernel_rfl) (of_decide_eq_true (by kernel_rfl)) h1 (fun x hx => hb.same (hlt x (List.mem_append.2 (.inr hx)))) (fun x hx => hsp x (List.mem_append.2 (.inr hx)))
    have := trodAll_mk2 hk0 hk1
    exact this

theorem seqWeaker_holds : Rows.SeqWeakerSaid :=
  OpenClaim.holds_of_wide 17 Tryd.f17 rfl rfl rfl rfl rfl rfl rfl ⟨rfl, rfl, rfl, rfl, rfl⟩ rfl rfl rfl rfl rfl (by kernel_rfl) Tryd.func17 (by kernel_rfl)
    (of_decide_eq_true (by kernel_rfl)) (by unfold Func.isWrapper; first | (rw [if_pos (by decide +kernel)]; kernel_rfl) | (rw [if_neg (by decide +kernel)]; exact ⟨rfl, rfl⟩))
    (fun os started H enc _ => seqWeaker_lifted os started H enc)

theorem seqWeaker_card : Rows.SeqWeakerCardSaid :=
  Claim7.holds_tied_plain_at .later [] [.data, .data, .data] true Rows.seqWeakerCard.stood.harness false seqWeaker_holds (fun _ h => by cases h) (by kernel_rfl) (fun _ h => by cases h) seqWeaker_row_tie rfl ⟨rfl, rfl⟩ (by kernel_rfl) rfl
    (fun f fn hf hfn => by
      obtain rfl : f = 17 := Option.some.inj ((show Tryd.prog.funcNamed "alibi/alibkeep.SeqWeaker" = some 17 by kernel_rfl).symm.trans hf) |>.symm
      obtain rfl : fn = Tryd.f17 := (Option.some.inj (Tryd.func17.symm.trans hfn)).symm
      exact ⟨by kernel_rfl, fun j t ht => by
        rw [Tryd.params17] at ht
        have hm : t ∈ [22, 23] := by simpa using Array.mem_of_getElem? ht
        have hall : ([22, 23].all fun u => !Tryd.prog.wantsStandIn u) = true := by kernel_rfl
        exact (show Tryd.prog.wantsStandIn t = false by simpa using List.all_eq_true.1 hall t hm)⟩)
    (by kernel_rfl)
#print axioms seqWeaker_card
end Go.Proofs.YtecpjeililiafaaDoor
