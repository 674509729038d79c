/-
  Joined by a program out of: SqCalmW, SqCalmCard.
-/
import Derived.Test.YtecpjeililiafaaDoorMgBR
import Derived.Test.YtecpjeililiafaaDoorMgAX
import Derived.Test.YtecpjeililiafaaDoorTie
import Derived.Test.YtecpjeililiafaaDoorCards
import Derived.SevenTiedAt
import Derived.Stop.Joined

/-
  The walk of the law SeqCalm.
-/
namespace Go.Proofs.YtecpjeililiafaaDoor
open Go.RowKit
set_option maxRecDepth 20000

/-- Where each calm is greater than the one before it is right by calm just if it is by time. -/
theorem calm_time {ts : List Int} {l : List Ev} (hE : searchE (callsOf ts l) = 0) (h : ∀ m, 0 < m → m < (calmsL l).length → (calmsL l).getD (m - 1) 0 < (calmsL l).getD m 0) :
    fndB (calmB (callsOf ts l).1) ts (callsOf ts l) = foundB ts (callsOf ts l) := by
  have h0 := (search_few hE).1
  have e := calms_of h0
  have key : ∀ i, i < (callsOf ts l).1.length → (calmsL l).getD i 0 = epochC (callsOf ts l).1 ((callsOf ts l).1.getD i default) := fun i hi => by
    rw [e, List.getD_eq_getElem?_getD, List.getElem?_map, getD_some hi]
    rfl
  have hs := fun i j (hi : i < (callsOf ts l).1.length) (hj : j < (callsOf ts l).1.length) => calm_strict (calls_orderly h0).1 (calls_inc h0) (fun m hm hl => by
    have := h m hm (by rw [e, List.length_map]; exact hl)
    rw [key m hl, key (m - 1) (by omega)] at this
    exact this) hi hj
  rw [Bool.eq_iff_iff, foundB_eq, fndB_iff, fndB_iff]
  constructor
  · rintro ⟨h1, ws, h2⟩
    exact ⟨h1, ws, riteP_weak (fun i j hi hj hq => by rw [← hs i j hi hj]; exact hq) h2⟩
  · rintro ⟨h1, ws, h2⟩
    exact ⟨h1, ws, riteP_weak (fun i j hi hj hq => by rw [hs i j hi hj]; exact hq) h2⟩
theorem calm_up {ts : List Int} {l : List Ev} (hE : searchE (callsOf ts l) = 0) {m : Nat} (h0 : 0 < m) (h1 : m < (calmsL l).length) : (calmsL l).getD (m - 1) 0 ≤ (calmsL l).getD m 0 := by
  have h0' := (search_few hE).1
  have e := calms_of h0'
  have key : ∀ i, i < (callsOf ts l).1.length → (calmsL l).getD i 0 = epochC (callsOf ts l).1 ((callsOf ts l).1.getD i default) := fun i hi => by
    rw [e, List.getD_eq_getElem?_getD, List.getElem?_map, getD_some hi]
    rfl
  have hl : m < (callsOf ts l).1.length := by rw [e, List.length_map] at h1; exact h1
  rw [key m hl, key (m - 1) (by omega)]
  exact epoch_mono (calls_inc h0') (by omega) hl
set_option maxHeartbeats 4000000 in
theorem scalm_any {tv lv : Value} {ts : List Int} {l : List Ev} {w : World} (ht : NRd w w.heap.size tv ts) (hl : ERd w w.heap.size lv l) (hp : Pow10 w.heap.size w) :
    Calls Tryd.prog 20 #[tv, lv] w fun e w' => e = .returned (.bool true) ∧ Below w.heap.size w w' := by
  obtain ⟨At, capt, rfl, -, -⟩ := ht.is
  obtain ⟨Al, capl, rfl, hl1, hl2⟩ := hl.is
  unfold maxLen at hl2
  have HT := Lib.hid (And.intro ht (And.intro hl hp))
  have HF := Lib.hid (find_say ht hl hp)
  obtain ⟨tl, htl⟩ : ∃ tl, tl = ts.length := ⟨_, rfl⟩
  obtain ⟨L, hL⟩ : ∃ L, L = l.length := ⟨_, rfl⟩
  rw [← htl, ← hL] at HF HT
  rw [← htl, ← hL]
  clear ht hl hp htl hL hl1 hl2
  go_enter Tryd.func20, Tryd.ntmps20
  go_wp2_with fail
  refine HF.out.mono ?_
  rintro e w1 ⟨hb, v, rfl, -⟩
  have H1 := Lib.hid (hb)
  have HQ := Lib.hid (quiet_any ((HT.out.1.below H1.out).mono H1.out.size) ((HT.out.2.1.below H1.out).mono H1.out.size) ((HT.out.2.2.on H1.out).mono H1.out.size))
  clear hb HF
  go_wp2_with fail
  refine HQ.out.mono ?_
  rintro e w2 ⟨hb, v2, rfl, -⟩
  have H2 := Lib.hid (H1.out.trans (hb.mono H1.out.size))
  have HC := Lib.hid (calm_any ((HT.out.1.below H2.out).mono H2.out.size) ((HT.out.2.1.below H2.out).mono H2.out.size))
  clear hb HQ
  go_wp2_with fail
  refine HC.out.mono ?_
  rintro e w3 ⟨hb, v3, rfl, hv⟩
  have H3 := Lib.hid (H2.out.trans (hb.mono H2.out.size))
  clear hb HC
  have hup := @calm_up ts l
  have htm := @calm_time ts l
  by_cases hE : searchE (callsOf ts l) = 0
  · rw [if_pos hE] at hv
    have HUP := Lib.hid (fun m h0 h1 => hup hE (m := m) h0 h1)
    have HTM := Lib.hid (htm hE)
    have hv2 := hv.rd
    generalize calmsL l = es at hv2 HUP HTM
    obtain ⟨Av, cv, rfl, -, hcv⟩ := hv2.is
    unfold maxLen at hcv
    rw [hE]
    generalize fndB (calmB (callsOf ts l).1) ts (callsOf ts l) = q at HTM ⊢
    generalize foundB ts (callsOf ts l) = fb at HTM ⊢
    obtain ⟨n, hn⟩ : ∃ n, n = es.length := ⟨_, rfl⟩
    have HN := Lib.hid hn
    rw [← hn] at hv2 ⊢
    have HV := Lib.hid hv2
    have hn8 : n ≤ 9223372036854775807 := by have := hv2.is; obtain ⟨_, _, _, h, h2⟩ := this; unfold maxLen at h2; omega
    clear hup htm hE hv hv2 hn hcv
    have HS := Lib.hid (sqlives_any w3 ((HT.out.2.2.on H3.out).mono H3.out.size))
    go_wp2_with fail
    refine HS.out.mono ?_
    rintro e w4 ⟨rfl, hb⟩
    have H4 := Lib.hid (H3.out.trans (hb.mono H3.out.size))
    have HS34 := Lib.hid hb
    clear hb HS
    have HOK := Lib.hid (ok_zero (IRd.fresh w4 25 [0, 0, 0] 3 rfl #[.int .i64 0, .int .i64 0, .int .i64 0] rfl) (by decide) (by decide))
    go_wp2_with fail
    refine HOK.out.mono ?_
    rintro e w5 ⟨rfl, rfl⟩
    have H5 := Lib.hid (H4.out.alloc H4.out.size (.cells #[.int .i64 0, .int .i64 0, .int .i64 0] 25))
    clear HOK
    have HV5 : Hid (NRd (w4.alloc (.cells #[.int .i64 0, .int .i64 0, .int .i64 0] 25)) w3.heap.size (.slice Av n cv) es) := Lib.hid (by
      have h4 : Below w3.heap.size w3 w4 := HS34.out
      exact HV.out.below (h4.alloc h4.size _))
    go_wp2_with fail
    have h5 := H5.out
    have hv5 := HV5.out
    clear H5 HV5 H4 HS34
    change Code.wp _ _ _ _ (w4.alloc (.cells #[.int .i64 0, .int .i64 0, .int .i64 0] 25))
    generalize w4.alloc (.cells #[.int .i64 0, .int .i64 0, .int .i64 0] 25) = W at h5 hv5 ⊢
    generalize w3.heap.size = B at hv5
    go_loopw [13] (fun t wr => ∃ k : Nat, 1 ≤ k ∧ (k ≤ n ∨ k = 1) ∧ t = .int .i64 k ∧ Below w.heap.size w wr ∧ NRd wr B (.slice Av n cv) es ∧ ∀ m, 0 < m → m < k → m < n → es.getD (m - 1) 0 < es.getD m 0) (fun t _ => n - (intOf t).toNat)
    case atStart => exact ⟨1, Nat.le_refl _, .inr rfl, rfl, h5, hv5, fun m h1 h2 => by omega⟩
    case round =>
      clear h5 hv5
      obtain ⟨k, hk1, hkn, rfl, hb, hv, hst⟩ := hrel
      by_cases hk : k < n
      · obtain ⟨x, hx⟩ : ∃ x, es[k]? = some x := ⟨_, List.getElem?_eq_getElem (by rw [← HN.out]; exact hk)⟩
        obtain ⟨y, hy⟩ : ∃ y, es[k - 1]? = some y := ⟨_, List.getElem?_eq_getElem (by rw [← HN.out]; omega)⟩
        have hxd : es.getD k 0 = x := by rw [List.getD_eq_getElem?_getD, hx]; rfl
        have hyd : es.getD (k - 1) 0 = y := by rw [List.getD_eq_getElem?_getD, hy]; rfl
        obtain ⟨g, o, hA, -, d0⟩ := hv.num hx
        obtain ⟨g', o', hA', -, e0⟩ := hv.num hy
        subst hA
        injection hA' with hA'
        injection hA' with h1 h2
        subst h1
        subst h2
        have hle := HUP.out k (by omega) (by rw [← HN.out]; exact hk)
        rw [hxd, hyd] at hle
        have HX := Lib.hid (And.intro hb (And.intro hv hst))
        have HXY := Lib.hid (And.intro hxd hyd)
        obtain ⟨j, hj⟩ : ∃ j : Nat, j = k - 1 := ⟨_, rfl⟩
        rw [← hj] at e0
        have hkj : k = j + 1 := by omega
        clear hb hv hst hxd hyd hx hy hj
        subst hkj
        have k1 : (0 : Int) ≤ (j : Int) := by omega
        have k2 : ((j : Int) + 1) < (n : Int) := by omega
        have k3 : (j : Int) < (n : Int) := by omega
        have hlt : ¬ x < y := by omega
        go_wp2_with fail
        go_quiet (fail)
        have hX := HX.out
        have c0 : (wr.drewN nq).cell? ⟨g, o + (j + 1), none⟩ = some (.int .i64 x) := d0
        have c1 : (wr.drewN nq).cell? ⟨g, o + j, none⟩ = some (.int .i64 y) := e0
        have HX2 := Lib.hid (And.intro (belowN hX.1 nq) (And.intro (LRd.below hX.2.1 (belowN (Below.refl _ _) nq)) hX.2.2))
        clear d0 e0 hX HX
        generalize wr.drewN nq = w6 at c0 c1 HX2 ⊢
        by_cases hxy : x = y
        · have hz : (x == y) = true := by rw [beq_iff_eq]; exact hxy
          clear hxy
          go_wp2_with fail
          go_quiet (fail)
          have HZ := Lib.hid (belowN HX2.out.1 nq)
          go_wp2_with fail
          go_ret
          exact ⟨rfl, HZ.out⟩
        · have hz : (x == y) = false := by rw [beq_eq_false_iff_ne]; exact hxy
          have HXL := Lib.hid (show y < x by omega)
          clear hxy
          go_wp2_with fail
          go_quiet (fail)
          have HZ := Lib.hid (And.intro (belowN HX2.out.1 nq) (And.intro (LRd.below HX2.out.2.1 (belowN (Below.refl _ _) nq)) HX2.out.2.2))
          clear c0 c1
          generalize w6.drewN nq = w7 at HZ ⊢
          go_wp2_with fail
          go_roundw
          case rel =>
            refine ⟨j + 2, by omega, .inl (by omega), by go_num, HZ.out.1, HZ.out.2.1, fun m h1 h2 h3 => ?_⟩
            by_cases e : m = j + 1
            · subst e
              rw [HXY.out.1, HXY.out.2]
              exact HXL.out
            · exact HZ.out.2.2 m h1 (by omega) h3
          case measure => simp [intOf]; omega
      · have hq := HTM.out (fun m h1 h2 => hst m h1 (by rw [← HN.out] at h2; omega) (by rw [HN.out]; exact h2))
        have HX := Lib.hid hb
        have k2 : ¬ (k : Int) < (n : Int) := by omega
        subst hq
        clear hb hv hst HTM
        cases q
        · go_wp2_with fail
          go_ret
          exact ⟨rfl, HX.out⟩
        · go_wp2_with fail
          go_ret
          exact ⟨rfl, HX.out⟩
  · obtain ⟨Av, cv, rfl, -, -⟩ := hv.rd.is
    clear hup htm hv
    generalize (if searchE (callsOf ts l) = 0 then calmsL l else []).length = n
    generalize hEE : searchE (callsOf ts l) = E at hE ⊢
    have HE := Lib.hid hE
    clear hEE hE
    have HS := Lib.hid (sqlives_any w3 ((HT.out.2.2.on H3.out).mono H3.out.size))
    go_wp2_with fail
    refine HS.out.mono ?_
    rintro e w4 ⟨rfl, hb⟩
    have H4 := Lib.hid (H3.out.trans (hb.mono H3.out.size))
    clear hb HS
    have HOK := Lib.hid (ok_not (IRd.fresh w4 25 [E, E, E] 3 rfl #[.int .i64 E, .int .i64 E, .int .i64 E] rfl) (x := E) (by simp) HE.out (by simp))
    go_wp2_with fail
    refine HOK.out.mono ?_
    rintro e w5 ⟨rfl, rfl⟩
    have H5 := Lib.hid (H4.out.alloc H4.out.size (.cells #[.int .i64 E, .int .i64 E, .int .i64 E] 25))
    clear HOK
    have HS := Lib.hid (sqlives_any (w4.alloc (.cells #[.int .i64 E, .int .i64 E, .int .i64 E] 25)) ((HT.out.2.2.on H5.out).mono H5.out.size))
    go_wp2_with fail
    refine HS.out.mono ?_
    rintro e w6 ⟨rfl, hb⟩
    have H6 := Lib.hid (H5.out.trans (hb.mono H5.out.size))
    clear hb HS
    go_wp2_with fail
    go_ret
    exact ⟨rfl, H6.out⟩
end Go.Proofs.YtecpjeililiafaaDoor

/-
  The tied card of alibkeep.SeqCalm: whatever is handed in (the listed tables reading as the program's own text lays them), the law answers true and leaves its arguments as they were.
-/
namespace Go.Proofs.YtecpjeililiafaaDoor
open Go.ChangeShapes Go.WideShapes Go.ChangeAt Go.RowKit
set_option maxRecDepth 20000

theorem seqCalm_knob : ownKnob Tryd.prog.godebug = none := by kernel_rfl

set_option maxRecDepth 100000 in
theorem seqCalm_lifted (os : Os) (started : os.Started) (H : Type) (enc : TypeId × Value → H) :
    ReturnsInHanded {} Tryd.checked os 20 .any (fun w args => (Rows.seqCalmSpec.pre enc Tryd.prog Tryd.f20 [] false w args ∧ laidMetH Tryd.prog tab3Laid w) ∧ sizedMet enc Tryd.prog Tryd.f20 (OpenSpec.ofChange Rows.seqCalmSpec) false w args)
      (Rows.seqCalmSpec.post enc Tryd.prog Tryd.f20 false true false false) := by
  refine returnsInHanded_of_change_and (C := Tryd.checked) (X := fun w _ => laidMetH Tryd.prog tab3Laid w) (fun _ _ _ hh h => h.of_heap hh) seqCalm_knob started (by kernel_rfl) Tryd.func20
    (ChangeSpec.witness_shaped (enc := enc) (C := Tryd.checked) (os := os) (X := fun w _ => laidMetH Tryd.prog tab3Laid w) false (World.laidAll Tryd.prog os tab3Laid) #[.slice none 0 0, .slice none 0 0] 8 (World.laidAll_os _ _ _)
      (World.shaped_of_ZipB (by kernel_rfl) (by kernel_rfl)) (by kernel_rfl) (by kernel_rfl) (by kernel_rfl)
      (by rw [MakeChecks.laidMetH_plain _ _ _ (by kernel_rfl)]; exact laidMet_laidAll _ (by kernel_rfl) (by kernel_rfl))) ?_
  intro W base args ds gs before hval0 hW _ _ hL _
  have hval : ∀ (j : Nat) t v, Tryd.f20.params[j]? = some t → args[j]? = some v → Value.okWide Tryd.prog W .any base t v := hval0
  have hW' := hW
  have hlt := hW.lt
  obtain ⟨p, q, hA0, hV, rfl, _, _⟩ := hW
  have hA : DataW.TrodAll enc Tryd.prog W 0 (fun _ => true) true Tryd.f20.params.toList args.toList ds p := hA0
  rw [Tryd.params20] at hA hval
  obtain ⟨v0, v1, d0, d1, p0, p1, rfl, rfl, rfl, h0, h1⟩ := trodAll_two hA
  obtain ⟨rfl, rfl⟩ := trodVars_none hV
  obtain ⟨l0, hL0⟩ := open_nums (hval 0 22 v0 rfl rfl) h0
  obtain ⟨l1, hL1⟩ := open_evs (hval 1 23 v1 rfl rfl) h1
  have hT := pow_of_laid hL
  clear hA0 hval0
  simp only [List.append_nil] at hW' hlt
  refine (scalm_any hL0 hL1 hT).mono fun e W' ⟨he, hb⟩ => ?_
  subst he
  refine ⟨_, rfl, end_of_below (pa := p0 ++ p1) (pv := []) hW' hb (by simp) (fun _ _ _ => ?_) (fun sp hsp => ?_) (fun _ _ => rfl) (ok_one (by kernel_rfl) rfl (okWide_bool_mk Tryd.underlying4 _))⟩
  · exact trodAll_mk1 (shut_bool Tryd.underlying4 _)
  · skip
    have hk0 := WideElems.Trod_stays laidOutIt (by kernel_rfl) (of_decide_eq_true (by kernel_rfl)) h0 (fun x hx => hb.same (hlt x (List.mem_append.2 (.inl hx)))) (fun x hx => hsp x (List.mem_append.2 (.inl hx)))
    have hk1 := WideElems.Trod_stays laidOutIt (by kernel_rfl) (of_decide_eq_true (by kernel_rfl)) h1 (fun x hx => hb.same (hlt x (List.mem_append.2 (.inr hx)))) (fun x hx => hsp x (List.mem_append.2 (.inr hx)))
    have := trodAll_mk2 hk0 hk1
    exact this

theorem seqCalm_holds : Rows.SeqCalmSaid :=
  OpenClaim.holds_of_wide 20 Tryd.f20 rfl rfl rfl rfl rfl rfl rfl ⟨rfl, rfl, rfl, rfl, rfl⟩ rfl rfl rfl rfl rfl (by kernel_rfl) Tryd.func20 (by kernel_rfl)
    (of_decide_eq_true (by kernel_rfl)) (by unfold Func.isWrapper; first | (rw [if_pos (by decide +kernel)]; kernel_rfl) | (rw [if_neg (by decide +kernel)]; exact ⟨rfl, rfl⟩))
    (fun os started H enc _ => seqCalm_lifted os started H enc)

theorem seqCalm_card : Rows.SeqCalmCardSaid :=
  Claim7.holds_tied_plain_at .later [] [.data, .data, .data] true Rows.seqCalmCard.stood.harness false seqCalm_holds (fun _ h => by cases h) (by kernel_rfl) (fun _ h => by cases h) seqCalm_row_tie rfl ⟨rfl, rfl⟩ (by kernel_rfl) rfl
    (fun f fn hf hfn => by
      obtain rfl : f = 20 := Option.some.inj ((show Tryd.prog.funcNamed "alibi/alibkeep.SeqCalm" = some 20 by kernel_rfl).symm.trans hf) |>.symm
      obtain rfl : fn = Tryd.f20 := (Option.some.inj (Tryd.func20.symm.trans hfn)).symm
      exact ⟨by kernel_rfl, fun j t ht => by
        rw [Tryd.params20] at ht
        have hm : t ∈ [22, 23] := by simpa using Array.mem_of_getElem? ht
        have hall : ([22, 23].all fun u => !Tryd.prog.wantsStandIn u) = true := by kernel_rfl
        exact (show Tryd.prog.wantsStandIn t = false by simpa using List.all_eq_true.1 hall t hm)⟩)
    (by kernel_rfl)
#print axioms seqCalm_card
end Go.Proofs.YtecpjeililiafaaDoor
