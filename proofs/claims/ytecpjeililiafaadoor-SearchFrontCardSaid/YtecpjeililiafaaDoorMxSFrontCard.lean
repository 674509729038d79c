/-
  Joined by a program out of: SFrontW, SFrontCard.
-/
import Derived.Test.YtecpjeililiafaaDoorMgAW
import Derived.Test.YtecpjeililiafaaDoorMgAX
import Derived.Test.YtecpjeililiafaaDoorTie
import Derived.Test.YtecpjeililiafaaDoorCards
import Derived.SevenTiedAt
import Derived.Stop.Joined

/-
  The walk of the law SearchFront.
-/
namespace Go.Proofs.YtecpjeililiafaaDoor
open Go.RowKit
set_option maxRecDepth 20000

theorem found_begin {ts : List Int} {l : List Ev} {n : Nat} (h : foundB ts (callsOf ts l) = true) (hn : n ≤ l.length) : searchE (callsOf ts (l.take n)) = 0 ∧ foundB ts (callsOf ts (l.take n)) = true := by
  obtain ⟨h1, ws, h2⟩ := foundB_iff.1 h
  obtain ⟨h3, h4⟩ := search_ok.1 h1
  obtain ⟨h5, h6, h7⟩ := front_rite hn h3 h2
  have h8 := search_ok.2 ⟨h5, by omega⟩
  exact ⟨h8, foundB_iff.2 ⟨h8, h7⟩⟩

set_option maxHeartbeats 2000000 in
theorem sfront_any {tv lv : Value} {ts : List Int} {l : List Ev} {w : World} (ht : NRd w w.heap.size tv ts) (hl : ERd w w.heap.size lv l) (n : Int) (hp : Pow10 w.heap.size w) :
    Calls Tryd.prog 9 #[tv, lv, .int .i64 n] w fun e w' => e = .returned (.bool true) ∧ Below w.heap.size w w' := by
  obtain ⟨At, capt, rfl, -, -⟩ := ht.is
  obtain ⟨Al, capl, rfl, hl1, hl2⟩ := hl.is
  unfold maxLen at hl2
  have HT := Lib.hid (And.intro ht (And.intro hl hp))
  have HF := Lib.hid (find_say ht hl hp)
  obtain ⟨tl, htl⟩ : ∃ tl, tl = ts.length := ⟨_, rfl⟩
  obtain ⟨L, hL⟩ : ∃ L, L = l.length := ⟨_, rfl⟩
  rw [← htl, ← hL] at HF HT
  rw [← htl, ← hL]
  rw [← hL] at hl1
  have HLL := Lib.hid (And.intro htl hL)
  clear ht hl hp htl hL
  go_enter Tryd.func9, Tryd.ntmps9
  go_wp2_with fail
  refine HF.out.mono ?_
  rintro e w1 ⟨hb1, v, rfl, hv⟩
  have H1 := Lib.hid hb1
  clear hb1 hv HF
  by_cases hE : searchE (callsOf ts l) = 0
  · cases hb : foundB ts (callsOf ts l)
    · rw [hE]
      clear hE hb
      have HS1 := Lib.hid (slives_any w1 ((HT.out.2.2.on H1.out).mono H1.out.size))
      go_wp2_with fail
      refine HS1.out.mono ?_
      rintro e w2 ⟨rfl, hb2⟩
      have H2 := Lib.hid (H1.out.trans (hb2.mono H1.out.size))
      clear hb2 HS1
      have HS2 := Lib.hid (slives_any w2 ((HT.out.2.2.on H2.out).mono H2.out.size))
      go_wp2_with fail
      refine HS2.out.mono ?_
      rintro e w3 ⟨rfl, hb3⟩
      have H3 := Lib.hid (H2.out.trans (hb3.mono H2.out.size))
      clear hb3 HS2
      go_wp2_with fail
      go_ret
      exact ⟨rfl, H3.out⟩
    · have HB := Lib.hid hb
      rw [hE]
      clear hE hb
      by_cases hn0 : n < 0
      · skip
        have HS1 := Lib.hid (slives_any w1 ((HT.out.2.2.on H1.out).mono H1.out.size))
        go_wp2_with fail
        refine HS1.out.mono ?_
        rintro e w2 ⟨rfl, hb2⟩
        have H2 := Lib.hid (H1.out.trans (hb2.mono H1.out.size))
        clear hb2 HS1
        have HS2 := Lib.hid (slives_any w2 ((HT.out.2.2.on H2.out).mono H2.out.size))
        go_wp2_with fail
        refine HS2.out.mono ?_
        rintro e w3 ⟨rfl, hb3⟩
        have H3 := Lib.hid (H2.out.trans (hb3.mono H2.out.size))
        clear hb3 HS2
        go_wp2_with fail
        go_ret
        exact ⟨rfl, H3.out⟩
      · by_cases hnL : (L : Int) < n
        · skip
          have HS1 := Lib.hid (slives_any w1 ((HT.out.2.2.on H1.out).mono H1.out.size))
          go_wp2_with fail
          refine HS1.out.mono ?_
          rintro e w2 ⟨rfl, hb2⟩
          have H2 := Lib.hid (H1.out.trans (hb2.mono H1.out.size))
          clear hb2 HS1
          have HS2 := Lib.hid (slives_any w2 ((HT.out.2.2.on H2.out).mono H2.out.size))
          go_wp2_with fail
          refine HS2.out.mono ?_
          rintro e w3 ⟨rfl, hb3⟩
          have H3 := Lib.hid (H2.out.trans (hb3.mono H2.out.size))
          clear hb3 HS2
          go_wp2_with fail
          go_ret
          exact ⟨rfl, H3.out⟩
        · obtain ⟨m, rfl⟩ : ∃ m : Nat, n = (m : Int) := ⟨n.toNat, by omega⟩
          have hmL : m ≤ L := by omega
          have hml : m ≤ l.length := by rw [← HLL.out.2]; exact hmL
          have hml2 : m ≤ capl := by omega
          have HFB := Lib.hid (found_begin HB.out hml)
          have HS1 := Lib.hid (slives_any w1 ((HT.out.2.2.on H1.out).mono H1.out.size))
          go_wp2_with fail
          refine HS1.out.mono ?_
          rintro e w2 ⟨rfl, hb2⟩
          have H2 := Lib.hid (H1.out.trans (hb2.mono H1.out.size))
          clear hb2 HS1
          have hl9 := HT.out.2.1
          have hHL := HLL.out.2
          rw [hHL] at hl9
          have HD := Lib.hid (find_say ((HT.out.1.below H2.out).mono H2.out.size) (((hl9.take_ hml).below H2.out).mono H2.out.size) ((HT.out.2.2.on H2.out).mono H2.out.size))
          clear hl9 hml hHL
          go_wp2_with fail
          refine HD.out.mono ?_
          rintro e w3 ⟨hb3, v3, rfl, hv3⟩
          have H3 := Lib.hid (H2.out.trans (hb3.mono H2.out.size))
          rw [HFB.out.1, HFB.out.2]
          clear hb3 hv3 HD
          go_wp2_with fail
          go_ret
          exact ⟨rfl, H3.out⟩
  · have hne : (searchE (callsOf ts l) != 0) = true := by rw [bne_iff_ne]; exact hE
    generalize searchE (callsOf ts l) = E at hne ⊢
    generalize foundB ts (callsOf ts l) = b
    clear hE
    have HS1 := Lib.hid (slives_any w1 ((HT.out.2.2.on H1.out).mono H1.out.size))
    go_wp2_with fail
    refine HS1.out.mono ?_
    rintro e w2 ⟨rfl, hb2⟩
    have H2 := Lib.hid (H1.out.trans (hb2.mono H1.out.size))
    clear hb2 HS1
    have HS2 := Lib.hid (slives_any w2 ((HT.out.2.2.on H2.out).mono H2.out.size))
    go_wp2_with fail
    refine HS2.out.mono ?_
    rintro e w3 ⟨rfl, hb3⟩
    have H3 := Lib.hid (H2.out.trans (hb3.mono H2.out.size))
    clear hb3 HS2
    go_wp2_with fail
    go_ret
    exact ⟨rfl, H3.out⟩
end Go.Proofs.YtecpjeililiafaaDoor

/-
  The tied card of alibkeep.SearchFront: whatever is handed in (the listed tables reading as the program's own text lays them), the law answers true and leaves its arguments as they were.
-/
namespace Go.Proofs.YtecpjeililiafaaDoor
open Go.ChangeShapes Go.WideShapes Go.ChangeAt Go.RowKit
set_option maxRecDepth 20000

theorem searchFront_knob : ownKnob Tryd.prog.godebug = none := by kernel_rfl

set_option maxRecDepth 100000 in
theorem searchFront_lifted (os : Os) (started : os.Started) (H : Type) (enc : TypeId × Value → H) :
    ReturnsInHanded {} Tryd.checked os 9 .any (fun w args => (Rows.searchFrontSpec.pre enc Tryd.prog Tryd.f9 [] false w args ∧ laidMetH Tryd.prog tab3Laid w) ∧ sizedMet enc Tryd.prog Tryd.f9 (OpenSpec.ofChange Rows.searchFrontSpec) false w args)
      (Rows.searchFrontSpec.post enc Tryd.prog Tryd.f9 false true false false) := by
  refine returnsInHanded_of_change_and (C := Tryd.checked) (X := fun w _ => laidMetH Tryd.prog tab3Laid w) (fun _ _ _ hh h => h.of_heap hh) searchFront_knob started (by kernel_rfl) Tryd.func9
    (ChangeSpec.witness_shaped (enc := enc) (C := Tryd.checked) (os := os) (X := fun w _ => laidMetH Tryd.prog tab3Laid w) false (World.laidAll Tryd.prog os tab3Laid) #[.slice none 0 0, .slice none 0 0, .int .i64 0] 8 (World.laidAll_os _ _ _)
      (World.shaped_of_ZipB (by kernel_rfl) (by kernel_rfl)) (by kernel_rfl) (by kernel_rfl) (by kernel_rfl)
      (by rw [MakeChecks.laidMetH_plain _ _ _ (by kernel_rfl)]; exact laidMet_laidAll _ (by kernel_rfl) (by kernel_rfl))) ?_
  intro W base args ds gs before hval0 hW _ _ hL _
  have hval : ∀ (j : Nat) t v, Tryd.f9.params[j]? = some t → args[j]? = some v → Value.okWide Tryd.prog W .any base t v := hval0
  have hW' := hW
  have hlt := hW.lt
  obtain ⟨p, q, hA0, hV, rfl, _, _⟩ := hW
  have hA : DataW.TrodAll enc Tryd.prog W 0 (fun _ => true) true Tryd.f9.params.toList args.toList ds p := hA0
  rw [Tryd.params9] at hA hval
  obtain ⟨v0, v1, v2, d0, d1, d2, p0, p1, p2, rfl, rfl, rfl, h0, h1, h2⟩ := trodAll_three hA
  obtain ⟨rfl, rfl⟩ := trodVars_none hV
  obtain ⟨l0, hL0⟩ := open_nums (hval 0 22 v0 rfl rfl) h0
  obtain ⟨l1, hL1⟩ := open_evs (hval 1 23 v1 rfl rfl) h1
  obtain ⟨i2, rfl, rfl, rfl, wi2⟩ := open_int Tryd.underlying3 (hval 2 3 v2 rfl rfl) h2
  have hT := pow_of_laid hL
  clear hA0 hval0
  simp only [List.append_nil] at hW' hlt
  refine (sfront_any hL0 hL1 i2 hT).mono fun e W' ⟨he, hb⟩ => ?_
  subst he
  refine ⟨_, rfl, end_of_below (pa := p0 ++ p1) (pv := []) hW' hb (by simp) (fun _ _ _ => ?_) (fun sp hsp => ?_) (fun _ _ => rfl) (ok_one (by kernel_rfl) rfl (okWide_bool_mk Tryd.underlying4 _))⟩
  · exact trodAll_mk1 (shut_bool Tryd.underlying4 _)
  · skip
    have hk0 := WideElems.Trod_stays laidOutIt (by kernel_rfl) (of_decide_eq_true (by kernel_rfl)) h0 (fun x hx => hb.same (hlt x (List.mem_append.2 (.inl hx)))) (fun x hx => hsp x (List.mem_append.2 (.inl hx)))
    have hk1 := WideElems.Trod_stays laidOutIt (by kernel_rfl) (of_decide_eq_true (by kernel_rfl)) h1 (fun x hx => hb.same (hlt x (List.mem_append.2 (.inr hx)))) (fun x hx => hsp x (List.mem_append.2 (.inr hx)))
    have := trodAll_mk3 hk0 hk1 (shut_int Tryd.underlying3 wi2)
    simp only [List.append_nil] at this ⊢
    exact this

theorem searchFront_holds : Rows.SearchFrontSaid :=
  OpenClaim.holds_of_wide 9 Tryd.f9 rfl rfl rfl rfl rfl rfl rfl ⟨rfl, rfl, rfl, rfl, rfl⟩ rfl rfl rfl rfl rfl (by kernel_rfl) Tryd.func9 (by kernel_rfl)
    (of_decide_eq_true (by kernel_rfl)) (by unfold Func.isWrapper; first | (rw [if_pos (by decide +kernel)]; kernel_rfl) | (rw [if_neg (by decide +kernel)]; exact ⟨rfl, rfl⟩))
    (fun os started H enc _ => searchFront_lifted os started H enc)

theorem searchFront_card : Rows.SearchFrontCardSaid :=
  Claim7.holds_tied_plain_at .later [] [.data, .data, .data] true Rows.searchFrontCard.stood.harness false searchFront_holds (fun _ h => by cases h) (by kernel_rfl) (fun _ h => by cases h) searchFront_row_tie rfl ⟨rfl, rfl⟩ (by kernel_rfl) rfl
    (fun f fn hf hfn => by
      obtain rfl : f = 9 := Option.some.inj ((show Tryd.prog.funcNamed "alibi/alibkeep.SearchFront" = some 9 by kernel_rfl).symm.trans hf) |>.symm
      obtain rfl : fn = Tryd.f9 := (Option.some.inj (Tryd.func9.symm.trans hfn)).symm
      exact ⟨by kernel_rfl, fun j t ht => by
        rw [Tryd.params9] at ht
        have hm : t ∈ [22, 23, 3] := by simpa using Array.mem_of_getElem? ht
        have hall : ([22, 23, 3].all fun u => !Tryd.prog.wantsStandIn u) = true := by kernel_rfl
        exact (show Tryd.prog.wantsStandIn t = false by simpa using List.all_eq_true.1 hall t hm)⟩)
    (by kernel_rfl)
#print axioms searchFront_card
end Go.Proofs.YtecpjeililiafaaDoor
