/-
  Joined by a program out of: SAloneW, SAloneCard.
-/
import Derived.Test.YtecpjeililiafaaDoorMgAW
import Derived.Test.YtecpjeililiafaaDoorMgBA
import Derived.Test.YtecpjeililiafaaDoorMgAI
import Derived.Test.YtecpjeililiafaaDoorMgAX
import Derived.Test.YtecpjeililiafaaDoorTie
import Derived.Test.YtecpjeililiafaaDoorCards
import Derived.SevenTiedAt
import Derived.Stop.Joined

/-
  The walk of the law SearchAlone.
-/
namespace Go.Proofs.YtecpjeililiafaaDoor
open Go.RowKit
set_option maxRecDepth 20000

/-- The answered of the first j calls. -/
def ansUpL (cs : List Cl) (j : Nat) : List (Int × Int) := ((List.range j).filter fun i => (cs.getD i default).til != -1).map fun (i : Nat) => ((i : Int), (cs.getD i default).res)
theorem ansUpL_succ (cs : List Cl) (j : Nat) : ansUpL cs (j + 1) = if (cs.getD j default).til ≠ -1 then ansUpL cs j ++ [((j : Int), (cs.getD j default).res)] else ansUpL cs j := by
  unfold ansUpL
  rw [List.range_succ, List.filter_append, List.map_append]
  by_cases h : (cs.getD j default).til = -1
  · rw [if_neg (fun h2 => h2 h), List.filter_cons_of_neg (by rw [bne_iff_ne]; exact fun h2 => h2 h)]
    simp
  · rw [if_pos h, List.filter_cons_of_pos (by rw [bne_iff_ne]; exact h)]
    rfl
theorem ansUpL_len (cs : List Cl) (j : Nat) : (ansUpL cs j).length ≤ j := by
  unfold ansUpL
  rw [List.length_map]
  have := List.length_filter_le (fun i => (cs.getD i default).til != -1) (List.range j)
  rw [List.length_range] at this
  exact this
theorem alone_says {ts : List Int} {l : List Ev} (hE : searchE (callsOf ts l) = 0) (hw : ∀ (m : Nat) (y : Ev), m < l.length → l[m]? = some y → y.who = 0) : rightB ts (callsOf ts l) (ansUpL (callsOf ts l).1 (callsOf ts l).1.length) = foundB ts (callsOf ts l) := by
  obtain ⟨h1, h2⟩ := search_ok.1 hE
  have hp : ∀ c ∈ (callsOf ts l).1, c.who = 0 := by
    obtain ⟨_, _, e⟩ := calls_zero h1
    rw [e] at h1 ⊢
    exact run_people (fun p => p = 0) l 0 [] (fun x hx => by
      obtain ⟨i, hi, rfl⟩ := List.getElem_of_mem hx
      exact hw i _ hi (List.getElem?_eq_getElem hi)) (fun c hc => by simp at hc) h1
  have ho := (calls_orderly h1).1
  have h3 := alone_rite (ts := ts) ho hp
  rw [Bool.eq_iff_iff, rightB_iff, foundB_iff]
  exact ⟨fun h => ⟨hE, h3.1 h.2⟩, fun h => ⟨hE, h3.2 h.2⟩⟩

set_option maxHeartbeats 4000000 in
theorem salone_any {tv lv : Value} {ts : List Int} {l : List Ev} {w : World} (ht : NRd w w.heap.size tv ts) (hl : ERd w w.heap.size lv l) (hp : Pow10 w.heap.size w) :
    Calls Tryd.prog 12 #[tv, lv] w fun e w' => e = .returned (.bool true) ∧ Below w.heap.size w w' := by
  obtain ⟨At, capt, rfl, -, -⟩ := ht.is
  obtain ⟨Al, capl, rfl, hl1, hl2⟩ := hl.is
  unfold maxLen at hl2
  have HT := Lib.hid (And.intro ht (And.intro hl hp))
  have HF := Lib.hid (find_say ht hl hp)
  obtain ⟨tl, htl⟩ : ∃ tl, tl = ts.length := ⟨_, rfl⟩
  obtain ⟨L, hL⟩ : ∃ L, L = l.length := ⟨_, rfl⟩
  rw [← htl, ← hL] at HF HT
  rw [← htl, ← hL]
  rw [← hL] at hl1
  have HLL := Lib.hid (And.intro htl hL)
  clear ht hl hp htl hL
  go_enter Tryd.func12, Tryd.ntmps12
  go_wp2_with fail
  refine HF.out.mono ?_
  rintro e w1 ⟨hb1, v, rfl, hv⟩
  have H1 := Lib.hid hb1
  clear hb1 hv HF
  have HC := Lib.hid (calls_any ((HT.out.1.below H1.out).mono H1.out.size) ((HT.out.2.1.below H1.out).mono H1.out.size))
  go_wp2_with fail
  refine HC.out.mono ?_
  rintro e w2 ⟨cv, rfl, hb2, hc2⟩
  have H2 := Lib.hid (H1.out.trans (hb2.mono H1.out.size))
  obtain ⟨Ac, capc, rfl, hc3, hc4⟩ := hc2.is
  have HV2 := Lib.hid hc2
  clear hb2 hc2 HC
  obtain ⟨m, hm⟩ : ∃ m, m = (callsOf ts l).1.length := ⟨_, rfl⟩
  rw [← hm] at HV2 hc3 ⊢
  have HM := Lib.hid hm
  clear hm
  generalize ((callsOf ts l).2.1 : Int) = at1
  by_cases hE : searchE (callsOf ts l) = 0
  · obtain ⟨q1, q2⟩ := search_ok.1 hE
    rw [hE, q1]
    have HS2 := Lib.hid (slives_any w2 ((HT.out.2.2.on H2.out).mono H2.out.size))
    go_wp2_with fail
    refine HS2.out.mono ?_
    rintro e w3 ⟨rfl, hb3⟩
    have H3 := Lib.hid (H2.out.trans (hb3.mono H2.out.size))
    have HV3 := Lib.hid ((HV2.out.below hb3).mono hb3.size)
    clear hb3 HS2 HV2
    have HOK := Lib.hid (ok_zero (IRd.fresh w3 25 [0, 0] 2 rfl #[.int .i64 0, .int .i64 0] rfl) (by decide) (by decide))
    have HE := Lib.hid (And.intro hE (And.intro q1 q2))
    have hm9 : m ≤ 9 := by rw [HM.out]; exact q2
    clear hE q1 q2
    go_wp2_with fail
    refine HOK.out.mono ?_
    rintro e w4 ⟨rfl, rfl⟩
    have hal : Below w3.heap.size w3 (w3.alloc (.cells #[.int .i64 0, .int .i64 0] 25)) := (Below.refl _ _).alloc (Nat.le_refl _) _
    have H4 := Lib.hid (H3.out.trans (hal.mono H3.out.size))
    have HV4 := Lib.hid ((HV3.out.below hal).mono hal.size)
    clear hal HOK HV3 H3
    generalize w3.alloc (.cells #[.int .i64 0, .int .i64 0] 25) = W4 at H4 HV4 ⊢
    go_wp2_with fail
    go_loopw [44] (fun t wr => ∃ j : Nat, j ≤ L ∧ t = .int .i64 j ∧ (∀ (i : Nat) (y : Ev), i < j → l[i]? = some y → y.who = 0) ∧ Below W4.heap.size W4 wr) (fun t _ => L - (intOf t).toNat)
    case atStart => exact ⟨0, by omega, rfl, fun i y hi => by omega, Below.refl _ _⟩
    case round =>
      obtain ⟨j, hj, rfl, ha, hb⟩ := hrel
      have HA := Lib.hid (And.intro ha hb)
      have H5 := Lib.hid (H4.out.trans (hb.mono H4.out.size))
      by_cases hjL : j < L
      · obtain ⟨y, hy⟩ : ∃ y, l[j]? = some y := ⟨_, List.getElem?_eq_getElem (by rw [← HLL.out.2]; exact hjL)⟩
        have hr := HT.out.2.1.below H5.out
        obtain ⟨g, o, rfl, -, d0, d1, d2, d3⟩ := hr.ev hy
        obtain ⟨y0, y1, y2, y3⟩ := y
        simp only at d0 d1 d2 d3
        have i1 : (0 : Int) ≤ (j : Int) := by omega
        have i2 : (j : Int) < (L : Int) := by omega
        have HY := Lib.hid hy
        clear hr hy ha hb
        by_cases hz : y0 = 0
        · have hz2 : (y0 != 0) = false := by rw [bne_eq_false_iff_eq]; exact hz
          have HZ := Lib.hid hz
          clear hz
          go_wp2_with fail
          go_roundw
          case rel => exact ⟨j + 1, by omega, by go_num, fun i z hi hz => by
            rcases Nat.lt_or_ge i j with h | h
            · exact HA.out.1 i z h hz
            · obtain rfl : i = j := by omega
              rw [HY.out] at hz
              injection hz with hz
              subst hz
              exact HZ.out, HA.out.2.alloc HA.out.2.size _⟩
          case measure => simp [intOf]; omega
        · have hz2 : (y0 != 0) = true := by rw [bne_iff_ne]; exact hz
          clear hz
          go_wp2_with fail
          go_ret
          exact ⟨rfl, H5.out.alloc H5.out.size _⟩
      · obtain rfl : L = j := by omega
        have HS := Lib.hid (alone_says HE.out.1 (fun i y hi hy => ha i y (by rw [HLL.out.2]; exact hi) hy))
        have HV5 := Lib.hid ((HV4.out.below hb).mono hb.size)
        clear ha hb HA HV4 hj
        obtain ⟨W5, rfl⟩ : ∃ W5, W5 = wr := ⟨_, rfl⟩
        go_wp2_with fail
        go_loopw [13, 54] (fun v t wr => ∃ (j : Nat) (A : Option Addr) (n cap : Nat), j ≤ m ∧ v = .slice A n cap ∧ t = .int .i64 j ∧ TOwn wr W5.heap.size (.slice A n cap) (ansUpL (callsOf ts l).1 j) ∧ Below W5.heap.size W5 wr) (fun _ t _ => m - (intOf t).toNat)
        case atStart => exact ⟨0, none, 0, 0, by omega, rfl, rfl, TOwn.nil _ _, Below.refl _ _⟩
        case round =>
          obtain ⟨j, A, n, cap, hj, rfl, rfl, hO, hb⟩ := hrel
          have HA := Lib.hid (And.intro hO hb)
          have H6 := Lib.hid (H5.out.trans (hb.mono H5.out.size))
          have hnj : n ≤ j := by
            obtain ⟨A9, cap9, e9, -, -⟩ := hO.rd.is
            injection e9 with _ hn9 _
            rw [hn9]
            exact ansUpL_len (callsOf ts l).1 j
          clear hO hb
          by_cases hjm : j < m
          · have hjc : j < (callsOf ts l).1.length := by rw [← HM.out]; exact hjm
            have hx := getD_some hjc
            have hr := HV5.out.below HA.out.2
            obtain ⟨g, o, rfl, -, d0, d1, d2, d3, d4, d5, d6⟩ := hr.cl hx
            have i1 : (0 : Int) ≤ (j : Int) := by omega
            have i2 : (j : Int) < (m : Int) := by omega
            have hsu := ansUpL_succ (callsOf ts l).1 j
            generalize (callsOf ts l).1.getD j default = y at d0 d1 d2 d3 d4 d5 d6 hsu
            obtain ⟨y0, y1, y2, y3, y4, y5, y6⟩ := y
            simp only at d0 d1 d2 d3 d4 d5 d6 hsu
            clear hr hx hjc
            have HSU := Lib.hid hsu
            by_cases hz : y6 = -1
            · have hz2 : (y6 != -1) = false := by rw [bne_eq_false_iff_eq]; exact hz
              have HZ := Lib.hid hz
              clear hz hsu
              go_wp2_with fail
              go_roundw
              case rel =>
                refine ⟨j + 1, A, _, cap, by omega, rfl, by go_num, ?_, HA.out.2.alloc HA.out.2.size _⟩
                rw [HSU.out, if_neg (fun h => h HZ.out)]
                exact HA.out.1.alloc _
              case measure => simp [intOf]; omega
            · have hz2 : (y6 != -1) = true := by rw [bne_iff_ne]; exact hz
              have HZ := Lib.hid hz
              clear hz hsu
              obtain ⟨W7, hW7⟩ : ∃ W7, W7 = wr.alloc (.cells #[.int .i64 y0, .int .i64 y1, .int .i64 y2, .int .i64 y3, .int .i64 y4, .int .i64 y5, .int .i64 y6] 57) := ⟨_, rfl⟩
              have hsz7 : W7.heap.size = wr.heap.size + 1 := by rw [hW7, World.size_alloc]
              have hb7 : Below W5.heap.size W5 W7 := by rw [hW7]; exact HA.out.2.alloc HA.out.2.size _
              have ho7 : TOwn W7 W5.heap.size (.slice A n cap) (ansUpL (callsOf ts l).1 j) := by rw [hW7]; exact HA.out.1.alloc _
              have hlit : SRd (W7.alloc (.cells #[.int .i64 j, .int .i64 y4] 42)) (W7.heap.size + 1) (.slice (some ⟨W7.heap.size, 0, none⟩) 1 1) [((j : Int), y4)] := LRd.of_lit (f := spCs) (s := 2) (w := W7) (l := [((j : Int), y4)]) (fun _ => rfl) 42 (cs := #[.int .i64 j, .int .i64 y4]) rfl (n := 1) rfl (by unfold maxLen; omega)
              obtain ⟨v8, w8, hrun, ho8, hb8⟩ := run_app_sps 24 (ho7.alloc (.cells #[.int .i64 j, .int .i64 y4] 42)) hlit (by have := ansUpL_len (callsOf ts l).1 j; simp; omega) (by have := hb7.size; simp; omega) (by simp)
              rw [hsz7, hW7] at hrun
              have hbx : Below W5.heap.size W5 w8 := (hb7.alloc hb7.size _).trans hb8
              have HRUN := Lib.hid hrun
              obtain ⟨A8, c8, e8, -, -⟩ := ho8.rd.is
              obtain ⟨n8, hn8⟩ : ∃ n8, n8 = (ansUpL (callsOf ts l).1 j ++ [((j : Int), y4)]).length := ⟨_, rfl⟩
              rw [← hn8] at e8
              subst e8
              have HO8 := Lib.hid (And.intro ho8 hbx)
              clear hn8 hW7 hsz7 hb7 ho7 hlit hrun ho8 hb8 hbx
              go_wp2_with (at_builtin; refine Lib.wpList_append_run _ rfl (.tmp 62) (.tmp 67) _ _ rfl _ _ rfl rfl _ w8 HRUN.out ?_)
              go_roundw
              case rel =>
                refine ⟨j + 1, A8, _, c8, by omega, rfl, by go_num, ?_, HO8.out.2⟩
                rw [HSU.out, if_pos HZ.out]
                exact HO8.out.1
              case measure => simp [intOf]; omega
          · obtain rfl : m = j := by omega
            have hrr : SRd wr wr.heap.size (.slice A n cap) (ansUpL (callsOf ts l).1 m) := HA.out.1.rd
            have HR := Lib.hid (right_say ((HT.out.1.below H6.out).mono H6.out.size) ((HT.out.2.1.below H6.out).mono H6.out.size) hrr)
            have hsay := HS.out
            rw [← HM.out] at hsay
            have hE0 := HE.out.1
            rw [hE0, hsay] at HR
            clear hrr hsay hE0
            generalize foundB ts (callsOf ts l) = b at HR ⊢
            cases b
            all_goals (
              go_wp2_with fail
              refine HR.out.mono ?_
              rintro e w9 ⟨hb9, rfl⟩
              have H9 := Lib.hid (H6.out.trans (hb9.mono H6.out.size))
              clear hb9 HR
              go_wp2_with fail
              go_ret
              exact ⟨rfl, H9.out⟩)
  · obtain ⟨q1, -, -⟩ := say_bad (ts := ts) hE []
    rw [q1]
    clear q1
    generalize (callsOf ts l).2.2 = f
    generalize hEE : searchE (callsOf ts l) = E at hE ⊢
    have HE := Lib.hid hE
    clear hEE hE
    have HS2 := Lib.hid (slives_any w2 ((HT.out.2.2.on H2.out).mono H2.out.size))
    go_wp2_with fail
    refine HS2.out.mono ?_
    rintro e w3 ⟨rfl, hb3⟩
    have H3 := Lib.hid (H2.out.trans (hb3.mono H2.out.size))
    clear hb3 HS2
    have HOK := Lib.hid (ok_not (IRd.fresh w3 25 [E, f] 2 rfl #[.int .i64 E, .int .i64 f] rfl) (x := E) (by simp) HE.out (by simp))
    go_wp2_with fail
    refine HOK.out.mono ?_
    rintro e w4 ⟨rfl, rfl⟩
    have H4 := Lib.hid (H3.out.alloc H3.out.size (.cells #[.int .i64 E, .int .i64 f] 25))
    clear HOK
    have HS4 := Lib.hid (slives_any (w3.alloc (.cells #[.int .i64 E, .int .i64 f] 25)) ((HT.out.2.2.on H4.out).mono H4.out.size))
    go_wp2_with fail
    refine HS4.out.mono ?_
    rintro e w5 ⟨rfl, hb5⟩
    have H5 := Lib.hid (H4.out.trans (hb5.mono H4.out.size))
    clear hb5 HS4
    go_wp2_with fail
    go_ret
    exact ⟨rfl, H5.out⟩
end Go.Proofs.YtecpjeililiafaaDoor

/-
  The tied card of alibkeep.SearchAlone: whatever is handed in (the listed tables reading as the program's own text lays them), the law answers true and leaves its arguments as they were.
-/
namespace Go.Proofs.YtecpjeililiafaaDoor
open Go.ChangeShapes Go.WideShapes Go.ChangeAt Go.RowKit
set_option maxRecDepth 20000

theorem searchAlone_knob : ownKnob Tryd.prog.godebug = none := by kernel_rfl

set_option maxRecDepth 100000 in
theorem searchAlone_lifted (os : Os) (started : os.Started) (H : Type) (enc : TypeId × Value → H) :
    ReturnsInHanded {} Tryd.checked os 12 .any (fun w args => (Rows.searchAloneSpec.pre enc Tryd.prog Tryd.f12 [] false w args ∧ laidMetH Tryd.prog tab3Laid w) ∧ sizedMet enc Tryd.prog Tryd.f12 (OpenSpec.ofChange Rows.searchAloneSpec) false w args)
      (Rows.searchAloneSpec.post enc Tryd.prog Tryd.f12 false true false false) := by
  refine returnsInHanded_of_change_and (C := Tryd.checked) (X := fun w _ => laidMetH Tryd.prog tab3Laid w) (fun _ _ _ hh h => h.of_heap hh) searchAlone_knob started (by kernel_rfl) Tryd.func12
    (ChangeSpec.witness_shaped (enc := enc) (C := Tryd.checked) (os := os) (X := fun w _ => laidMetH Tryd.prog tab3Laid w) false (World.laidAll Tryd.prog os tab3Laid) #[.slice none 0 0, .slice none 0 0] 8 (World.laidAll_os _ _ _)
      (World.shaped_of_ZipB (by kernel_rfl) (by kernel_rfl)) (by kernel_rfl) (by kernel_rfl) (by kernel_rfl)
      (by rw [MakeChecks.laidMetH_plain _ _ _ (by kernel_rfl)]; exact laidMet_laidAll _ (by kernel_rfl) (by kernel_rfl))) ?_
  intro W base args ds gs before hval0 hW _ _ hL _
  have hval : ∀ (j : Nat) t v, Tryd.f12.params[j]? = some t → args[j]? = some v → Value.okWide Tryd.prog W .any base t v := hval0
  have hW' := hW
  have hlt := hW.lt
  obtain ⟨p, q, hA0, hV, rfl, _, _⟩ := hW
  have hA : DataW.TrodAll enc Tryd.prog W 0 (fun _ => true) true Tryd.f12.params.toList args.toList ds p := hA0
  rw [Tryd.params12] at hA hval
  obtain ⟨v0, v1, d0, d1, p0, p1, rfl, rfl, rfl, h0, h1⟩ := trodAll_two hA
  obtain ⟨rfl, rfl⟩ := trodVars_none hV
  obtain ⟨l0, hL0⟩ := open_nums (hval 0 22 v0 rfl rfl) h0
  obtain ⟨l1, hL1⟩ := open_evs (hval 1 23 v1 rfl rfl) h1
  have hT := pow_of_laid hL
  clear hA0 hval0
  simp only [List.append_nil] at hW' hlt
  refine (salone_any hL0 hL1 hT).mono fun e W' ⟨he, hb⟩ => ?_
  subst he
  refine ⟨_, rfl, end_of_below (pa := p0 ++ p1) (pv := []) hW' hb (by simp) (fun _ _ _ => ?_) (fun sp hsp => ?_) (fun _ _ => rfl) (ok_one (by kernel_rfl) rfl (okWide_bool_mk Tryd.underlying4 _))⟩
  · exact trodAll_mk1 (shut_bool Tryd.underlying4 _)
  · skip
    have hk0 := WideElems.Trod_stays laidOutIt (by kernel_rfl) (of_decide_eq_true (by kernel_rfl)) h0 (fun x hx => hb.same (hlt x (List.mem_append.2 (.inl hx)))) (fun x hx => hsp x (List.mem_append.2 (.inl hx)))
    have hk1 := WideElems.Trod_stays laidOutIt (by kernel_rfl) (of_decide_eq_true (by kernel_rfl)) h1 (fun x hx => hb.same (hlt x (List.mem_append.2 (.inr hx)))) (fun x hx => hsp x (List.mem_append.2 (.inr hx)))
    have := trodAll_mk2 hk0 hk1
    exact this

theorem searchAlone_holds : Rows.SearchAloneSaid :=
  OpenClaim.holds_of_wide 12 Tryd.f12 rfl rfl rfl rfl rfl rfl rfl ⟨rfl, rfl, rfl, rfl, rfl⟩ rfl rfl rfl rfl rfl (by kernel_rfl) Tryd.func12 (by kernel_rfl)
    (of_decide_eq_true (by kernel_rfl)) (by unfold Func.isWrapper; first | (rw [if_pos (by decide +kernel)]; kernel_rfl) | (rw [if_neg (by decide +kernel)]; exact ⟨rfl, rfl⟩))
    (fun os started H enc _ => searchAlone_lifted os started H enc)

theorem searchAlone_card : Rows.SearchAloneCardSaid :=
  Claim7.holds_tied_plain_at .later [] [.data, .data, .data] true Rows.searchAloneCard.stood.harness false searchAlone_holds (fun _ h => by cases h) (by kernel_rfl) (fun _ h => by cases h) searchAlone_row_tie rfl ⟨rfl, rfl⟩ (by kernel_rfl) rfl
    (fun f fn hf hfn => by
      obtain rfl : f = 12 := Option.some.inj ((show Tryd.prog.funcNamed "alibi/alibkeep.SearchAlone" = some 12 by kernel_rfl).symm.trans hf) |>.symm
      obtain rfl : fn = Tryd.f12 := (Option.some.inj (Tryd.func12.symm.trans hfn)).symm
      exact ⟨by kernel_rfl, fun j t ht => by
        rw [Tryd.params12] at ht
        have hm : t ∈ [22, 23] := by simpa using Array.mem_of_getElem? ht
        have hall : ([22, 23].all fun u => !Tryd.prog.wantsStandIn u) = true := by kernel_rfl
        exact (show Tryd.prog.wantsStandIn t = false by simpa using List.all_eq_true.1 hall t hm)⟩)
    (by kernel_rfl)
#print axioms searchAlone_card
end Go.Proofs.YtecpjeililiafaaDoor
