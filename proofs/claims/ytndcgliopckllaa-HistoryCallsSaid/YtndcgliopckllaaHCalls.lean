/-
  PROVED HERE: whatever types, events, type and kind are handed in, the law HistoryCalls answers true and leaves its arguments as they were. No condition.
-/
import Derived.Test.YtndcgliopckllaaCallsOf
import Derived.Test.YtndcgliopckllaaEqCl
import Derived.Test.YtndcgliopckllaaHistArg
import Derived.Test.YtndcgliopckllaaEnd
namespace Go.Proofs.Ytndcgliopckllaa
open Go.RowKit Go.ChangeShapes Go.WideShapes Go.ChangeAt
set_option maxRecDepth 20000

set_option maxHeartbeats 2000000 in
theorem hcalls_any {tv lv : Value} {ts : List Int} {l : List Ev} {w : World} (ht : NRd w w.heap.size tv ts) (hl : ERd w w.heap.size lv l) (typ kind : Int) :
    Calls Try.prog 3 #[tv, lv, .int .i64 typ, .int .i64 kind] w fun e w' => e = .returned (.bool true) ∧ Below w.heap.size w w' := by
  obtain ⟨At, capt, rfl, m1, m2⟩ := ht.is
  obtain ⟨Al, capl, rfl, m3, m4⟩ := hl.is
  have HT := Lib.hid ht
  have HL := Lib.hid hl
  have HC := Lib.hid (calls_any ht hl)
  clear ht hl m1 m2 m3 m4
  go_enter Try.func3, Try.ntmps3
  go_wp2_with fail
  refine HC.out.mono ?_
  rintro e w1 ⟨v1, rfl, hb1, hr1⟩
  have HD := Lib.hid (callsOf_any ((HT.out.below hb1).mono hb1.size) ((HL.out.below hb1).mono hb1.size))
  have H1 := Lib.hid (And.intro hb1 hr1)
  clear HC hb1 hr1
  go_wp2_with fail
  refine HD.out.mono ?_
  rintro e w2 ⟨v2, rfl, hb2, hr2⟩
  have H2 := Lib.hid (And.intro (H1.out.1.trans (hb2.mono H1.out.1.size)) (And.intro ((H1.out.2.below hb2).mono hb2.size) hr2))
  clear HD hb2 hr2 H1
  generalize callsOf ts l = o at H2 ⊢
  obtain ⟨cs, at_, er⟩ := o
  simp only at H2
  go_wp2_with fail
  refine (fits_any _ _ _).mono ?_
  rintro e w' ⟨rfl, rfl⟩
  go_wp2_with fail
  refine (kinds_any _ _).mono ?_
  rintro e w3 ⟨kv, rfl, hk, hb3⟩
  have H3 := Lib.hid (And.intro (H2.out.1.trans (hb3.mono H2.out.1.size)) (And.intro ((H2.out.2.1.below hb3).mono hb3.size) (And.intro ((H2.out.2.2.below hb3).mono hb3.size) hk)))
  clear hk hb3 H2
  go_wp2_with fail
  refine (contains_any H3.out.2.2.2 (kindsL_len _) _).mono ?_
  rintro e w4 ⟨rfl, hb4⟩
  rw [kinds_fit]
  have H4 := Lib.hid (And.intro (H3.out.1.trans (hb4.mono H3.out.1.size)) (And.intro ((H3.out.2.1.below hb4).mono hb4.size) ((H3.out.2.2.1.below hb4).mono hb4.size)))
  clear hb4 H3
  generalize fitsB typ kind = b
  have hbb : (b == b) = true := by simp
  go_wp2_with fail
  refine (eqCl_any H4.out.2.1 H4.out.2.2).mono ?_
  rintro e w5 ⟨rfl, hb5⟩
  have hd : decide (cs = cs) = true := decide_eq_true rfl
  rw [hd]
  have H5 := Lib.hid (H4.out.1.trans (hb5.mono H4.out.1.size))
  clear hb5 H4
  go_wp2_with fail
  go_ret
  exact ⟨rfl, H5.out⟩

theorem hcalls_own : ownKnob Try.prog.godebug = none := by kernel_rfl

set_option maxRecDepth 100000 in
theorem hcalls_lifted (os : Os) (started : os.Started) (H : Type) (enc : TypeId × Value → H) :
    ReturnsInHanded {} Try.checked os 3 .any (Rows.historyCallsSpec.pre6 enc Try.prog Try.f3 Rows.historyCallsRow.domain false) (Rows.historyCallsSpec.post enc Try.prog Try.f3 false true false false) := by
  refine returnsInHanded_of_change (C := Try.checked) hcalls_own started (by kernel_rfl) Try.func3
    (ChangeSpec.witness6 (enc := enc) (C := Try.checked) false ⟨#[], #[.slice none 0 0, .slice none 0 0, .int .i64 0, .int .i64 0], []⟩ 8 (by kernel_rfl) (by kernel_rfl) (by kernel_rfl) (by kernel_rfl)) ?_
  intro W base args ds gs before hval0 hW hcnd _
  have hval : ∀ (j : Nat) t v, Try.f3.params[j]? = some t → args[j]? = some v → Value.okWide Try.prog W .any base t v := hval0
  have hW' := hW
  have hlt := hW.lt
  obtain ⟨p, q, hA0, hV, rfl, hfz, hnd⟩ := hW
  have hA : DataW.TrodAll enc Try.prog W 0 (fun _ => true) true Try.f3.params.toList args.toList ds p := hA0
  rw [Try.params3] at hA hval
  obtain ⟨v0, v1, v2, v3, d0, d1, d2, d3, p0, p1, p2, p3, rfl, rfl, rfl, h0, h1, h2, h3⟩ := trodAll_four hA
  obtain ⟨rfl, rfl⟩ := trodVars_none hV
  obtain ⟨ts, hT⟩ := open_nums (hval 0 22 v0 rfl rfl) h0
  obtain ⟨l, hL⟩ := open_evs (hval 1 23 v1 rfl rfl) h1
  obtain ⟨i, rfl, rfl, rfl, wi⟩ := open_int Try.underlying3 (hval 2 3 v2 rfl rfl) h2
  obtain ⟨j, rfl, rfl, rfl, wj⟩ := open_int Try.underlying3 (hval 3 3 v3 rfl rfl) h3
  clear hA0 hval0
  simp only [List.append_nil] at hW' hlt
  refine (hcalls_any hT hL i j).mono fun e W' ⟨he, hb⟩ => ?_
  subst he
  refine ⟨_, rfl, end_of_below (pa := p0 ++ p1) (pv := []) hW' hb (by simp) (fun _ _ _ => ?_) (fun sp hsp => ?_) (fun _ _ => rfl) (ok_one (by kernel_rfl) rfl (okWide_bool_mk Try.underlying4 _))⟩
  · exact trodAll_mk1 (shut_bool Try.underlying4 _)
  · have hk0 := WideElems.Trod_stays laidOutIt (by kernel_rfl) (of_decide_eq_true (by kernel_rfl)) h0 (fun x hx => hb.same (hlt x (List.mem_append.2 (.inl hx)))) (fun x hx => hsp x (List.mem_append.2 (.inl hx)))
    have hk1 := WideElems.Trod_stays laidOutIt (by kernel_rfl) (of_decide_eq_true (by kernel_rfl)) h1 (fun x hx => hb.same (hlt x (List.mem_append.2 (.inr hx)))) (fun x hx => hsp x (List.mem_append.2 (.inr hx)))
    have := trodAll_mk4 hk0 hk1 (shut_int Try.underlying3 wi) (shut_int Try.underlying3 wj)
    simp only [List.append_nil] at this
    exact this

theorem hcalls_over : Rows.historyCallsRow.holds Try.pinned (OpenSpec.ofChange Rows.historyCallsSpec) :=
  OpenClaim.holds_of_wide 3 Try.f3 rfl rfl rfl rfl rfl rfl rfl ⟨rfl, rfl, rfl, rfl, rfl⟩ rfl rfl rfl rfl rfl (by kernel_rfl) Try.func3 (by kernel_rfl)
    (of_decide_eq_true (by kernel_rfl)) (by unfold Func.isWrapper; first | (rw [if_pos (by decide +kernel)]; kernel_rfl) | (rw [if_neg (by decide +kernel)]; exact ⟨rfl, rfl⟩))
    (fun os started H enc _ => hcalls_lifted os started H enc)

/-- ████ THE STATEMENT ████ -/
theorem hcalls_holds : Rows.HistoryCallsSaid :=
  hcalls_over
#print axioms hcalls_holds
end Go.Proofs.Ytndcgliopckllaa
