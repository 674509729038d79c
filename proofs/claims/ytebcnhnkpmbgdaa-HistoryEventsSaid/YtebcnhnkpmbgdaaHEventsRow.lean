/-
  PROVED HERE: whatever is handed in, the law HistoryEvents answers true and leaves its arguments as they were. No condition.
-/
import Derived.Test.YtebcnhnkpmbgdaaHEvents
import Derived.Test.YtebcnhnkpmbgdaaHistArg
import Derived.Test.YtebcnhnkpmbgdaaHistCls
import Derived.Test.YtebcnhnkpmbgdaaEnd
import Derived.Test.YtebcnhnkpmbgdaaSized
namespace Go.Proofs.Ytebcnhnkpmbgdaa
open Go.RowKit Go.ChangeShapes Go.WideShapes Go.ChangeAt
set_option maxRecDepth 20000

theorem historyEvents_own : ownKnob Try.prog.godebug = none := by kernel_rfl

set_option maxRecDepth 100000 in
theorem historyEvents_lifted (os : Os) (started : os.Started) (H : Type) (enc : TypeId × Value → H) :
    ReturnsInHanded {} Try.checked os 3 .any (Rows.historyEventsSpec.pre6 enc Try.prog Try.f3 Rows.historyEventsRow.domain false) (Rows.historyEventsSpec.post enc Try.prog Try.f3 false true false false) := by
  refine returnsInHanded_of_change_sized (C := Try.checked) historyEvents_own started (by kernel_rfl) Try.func3
    (ChangeSpec.witness6 (enc := enc) (C := Try.checked) false ⟨#[], #[.slice none 0 0, .slice none 0 0, .slice none 0 0, .int .i64 0], []⟩ 8 (by kernel_rfl) (by kernel_rfl) (by kernel_rfl) (by kernel_rfl)) ?_
  intro W base args ds gs before hval0 hW hcnd hsz _
  have hval : ∀ (j : Nat) t v, Try.f3.params[j]? = some t → args[j]? = some v → Value.okWide Try.prog W .any base t v := hval0
  have hW' := hW
  have hlt := hW.lt
  obtain ⟨p, q, hA0, hV, rfl, hfz, hnd⟩ := hW
  have hA : DataW.TrodAll enc Try.prog W 0 (fun _ => true) true Try.f3.params.toList args.toList ds p := hA0
  rw [Try.params3] at hA hval hsz
  obtain ⟨v0, v1, v2, v3, d0, d1, d2, d3, p0, p1, p2, p3, rfl, rfl, rfl, h0, h1, h2, h3⟩ := trodAll_four hA
  obtain ⟨rfl, rfl⟩ := trodVars_none hV
  obtain ⟨l0, hL0⟩ := open_cls (hval 0 22 v0 rfl rfl) h0
  obtain ⟨l1, hL1⟩ := open_nums (hval 1 23 v1 rfl rfl) h1
  obtain ⟨l2, hL2⟩ := open_evs (hval 2 24 v2 rfl rfl) h2
  obtain ⟨i3, rfl, rfl, rfl, wi3⟩ := open_int Try.underlying3 (hval 3 3 v3 rfl rfl) h3
  have hz0 := sized_list hsz (j := 0) (t := 22) (e := 70) rfl rfl Try.underlying22 h0 hL0
  rw [show Try.prog.bytesOf 70 = 56 by kernel_rfl] at hz0
  clear hA0 hval0
  simp only [List.append_nil] at hW' hlt
  refine (hevents_any hL0 hL1 hL2 i3 (by have := reachBytes_lt; omega)).mono fun e W' ⟨he, hb⟩ => ?_
  subst he
  refine ⟨_, rfl, end_of_below (pa := p0 ++ p1 ++ p2) (pv := []) hW' hb (by simp) (fun _ _ _ => ?_) (fun sp hsp => ?_) (fun _ _ => rfl) (ok_one (by kernel_rfl) rfl (okWide_bool_mk Try.underlying4 _))⟩
  · exact trodAll_mk1 (shut_bool Try.underlying4 _)
  · skip
    have hk0 := WideElems.Trod_stays laidOutIt (by kernel_rfl) (of_decide_eq_true (by kernel_rfl)) h0 (fun x hx => hb.same (hlt x (List.mem_append.2 (.inl (List.mem_append.2 (.inl hx)))))) (fun x hx => hsp x (List.mem_append.2 (.inl (List.mem_append.2 (.inl hx)))))
    have hk1 := WideElems.Trod_stays laidOutIt (by kernel_rfl) (of_decide_eq_true (by kernel_rfl)) h1 (fun x hx => hb.same (hlt x (List.mem_append.2 (.inl (List.mem_append.2 (.inr hx)))))) (fun x hx => hsp x (List.mem_append.2 (.inl (List.mem_append.2 (.inr hx)))))
    have hk2 := WideElems.Trod_stays laidOutIt (by kernel_rfl) (of_decide_eq_true (by kernel_rfl)) h2 (fun x hx => hb.same (hlt x (List.mem_append.2 (.inr hx)))) (fun x hx => hsp x (List.mem_append.2 (.inr hx)))
    have := trodAll_mk4 hk0 hk1 hk2 (shut_int Try.underlying3 wi3)
    simp only [List.append_nil, List.append_assoc] at this ⊢
    exact this

theorem historyEvents_over : Rows.historyEventsRow.holds Try.pinned (OpenSpec.ofChange Rows.historyEventsSpec) :=
  OpenClaim.holds_of_wide 3 Try.f3 rfl rfl rfl rfl rfl rfl rfl ⟨rfl, rfl, rfl, rfl, rfl⟩ rfl rfl rfl rfl rfl (by kernel_rfl) Try.func3 (by kernel_rfl)
    (of_decide_eq_true (by kernel_rfl)) (by unfold Func.isWrapper; first | (rw [if_pos (by decide +kernel)]; kernel_rfl) | (rw [if_neg (by decide +kernel)]; exact ⟨rfl, rfl⟩))
    (fun os started H enc _ => historyEvents_lifted os started H enc)

/-- ████ THE STATEMENT ████ -/
theorem historyEvents_holds : Rows.HistoryEventsSaid :=
  historyEvents_over
#print axioms historyEvents_holds
end Go.Proofs.Ytebcnhnkpmbgdaa
