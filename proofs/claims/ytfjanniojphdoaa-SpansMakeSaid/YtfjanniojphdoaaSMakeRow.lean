/-
  PROVED HERE: whatever relation is handed in, the law SpansMake answers true and leaves its argument as it was. No condition.
-/
import Derived.Test.YtfjanniojphdoaaSMake
import Derived.Test.YtfjanniojphdoaaRelArg
import Derived.Test.YtfjanniojphdoaaEnd
namespace Go.Proofs.Ytfjanniojphdoaa
open Go.RowKit Go.ChangeShapes Go.WideShapes Go.ChangeAt
set_option maxRecDepth 20000

theorem smake_own : ownKnob Try.prog.godebug = none := by kernel_rfl

set_option maxRecDepth 100000 in
theorem smake_lifted (os : Os) (started : os.Started) (H : Type) (enc : TypeId × Value → H) :
    ReturnsInHanded {} Try.checked os 4 .any (Rows.spansMakeSpec.pre6 enc Try.prog Try.f4 Rows.spansMakeRow.domain false) (Rows.spansMakeSpec.post enc Try.prog Try.f4 false true false false) := by
  refine returnsInHanded_of_change (C := Try.checked) smake_own started (by kernel_rfl) Try.func4
    (ChangeSpec.witness6 (enc := enc) (C := Try.checked) false ⟨#[], #[relV 0 fun _ => 0], []⟩ 8 (by kernel_rfl) (by kernel_rfl) (by kernel_rfl) (by kernel_rfl)) ?_
  intro W base args ds gs before hval0 hW hcnd _
  have hval : ∀ (j : Nat) t v, Try.f4.params[j]? = some t → args[j]? = some v → Value.okWide Try.prog W .any base t v := hval0
  have hW' := hW
  obtain ⟨p, q, hA0, hV, rfl, hfz, hnd⟩ := hW
  have hA : DataW.TrodAll enc Try.prog W 0 (fun _ => true) true Try.f4.params.toList args.toList ds p := hA0
  rw [Try.params4] at hA hval
  obtain ⟨v0, d0, rfl, rfl, h0⟩ := trodAll_one hA
  obtain ⟨rfl, rfl⟩ := trodVars_none hV
  obtain ⟨n, a, rfl, rfl, rfl, wn, wa⟩ := open_rel (hval 0 26 v0 rfl rfl) h0
  clear hA0 hval0
  simp only [List.append_nil] at hW'
  refine (smake_any n a W wa).mono fun e W' ⟨he, hb⟩ => ?_
  subst he
  refine ⟨_, rfl, end_of_below (pa := []) (pv := []) hW' hb rfl (fun _ _ _ => ?_) (fun _ _ => ?_) (fun _ _ => rfl) (ok_one (by kernel_rfl) rfl (okWide_bool_mk Try.underlying4 _))⟩
  · exact trodAll_mk1 (shut_bool Try.underlying4 _)
  · exact trodAll_mk1 (shut_rel wn wa)

theorem smake_over : Rows.spansMakeRow.holds Try.pinned (OpenSpec.ofChange Rows.spansMakeSpec) :=
  OpenClaim.holds_of_wide 4 Try.f4 rfl rfl rfl rfl rfl rfl rfl ⟨rfl, rfl, rfl, rfl, rfl⟩ rfl rfl rfl rfl rfl (by kernel_rfl) Try.func4 (by kernel_rfl)
    (of_decide_eq_true (by kernel_rfl)) (by unfold Func.isWrapper; first | (rw [if_pos (by decide +kernel)]; kernel_rfl) | (rw [if_neg (by decide +kernel)]; exact ⟨rfl, rfl⟩))
    (fun os started H enc _ => smake_lifted os started H enc)

/-- ████ THE STATEMENT ████ -/
theorem smake_holds : Rows.SpansMakeSaid :=
  smake_over
#print axioms smake_holds
end Go.Proofs.Ytfjanniojphdoaa
