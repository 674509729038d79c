/-
  PROVED HERE: whatever is handed in, the law ObjectFront answers true and leaves its arguments as they were. No condition.
-/
import Derived.Test.YtebcnhnkpmbgdabOFront
import Derived.Test.YtebcnhnkpmbgdabHistArg
import Derived.Test.YtebcnhnkpmbgdabDdArg
import Derived.Test.YtebcnhnkpmbgdabEnd
import Derived.Test.YtebcnhnkpmbgdabSized
namespace Go.Proofs.Ytebcnhnkpmbgdab
open Go.RowKit Go.ChangeShapes Go.WideShapes Go.ChangeAt
set_option maxRecDepth 20000

theorem objectFront_own : ownKnob Try.prog.godebug = none := by kernel_rfl

set_option maxRecDepth 100000 in
theorem objectFront_lifted (os : Os) (started : os.Started) (H : Type) (enc : TypeId × Value → H) :
    ReturnsInHanded {} Try.checked os 3 .any (Rows.objectFrontSpec.pre6 enc Try.prog Try.f3 Rows.objectFrontRow.domain false) (Rows.objectFrontSpec.post enc Try.prog Try.f3 false true false false) := by
  refine returnsInHanded_of_change_sized (C := Try.checked) objectFront_own started (by kernel_rfl) Try.func3
    (ChangeSpec.witness6 (enc := enc) (C := Try.checked) false ⟨#[], #[.int .i64 0, .slice none 0 0, .agg #[.int .i64 0, .int .i64 0, .int .i64 0]], []⟩ 8 (by kernel_rfl) (by kernel_rfl) (by kernel_rfl) (by kernel_rfl)) ?_
  intro W base args ds gs before hval0 hW hcnd hsz _
  have hval : ∀ (j : Nat) t v, Try.f3.params[j]? = some t → args[j]? = some v → Value.okWide Try.prog W .any base t v := hval0
  have hW' := hW
  have hlt := hW.lt
  obtain ⟨p, q, hA0, hV, rfl, hfz, hnd⟩ := hW
  have hA : DataW.TrodAll enc Try.prog W 0 (fun _ => true) true Try.f3.params.toList args.toList ds p := hA0
  rw [Try.params3] at hA hval hsz
  obtain ⟨v0, v1, v2, d0, d1, d2, p0, p1, p2, rfl, rfl, rfl, h0, h1, h2⟩ := trodAll_three hA
  obtain ⟨rfl, rfl⟩ := trodVars_none hV
  obtain ⟨i0, rfl, rfl, rfl, wi0⟩ := open_int Try.underlying3 (hval 0 3 v0 rfl rfl) h0
  obtain ⟨l1, hL1⟩ := open_dds (hval 1 22 v1 rfl rfl) h1
  obtain ⟨x2, rfl, rfl, rfl, wx2⟩ := open_dd (hval 2 24 v2 rfl rfl) h2
  have hz1 := sized_list hsz (j := 1) (t := 22) (e := 24) rfl rfl Try.underlying22 h1 hL1
  rw [show Try.prog.bytesOf 24 = 24 by kernel_rfl] at hz1
  clear hA0 hval0
  simp only [List.append_nil] at hW' hlt
  refine (ofront_any i0 hL1 x2 (by have := reachBytes_lt; omega)).mono fun e W' ⟨he, hb⟩ => ?_
  subst he
  refine ⟨_, rfl, end_of_below (pa := p1) (pv := []) hW' hb (by simp) (fun _ _ _ => ?_) (fun sp hsp => ?_) (fun _ _ => rfl) (ok_one (by kernel_rfl) rfl (okWide_bool_mk Try.underlying4 _))⟩
  · exact trodAll_mk1 (shut_bool Try.underlying4 _)
  · skip
    have hk1 := WideElems.Trod_stays laidOutIt (by kernel_rfl) (of_decide_eq_true (by kernel_rfl)) h1 (fun x hx => hb.same (hlt x hx)) (fun x hx => hsp x hx)
    have := trodAll_mk3 (shut_int Try.underlying3 wi0) hk1 (shut_dd wx2)
    simp only [List.append_nil] at this ⊢
    exact this

theorem objectFront_over : Rows.objectFrontRow.holds Try.pinned (OpenSpec.ofChange Rows.objectFrontSpec) :=
  OpenClaim.holds_of_wide 3 Try.f3 rfl rfl rfl rfl rfl rfl rfl ⟨rfl, rfl, rfl, rfl, rfl⟩ rfl rfl rfl rfl rfl (by kernel_rfl) Try.func3 (by kernel_rfl)
    (of_decide_eq_true (by kernel_rfl)) (by unfold Func.isWrapper; first | (rw [if_pos (by decide +kernel)]; kernel_rfl) | (rw [if_neg (by decide +kernel)]; exact ⟨rfl, rfl⟩))
    (fun os started H enc _ => objectFront_lifted os started H enc)

/-- ████ THE STATEMENT ████ -/
theorem objectFront_holds : Rows.ObjectFrontSaid :=
  objectFront_over
#print axioms objectFront_holds
end Go.Proofs.Ytebcnhnkpmbgdab
