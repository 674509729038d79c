/-
  append of what is done: any slice of such behind a row of one's own; slices.Clone over such.
-/
import Derived.Test.YtebcnhnkpmbgdabObjPlay
import Derived.Test.YtebcnhnkpmbgdabAppRow
import Derived.Deep.DeepAppendWide
import Derived.Lib.AppendZeros
import Derived.Lib.SliceRun
namespace Go.Proofs.Ytebcnhnkpmbgdab
open Go.RowKit
set_option maxRecDepth 20000

/-- A slice of the call's own (in blocks from B on) that holds these. -/
def DOwn (w : World) (B : Nat) (v : Value) (l : List Dd) : Prop := w.ownsRow B 24 3 v l.length (l.flatMap ddCs)
theorem DOwn.rd {w : World} {B : Nat} {v : Value} {l : List Dd} (h : DOwn w B v l) : DRd w w.heap.size v l := LRd.of_own (fun _ => rfl) h
theorem DOwn.nil (w : World) (B : Nat) : DOwn w B (.slice none 0 0) [] := World.ownsRow_nil _ _ _ _
theorem DOwn.below {w w' : World} {B : Nat} {v : Value} {l : List Dd} (h : DOwn w B v l) (hb : Below w.heap.size w w') : DOwn w' B v l := by
  refine ⟨h.1, h.2.elim (fun h => .inl h) fun ⟨g, cap, cur, h1, h2, h3, h4, h5, h6, h7⟩ => .inr ⟨g, cap, cur, h1, h2, ?_, h4, h5, h6, h7⟩⟩
  rw [hb.block g (Array.getElem?_eq_some_iff.1 h3).1]
  exact h3
theorem DOwn.alloc {w : World} {B : Nat} {v : Value} {l : List Dd} (h : DOwn w B v l) (o : Obj) : DOwn (w.alloc o) B v l := h.below ((Below.refl _ _).alloc (Nat.le_refl _) o)
theorem info_dd : (Try.prog.info? 24).map (fun i => (i.zero, i.size, i.bytes)) = some (some (.agg #[.int .i64 0, .int .i64 0, .int .i64 0]), 3, 24) := by kernel_rfl

theorem run_app_dds {W : World} {base n cap : Nat} {v : Value} {A : Option Addr} {l ys : List Dd} {B : Nat} (ty : TypeId) (hown : DOwn W base v l) (hr : DRd W B (.slice A n cap) ys) (hlen : ((l.length + ys.length) + (l.length + ys.length) / 4 + 192) * 24 ≤ 281474976710656) (hbase : base ≤ W.heap.size) (hA : A ≠ none) :
    ∃ v' w', (Builtin.append_ #[22, 22] ty #[v, .slice A n cap]).run Try.prog W = .ok v' w' ∧ DOwn w' base v' (l ++ ys) ∧ Below base W w' := by
  obtain ⟨i0, hi, hz0, hz1, hz2⟩ := info_of info_dd
  have hl := World.ownsRow.lt hown
  obtain ⟨A', cap', he, m1, m2, hc⟩ := hr
  injection he with e1 e2 e3
  subst e1 e2 e3
  cases A with
  | none => exact absurd rfl hA
  | some a =>
    have hlf : (ys.flatMap ddCs).length = ys.length * 3 := flat_len (f := ddCs) (s := 3) (fun _ => rfl) ys
    obtain ⟨v', w', hr, h2, h3, _⟩ := run_append_own_wide (P := Try.prog) W base 22 ty 24 i0 (.agg #[.int .i64 0, .int .i64 0, .int .i64 0]) 3 24 Try.underlying22 hi hz0 hz1 hz2 rfl (by decide) v l.length (l.flatMap ddCs) hown
      a ys.length cap (ys.flatMap ddCs) hlf (fun j u hu => by
        have hj := (List.getElem?_eq_some_iff.1 hu).1
        rw [hlf] at hj
        obtain ⟨g, o, ha, _, hcell⟩ := hc (by omega)
        injection ha with ha
        subst ha
        have hx := List.getElem?_eq_getElem (show j / 3 < ys.length by omega)
        have hm : j % 3 < (ddCs ys[j / 3]).length := by show j % 3 < 3; omega
        have hf := flat_at (l := ys) (f := ddCs) (s := 3) (fun _ => rfl) hx (List.getElem?_eq_getElem hm)
        have e : j / 3 * 3 + j % 3 = j := by omega
        rw [e, hu] at hf
        have := hcell (j / 3) _ hx (j % 3) _ ((List.getElem?_eq_getElem hm).trans hf.symm)
        rw [Addr.add_lit]
        rw [Nat.add_assoc, e] at this
        exact this) (fun u hu => by
        rw [List.mem_flatMap] at hu
        obtain ⟨x, _, hx⟩ := hu
        simp only [List.mem_cons, List.not_mem_nil, or_false] at hx
        rcases hx with rfl | rfl | rfl <;> rfl) (by unfold maxLen; omega) hlen hbase
    refine ⟨v', w', hr, ?_, (Below.refl base W).grown h3 hbase (fun k hk => (hl k hk).1)⟩
    unfold DOwn
    rw [List.length_append, List.flatMap_append]
    exact h2

theorem step_run_app {W : World} {ops : Array Oper} {o : Oper} {a : Act} {K : Act → World → Prop} {Q : Exit → Act → World → Prop} {E : Prop} (hgd : o.guard = none) (s x : Operand) (t tn : TypeId)
    (ho : o.op = .call { callee := .builtin .append, args := #[s, x], argTypes := #[t, tn] }) (vs vx : Value) (hs : a.eval s = vs) (hx : a.eval x = vx)
    (v' : Value) (w' : World) (hr : (Builtin.append_ #[t, tn] o.type #[vs, vx]).run Try.prog W = .ok v' w') (h : K (a.put o.dst v') w') :
    if Region.wanted o (yielded ops a.tmps) = true then Oper.wp Try.prog o a W K Q else E := by
  have hw : Region.wanted o (yielded ops a.tmps) = true := by simp [Region.wanted, hgd]
  rw [if_pos hw]
  exact Lib.wp_append_run W s x t tn ho vs vx hs hx v' w' hr h

set_option maxHeartbeats 1000000 in
theorem cloneD_any {v : Value} {l : List Dd} {w : World} (h : DRd w w.heap.size v l) (hbig : l.length * 24 ≤ 140737488355328) :
    Calls Try.prog 7 #[v] w fun e w' => ∃ v', e = .returned v' ∧ DOwn w' w.heap.size v' l ∧ Below w.heap.size w w' := by
  obtain ⟨A, cap, rfl, m1, m2⟩ := h.is
  have hq := fun (W : World) (a : Option Addr) (n cap : Nat) => Lib.run_eql_slice_nil (P := Try.prog) W 22 24 a n cap 0 0 Try.underlying22
  cases A with
  | none =>
    have hl : l = [] := by
      apply List.length_eq_zero_iff.1
      apply Classical.byContradiction
      intro hp
      obtain ⟨A', cap', hv, h1, h2, h3⟩ := h
      injection hv with e1 e2 e3
      subst e1
      obtain ⟨g, o, hA, _⟩ := h3 (by omega)
      cases hA
    subst hl
    go_enter Try.func7, Try.ntmps7
    go_wp2
    go_ret
    exact ⟨_, rfl, DOwn.nil _ _, Below.refl _ _⟩
  | some a =>
    have hempty : DOwn (w.alloc (.cells #[] 24)) w.heap.size (.slice (some ⟨w.heap.size, 0, none⟩) 0 0) [] := ⟨rfl, .inr ⟨w.heap.size, 0, #[], rfl, Nat.le_refl _, heap_alloc_new w _, Nat.le_refl _, by unfold maxLen; omega, rfl, rfl⟩⟩
    have hr1 : DRd (w.alloc (.cells #[] 24)) w.heap.size (.slice (some a) l.length cap) l := h.below ((Below.refl _ _).alloc (Nat.le_refl _) _)
    obtain ⟨v1, w1, hrun, ho1, hb1⟩ := run_app_dds 22 hempty hr1 (by simp; omega) (by simp) (by simp)
    rw [List.nil_append] at ho1
    have HO := Lib.hid (And.intro ho1 (((Below.refl w.heap.size w).alloc (Nat.le_refl _) (.cells #[] 24)).trans hb1))
    have HRUN := Lib.hid hrun
    clear hempty hr1 h ho1 hb1 hrun
    go_enter Try.func7, Try.ntmps7
    go_wp2_with (at_builtin; refine Lib.wpList_append_run _ rfl (.tmp 5) (.tmp 6) _ _ rfl _ _ rfl rfl v1 w1 HRUN.out ?_)
    go_ret
    exact ⟨v1, rfl, HO.out⟩
end Go.Proofs.Ytebcnhnkpmbgdab
