/-
  What is done, as an argument of a law: by value, and in a slice.
-/
import Derived.Test.YtebcnhnkpmbgdabObjPlay
import Derived.Test.YtebcnhnkpmbgdabHistArg
namespace Go.Proofs.Ytebcnhnkpmbgdab
open Go.RowKit Go.ChangeShapes Go.WideShapes Go.ChangeAt
set_option maxRecDepth 20000

theorem ddShape : ∃ f0 f1 f2, Try.prog.underlying 24 = some (.struct #[f0, f1, f2]) ∧ (f0.type = 3 ∧ f0.offset = 0) ∧ (f1.type = 3 ∧ f1.offset = 1) ∧ (f2.type = 3 ∧ f2.offset = 2) :=
  ⟨_, _, _, Try.underlying24, ⟨rfl, rfl⟩, ⟨rfl, rfl⟩, rfl, rfl⟩
theorem ddSize : Try.prog.cellsOf 24 = 3 := by kernel_rfl
abbrev ddV (d : Dd) : Value := .agg #[.int .i64 d.kind, .int .i64 d.arg, .int .i64 d.res]

section
variable {H : Type} {enc : TypeId × Value → H}
theorem open_dds {w : World} {r : Reach} {b0 : Nat} {v : Value} {d : DataW H} {p : List MemPlace} (hv : Value.okWide Try.prog w r b0 22 v) (h : DataW.Trod enc Try.prog w 0 (fun _ => true) true 22 v d p) : ∃ l, DRd w w.heap.size v l :=
  open_list Try.underlying22 ddSize (by decide) (fun _ => rfl) (fun fuel cs x h => by
    obtain ⟨f0, f1, f2, hs, ⟨t0, o0⟩, ⟨t1, o1⟩, t2, o2⟩ := ddShape
    obtain ⟨xs, n, _, _, hlen, hxl, hg⟩ := DataW.trod_struct hs h
    rw [ddSize] at hlen
    have hxl' : xs.length = 3 := hxl
    have g0 := hg 0 f0 rfl
    have g1 := hg 1 f1 rfl
    have g2 := hg 2 f2 rfl
    rw [t0, o0, intSize, List.getElem?_eq_getElem (by omega)] at g0
    rw [t1, o1, intSize, List.getElem?_eq_getElem (by omega)] at g1
    rw [t2, o2, intSize, List.getElem?_eq_getElem (by omega)] at g2
    obtain ⟨n0, e0, _, _⟩ := DataW.trod_int Try.underlying3 g0
    obtain ⟨n1, e1, _, _⟩ := DataW.trod_int Try.underlying3 g1
    obtain ⟨n2, e2, _, _⟩ := DataW.trod_int Try.underlying3 g2
    match cs, hlen, e0, e1, e2 with
    | [c0, c1, c2], _, e0, e1, e2 =>
      simp at e0 e1 e2
      subst e0 e1 e2
      exact ⟨⟨n0, n1, n2⟩, rfl⟩) hv h

def ddD (d : Dd) : DataW H := .agg [.lit (.int .i64 d.kind), .lit (.int .i64 d.arg), .lit (.int .i64 d.res)]
def DdFits (d : Dd) : Prop := (Lit.int .i64 d.kind).wf = true ∧ (Lit.int .i64 d.arg).wf = true ∧ (Lit.int .i64 d.res).wf = true
theorem open_dd {w : World} {base : Nat} {spare : Nat → Bool} {held : Bool} {r : Reach} {b0 : Nat} {v : Value} {d : DataW H} {p : List MemPlace} (hv : Value.okWide Try.prog w r b0 24 v) (h : DataW.Trod enc Try.prog w base spare held 24 v d p) :
    ∃ x : Dd, v = ddV x ∧ d = ddD x ∧ p = [] ∧ DdFits x := by
  obtain ⟨f0, f1, f2, hs, ⟨t0, o0⟩, ⟨t1, o1⟩, t2, o2⟩ := ddShape
  obtain ⟨cs, rfl, hsz⟩ := okWide_struct hs hv
  obtain ⟨l⟩ := cs
  obtain ⟨fuel, hf⟩ := h
  obtain ⟨xs, m, _, hx, hl, hlen, hg⟩ := DataW.trod_struct hs hf
  have hll : l.length = 3 := hsz.trans ddSize
  have hxl' : xs.length = 3 := hlen
  have g0 := hg 0 f0 rfl
  have g1 := hg 1 f1 rfl
  have g2 := hg 2 f2 rfl
  rw [t0, o0, intSize, List.getElem?_eq_getElem (by omega)] at g0
  rw [t1, o1, intSize, List.getElem?_eq_getElem (by omega)] at g1
  rw [t2, o2, intSize, List.getElem?_eq_getElem (by omega)] at g2
  obtain ⟨n0, e0, x0, w0⟩ := DataW.trod_int Try.underlying3 g0
  obtain ⟨n1, e1, x1, w1⟩ := DataW.trod_int Try.underlying3 g1
  obtain ⟨n2, e2, x2, w2⟩ := DataW.trod_int Try.underlying3 g2
  have x0' : xs[0]? = some (.lit (.int .i64 n0), []) := by rw [List.getElem?_eq_getElem (by omega), x0]
  have x1' : xs[1]? = some (.lit (.int .i64 n1), []) := by rw [List.getElem?_eq_getElem (by omega), x1]
  have x2' : xs[2]? = some (.lit (.int .i64 n2), []) := by rw [List.getElem?_eq_getElem (by omega), x2]
  clear x0 x1 x2 g0 g1 g2 hg hf hv hsz hl hlen
  refine ⟨⟨n0, n1, n2⟩, ?_⟩
  match l, hll, e0, e1, e2 with
  | [c0, c1, c2], _, e0, e1, e2 =>
    match xs, hxl', x0', x1', x2' with
    | [y0, y1, y2], _, x0, x1, x2 =>
      simp [Value.cells] at e0 e1 e2 x0 x1 x2
      subst e0 e1 e2 x0 x1 x2
      simp only [Prod.mk.injEq] at hx
      obtain ⟨rfl, rfl⟩ := hx
      exact ⟨rfl, by simp [ddD], by simp, w0, w1, w2⟩
theorem shut_dd {w : World} {base : Nat} {spare : Nat → Bool} {held : Bool} {x : Dd} (hx : DdFits x) : DataW.Trod enc Try.prog w base spare held 24 (ddV x) (ddD x) [] := by
  obtain ⟨h0, h1, h2⟩ := hx
  refine ⟨3, ?_⟩
  simp [DataW.trod, Value.cells, Try.underlying24, Try.underlying3, ddSize, intSize, h0, h1, h2, ddD]
end
end Go.Proofs.Ytebcnhnkpmbgdab
