/-
  A slice of spans as an argument.
-/
import Derived.Test.YtfjanniojphdoaaDoorSpMeets
import Derived.Test.YtfjanniojphdoaaDoorRows
import Derived.Carry
import Derived.Deep.SlicePairs
import Derived.OpenShut
import Derived.ProofKit
namespace Go.Proofs.YtfjanniojphdoaaDoor
open Go.RowKit Go.ChangeShapes Go.WideShapes Go.ChangeAt
set_option maxRecDepth 20000

theorem span_shape : ∃ f0 f1, Tryd.prog.underlying 54 = some (.struct #[f0, f1]) ∧ f0.type = 3 ∧ f0.offset = 0 ∧ f1.type = 3 ∧ f1.offset = 1 := ⟨_, _, Tryd.underlying54, rfl, rfl, rfl, rfl⟩
theorem laidOutIt : laidOutB Tryd.prog = true := by kernel_rfl
theorem cells_span : Tryd.prog.cellsOf 54 = 2 := by kernel_rfl
theorem cells_i64 : Tryd.prog.cellsOf 3 = 1 := by kernel_rfl

theorem cell_lt {w : World} {p : Addr} {v : Value} (h : w.cell? p = some v) : p.block < w.heap.size := by
  unfold World.cell? at h
  rcases Nat.lt_or_ge p.block w.heap.size with h1 | h1
  · exact h1
  · rw [Array.getElem?_eq_none h1] at h
    simp at h

section
variable {H : Type} {enc : TypeId × Value → H}
theorem open_spans {w : World} {r : Reach} {b0 : Nat} {v : Value} {d : DataW H} {p : List MemPlace} (hv : Value.okWide Tryd.prog w r b0 48 v) (h : DataW.Trod enc Tryd.prog w 0 (fun _ => true) true 48 v d p) :
    ∃ m F T, SRd w w.heap.size v m F T := by
  obtain ⟨A, len, cap, rfl⟩ := okWide_slice Tryd.underlying48 hv
  obtain ⟨fuel, hf⟩ := h
  obtain ⟨f0, f1, hs, t0, o0, t1, o1⟩ := span_shape
  rcases Deep.open_slice_pairs Tryd.underlying48 hs cells_span o0 o1 (by rw [t0]; exact cells_i64) (by rw [t1]; exact cells_i64) hf with ⟨hc, hx⟩ | ⟨a, len', cap', m, k, V0, V1, D0, D1, P0, P1, hc, _, hl, hm, hmm, hx, hall⟩
  · simp only [Value.cells, List.cons.injEq, Value.slice.injEq, and_true] at hc
    obtain ⟨rfl, rfl, rfl⟩ := hc
    exact ⟨0, fun _ => 0, fun _ => 0, none, 0, rfl, fun h0 => by omega⟩
  · simp only [Value.cells, List.cons.injEq, Value.slice.injEq, and_true] at hc
    obtain ⟨rfl, rfl, rfl⟩ := hc
    simp only [if_true] at hmm
    subst hmm
    have key : ∀ i, i < len → ∃ q : Int × Int, w.cell? (a.add (i * 2)) = some (.int .i64 q.1) ∧ w.cell? (a.add (i * 2 + 1)) = some (.int .i64 q.2) := by
      intro i hi
      obtain ⟨h1, h2, h3, h4⟩ := hall i (by omega)
      rw [t0] at h3
      rw [t1] at h4
      obtain ⟨x, e1, -, -⟩ := DataW.trod_int Tryd.underlying3 h3
      obtain ⟨y, e2, -, -⟩ := DataW.trod_int Tryd.underlying3 h4
      simp only [List.cons.injEq, and_true] at e1 e2
      rw [e1] at h1
      rw [e2] at h2
      exact ⟨(x, y), h1, h2⟩
    obtain ⟨q, hq⟩ := Deep.choose_lt key
    refine ⟨len, fun i => (q i).1, fun i => (q i).2, some a, _, rfl, fun h0 => ?_⟩
    obtain ⟨g, o, spot⟩ := a
    have hspot : spot = none := by simpa [Addr.add] using World.cell?_spot (hq 0 h0).1
    subst hspot
    exact ⟨g, o, rfl, cell_lt (hq 0 h0).1, fun j hj => ⟨by have h1 := (hq j hj).1; rwa [add_plain] at h1, by have h1 := (hq j hj).2; rwa [add_plain, ← Nat.add_assoc] at h1⟩⟩
end
end Go.Proofs.YtfjanniojphdoaaDoor
