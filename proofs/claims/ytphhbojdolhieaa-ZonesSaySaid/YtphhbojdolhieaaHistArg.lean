/-
  Slices of numbers, of events, of calls as arguments of a law.
-/
import Derived.Test.YtphhbojdolhieaaLRd
import Derived.Test.YtphhbojdolhieaaRows
import Derived.Carry
import Derived.Deep.Slices
import Derived.OpenShut
import Derived.ProofKit
namespace Go.Proofs.Ytphhbojdolhieaa
open Go.RowKit Go.ChangeShapes Go.WideShapes Go.ChangeAt
set_option maxRecDepth 20000
theorem laidOutIt : laidOutB Try.prog = true := by kernel_rfl
theorem evShape : ∃ f0 f1 f2 f3, Try.prog.underlying 55 = some (.struct #[f0, f1, f2, f3]) ∧ (f0.type = 3 ∧ f0.offset = 0) ∧ (f1.type = 3 ∧ f1.offset = 1) ∧ (f2.type = 3 ∧ f2.offset = 2) ∧ (f3.type = 3 ∧ f3.offset = 3) :=
  ⟨_, _, _, _, Try.underlying55, ⟨rfl, rfl⟩, ⟨rfl, rfl⟩, ⟨rfl, rfl⟩, rfl, rfl⟩
theorem evSize : Try.prog.cellsOf 55 = 4 := by kernel_rfl
theorem clSize : Try.prog.cellsOf 47 = 7 := by kernel_rfl
theorem intSize : Try.prog.cellsOf 3 = 1 := by kernel_rfl
theorem cell_in {w : World} {p : Addr} {v : Value} (h : w.cell? p = some v) : p.block < w.heap.size := World.block_lt_of_cell? w p h
theorem plus_plain (g o j : Nat) : (⟨g, o, none⟩ : Addr).add j = ⟨g, o + j, none⟩ := WideShapes.add_plain g o j
section
variable {H : Type} {enc : TypeId × Value → H} {α : Type} {s : Nat} {f : α → List Value}
/-- A slice whose elements read each as one of α reads as a list of these. -/
theorem open_list {t e : TypeId} (ht : Try.prog.underlying t = some (.slice e)) (hs : Try.prog.cellsOf e = s) (hs0 : 0 < s) (hf : ∀ x, (f x).length = s) {w : World} {r : Reach} {b0 : Nat} {v : Value} {d : DataW H} {p : List MemPlace}
    (key : ∀ (fuel : Nat) (cs : List Value) (x : DataW H × List MemPlace), DataW.trod enc Try.prog w 0 (fun _ => true) true fuel e cs = some x → ∃ y : α, cs = f y)
    (hv : Value.okWide Try.prog w r b0 t v) (h : DataW.Trod enc Try.prog w 0 (fun _ => true) true t v d p) : ∃ l : List α, LRd s f w w.heap.size v l := by
  obtain ⟨A, len, cap, rfl⟩ := okWide_slice ht hv
  obtain ⟨fuel, hfu⟩ := h
  rcases Deep.open_slice ht hfu with ⟨hc, _⟩ | ⟨a, len', cap', m, n, D, Pl, hc, _, hl, hm, hmm, _, hi⟩
  · simp only [Value.cells, List.cons.injEq, Value.slice.injEq, and_true] at hc
    obtain ⟨rfl, rfl, rfl⟩ := hc
    exact ⟨[], LRd.nil _ _⟩
  · simp only [Value.cells, List.cons.injEq, Value.slice.injEq, and_true] at hc
    obtain ⟨rfl, rfl, rfl⟩ := hc
    rw [hs] at hi
    have hlm : len ≤ m := by rw [hmm]; split <;> omega
    have each : ∀ i, i < len → ∃ y : α, ∀ j u, (f y)[j]? = some u → w.cell? (a.add (i * s + j)) = some u := by
      intro i hil
      obtain ⟨cs, hcs, htr⟩ := hi i (by omega)
      obtain ⟨_, hlen, hcell⟩ := World.cells?_some hcs
      obtain ⟨y, rfl⟩ := key _ _ _ htr
      refine ⟨y, fun j u hu => ?_⟩
      have hj : j < s := by rw [← hf y]; exact (List.getElem?_eq_some_iff.1 hu).1
      have := hcell j hj
      rw [Deep.add_add] at this
      rw [this, hu]
    have pick : ∃ l : List α, l.length = len ∧ ∀ k x, l[k]? = some x → ∀ j u, (f x)[j]? = some u → w.cell? (a.add (k * s + j)) = some u := by
      have all : ∀ q, q ≤ len → ∃ l : List α, l.length = q ∧ ∀ k x, l[k]? = some x → ∀ j u, (f x)[j]? = some u → w.cell? (a.add (k * s + j)) = some u := by
        intro q
        induction q with
        | zero => intro _; exact ⟨[], rfl, fun k x h => by simp at h⟩
        | succ q ih =>
          intro hq
          obtain ⟨l, hl1, hl2⟩ := ih (by omega)
          obtain ⟨y, hy⟩ := each q (by omega)
          refine ⟨l ++ [y], by simp [hl1], fun k x hk => ?_⟩
          rw [List.getElem?_append] at hk
          split at hk
          · exact hl2 k x hk
          · have hkq : k = q := by
              have := (List.getElem?_eq_some_iff.1 hk).1
              simp at this
              omega
            subst hkq
            rw [hl1, Nat.sub_self] at hk
            injection hk with hk
            subst hk
            exact hy
      exact all len (Nat.le_refl _)
    obtain ⟨l, hl1, hl2⟩ := pick
    subst hl1
    refine ⟨l, some a, cap, rfl, hl, hm, fun h0 => ?_⟩
    obtain ⟨g, o, spot⟩ := a
    have h00 : ∃ u, (f l[0])[0]? = some u := ⟨_, List.getElem?_eq_getElem (by rw [hf]; exact hs0)⟩
    obtain ⟨u, hu⟩ := h00
    have h1 := hl2 0 l[0] (List.getElem?_eq_getElem h0) 0 u hu
    have hspot : spot = none := by simpa [Addr.add] using World.cell?_spot h1
    subst hspot
    have hg := cell_in h1
    rw [plus_plain] at hg
    refine ⟨g, o, rfl, hg, fun k x hk j u hu => ?_⟩
    have := hl2 k x hk j u hu
    rwa [plus_plain, ← Nat.add_assoc] at this
theorem open_nums {w : World} {r : Reach} {b0 : Nat} {v : Value} {d : DataW H} {p : List MemPlace} (hv : Value.okWide Try.prog w r b0 43 v) (h : DataW.Trod enc Try.prog w 0 (fun _ => true) true 43 v d p) : ∃ l, NRd w w.heap.size v l :=
  open_list Try.underlying43 intSize (by decide) (fun _ => rfl) (fun fuel cs x h => by
    obtain ⟨n, h1, _, _⟩ := DataW.trod_int Try.underlying3 h
    exact ⟨n, h1⟩) hv h
theorem open_evs {w : World} {r : Reach} {b0 : Nat} {v : Value} {d : DataW H} {p : List MemPlace} (hv : Value.okWide Try.prog w r b0 22 v) (h : DataW.Trod enc Try.prog w 0 (fun _ => true) true 22 v d p) : ∃ l, ERd w w.heap.size v l :=
  open_list Try.underlying22 evSize (by decide) (fun _ => rfl) (fun fuel cs x h => by
    obtain ⟨f0, f1, f2, f3, hs, ⟨t0, o0⟩, ⟨t1, o1⟩, ⟨t2, o2⟩, t3, o3⟩ := evShape
    obtain ⟨xs, n, _, _, hlen, hxl, hg⟩ := DataW.trod_struct hs h
    rw [evSize] at hlen
    have hxl' : xs.length = 4 := hxl
    have g0 := hg 0 f0 rfl
    have g1 := hg 1 f1 rfl
    have g2 := hg 2 f2 rfl
    have g3 := hg 3 f3 rfl
    rw [t0, o0, intSize, List.getElem?_eq_getElem (by omega)] at g0
    rw [t1, o1, intSize, List.getElem?_eq_getElem (by omega)] at g1
    rw [t2, o2, intSize, List.getElem?_eq_getElem (by omega)] at g2
    rw [t3, o3, intSize, List.getElem?_eq_getElem (by omega)] at g3
    obtain ⟨n0, e0, _, _⟩ := DataW.trod_int Try.underlying3 g0
    obtain ⟨n1, e1, _, _⟩ := DataW.trod_int Try.underlying3 g1
    obtain ⟨n2, e2, _, _⟩ := DataW.trod_int Try.underlying3 g2
    obtain ⟨n3, e3, _, _⟩ := DataW.trod_int Try.underlying3 g3
    match cs, hlen, e0, e1, e2, e3 with
    | [c0, c1, c2, c3], _, e0, e1, e2, e3 =>
      simp at e0 e1 e2 e3
      subst e0 e1 e2 e3
      exact ⟨⟨n0, n1, n2, n3⟩, rfl⟩) hv h
end
end Go.Proofs.Ytphhbojdolhieaa
