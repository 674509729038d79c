/-
  The arguments of a row over package order, opened and shut: a relation by value.
-/
import Derived.Test.YtcpmhflkooipdaaDoorMem
import Derived.Test.YtcpmhflkooipdaaDoorRows
import Derived.ProofKit
import Derived.OpenShut
import Derived.LaidMore
import Derived.Lay
namespace Go.Proofs.YtcpmhflkooipdaaDoor
open Go.ChangeShapes Go.WideShapes Go.ChangeAt Go.RowKit
set_option maxRecDepth 20000

section
variable {H : Type} {enc : TypeId × Value → H} {w : World} {base : Nat} {spare : Nat → Bool} {held : Bool}

/-- A relation's reading. -/
def relD (n : Int) (a : Nat → Nat) : DataW H := .agg [.lit (.int .i64 n), .agg ((List.range 12).map fun i => .lit (.int .u16 (a i)))]

theorem cells_rel : Tryd.prog.cellsOf 25 = 13 := by kernel_rfl
theorem cells_arr : Tryd.prog.cellsOf 23 = 12 := by kernel_rfl
theorem cells_u16 : Tryd.prog.cellsOf 22 = 1 := by kernel_rfl
theorem cells_int : Tryd.prog.cellsOf 3 = 1 := by kernel_rfl
theorem shape_rel : ∃ f0 f1, Tryd.prog.underlying 25 = some (.struct #[f0, f1]) ∧ f0.type = 3 ∧ f0.offset = 0 ∧ f1.type = 23 ∧ f1.offset = 1 := ⟨_, _, Tryd.underlying25, rfl, rfl, rfl, rfl⟩

theorem open_rel {r : Reach} {b0 : Nat} {v : Value} {d : DataW H} {p : List MemPlace} (hv : Value.okWide Tryd.prog w r b0 25 v) (h : DataW.Trod enc Tryd.prog w base spare held 25 v d p) :
    ∃ (n : Int) (a : Nat → Nat), v = relV n a ∧ d = relD n a ∧ p = [] ∧ (Lit.int .i64 n).wf = true ∧ ∀ i, a i < 65536 := by
  obtain ⟨f0, f1, hs, t0, o0, t1, o1⟩ := shape_rel
  obtain ⟨cs, rfl, hsz⟩ := okWide_struct hs hv
  obtain ⟨l⟩ := cs
  obtain ⟨fuel, hf⟩ := h
  obtain ⟨xs, m, _, hx, hl, hlen, hg⟩ := DataW.trod_struct hs hf
  have hll : l.length = 13 := hsz.trans cells_rel
  have g0 := hg 0 f0 rfl
  have g1 := hg 1 f1 rfl
  rw [t0, o0, cells_int] at g0
  rw [t1, o1, cells_arr] at g1
  obtain ⟨n, e0, hx0, hw0⟩ := DataW.trod_int Tryd.underlying3 (g0.trans (List.getElem?_eq_getElem (show 0 < xs.length by rw [hlen]; simp)))
  obtain ⟨ys, m', _, hy, _, hyl, hel⟩ := DataW.trod_array Tryd.underlying23 (g1.trans (List.getElem?_eq_getElem (show 1 < xs.length by rw [hlen]; simp)))
  have key : ∀ i, i < 12 → ∃ z : Nat, z < 65536 ∧ l[i + 1]? = some (.int .u16 (z : Int)) ∧ ys[i]? = some (.lit (.int .u16 (z : Int)), []) := by
    intro i hi
    have g := hel i hi
    rw [cells_u16, Nat.mul_one, List.getElem?_eq_getElem (show i < ys.length by omega)] at g
    obtain ⟨z, e1, e2, e3⟩ := DataW.trod_int Tryd.underlying22 g
    have hb := bounds_u16 e3
    have hz : ((z.toNat : Nat) : Int) = z := by omega
    refine ⟨z.toNat, by omega, ?_, ?_⟩
    · rw [hz]
      have h0 := congrArg (fun t => t[0]?) e1
      have h1 : (l.drop 1)[i]? = some (.int .u16 z) := by
        simpa [Value.cells, List.getElem?_take, hi] using h0
      rw [List.getElem?_drop, Nat.add_comm] at h1
      exact h1
    · rw [List.getElem?_eq_getElem (show i < ys.length by omega), e2, hz]
  clear hel g0 g1 hg
  obtain ⟨a, ka, ky, al⟩ : ∃ a : Nat → Nat, (∀ i, i < 12 → l[i + 1]? = some (.int .u16 ((a i : Nat) : Int))) ∧ (∀ i, i < 12 → ys[i]? = some (.lit (.int .u16 ((a i : Nat) : Int)), [])) ∧ ∀ i, a i < 65536 := by
    refine ⟨fun i => if hi : i < 12 then Classical.choose (key i hi) else 0, fun i hi => ?_, fun i hi => ?_, fun i => ?_⟩
    · have := (Classical.choose_spec (key i hi)).2.1
      simpa only [hi, dite_true] using this
    · have := (Classical.choose_spec (key i hi)).2.2
      simpa only [hi, dite_true] using this
    · by_cases hi : i < 12
      · simpa only [hi, dite_true] using (Classical.choose_spec (key i hi)).1
      · simp only [hi, dite_false]
        decide
  refine ⟨n, a, ?_⟩
  clear key
  have e0' : l.take 1 = [.int .i64 n] := by simpa [Value.cells] using e0
  clear e0 hv hf hsz hs
  rcases hl with _
  match l, hll, ys, hyl, e0', ka, ky with
  | [c0, c1, c2, c3, c4, c5, c6, c7, c8, c9, c10, c11, c12], _, [y0, y1, y2, y3, y4, y5, y6, y7, y8, y9, y10, y11], _, e0, ka, ky =>
    have q0 := ka 0 (by decide); have q1 := ka 1 (by decide); have q2 := ka 2 (by decide); have q3 := ka 3 (by decide); have q4 := ka 4 (by decide); have q5 := ka 5 (by decide); have q6 := ka 6 (by decide); have q7 := ka 7 (by decide); have q8 := ka 8 (by decide); have q9 := ka 9 (by decide); have q10 := ka 10 (by decide); have q11 := ka 11 (by decide)
    have r0 := ky 0 (by decide); have r1 := ky 1 (by decide); have r2 := ky 2 (by decide); have r3 := ky 3 (by decide); have r4 := ky 4 (by decide); have r5 := ky 5 (by decide); have r6 := ky 6 (by decide); have r7 := ky 7 (by decide); have r8 := ky 8 (by decide); have r9 := ky 9 (by decide); have r10 := ky 10 (by decide); have r11 := ky 11 (by decide)
    clear ka ky
    simp at e0 q0 q1 q2 q3 q4 q5 q6 q7 q8 q9 q10 q11 r0 r1 r2 r3 r4 r5 r6 r7 r8 r9 r10 r11
    subst e0 q0 q1 q2 q3 q4 q5 q6 q7 q8 q9 q10 q11 r0 r1 r2 r3 r4 r5 r6 r7 r8 r9 r10 r11
    match xs, hlen with
    | [x0, x1], _ =>
      simp at hx0 hy
      subst hx0 hy
      simp only [Prod.mk.injEq] at hx
      obtain ⟨rfl, rfl⟩ := hx
      exact ⟨rfl, by simp [relD, List.range_succ], by simp, hw0, al⟩

theorem shut_rel {n : Int} {a : Nat → Nat} (hn : (Lit.int .i64 n).wf = true) (ha : ∀ i, a i < 65536) : DataW.Trod enc Tryd.prog w base spare held 25 (relV n a) (relD n a) [] := by
  have wa : ∀ i, (Lit.int .u16 (a i)).wf = true := fun i => by
    have := ha i
    simp [Lit.wf, IntKind.min, IntKind.max, IntKind.signed, IntKind.bits]
    omega
  refine ⟨3, ?_⟩
  simp [DataW.trod, Value.cells, Tryd.underlying25, Tryd.underlying23, Tryd.underlying22, Tryd.underlying3, cells_rel, cells_arr, cells_u16, cells_int, hn, wa, relD, List.range_succ]
end
end Go.Proofs.YtcpmhflkooipdaaDoor
