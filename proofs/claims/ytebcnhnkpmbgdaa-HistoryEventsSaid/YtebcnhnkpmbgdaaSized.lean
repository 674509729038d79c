/-
  How long a slice that came in may be: the reach of an argument.
-/
import Derived.Test.YtebcnhnkpmbgdaaHistArg
import Derived.SizedLaws
namespace Go.Proofs.Ytebcnhnkpmbgdaa
open Go.RowKit Go.ChangeShapes Go.WideShapes Go.ChangeAt
set_option maxRecDepth 20000

section
variable {H : Type} {enc : TypeId × Value → H} {α : Type} {s : Nat} {f : α → List Value}
theorem sized_list {ts : List TypeId} {ds : List (DataW H)} (hsz : (DataW.weightsEach Try.prog ts ds).all (· ≤ reachBytes) = true) {j : Nat} {t e : TypeId} {d : DataW H} (htj : ts[j]? = some t) (hd : ds[j]? = some d) (hu : Try.prog.underlying t = some (.slice e))
    {w w' : World} {v : Value} {p : List MemPlace} (h : DataW.Trod enc Try.prog w 0 (fun _ => true) true t v d p) {B : Nat} {l : List α} (hl : LRd s f w' B v l) : l.length * Try.prog.bytesOf e ≤ reachBytes := by
  obtain ⟨A, cap, rfl, m1, m2⟩ := hl.is
  obtain ⟨fuel, hfu⟩ := h
  rcases Deep.open_slice hu hfu with ⟨hc, _⟩ | ⟨a, len', cap', m, n, D, Pl, hc, _, hl', hm, hmm, hx, hi⟩
  · simp only [Value.cells, List.cons.injEq, Value.slice.injEq, and_true] at hc
    rw [hc.2.1]
    simp
  · simp only [Value.cells, List.cons.injEq, Value.slice.injEq, and_true] at hc
    obtain ⟨_, h2, h3⟩ := hc
    have hd' := hd
    rw [show d = _ from (Prod.mk.inj hx).1] at hd'
    have := sized_slice hsz htj hd' hu
    simp only [List.length_map, List.length_range, if_true] at this hmm
    refine Nat.le_trans (Nat.mul_le_mul_right _ ?_) this
    omega
end
end Go.Proofs.Ytebcnhnkpmbgdaa
