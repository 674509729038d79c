/-
  A table of integers in a block of the call's own; how it is made; how a number of one bit is joined to a set.
-/
import Derived.Test.YtcpmhflkooipdaaDoorReady
namespace Go.Proofs.YtcpmhflkooipdaaDoor
open Go.RowKit
set_option maxRecDepth 20000

/-- The cells of a table of N integers. -/
def tabCs (N : Nat) (f : Nat → Int) : Array Value := (Array.range N).map fun i => .int .i64 (f i)
def ITab (w : World) (g N : Nat) (f : Nat → Int) : Prop := Lies w g 3 (tabCs N f)

theorem tabCs_get (N : Nat) (f : Nat → Int) (i : Nat) (h : i < N) : (tabCs N f)[i]? = some (.int .i64 (f i)) := by
  simp [tabCs, h]
theorem tabCs_set (N : Nat) (f : Nat → Int) (i : Nat) (x : Int) : (tabCs N f).setIfInBounds i (.int .i64 x) = tabCs N (fun j => if j = i then x else f j) := by
  apply Array.ext_getElem?
  intro j
  rw [Array.getElem?_setIfInBounds]
  by_cases h : i = j
  · subst h
    by_cases hi : i < N <;> simp [tabCs, hi]
  · rw [if_neg h]
    by_cases hj : j < N <;> simp [tabCs, hj, show ¬ j = i from fun e => h e.symm]

section
variable {w : World} {g N : Nat} {f : Nat → Int}
theorem ITab.cell (h : ITab w g N f) {i : Nat} (hi : i < N) : w.cell? ⟨g, i, none⟩ = some (.int .i64 (f i)) := by
  rw [Lies.cell h, tabCs_get N f i hi]
theorem ITab.free (h : ITab w g N f) (i : Nat) : w.frozen? ⟨g, i, none⟩ = false := Lies.frozen h i
theorem ITab.set_ (h : ITab w g N f) (i : Nat) (x : Int) : ITab (w.setCell ⟨g, i, none⟩ (.int .i64 x)) g N (fun j => if j = i then x else f j) :=
  Lies.cast (Lies.set_ h i (.int .i64 x)) (tabCs_set N f i x)
theorem ITab.congr {f' : Nat → Int} (h : ITab w g N f) (e : ∀ i, i < N → f i = f' i) : ITab w g N f' := by
  refine Lies.cast h ?_
  apply Array.ext
  · simp [tabCs]
  · intro j h1 h2
    have : j < N := by simpa [tabCs] using h1
    simp [tabCs, e j this]
end

theorem info_int : (Tryd.prog.info? 3).map (fun i => (i.zero, i.size, i.bytes)) = some (some (.int .i64 0), 1, 8) := by kernel_rfl

theorem made_ints (N : Nat) (l : Int) (hl : l = N) (hN : N ≤ 65536) (w : World) :
    (Instr.makeSlice 29 (.int .i64 l) (.int .i64 l)).run Tryd.prog w = .ok (.slice (some ⟨w.heap.size, 0, none⟩) N N) (w.alloc (.cells (tabCs N fun _ => 0) 3)) := by
  obtain ⟨i0, hi, hz0, hz1, hz2⟩ := info_parts info_int
  subst hl
  rw [run_make w 29 3 i0 (.int .i64 0) Tryd.underlying29 hi hz0 .i64 .i64 N N (by omega) (by omega) (by rw [hz2]; omega) (by omega), hz1]
  simp only [Int.toNat_natCast, Nat.mul_one]
  congr 3
  apply Array.ext
  · simp [tabCs, madeCells]
  · intro j h1 h2
    simp [tabCs, madeCells, Value.cells, Nat.mod_one]
end Go.Proofs.YtcpmhflkooipdaaDoor
