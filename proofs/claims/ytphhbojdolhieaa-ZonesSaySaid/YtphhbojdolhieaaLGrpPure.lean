/-
  Plain: the numbers of each thing's calls, as a map's datum.
-/
import Derived.Test.YtphhbojdolhieaaHistPure
import Derived.Maps.GroupsBeside
namespace Go.Proofs.Ytphhbojdolhieaa
open Go.RowKit Go.Maps Go.MapKept
open Go.ChangeShapes (lits)
set_option maxRecDepth 20000
/-- The numbers of thing q's calls among the first k. -/
def idxK (cs : List Cl) (q : Int) (k : Nat) : List Int := ((List.range k).filter fun i => (cs.getD i default).thing == q).map fun i : Nat => (i : Int)
theorem lits_inj {H : Type} {q : IntKind} : ∀ {a b : List Int}, lits (H := H) q a = lits q b → a = b
  | [], [], _ => rfl
  | [], y :: b, h => by simp [lits] at h
  | x :: a, [], h => by simp [lits] at h
  | x :: a, y :: b, h => by
    simp only [lits, List.map_cons, List.cons.injEq] at h
    have h1 := h.1
    injection h1 with h1
    injection h1 with h2 h3
    rw [h3, lits_inj (H := H) (q := q) (a := a) (b := b) h.2]
/-- What the map tells behind k calls. -/
def GrpD (cs : List Cl) (k : Nat) (D : DataW Unit) : Prop := IsMap D ∧ ∀ q : Int, D.atKey (.int .i64 q) .nil = if idxK cs q k = [] then .nil else .slice (lits .i64 (idxK cs q k)) []
theorem GrpD.zero (cs : List Cl) : GrpD cs 0 (.map []) := ⟨⟨[], rfl⟩, fun q => by rw [if_pos (show idxK cs q 0 = [] from rfl)]; rfl⟩
/-- What the look-up hands over is what was laid there. -/
theorem GrpD.at_ {cs : List Cl} {k : Nat} {D : DataW Unit} (h : GrpD cs k D) {w : World} {base : Nat} {e : TypeId} {v : Value} {zs : List Int} {q : Int} (hat : D.atKey (.int .i64 q) .nil = rowDatum .i64 v zs) (ho : w.ownsInts base e .i64 v zs) : zs = idxK cs q k := by
  rw [h.2 q] at hat
  rcases ho.datum (H := Unit) with ⟨h1, rfl⟩ | h1
  · rw [h1] at hat
    split at hat
    · rename_i h2; exact h2.symm
    · cases hat
  · rw [h1] at hat
    split at hat
    · cases hat
    · injection hat with h2
      exact (lits_inj h2).symm
end Go.Proofs.Ytphhbojdolhieaa
