/-
  Joined by a program out of: RoBase.
-/
import Derived.Test.YtfgangkpebkicaaDoorMgAV
import Derived.Test.YtfgangkpebkicaaDoorMgAG
import Derived.Test.YtfgangkpebkicaaDoorMgAW
import Derived.Test.YtfgangkpebkicaaDoorMgAB
import Derived.Test.YtfgangkpebkicaaDoorMgAS

/-
  What the reference's RightOrder leaves as it was.
-/
namespace Go.Proofs.YtfgangkpebkicaaDoor
open Go.RowKit
set_option maxRecDepth 20000
structure RoR (w : World) (G : Nat) (n : Nat) (r : Nat → Nat) (f : Nat → Int) (X : World) : Prop where
  below : Below w.heap.size w X
  rel : RelB X w.heap.size n r
  tab : ITab X G n f
  gG : w.heap.size < G
theorem RoR.next {w : World} {G n : Nat} {r : Nat → Nat} {f : Nat → Int} {X X' : World} (h : RoR w G n r f X) (hb : Below X.heap.size X X') : RoR w G n r f X' :=
  ⟨h.below.trans (hb.mono h.below.size), Lies.below h.rel hb (Lies.lt h.rel), Lies.below h.tab hb (Lies.lt h.tab), h.gG⟩
theorem RoR.set {w : World} {G n : Nat} {r : Nat → Nat} {f : Nat → Int} {X : World} (h : RoR w G n r f X) (k : Nat) (v : Int) : RoR w G n r (fun j => if j = k then v else f j) (X.setCell ⟨G, k, none⟩ (.int .i64 v)) :=
  ⟨h.below.setCell (Nat.le_of_lt h.gG) _, Lies.far h.rel (by have := h.gG; show w.heap.size ≠ G; omega) _, h.tab.set_ k v, h.gG⟩
theorem RoR.drew {w : World} {G n : Nat} {r : Nat → Nat} {f : Nat → Int} {X : World} (h : RoR w G n r f X) : RoR w G n r f X.drew := h.next (Below.refl _ _).drew
theorem RoR.alloc {w : World} {G n : Nat} {r : Nat → Nat} {f : Nat → Int} {X : World} (h : RoR w G n r f X) (o : Obj) : RoR w G n r f (X.alloc o) := h.next ((Below.refl _ _).alloc (Nat.le_refl _) o)
/-- A step in its box, a place of the table, a call. -/
def RoS (K G k gc oc : Nat) (x0 x1 v y4 y6 : Int) (W : World) : Prop := W.cell? ⟨K, 0, none⟩ = some (.int .i64 x0) ∧ W.cell? ⟨K, 1, none⟩ = some (.int .i64 x1) ∧ W.cell? ⟨G, k, none⟩ = some (.int .i64 v) ∧ W.cell? ⟨gc, oc + k * 7 + 4, none⟩ = some (.int .i64 y4) ∧ W.cell? ⟨gc, oc + k * 7 + 6, none⟩ = some (.int .i64 y6)
def RoB (K : Nat) (x0 : Int) (W : World) : Prop := W.cell? ⟨K, 0, none⟩ = some (.int .i64 x0)
/-- The relation in its box, two places of the table. -/
def RoT (Q G n : Nat) (r : Nat → Nat) (i j : Nat) (a b : Int) (W : World) : Prop := RelB W Q n r ∧ W.cell? ⟨G, i, none⟩ = some (.int .i64 a) ∧ W.cell? ⟨G, j, none⟩ = some (.int .i64 b)
/-- What is asked of call i among the others, up to j. -/
def PhJ (n : Nat) (r : Nat → Nat) (f : Nat → Int) (i j : Nat) : Prop := ∀ k, k < j → k < n → (r i).testBit k = true → 0 ≤ f k → 0 ≤ f i ∧ f i ≤ f k
theorem PhJ.succ {n : Nat} {r : Nat → Nat} {f : Nat → Int} {i j : Nat} (h : PhJ n r f i j) (h1 : (r i).testBit j = true → 0 ≤ f j → 0 ≤ f i ∧ f i ≤ f j) : PhJ n r f i (j + 1) := fun k hk hn hb hf => by
  by_cases e : k = j
  · subst e; exact h1 hb hf
  · exact h k (by omega) hn hb hf
theorem DOwn.base {w : World} {B B' : Nat} {v : Value} {l : List Dd} (h : DOwn w B v l) (hB : B' ≤ B) : DOwn w B' v l :=
  ⟨h.1, h.2.imp (fun h => h) fun ⟨g, cap, cur, h1, h2, h3⟩ => ⟨g, cap, cur, h1, Nat.le_trans hB h2, h3⟩⟩
theorem ownD_len (cs : List Cl) (t : Nat) (ws : List (Int × Int)) : (ownD cs t ws).length ≤ ws.length := by
  unfold ownD
  rw [List.length_map]
  exact List.length_filter_le _ _
theorem rite_len {cs : List Cl} {ws : List (Int × Int)} (h : PreOk cs ws ws.length) : ws.length ≤ cs.length := by
  have hon : (ws.map (·.1)).Nodup := by
    refine List.pairwise_iff_getElem.2 fun i j hi hj hij => ?_
    rw [List.length_map] at hi hj
    rw [List.getElem_map, List.getElem_map]
    exact h.once i j _ _ hij hj (List.getElem?_eq_getElem hi) (List.getElem?_eq_getElem hj)
  have := nodup_lt cs.length hon (fun k hk => by
    obtain ⟨x, hx, rfl⟩ := List.mem_map.1 hk
    obtain ⟨i, hi, rfl⟩ := List.getElem_of_mem hx
    exact h.rng i _ hi (List.getElem?_eq_getElem hi))
  rwa [List.length_map] at this
end Go.Proofs.YtfgangkpebkicaaDoor
