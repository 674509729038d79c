/-
  Joined by a program out of: LinPt.
-/
import Derived.Test.YtecpjeililiafaaDoorMgAF
import Derived.Test.YtecpjeililiafaaDoorMgAI

/-
  Points in memory; contracts of (*record).start and (*record).complete.
-/
namespace Go.Proofs.YtecpjeililiafaaDoor
open Go.RowKit
set_option maxRecDepth 20000
variable {Rl : Nat → Nat → Bool}

/-- A slice that reads as numbers, in a block of which S holds. -/
def NAw (S : Nat → Prop) (w : World) (v : Value) (xs : List Int) : Prop :=
  ∃ A cap, v = .slice A xs.length cap ∧ xs.length ≤ cap ∧ cap ≤ maxLen ∧ (0 < xs.length → ∃ g o, A = some ⟨g, o, none⟩ ∧ S g ∧ g < w.heap.size ∧ ∀ k x, xs[k]? = some x → ∀ j u, (intCs x)[j]? = some u → w.cell? ⟨g, o + k * 1 + j, none⟩ = some u)
theorem NAw.rd {S : Nat → Prop} {w : World} {v : Value} {xs : List Int} (h : NAw S w v xs) : NRd w w.heap.size v xs := by
  obtain ⟨A, cap, hv, h0, h1, h2⟩ := h
  refine ⟨A, cap, hv, h0, h1, fun hp => ?_⟩
  obtain ⟨g, o, hA, _, hg, hc⟩ := h2 hp
  exact ⟨g, o, hA, hg, hc⟩
theorem NAw.of_rd {S : Nat → Prop} {w : World} {B : Nat} {v : Value} {xs : List Int} (h : NRd w B v xs) (hB : B ≤ w.heap.size) (hS : ∀ g, g < B → S g) : NAw S w v xs := by
  obtain ⟨A, cap, hv, h0, h1, h2⟩ := h
  refine ⟨A, cap, hv, h0, h1, fun hp => ?_⟩
  obtain ⟨g, o, hA, hg, hc⟩ := h2 hp
  exact ⟨g, o, hA, hS g hg, by omega, hc⟩
theorem NAw.imp {S S' : Nat → Prop} {w : World} {v : Value} {xs : List Int} (h : NAw S w v xs) (hS : ∀ g, g < w.heap.size → S g → S' g) : NAw S' w v xs := by
  obtain ⟨A, cap, hv, h0, h1, h2⟩ := h
  refine ⟨A, cap, hv, h0, h1, fun hp => ?_⟩
  obtain ⟨g, o, hA, hs, hg, hc⟩ := h2 hp
  exact ⟨g, o, hA, hS g hg hs, hg, hc⟩
theorem NAw.keep {S : Nat → Prop} {w w' : World} {v : Value} {xs : List Int} (h : NAw S w v xs) (hz : w.heap.size ≤ w'.heap.size) (hk : ∀ g, S g → g < w.heap.size → w'.heap[g]? = w.heap[g]?) : NAw S w' v xs := by
  obtain ⟨A, cap, hv, h0, h1, h2⟩ := h
  refine ⟨A, cap, hv, h0, h1, fun hp => ?_⟩
  obtain ⟨g, o, hA, hs, hg, hc⟩ := h2 hp
  refine ⟨g, o, hA, hs, by omega, fun k x hx j u hu => ?_⟩
  rw [← hc k x hx j u hu]
  simp only [World.cell?, hk g hs hg]
theorem NAw.next {S : Nat → Prop} {w w' : World} {v : Value} {xs : List Int} (h : NAw S w v xs) (hb : Below w.heap.size w w') : NAw S w' v xs := h.keep hb.size (fun g _ hg => hb.block g hg)
theorem NAw.setCell {S : Nat → Prop} {w : World} {v : Value} {xs : List Int} (h : NAw S w v xs) (p : Addr) (u : Value) (hS : ∀ g, S g → g ≠ p.block) : NAw S (w.setCell p u) v xs := h.keep (by simp [World.setCell]) (fun g hs _ => Below.heap_setCell _ _ _ _ (hS g hs))
theorem NAw.nil (S : Nat → Prop) (w : World) : NAw S w (.slice none 0 0) [] := ⟨none, 0, rfl, Nat.le_refl _, Nat.zero_le _, fun h => by simp at h⟩
theorem NAw.of_own {B : Nat} {w : World} {v : Value} {xs : List Int} (h : IOwn w B v xs) : NAw (fun g => B ≤ g) w v xs := by
  have hr := h.rd
  obtain ⟨A, cap, hv, h0, h1, h2⟩ := hr
  refine ⟨A, cap, hv, h0, h1, fun hp => ?_⟩
  obtain ⟨g, o, hA, hg, hc⟩ := h2 hp
  refine ⟨g, o, hA, ?_, hg, hc⟩
  subst hA
  exact (h.lt hv).1

abbrev ptCs (d : Nat) (s : Nat → Value) : Array Value := #[.int .u16 (d : Nat), s 0, s 1, s 2, s 3]
abbrev ptV (d : Nat) (s : Nat → Value) : Value := .agg #[.int .u16 (d : Nat), s 0, s 1, s 2, s 3]
abbrev nilS : Nat → Value := fun _ => .slice none 0 0
/-- A point lies in block g. -/
def PtB (w : World) (g : Nat) (d : Nat) (s : Nat → Value) : Prop := Lies w g 124 (ptCs d s)
abbrev fillP (w : World) (g : Nat) (d : Nat) (s : Nat → Value) : World := ((((w.setCell ⟨g, 0, none⟩ (.int .u16 (d : Nat))).setCell ⟨g, 1, none⟩ (s 0)).setCell ⟨g, 2, none⟩ (s 1)).setCell ⟨g, 3, none⟩ (s 2)).setCell ⟨g, 4, none⟩ (s 3)
theorem fillP_below {B : Nat} {w0 w : World} {g : Nat} (h : Below B w0 w) (hg : B ≤ g) (d : Nat) (s : Nat → Value) : Below B w0 (fillP w g d s) :=
  ((((h.setCell (p := ⟨g, 0, none⟩) hg _).setCell (p := ⟨g, 1, none⟩) hg _).setCell (p := ⟨g, 2, none⟩) hg _).setCell (p := ⟨g, 3, none⟩) hg _).setCell (p := ⟨g, 4, none⟩) hg _
theorem fillP_far {w : World} {q g : Nat} (h : g ≠ q) (d : Nat) (s : Nat → Value) : (fillP w q d s).heap[g]? = w.heap[g]? := by
  have key : ∀ (W : World) (i : Nat) (u : Value), (W.setCell ⟨q, i, none⟩ u).heap[g]? = W.heap[g]? := fun W i u => Below.heap_setCell W ⟨q, i, none⟩ u g h
  unfold fillP
  rw [key, key, key, key, key]
section
variable {w : World} {g d : Nat} {s : Nat → Value}
theorem nat4 {k : Nat} (h : k < 4) : k = 0 ∨ k = 1 ∨ k = 2 ∨ k = 3 := by omega
theorem PtB.fill (h : PtB w g d s) (d' : Nat) (s' : Nat → Value) : PtB (fillP w g d' s') g d' s' := by
  have h0 := Lies.set_ h 0 (.int .u16 (d' : Nat))
  have h1 := Lies.set_ h0 1 (s' 0)
  have h2 := Lies.set_ h1 2 (s' 1)
  have h3 := Lies.set_ h2 3 (s' 2)
  have h4 := Lies.set_ h3 4 (s' 3)
  exact Lies.cast h4 (by simp [ptCs])
theorem PtB.setS (h : PtB w g d s) {k : Nat} (hk : k < 4) (x : Value) : PtB (w.setCell ⟨g, 1 + k, none⟩ x) g d (fun i => if i = k then x else s i) := by
  refine Lies.cast (Lies.set_ h (1 + k) x) ?_
  rcases nat4 hk with rfl | rfl | rfl | rfl <;> simp [ptCs]
theorem PtB.setD (h : PtB w g d s) (x : Nat) : PtB (w.setCell ⟨g, 0, none⟩ (.int .u16 (x : Nat))) g x s := by
  refine Lies.cast (Lies.set_ h 0 (.int .u16 (x : Nat))) ?_
  simp [ptCs]
theorem PtB.row (h : PtB w g d s) {k : Nat} (hk : k < 4) : w.cell? ⟨g, 1 + k, none⟩ = some (s k) := by
  rw [Lies.cell h]
  rcases nat4 hk with rfl | rfl | rfl | rfl <;> rfl
theorem PtB.cells (h : PtB w g d s) : w.cell? ⟨g, 0, none⟩ = some (.int .u16 (d : Nat)) ∧ w.cell? ⟨g, 1, none⟩ = some (s 0) ∧ w.cell? ⟨g, 2, none⟩ = some (s 1) ∧ w.cell? ⟨g, 3, none⟩ = some (s 2) ∧ w.cell? ⟨g, 4, none⟩ = some (s 3) :=
  ⟨Lies.cell h 0, Lies.cell h 1, Lies.cell h 2, Lies.cell h 3, Lies.cell h 4⟩
theorem PtB.free (h : PtB w g d s) (i : Nat) : w.frozen? ⟨g, i, none⟩ = false := Lies.frozen h i
end
/-- Four values by their number. -/
def four (a b c e : Value) : Nat → Value
  | 0 => a
  | 1 => b
  | 2 => c
  | _ => e
theorem PtB.four {w : World} {g d : Nat} {s : Nat → Value} (h : PtB w g d s) : PtB w g d (four (s 0) (s 1) (s 2) (s 3)) := h
theorem four_at (s : Nat → Value) {i : Nat} (hi : i < 4) : four (s 0) (s 1) (s 2) (s 3) i = s i := by
  rcases nat4 hi with rfl | rfl | rfl | rfl <;> rfl
/-- The value v is the point p. -/
def PtRd (S : Nat → Prop) (w : World) (v : Value) (p : Pt) : Prop := ∃ s : Nat → Value, v = ptV p.done s ∧ ∀ i, i < 4 → NAw S w (s i) (p.st i)
theorem PtRd.next {S : Nat → Prop} {w w' : World} {v : Value} {p : Pt} (h : PtRd S w v p) (hb : Below w.heap.size w w') : PtRd S w' v p := by
  obtain ⟨s, e, hs⟩ := h
  exact ⟨s, e, fun i hi => (hs i hi).next hb⟩
/-- A record stands at block Q: the types, the calls, what must be ahead of each, who was answered. -/
structure RecAt (Rl : Nat → Nat → Bool) (w : World) (Q : Nat) (tv cv : Value) (ts : List Int) (cs : List Cl) : Prop where
  c0 : w.cell? ⟨Q, 0, none⟩ = some tv
  c1 : w.cell? ⟨Q, 1, none⟩ = some cv
  bf : ∀ j, j < 9 → w.cell? ⟨Q, 2 + j, none⟩ = some (.int .u16 (befP Rl cs j : Nat))
  an : w.cell? ⟨Q, 11, none⟩ = some (.int .u16 (ansP cs : Nat))
  rt : NRd w w.heap.size tv ts
  rc : CRd w w.heap.size cv cs
  lt : Q < w.heap.size
theorem RecAt.next {w w' : World} {Q : Nat} {tv cv : Value} {ts : List Int} {cs : List Cl} (h : RecAt Rl w Q tv cv ts cs) (hb : Below w.heap.size w w') : RecAt Rl w' Q tv cv ts cs :=
  ⟨(hb.cell (p := ⟨Q, 0, none⟩) h.lt).trans h.c0, (hb.cell (p := ⟨Q, 1, none⟩) h.lt).trans h.c1, fun j hj => (hb.cell (p := ⟨Q, 2 + j, none⟩) h.lt).trans (h.bf j hj), (hb.cell (p := ⟨Q, 11, none⟩) h.lt).trans h.an, (h.rt.below hb).mono hb.size, (h.rc.below hb).mono hb.size, Nat.lt_of_lt_of_le h.lt hb.size⟩

theorem landnot (x y : Nat) (hx : x < 65536) (hy : y < 65536) : (bits BinOp.andNot IntKind.u16 (x : Int) (y : Int) == 0) = ((x &&& (65535 - y)) == 0) := by
  rw [u16_andNot_nat _ _ hx hy, Bool.eq_iff_iff, beq_iff_eq, beq_iff_eq]
  omega
/-- Does nothing have to follow? -/
theorem complete_any {w : World} {Q : Nat} {tv cv : Value} {ts : List Int} {cs : List Cl} (hR : RecAt Rl w Q tv cv ts cs) (hc : cs.length ≤ 9) {d : Nat} (hd : d < 65536) (s : Nat → Value) (p : Pt) (hp : p.done = d) :
    Calls Tryd.prog 92 #[.pointer (some ⟨Q, 0, none⟩), ptV d s] w fun e w' => e = .returned (.bool (fullB cs p)) ∧ Below w.heap.size w w' := by
  have han : (w.alloc (.cells (ptCs d s) 124)).cell? ⟨Q, 11, none⟩ = some (.int .u16 (ansP cs : Nat)) := (((Below.refl _ _).alloc (Nat.le_refl _) (.cells (ptCs d s) 124)).cell (p := ⟨Q, 11, none⟩) hR.lt).trans hR.an
  have hpt : PtB (w.alloc (.cells (ptCs d s) 124)) w.heap.size d s := Lies.new _ _ _
  have hd0 := hpt.cells.1
  have hb : Below w.heap.size w (w.alloc (.cells (ptCs d s) 124)) := (Below.refl _ _).alloc (Nat.le_refl _) _
  have hv := landnot (ansP cs) d (ans_lt hc) hd
  rw [← hp] at hv
  change _ = fullB cs p at hv
  rw [hp] at hv
  have HB := Lib.hid (And.intro hb hv)
  clear hpt hb hv hR hp
  generalize fullB cs p = F at HB ⊢
  generalize ansP cs = an at han HB
  go_enter Tryd.func92, Tryd.ntmps92
  go_wp2_with fail
  go_region
  go_wp2
  go_ret
  exact ⟨ret_bool (by rw [← HB.out.2]), HB.out.1.drew⟩
end Go.Proofs.YtecpjeililiafaaDoor
