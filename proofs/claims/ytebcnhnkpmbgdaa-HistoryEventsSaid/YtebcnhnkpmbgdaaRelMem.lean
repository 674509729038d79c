/-
  A relation as a value and in a block; no function of a program.
-/
import Derived.Test.YtebcnhnkpmbgdaaU16
namespace Go.Proofs.Ytebcnhnkpmbgdaa
open Go.RowKit
set_option maxRecDepth 20000

/-- A relation as a value: the number of items, and a set for each of twelve. -/
abbrev relV (n : Int) (a : Nat → Nat) : Value := .agg #[.int .i64 n, .int .u16 (a 0), .int .u16 (a 1), .int .u16 (a 2), .int .u16 (a 3), .int .u16 (a 4), .int .u16 (a 5), .int .u16 (a 6), .int .u16 (a 7), .int .u16 (a 8), .int .u16 (a 9), .int .u16 (a 10), .int .u16 (a 11)]
abbrev rowsV (a : Nat → Nat) : Value := .agg #[.int .u16 (a 0), .int .u16 (a 1), .int .u16 (a 2), .int .u16 (a 3), .int .u16 (a 4), .int .u16 (a 5), .int .u16 (a 6), .int .u16 (a 7), .int .u16 (a 8), .int .u16 (a 9), .int .u16 (a 10), .int .u16 (a 11)]

/-- The cells of a relation. -/
abbrev relCs (n : Int) (a : Nat → Nat) : Array Value := #[.int .i64 n, .int .u16 (a 0), .int .u16 (a 1), .int .u16 (a 2), .int .u16 (a 3), .int .u16 (a 4), .int .u16 (a 5), .int .u16 (a 6), .int .u16 (a 7), .int .u16 (a 8), .int .u16 (a 9), .int .u16 (a 10), .int .u16 (a 11)]
def RelB (w : World) (g : Nat) (n : Int) (a : Nat → Nat) : Prop := Lies w g 32 (relCs n a)

theorem nat12 {k : Nat} (hk : k < 12) : k = 0 ∨ k = 1 ∨ k = 2 ∨ k = 3 ∨ k = 4 ∨ k = 5 ∨ k = 6 ∨ k = 7 ∨ k = 8 ∨ k = 9 ∨ k = 10 ∨ k = 11 := by omega

section
variable {w w' : World} {g : Nat} {n : Int} {a : Nat → Nat}
theorem RelB.size (h : RelB w g n a) : w.cell? ⟨g, 0, none⟩ = some (.int .i64 n) := Lies.cell h 0
theorem RelB.row (h : RelB w g n a) {k : Nat} (hk : k < 12) : w.cell? ⟨g, k + 1, none⟩ = some (.int .u16 (a k)) := by
  rw [Lies.cell h]
  rcases nat12 hk with rfl | rfl | rfl | rfl | rfl | rfl | rfl | rfl | rfl | rfl | rfl | rfl <;> rfl
theorem RelB.row' (h : RelB w g n a) {k : Nat} (hk : k < 12) : w.cell? ⟨g, 1 + k, none⟩ = some (.int .u16 (a k)) := by
  rw [Nat.add_comm]; exact h.row hk
theorem RelB.rows (h : RelB w g n a) : w.cell? ⟨g, 1, none⟩ = some (.int .u16 (a 0)) ∧ w.cell? ⟨g, 2, none⟩ = some (.int .u16 (a 1)) ∧ w.cell? ⟨g, 3, none⟩ = some (.int .u16 (a 2)) ∧ w.cell? ⟨g, 4, none⟩ = some (.int .u16 (a 3)) ∧ w.cell? ⟨g, 5, none⟩ = some (.int .u16 (a 4)) ∧ w.cell? ⟨g, 6, none⟩ = some (.int .u16 (a 5)) ∧ w.cell? ⟨g, 7, none⟩ = some (.int .u16 (a 6)) ∧ w.cell? ⟨g, 8, none⟩ = some (.int .u16 (a 7)) ∧ w.cell? ⟨g, 9, none⟩ = some (.int .u16 (a 8)) ∧ w.cell? ⟨g, 10, none⟩ = some (.int .u16 (a 9)) ∧ w.cell? ⟨g, 11, none⟩ = some (.int .u16 (a 10)) ∧ w.cell? ⟨g, 12, none⟩ = some (.int .u16 (a 11)) :=
  ⟨h.row (k := 0) (by omega), h.row (k := 1) (by omega), h.row (k := 2) (by omega), h.row (k := 3) (by omega), h.row (k := 4) (by omega), h.row (k := 5) (by omega), h.row (k := 6) (by omega), h.row (k := 7) (by omega), h.row (k := 8) (by omega), h.row (k := 9) (by omega), h.row (k := 10) (by omega), h.row (k := 11) (by omega)⟩
theorem RelB.set' (h : RelB w g n a) {k : Nat} (hk : k < 12) (x : Nat) : RelB (w.setCell ⟨g, 1 + k, none⟩ (.int .u16 x)) g n (fun i => if i = k then x else a i) := by
  refine Lies.cast (Lies.set_ h (1 + k) (.int .u16 x)) ?_
  rcases nat12 hk with rfl | rfl | rfl | rfl | rfl | rfl | rfl | rfl | rfl | rfl | rfl | rfl <;> simp [relCs]
theorem RelB.free (h : RelB w g n a) (i : Nat) : w.frozen? ⟨g, i, none⟩ = false := Lies.frozen h i
theorem RelB.set_ (h : RelB w g n a) {k : Nat} (hk : k < 12) (x : Nat) : RelB (w.setCell ⟨g, k + 1, none⟩ (.int .u16 x)) g n (fun i => if i = k then x else a i) := by
  refine Lies.cast (Lies.set_ h (k + 1) (.int .u16 x)) ?_
  rcases nat12 hk with rfl | rfl | rfl | rfl | rfl | rfl | rfl | rfl | rfl | rfl | rfl | rfl <;> simp [relCs]
theorem RelB.congr {b : Nat → Nat} (h : RelB w g n a) (e : ∀ i, i < 12 → a i = b i) : RelB w g n b := by
  refine Lies.cast h ?_
  simp [relCs, e 0, e 1, e 2, e 3, e 4, e 5, e 6, e 7, e 8, e 9, e 10, e 11]
end

/-- The world behind thirteen stores. -/
abbrev fillW (w : World) (g : Nat) (m : Int) (b : Nat → Nat) : World := (((((((((((((w.setCell ⟨g, 0, none⟩ (.int .i64 m)).setCell ⟨g, 1, none⟩ (.int .u16 (b 0))).setCell ⟨g, 2, none⟩ (.int .u16 (b 1))).setCell ⟨g, 3, none⟩ (.int .u16 (b 2))).setCell ⟨g, 4, none⟩ (.int .u16 (b 3))).setCell ⟨g, 5, none⟩ (.int .u16 (b 4))).setCell ⟨g, 6, none⟩ (.int .u16 (b 5))).setCell ⟨g, 7, none⟩ (.int .u16 (b 6))).setCell ⟨g, 8, none⟩ (.int .u16 (b 7))).setCell ⟨g, 9, none⟩ (.int .u16 (b 8))).setCell ⟨g, 10, none⟩ (.int .u16 (b 9))).setCell ⟨g, 11, none⟩ (.int .u16 (b 10))).setCell ⟨g, 12, none⟩ (.int .u16 (b 11)))
theorem RelB.fill {w : World} {g : Nat} {n : Int} {a : Nat → Nat} (h : RelB w g n a) (m : Int) (b : Nat → Nat) : RelB (fillW w g m b) g m b := by
  have h0 := Lies.set_ h 0 (.int .i64 m)
  have h1 := Lies.set_ h0 1 (.int .u16 (b 0))
  have h2 := Lies.set_ h1 2 (.int .u16 (b 1))
  have h3 := Lies.set_ h2 3 (.int .u16 (b 2))
  have h4 := Lies.set_ h3 4 (.int .u16 (b 3))
  have h5 := Lies.set_ h4 5 (.int .u16 (b 4))
  have h6 := Lies.set_ h5 6 (.int .u16 (b 5))
  have h7 := Lies.set_ h6 7 (.int .u16 (b 6))
  have h8 := Lies.set_ h7 8 (.int .u16 (b 7))
  have h9 := Lies.set_ h8 9 (.int .u16 (b 8))
  have h10 := Lies.set_ h9 10 (.int .u16 (b 9))
  have h11 := Lies.set_ h10 11 (.int .u16 (b 10))
  have h12 := Lies.set_ h11 12 (.int .u16 (b 11))
  exact Lies.cast h12 (by simp [relCs])
theorem fillW_below {B : Nat} {w0 w : World} {g : Nat} (h : Below B w0 w) (hg : B ≤ g) (m : Int) (b : Nat → Nat) : Below B w0 (fillW w g m b) :=
  ((((((((((((h.setCell (p := ⟨g, 0, none⟩) hg _).setCell (p := ⟨g, 1, none⟩) hg _).setCell (p := ⟨g, 2, none⟩) hg _).setCell (p := ⟨g, 3, none⟩) hg _).setCell (p := ⟨g, 4, none⟩) hg _).setCell (p := ⟨g, 5, none⟩) hg _).setCell (p := ⟨g, 6, none⟩) hg _).setCell (p := ⟨g, 7, none⟩) hg _).setCell (p := ⟨g, 8, none⟩) hg _).setCell (p := ⟨g, 9, none⟩) hg _).setCell (p := ⟨g, 10, none⟩) hg _).setCell (p := ⟨g, 11, none⟩) hg _).setCell (p := ⟨g, 12, none⟩) hg _
theorem post_fill {P : Program} {fn : Func} {R : Ending → World → Prop} {act : Act} {w W : World} {B g : Nat} {n0 : Int} {a0 : Nat → Nat} (n : Int) (a : Nat → Nat)
    (hB : RelB W g n0 a0) (hb : Below B w W) (hg : B ≤ g) (k : ∀ wz, RelB wz g n a → Below B w wz → bodyPost P fn R .ret act wz) : bodyPost P fn R .ret act (fillW W g n a) :=
  k _ (hB.fill n a) (fillW_below hb hg n a)

theorem post_fill1 {P : Program} {fn : Func} {R : Ending → World → Prop} {act : Act} {w W : World} {B g : Nat} {n0 : Int} {a0 : Nat → Nat} {o : Obj} (n : Int) (a : Nat → Nat)
    (hB : RelB W g n0 a0) (hb : Below B w W) (hg : B ≤ g) (hs : B ≤ W.heap.size) (k : ∀ wz, RelB wz g n a → Below B w wz → bodyPost P fn R .ret act wz) : bodyPost P fn R .ret act ((fillW W g n a).alloc o) :=
  k _ (Lies.alloc (hB.fill n a) _) ((fillW_below hb hg n a).alloc (Nat.le_trans hs (fillW_below (Below.refl 0 W) (Nat.zero_le g) n a).size) _)

structure ORel (w : World) (R G m : Nat) (c : Nat → Nat) (wr : World) : Prop where
  below : Below w.heap.size w wr
  res : RelB wr R 0 (fun _ => 0)
  own : RelB wr G m c
  ge : w.heap.size ≤ R
  far : R < G
theorem ORel.far' {w wr : World} {R G m : Nat} {c : Nat → Nat} (h : ORel w R G m c wr) : w.heap.size ≤ G := by
  have := h.ge
  have := h.far
  omega
theorem ORel.set_ {w wr : World} {R G m : Nat} {c : Nat → Nat} (h : ORel w R G m c wr) {k : Nat} (hk : k < 12) (x : Nat) :
    ORel w R G m (fun i => if i = k then x else c i) (wr.setCell ⟨G, 1 + k, none⟩ (.int .u16 x)) :=
  ⟨h.below.setCell h.far' _, Lies.far h.res (by have := h.far; show R ≠ G; omega) _, h.own.set' hk x, h.ge, h.far⟩
theorem ORel.drew {w wr : World} {R G m : Nat} {c : Nat → Nat} (h : ORel w R G m c wr) : ORel w R G m c wr.drew := ⟨h.below.drew, h.res, h.own, h.ge, h.far⟩
theorem ORel.drewN {w wr : World} {R G m : Nat} {c : Nat → Nat} (h : ORel w R G m c wr) (n : Nat) : ORel w R G m c (wr.drewN n) := ⟨belowN h.below n, Lies.drewN h.res n, Lies.drewN h.own n, h.ge, h.far⟩
theorem ORel.alloc {w wr : World} {R G m : Nat} {c : Nat → Nat} (h : ORel w R G m c wr) (o : Obj) : ORel w R G m c (wr.alloc o) := ⟨h.below.alloc h.below.size _, Lies.alloc h.res _, Lies.alloc h.own _, h.ge, h.far⟩
theorem ORel.congr {w wr : World} {R G m : Nat} {c d : Nat → Nat} (h : ORel w R G m c wr) (e : ∀ i, i < 12 → c i = d i) : ORel w R G m d wr := ⟨h.below, h.res, h.own.congr e, h.ge, h.far⟩

theorem ORel.next {w wr wr' : World} {R G m : Nat} {c : Nat → Nat} (h : ORel w R G m c wr) (hb : Below wr.heap.size wr wr') : ORel w R G m c wr' :=
  ⟨h.below.trans (hb.mono h.below.size), Lies.below h.res hb h.res.lt, Lies.below h.own hb h.own.lt, h.ge, h.far⟩

end Go.Proofs.Ytebcnhnkpmbgdaa
