/-
  Contract of alibkeep.rel at the two pairs of orderLives.
-/
import Derived.Test.YtfjanniojphdoaaDoorChains
import Derived.Test.YtfjanniojphdoaaDoorErr
namespace Go.Proofs.YtfjanniojphdoaaDoor
open Go.RowKit
set_option maxRecDepth 20000

/-- Two before zero, three before one. -/
def twoK (k : Nat) : Nat → Nat := fun i => if i = 2 ∧ 0 < k then 1 else if i = 3 ∧ 1 < k then 2 else 0

structure PRel (w : World) (n : Nat) (a : Nat → Nat) (wr : World) : Prop where
  below : Below w.heap.size w wr
  res : RelB wr w.heap.size 0 (fun _ => 0)
  own : RelB wr (w.heap.size + 1) n a
theorem PRel.alloc {w wr : World} {n : Nat} {a : Nat → Nat} (h : PRel w n a wr) (o : Obj) : PRel w n a (wr.alloc o) := ⟨h.below.alloc h.below.size _, Lies.alloc h.res _, Lies.alloc h.own _⟩
theorem PRel.drew {w wr : World} {n : Nat} {a : Nat → Nat} (h : PRel w n a wr) : PRel w n a wr.drew := ⟨h.below.drew, h.res, h.own⟩
theorem PRel.set_ {w wr : World} {n : Nat} {a b : Nat → Nat} (h : PRel w n a wr) {k : Nat} (hk : k < 12) (x : Nat) (e : ∀ i, i < 12 → (if i = k then x else a i) = b i) : PRel w n b (wr.setCell ⟨w.heap.size + 1, k + 1, none⟩ (.int .u16 (x : Nat))) :=
  ⟨h.below.setCell (by simp) _, Lies.far h.res (by simp) _, (h.own.set_ hk x).congr e⟩

set_option maxHeartbeats 1000000 in
theorem rel_two (g cap : Nat) (w : World) (hg : g < w.heap.size) (h0 : w.cell? ⟨g, 0, none⟩ = some (.int .i64 2)) (h1 : w.cell? ⟨g, 1, none⟩ = some (.int .i64 0)) (h2 : w.cell? ⟨g, 2, none⟩ = some (.int .i64 3)) (h3 : w.cell? ⟨g, 3, none⟩ = some (.int .i64 1)) :
    Calls Tryd.prog 42 #[.int .i64 4, .slice (some ⟨g, 0, none⟩) 2 cap] w fun e w' => e = .returned (relV 4 (twoK 2)) ∧ Below w.heap.size w w' := by
  go_enter Tryd.func42, Tryd.ntmps42
  go_wp2_with fail
  have H0 : PRel w 4 (twoK 0) ((w.alloc (.cells (relCs 0 fun _ => 0) 25)).alloc (.cells (relCs 4 (twoK 0)) 25)) := by
    have hb := ((Below.refl w.heap.size w).alloc (Nat.le_refl _) (.cells (relCs 0 fun _ => 0) 25)).alloc (by simp) (.cells (relCs 4 (twoK 0)) 25)
    have hn := Lies.new (w.alloc (.cells (relCs 0 fun _ => 0) 25)) 25 (relCs 4 (twoK 0))
    rw [World.size_alloc] at hn
    exact ⟨hb, Lies.alloc (Lies.new _ _ _) _, hn⟩
  change Code.wp _ _ _ _ ((w.alloc (.cells (relCs 0 fun _ => 0) 25)).alloc (.cells (relCs 4 (twoK 0)) 25))
  generalize (w.alloc (.cells (relCs 0 fun _ => 0) 25)).alloc (.cells (relCs 4 (twoK 0)) 25) = W at H0 ⊢
  have HC := Lib.hid (And.intro h0 (And.intro h1 (And.intro h2 h3)))
  clear h0 h1 h2 h3
  go_loopw [12] (fun i wr => ∃ k : Nat, k ≤ 2 ∧ i = .int .i64 k ∧ PRel w 4 (twoK k) wr) (fun i _ => 2 - (intOf i).toNat)
  case atStart => exact ⟨0, by omega, rfl, H0⟩
  case round =>
    clear H0
    obtain ⟨k, hk, rfl, hR⟩ := hrel
    obtain ⟨h0, h1, h2, h3⟩ := HC.out
    have d0 := (hR.below.cell (p := ⟨g, 0, none⟩) hg).trans h0
    have d1 := (hR.below.cell (p := ⟨g, 1, none⟩) hg).trans h1
    have d2 := (hR.below.cell (p := ⟨g, 2, none⟩) hg).trans h2
    have d3 := (hR.below.cell (p := ⟨g, 3, none⟩) hg).trans h3
    obtain ⟨c0, c1, c2, c3, c4, c5, c6, c7, c8, c9, c10, c11⟩ := hR.own.rows
    have cs := hR.own.size
    have cf := hR.own.free
    have hsz := hR.own.lt
    clear h0 h1 h2 h3
    have H := Lib.hid hR
    clear hR
    rcases (by omega : k = 0 ∨ k = 1 ∨ k = 2) with rfl | rfl | rfl
    · have hor : bits BinOp.or IntKind.u16 ((twoK 0 2 : Nat) : Int) 1 = ((1 : Nat) : Int) := by decide
      go_wp2_with fail
      go_region
      have h1 := ((H.out.set_ (k := 2) (b := twoK 1) (by omega) 1 (by decide)).alloc (.cells #[.int .i64 2, .int .i64 0] 72)).drew
      clear H d0 d1 d2 d3 c0 c1 c2 c3 c4 c5 c6 c7 c8 c9 c10 c11 cs cf hsz hor
      change Exit.inBlock 1 _ _ _ ((wr.setCell ⟨w.heap.size + 1, 2 + 1, none⟩ (.int .u16 ((1 : Nat) : Int))).alloc (.cells #[.int .i64 2, .int .i64 0] 72)).drew
      generalize ((wr.setCell ⟨w.heap.size + 1, 2 + 1, none⟩ (.int .u16 ((1 : Nat) : Int))).alloc (.cells #[.int .i64 2, .int .i64 0] 72)).drew = w5 at h1 ⊢
      have H := Lib.hid h1
      clear h1
      go_wp2_with fail
      go_roundw
      case rel => exact ⟨1, by omega, by go_num, H.out⟩
      case measure => simp [intOf]
    · have hor : bits BinOp.or IntKind.u16 ((twoK 1 3 : Nat) : Int) 2 = ((2 : Nat) : Int) := by decide
      go_wp2_with fail
      go_region
      have h1 := ((H.out.set_ (k := 3) (b := twoK 2) (by omega) 2 (by decide)).alloc (.cells #[.int .i64 3, .int .i64 1] 72)).drew
      clear H d0 d1 d2 d3 c0 c1 c2 c3 c4 c5 c6 c7 c8 c9 c10 c11 cs cf hsz hor
      change Exit.inBlock 1 _ _ _ ((wr.setCell ⟨w.heap.size + 1, 3 + 1, none⟩ (.int .u16 ((2 : Nat) : Int))).alloc (.cells #[.int .i64 3, .int .i64 1] 72)).drew
      generalize ((wr.setCell ⟨w.heap.size + 1, 3 + 1, none⟩ (.int .u16 ((2 : Nat) : Int))).alloc (.cells #[.int .i64 3, .int .i64 1] 72)).drew = w5 at h1 ⊢
      have H := Lib.hid h1
      clear h1
      go_wp2_with fail
      go_roundw
      case rel => exact ⟨2, by omega, by go_num, H.out⟩
      case measure => simp [intOf]
    · have zs := H.out.res.size
      obtain ⟨z0, z1, z2, z3, z4, z5, z6, z7, z8, z9, z10, z11⟩ := H.out.res.rows
      have zf := H.out.res.free
      go_wp2_with fail
      clear d0 d1 d2 d3 c0 c1 c2 c3 c4 c5 c6 c7 c8 c9 c10 c11 cs cf hsz zs z0 z1 z2 z3 z4 z5 z6 z7 z8 z9 z10 z11 zf
      refine post_fill (W := wr) (g := w.heap.size) 4 (twoK 2) H.out.res H.out.below (by omega) ?_
      intro wz hz hbz
      have hs := hz.size
      obtain ⟨c0, c1, c2, c3, c4, c5, c6, c7, c8, c9, c10, c11⟩ := hz.rows
      exact bodyPost_ret (v := relV 4 (twoK 2))
        (by simp [results, Tryd.results42, go_sem, hs, c0, c1, c2, c3, c4, c5, c6, c7, c8, c9, c10, c11]) rfl ⟨rfl, hbz⟩
end Go.Proofs.YtfjanniojphdoaaDoor
