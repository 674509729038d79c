/-
  Contracts of order.Close, by whether Check finds a fault.
-/
import Derived.Test.YtndcgliopckllaaClose
namespace Go.Proofs.Ytndcgliopckllaa
open Go.RowKit
set_option maxRecDepth 20000

/-- The zero relation, as a value. -/
abbrev zeroV : Value := .agg #[.int .i64 0, .int .u16 0, .int .u16 0, .int .u16 0, .int .u16 0, .int .u16 0, .int .u16 0, .int .u16 0, .int .u16 0, .int .u16 0, .int .u16 0, .int .u16 0, .int .u16 0]

/-- What Check answers, whatever the memory. -/
def Checks (n : Int) (a : Nat → Nat) (E : Int) : Prop := ∀ w : World, Calls Try.prog 41 #[relV n a] w fun e w' => e = .returned (.int .i64 E) ∧ Below w.heap.size w w'

theorem close_err (n : Int) (a : Nat → Nat) (E : Int) (w : World) (hE : (E != 0) = true) (hc : Checks n a E) :
    Calls Try.prog 27 #[relV n a] w fun e w' => e = .returned (.tuple #[zeroV, .bool false, .int .i64 E]) ∧ Below w.heap.size w w' := by
  go_enter Try.func27, Try.ntmps27
  go_wp2_with fail
  refine (hc _).mono ?_
  rintro e w1 ⟨rfl, hb1⟩
  have hB0 : RelB w1 (w.heap.size + 1) 0 (fun _ => 0) := Lies.below (Lies.cast (by have h := Lies.new (w.alloc (.cells (relCs n a) 41)) 41 (relCs 0 fun _ => 0); rw [World.size_alloc] at h; exact h) rfl) hb1 (by rw [World.size_alloc, World.size_alloc]; omega)
  have hbw : Below w.heap.size w w1 := (((Below.refl _ _).alloc (Nat.le_refl _) _).alloc (by simp) _).trans (hb1.mono (by simp; omega))
  have hs := hB0.size
  obtain ⟨c0, c1, c2, c3, c4, c5, c6, c7, c8, c9, c10, c11⟩ := hB0.rows
  have hf := hB0.free
  have HB := Lib.hid hbw
  clear hb1 hc hbw
  go_wp2_with fail
  have hz := hB0.fill 0 (fun _ => 0)
  have hbz := fillW_below HB.out (g := w.heap.size + 1) (by omega) 0 (fun _ => 0)
  clear hs c0 c1 c2 c3 c4 c5 c6 c7 c8 c9 c10 c11 hf
  change bodyPost _ _ _ _ _ (fillW w1 (w.heap.size + 1) 0 (fun _ => 0))
  generalize fillW w1 (w.heap.size + 1) 0 (fun _ => 0) = wz at hz hbz ⊢
  have hs := hz.size
  obtain ⟨c0, c1, c2, c3, c4, c5, c6, c7, c8, c9, c10, c11⟩ := hz.rows
  exact bodyPost_ret (v := .tuple #[zeroV, .bool false, .int .i64 E])
    (by simp [results, Try.results27, go_sem, hs, c0, c1, c2, c3, c4, c5, c6, c7, c8, c9, c10, c11]) rfl ⟨rfl, hbz⟩

/-- A relation on n items that Check lets by. -/
structure Good (n : Nat) (a : Nat → Nat) : Prop where
  le : n ≤ 12
  lt : ∀ i, i < 12 → a i < 65536
  rows : ∀ i, i < 12 → rowBad n i (a i) = false
/-- Its closure. -/
def clo (n : Nat) (a : Nat → Nat) : Nat → Nat := warsh n a n

theorem close_any (n : Nat) (a : Nat → Nat) (w : World) (h : Good n a) :
    Calls Try.prog 27 #[relV n a] w fun e w' => e = .returned (.tuple #[relV n (clo n a), .bool (cyc (clo n a) n), .int .i64 0]) ∧ Below w.heap.size w w' :=
  close_ok n a w h.le h.lt h.rows
theorem close_yes (n : Nat) (a : Nat → Nat) (w : World) (h : Good n a) (hy : cyc (clo n a) n = true) :
    Calls Try.prog 27 #[relV n a] w fun e w' => e = .returned (.tuple #[relV n (clo n a), .bool true, .int .i64 0]) ∧ Below w.heap.size w w' := hy ▸ close_any n a w h
theorem close_no (n : Nat) (a : Nat → Nat) (w : World) (h : Good n a) (hy : cyc (clo n a) n = false) :
    Calls Try.prog 27 #[relV n a] w fun e w' => e = .returned (.tuple #[relV n (clo n a), .bool false, .int .i64 0]) ∧ Below w.heap.size w w' := hy ▸ close_any n a w h
end Go.Proofs.Ytndcgliopckllaa
