/-
  alibkeep.historyLives answers true.
-/
import Derived.Test.YtndcgliopckllaaCalls
import Derived.Test.YtndcgliopckllaaEqCl
namespace Go.Proofs.Ytndcgliopckllaa
open Go.RowKit
set_option maxRecDepth 20000

/-- A write and a read by two, at once. -/
abbrev twoL : List Ev := [⟨0, 0, 1, 5⟩, ⟨1, 0, 2, 0⟩, ⟨1, 0, 0, 5⟩, ⟨0, 0, 0, 0⟩]
theorem two_any (w : World) : Calls Try.prog 38 #[] w fun e w' => ∃ g, e = .returned (.slice (some ⟨g, 0, none⟩) 4 4) ∧ ERd w' w'.heap.size (.slice (some ⟨g, 0, none⟩) 4 4) twoL ∧ Below w.heap.size w w' := by
  go_enter Try.func38, Try.ntmps38
  go_wp2_with fail
  go_ret
  refine ⟨w.heap.size, rfl, ?_, (Below.refl _ _).alloc (Nat.le_refl _) _⟩
  have := LRd.of_lit (f := evCs) (s := 4) (w := w) (l := twoL) (fun _ => rfl) 48 (cs := #[.int .i64 0, .int .i64 0, .int .i64 1, .int .i64 5, .int .i64 1, .int .i64 0, .int .i64 2, .int .i64 0, .int .i64 1, .int .i64 0, .int .i64 0, .int .i64 5, .int .i64 0, .int .i64 0, .int .i64 0, .int .i64 0]) rfl (n := 4) rfl (by unfold maxLen; omega)
  simpa using this

theorem two_calls : callsOf [1] twoL = ([⟨0, 0, 1, 5, 0, 0, 3⟩, ⟨1, 0, 2, 0, 5, 1, 2⟩], 0, 0) := by decide +kernel
theorem two_rest : callsOf [1] (twoL.drop 2) = ([], 0, 4) := by decide +kernel

set_option maxHeartbeats 2000000 in
theorem lives_any (w : World) : Calls Try.prog 22 #[] w fun e w' => e = .returned (.bool true) ∧ Below w.heap.size w w' := by
  have HL := Lib.hid (fun W : World => LRd.of_lit (f := intCs) (s := 1) (w := W) (l := [1]) (fun _ => rfl) 3 (cs := #[.int .i64 1]) rfl (n := 1) rfl (by unfold maxLen; omega))
  go_enter Try.func22, Try.ntmps22
  go_wp2_with fail
  refine (two_any _).mono ?_
  rintro e w1 ⟨g1, rfl, he1, hb1⟩
  have hw1 : Below w.heap.size w w1 := ((Below.refl _ _).alloc (Nat.le_refl _) _).trans (hb1.mono (by simp))
  have hn1 := ((HL.out w).below (hb1.mono (by simp))).mono (B' := w1.heap.size) (by have := hb1.size; simp at this; omega)
  have HC := Lib.hid (calls_any hn1 he1)
  have H1 := Lib.hid hw1
  clear hw1 hn1 he1 hb1
  go_wp2_with fail
  refine HC.out.mono ?_
  rintro e w2 ⟨v2, rfl, hb2, hr2⟩
  have H2 := Lib.hid (And.intro (H1.out.trans (hb2.mono H1.out.size)) hr2)
  clear hb2 hr2 HC H1
  rw [two_calls] at H2 ⊢
  simp only at H2
  go_wp2_with fail
  refine (two_any _).mono ?_
  rintro e w3 ⟨g3, rfl, he3, hb3⟩
  have hw3 : Below w2.heap.size w2 w3 := ((Below.refl _ _).alloc (Nat.le_refl _) _).trans (hb3.mono (by simp))
  have hn3 := ((HL.out w2).below (hb3.mono (by simp))).mono (B' := w3.heap.size) (by have := hb3.size; simp at this; omega)
  have hd3 := LRd.drop_ he3 (k := 2) (by omega)
  have H3 := Lib.hid (And.intro (H2.out.1.trans (hw3.mono H2.out.1.size)) ((H2.out.2.below hw3).mono hw3.size))
  have HC := Lib.hid (calls_any hn3 hd3)
  clear hw3 hn3 he3 hb3 hd3 H2
  go_wp2_with fail
  refine HC.out.mono ?_
  rintro e w4 ⟨v4, rfl, hb4, hr4⟩
  have H4 := Lib.hid (And.intro (H3.out.1.trans (hb4.mono H3.out.1.size)) ((H3.out.2.below hb4).mono hb4.size))
  clear hb4 hr4 HC H3
  rw [two_rest]
  have HW := Lib.hid (fun W : World => LRd.of_lit (f := clCs) (s := 7) (w := W) (l := [⟨0, 0, 1, 5, 0, 0, 3⟩, ⟨1, 0, 2, 0, 5, 1, 2⟩]) (fun _ => rfl) 33 (cs := #[.int .i64 0, .int .i64 0, .int .i64 1, .int .i64 5, .int .i64 0, .int .i64 0, .int .i64 3, .int .i64 1, .int .i64 0, .int .i64 2, .int .i64 0, .int .i64 5, .int .i64 1, .int .i64 2]) rfl (n := 2) rfl (by unfold maxLen; omega))
  go_wp2_with fail
  refine (eqCl_any (H4.out.2.below ((Below.refl _ _).alloc (Nat.le_refl _) _)) (HW.out w4)).mono ?_
  rintro e w5 ⟨rfl, hb5⟩
  have hd : decide (([⟨0, 0, 1, 5, 0, 0, 3⟩, ⟨1, 0, 2, 0, 5, 1, 2⟩] : List Cl) = [⟨0, 0, 1, 5, 0, 0, 3⟩, ⟨1, 0, 2, 0, 5, 1, 2⟩]) = true := decide_eq_true rfl
  rw [hd]
  have H5 := Lib.hid ((H4.out.1.alloc H4.out.1.size _).trans (hb5.mono (by have := H4.out.1.size; simp; omega)))
  clear hb5 H4 hd
  go_wp2_with fail
  go_ret
  exact ⟨rfl, H5.out⟩
end Go.Proofs.Ytndcgliopckllaa
