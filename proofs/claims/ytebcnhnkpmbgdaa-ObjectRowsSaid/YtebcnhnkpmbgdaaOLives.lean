/-
  alibkeep.objectLives answers true.
-/
import Derived.Test.YtebcnhnkpmbgdaaObjPlay
import Derived.Test.YtebcnhnkpmbgdaaOk
namespace Go.Proofs.Ytebcnhnkpmbgdaa
open Go.RowKit
set_option maxRecDepth 20000

abbrev liveQ : List Dd := [⟨3, 1, 0⟩, ⟨3, 2, 0⟩, ⟨4, 0, 1⟩, ⟨4, 0, 1⟩]
abbrev liveS : List Dd := [⟨5, 1, 0⟩, ⟨5, 2, 0⟩, ⟨6, 0, 2⟩]
theorem live_q : playR 2 liveQ = 3 := by decide +kernel
theorem live_s : playR 3 liveS = 3 := by decide +kernel

set_option maxHeartbeats 2000000 in
theorem olives_any (w : World) : Calls Try.prog 27 #[] w fun e w' => e = .returned (.bool true) ∧ Below w.heap.size w w' := by
  have HQ := Lib.hid (fun W : World => LRd.of_lit (f := ddCs) (s := 3) (w := W) (l := liveQ) (fun _ => rfl) 61 (cs := #[.int .i64 3, .int .i64 1, .int .i64 0, .int .i64 3, .int .i64 2, .int .i64 0, .int .i64 4, .int .i64 0, .int .i64 1, .int .i64 4, .int .i64 0, .int .i64 1]) rfl (n := 4) rfl (by unfold maxLen; omega))
  have HS := Lib.hid (fun W : World => LRd.of_lit (f := ddCs) (s := 3) (w := W) (l := liveS) (fun _ => rfl) 61 (cs := #[.int .i64 5, .int .i64 1, .int .i64 0, .int .i64 5, .int .i64 2, .int .i64 0, .int .i64 6, .int .i64 0, .int .i64 2]) rfl (n := 3) rfl (by unfold maxLen; omega))
  have HE := Lib.hid (fun W : World => IRd.fresh W 25 [0, 0] 2 rfl #[.int .i64 0, .int .i64 0] rfl)
  go_enter Try.func27, Try.ntmps27
  go_wp2_with fail
  refine (play_any 2 ((HQ.out _).mono (by simp))).mono ?_
  rw [live_q]
  rintro e w1 ⟨rfl, hb1⟩
  have H1 := Lib.hid (((Below.refl w.heap.size w).alloc (Nat.le_refl _) _).trans (hb1.mono (by simp)))
  clear hb1
  go_wp2_with fail
  refine (play_any 3 ((HS.out _).mono (by simp))).mono ?_
  rw [live_s]
  rintro e w2 ⟨rfl, hb2⟩
  have H2 := Lib.hid ((H1.out.alloc H1.out.size _).trans (hb2.mono (by have := H1.out.size; simp; omega)))
  clear hb2 H1
  rw [show startE 2 = 0 from rfl, show startE 3 = 0 from rfl]
  go_wp2_with fail
  refine (ok_zero (HE.out _) (by simp) (by decide)).mono ?_
  rintro e w3 ⟨rfl, rfl⟩
  go_wp2_with fail
  go_ret
  exact ⟨rfl, H2.out.alloc H2.out.size _⟩
end Go.Proofs.Ytebcnhnkpmbgdaa
