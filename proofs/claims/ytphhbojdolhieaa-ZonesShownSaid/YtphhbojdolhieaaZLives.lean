/-
  alibkeep.zonesLives answers true.
-/
import Derived.Test.YtphhbojdolhieaaZCheck
import Derived.Test.YtphhbojdolhieaaEqZn
import Derived.Test.YtphhbojdolhieaaLate
import Derived.Test.YtphhbojdolhieaaTwoOf
import Derived.Test.YtphhbojdolhieaaOk
namespace Go.Proofs.Ytphhbojdolhieaa
open Go.RowKit Go.Maps
set_option maxRecDepth 20000
theorem zlate_ok : zonesE staleL = 0 := by decide +kernel
theorem zlate_kind : (badZ (callsOf [1] staleL).1).kind = 5 := by decide +kernel
theorem zlate_a : (badZ (callsOf [1] staleL).1).a = 0 := by decide +kernel
theorem zlate_b : (badZ (callsOf [1] staleL).1).b = 5 := by decide +kernel
theorem zlate_bad : badZ (callsOf [1] staleL).1 = ⟨5, 0, 5⟩ := by
  have h1 := zlate_kind
  have h2 := zlate_a
  have h3 := zlate_b
  cases h : badZ (callsOf [1] staleL).1
  rw [h] at h1 h2 h3
  simp only at h1 h2 h3
  subst h1 h2 h3
  rfl
theorem zlate_zones : zonesL (callsOf [1] staleL).1 = [⟨0, -1, 2, true⟩, ⟨5, 1, 0, false⟩] := by decide +kernel
theorem ztwo_ok : zonesE twoS = 0 := by decide +kernel
theorem ztwo_kind : (badZ (callsOf [1] twoS).1).kind = 0 := by decide +kernel
set_option maxHeartbeats 4000000 in
theorem zlives_any (w : World) : Calls Try.prog 14 #[] w fun e w' => e = .returned (.bool true) ∧ Below w.heap.size w w' := by
  go_enter Try.func14, Try.ntmps14
  go_wp2_with fail
  refine (late_any _).mono ?_
  rintro e w1 ⟨g1, rfl, he1, hb1⟩
  have HC := Lib.hid (zcheck_any he1)
  have H1 := Lib.hid hb1
  clear he1 hb1
  go_wp2_with fail
  refine HC.out.mono ?_
  rintro e w2 ⟨hb2, h⟩
  have h' : e = .returned (.tuple #[.bool false, .agg #[.int .i64 5, .int .i64 0, .int .i64 5], .int .i64 0]) := by
    rcases h with ⟨h1, _⟩ | ⟨_, h1⟩
    · exact absurd zlate_ok h1
    · rw [h1, zlate_bad]
      rfl
  subst h'
  have hb3 : Below w.heap.size w (w2.alloc (.cells #[.int .i64 5, .int .i64 0, .int .i64 5] 28)) := (H1.out.trans (hb2.mono H1.out.size)).alloc (H1.out.trans (hb2.mono H1.out.size)).size _
  have H2 := Lib.hid (And.intro hb3 (Lies.new w2 28 #[.int .i64 5, .int .i64 0, .int .i64 5]))
  clear hb2 h HC H1 hb3
  go_wp2_with fail
  change Calls _ _ _ (w2.alloc (.cells #[.int .i64 5, .int .i64 0, .int .i64 5] 28)) _
  generalize w2.alloc (.cells #[.int .i64 5, .int .i64 0, .int .i64 5] 28) = W3 at H2 ⊢
  generalize w2.heap.size = G at H2 ⊢
  refine (late_any _).mono ?_
  rintro e w4 ⟨g4, rfl, he4, hb4⟩
  have HC := Lib.hid (zonesF_any he4)
  have H4 := Lib.hid (And.intro (H2.out.1.trans (hb4.mono H2.out.1.size)) (Lies.below H2.out.2 hb4 H2.out.2.lt))
  clear he4 hb4 H2
  go_wp2_with fail
  refine HC.out.mono ?_
  rintro e w5 ⟨hb5, h⟩
  obtain ⟨v, hv, hz⟩ : ∃ v, e = .returned (.tuple #[v, .int .i64 0]) ∧ ZnRd w5 w5.heap.size v [⟨0, -1, 2, true⟩, ⟨5, 1, 0, false⟩] := by
    rcases h with ⟨h1, _⟩ | ⟨_, v, h1, h2⟩
    · exact absurd zlate_ok h1
    · rw [zlate_zones] at h2
      exact ⟨v, h1, h2⟩
  subst hv
  obtain ⟨Az, cz, rfl, -, -⟩ := hz.is
  have H5 := Lib.hid (And.intro (H4.out.1.trans (hb5.mono H4.out.1.size)) (And.intro (Lies.below H4.out.2 hb5 H4.out.2.lt) hz))
  clear hb5 h HC H4 hz
  go_wp2_with fail
  refine (twoS_any _).mono ?_
  rintro e w6 ⟨g6, rfl, he6, hb6⟩
  have HC := Lib.hid (zcheck_any he6)
  have H6 := Lib.hid (And.intro (H5.out.1.trans (hb6.mono H5.out.1.size)) (And.intro (Lies.below H5.out.2.1 hb6 H5.out.2.1.lt) ((H5.out.2.2.below hb6).mono hb6.size)))
  clear he6 hb6 H5
  go_wp2_with fail
  refine HC.out.mono ?_
  rintro e w7 ⟨hb7, h⟩
  obtain ⟨ba, bb, h'⟩ : ∃ ba bb, e = .returned (.tuple #[.bool true, .agg #[.int .i64 0, .int .i64 ba, .int .i64 bb], .int .i64 0]) := by
    rcases h with ⟨h1, _⟩ | ⟨_, h1⟩
    · exact absurd ztwo_ok h1
    · refine ⟨(badZ (callsOf [1] twoS).1).a, (badZ (callsOf [1] twoS).1).b, ?_⟩
      rw [h1, show bzV (badZ (callsOf [1] twoS).1) = .agg #[.int .i64 (badZ (callsOf [1] twoS).1).kind, .int .i64 (badZ (callsOf [1] twoS).1).a, .int .i64 (badZ (callsOf [1] twoS).1).b] from rfl, ztwo_kind]
      rfl
  subst h'
  have hb7' := H6.out.1.trans (hb7.mono H6.out.1.size)
  have hal : Below w7.heap.size w7 (w7.alloc (.cells #[.int .i64 0, .int .i64 ba, .int .i64 bb] 28)) := (Below.refl _ _).alloc (Nat.le_refl _) _
  have hal2 : Below w7.heap.size w7 ((w7.alloc (.cells #[.int .i64 0, .int .i64 ba, .int .i64 bb] 28)).alloc (.cells #[.int .i64 0, .int .i64 0, .int .i64 0] 24)) := hal.alloc hal.size _
  have H7 := Lib.hid (And.intro (hb7'.trans (hal2.mono hb7'.size)) (And.intro (Lies.below (Lies.below H6.out.2.1 hb7 H6.out.2.1.lt) hal2 (Lies.below H6.out.2.1 hb7 H6.out.2.1.lt).lt) ((((H6.out.2.2.below hb7).mono hb7.size).below hal2).mono hal2.size)))
  have HOK := Lib.hid (ok_zero (IRd.fresh (w7.alloc (.cells #[.int .i64 0, .int .i64 ba, .int .i64 bb] 28)) 24 [0, 0, 0] 3 rfl #[.int .i64 0, .int .i64 0, .int .i64 0] rfl) (by decide) (by decide))
  clear hb7 h HC H6 hb7' hal hal2
  go_wp2_with fail
  rw [← World.size_alloc w7 (.cells #[.int .i64 0, .int .i64 ba, .int .i64 bb] 28)]
  refine HOK.out.mono ?_
  rintro e w8 ⟨rfl, rfl⟩
  have g0 := Lies.cell H7.out.2.1 0
  have g1 := Lies.cell H7.out.2.1 1
  have g2 := Lies.cell H7.out.2.1 2
  simp only [List.getElem?_toArray, List.getElem?_cons_zero, List.getElem?_cons_succ] at g0 g1 g2
  generalize (w7.alloc (.cells #[.int .i64 0, .int .i64 ba, .int .i64 bb] 28)).alloc (.cells #[.int .i64 0, .int .i64 0, .int .i64 0] 24) = W8 at H7 g0 g1 g2 ⊢
  have hal : Below W8.heap.size W8 (W8.alloc (.cells #[.int .i64 0, .int .i64 (-1), .int .i64 2, .bool true, .int .i64 5, .int .i64 1, .int .i64 0, .bool false] 35)) := (Below.refl _ _).alloc (Nat.le_refl _) _
  have hN : ZnRd (W8.alloc (.cells #[.int .i64 0, .int .i64 (-1), .int .i64 2, .bool true, .int .i64 5, .int .i64 1, .int .i64 0, .bool false] 35)) (W8.heap.size + 1) (.slice (some ⟨W8.heap.size, 0, none⟩) 2 2) [⟨0, -1, 2, true⟩, ⟨5, 1, 0, false⟩] :=
    LRd.of_lit (f := znCs) (s := 4) (w := W8) (l := [⟨0, -1, 2, true⟩, ⟨5, 1, 0, false⟩]) (fun _ => rfl) 35 (cs := #[.int .i64 0, .int .i64 (-1), .int .i64 2, .bool true, .int .i64 5, .int .i64 1, .int .i64 0, .bool false]) rfl (n := 2) rfl (by unfold maxLen; omega)
  have HEQ := Lib.hid (eqZn_any (H7.out.2.2.below hal) hN)
  have H8 := Lib.hid (H7.out.1.alloc H7.out.1.size (.cells #[.int .i64 0, .int .i64 (-1), .int .i64 2, .bool true, .int .i64 5, .int .i64 1, .int .i64 0, .bool false] 35))
  clear hal hN HOK H7
  go_wp2_with fail
  refine HEQ.out.mono ?_
  rintro e w9 ⟨rfl, hb9⟩
  have H9 := Lib.hid (H8.out.trans (hb9.mono H8.out.size))
  clear hb9 HEQ H8
  go_wp2_with fail
  go_ret
  exact ⟨rfl, H9.out⟩
end Go.Proofs.Ytphhbojdolhieaa
