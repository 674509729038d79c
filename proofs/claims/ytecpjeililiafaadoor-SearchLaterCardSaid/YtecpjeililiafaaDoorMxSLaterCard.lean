/-
  Joined by a program out of: SLaterW, SLaterCard.
-/
import Derived.Test.YtecpjeililiafaaDoorMgBB
import Derived.Test.YtecpjeililiafaaDoorMgAX
import Derived.Test.YtecpjeililiafaaDoorTie
import Derived.Test.YtecpjeililiafaaDoorCards
import Derived.SevenTiedAt
import Derived.Stop.Joined

/-
  The walk of the law SearchLater.
-/
namespace Go.Proofs.YtecpjeililiafaaDoor
open Go.RowKit
set_option maxRecDepth 20000

set_option maxHeartbeats 4000000 in
theorem slater_any {tv lv : Value} {ts : List Int} {l : List Ev} {w : World} (ht : NRd w w.heap.size tv ts) (hl : ERd w w.heap.size lv l) (k : Int) (hp : Pow10 w.heap.size w) :
    Calls Tryd.prog 11 #[tv, lv, .int .i64 k] w fun e w' => e = .returned (.bool true) ∧ Below w.heap.size w w' := by
  obtain ⟨At, capt, rfl, -, -⟩ := ht.is
  obtain ⟨Al, capl, rfl, hl1, hl2⟩ := hl.is
  unfold maxLen at hl2
  have HT := Lib.hid (And.intro ht (And.intro hl hp))
  have HF := Lib.hid (find_say ht hl hp)
  obtain ⟨tl, htl⟩ : ∃ tl, tl = ts.length := ⟨_, rfl⟩
  obtain ⟨L, hL⟩ : ∃ L, L = l.length := ⟨_, rfl⟩
  rw [← htl, ← hL] at HF HT
  rw [← htl, ← hL]
  rw [← hL] at hl1
  have HLL := Lib.hid (And.intro htl hL)
  clear ht hl hp htl hL
  have hwL : IntKind.i64.wrap ((L : Int) - 1) = (L : Int) - 1 := by rw [IntKind.wrap_i64]; omega
  go_enter Tryd.func11, Tryd.ntmps11
  go_wp2_with fail
  refine HF.out.mono ?_
  rintro e w1 ⟨hb1, v, rfl, hv⟩
  have H1 := Lib.hid hb1
  clear hb1 hv HF
  by_cases hE : searchE (callsOf ts l) = 0
  · cases hb : foundB ts (callsOf ts l)
    · rw [hE]
      clear hE hb
      have HSX := Lib.hid (fun (W : World) (_ : Below w.heap.size w W) => trivial)
      go_wp2_with fail
      refine wp_region_held_drew (S := fun _ => True) (by kernel_rfl) (HSX.out _ (H1.out.drew)) (fun hHeld => ?_)
      change wpAnyH _ _ _ _ _ 35 _ _ _
      clear hHeld
      have HD := Lib.hid (H1.out.drew)
      have HPD := Lib.hid ((HT.out.2.2.on HD.out).mono HD.out.size)
      generalize w1.drew = WD at HD HPD ⊢
      refine wpAnyH_ready (rs := [0]) (by kernel_rfl) (by simp) ?_
      refine AllReadyH.cons (o := _) rfl (fun K hK => ?_) AllReadyH.nil
      go_simp
      refine (slives_any WD HPD.out).mono ?_
      rintro e w2 ⟨rfl, hb2⟩
      have H2 := Lib.hid (HD.out.trans (hb2.mono HD.out.size))
      clear hb2
      refine hK.out _ _ (HSX.out _ H2.out) (fun _ => ?_)
      clear hK K
      refine takeAt 1 22 (oi := _) (v := ?_) rfl rfl (by kernel_rfl) (by kernel_rfl) (by kernel_rfl) (fun _ _ _ h => h) (by rfl) ?_ (HSX.out _ H2.out) ?_
      rotate_left
      · (intro w hSw; go_simp; try with_reducible rfl)
      simp only [Act.put, List.setIfInBounds_toArray, List.set_cons_zero, List.set_cons_succ]
      refine takeAt 2 23 (oi := _) (v := ?_) rfl rfl (by kernel_rfl) (by kernel_rfl) (by kernel_rfl) (fun _ _ _ h => h) (by rfl) ?_ (HSX.out _ H2.out) ?_
      rotate_left
      · (intro w hSw; go_simp; try with_reducible rfl)
      simp only [Act.put, List.setIfInBounds_toArray, List.set_cons_zero, List.set_cons_succ]
      refine takeAt 3 24 (oi := _) (v := ?_) rfl rfl (by kernel_rfl) (by kernel_rfl) (by kernel_rfl) (fun _ _ _ h => h) (by rfl) ?_ (HSX.out _ H2.out) ?_
      rotate_left
      · (intro w hSw; go_simp; try with_reducible rfl)
      simp only [Act.put, List.setIfInBounds_toArray, List.set_cons_zero, List.set_cons_succ]
      refine takeAt 4 25 (oi := _) (v := ?_) rfl rfl (by kernel_rfl) (by kernel_rfl) (by kernel_rfl) (fun _ _ _ h => h) (by rfl) ?_ (HSX.out _ H2.out) ?_
      rotate_left
      · (intro w hSw; go_simp; try with_reducible rfl)
      simp only [Act.put, List.setIfInBounds_toArray, List.set_cons_zero, List.set_cons_succ]
      refine takeAt 5 26 (oi := _) (v := ?_) rfl rfl (by kernel_rfl) (by kernel_rfl) (by kernel_rfl) (fun _ _ _ h => h) (by rfl) ?_ (HSX.out _ H2.out) ?_
      rotate_left
      · (intro w hSw; go_simp; try with_reducible rfl)
      simp only [Act.put, List.setIfInBounds_toArray, List.set_cons_zero, List.set_cons_succ]
      refine takeAt 6 27 (oi := _) (v := ?_) rfl rfl (by kernel_rfl) (by kernel_rfl) (by kernel_rfl) (fun _ _ _ h => h) (by rfl) ?_ (HSX.out _ H2.out) ?_
      rotate_left
      · (intro w hSw; go_simp; try with_reducible rfl)
      simp only [Act.put, List.setIfInBounds_toArray, List.set_cons_zero, List.set_cons_succ]
      refine takeAt 7 28 (oi := _) (v := ?_) rfl rfl (by kernel_rfl) (by kernel_rfl) (by kernel_rfl) (fun _ _ _ h => h) (by rfl) ?_ (HSX.out _ H2.out) ?_
      rotate_left
      · (intro w hSw; go_simp; try with_reducible rfl)
      simp only [Act.put, List.setIfInBounds_toArray, List.set_cons_zero, List.set_cons_succ]
      refine takeAt 8 29 (oi := _) (v := ?_) rfl rfl (by kernel_rfl) (by kernel_rfl) (by kernel_rfl) (fun _ _ _ h => h) (by rfl) ?_ (HSX.out _ H2.out) ?_
      rotate_left
      · (intro w hSw; go_simp; try with_reducible rfl)
      simp only [Act.put, List.setIfInBounds_toArray, List.set_cons_zero, List.set_cons_succ]
      refine takeAt 9 30 (oi := _) (v := ?_) rfl rfl (by kernel_rfl) (by kernel_rfl) (by kernel_rfl) (fun _ _ _ h => h) (by rfl) ?_ (HSX.out _ H2.out) ?_
      rotate_left
      · (intro w hSw; go_simp; try with_reducible rfl)
      simp only [Act.put, List.setIfInBounds_toArray, List.set_cons_zero, List.set_cons_succ]
      refine takeAt 10 31 (oi := _) (v := ?_) rfl rfl (by kernel_rfl) (by kernel_rfl) (by kernel_rfl) (fun _ _ _ h => h) (by rfl) ?_ (HSX.out _ H2.out) ?_
      rotate_left
      · (intro w hSw; go_simp; try with_reducible rfl)
      simp only [Act.put, List.setIfInBounds_toArray, List.set_cons_zero, List.set_cons_succ]
      refine skipAt 11 32 (oi := _) rfl rfl (by kernel_rfl) (by kernel_rfl) (by kernel_rfl) (fun _ _ _ h => h) (by rfl) (HSX.out _ H2.out) ?_
      simp only [Act.put, List.setIfInBounds_toArray, List.set_cons_zero, List.set_cons_succ]
      refine skipAt 12 33 (oi := _) rfl rfl (by kernel_rfl) (by kernel_rfl) (by kernel_rfl) (fun _ _ _ h => h) (by rfl) (HSX.out _ H2.out) ?_
      simp only [Act.put, List.setIfInBounds_toArray, List.set_cons_zero, List.set_cons_succ]
      refine takeAt 13 34 (oi := _) (v := ?_) rfl rfl (by kernel_rfl) (by kernel_rfl) (by kernel_rfl) (fun _ _ _ h => h) (by rfl) ?_ (HSX.out _ H2.out) ?_
      rotate_left
      · (intro w hSw; go_simp; try with_reducible rfl)
      simp only [Act.put, List.setIfInBounds_toArray, List.set_cons_zero, List.set_cons_succ]
      refine takeAt 14 35 (oi := _) (v := ?_) rfl rfl (by kernel_rfl) (by kernel_rfl) (by kernel_rfl) (fun _ _ _ h => h) (by rfl) ?_ (HSX.out _ H2.out) ?_
      rotate_left
      · (intro w hSw; go_simp; try with_reducible rfl)
      simp only [Act.put, List.setIfInBounds_toArray, List.set_cons_zero, List.set_cons_succ]
      refine skipAt 15 36 (oi := _) rfl rfl (by kernel_rfl) (by kernel_rfl) (by kernel_rfl) (fun _ _ _ h => h) (by rfl) (HSX.out _ H2.out) ?_
      simp only [Act.put, List.setIfInBounds_toArray, List.set_cons_zero, List.set_cons_succ]
      refine skipAt 16 37 (oi := _) rfl rfl (by kernel_rfl) (by kernel_rfl) (by kernel_rfl) (fun _ _ _ h => h) (by rfl) (HSX.out _ H2.out) ?_
      simp only [Act.put, List.setIfInBounds_toArray, List.set_cons_zero, List.set_cons_succ]
      refine skipAt 17 38 (oi := _) rfl rfl (by kernel_rfl) (by kernel_rfl) (by kernel_rfl) (fun _ _ _ h => h) (by rfl) (HSX.out _ H2.out) ?_
      simp only [Act.put, List.setIfInBounds_toArray, List.set_cons_zero, List.set_cons_succ]
      refine skipAt 18 39 (oi := _) rfl rfl (by kernel_rfl) (by kernel_rfl) (by kernel_rfl) (fun _ _ _ h => h) (by rfl) (HSX.out _ H2.out) ?_
      simp only [Act.put, List.setIfInBounds_toArray, List.set_cons_zero, List.set_cons_succ]
      refine skipAt 19 40 (oi := _) rfl rfl (by kernel_rfl) (by kernel_rfl) (by kernel_rfl) (fun _ _ _ h => h) (by rfl) (HSX.out _ H2.out) ?_
      simp only [Act.put, List.setIfInBounds_toArray, List.set_cons_zero, List.set_cons_succ]
      refine takeAt 20 41 (oi := _) (v := ?_) rfl rfl (by kernel_rfl) (by kernel_rfl) (by kernel_rfl) (fun _ _ _ h => h) (by rfl) ?_ (HSX.out _ H2.out) ?_
      rotate_left
      · (intro w hSw; go_simp; try with_reducible rfl)
      simp only [Act.put, List.setIfInBounds_toArray, List.set_cons_zero, List.set_cons_succ]
      refine takeAt 21 42 (oi := _) (v := ?_) rfl rfl (by kernel_rfl) (by kernel_rfl) (by kernel_rfl) (fun _ _ _ h => h) (by rfl) ?_ (HSX.out _ H2.out) ?_
      rotate_left
      · (intro w hSw; go_simp; try with_reducible rfl)
      simp only [Act.put, List.setIfInBounds_toArray, List.set_cons_zero, List.set_cons_succ]
      refine skipAt 22 43 (oi := _) rfl rfl (by kernel_rfl) (by kernel_rfl) (by kernel_rfl) (fun _ _ _ h => h) (by rfl) (HSX.out _ H2.out) ?_
      simp only [Act.put, List.setIfInBounds_toArray, List.set_cons_zero, List.set_cons_succ]
      refine skipAt 23 44 (oi := _) rfl rfl (by kernel_rfl) (by kernel_rfl) (by kernel_rfl) (fun _ _ _ h => h) (by rfl) (HSX.out _ H2.out) ?_
      simp only [Act.put, List.setIfInBounds_toArray, List.set_cons_zero, List.set_cons_succ]
      refine skipAt 24 45 (oi := _) rfl rfl (by kernel_rfl) (by kernel_rfl) (by kernel_rfl) (fun _ _ _ h => h) (by rfl) (HSX.out _ H2.out) ?_
      simp only [Act.put, List.setIfInBounds_toArray, List.set_cons_zero, List.set_cons_succ]
      refine skipAt 25 46 (oi := _) rfl rfl (by kernel_rfl) (by kernel_rfl) (by kernel_rfl) (fun _ _ _ h => h) (by rfl) (HSX.out _ H2.out) ?_
      simp only [Act.put, List.setIfInBounds_toArray, List.set_cons_zero, List.set_cons_succ]
      refine skipAt 26 47 (oi := _) rfl rfl (by kernel_rfl) (by kernel_rfl) (by kernel_rfl) (fun _ _ _ h => h) (by rfl) (HSX.out _ H2.out) ?_
      simp only [Act.put, List.setIfInBounds_toArray, List.set_cons_zero, List.set_cons_succ]
      refine skipAt 27 48 (oi := _) rfl rfl (by kernel_rfl) (by kernel_rfl) (by kernel_rfl) (fun _ _ _ h => h) (by rfl) (HSX.out _ H2.out) ?_
      simp only [Act.put, List.setIfInBounds_toArray, List.set_cons_zero, List.set_cons_succ]
      refine skipAt 28 49 (oi := _) rfl rfl (by kernel_rfl) (by kernel_rfl) (by kernel_rfl) (fun _ _ _ h => h) (by rfl) (HSX.out _ H2.out) ?_
      simp only [Act.put, List.setIfInBounds_toArray, List.set_cons_zero, List.set_cons_succ]
      refine skipAt 29 50 (oi := _) rfl rfl (by kernel_rfl) (by kernel_rfl) (by kernel_rfl) (fun _ _ _ h => h) (by rfl) (HSX.out _ H2.out) ?_
      simp only [Act.put, List.setIfInBounds_toArray, List.set_cons_zero, List.set_cons_succ]
      refine skipAt 30 51 (oi := _) rfl rfl (by kernel_rfl) (by kernel_rfl) (by kernel_rfl) (fun _ _ _ h => h) (by rfl) (HSX.out _ H2.out) ?_
      simp only [Act.put, List.setIfInBounds_toArray, List.set_cons_zero, List.set_cons_succ]
      refine skipAt 31 52 (oi := _) rfl rfl (by kernel_rfl) (by kernel_rfl) (by kernel_rfl) (fun _ _ _ h => h) (by rfl) (HSX.out _ H2.out) ?_
      simp only [Act.put, List.setIfInBounds_toArray, List.set_cons_zero, List.set_cons_succ]
      refine skipAt 32 53 (oi := _) rfl rfl (by kernel_rfl) (by kernel_rfl) (by kernel_rfl) (fun _ _ _ h => h) (by rfl) (HSX.out _ H2.out) ?_
      simp only [Act.put, List.setIfInBounds_toArray, List.set_cons_zero, List.set_cons_succ]
      refine skipAt 33 54 (oi := _) rfl rfl (by kernel_rfl) (by kernel_rfl) (by kernel_rfl) (fun _ _ _ h => h) (by rfl) (HSX.out _ H2.out) ?_
      simp only [Act.put, List.setIfInBounds_toArray, List.set_cons_zero, List.set_cons_succ]
      refine takeAt 34 55 (oi := _) (v := ?_) rfl rfl (by kernel_rfl) (by kernel_rfl) (by kernel_rfl) (fun _ _ _ h => h) (by rfl) ?_ (HSX.out _ H2.out) ?_
      rotate_left
      · (intro w hSw; go_simp; try with_reducible rfl)
      simp only [Act.put, List.setIfInBounds_toArray, List.set_cons_zero, List.set_cons_succ]
      refine wpAnyH_done (by kernel_rfl) ?_ _
      have HS2 := Lib.hid (slives_any w2 ((HT.out.2.2.on H2.out).mono H2.out.size))
      go_wp2_with fail
      refine HS2.out.mono ?_
      rintro e w3 ⟨rfl, hb3⟩
      have H3 := Lib.hid (H2.out.trans (hb3.mono H2.out.size))
      clear hb3 HS2
      go_wp2_with fail
      go_ret
      exact ⟨rfl, H3.out⟩
    · have HB := Lib.hid (And.intro hb hE)
      rw [hE]
      clear hE hb
      by_cases hk0 : k < 0
      · skip
        have b1 : decide (k < 0) = true := decide_eq_true hk0
        have HSX := Lib.hid (fun (W : World) (_ : Below w.heap.size w W) => trivial)
        go_wp2_with fail
        refine wp_region_held_drew (S := fun _ => True) (by kernel_rfl) (HSX.out _ (H1.out.drew)) (fun hHeld => ?_)
        change wpAnyH _ _ _ _ _ 35 _ _ _
        clear hHeld
        have HD := Lib.hid (H1.out.drew)
        have HPD := Lib.hid ((HT.out.2.2.on HD.out).mono HD.out.size)
        generalize w1.drew = WD at HD HPD ⊢
        refine wpAnyH_ready (rs := [0]) (by kernel_rfl) (by simp) ?_
        refine AllReadyH.cons (o := _) rfl (fun K hK => ?_) AllReadyH.nil
        go_simp
        refine (slives_any WD HPD.out).mono ?_
        rintro e w2 ⟨rfl, hb2⟩
        have H2 := Lib.hid (HD.out.trans (hb2.mono HD.out.size))
        clear hb2
        refine hK.out _ _ (HSX.out _ H2.out) (fun _ => ?_)
        clear hK K
        refine takeAt 1 22 (oi := _) (v := ?_) rfl rfl (by kernel_rfl) (by kernel_rfl) (by kernel_rfl) (fun _ _ _ h => h) (by rfl) ?_ (HSX.out _ H2.out) ?_
        rotate_left
        · (intro w hSw; go_simp; try with_reducible rfl)
        simp only [Act.put, List.setIfInBounds_toArray, List.set_cons_zero, List.set_cons_succ]
        refine takeAt 2 23 (oi := _) (v := ?_) rfl rfl (by kernel_rfl) (by kernel_rfl) (by kernel_rfl) (fun _ _ _ h => h) (by rfl) ?_ (HSX.out _ H2.out) ?_
        rotate_left
        · (intro w hSw; go_simp; try with_reducible rfl)
        simp only [Act.put, List.setIfInBounds_toArray, List.set_cons_zero, List.set_cons_succ]
        refine takeAt 3 24 (oi := _) (v := ?_) rfl rfl (by kernel_rfl) (by kernel_rfl) (by kernel_rfl) (fun _ _ _ h => h) (by rfl) ?_ (HSX.out _ H2.out) ?_
        rotate_left
        · (intro w hSw; go_simp; try with_reducible rfl)
        simp only [Act.put, List.setIfInBounds_toArray, List.set_cons_zero, List.set_cons_succ]
        refine takeAt 4 25 (oi := _) (v := ?_) rfl rfl (by kernel_rfl) (by kernel_rfl) (by kernel_rfl) (fun _ _ _ h => h) (by rfl) ?_ (HSX.out _ H2.out) ?_
        rotate_left
        · (intro w hSw; go_simp; try with_reducible rfl)
        simp only [Act.put, List.setIfInBounds_toArray, List.set_cons_zero, List.set_cons_succ]
        refine takeAt 5 26 (oi := _) (v := ?_) rfl rfl (by kernel_rfl) (by kernel_rfl) (by kernel_rfl) (fun _ _ _ h => h) (by rfl) ?_ (HSX.out _ H2.out) ?_
        rotate_left
        · (intro w hSw; go_simp; try with_reducible rfl)
        simp only [Act.put, List.setIfInBounds_toArray, List.set_cons_zero, List.set_cons_succ]
        refine takeAt 6 27 (oi := _) (v := ?_) rfl rfl (by kernel_rfl) (by kernel_rfl) (by kernel_rfl) (fun _ _ _ h => h) (by rfl) ?_ (HSX.out _ H2.out) ?_
        rotate_left
        · (intro w hSw; go_simp; try with_reducible rfl)
        simp only [Act.put, List.setIfInBounds_toArray, List.set_cons_zero, List.set_cons_succ]
        refine takeAt 7 28 (oi := _) (v := ?_) rfl rfl (by kernel_rfl) (by kernel_rfl) (by kernel_rfl) (fun _ _ _ h => h) (by rfl) ?_ (HSX.out _ H2.out) ?_
        rotate_left
        · (intro w hSw; go_simp; try with_reducible rfl)
        simp only [Act.put, List.setIfInBounds_toArray, List.set_cons_zero, List.set_cons_succ]
        refine takeAt 8 29 (oi := _) (v := ?_) rfl rfl (by kernel_rfl) (by kernel_rfl) (by kernel_rfl) (fun _ _ _ h => h) (by rfl) ?_ (HSX.out _ H2.out) ?_
        rotate_left
        · (intro w hSw; go_simp; try with_reducible rfl)
        simp only [Act.put, List.setIfInBounds_toArray, List.set_cons_zero, List.set_cons_succ]
        refine takeAt 9 30 (oi := _) (v := ?_) rfl rfl (by kernel_rfl) (by kernel_rfl) (by kernel_rfl) (fun _ _ _ h => h) (by rfl) ?_ (HSX.out _ H2.out) ?_
        rotate_left
        · (intro w hSw; go_simp; try with_reducible rfl)
        simp only [Act.put, List.setIfInBounds_toArray, List.set_cons_zero, List.set_cons_succ]
        refine takeAt 10 31 (oi := _) (v := ?_) rfl rfl (by kernel_rfl) (by kernel_rfl) (by kernel_rfl) (fun _ _ _ h => h) (by rfl) ?_ (HSX.out _ H2.out) ?_
        rotate_left
        · (intro w hSw; go_simp; try with_reducible rfl)
        simp only [Act.put, List.setIfInBounds_toArray, List.set_cons_zero, List.set_cons_succ]
        refine takeAt 11 32 (oi := _) (v := ?_) rfl rfl (by kernel_rfl) (by kernel_rfl) (by kernel_rfl) (fun _ _ _ h => h) (by rfl) ?_ (HSX.out _ H2.out) ?_
        rotate_left
        · (intro w hSw; go_simp; try with_reducible rfl)
        simp only [Act.put, List.setIfInBounds_toArray, List.set_cons_zero, List.set_cons_succ]
        refine takeAt 12 33 (oi := _) (v := ?_) rfl rfl (by kernel_rfl) (by kernel_rfl) (by kernel_rfl) (fun _ _ _ h => h) (by rfl) ?_ (HSX.out _ H2.out) ?_
        rotate_left
        · (intro w hSw; go_simp; try with_reducible rfl)
        simp only [Act.put, List.setIfInBounds_toArray, List.set_cons_zero, List.set_cons_succ]
        refine takeAt 13 34 (oi := _) (v := ?_) rfl rfl (by kernel_rfl) (by kernel_rfl) (by kernel_rfl) (fun _ _ _ h => h) (by rfl) ?_ (HSX.out _ H2.out) ?_
        rotate_left
        · (intro w hSw; go_simp; try with_reducible rfl)
        simp only [Act.put, List.setIfInBounds_toArray, List.set_cons_zero, List.set_cons_succ]
        refine takeAt 14 35 (oi := _) (v := ?_) rfl rfl (by kernel_rfl) (by kernel_rfl) (by kernel_rfl) (fun _ _ _ h => h) (by rfl) ?_ (HSX.out _ H2.out) ?_
        rotate_left
        · (intro w hSw; go_simp; try with_reducible rfl)
        simp only [Act.put, List.setIfInBounds_toArray, List.set_cons_zero, List.set_cons_succ]
        refine skipAt 15 36 (oi := _) rfl rfl (by kernel_rfl) (by kernel_rfl) (by kernel_rfl) (fun _ _ _ h => h) (by rfl) (HSX.out _ H2.out) ?_
        simp only [Act.put, List.setIfInBounds_toArray, List.set_cons_zero, List.set_cons_succ]
        refine skipAt 16 37 (oi := _) rfl rfl (by kernel_rfl) (by kernel_rfl) (by kernel_rfl) (fun _ _ _ h => h) (by rfl) (HSX.out _ H2.out) ?_
        simp only [Act.put, List.setIfInBounds_toArray, List.set_cons_zero, List.set_cons_succ]
        refine skipAt 17 38 (oi := _) rfl rfl (by kernel_rfl) (by kernel_rfl) (by kernel_rfl) (fun _ _ _ h => h) (by rfl) (HSX.out _ H2.out) ?_
        simp only [Act.put, List.setIfInBounds_toArray, List.set_cons_zero, List.set_cons_succ]
        refine skipAt 18 39 (oi := _) rfl rfl (by kernel_rfl) (by kernel_rfl) (by kernel_rfl) (fun _ _ _ h => h) (by rfl) (HSX.out _ H2.out) ?_
        simp only [Act.put, List.setIfInBounds_toArray, List.set_cons_zero, List.set_cons_succ]
        refine skipAt 19 40 (oi := _) rfl rfl (by kernel_rfl) (by kernel_rfl) (by kernel_rfl) (fun _ _ _ h => h) (by rfl) (HSX.out _ H2.out) ?_
        simp only [Act.put, List.setIfInBounds_toArray, List.set_cons_zero, List.set_cons_succ]
        refine takeAt 20 41 (oi := _) (v := ?_) rfl rfl (by kernel_rfl) (by kernel_rfl) (by kernel_rfl) (fun _ _ _ h => h) (by rfl) ?_ (HSX.out _ H2.out) ?_
        rotate_left
        · (intro w hSw; go_simp; try with_reducible rfl)
        simp only [Act.put, List.setIfInBounds_toArray, List.set_cons_zero, List.set_cons_succ]
        refine takeAt 21 42 (oi := _) (v := ?_) rfl rfl (by kernel_rfl) (by kernel_rfl) (by kernel_rfl) (fun _ _ _ h => h) (by rfl) ?_ (HSX.out _ H2.out) ?_
        rotate_left
        · (intro w hSw; go_simp; try with_reducible rfl)
        simp only [Act.put, List.setIfInBounds_toArray, List.set_cons_zero, List.set_cons_succ]
        refine skipAt 22 43 (oi := _) rfl rfl (by kernel_rfl) (by kernel_rfl) (by kernel_rfl) (fun _ _ _ h => h) (by rfl) (HSX.out _ H2.out) ?_
        simp only [Act.put, List.setIfInBounds_toArray, List.set_cons_zero, List.set_cons_succ]
        refine skipAt 23 44 (oi := _) rfl rfl (by kernel_rfl) (by kernel_rfl) (by kernel_rfl) (fun _ _ _ h => h) (by rfl) (HSX.out _ H2.out) ?_
        simp only [Act.put, List.setIfInBounds_toArray, List.set_cons_zero, List.set_cons_succ]
        refine skipAt 24 45 (oi := _) rfl rfl (by kernel_rfl) (by kernel_rfl) (by kernel_rfl) (fun _ _ _ h => h) (by rfl) (HSX.out _ H2.out) ?_
        simp only [Act.put, List.setIfInBounds_toArray, List.set_cons_zero, List.set_cons_succ]
        refine skipAt 25 46 (oi := _) rfl rfl (by kernel_rfl) (by kernel_rfl) (by kernel_rfl) (fun _ _ _ h => h) (by rfl) (HSX.out _ H2.out) ?_
        simp only [Act.put, List.setIfInBounds_toArray, List.set_cons_zero, List.set_cons_succ]
        refine skipAt 26 47 (oi := _) rfl rfl (by kernel_rfl) (by kernel_rfl) (by kernel_rfl) (fun _ _ _ h => h) (by rfl) (HSX.out _ H2.out) ?_
        simp only [Act.put, List.setIfInBounds_toArray, List.set_cons_zero, List.set_cons_succ]
        refine skipAt 27 48 (oi := _) rfl rfl (by kernel_rfl) (by kernel_rfl) (by kernel_rfl) (fun _ _ _ h => h) (by rfl) (HSX.out _ H2.out) ?_
        simp only [Act.put, List.setIfInBounds_toArray, List.set_cons_zero, List.set_cons_succ]
        refine skipAt 28 49 (oi := _) rfl rfl (by kernel_rfl) (by kernel_rfl) (by kernel_rfl) (fun _ _ _ h => h) (by rfl) (HSX.out _ H2.out) ?_
        simp only [Act.put, List.setIfInBounds_toArray, List.set_cons_zero, List.set_cons_succ]
        refine skipAt 29 50 (oi := _) rfl rfl (by kernel_rfl) (by kernel_rfl) (by kernel_rfl) (fun _ _ _ h => h) (by rfl) (HSX.out _ H2.out) ?_
        simp only [Act.put, List.setIfInBounds_toArray, List.set_cons_zero, List.set_cons_succ]
        refine skipAt 30 51 (oi := _) rfl rfl (by kernel_rfl) (by kernel_rfl) (by kernel_rfl) (fun _ _ _ h => h) (by rfl) (HSX.out _ H2.out) ?_
        simp only [Act.put, List.setIfInBounds_toArray, List.set_cons_zero, List.set_cons_succ]
        refine skipAt 31 52 (oi := _) rfl rfl (by kernel_rfl) (by kernel_rfl) (by kernel_rfl) (fun _ _ _ h => h) (by rfl) (HSX.out _ H2.out) ?_
        simp only [Act.put, List.setIfInBounds_toArray, List.set_cons_zero, List.set_cons_succ]
        refine skipAt 32 53 (oi := _) rfl rfl (by kernel_rfl) (by kernel_rfl) (by kernel_rfl) (fun _ _ _ h => h) (by rfl) (HSX.out _ H2.out) ?_
        simp only [Act.put, List.setIfInBounds_toArray, List.set_cons_zero, List.set_cons_succ]
        refine skipAt 33 54 (oi := _) rfl rfl (by kernel_rfl) (by kernel_rfl) (by kernel_rfl) (fun _ _ _ h => h) (by rfl) (HSX.out _ H2.out) ?_
        simp only [Act.put, List.setIfInBounds_toArray, List.set_cons_zero, List.set_cons_succ]
        refine takeAt 34 55 (oi := _) (v := ?_) rfl rfl (by kernel_rfl) (by kernel_rfl) (by kernel_rfl) (fun _ _ _ h => h) (by rfl) ?_ (HSX.out _ H2.out) ?_
        rotate_left
        · (intro w hSw; go_simp; try with_reducible rfl)
        simp only [Act.put, List.setIfInBounds_toArray, List.set_cons_zero, List.set_cons_succ]
        refine wpAnyH_done (by kernel_rfl) ?_ _
        have HS2 := Lib.hid (slives_any w2 ((HT.out.2.2.on H2.out).mono H2.out.size))
        go_wp2_with fail
        refine HS2.out.mono ?_
        rintro e w3 ⟨rfl, hb3⟩
        have H3 := Lib.hid (H2.out.trans (hb3.mono H2.out.size))
        clear hb3 HS2
        go_wp2_with fail
        go_ret
        exact ⟨rfl, H3.out⟩
      · by_cases hkL : (L : Int) - 1 ≤ k
        · skip
          have b1 : decide (k < 0) = false := decide_eq_false hk0
          have b2 : decide ((L : Int) - 1 ≤ k) = true := decide_eq_true hkL
          have HSX := Lib.hid (fun (W : World) (_ : Below w.heap.size w W) => trivial)
          go_wp2_with fail
          refine wp_region_held_drew (S := fun _ => True) (by kernel_rfl) (HSX.out _ (H1.out.drew)) (fun hHeld => ?_)
          change wpAnyH _ _ _ _ _ 35 _ _ _
          clear hHeld
          have HD := Lib.hid (H1.out.drew)
          have HPD := Lib.hid ((HT.out.2.2.on HD.out).mono HD.out.size)
          generalize w1.drew = WD at HD HPD ⊢
          refine wpAnyH_ready (rs := [0]) (by kernel_rfl) (by simp) ?_
          refine AllReadyH.cons (o := _) rfl (fun K hK => ?_) AllReadyH.nil
          go_simp
          refine (slives_any WD HPD.out).mono ?_
          rintro e w2 ⟨rfl, hb2⟩
          have H2 := Lib.hid (HD.out.trans (hb2.mono HD.out.size))
          clear hb2
          refine hK.out _ _ (HSX.out _ H2.out) (fun _ => ?_)
          clear hK K
          refine takeAt 1 22 (oi := _) (v := ?_) rfl rfl (by kernel_rfl) (by kernel_rfl) (by kernel_rfl) (fun _ _ _ h => h) (by rfl) ?_ (HSX.out _ H2.out) ?_
          rotate_left
          · (intro w hSw; go_simp; try with_reducible rfl)
          simp only [Act.put, List.setIfInBounds_toArray, List.set_cons_zero, List.set_cons_succ]
          refine takeAt 2 23 (oi := _) (v := ?_) rfl rfl (by kernel_rfl) (by kernel_rfl) (by kernel_rfl) (fun _ _ _ h => h) (by rfl) ?_ (HSX.out _ H2.out) ?_
          rotate_left
          · (intro w hSw; go_simp; try with_reducible rfl)
          simp only [Act.put, List.setIfInBounds_toArray, List.set_cons_zero, List.set_cons_succ]
          refine takeAt 3 24 (oi := _) (v := ?_) rfl rfl (by kernel_rfl) (by kernel_rfl) (by kernel_rfl) (fun _ _ _ h => h) (by rfl) ?_ (HSX.out _ H2.out) ?_
          rotate_left
          · (intro w hSw; go_simp; try with_reducible rfl)
          simp only [Act.put, List.setIfInBounds_toArray, List.set_cons_zero, List.set_cons_succ]
          refine takeAt 4 25 (oi := _) (v := ?_) rfl rfl (by kernel_rfl) (by kernel_rfl) (by kernel_rfl) (fun _ _ _ h => h) (by rfl) ?_ (HSX.out _ H2.out) ?_
          rotate_left
          · (intro w hSw; go_simp; try with_reducible rfl)
          simp only [Act.put, List.setIfInBounds_toArray, List.set_cons_zero, List.set_cons_succ]
          refine takeAt 5 26 (oi := _) (v := ?_) rfl rfl (by kernel_rfl) (by kernel_rfl) (by kernel_rfl) (fun _ _ _ h => h) (by rfl) ?_ (HSX.out _ H2.out) ?_
          rotate_left
          · (intro w hSw; go_simp; try with_reducible rfl)
          simp only [Act.put, List.setIfInBounds_toArray, List.set_cons_zero, List.set_cons_succ]
          refine takeAt 6 27 (oi := _) (v := ?_) rfl rfl (by kernel_rfl) (by kernel_rfl) (by kernel_rfl) (fun _ _ _ h => h) (by rfl) ?_ (HSX.out _ H2.out) ?_
          rotate_left
          · (intro w hSw; go_simp; try with_reducible rfl)
          simp only [Act.put, List.setIfInBounds_toArray, List.set_cons_zero, List.set_cons_succ]
          refine takeAt 7 28 (oi := _) (v := ?_) rfl rfl (by kernel_rfl) (by kernel_rfl) (by kernel_rfl) (fun _ _ _ h => h) (by rfl) ?_ (HSX.out _ H2.out) ?_
          rotate_left
          · (intro w hSw; go_simp; try with_reducible rfl)
          simp only [Act.put, List.setIfInBounds_toArray, List.set_cons_zero, List.set_cons_succ]
          refine takeAt 8 29 (oi := _) (v := ?_) rfl rfl (by kernel_rfl) (by kernel_rfl) (by kernel_rfl) (fun _ _ _ h => h) (by rfl) ?_ (HSX.out _ H2.out) ?_
          rotate_left
          · (intro w hSw; go_simp; try with_reducible rfl)
          simp only [Act.put, List.setIfInBounds_toArray, List.set_cons_zero, List.set_cons_succ]
          refine takeAt 9 30 (oi := _) (v := ?_) rfl rfl (by kernel_rfl) (by kernel_rfl) (by kernel_rfl) (fun _ _ _ h => h) (by rfl) ?_ (HSX.out _ H2.out) ?_
          rotate_left
          · (intro w hSw; go_simp; try with_reducible rfl)
          simp only [Act.put, List.setIfInBounds_toArray, List.set_cons_zero, List.set_cons_succ]
          refine takeAt 10 31 (oi := _) (v := ?_) rfl rfl (by kernel_rfl) (by kernel_rfl) (by kernel_rfl) (fun _ _ _ h => h) (by rfl) ?_ (HSX.out _ H2.out) ?_
          rotate_left
          · (intro w hSw; go_simp; try with_reducible rfl)
          simp only [Act.put, List.setIfInBounds_toArray, List.set_cons_zero, List.set_cons_succ]
          refine takeAt 11 32 (oi := _) (v := ?_) rfl rfl (by kernel_rfl) (by kernel_rfl) (by kernel_rfl) (fun _ _ _ h => h) (by rfl) ?_ (HSX.out _ H2.out) ?_
          rotate_left
          · (intro w hSw; go_simp; try with_reducible rfl)
          simp only [Act.put, List.setIfInBounds_toArray, List.set_cons_zero, List.set_cons_succ]
          refine takeAt 12 33 (oi := _) (v := ?_) rfl rfl (by kernel_rfl) (by kernel_rfl) (by kernel_rfl) (fun _ _ _ h => h) (by rfl) ?_ (HSX.out _ H2.out) ?_
          rotate_left
          · (intro w hSw; go_simp; try with_reducible rfl)
          simp only [Act.put, List.setIfInBounds_toArray, List.set_cons_zero, List.set_cons_succ]
          refine takeAt 13 34 (oi := _) (v := ?_) rfl rfl (by kernel_rfl) (by kernel_rfl) (by kernel_rfl) (fun _ _ _ h => h) (by rfl) ?_ (HSX.out _ H2.out) ?_
          rotate_left
          · (intro w hSw; go_simp; try with_reducible rfl)
          simp only [Act.put, List.setIfInBounds_toArray, List.set_cons_zero, List.set_cons_succ]
          refine takeAt 14 35 (oi := _) (v := ?_) rfl rfl (by kernel_rfl) (by kernel_rfl) (by kernel_rfl) (fun _ _ _ h => h) (by rfl) ?_ (HSX.out _ H2.out) ?_
          rotate_left
          · (intro w hSw; go_simp; try with_reducible rfl)
          simp only [Act.put, List.setIfInBounds_toArray, List.set_cons_zero, List.set_cons_succ]
          refine takeAt 15 36 (oi := _) (v := ?_) rfl rfl (by kernel_rfl) (by kernel_rfl) (by kernel_rfl) (fun _ _ _ h => h) (by rfl) ?_ (HSX.out _ H2.out) ?_
          rotate_left
          · (intro w hSw; go_simp; try with_reducible rfl)
          simp only [Act.put, List.setIfInBounds_toArray, List.set_cons_zero, List.set_cons_succ]
          refine takeAt 16 37 (oi := _) (v := ?_) rfl rfl (by kernel_rfl) (by kernel_rfl) (by kernel_rfl) (fun _ _ _ h => h) (by rfl) ?_ (HSX.out _ H2.out) ?_
          rotate_left
          · (intro w hSw; go_simp; try with_reducible rfl)
          simp only [Act.put, List.setIfInBounds_toArray, List.set_cons_zero, List.set_cons_succ]
          refine takeAt 17 38 (oi := _) (v := ?_) rfl rfl (by kernel_rfl) (by kernel_rfl) (by kernel_rfl) (fun _ _ _ h => h) (by rfl) ?_ (HSX.out _ H2.out) ?_
          rotate_left
          · (intro w hSw; go_simp; try with_reducible rfl)
          simp only [Act.put, List.setIfInBounds_toArray, List.set_cons_zero, List.set_cons_succ]
          refine takeAt 18 39 (oi := _) (v := ?_) rfl rfl (by kernel_rfl) (by kernel_rfl) (by kernel_rfl) (fun _ _ _ h => h) (by rfl) ?_ (HSX.out _ H2.out) ?_
          rotate_left
          · (intro w hSw; go_simp; try with_reducible rfl)
          simp only [Act.put, List.setIfInBounds_toArray, List.set_cons_zero, List.set_cons_succ]
          refine takeAt 19 40 (oi := _) (v := ?_) rfl rfl (by kernel_rfl) (by kernel_rfl) (by kernel_rfl) (fun _ _ _ h => h) (by rfl) ?_ (HSX.out _ H2.out) ?_
          rotate_left
          · (intro w hSw; go_simp; try with_reducible rfl)
          simp only [Act.put, List.setIfInBounds_toArray, List.set_cons_zero, List.set_cons_succ]
          refine takeAt 20 41 (oi := _) (v := ?_) rfl rfl (by kernel_rfl) (by kernel_rfl) (by kernel_rfl) (fun _ _ _ h => h) (by rfl) ?_ (HSX.out _ H2.out) ?_
          rotate_left
          · (intro w hSw; go_simp; try with_reducible rfl)
          simp only [Act.put, List.setIfInBounds_toArray, List.set_cons_zero, List.set_cons_succ]
          refine takeAt 21 42 (oi := _) (v := ?_) rfl rfl (by kernel_rfl) (by kernel_rfl) (by kernel_rfl) (fun _ _ _ h => h) (by rfl) ?_ (HSX.out _ H2.out) ?_
          rotate_left
          · (intro w hSw; go_simp; try with_reducible rfl)
          simp only [Act.put, List.setIfInBounds_toArray, List.set_cons_zero, List.set_cons_succ]
          refine skipAt 22 43 (oi := _) rfl rfl (by kernel_rfl) (by kernel_rfl) (by kernel_rfl) (fun _ _ _ h => h) (by rfl) (HSX.out _ H2.out) ?_
          simp only [Act.put, List.setIfInBounds_toArray, List.set_cons_zero, List.set_cons_succ]
          refine skipAt 23 44 (oi := _) rfl rfl (by kernel_rfl) (by kernel_rfl) (by kernel_rfl) (fun _ _ _ h => h) (by rfl) (HSX.out _ H2.out) ?_
          simp only [Act.put, List.setIfInBounds_toArray, List.set_cons_zero, List.set_cons_succ]
          refine skipAt 24 45 (oi := _) rfl rfl (by kernel_rfl) (by kernel_rfl) (by kernel_rfl) (fun _ _ _ h => h) (by rfl) (HSX.out _ H2.out) ?_
          simp only [Act.put, List.setIfInBounds_toArray, List.set_cons_zero, List.set_cons_succ]
          refine skipAt 25 46 (oi := _) rfl rfl (by kernel_rfl) (by kernel_rfl) (by kernel_rfl) (fun _ _ _ h => h) (by rfl) (HSX.out _ H2.out) ?_
          simp only [Act.put, List.setIfInBounds_toArray, List.set_cons_zero, List.set_cons_succ]
          refine skipAt 26 47 (oi := _) rfl rfl (by kernel_rfl) (by kernel_rfl) (by kernel_rfl) (fun _ _ _ h => h) (by rfl) (HSX.out _ H2.out) ?_
          simp only [Act.put, List.setIfInBounds_toArray, List.set_cons_zero, List.set_cons_succ]
          refine skipAt 27 48 (oi := _) rfl rfl (by kernel_rfl) (by kernel_rfl) (by kernel_rfl) (fun _ _ _ h => h) (by rfl) (HSX.out _ H2.out) ?_
          simp only [Act.put, List.setIfInBounds_toArray, List.set_cons_zero, List.set_cons_succ]
          refine skipAt 28 49 (oi := _) rfl rfl (by kernel_rfl) (by kernel_rfl) (by kernel_rfl) (fun _ _ _ h => h) (by rfl) (HSX.out _ H2.out) ?_
          simp only [Act.put, List.setIfInBounds_toArray, List.set_cons_zero, List.set_cons_succ]
          refine skipAt 29 50 (oi := _) rfl rfl (by kernel_rfl) (by kernel_rfl) (by kernel_rfl) (fun _ _ _ h => h) (by rfl) (HSX.out _ H2.out) ?_
          simp only [Act.put, List.setIfInBounds_toArray, List.set_cons_zero, List.set_cons_succ]
          refine skipAt 30 51 (oi := _) rfl rfl (by kernel_rfl) (by kernel_rfl) (by kernel_rfl) (fun _ _ _ h => h) (by rfl) (HSX.out _ H2.out) ?_
          simp only [Act.put, List.setIfInBounds_toArray, List.set_cons_zero, List.set_cons_succ]
          refine skipAt 31 52 (oi := _) rfl rfl (by kernel_rfl) (by kernel_rfl) (by kernel_rfl) (fun _ _ _ h => h) (by rfl) (HSX.out _ H2.out) ?_
          simp only [Act.put, List.setIfInBounds_toArray, List.set_cons_zero, List.set_cons_succ]
          refine skipAt 32 53 (oi := _) rfl rfl (by kernel_rfl) (by kernel_rfl) (by kernel_rfl) (fun _ _ _ h => h) (by rfl) (HSX.out _ H2.out) ?_
          simp only [Act.put, List.setIfInBounds_toArray, List.set_cons_zero, List.set_cons_succ]
          refine skipAt 33 54 (oi := _) rfl rfl (by kernel_rfl) (by kernel_rfl) (by kernel_rfl) (fun _ _ _ h => h) (by rfl) (HSX.out _ H2.out) ?_
          simp only [Act.put, List.setIfInBounds_toArray, List.set_cons_zero, List.set_cons_succ]
          refine takeAt 34 55 (oi := _) (v := ?_) rfl rfl (by kernel_rfl) (by kernel_rfl) (by kernel_rfl) (fun _ _ _ h => h) (by rfl) ?_ (HSX.out _ H2.out) ?_
          rotate_left
          · (intro w hSw; go_simp; try with_reducible rfl)
          simp only [Act.put, List.setIfInBounds_toArray, List.set_cons_zero, List.set_cons_succ]
          refine wpAnyH_done (by kernel_rfl) ?_ _
          have HS2 := Lib.hid (slives_any w2 ((HT.out.2.2.on H2.out).mono H2.out.size))
          go_wp2_with fail
          refine HS2.out.mono ?_
          rintro e w3 ⟨rfl, hb3⟩
          have H3 := Lib.hid (H2.out.trans (hb3.mono H2.out.size))
          clear hb3 HS2
          go_wp2_with fail
          go_ret
          exact ⟨rfl, H3.out⟩
        · skip
          obtain ⟨m, rfl⟩ : ∃ m : Nat, k = (m : Int) := ⟨k.toNat, by omega⟩
          have hkl : m + 1 < l.length := by rw [← HLL.out.2]; omega
          obtain ⟨x, hx⟩ : ∃ x, l[m]? = some x := ⟨_, List.getElem?_eq_getElem (by omega)⟩
          obtain ⟨y, hy⟩ : ∃ y, l[m + 1]? = some y := ⟨_, List.getElem?_eq_getElem hkl⟩
          obtain ⟨g, o, rfl, hg, hev⟩ := ev_two HT.out.2.1 hx hy
          have HX := Lib.hid (And.intro hx (And.intro hy hkl))
          have HSX := Lib.hid hev
          obtain ⟨x0, x1, x2, x3⟩ := x
          obtain ⟨y0, y1, y2, y3⟩ := y
          have b1 : decide ((m : Int) < 0) = false := decide_eq_false hk0
          have b2 : decide ((L : Int) - 1 ≤ (m : Int)) = false := decide_eq_false hkL
          have i1 : (0 : Int) ≤ (m : Int) := by omega
          have i2 : (m : Int) < (L : Int) := by omega
          have hwm : IntKind.i64.wrap ((m : Int) + 1) = (m : Int) + 1 := by rw [IntKind.wrap_i64]; omega
          have i3 : (0 : Int) ≤ (m : Int) + 1 := by omega
          have i4 : (m : Int) + 1 < (L : Int) := by omega
          have i5 : ((m : Int) + 1).toNat = m + 1 := by omega
          have hL200 : l.length ≤ 200 := (calls_zero (search_ok.1 HB.out.2).1).2.1
          have HL200 := Lib.hid hL200
          clear hx hy hev hkl hL200
          by_cases hw9 : x0 = y0
          · have b3 : (x0 == y0) = true := by rw [beq_iff_eq]; exact hw9
            clear hw9
            go_wp2_with fail
            refine wp_region_held_drew (S := EvC g o m ⟨x0, x1, x2, x3⟩ ⟨y0, y1, y2, y3⟩) (by kernel_rfl) (HSX.out _ (H1.out.drew)) (fun hHeld => ?_)
            change wpAnyH _ _ _ _ _ 35 _ _ _
            clear hHeld
            have HD := Lib.hid (H1.out.drew)
            have HPD := Lib.hid ((HT.out.2.2.on HD.out).mono HD.out.size)
            generalize w1.drew = WD at HD HPD ⊢
            refine wpAnyH_ready (rs := [0]) (by kernel_rfl) (by simp) ?_
            refine AllReadyH.cons (o := _) rfl (fun K hK => ?_) AllReadyH.nil
            go_simp
            refine (slives_any WD HPD.out).mono ?_
            rintro e w2 ⟨rfl, hb2⟩
            have H2 := Lib.hid (HD.out.trans (hb2.mono HD.out.size))
            clear hb2
            refine hK.out _ _ (HSX.out _ H2.out) (fun _ => ?_)
            clear hK K
            refine takeAt 1 22 (oi := _) (v := ?_) rfl rfl (by kernel_rfl) (by kernel_rfl) (by kernel_rfl) (fun _ _ _ h => h) (by rfl) ?_ (HSX.out _ H2.out) ?_
            rotate_left
            · (intro w hSw; obtain ⟨p0, p1, p2, p3, p4, p5, p6, p7⟩ := hSw; simp only at p0 p1 p2 p3 p4 p5 p6 p7; go_simp; try with_reducible rfl)
            simp only [Act.put, List.setIfInBounds_toArray, List.set_cons_zero, List.set_cons_succ]
            refine takeAt 2 23 (oi := _) (v := ?_) rfl rfl (by kernel_rfl) (by kernel_rfl) (by kernel_rfl) (fun _ _ _ h => h) (by rfl) ?_ (HSX.out _ H2.out) ?_
            rotate_left
            · (intro w hSw; obtain ⟨p0, p1, p2, p3, p4, p5, p6, p7⟩ := hSw; simp only at p0 p1 p2 p3 p4 p5 p6 p7; go_simp; try with_reducible rfl)
            simp only [Act.put, List.setIfInBounds_toArray, List.set_cons_zero, List.set_cons_succ]
            refine takeAt 3 24 (oi := _) (v := ?_) rfl rfl (by kernel_rfl) (by kernel_rfl) (by kernel_rfl) (fun _ _ _ h => h) (by rfl) ?_ (HSX.out _ H2.out) ?_
            rotate_left
            · (intro w hSw; obtain ⟨p0, p1, p2, p3, p4, p5, p6, p7⟩ := hSw; simp only at p0 p1 p2 p3 p4 p5 p6 p7; go_simp; try with_reducible rfl)
            simp only [Act.put, List.setIfInBounds_toArray, List.set_cons_zero, List.set_cons_succ]
            refine takeAt 4 25 (oi := _) (v := ?_) rfl rfl (by kernel_rfl) (by kernel_rfl) (by kernel_rfl) (fun _ _ _ h => h) (by rfl) ?_ (HSX.out _ H2.out) ?_
            rotate_left
            · (intro w hSw; obtain ⟨p0, p1, p2, p3, p4, p5, p6, p7⟩ := hSw; simp only at p0 p1 p2 p3 p4 p5 p6 p7; go_simp; try with_reducible rfl)
            simp only [Act.put, List.setIfInBounds_toArray, List.set_cons_zero, List.set_cons_succ]
            refine takeAt 5 26 (oi := _) (v := ?_) rfl rfl (by kernel_rfl) (by kernel_rfl) (by kernel_rfl) (fun _ _ _ h => h) (by rfl) ?_ (HSX.out _ H2.out) ?_
            rotate_left
            · (intro w hSw; obtain ⟨p0, p1, p2, p3, p4, p5, p6, p7⟩ := hSw; simp only at p0 p1 p2 p3 p4 p5 p6 p7; go_simp; try with_reducible rfl)
            simp only [Act.put, List.setIfInBounds_toArray, List.set_cons_zero, List.set_cons_succ]
            refine takeAt 6 27 (oi := _) (v := ?_) rfl rfl (by kernel_rfl) (by kernel_rfl) (by kernel_rfl) (fun _ _ _ h => h) (by rfl) ?_ (HSX.out _ H2.out) ?_
            rotate_left
            · (intro w hSw; obtain ⟨p0, p1, p2, p3, p4, p5, p6, p7⟩ := hSw; simp only at p0 p1 p2 p3 p4 p5 p6 p7; go_simp; try with_reducible rfl)
            simp only [Act.put, List.setIfInBounds_toArray, List.set_cons_zero, List.set_cons_succ]
            refine takeAt 7 28 (oi := _) (v := ?_) rfl rfl (by kernel_rfl) (by kernel_rfl) (by kernel_rfl) (fun _ _ _ h => h) (by rfl) ?_ (HSX.out _ H2.out) ?_
            rotate_left
            · (intro w hSw; obtain ⟨p0, p1, p2, p3, p4, p5, p6, p7⟩ := hSw; simp only at p0 p1 p2 p3 p4 p5 p6 p7; go_simp; try with_reducible rfl)
            simp only [Act.put, List.setIfInBounds_toArray, List.set_cons_zero, List.set_cons_succ]
            refine takeAt 8 29 (oi := _) (v := ?_) rfl rfl (by kernel_rfl) (by kernel_rfl) (by kernel_rfl) (fun _ _ _ h => h) (by rfl) ?_ (HSX.out _ H2.out) ?_
            rotate_left
            · (intro w hSw; obtain ⟨p0, p1, p2, p3, p4, p5, p6, p7⟩ := hSw; simp only at p0 p1 p2 p3 p4 p5 p6 p7; go_simp; try with_reducible rfl)
            simp only [Act.put, List.setIfInBounds_toArray, List.set_cons_zero, List.set_cons_succ]
            refine takeAt 9 30 (oi := _) (v := ?_) rfl rfl (by kernel_rfl) (by kernel_rfl) (by kernel_rfl) (fun _ _ _ h => h) (by rfl) ?_ (HSX.out _ H2.out) ?_
            rotate_left
            · (intro w hSw; obtain ⟨p0, p1, p2, p3, p4, p5, p6, p7⟩ := hSw; simp only at p0 p1 p2 p3 p4 p5 p6 p7; go_simp; try with_reducible rfl)
            simp only [Act.put, List.setIfInBounds_toArray, List.set_cons_zero, List.set_cons_succ]
            refine takeAt 10 31 (oi := _) (v := ?_) rfl rfl (by kernel_rfl) (by kernel_rfl) (by kernel_rfl) (fun _ _ _ h => h) (by rfl) ?_ (HSX.out _ H2.out) ?_
            rotate_left
            · (intro w hSw; obtain ⟨p0, p1, p2, p3, p4, p5, p6, p7⟩ := hSw; simp only at p0 p1 p2 p3 p4 p5 p6 p7; go_simp; try with_reducible rfl)
            simp only [Act.put, List.setIfInBounds_toArray, List.set_cons_zero, List.set_cons_succ]
            refine takeAt 11 32 (oi := _) (v := ?_) rfl rfl (by kernel_rfl) (by kernel_rfl) (by kernel_rfl) (fun _ _ _ h => h) (by rfl) ?_ (HSX.out _ H2.out) ?_
            rotate_left
            · (intro w hSw; obtain ⟨p0, p1, p2, p3, p4, p5, p6, p7⟩ := hSw; simp only at p0 p1 p2 p3 p4 p5 p6 p7; go_simp; try with_reducible rfl)
            simp only [Act.put, List.setIfInBounds_toArray, List.set_cons_zero, List.set_cons_succ]
            refine takeAt 12 33 (oi := _) (v := ?_) rfl rfl (by kernel_rfl) (by kernel_rfl) (by kernel_rfl) (fun _ _ _ h => h) (by rfl) ?_ (HSX.out _ H2.out) ?_
            rotate_left
            · (intro w hSw; obtain ⟨p0, p1, p2, p3, p4, p5, p6, p7⟩ := hSw; simp only at p0 p1 p2 p3 p4 p5 p6 p7; go_simp; try with_reducible rfl)
            simp only [Act.put, List.setIfInBounds_toArray, List.set_cons_zero, List.set_cons_succ]
            refine takeAt 13 34 (oi := _) (v := ?_) rfl rfl (by kernel_rfl) (by kernel_rfl) (by kernel_rfl) (fun _ _ _ h => h) (by rfl) ?_ (HSX.out _ H2.out) ?_
            rotate_left
            · (intro w hSw; obtain ⟨p0, p1, p2, p3, p4, p5, p6, p7⟩ := hSw; simp only at p0 p1 p2 p3 p4 p5 p6 p7; go_simp; try with_reducible rfl)
            simp only [Act.put, List.setIfInBounds_toArray, List.set_cons_zero, List.set_cons_succ]
            refine takeAt 14 35 (oi := _) (v := ?_) rfl rfl (by kernel_rfl) (by kernel_rfl) (by kernel_rfl) (fun _ _ _ h => h) (by rfl) ?_ (HSX.out _ H2.out) ?_
            rotate_left
            · (intro w hSw; obtain ⟨p0, p1, p2, p3, p4, p5, p6, p7⟩ := hSw; simp only at p0 p1 p2 p3 p4 p5 p6 p7; go_simp; try with_reducible rfl)
            simp only [Act.put, List.setIfInBounds_toArray, List.set_cons_zero, List.set_cons_succ]
            refine takeAt 15 36 (oi := _) (v := ?_) rfl rfl (by kernel_rfl) (by kernel_rfl) (by kernel_rfl) (fun _ _ _ h => h) (by rfl) ?_ (HSX.out _ H2.out) ?_
            rotate_left
            · (intro w hSw; obtain ⟨p0, p1, p2, p3, p4, p5, p6, p7⟩ := hSw; simp only at p0 p1 p2 p3 p4 p5 p6 p7; go_simp; try with_reducible rfl)
            simp only [Act.put, List.setIfInBounds_toArray, List.set_cons_zero, List.set_cons_succ]
            refine takeAt 16 37 (oi := _) (v := ?_) rfl rfl (by kernel_rfl) (by kernel_rfl) (by kernel_rfl) (fun _ _ _ h => h) (by rfl) ?_ (HSX.out _ H2.out) ?_
            rotate_left
            · (intro w hSw; obtain ⟨p0, p1, p2, p3, p4, p5, p6, p7⟩ := hSw; simp only at p0 p1 p2 p3 p4 p5 p6 p7; go_simp; try with_reducible rfl)
            simp only [Act.put, List.setIfInBounds_toArray, List.set_cons_zero, List.set_cons_succ]
            refine takeAt 17 38 (oi := _) (v := ?_) rfl rfl (by kernel_rfl) (by kernel_rfl) (by kernel_rfl) (fun _ _ _ h => h) (by rfl) ?_ (HSX.out _ H2.out) ?_
            rotate_left
            · (intro w hSw; obtain ⟨p0, p1, p2, p3, p4, p5, p6, p7⟩ := hSw; simp only at p0 p1 p2 p3 p4 p5 p6 p7; go_simp; try with_reducible rfl)
            simp only [Act.put, List.setIfInBounds_toArray, List.set_cons_zero, List.set_cons_succ]
            refine takeAt 18 39 (oi := _) (v := ?_) rfl rfl (by kernel_rfl) (by kernel_rfl) (by kernel_rfl) (fun _ _ _ h => h) (by rfl) ?_ (HSX.out _ H2.out) ?_
            rotate_left
            · (intro w hSw; obtain ⟨p0, p1, p2, p3, p4, p5, p6, p7⟩ := hSw; simp only at p0 p1 p2 p3 p4 p5 p6 p7; go_simp; try with_reducible rfl)
            simp only [Act.put, List.setIfInBounds_toArray, List.set_cons_zero, List.set_cons_succ]
            refine takeAt 19 40 (oi := _) (v := ?_) rfl rfl (by kernel_rfl) (by kernel_rfl) (by kernel_rfl) (fun _ _ _ h => h) (by rfl) ?_ (HSX.out _ H2.out) ?_
            rotate_left
            · (intro w hSw; obtain ⟨p0, p1, p2, p3, p4, p5, p6, p7⟩ := hSw; simp only at p0 p1 p2 p3 p4 p5 p6 p7; go_simp; try with_reducible rfl)
            simp only [Act.put, List.setIfInBounds_toArray, List.set_cons_zero, List.set_cons_succ]
            refine takeAt 20 41 (oi := _) (v := ?_) rfl rfl (by kernel_rfl) (by kernel_rfl) (by kernel_rfl) (fun _ _ _ h => h) (by rfl) ?_ (HSX.out _ H2.out) ?_
            rotate_left
            · (intro w hSw; obtain ⟨p0, p1, p2, p3, p4, p5, p6, p7⟩ := hSw; simp only at p0 p1 p2 p3 p4 p5 p6 p7; go_simp; try with_reducible rfl)
            simp only [Act.put, List.setIfInBounds_toArray, List.set_cons_zero, List.set_cons_succ]
            refine takeAt 21 42 (oi := _) (v := ?_) rfl rfl (by kernel_rfl) (by kernel_rfl) (by kernel_rfl) (fun _ _ _ h => h) (by rfl) ?_ (HSX.out _ H2.out) ?_
            rotate_left
            · (intro w hSw; obtain ⟨p0, p1, p2, p3, p4, p5, p6, p7⟩ := hSw; simp only at p0 p1 p2 p3 p4 p5 p6 p7; go_simp; try with_reducible rfl)
            simp only [Act.put, List.setIfInBounds_toArray, List.set_cons_zero, List.set_cons_succ]
            refine takeAt 22 43 (oi := _) (v := ?_) rfl rfl (by kernel_rfl) (by kernel_rfl) (by kernel_rfl) (fun _ _ _ h => h) (by rfl) ?_ (HSX.out _ H2.out) ?_
            rotate_left
            · (intro w hSw; obtain ⟨p0, p1, p2, p3, p4, p5, p6, p7⟩ := hSw; simp only at p0 p1 p2 p3 p4 p5 p6 p7; go_simp; try with_reducible rfl)
            simp only [Act.put, List.setIfInBounds_toArray, List.set_cons_zero, List.set_cons_succ]
            refine takeAt 23 44 (oi := _) (v := ?_) rfl rfl (by kernel_rfl) (by kernel_rfl) (by kernel_rfl) (fun _ _ _ h => h) (by rfl) ?_ (HSX.out _ H2.out) ?_
            rotate_left
            · (intro w hSw; obtain ⟨p0, p1, p2, p3, p4, p5, p6, p7⟩ := hSw; simp only at p0 p1 p2 p3 p4 p5 p6 p7; go_simp; try with_reducible rfl)
            simp only [Act.put, List.setIfInBounds_toArray, List.set_cons_zero, List.set_cons_succ]
            refine takeAt 24 45 (oi := _) (v := ?_) rfl rfl (by kernel_rfl) (by kernel_rfl) (by kernel_rfl) (fun _ _ _ h => h) (by rfl) ?_ (HSX.out _ H2.out) ?_
            rotate_left
            · (intro w hSw; obtain ⟨p0, p1, p2, p3, p4, p5, p6, p7⟩ := hSw; simp only at p0 p1 p2 p3 p4 p5 p6 p7; go_simp; try with_reducible rfl)
            simp only [Act.put, List.setIfInBounds_toArray, List.set_cons_zero, List.set_cons_succ]
            refine takeAt 25 46 (oi := _) (v := ?_) rfl rfl (by kernel_rfl) (by kernel_rfl) (by kernel_rfl) (fun _ _ _ h => h) (by rfl) ?_ (HSX.out _ H2.out) ?_
            rotate_left
            · (intro w hSw; obtain ⟨p0, p1, p2, p3, p4, p5, p6, p7⟩ := hSw; simp only at p0 p1 p2 p3 p4 p5 p6 p7; go_simp; try with_reducible rfl)
            simp only [Act.put, List.setIfInBounds_toArray, List.set_cons_zero, List.set_cons_succ]
            refine takeAt 26 47 (oi := _) (v := ?_) rfl rfl (by kernel_rfl) (by kernel_rfl) (by kernel_rfl) (fun _ _ _ h => h) (by rfl) ?_ (HSX.out _ H2.out) ?_
            rotate_left
            · (intro w hSw; obtain ⟨p0, p1, p2, p3, p4, p5, p6, p7⟩ := hSw; simp only at p0 p1 p2 p3 p4 p5 p6 p7; go_simp; try with_reducible rfl)
            simp only [Act.put, List.setIfInBounds_toArray, List.set_cons_zero, List.set_cons_succ]
            refine takeAt 27 48 (oi := _) (v := ?_) rfl rfl (by kernel_rfl) (by kernel_rfl) (by kernel_rfl) (fun _ _ _ h => h) (by rfl) ?_ (HSX.out _ H2.out) ?_
            rotate_left
            · (intro w hSw; obtain ⟨p0, p1, p2, p3, p4, p5, p6, p7⟩ := hSw; simp only at p0 p1 p2 p3 p4 p5 p6 p7; go_simp; try with_reducible rfl)
            simp only [Act.put, List.setIfInBounds_toArray, List.set_cons_zero, List.set_cons_succ]
            refine takeAt 28 49 (oi := _) (v := ?_) rfl rfl (by kernel_rfl) (by kernel_rfl) (by kernel_rfl) (fun _ _ _ h => h) (by rfl) ?_ (HSX.out _ H2.out) ?_
            rotate_left
            · (intro w hSw; obtain ⟨p0, p1, p2, p3, p4, p5, p6, p7⟩ := hSw; simp only at p0 p1 p2 p3 p4 p5 p6 p7; go_simp; try with_reducible rfl)
            simp only [Act.put, List.setIfInBounds_toArray, List.set_cons_zero, List.set_cons_succ]
            refine takeAt 29 50 (oi := _) (v := ?_) rfl rfl (by kernel_rfl) (by kernel_rfl) (by kernel_rfl) (fun _ _ _ h => h) (by rfl) ?_ (HSX.out _ H2.out) ?_
            rotate_left
            · (intro w hSw; obtain ⟨p0, p1, p2, p3, p4, p5, p6, p7⟩ := hSw; simp only at p0 p1 p2 p3 p4 p5 p6 p7; go_simp; try with_reducible rfl)
            simp only [Act.put, List.setIfInBounds_toArray, List.set_cons_zero, List.set_cons_succ]
            refine takeAt 30 51 (oi := _) (v := ?_) rfl rfl (by kernel_rfl) (by kernel_rfl) (by kernel_rfl) (fun _ _ _ h => h) (by rfl) ?_ (HSX.out _ H2.out) ?_
            rotate_left
            · (intro w hSw; obtain ⟨p0, p1, p2, p3, p4, p5, p6, p7⟩ := hSw; simp only at p0 p1 p2 p3 p4 p5 p6 p7; go_simp; try with_reducible rfl)
            simp only [Act.put, List.setIfInBounds_toArray, List.set_cons_zero, List.set_cons_succ]
            refine takeAt 31 52 (oi := _) (v := ?_) rfl rfl (by kernel_rfl) (by kernel_rfl) (by kernel_rfl) (fun _ _ _ h => h) (by rfl) ?_ (HSX.out _ H2.out) ?_
            rotate_left
            · (intro w hSw; obtain ⟨p0, p1, p2, p3, p4, p5, p6, p7⟩ := hSw; simp only at p0 p1 p2 p3 p4 p5 p6 p7; go_simp; try with_reducible rfl)
            simp only [Act.put, List.setIfInBounds_toArray, List.set_cons_zero, List.set_cons_succ]
            refine takeAt 32 53 (oi := _) (v := ?_) rfl rfl (by kernel_rfl) (by kernel_rfl) (by kernel_rfl) (fun _ _ _ h => h) (by rfl) ?_ (HSX.out _ H2.out) ?_
            rotate_left
            · (intro w hSw; obtain ⟨p0, p1, p2, p3, p4, p5, p6, p7⟩ := hSw; simp only at p0 p1 p2 p3 p4 p5 p6 p7; go_simp; try with_reducible rfl)
            simp only [Act.put, List.setIfInBounds_toArray, List.set_cons_zero, List.set_cons_succ]
            refine takeAt 33 54 (oi := _) (v := ?_) rfl rfl (by kernel_rfl) (by kernel_rfl) (by kernel_rfl) (fun _ _ _ h => h) (by rfl) ?_ (HSX.out _ H2.out) ?_
            rotate_left
            · (intro w hSw; obtain ⟨p0, p1, p2, p3, p4, p5, p6, p7⟩ := hSw; simp only at p0 p1 p2 p3 p4 p5 p6 p7; go_simp; try with_reducible rfl)
            simp only [Act.put, List.setIfInBounds_toArray, List.set_cons_zero, List.set_cons_succ]
            refine takeAt 34 55 (oi := _) (v := ?_) rfl rfl (by kernel_rfl) (by kernel_rfl) (by kernel_rfl) (fun _ _ _ h => h) (by rfl) ?_ (HSX.out _ H2.out) ?_
            rotate_left
            · (intro w hSw; obtain ⟨p0, p1, p2, p3, p4, p5, p6, p7⟩ := hSw; simp only at p0 p1 p2 p3 p4 p5 p6 p7; go_simp; try with_reducible rfl)
            simp only [Act.put, List.setIfInBounds_toArray, List.set_cons_zero, List.set_cons_succ]
            refine wpAnyH_done (by kernel_rfl) ?_ _
            have HS2 := Lib.hid (slives_any w2 ((HT.out.2.2.on H2.out).mono H2.out.size))
            go_wp2_with fail
            refine HS2.out.mono ?_
            rintro e w3 ⟨rfl, hb3⟩
            have H3 := Lib.hid (H2.out.trans (hb3.mono H2.out.size))
            clear hb3 HS2
            go_wp2_with fail
            go_ret
            exact ⟨rfl, H3.out⟩
          · have b3 : (x0 == y0) = false := by rw [beq_eq_false_iff_ne]; exact hw9
            have HW9 := Lib.hid hw9
            clear hw9
            go_wp2_with fail
            refine wp_region_held_drew (S := EvC g o m ⟨x0, x1, x2, x3⟩ ⟨y0, y1, y2, y3⟩) (by kernel_rfl) (HSX.out _ (H1.out.drew)) (fun hHeld => ?_)
            change wpAnyH _ _ _ _ _ 35 _ _ _
            clear hHeld
            have HD := Lib.hid (H1.out.drew)
            have HPD := Lib.hid ((HT.out.2.2.on HD.out).mono HD.out.size)
            generalize w1.drew = WD at HD HPD ⊢
            refine wpAnyH_ready (rs := [0]) (by kernel_rfl) (by simp) ?_
            refine AllReadyH.cons (o := _) rfl (fun K hK => ?_) AllReadyH.nil
            go_simp
            refine (slives_any WD HPD.out).mono ?_
            rintro e w2 ⟨rfl, hb2⟩
            have H2 := Lib.hid (HD.out.trans (hb2.mono HD.out.size))
            clear hb2
            refine hK.out _ _ (HSX.out _ H2.out) (fun _ => ?_)
            clear hK K
            refine takeAt 1 22 (oi := _) (v := ?_) rfl rfl (by kernel_rfl) (by kernel_rfl) (by kernel_rfl) (fun _ _ _ h => h) (by rfl) ?_ (HSX.out _ H2.out) ?_
            rotate_left
            · (intro w hSw; obtain ⟨p0, p1, p2, p3, p4, p5, p6, p7⟩ := hSw; simp only at p0 p1 p2 p3 p4 p5 p6 p7; go_simp; try with_reducible rfl)
            simp only [Act.put, List.setIfInBounds_toArray, List.set_cons_zero, List.set_cons_succ]
            refine takeAt 2 23 (oi := _) (v := ?_) rfl rfl (by kernel_rfl) (by kernel_rfl) (by kernel_rfl) (fun _ _ _ h => h) (by rfl) ?_ (HSX.out _ H2.out) ?_
            rotate_left
            · (intro w hSw; obtain ⟨p0, p1, p2, p3, p4, p5, p6, p7⟩ := hSw; simp only at p0 p1 p2 p3 p4 p5 p6 p7; go_simp; try with_reducible rfl)
            simp only [Act.put, List.setIfInBounds_toArray, List.set_cons_zero, List.set_cons_succ]
            refine takeAt 3 24 (oi := _) (v := ?_) rfl rfl (by kernel_rfl) (by kernel_rfl) (by kernel_rfl) (fun _ _ _ h => h) (by rfl) ?_ (HSX.out _ H2.out) ?_
            rotate_left
            · (intro w hSw; obtain ⟨p0, p1, p2, p3, p4, p5, p6, p7⟩ := hSw; simp only at p0 p1 p2 p3 p4 p5 p6 p7; go_simp; try with_reducible rfl)
            simp only [Act.put, List.setIfInBounds_toArray, List.set_cons_zero, List.set_cons_succ]
            refine takeAt 4 25 (oi := _) (v := ?_) rfl rfl (by kernel_rfl) (by kernel_rfl) (by kernel_rfl) (fun _ _ _ h => h) (by rfl) ?_ (HSX.out _ H2.out) ?_
            rotate_left
            · (intro w hSw; obtain ⟨p0, p1, p2, p3, p4, p5, p6, p7⟩ := hSw; simp only at p0 p1 p2 p3 p4 p5 p6 p7; go_simp; try with_reducible rfl)
            simp only [Act.put, List.setIfInBounds_toArray, List.set_cons_zero, List.set_cons_succ]
            refine takeAt 5 26 (oi := _) (v := ?_) rfl rfl (by kernel_rfl) (by kernel_rfl) (by kernel_rfl) (fun _ _ _ h => h) (by rfl) ?_ (HSX.out _ H2.out) ?_
            rotate_left
            · (intro w hSw; obtain ⟨p0, p1, p2, p3, p4, p5, p6, p7⟩ := hSw; simp only at p0 p1 p2 p3 p4 p5 p6 p7; go_simp; try with_reducible rfl)
            simp only [Act.put, List.setIfInBounds_toArray, List.set_cons_zero, List.set_cons_succ]
            refine takeAt 6 27 (oi := _) (v := ?_) rfl rfl (by kernel_rfl) (by kernel_rfl) (by kernel_rfl) (fun _ _ _ h => h) (by rfl) ?_ (HSX.out _ H2.out) ?_
            rotate_left
            · (intro w hSw; obtain ⟨p0, p1, p2, p3, p4, p5, p6, p7⟩ := hSw; simp only at p0 p1 p2 p3 p4 p5 p6 p7; go_simp; try with_reducible rfl)
            simp only [Act.put, List.setIfInBounds_toArray, List.set_cons_zero, List.set_cons_succ]
            refine takeAt 7 28 (oi := _) (v := ?_) rfl rfl (by kernel_rfl) (by kernel_rfl) (by kernel_rfl) (fun _ _ _ h => h) (by rfl) ?_ (HSX.out _ H2.out) ?_
            rotate_left
            · (intro w hSw; obtain ⟨p0, p1, p2, p3, p4, p5, p6, p7⟩ := hSw; simp only at p0 p1 p2 p3 p4 p5 p6 p7; go_simp; try with_reducible rfl)
            simp only [Act.put, List.setIfInBounds_toArray, List.set_cons_zero, List.set_cons_succ]
            refine takeAt 8 29 (oi := _) (v := ?_) rfl rfl (by kernel_rfl) (by kernel_rfl) (by kernel_rfl) (fun _ _ _ h => h) (by rfl) ?_ (HSX.out _ H2.out) ?_
            rotate_left
            · (intro w hSw; obtain ⟨p0, p1, p2, p3, p4, p5, p6, p7⟩ := hSw; simp only at p0 p1 p2 p3 p4 p5 p6 p7; go_simp; try with_reducible rfl)
            simp only [Act.put, List.setIfInBounds_toArray, List.set_cons_zero, List.set_cons_succ]
            refine takeAt 9 30 (oi := _) (v := ?_) rfl rfl (by kernel_rfl) (by kernel_rfl) (by kernel_rfl) (fun _ _ _ h => h) (by rfl) ?_ (HSX.out _ H2.out) ?_
            rotate_left
            · (intro w hSw; obtain ⟨p0, p1, p2, p3, p4, p5, p6, p7⟩ := hSw; simp only at p0 p1 p2 p3 p4 p5 p6 p7; go_simp; try with_reducible rfl)
            simp only [Act.put, List.setIfInBounds_toArray, List.set_cons_zero, List.set_cons_succ]
            refine takeAt 10 31 (oi := _) (v := ?_) rfl rfl (by kernel_rfl) (by kernel_rfl) (by kernel_rfl) (fun _ _ _ h => h) (by rfl) ?_ (HSX.out _ H2.out) ?_
            rotate_left
            · (intro w hSw; obtain ⟨p0, p1, p2, p3, p4, p5, p6, p7⟩ := hSw; simp only at p0 p1 p2 p3 p4 p5 p6 p7; go_simp; try with_reducible rfl)
            simp only [Act.put, List.setIfInBounds_toArray, List.set_cons_zero, List.set_cons_succ]
            refine takeAt 11 32 (oi := _) (v := ?_) rfl rfl (by kernel_rfl) (by kernel_rfl) (by kernel_rfl) (fun _ _ _ h => h) (by rfl) ?_ (HSX.out _ H2.out) ?_
            rotate_left
            · (intro w hSw; obtain ⟨p0, p1, p2, p3, p4, p5, p6, p7⟩ := hSw; simp only at p0 p1 p2 p3 p4 p5 p6 p7; go_simp; try with_reducible rfl)
            simp only [Act.put, List.setIfInBounds_toArray, List.set_cons_zero, List.set_cons_succ]
            refine takeAt 12 33 (oi := _) (v := ?_) rfl rfl (by kernel_rfl) (by kernel_rfl) (by kernel_rfl) (fun _ _ _ h => h) (by rfl) ?_ (HSX.out _ H2.out) ?_
            rotate_left
            · (intro w hSw; obtain ⟨p0, p1, p2, p3, p4, p5, p6, p7⟩ := hSw; simp only at p0 p1 p2 p3 p4 p5 p6 p7; go_simp; try with_reducible rfl)
            simp only [Act.put, List.setIfInBounds_toArray, List.set_cons_zero, List.set_cons_succ]
            refine takeAt 13 34 (oi := _) (v := ?_) rfl rfl (by kernel_rfl) (by kernel_rfl) (by kernel_rfl) (fun _ _ _ h => h) (by rfl) ?_ (HSX.out _ H2.out) ?_
            rotate_left
            · (intro w hSw; obtain ⟨p0, p1, p2, p3, p4, p5, p6, p7⟩ := hSw; simp only at p0 p1 p2 p3 p4 p5 p6 p7; go_simp; try with_reducible rfl)
            simp only [Act.put, List.setIfInBounds_toArray, List.set_cons_zero, List.set_cons_succ]
            refine takeAt 14 35 (oi := _) (v := ?_) rfl rfl (by kernel_rfl) (by kernel_rfl) (by kernel_rfl) (fun _ _ _ h => h) (by rfl) ?_ (HSX.out _ H2.out) ?_
            rotate_left
            · (intro w hSw; obtain ⟨p0, p1, p2, p3, p4, p5, p6, p7⟩ := hSw; simp only at p0 p1 p2 p3 p4 p5 p6 p7; go_simp; try with_reducible rfl)
            simp only [Act.put, List.setIfInBounds_toArray, List.set_cons_zero, List.set_cons_succ]
            refine takeAt 15 36 (oi := _) (v := ?_) rfl rfl (by kernel_rfl) (by kernel_rfl) (by kernel_rfl) (fun _ _ _ h => h) (by rfl) ?_ (HSX.out _ H2.out) ?_
            rotate_left
            · (intro w hSw; obtain ⟨p0, p1, p2, p3, p4, p5, p6, p7⟩ := hSw; simp only at p0 p1 p2 p3 p4 p5 p6 p7; go_simp; try with_reducible rfl)
            simp only [Act.put, List.setIfInBounds_toArray, List.set_cons_zero, List.set_cons_succ]
            refine takeAt 16 37 (oi := _) (v := ?_) rfl rfl (by kernel_rfl) (by kernel_rfl) (by kernel_rfl) (fun _ _ _ h => h) (by rfl) ?_ (HSX.out _ H2.out) ?_
            rotate_left
            · (intro w hSw; obtain ⟨p0, p1, p2, p3, p4, p5, p6, p7⟩ := hSw; simp only at p0 p1 p2 p3 p4 p5 p6 p7; go_simp; try with_reducible rfl)
            simp only [Act.put, List.setIfInBounds_toArray, List.set_cons_zero, List.set_cons_succ]
            refine takeAt 17 38 (oi := _) (v := ?_) rfl rfl (by kernel_rfl) (by kernel_rfl) (by kernel_rfl) (fun _ _ _ h => h) (by rfl) ?_ (HSX.out _ H2.out) ?_
            rotate_left
            · (intro w hSw; obtain ⟨p0, p1, p2, p3, p4, p5, p6, p7⟩ := hSw; simp only at p0 p1 p2 p3 p4 p5 p6 p7; go_simp; try with_reducible rfl)
            simp only [Act.put, List.setIfInBounds_toArray, List.set_cons_zero, List.set_cons_succ]
            refine takeAt 18 39 (oi := _) (v := ?_) rfl rfl (by kernel_rfl) (by kernel_rfl) (by kernel_rfl) (fun _ _ _ h => h) (by rfl) ?_ (HSX.out _ H2.out) ?_
            rotate_left
            · (intro w hSw; obtain ⟨p0, p1, p2, p3, p4, p5, p6, p7⟩ := hSw; simp only at p0 p1 p2 p3 p4 p5 p6 p7; go_simp; try with_reducible rfl)
            simp only [Act.put, List.setIfInBounds_toArray, List.set_cons_zero, List.set_cons_succ]
            refine takeAt 19 40 (oi := _) (v := ?_) rfl rfl (by kernel_rfl) (by kernel_rfl) (by kernel_rfl) (fun _ _ _ h => h) (by rfl) ?_ (HSX.out _ H2.out) ?_
            rotate_left
            · (intro w hSw; obtain ⟨p0, p1, p2, p3, p4, p5, p6, p7⟩ := hSw; simp only at p0 p1 p2 p3 p4 p5 p6 p7; go_simp; try with_reducible rfl)
            simp only [Act.put, List.setIfInBounds_toArray, List.set_cons_zero, List.set_cons_succ]
            refine takeAt 20 41 (oi := _) (v := ?_) rfl rfl (by kernel_rfl) (by kernel_rfl) (by kernel_rfl) (fun _ _ _ h => h) (by rfl) ?_ (HSX.out _ H2.out) ?_
            rotate_left
            · (intro w hSw; obtain ⟨p0, p1, p2, p3, p4, p5, p6, p7⟩ := hSw; simp only at p0 p1 p2 p3 p4 p5 p6 p7; go_simp; try with_reducible rfl)
            simp only [Act.put, List.setIfInBounds_toArray, List.set_cons_zero, List.set_cons_succ]
            refine takeAt 21 42 (oi := _) (v := ?_) rfl rfl (by kernel_rfl) (by kernel_rfl) (by kernel_rfl) (fun _ _ _ h => h) (by rfl) ?_ (HSX.out _ H2.out) ?_
            rotate_left
            · (intro w hSw; obtain ⟨p0, p1, p2, p3, p4, p5, p6, p7⟩ := hSw; simp only at p0 p1 p2 p3 p4 p5 p6 p7; go_simp; try with_reducible rfl)
            simp only [Act.put, List.setIfInBounds_toArray, List.set_cons_zero, List.set_cons_succ]
            refine takeAt 22 43 (oi := _) (v := ?_) rfl rfl (by kernel_rfl) (by kernel_rfl) (by kernel_rfl) (fun _ _ _ h => h) (by rfl) ?_ (HSX.out _ H2.out) ?_
            rotate_left
            · (intro w hSw; obtain ⟨p0, p1, p2, p3, p4, p5, p6, p7⟩ := hSw; simp only at p0 p1 p2 p3 p4 p5 p6 p7; go_simp; try with_reducible rfl)
            simp only [Act.put, List.setIfInBounds_toArray, List.set_cons_zero, List.set_cons_succ]
            refine takeAt 23 44 (oi := _) (v := ?_) rfl rfl (by kernel_rfl) (by kernel_rfl) (by kernel_rfl) (fun _ _ _ h => h) (by rfl) ?_ (HSX.out _ H2.out) ?_
            rotate_left
            · (intro w hSw; obtain ⟨p0, p1, p2, p3, p4, p5, p6, p7⟩ := hSw; simp only at p0 p1 p2 p3 p4 p5 p6 p7; go_simp; try with_reducible rfl)
            simp only [Act.put, List.setIfInBounds_toArray, List.set_cons_zero, List.set_cons_succ]
            refine takeAt 24 45 (oi := _) (v := ?_) rfl rfl (by kernel_rfl) (by kernel_rfl) (by kernel_rfl) (fun _ _ _ h => h) (by rfl) ?_ (HSX.out _ H2.out) ?_
            rotate_left
            · (intro w hSw; obtain ⟨p0, p1, p2, p3, p4, p5, p6, p7⟩ := hSw; simp only at p0 p1 p2 p3 p4 p5 p6 p7; go_simp; try with_reducible rfl)
            simp only [Act.put, List.setIfInBounds_toArray, List.set_cons_zero, List.set_cons_succ]
            refine takeAt 25 46 (oi := _) (v := ?_) rfl rfl (by kernel_rfl) (by kernel_rfl) (by kernel_rfl) (fun _ _ _ h => h) (by rfl) ?_ (HSX.out _ H2.out) ?_
            rotate_left
            · (intro w hSw; obtain ⟨p0, p1, p2, p3, p4, p5, p6, p7⟩ := hSw; simp only at p0 p1 p2 p3 p4 p5 p6 p7; go_simp; try with_reducible rfl)
            simp only [Act.put, List.setIfInBounds_toArray, List.set_cons_zero, List.set_cons_succ]
            refine takeAt 26 47 (oi := _) (v := ?_) rfl rfl (by kernel_rfl) (by kernel_rfl) (by kernel_rfl) (fun _ _ _ h => h) (by rfl) ?_ (HSX.out _ H2.out) ?_
            rotate_left
            · (intro w hSw; obtain ⟨p0, p1, p2, p3, p4, p5, p6, p7⟩ := hSw; simp only at p0 p1 p2 p3 p4 p5 p6 p7; go_simp; try with_reducible rfl)
            simp only [Act.put, List.setIfInBounds_toArray, List.set_cons_zero, List.set_cons_succ]
            refine takeAt 27 48 (oi := _) (v := ?_) rfl rfl (by kernel_rfl) (by kernel_rfl) (by kernel_rfl) (fun _ _ _ h => h) (by rfl) ?_ (HSX.out _ H2.out) ?_
            rotate_left
            · (intro w hSw; obtain ⟨p0, p1, p2, p3, p4, p5, p6, p7⟩ := hSw; simp only at p0 p1 p2 p3 p4 p5 p6 p7; go_simp; try with_reducible rfl)
            simp only [Act.put, List.setIfInBounds_toArray, List.set_cons_zero, List.set_cons_succ]
            refine takeAt 28 49 (oi := _) (v := ?_) rfl rfl (by kernel_rfl) (by kernel_rfl) (by kernel_rfl) (fun _ _ _ h => h) (by rfl) ?_ (HSX.out _ H2.out) ?_
            rotate_left
            · (intro w hSw; obtain ⟨p0, p1, p2, p3, p4, p5, p6, p7⟩ := hSw; simp only at p0 p1 p2 p3 p4 p5 p6 p7; go_simp; try with_reducible rfl)
            simp only [Act.put, List.setIfInBounds_toArray, List.set_cons_zero, List.set_cons_succ]
            refine takeAt 29 50 (oi := _) (v := ?_) rfl rfl (by kernel_rfl) (by kernel_rfl) (by kernel_rfl) (fun _ _ _ h => h) (by rfl) ?_ (HSX.out _ H2.out) ?_
            rotate_left
            · (intro w hSw; obtain ⟨p0, p1, p2, p3, p4, p5, p6, p7⟩ := hSw; simp only at p0 p1 p2 p3 p4 p5 p6 p7; go_simp; try with_reducible rfl)
            simp only [Act.put, List.setIfInBounds_toArray, List.set_cons_zero, List.set_cons_succ]
            refine takeAt 30 51 (oi := _) (v := ?_) rfl rfl (by kernel_rfl) (by kernel_rfl) (by kernel_rfl) (fun _ _ _ h => h) (by rfl) ?_ (HSX.out _ H2.out) ?_
            rotate_left
            · (intro w hSw; obtain ⟨p0, p1, p2, p3, p4, p5, p6, p7⟩ := hSw; simp only at p0 p1 p2 p3 p4 p5 p6 p7; go_simp; try with_reducible rfl)
            simp only [Act.put, List.setIfInBounds_toArray, List.set_cons_zero, List.set_cons_succ]
            refine takeAt 31 52 (oi := _) (v := ?_) rfl rfl (by kernel_rfl) (by kernel_rfl) (by kernel_rfl) (fun _ _ _ h => h) (by rfl) ?_ (HSX.out _ H2.out) ?_
            rotate_left
            · (intro w hSw; obtain ⟨p0, p1, p2, p3, p4, p5, p6, p7⟩ := hSw; simp only at p0 p1 p2 p3 p4 p5 p6 p7; go_simp; try with_reducible rfl)
            simp only [Act.put, List.setIfInBounds_toArray, List.set_cons_zero, List.set_cons_succ]
            refine takeAt 32 53 (oi := _) (v := ?_) rfl rfl (by kernel_rfl) (by kernel_rfl) (by kernel_rfl) (fun _ _ _ h => h) (by rfl) ?_ (HSX.out _ H2.out) ?_
            rotate_left
            · (intro w hSw; obtain ⟨p0, p1, p2, p3, p4, p5, p6, p7⟩ := hSw; simp only at p0 p1 p2 p3 p4 p5 p6 p7; go_simp; try with_reducible rfl)
            simp only [Act.put, List.setIfInBounds_toArray, List.set_cons_zero, List.set_cons_succ]
            refine takeAt 33 54 (oi := _) (v := ?_) rfl rfl (by kernel_rfl) (by kernel_rfl) (by kernel_rfl) (fun _ _ _ h => h) (by rfl) ?_ (HSX.out _ H2.out) ?_
            rotate_left
            · (intro w hSw; obtain ⟨p0, p1, p2, p3, p4, p5, p6, p7⟩ := hSw; simp only at p0 p1 p2 p3 p4 p5 p6 p7; go_simp; try with_reducible rfl)
            simp only [Act.put, List.setIfInBounds_toArray, List.set_cons_zero, List.set_cons_succ]
            refine takeAt 34 55 (oi := _) (v := ?_) rfl rfl (by kernel_rfl) (by kernel_rfl) (by kernel_rfl) (fun _ _ _ h => h) (by rfl) ?_ (HSX.out _ H2.out) ?_
            rotate_left
            · (intro w hSw; obtain ⟨p0, p1, p2, p3, p4, p5, p6, p7⟩ := hSw; simp only at p0 p1 p2 p3 p4 p5 p6 p7; go_simp; try with_reducible rfl)
            simp only [Act.put, List.setIfInBounds_toArray, List.set_cons_zero, List.set_cons_succ]
            refine wpAnyH_done (by kernel_rfl) ?_ _
            obtain ⟨p0, p1, p2, p3, p4, p5, p6, p7⟩ := HSX.out _ H2.out
            simp only at p0 p1 p2 p3 p4 p5 p6 p7
            by_cases hx2 : x2 = 0
            · have b4 : (x2 != 0) = false := by rw [bne_eq_false_iff_eq]; exact hx2
              have HK := Lib.hid (show ¬ (x2 ≠ 0 ∧ y2 = 0) from fun h => h.1 hx2)
              clear hx2
              have HCL := Lib.hid (cloneE_any ((HT.out.2.1.below H2.out).mono H2.out.size) (by have := HL200.out; have := HLL.out.2; omega))
              go_wp2_with fail
              refine HCL.out.mono ?_
              rintro e w3 ⟨mv, rfl, ho3, hb3⟩
              have H3 := Lib.hid (H2.out.trans (hb3.mono H2.out.size))
              obtain ⟨g3, cap3, rfl, hg3, hc3⟩ := own_two ho3 HX.out.1 HX.out.2.1
              rw [← HLL.out.2] at ho3 ⊢
              have hc4 : EvC g3 0 m ⟨x0, x1, x2, x3⟩ ⟨y0, y1, y2, y3⟩ w3.drew := hc3
              obtain ⟨c0, c1, c2, c3, c4, c5, c6, c7⟩ := hc4
              have hfz := fun j => own_frozen (ho3.drew) j
              simp only [Nat.zero_add] at c0 c1 c2 c3 c4 c5 c6 c7
              have HO3a := Lib.hid (And.intro (EOwn.drew ho3) (And.intro (H3.out.drew) (Nat.le_trans H2.out.size hg3)))
              clear hb3 ho3 hg3 HCL hc3 p0 p1 p2 p3 p4 p5 p6 p7
              go_wp2_with fail
              refine wp_region_held_drew (S := fun _ => True) (by kernel_rfl) trivial (fun hHeld => ?_)
              change wpAnyH _ _ _ _ _ 18 _ _ _
              clear hHeld
              generalize w3.drew = WD at c0 c1 c2 c3 c4 c5 c6 c7 hfz HO3a ⊢
              have HO3 := HO3a
              clear HO3a
              refine takeAt 0 74 (oi := _) (v := ?_) rfl rfl (by kernel_rfl) (by kernel_rfl) (by kernel_rfl) (fun _ _ _ h => h) (by rfl) ?_ trivial ?_
              rotate_left
              · (intro w hSw; go_simp; try with_reducible rfl)
              simp only [Act.put, List.setIfInBounds_toArray, List.set_cons_zero, List.set_cons_succ]
              refine takeAt 1 75 (oi := _) (v := ?_) rfl rfl (by kernel_rfl) (by kernel_rfl) (by kernel_rfl) (fun _ _ _ h => h) (by rfl) ?_ trivial ?_
              rotate_left
              · (intro w hSw; go_simp; try with_reducible rfl)
              simp only [Act.put, List.setIfInBounds_toArray, List.set_cons_zero, List.set_cons_succ]
              refine takeAt 2 76 (oi := _) (v := ?_) rfl rfl (by kernel_rfl) (by kernel_rfl) (by kernel_rfl) (fun _ _ _ h => h) (by rfl) ?_ trivial ?_
              rotate_left
              · (intro w hSw; go_simp; try with_reducible rfl)
              simp only [Act.put, List.setIfInBounds_toArray, List.set_cons_zero, List.set_cons_succ]
              refine takeAt 3 77 (oi := _) (v := ?_) rfl rfl (by kernel_rfl) (by kernel_rfl) (by kernel_rfl) (fun _ _ _ h => h) (by rfl) ?_ trivial ?_
              rotate_left
              · (intro w hSw; go_simp; try with_reducible rfl)
              simp only [Act.put, List.setIfInBounds_toArray, List.set_cons_zero, List.set_cons_succ]
              refine takeAt 4 78 (oi := _) (v := ?_) rfl rfl (by kernel_rfl) (by kernel_rfl) (by kernel_rfl) (fun _ _ _ h => h) (by rfl) ?_ trivial ?_
              rotate_left
              · (intro w hSw; go_simp; try with_reducible rfl)
              simp only [Act.put, List.setIfInBounds_toArray, List.set_cons_zero, List.set_cons_succ]
              refine takeAt 5 79 (oi := _) (v := ?_) rfl rfl (by kernel_rfl) (by kernel_rfl) (by kernel_rfl) (fun _ _ _ h => h) (by rfl) ?_ trivial ?_
              rotate_left
              · (intro w hSw; go_simp; try with_reducible rfl)
              simp only [Act.put, List.setIfInBounds_toArray, List.set_cons_zero, List.set_cons_succ]
              refine takeAt 6 80 (oi := _) (v := ?_) rfl rfl (by kernel_rfl) (by kernel_rfl) (by kernel_rfl) (fun _ _ _ h => h) (by rfl) ?_ trivial ?_
              rotate_left
              · (intro w hSw; go_simp; try with_reducible rfl)
              simp only [Act.put, List.setIfInBounds_toArray, List.set_cons_zero, List.set_cons_succ]
              refine takeAt 7 81 (oi := _) (v := ?_) rfl rfl (by kernel_rfl) (by kernel_rfl) (by kernel_rfl) (fun _ _ _ h => h) (by rfl) ?_ trivial ?_
              rotate_left
              · (intro w hSw; go_simp; try with_reducible rfl)
              simp only [Act.put, List.setIfInBounds_toArray, List.set_cons_zero, List.set_cons_succ]
              refine takeAt 8 82 (oi := _) (v := ?_) rfl rfl (by kernel_rfl) (by kernel_rfl) (by kernel_rfl) (fun _ _ _ h => h) (by rfl) ?_ trivial ?_
              rotate_left
              · (intro w hSw; go_simp; try with_reducible rfl)
              simp only [Act.put, List.setIfInBounds_toArray, List.set_cons_zero, List.set_cons_succ]
              refine takeAt 10 84 (oi := _) (v := ?_) rfl rfl (by kernel_rfl) (by kernel_rfl) (by kernel_rfl) (fun _ _ _ h => h) (by rfl) ?_ trivial ?_
              rotate_left
              · (intro w hSw; go_simp; try with_reducible rfl)
              simp only [Act.put, List.setIfInBounds_toArray, List.set_cons_zero, List.set_cons_succ]
              refine takeAt 11 85 (oi := _) (v := ?_) rfl rfl (by kernel_rfl) (by kernel_rfl) (by kernel_rfl) (fun _ _ _ h => h) (by rfl) ?_ trivial ?_
              rotate_left
              · (intro w hSw; go_simp; try with_reducible rfl)
              simp only [Act.put, List.setIfInBounds_toArray, List.set_cons_zero, List.set_cons_succ]
              refine takeAt 12 86 (oi := _) (v := ?_) rfl rfl (by kernel_rfl) (by kernel_rfl) (by kernel_rfl) (fun _ _ _ h => h) (by rfl) ?_ trivial ?_
              rotate_left
              · (intro w hSw; go_simp; try with_reducible rfl)
              simp only [Act.put, List.setIfInBounds_toArray, List.set_cons_zero, List.set_cons_succ]
              refine wpAnyH_ready (rs := [9, 13]) (by kernel_rfl) (by simp) ?_
              refine AllReadyH.cons (o := _) rfl (fun K hK => ?_) (AllReadyH.cons (o := _) rfl (fun K hK => ?_) AllReadyH.nil)
              · go_simp
                refine hK.out _ _ trivial (fun _ => ?_)
                clear hK K
                refine wpAnyH_ready (rs := [13]) (by kernel_rfl) (by simp) ?_
                refine AllReadyH.cons (o := _) rfl (fun K hK => ?_) AllReadyH.nil
                go_simp
                refine hK.out _ _ trivial (fun _ => ?_)
                clear hK K
                refine takeAt 14 88 (oi := _) (v := ?_) rfl rfl (by kernel_rfl) (by kernel_rfl) (by kernel_rfl) (fun _ _ _ h => h) (by rfl) ?_ trivial ?_
                rotate_left
                · (intro w hSw; go_simp; try with_reducible rfl)
                simp only [Act.put, List.setIfInBounds_toArray, List.set_cons_zero, List.set_cons_succ]
                refine wpAnyH_ready (rs := [15]) (by kernel_rfl) (by simp) ?_
                refine AllReadyH.cons (o := _) rfl (fun K hK => ?_) AllReadyH.nil
                go_simp
                have ho4 : EOwn ((((WD.setCell ⟨g3, m * 4, none⟩ (.int .i64 y0)).setCell ⟨g3, m * 4 + 1, none⟩ (.int .i64 y1)).setCell ⟨g3, m * 4 + 2, none⟩ (.int .i64 y2)).setCell ⟨g3, m * 4 + 3, none⟩ (.int .i64 y3)) w2.heap.size (.slice (some ⟨g3, 0, none⟩) L cap3) (l.set m ⟨y0, y1, y2, y3⟩) := EOwn.put HO3.out.1 HLL.out.2 (by have := HX.out.2.2; omega) ⟨y0, y1, y2, y3⟩
                have hb4 : Below w.heap.size w ((((WD.setCell ⟨g3, m * 4, none⟩ (.int .i64 y0)).setCell ⟨g3, m * 4 + 1, none⟩ (.int .i64 y1)).setCell ⟨g3, m * 4 + 2, none⟩ (.int .i64 y2)).setCell ⟨g3, m * 4 + 3, none⟩ (.int .i64 y3)) := (((HO3.out.2.1.setCell HO3.out.2.2 _).setCell HO3.out.2.2 _).setCell HO3.out.2.2 _).setCell HO3.out.2.2 _
                generalize ((((WD.setCell ⟨g3, m * 4, none⟩ (.int .i64 y0)).setCell ⟨g3, m * 4 + 1, none⟩ (.int .i64 y1)).setCell ⟨g3, m * 4 + 2, none⟩ (.int .i64 y2)).setCell ⟨g3, m * 4 + 3, none⟩ (.int .i64 y3)) = W4 at ho4 hb4 ⊢
                clear c0 c1 c2 c3 c4 c5 c6 c7 hfz
                obtain ⟨c4, c5, c6, c7⟩ := own_ev ho4 (k := m + 1) (x := ⟨y0, y1, y2, y3⟩) (by rw [List.getElem?_set_ne (by omega)]; exact HX.out.2.1)
                simp only at c4 c5 c6 c7
                have hfz := fun j => own_frozen ho4 j
                have HO4 := Lib.hid (And.intro ho4 hb4)
                clear ho4 hb4
                refine hK.out _ _ trivial (fun _ => ?_)
                clear hK K
                refine takeAt 16 89 (oi := _) (v := ?_) rfl rfl (by kernel_rfl) (by kernel_rfl) (by kernel_rfl) (fun _ _ _ h => h) (by rfl) ?_ trivial ?_
                rotate_left
                · (intro w hSw; go_simp; try with_reducible rfl)
                simp only [Act.put, List.setIfInBounds_toArray, List.set_cons_zero, List.set_cons_succ]
                refine wpAnyH_ready (rs := [17]) (by kernel_rfl) (by simp) ?_
                refine AllReadyH.cons (o := _) rfl (fun K hK => ?_) AllReadyH.nil
                go_simp
                have ho5 : EOwn ((((W4.setCell ⟨g3, (m + 1) * 4, none⟩ (.int .i64 x0)).setCell ⟨g3, (m + 1) * 4 + 1, none⟩ (.int .i64 x1)).setCell ⟨g3, (m + 1) * 4 + 2, none⟩ (.int .i64 x2)).setCell ⟨g3, (m + 1) * 4 + 3, none⟩ (.int .i64 x3)) w2.heap.size (.slice (some ⟨g3, 0, none⟩) L cap3) ((l.set m ⟨y0, y1, y2, y3⟩).set (m + 1) ⟨x0, x1, x2, x3⟩) := EOwn.put HO4.out.1 (by rw [List.length_set]; exact HLL.out.2) (by rw [List.length_set]; exact HX.out.2.2) ⟨x0, x1, x2, x3⟩
                have hb5 : Below w.heap.size w ((((W4.setCell ⟨g3, (m + 1) * 4, none⟩ (.int .i64 x0)).setCell ⟨g3, (m + 1) * 4 + 1, none⟩ (.int .i64 x1)).setCell ⟨g3, (m + 1) * 4 + 2, none⟩ (.int .i64 x2)).setCell ⟨g3, (m + 1) * 4 + 3, none⟩ (.int .i64 x3)) := (((HO4.out.2.setCell HO3.out.2.2 _).setCell HO3.out.2.2 _).setCell HO3.out.2.2 _).setCell HO3.out.2.2 _
                generalize ((((W4.setCell ⟨g3, (m + 1) * 4, none⟩ (.int .i64 x0)).setCell ⟨g3, (m + 1) * 4 + 1, none⟩ (.int .i64 x1)).setCell ⟨g3, (m + 1) * 4 + 2, none⟩ (.int .i64 x2)).setCell ⟨g3, (m + 1) * 4 + 3, none⟩ (.int .i64 x3)) = W5 at ho5 hb5 ⊢
                clear c4 c5 c6 c7 hfz
                rw [show (l.set m (⟨y0, y1, y2, y3⟩ : Ev)).set (m + 1) ⟨x0, x1, x2, x3⟩ = swapL l m from by unfold swapL; rw [getD_ev HX.out.1, getD_ev HX.out.2.1]] at ho5
                have HS5 := Lib.hid (find_say ((HT.out.1.below hb5).mono hb5.size) ho5.rd ((HT.out.2.2.on hb5).mono hb5.size))
                have H5 := Lib.hid hb5
                clear ho5 hb5
                refine hK.out _ _ trivial (fun _ => ?_)
                clear hK K
                refine wpAnyH_done (by kernel_rfl) ?_ _
                obtain ⟨q1, q2⟩ := found_swap HB.out.1 HX.out.1 HX.out.2.1 HW9.out HK.out
                rw [q1, q2] at HS5
                clear q1 q2
                go_wp2_with fail
                refine HS5.out.mono ?_
                rintro e w6 ⟨hb6, v6, rfl, -⟩
                have H6 := Lib.hid (H5.out.trans (hb6.mono H5.out.size))
                clear hb6 HS5
                go_wp2_with fail
                go_ret
                exact ⟨rfl, H6.out⟩
              · go_simp
                refine hK.out _ _ trivial (fun _ => ?_)
                clear hK K
                refine wpAnyH_ready (rs := [9]) (by kernel_rfl) (by simp) ?_
                refine AllReadyH.cons (o := _) rfl (fun K hK => ?_) AllReadyH.nil
                go_simp
                refine hK.out _ _ trivial (fun _ => ?_)
                clear hK K
                refine takeAt 14 88 (oi := _) (v := ?_) rfl rfl (by kernel_rfl) (by kernel_rfl) (by kernel_rfl) (fun _ _ _ h => h) (by rfl) ?_ trivial ?_
                rotate_left
                · (intro w hSw; go_simp; try with_reducible rfl)
                simp only [Act.put, List.setIfInBounds_toArray, List.set_cons_zero, List.set_cons_succ]
                refine wpAnyH_ready (rs := [15]) (by kernel_rfl) (by simp) ?_
                refine AllReadyH.cons (o := _) rfl (fun K hK => ?_) AllReadyH.nil
                go_simp
                have ho4 : EOwn ((((WD.setCell ⟨g3, m * 4, none⟩ (.int .i64 y0)).setCell ⟨g3, m * 4 + 1, none⟩ (.int .i64 y1)).setCell ⟨g3, m * 4 + 2, none⟩ (.int .i64 y2)).setCell ⟨g3, m * 4 + 3, none⟩ (.int .i64 y3)) w2.heap.size (.slice (some ⟨g3, 0, none⟩) L cap3) (l.set m ⟨y0, y1, y2, y3⟩) := EOwn.put HO3.out.1 HLL.out.2 (by have := HX.out.2.2; omega) ⟨y0, y1, y2, y3⟩
                have hb4 : Below w.heap.size w ((((WD.setCell ⟨g3, m * 4, none⟩ (.int .i64 y0)).setCell ⟨g3, m * 4 + 1, none⟩ (.int .i64 y1)).setCell ⟨g3, m * 4 + 2, none⟩ (.int .i64 y2)).setCell ⟨g3, m * 4 + 3, none⟩ (.int .i64 y3)) := (((HO3.out.2.1.setCell HO3.out.2.2 _).setCell HO3.out.2.2 _).setCell HO3.out.2.2 _).setCell HO3.out.2.2 _
                generalize ((((WD.setCell ⟨g3, m * 4, none⟩ (.int .i64 y0)).setCell ⟨g3, m * 4 + 1, none⟩ (.int .i64 y1)).setCell ⟨g3, m * 4 + 2, none⟩ (.int .i64 y2)).setCell ⟨g3, m * 4 + 3, none⟩ (.int .i64 y3)) = W4 at ho4 hb4 ⊢
                clear c0 c1 c2 c3 c4 c5 c6 c7 hfz
                obtain ⟨c4, c5, c6, c7⟩ := own_ev ho4 (k := m + 1) (x := ⟨y0, y1, y2, y3⟩) (by rw [List.getElem?_set_ne (by omega)]; exact HX.out.2.1)
                simp only at c4 c5 c6 c7
                have hfz := fun j => own_frozen ho4 j
                have HO4 := Lib.hid (And.intro ho4 hb4)
                clear ho4 hb4
                refine hK.out _ _ trivial (fun _ => ?_)
                clear hK K
                refine takeAt 16 89 (oi := _) (v := ?_) rfl rfl (by kernel_rfl) (by kernel_rfl) (by kernel_rfl) (fun _ _ _ h => h) (by rfl) ?_ trivial ?_
                rotate_left
                · (intro w hSw; go_simp; try with_reducible rfl)
                simp only [Act.put, List.setIfInBounds_toArray, List.set_cons_zero, List.set_cons_succ]
                refine wpAnyH_ready (rs := [17]) (by kernel_rfl) (by simp) ?_
                refine AllReadyH.cons (o := _) rfl (fun K hK => ?_) AllReadyH.nil
                go_simp
                have ho5 : EOwn ((((W4.setCell ⟨g3, (m + 1) * 4, none⟩ (.int .i64 x0)).setCell ⟨g3, (m + 1) * 4 + 1, none⟩ (.int .i64 x1)).setCell ⟨g3, (m + 1) * 4 + 2, none⟩ (.int .i64 x2)).setCell ⟨g3, (m + 1) * 4 + 3, none⟩ (.int .i64 x3)) w2.heap.size (.slice (some ⟨g3, 0, none⟩) L cap3) ((l.set m ⟨y0, y1, y2, y3⟩).set (m + 1) ⟨x0, x1, x2, x3⟩) := EOwn.put HO4.out.1 (by rw [List.length_set]; exact HLL.out.2) (by rw [List.length_set]; exact HX.out.2.2) ⟨x0, x1, x2, x3⟩
                have hb5 : Below w.heap.size w ((((W4.setCell ⟨g3, (m + 1) * 4, none⟩ (.int .i64 x0)).setCell ⟨g3, (m + 1) * 4 + 1, none⟩ (.int .i64 x1)).setCell ⟨g3, (m + 1) * 4 + 2, none⟩ (.int .i64 x2)).setCell ⟨g3, (m + 1) * 4 + 3, none⟩ (.int .i64 x3)) := (((HO4.out.2.setCell HO3.out.2.2 _).setCell HO3.out.2.2 _).setCell HO3.out.2.2 _).setCell HO3.out.2.2 _
                generalize ((((W4.setCell ⟨g3, (m + 1) * 4, none⟩ (.int .i64 x0)).setCell ⟨g3, (m + 1) * 4 + 1, none⟩ (.int .i64 x1)).setCell ⟨g3, (m + 1) * 4 + 2, none⟩ (.int .i64 x2)).setCell ⟨g3, (m + 1) * 4 + 3, none⟩ (.int .i64 x3)) = W5 at ho5 hb5 ⊢
                clear c4 c5 c6 c7 hfz
                rw [show (l.set m (⟨y0, y1, y2, y3⟩ : Ev)).set (m + 1) ⟨x0, x1, x2, x3⟩ = swapL l m from by unfold swapL; rw [getD_ev HX.out.1, getD_ev HX.out.2.1]] at ho5
                have HS5 := Lib.hid (find_say ((HT.out.1.below hb5).mono hb5.size) ho5.rd ((HT.out.2.2.on hb5).mono hb5.size))
                have H5 := Lib.hid hb5
                clear ho5 hb5
                refine hK.out _ _ trivial (fun _ => ?_)
                clear hK K
                refine wpAnyH_done (by kernel_rfl) ?_ _
                obtain ⟨q1, q2⟩ := found_swap HB.out.1 HX.out.1 HX.out.2.1 HW9.out HK.out
                rw [q1, q2] at HS5
                clear q1 q2
                go_wp2_with fail
                refine HS5.out.mono ?_
                rintro e w6 ⟨hb6, v6, rfl, -⟩
                have H6 := Lib.hid (H5.out.trans (hb6.mono H5.out.size))
                clear hb6 HS5
                go_wp2_with fail
                go_ret
                exact ⟨rfl, H6.out⟩
            · have b4 : (x2 != 0) = true := by rw [bne_iff_ne]; exact hx2
              by_cases hy2 : y2 = 0
              · have b5 : (y2 == 0) = true := by rw [beq_iff_eq]; exact hy2
                clear hx2 hy2
                go_wp2_with fail
                go_ret
                exact ⟨rfl, H2.out⟩
              · have b5 : (y2 == 0) = false := by rw [beq_eq_false_iff_ne]; exact hy2
                have HK := Lib.hid (show ¬ (x2 ≠ 0 ∧ y2 = 0) from fun h => hy2 h.2)
                clear hx2 hy2
                have HCL := Lib.hid (cloneE_any ((HT.out.2.1.below H2.out).mono H2.out.size) (by have := HL200.out; have := HLL.out.2; omega))
                go_wp2_with fail
                refine HCL.out.mono ?_
                rintro e w3 ⟨mv, rfl, ho3, hb3⟩
                have H3 := Lib.hid (H2.out.trans (hb3.mono H2.out.size))
                obtain ⟨g3, cap3, rfl, hg3, hc3⟩ := own_two ho3 HX.out.1 HX.out.2.1
                rw [← HLL.out.2] at ho3 ⊢
                have hc4 : EvC g3 0 m ⟨x0, x1, x2, x3⟩ ⟨y0, y1, y2, y3⟩ w3.drew := hc3
                obtain ⟨c0, c1, c2, c3, c4, c5, c6, c7⟩ := hc4
                have hfz := fun j => own_frozen (ho3.drew) j
                simp only [Nat.zero_add] at c0 c1 c2 c3 c4 c5 c6 c7
                have HO3a := Lib.hid (And.intro (EOwn.drew ho3) (And.intro (H3.out.drew) (Nat.le_trans H2.out.size hg3)))
                clear hb3 ho3 hg3 HCL hc3 p0 p1 p2 p3 p4 p5 p6 p7
                go_wp2_with fail
                refine wp_region_held_drew (S := fun _ => True) (by kernel_rfl) trivial (fun hHeld => ?_)
                change wpAnyH _ _ _ _ _ 18 _ _ _
                clear hHeld
                generalize w3.drew = WD at c0 c1 c2 c3 c4 c5 c6 c7 hfz HO3a ⊢
                have HO3 := HO3a
                clear HO3a
                refine takeAt 0 74 (oi := _) (v := ?_) rfl rfl (by kernel_rfl) (by kernel_rfl) (by kernel_rfl) (fun _ _ _ h => h) (by rfl) ?_ trivial ?_
                rotate_left
                · (intro w hSw; go_simp; try with_reducible rfl)
                simp only [Act.put, List.setIfInBounds_toArray, List.set_cons_zero, List.set_cons_succ]
                refine takeAt 1 75 (oi := _) (v := ?_) rfl rfl (by kernel_rfl) (by kernel_rfl) (by kernel_rfl) (fun _ _ _ h => h) (by rfl) ?_ trivial ?_
                rotate_left
                · (intro w hSw; go_simp; try with_reducible rfl)
                simp only [Act.put, List.setIfInBounds_toArray, List.set_cons_zero, List.set_cons_succ]
                refine takeAt 2 76 (oi := _) (v := ?_) rfl rfl (by kernel_rfl) (by kernel_rfl) (by kernel_rfl) (fun _ _ _ h => h) (by rfl) ?_ trivial ?_
                rotate_left
                · (intro w hSw; go_simp; try with_reducible rfl)
                simp only [Act.put, List.setIfInBounds_toArray, List.set_cons_zero, List.set_cons_succ]
                refine takeAt 3 77 (oi := _) (v := ?_) rfl rfl (by kernel_rfl) (by kernel_rfl) (by kernel_rfl) (fun _ _ _ h => h) (by rfl) ?_ trivial ?_
                rotate_left
                · (intro w hSw; go_simp; try with_reducible rfl)
                simp only [Act.put, List.setIfInBounds_toArray, List.set_cons_zero, List.set_cons_succ]
                refine takeAt 4 78 (oi := _) (v := ?_) rfl rfl (by kernel_rfl) (by kernel_rfl) (by kernel_rfl) (fun _ _ _ h => h) (by rfl) ?_ trivial ?_
                rotate_left
                · (intro w hSw; go_simp; try with_reducible rfl)
                simp only [Act.put, List.setIfInBounds_toArray, List.set_cons_zero, List.set_cons_succ]
                refine takeAt 5 79 (oi := _) (v := ?_) rfl rfl (by kernel_rfl) (by kernel_rfl) (by kernel_rfl) (fun _ _ _ h => h) (by rfl) ?_ trivial ?_
                rotate_left
                · (intro w hSw; go_simp; try with_reducible rfl)
                simp only [Act.put, List.setIfInBounds_toArray, List.set_cons_zero, List.set_cons_succ]
                refine takeAt 6 80 (oi := _) (v := ?_) rfl rfl (by kernel_rfl) (by kernel_rfl) (by kernel_rfl) (fun _ _ _ h => h) (by rfl) ?_ trivial ?_
                rotate_left
                · (intro w hSw; go_simp; try with_reducible rfl)
                simp only [Act.put, List.setIfInBounds_toArray, List.set_cons_zero, List.set_cons_succ]
                refine takeAt 7 81 (oi := _) (v := ?_) rfl rfl (by kernel_rfl) (by kernel_rfl) (by kernel_rfl) (fun _ _ _ h => h) (by rfl) ?_ trivial ?_
                rotate_left
                · (intro w hSw; go_simp; try with_reducible rfl)
                simp only [Act.put, List.setIfInBounds_toArray, List.set_cons_zero, List.set_cons_succ]
                refine takeAt 8 82 (oi := _) (v := ?_) rfl rfl (by kernel_rfl) (by kernel_rfl) (by kernel_rfl) (fun _ _ _ h => h) (by rfl) ?_ trivial ?_
                rotate_left
                · (intro w hSw; go_simp; try with_reducible rfl)
                simp only [Act.put, List.setIfInBounds_toArray, List.set_cons_zero, List.set_cons_succ]
                refine takeAt 10 84 (oi := _) (v := ?_) rfl rfl (by kernel_rfl) (by kernel_rfl) (by kernel_rfl) (fun _ _ _ h => h) (by rfl) ?_ trivial ?_
                rotate_left
                · (intro w hSw; go_simp; try with_reducible rfl)
                simp only [Act.put, List.setIfInBounds_toArray, List.set_cons_zero, List.set_cons_succ]
                refine takeAt 11 85 (oi := _) (v := ?_) rfl rfl (by kernel_rfl) (by kernel_rfl) (by kernel_rfl) (fun _ _ _ h => h) (by rfl) ?_ trivial ?_
                rotate_left
                · (intro w hSw; go_simp; try with_reducible rfl)
                simp only [Act.put, List.setIfInBounds_toArray, List.set_cons_zero, List.set_cons_succ]
                refine takeAt 12 86 (oi := _) (v := ?_) rfl rfl (by kernel_rfl) (by kernel_rfl) (by kernel_rfl) (fun _ _ _ h => h) (by rfl) ?_ trivial ?_
                rotate_left
                · (intro w hSw; go_simp; try with_reducible rfl)
                simp only [Act.put, List.setIfInBounds_toArray, List.set_cons_zero, List.set_cons_succ]
                refine wpAnyH_ready (rs := [9, 13]) (by kernel_rfl) (by simp) ?_
                refine AllReadyH.cons (o := _) rfl (fun K hK => ?_) (AllReadyH.cons (o := _) rfl (fun K hK => ?_) AllReadyH.nil)
                · go_simp
                  refine hK.out _ _ trivial (fun _ => ?_)
                  clear hK K
                  refine wpAnyH_ready (rs := [13]) (by kernel_rfl) (by simp) ?_
                  refine AllReadyH.cons (o := _) rfl (fun K hK => ?_) AllReadyH.nil
                  go_simp
                  refine hK.out _ _ trivial (fun _ => ?_)
                  clear hK K
                  refine takeAt 14 88 (oi := _) (v := ?_) rfl rfl (by kernel_rfl) (by kernel_rfl) (by kernel_rfl) (fun _ _ _ h => h) (by rfl) ?_ trivial ?_
                  rotate_left
                  · (intro w hSw; go_simp; try with_reducible rfl)
                  simp only [Act.put, List.setIfInBounds_toArray, List.set_cons_zero, List.set_cons_succ]
                  refine wpAnyH_ready (rs := [15]) (by kernel_rfl) (by simp) ?_
                  refine AllReadyH.cons (o := _) rfl (fun K hK => ?_) AllReadyH.nil
                  go_simp
                  have ho4 : EOwn ((((WD.setCell ⟨g3, m * 4, none⟩ (.int .i64 y0)).setCell ⟨g3, m * 4 + 1, none⟩ (.int .i64 y1)).setCell ⟨g3, m * 4 + 2, none⟩ (.int .i64 y2)).setCell ⟨g3, m * 4 + 3, none⟩ (.int .i64 y3)) w2.heap.size (.slice (some ⟨g3, 0, none⟩) L cap3) (l.set m ⟨y0, y1, y2, y3⟩) := EOwn.put HO3.out.1 HLL.out.2 (by have := HX.out.2.2; omega) ⟨y0, y1, y2, y3⟩
                  have hb4 : Below w.heap.size w ((((WD.setCell ⟨g3, m * 4, none⟩ (.int .i64 y0)).setCell ⟨g3, m * 4 + 1, none⟩ (.int .i64 y1)).setCell ⟨g3, m * 4 + 2, none⟩ (.int .i64 y2)).setCell ⟨g3, m * 4 + 3, none⟩ (.int .i64 y3)) := (((HO3.out.2.1.setCell HO3.out.2.2 _).setCell HO3.out.2.2 _).setCell HO3.out.2.2 _).setCell HO3.out.2.2 _
                  generalize ((((WD.setCell ⟨g3, m * 4, none⟩ (.int .i64 y0)).setCell ⟨g3, m * 4 + 1, none⟩ (.int .i64 y1)).setCell ⟨g3, m * 4 + 2, none⟩ (.int .i64 y2)).setCell ⟨g3, m * 4 + 3, none⟩ (.int .i64 y3)) = W4 at ho4 hb4 ⊢
                  clear c0 c1 c2 c3 c4 c5 c6 c7 hfz
                  obtain ⟨c4, c5, c6, c7⟩ := own_ev ho4 (k := m + 1) (x := ⟨y0, y1, y2, y3⟩) (by rw [List.getElem?_set_ne (by omega)]; exact HX.out.2.1)
                  simp only at c4 c5 c6 c7
                  have hfz := fun j => own_frozen ho4 j
                  have HO4 := Lib.hid (And.intro ho4 hb4)
                  clear ho4 hb4
                  refine hK.out _ _ trivial (fun _ => ?_)
                  clear hK K
                  refine takeAt 16 89 (oi := _) (v := ?_) rfl rfl (by kernel_rfl) (by kernel_rfl) (by kernel_rfl) (fun _ _ _ h => h) (by rfl) ?_ trivial ?_
                  rotate_left
                  · (intro w hSw; go_simp; try with_reducible rfl)
                  simp only [Act.put, List.setIfInBounds_toArray, List.set_cons_zero, List.set_cons_succ]
                  refine wpAnyH_ready (rs := [17]) (by kernel_rfl) (by simp) ?_
                  refine AllReadyH.cons (o := _) rfl (fun K hK => ?_) AllReadyH.nil
                  go_simp
                  have ho5 : EOwn ((((W4.setCell ⟨g3, (m + 1) * 4, none⟩ (.int .i64 x0)).setCell ⟨g3, (m + 1) * 4 + 1, none⟩ (.int .i64 x1)).setCell ⟨g3, (m + 1) * 4 + 2, none⟩ (.int .i64 x2)).setCell ⟨g3, (m + 1) * 4 + 3, none⟩ (.int .i64 x3)) w2.heap.size (.slice (some ⟨g3, 0, none⟩) L cap3) ((l.set m ⟨y0, y1, y2, y3⟩).set (m + 1) ⟨x0, x1, x2, x3⟩) := EOwn.put HO4.out.1 (by rw [List.length_set]; exact HLL.out.2) (by rw [List.length_set]; exact HX.out.2.2) ⟨x0, x1, x2, x3⟩
                  have hb5 : Below w.heap.size w ((((W4.setCell ⟨g3, (m + 1) * 4, none⟩ (.int .i64 x0)).setCell ⟨g3, (m + 1) * 4 + 1, none⟩ (.int .i64 x1)).setCell ⟨g3, (m + 1) * 4 + 2, none⟩ (.int .i64 x2)).setCell ⟨g3, (m + 1) * 4 + 3, none⟩ (.int .i64 x3)) := (((HO4.out.2.setCell HO3.out.2.2 _).setCell HO3.out.2.2 _).setCell HO3.out.2.2 _).setCell HO3.out.2.2 _
                  generalize ((((W4.setCell ⟨g3, (m + 1) * 4, none⟩ (.int .i64 x0)).setCell ⟨g3, (m + 1) * 4 + 1, none⟩ (.int .i64 x1)).setCell ⟨g3, (m + 1) * 4 + 2, none⟩ (.int .i64 x2)).setCell ⟨g3, (m + 1) * 4 + 3, none⟩ (.int .i64 x3)) = W5 at ho5 hb5 ⊢
                  clear c4 c5 c6 c7 hfz
                  rw [show (l.set m (⟨y0, y1, y2, y3⟩ : Ev)).set (m + 1) ⟨x0, x1, x2, x3⟩ = swapL l m from by unfold swapL; rw [getD_ev HX.out.1, getD_ev HX.out.2.1]] at ho5
                  have HS5 := Lib.hid (find_say ((HT.out.1.below hb5).mono hb5.size) ho5.rd ((HT.out.2.2.on hb5).mono hb5.size))
                  have H5 := Lib.hid hb5
                  clear ho5 hb5
                  refine hK.out _ _ trivial (fun _ => ?_)
                  clear hK K
                  refine wpAnyH_done (by kernel_rfl) ?_ _
                  obtain ⟨q1, q2⟩ := found_swap HB.out.1 HX.out.1 HX.out.2.1 HW9.out HK.out
                  rw [q1, q2] at HS5
                  clear q1 q2
                  go_wp2_with fail
                  refine HS5.out.mono ?_
                  rintro e w6 ⟨hb6, v6, rfl, -⟩
                  have H6 := Lib.hid (H5.out.trans (hb6.mono H5.out.size))
                  clear hb6 HS5
                  go_wp2_with fail
                  go_ret
                  exact ⟨rfl, H6.out⟩
                · go_simp
                  refine hK.out _ _ trivial (fun _ => ?_)
                  clear hK K
                  refine wpAnyH_ready (rs := [9]) (by kernel_rfl) (by simp) ?_
                  refine AllReadyH.cons (o := _) rfl (fun K hK => ?_) AllReadyH.nil
                  go_simp
                  refine hK.out _ _ trivial (fun _ => ?_)
                  clear hK K
                  refine takeAt 14 88 (oi := _) (v := ?_) rfl rfl (by kernel_rfl) (by kernel_rfl) (by kernel_rfl) (fun _ _ _ h => h) (by rfl) ?_ trivial ?_
                  rotate_left
                  · (intro w hSw; go_simp; try with_reducible rfl)
                  simp only [Act.put, List.setIfInBounds_toArray, List.set_cons_zero, List.set_cons_succ]
                  refine wpAnyH_ready (rs := [15]) (by kernel_rfl) (by simp) ?_
                  refine AllReadyH.cons (o := _) rfl (fun K hK => ?_) AllReadyH.nil
                  go_simp
                  have ho4 : EOwn ((((WD.setCell ⟨g3, m * 4, none⟩ (.int .i64 y0)).setCell ⟨g3, m * 4 + 1, none⟩ (.int .i64 y1)).setCell ⟨g3, m * 4 + 2, none⟩ (.int .i64 y2)).setCell ⟨g3, m * 4 + 3, none⟩ (.int .i64 y3)) w2.heap.size (.slice (some ⟨g3, 0, none⟩) L cap3) (l.set m ⟨y0, y1, y2, y3⟩) := EOwn.put HO3.out.1 HLL.out.2 (by have := HX.out.2.2; omega) ⟨y0, y1, y2, y3⟩
                  have hb4 : Below w.heap.size w ((((WD.setCell ⟨g3, m * 4, none⟩ (.int .i64 y0)).setCell ⟨g3, m * 4 + 1, none⟩ (.int .i64 y1)).setCell ⟨g3, m * 4 + 2, none⟩ (.int .i64 y2)).setCell ⟨g3, m * 4 + 3, none⟩ (.int .i64 y3)) := (((HO3.out.2.1.setCell HO3.out.2.2 _).setCell HO3.out.2.2 _).setCell HO3.out.2.2 _).setCell HO3.out.2.2 _
                  generalize ((((WD.setCell ⟨g3, m * 4, none⟩ (.int .i64 y0)).setCell ⟨g3, m * 4 + 1, none⟩ (.int .i64 y1)).setCell ⟨g3, m * 4 + 2, none⟩ (.int .i64 y2)).setCell ⟨g3, m * 4 + 3, none⟩ (.int .i64 y3)) = W4 at ho4 hb4 ⊢
                  clear c0 c1 c2 c3 c4 c5 c6 c7 hfz
                  obtain ⟨c4, c5, c6, c7⟩ := own_ev ho4 (k := m + 1) (x := ⟨y0, y1, y2, y3⟩) (by rw [List.getElem?_set_ne (by omega)]; exact HX.out.2.1)
                  simp only at c4 c5 c6 c7
                  have hfz := fun j => own_frozen ho4 j
                  have HO4 := Lib.hid (And.intro ho4 hb4)
                  clear ho4 hb4
                  refine hK.out _ _ trivial (fun _ => ?_)
                  clear hK K
                  refine takeAt 16 89 (oi := _) (v := ?_) rfl rfl (by kernel_rfl) (by kernel_rfl) (by kernel_rfl) (fun _ _ _ h => h) (by rfl) ?_ trivial ?_
                  rotate_left
                  · (intro w hSw; go_simp; try with_reducible rfl)
                  simp only [Act.put, List.setIfInBounds_toArray, List.set_cons_zero, List.set_cons_succ]
                  refine wpAnyH_ready (rs := [17]) (by kernel_rfl) (by simp) ?_
                  refine AllReadyH.cons (o := _) rfl (fun K hK => ?_) AllReadyH.nil
                  go_simp
                  have ho5 : EOwn ((((W4.setCell ⟨g3, (m + 1) * 4, none⟩ (.int .i64 x0)).setCell ⟨g3, (m + 1) * 4 + 1, none⟩ (.int .i64 x1)).setCell ⟨g3, (m + 1) * 4 + 2, none⟩ (.int .i64 x2)).setCell ⟨g3, (m + 1) * 4 + 3, none⟩ (.int .i64 x3)) w2.heap.size (.slice (some ⟨g3, 0, none⟩) L cap3) ((l.set m ⟨y0, y1, y2, y3⟩).set (m + 1) ⟨x0, x1, x2, x3⟩) := EOwn.put HO4.out.1 (by rw [List.length_set]; exact HLL.out.2) (by rw [List.length_set]; exact HX.out.2.2) ⟨x0, x1, x2, x3⟩
                  have hb5 : Below w.heap.size w ((((W4.setCell ⟨g3, (m + 1) * 4, none⟩ (.int .i64 x0)).setCell ⟨g3, (m + 1) * 4 + 1, none⟩ (.int .i64 x1)).setCell ⟨g3, (m + 1) * 4 + 2, none⟩ (.int .i64 x2)).setCell ⟨g3, (m + 1) * 4 + 3, none⟩ (.int .i64 x3)) := (((HO4.out.2.setCell HO3.out.2.2 _).setCell HO3.out.2.2 _).setCell HO3.out.2.2 _).setCell HO3.out.2.2 _
                  generalize ((((W4.setCell ⟨g3, (m + 1) * 4, none⟩ (.int .i64 x0)).setCell ⟨g3, (m + 1) * 4 + 1, none⟩ (.int .i64 x1)).setCell ⟨g3, (m + 1) * 4 + 2, none⟩ (.int .i64 x2)).setCell ⟨g3, (m + 1) * 4 + 3, none⟩ (.int .i64 x3)) = W5 at ho5 hb5 ⊢
                  clear c4 c5 c6 c7 hfz
                  rw [show (l.set m (⟨y0, y1, y2, y3⟩ : Ev)).set (m + 1) ⟨x0, x1, x2, x3⟩ = swapL l m from by unfold swapL; rw [getD_ev HX.out.1, getD_ev HX.out.2.1]] at ho5
                  have HS5 := Lib.hid (find_say ((HT.out.1.below hb5).mono hb5.size) ho5.rd ((HT.out.2.2.on hb5).mono hb5.size))
                  have H5 := Lib.hid hb5
                  clear ho5 hb5
                  refine hK.out _ _ trivial (fun _ => ?_)
                  clear hK K
                  refine wpAnyH_done (by kernel_rfl) ?_ _
                  obtain ⟨q1, q2⟩ := found_swap HB.out.1 HX.out.1 HX.out.2.1 HW9.out HK.out
                  rw [q1, q2] at HS5
                  clear q1 q2
                  go_wp2_with fail
                  refine HS5.out.mono ?_
                  rintro e w6 ⟨hb6, v6, rfl, -⟩
                  have H6 := Lib.hid (H5.out.trans (hb6.mono H5.out.size))
                  clear hb6 HS5
                  go_wp2_with fail
                  go_ret
                  exact ⟨rfl, H6.out⟩
  · have hne : (searchE (callsOf ts l) != 0) = true := by rw [bne_iff_ne]; exact hE
    generalize searchE (callsOf ts l) = E at hne ⊢
    generalize foundB ts (callsOf ts l) = b
    clear hE
    have HSX := Lib.hid (fun (W : World) (_ : Below w.heap.size w W) => trivial)
    go_wp2_with fail
    refine wp_region_held_drew (S := fun _ => True) (by kernel_rfl) (HSX.out _ (H1.out.drew)) (fun hHeld => ?_)
    change wpAnyH _ _ _ _ _ 35 _ _ _
    clear hHeld
    have HD := Lib.hid (H1.out.drew)
    have HPD := Lib.hid ((HT.out.2.2.on HD.out).mono HD.out.size)
    generalize w1.drew = WD at HD HPD ⊢
    refine wpAnyH_ready (rs := [0]) (by kernel_rfl) (by simp) ?_
    refine AllReadyH.cons (o := _) rfl (fun K hK => ?_) AllReadyH.nil
    go_simp
    refine (slives_any WD HPD.out).mono ?_
    rintro e w2 ⟨rfl, hb2⟩
    have H2 := Lib.hid (HD.out.trans (hb2.mono HD.out.size))
    clear hb2
    refine hK.out _ _ (HSX.out _ H2.out) (fun _ => ?_)
    clear hK K
    refine takeAt 1 22 (oi := _) (v := ?_) rfl rfl (by kernel_rfl) (by kernel_rfl) (by kernel_rfl) (fun _ _ _ h => h) (by rfl) ?_ (HSX.out _ H2.out) ?_
    rotate_left
    · (intro w hSw; go_simp; try with_reducible rfl)
    simp only [Act.put, List.setIfInBounds_toArray, List.set_cons_zero, List.set_cons_succ]
    refine takeAt 2 23 (oi := _) (v := ?_) rfl rfl (by kernel_rfl) (by kernel_rfl) (by kernel_rfl) (fun _ _ _ h => h) (by rfl) ?_ (HSX.out _ H2.out) ?_
    rotate_left
    · (intro w hSw; go_simp; try with_reducible rfl)
    simp only [Act.put, List.setIfInBounds_toArray, List.set_cons_zero, List.set_cons_succ]
    refine takeAt 3 24 (oi := _) (v := ?_) rfl rfl (by kernel_rfl) (by kernel_rfl) (by kernel_rfl) (fun _ _ _ h => h) (by rfl) ?_ (HSX.out _ H2.out) ?_
    rotate_left
    · (intro w hSw; go_simp; try with_reducible rfl)
    simp only [Act.put, List.setIfInBounds_toArray, List.set_cons_zero, List.set_cons_succ]
    refine takeAt 4 25 (oi := _) (v := ?_) rfl rfl (by kernel_rfl) (by kernel_rfl) (by kernel_rfl) (fun _ _ _ h => h) (by rfl) ?_ (HSX.out _ H2.out) ?_
    rotate_left
    · (intro w hSw; go_simp; try with_reducible rfl)
    simp only [Act.put, List.setIfInBounds_toArray, List.set_cons_zero, List.set_cons_succ]
    refine takeAt 5 26 (oi := _) (v := ?_) rfl rfl (by kernel_rfl) (by kernel_rfl) (by kernel_rfl) (fun _ _ _ h => h) (by rfl) ?_ (HSX.out _ H2.out) ?_
    rotate_left
    · (intro w hSw; go_simp; try with_reducible rfl)
    simp only [Act.put, List.setIfInBounds_toArray, List.set_cons_zero, List.set_cons_succ]
    refine takeAt 6 27 (oi := _) (v := ?_) rfl rfl (by kernel_rfl) (by kernel_rfl) (by kernel_rfl) (fun _ _ _ h => h) (by rfl) ?_ (HSX.out _ H2.out) ?_
    rotate_left
    · (intro w hSw; go_simp; try with_reducible rfl)
    simp only [Act.put, List.setIfInBounds_toArray, List.set_cons_zero, List.set_cons_succ]
    refine skipAt 7 28 (oi := _) rfl rfl (by kernel_rfl) (by kernel_rfl) (by kernel_rfl) (fun _ _ _ h => h) (by rfl) (HSX.out _ H2.out) ?_
    simp only [Act.put, List.setIfInBounds_toArray, List.set_cons_zero, List.set_cons_succ]
    refine skipAt 8 29 (oi := _) rfl rfl (by kernel_rfl) (by kernel_rfl) (by kernel_rfl) (fun _ _ _ h => h) (by rfl) (HSX.out _ H2.out) ?_
    simp only [Act.put, List.setIfInBounds_toArray, List.set_cons_zero, List.set_cons_succ]
    refine takeAt 9 30 (oi := _) (v := ?_) rfl rfl (by kernel_rfl) (by kernel_rfl) (by kernel_rfl) (fun _ _ _ h => h) (by rfl) ?_ (HSX.out _ H2.out) ?_
    rotate_left
    · (intro w hSw; go_simp; try with_reducible rfl)
    simp only [Act.put, List.setIfInBounds_toArray, List.set_cons_zero, List.set_cons_succ]
    refine takeAt 10 31 (oi := _) (v := ?_) rfl rfl (by kernel_rfl) (by kernel_rfl) (by kernel_rfl) (fun _ _ _ h => h) (by rfl) ?_ (HSX.out _ H2.out) ?_
    rotate_left
    · (intro w hSw; go_simp; try with_reducible rfl)
    simp only [Act.put, List.setIfInBounds_toArray, List.set_cons_zero, List.set_cons_succ]
    refine skipAt 11 32 (oi := _) rfl rfl (by kernel_rfl) (by kernel_rfl) (by kernel_rfl) (fun _ _ _ h => h) (by rfl) (HSX.out _ H2.out) ?_
    simp only [Act.put, List.setIfInBounds_toArray, List.set_cons_zero, List.set_cons_succ]
    refine skipAt 12 33 (oi := _) rfl rfl (by kernel_rfl) (by kernel_rfl) (by kernel_rfl) (fun _ _ _ h => h) (by rfl) (HSX.out _ H2.out) ?_
    simp only [Act.put, List.setIfInBounds_toArray, List.set_cons_zero, List.set_cons_succ]
    refine takeAt 13 34 (oi := _) (v := ?_) rfl rfl (by kernel_rfl) (by kernel_rfl) (by kernel_rfl) (fun _ _ _ h => h) (by rfl) ?_ (HSX.out _ H2.out) ?_
    rotate_left
    · (intro w hSw; go_simp; try with_reducible rfl)
    simp only [Act.put, List.setIfInBounds_toArray, List.set_cons_zero, List.set_cons_succ]
    refine takeAt 14 35 (oi := _) (v := ?_) rfl rfl (by kernel_rfl) (by kernel_rfl) (by kernel_rfl) (fun _ _ _ h => h) (by rfl) ?_ (HSX.out _ H2.out) ?_
    rotate_left
    · (intro w hSw; go_simp; try with_reducible rfl)
    simp only [Act.put, List.setIfInBounds_toArray, List.set_cons_zero, List.set_cons_succ]
    refine skipAt 15 36 (oi := _) rfl rfl (by kernel_rfl) (by kernel_rfl) (by kernel_rfl) (fun _ _ _ h => h) (by rfl) (HSX.out _ H2.out) ?_
    simp only [Act.put, List.setIfInBounds_toArray, List.set_cons_zero, List.set_cons_succ]
    refine skipAt 16 37 (oi := _) rfl rfl (by kernel_rfl) (by kernel_rfl) (by kernel_rfl) (fun _ _ _ h => h) (by rfl) (HSX.out _ H2.out) ?_
    simp only [Act.put, List.setIfInBounds_toArray, List.set_cons_zero, List.set_cons_succ]
    refine skipAt 17 38 (oi := _) rfl rfl (by kernel_rfl) (by kernel_rfl) (by kernel_rfl) (fun _ _ _ h => h) (by rfl) (HSX.out _ H2.out) ?_
    simp only [Act.put, List.setIfInBounds_toArray, List.set_cons_zero, List.set_cons_succ]
    refine skipAt 18 39 (oi := _) rfl rfl (by kernel_rfl) (by kernel_rfl) (by kernel_rfl) (fun _ _ _ h => h) (by rfl) (HSX.out _ H2.out) ?_
    simp only [Act.put, List.setIfInBounds_toArray, List.set_cons_zero, List.set_cons_succ]
    refine skipAt 19 40 (oi := _) rfl rfl (by kernel_rfl) (by kernel_rfl) (by kernel_rfl) (fun _ _ _ h => h) (by rfl) (HSX.out _ H2.out) ?_
    simp only [Act.put, List.setIfInBounds_toArray, List.set_cons_zero, List.set_cons_succ]
    refine takeAt 20 41 (oi := _) (v := ?_) rfl rfl (by kernel_rfl) (by kernel_rfl) (by kernel_rfl) (fun _ _ _ h => h) (by rfl) ?_ (HSX.out _ H2.out) ?_
    rotate_left
    · (intro w hSw; go_simp; try with_reducible rfl)
    simp only [Act.put, List.setIfInBounds_toArray, List.set_cons_zero, List.set_cons_succ]
    refine takeAt 21 42 (oi := _) (v := ?_) rfl rfl (by kernel_rfl) (by kernel_rfl) (by kernel_rfl) (fun _ _ _ h => h) (by rfl) ?_ (HSX.out _ H2.out) ?_
    rotate_left
    · (intro w hSw; go_simp; try with_reducible rfl)
    simp only [Act.put, List.setIfInBounds_toArray, List.set_cons_zero, List.set_cons_succ]
    refine skipAt 22 43 (oi := _) rfl rfl (by kernel_rfl) (by kernel_rfl) (by kernel_rfl) (fun _ _ _ h => h) (by rfl) (HSX.out _ H2.out) ?_
    simp only [Act.put, List.setIfInBounds_toArray, List.set_cons_zero, List.set_cons_succ]
    refine skipAt 23 44 (oi := _) rfl rfl (by kernel_rfl) (by kernel_rfl) (by kernel_rfl) (fun _ _ _ h => h) (by rfl) (HSX.out _ H2.out) ?_
    simp only [Act.put, List.setIfInBounds_toArray, List.set_cons_zero, List.set_cons_succ]
    refine skipAt 24 45 (oi := _) rfl rfl (by kernel_rfl) (by kernel_rfl) (by kernel_rfl) (fun _ _ _ h => h) (by rfl) (HSX.out _ H2.out) ?_
    simp only [Act.put, List.setIfInBounds_toArray, List.set_cons_zero, List.set_cons_succ]
    refine skipAt 25 46 (oi := _) rfl rfl (by kernel_rfl) (by kernel_rfl) (by kernel_rfl) (fun _ _ _ h => h) (by rfl) (HSX.out _ H2.out) ?_
    simp only [Act.put, List.setIfInBounds_toArray, List.set_cons_zero, List.set_cons_succ]
    refine skipAt 26 47 (oi := _) rfl rfl (by kernel_rfl) (by kernel_rfl) (by kernel_rfl) (fun _ _ _ h => h) (by rfl) (HSX.out _ H2.out) ?_
    simp only [Act.put, List.setIfInBounds_toArray, List.set_cons_zero, List.set_cons_succ]
    refine skipAt 27 48 (oi := _) rfl rfl (by kernel_rfl) (by kernel_rfl) (by kernel_rfl) (fun _ _ _ h => h) (by rfl) (HSX.out _ H2.out) ?_
    simp only [Act.put, List.setIfInBounds_toArray, List.set_cons_zero, List.set_cons_succ]
    refine skipAt 28 49 (oi := _) rfl rfl (by kernel_rfl) (by kernel_rfl) (by kernel_rfl) (fun _ _ _ h => h) (by rfl) (HSX.out _ H2.out) ?_
    simp only [Act.put, List.setIfInBounds_toArray, List.set_cons_zero, List.set_cons_succ]
    refine skipAt 29 50 (oi := _) rfl rfl (by kernel_rfl) (by kernel_rfl) (by kernel_rfl) (fun _ _ _ h => h) (by rfl) (HSX.out _ H2.out) ?_
    simp only [Act.put, List.setIfInBounds_toArray, List.set_cons_zero, List.set_cons_succ]
    refine skipAt 30 51 (oi := _) rfl rfl (by kernel_rfl) (by kernel_rfl) (by kernel_rfl) (fun _ _ _ h => h) (by rfl) (HSX.out _ H2.out) ?_
    simp only [Act.put, List.setIfInBounds_toArray, List.set_cons_zero, List.set_cons_succ]
    refine skipAt 31 52 (oi := _) rfl rfl (by kernel_rfl) (by kernel_rfl) (by kernel_rfl) (fun _ _ _ h => h) (by rfl) (HSX.out _ H2.out) ?_
    simp only [Act.put, List.setIfInBounds_toArray, List.set_cons_zero, List.set_cons_succ]
    refine skipAt 32 53 (oi := _) rfl rfl (by kernel_rfl) (by kernel_rfl) (by kernel_rfl) (fun _ _ _ h => h) (by rfl) (HSX.out _ H2.out) ?_
    simp only [Act.put, List.setIfInBounds_toArray, List.set_cons_zero, List.set_cons_succ]
    refine skipAt 33 54 (oi := _) rfl rfl (by kernel_rfl) (by kernel_rfl) (by kernel_rfl) (fun _ _ _ h => h) (by rfl) (HSX.out _ H2.out) ?_
    simp only [Act.put, List.setIfInBounds_toArray, List.set_cons_zero, List.set_cons_succ]
    refine takeAt 34 55 (oi := _) (v := ?_) rfl rfl (by kernel_rfl) (by kernel_rfl) (by kernel_rfl) (fun _ _ _ h => h) (by rfl) ?_ (HSX.out _ H2.out) ?_
    rotate_left
    · (intro w hSw; go_simp; try with_reducible rfl)
    simp only [Act.put, List.setIfInBounds_toArray, List.set_cons_zero, List.set_cons_succ]
    refine wpAnyH_done (by kernel_rfl) ?_ _
    have HS2 := Lib.hid (slives_any w2 ((HT.out.2.2.on H2.out).mono H2.out.size))
    go_wp2_with fail
    refine HS2.out.mono ?_
    rintro e w3 ⟨rfl, hb3⟩
    have H3 := Lib.hid (H2.out.trans (hb3.mono H2.out.size))
    clear hb3 HS2
    go_wp2_with fail
    go_ret
    exact ⟨rfl, H3.out⟩
end Go.Proofs.YtecpjeililiafaaDoor

/-
  The tied card of alibkeep.SearchLater: whatever is handed in (the listed tables reading as the program's own text lays them), the law answers true and leaves its arguments as they were.
-/
namespace Go.Proofs.YtecpjeililiafaaDoor
open Go.ChangeShapes Go.WideShapes Go.ChangeAt Go.RowKit
set_option maxRecDepth 20000

theorem searchLater_knob : ownKnob Tryd.prog.godebug = none := by kernel_rfl

set_option maxRecDepth 100000 in
theorem searchLater_lifted (os : Os) (started : os.Started) (H : Type) (enc : TypeId × Value → H) :
    ReturnsInHanded {} Tryd.checked os 11 .any (fun w args => (Rows.searchLaterSpec.pre enc Tryd.prog Tryd.f11 [] false w args ∧ laidMetH Tryd.prog tab3Laid w) ∧ sizedMet enc Tryd.prog Tryd.f11 (OpenSpec.ofChange Rows.searchLaterSpec) false w args)
      (Rows.searchLaterSpec.post enc Tryd.prog Tryd.f11 false true false false) := by
  refine returnsInHanded_of_change_and (C := Tryd.checked) (X := fun w _ => laidMetH Tryd.prog tab3Laid w) (fun _ _ _ hh h => h.of_heap hh) searchLater_knob started (by kernel_rfl) Tryd.func11
    (ChangeSpec.witness_shaped (enc := enc) (C := Tryd.checked) (os := os) (X := fun w _ => laidMetH Tryd.prog tab3Laid w) false (World.laidAll Tryd.prog os tab3Laid) #[.slice none 0 0, .slice none 0 0, .int .i64 0] 8 (World.laidAll_os _ _ _)
      (World.shaped_of_ZipB (by kernel_rfl) (by kernel_rfl)) (by kernel_rfl) (by kernel_rfl) (by kernel_rfl)
      (by rw [MakeChecks.laidMetH_plain _ _ _ (by kernel_rfl)]; exact laidMet_laidAll _ (by kernel_rfl) (by kernel_rfl))) ?_
  intro W base args ds gs before hval0 hW _ _ hL _
  have hval : ∀ (j : Nat) t v, Tryd.f11.params[j]? = some t → args[j]? = some v → Value.okWide Tryd.prog W .any base t v := hval0
  have hW' := hW
  have hlt := hW.lt
  obtain ⟨p, q, hA0, hV, rfl, _, _⟩ := hW
  have hA : DataW.TrodAll enc Tryd.prog W 0 (fun _ => true) true Tryd.f11.params.toList args.toList ds p := hA0
  rw [Tryd.params11] at hA hval
  obtain ⟨v0, v1, v2, d0, d1, d2, p0, p1, p2, rfl, rfl, rfl, h0, h1, h2⟩ := trodAll_three hA
  obtain ⟨rfl, rfl⟩ := trodVars_none hV
  obtain ⟨l0, hL0⟩ := open_nums (hval 0 22 v0 rfl rfl) h0
  obtain ⟨l1, hL1⟩ := open_evs (hval 1 23 v1 rfl rfl) h1
  obtain ⟨i2, rfl, rfl, rfl, wi2⟩ := open_int Tryd.underlying3 (hval 2 3 v2 rfl rfl) h2
  have hT := pow_of_laid hL
  clear hA0 hval0
  simp only [List.append_nil] at hW' hlt
  refine (slater_any hL0 hL1 i2 hT).mono fun e W' ⟨he, hb⟩ => ?_
  subst he
  refine ⟨_, rfl, end_of_below (pa := p0 ++ p1) (pv := []) hW' hb (by simp) (fun _ _ _ => ?_) (fun sp hsp => ?_) (fun _ _ => rfl) (ok_one (by kernel_rfl) rfl (okWide_bool_mk Tryd.underlying4 _))⟩
  · exact trodAll_mk1 (shut_bool Tryd.underlying4 _)
  · skip
    have hk0 := WideElems.Trod_stays laidOutIt (by kernel_rfl) (of_decide_eq_true (by kernel_rfl)) h0 (fun x hx => hb.same (hlt x (List.mem_append.2 (.inl hx)))) (fun x hx => hsp x (List.mem_append.2 (.inl hx)))
    have hk1 := WideElems.Trod_stays laidOutIt (by kernel_rfl) (of_decide_eq_true (by kernel_rfl)) h1 (fun x hx => hb.same (hlt x (List.mem_append.2 (.inr hx)))) (fun x hx => hsp x (List.mem_append.2 (.inr hx)))
    have := trodAll_mk3 hk0 hk1 (shut_int Tryd.underlying3 wi2)
    simp only [List.append_nil] at this ⊢
    exact this

theorem searchLater_holds : Rows.SearchLaterSaid :=
  OpenClaim.holds_of_wide 11 Tryd.f11 rfl rfl rfl rfl rfl rfl rfl ⟨rfl, rfl, rfl, rfl, rfl⟩ rfl rfl rfl rfl rfl (by kernel_rfl) Tryd.func11 (by kernel_rfl)
    (of_decide_eq_true (by kernel_rfl)) (by unfold Func.isWrapper; first | (rw [if_pos (by decide +kernel)]; kernel_rfl) | (rw [if_neg (by decide +kernel)]; exact ⟨rfl, rfl⟩))
    (fun os started H enc _ => searchLater_lifted os started H enc)

theorem searchLater_card : Rows.SearchLaterCardSaid :=
  Claim7.holds_tied_plain_at .later [] [.data, .data, .data] true Rows.searchLaterCard.stood.harness false searchLater_holds (fun _ h => by cases h) (by kernel_rfl) (fun _ h => by cases h) searchLater_row_tie rfl ⟨rfl, rfl⟩ (by kernel_rfl) rfl
    (fun f fn hf hfn => by
      obtain rfl : f = 11 := Option.some.inj ((show Tryd.prog.funcNamed "alibi/alibkeep.SearchLater" = some 11 by kernel_rfl).symm.trans hf) |>.symm
      obtain rfl : fn = Tryd.f11 := (Option.some.inj (Tryd.func11.symm.trans hfn)).symm
      exact ⟨by kernel_rfl, fun j t ht => by
        rw [Tryd.params11] at ht
        have hm : t ∈ [22, 23, 3] := by simpa using Array.mem_of_getElem? ht
        have hall : ([22, 23, 3].all fun u => !Tryd.prog.wantsStandIn u) = true := by kernel_rfl
        exact (show Tryd.prog.wantsStandIn t = false by simpa using List.all_eq_true.1 hall t hm)⟩)
    (by kernel_rfl)
#print axioms searchLater_card
end Go.Proofs.YtecpjeililiafaaDoor
