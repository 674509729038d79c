/-
  Joined by a program out of: SqMovesW, SqMovesCard.
-/
import Derived.Test.YtecpjeililiafaaDoorMgBR
import Derived.Test.YtecpjeililiafaaDoorMgBB
import Derived.Test.YtecpjeililiafaaDoorMgAX
import Derived.Test.YtecpjeililiafaaDoorTie
import Derived.Test.YtecpjeililiafaaDoorCards
import Derived.SevenTiedAt
import Derived.Stop.Joined

/-
  The walk of the law SeqMoves.
-/
namespace Go.Proofs.YtecpjeililiafaaDoor
open Go.RowKit
set_option maxRecDepth 20000

theorem moves_swap {ts : List Int} {l : List Ev} {k : Nat} {x y : Ev} (h : searchE (callsOf ts l) = 0) (hx : l[k]? = some x) (hy : l[k + 1]? = some y) (hw : x.who ≠ y.who) :
    searchE (callsOf ts (swapL l k)) = 0 ∧ fndB (ownB (callsOf ts (swapL l k)).1) ts (callsOf ts (swapL l k)) = fndB (ownB (callsOf ts l).1) ts (callsOf ts l) := by
  have hk := (List.getElem?_eq_some_iff.1 hx).1
  have hk2 := (List.getElem?_eq_some_iff.1 hy).1
  obtain ⟨a, b, ea, rfl⟩ : ∃ a b, l = a ++ x :: y :: b ∧ a.length = k := by
    refine ⟨l.take k, l.drop (k + 2), ?_, by rw [List.length_take]; omega⟩
    rw [← (List.getElem?_eq_some_iff.1 hx).2, ← (List.getElem?_eq_some_iff.1 hy).2, ← List.drop_eq_getElem_cons hk2, ← List.drop_eq_getElem_cons hk, List.take_append_drop]
  subst ea
  rw [swapL_app]
  obtain ⟨h3, h4⟩ := search_ok.1 h
  obtain ⟨h5, h6, h7⟩ := moves_iff hw h3
  have h8 := search_ok.2 ⟨h5, by omega⟩
  refine ⟨h8, ?_⟩
  rw [Bool.eq_iff_iff, fndB_iff, fndB_iff, ← h7]
  exact ⟨fun k => ⟨h, k.2⟩, fun k => ⟨h8, k.2⟩⟩
set_option maxHeartbeats 4000000 in
theorem smoves_any {tv lv : Value} {ts : List Int} {l : List Ev} {w : World} (ht : NRd w w.heap.size tv ts) (hl : ERd w w.heap.size lv l) (k : Int) (hp : Pow10 w.heap.size w) :
    Calls Tryd.prog 18 #[tv, lv, .int .i64 k] w fun e w' => e = .returned (.bool true) ∧ Below w.heap.size w w' := by
  obtain ⟨At, capt, rfl, -, -⟩ := ht.is
  obtain ⟨Al, capl, rfl, hl1, hl2⟩ := hl.is
  unfold maxLen at hl2
  have HT := Lib.hid (And.intro ht (And.intro hl hp))
  have HF := Lib.hid (sqfind_any ht hl hp)
  obtain ⟨tl, htl⟩ : ∃ tl, tl = ts.length := ⟨_, rfl⟩
  obtain ⟨L, hL⟩ : ∃ L, L = l.length := ⟨_, rfl⟩
  rw [← htl, ← hL] at HF HT
  rw [← htl, ← hL]
  rw [← hL] at hl1
  have HLL := Lib.hid (And.intro htl hL)
  clear ht hl hp htl hL
  have hwL : IntKind.i64.wrap ((L : Int) - 1) = (L : Int) - 1 := by rw [IntKind.wrap_i64]; omega
  go_enter Tryd.func18, Tryd.ntmps18
  go_wp2_with fail
  refine HF.out.mono ?_
  rintro e w1 ⟨hb1, v, rfl, hv⟩
  have H1 := Lib.hid hb1
  clear hb1 hv HF
  by_cases hE : searchE (callsOf ts l) = 0
  · have HB := Lib.hid hE
    rw [hE]
    clear hE
    by_cases hk0 : k < 0
    · skip
      have b1 : decide (k < 0) = true := decide_eq_true hk0
      have HSX := Lib.hid (fun (W : World) (_ : Below w.heap.size w W) => trivial)
      go_wp2_with fail
      refine wp_region_held_drew (S := fun _ => True) (by kernel_rfl) (HSX.out _ (H1.out.drew)) (fun hHeld => ?_)
      change wpAnyH _ _ _ _ _ 31 _ _ _
      clear hHeld
      have HD := Lib.hid (H1.out.drew)
      have HPD := Lib.hid ((HT.out.2.2.on HD.out).mono HD.out.size)
      generalize w1.drew = WD at HD HPD ⊢
      refine wpAnyH_ready (rs := [0]) (by kernel_rfl) (by simp) ?_
      refine AllReadyH.cons (o := _) rfl (fun K hK => ?_) AllReadyH.nil
      go_simp
      refine (sqlives_any WD HPD.out).mono ?_
      rintro e w2 ⟨rfl, hb2⟩
      have H2 := Lib.hid (HD.out.trans (hb2.mono HD.out.size))
      clear hb2
      refine hK.out _ _ (HSX.out _ H2.out) (fun _ => ?_)
      clear hK K
      refine takeAt 1 22 (oi := _) (v := ?_) rfl rfl (by kernel_rfl) (by kernel_rfl) (by kernel_rfl) (fun _ _ _ h => h) (by rfl) ?_ (HSX.out _ H2.out) ?_
      rotate_left
      · (intro w hSw; go_simp; try with_reducible rfl)
      simp only [Act.put, List.setIfInBounds_toArray, List.set_cons_zero, List.set_cons_succ]
      refine takeAt 2 23 (oi := _) (v := ?_) rfl rfl (by kernel_rfl) (by kernel_rfl) (by kernel_rfl) (fun _ _ _ h => h) (by rfl) ?_ (HSX.out _ H2.out) ?_
      rotate_left
      · (intro w hSw; go_simp; try with_reducible rfl)
      simp only [Act.put, List.setIfInBounds_toArray, List.set_cons_zero, List.set_cons_succ]
      refine takeAt 3 24 (oi := _) (v := ?_) rfl rfl (by kernel_rfl) (by kernel_rfl) (by kernel_rfl) (fun _ _ _ h => h) (by rfl) ?_ (HSX.out _ H2.out) ?_
      rotate_left
      · (intro w hSw; go_simp; try with_reducible rfl)
      simp only [Act.put, List.setIfInBounds_toArray, List.set_cons_zero, List.set_cons_succ]
      refine takeAt 4 25 (oi := _) (v := ?_) rfl rfl (by kernel_rfl) (by kernel_rfl) (by kernel_rfl) (fun _ _ _ h => h) (by rfl) ?_ (HSX.out _ H2.out) ?_
      rotate_left
      · (intro w hSw; go_simp; try with_reducible rfl)
      simp only [Act.put, List.setIfInBounds_toArray, List.set_cons_zero, List.set_cons_succ]
      refine takeAt 5 26 (oi := _) (v := ?_) rfl rfl (by kernel_rfl) (by kernel_rfl) (by kernel_rfl) (fun _ _ _ h => h) (by rfl) ?_ (HSX.out _ H2.out) ?_
      rotate_left
      · (intro w hSw; go_simp; try with_reducible rfl)
      simp only [Act.put, List.setIfInBounds_toArray, List.set_cons_zero, List.set_cons_succ]
      refine takeAt 6 27 (oi := _) (v := ?_) rfl rfl (by kernel_rfl) (by kernel_rfl) (by kernel_rfl) (fun _ _ _ h => h) (by rfl) ?_ (HSX.out _ H2.out) ?_
      rotate_left
      · (intro w hSw; go_simp; try with_reducible rfl)
      simp only [Act.put, List.setIfInBounds_toArray, List.set_cons_zero, List.set_cons_succ]
      refine takeAt 7 28 (oi := _) (v := ?_) rfl rfl (by kernel_rfl) (by kernel_rfl) (by kernel_rfl) (fun _ _ _ h => h) (by rfl) ?_ (HSX.out _ H2.out) ?_
      rotate_left
      · (intro w hSw; go_simp; try with_reducible rfl)
      simp only [Act.put, List.setIfInBounds_toArray, List.set_cons_zero, List.set_cons_succ]
      refine takeAt 8 29 (oi := _) (v := ?_) rfl rfl (by kernel_rfl) (by kernel_rfl) (by kernel_rfl) (fun _ _ _ h => h) (by rfl) ?_ (HSX.out _ H2.out) ?_
      rotate_left
      · (intro w hSw; go_simp; try with_reducible rfl)
      simp only [Act.put, List.setIfInBounds_toArray, List.set_cons_zero, List.set_cons_succ]
      refine takeAt 9 30 (oi := _) (v := ?_) rfl rfl (by kernel_rfl) (by kernel_rfl) (by kernel_rfl) (fun _ _ _ h => h) (by rfl) ?_ (HSX.out _ H2.out) ?_
      rotate_left
      · (intro w hSw; go_simp; try with_reducible rfl)
      simp only [Act.put, List.setIfInBounds_toArray, List.set_cons_zero, List.set_cons_succ]
      refine takeAt 10 31 (oi := _) (v := ?_) rfl rfl (by kernel_rfl) (by kernel_rfl) (by kernel_rfl) (fun _ _ _ h => h) (by rfl) ?_ (HSX.out _ H2.out) ?_
      rotate_left
      · (intro w hSw; go_simp; try with_reducible rfl)
      simp only [Act.put, List.setIfInBounds_toArray, List.set_cons_zero, List.set_cons_succ]
      refine skipAt 11 32 (oi := _) rfl rfl (by kernel_rfl) (by kernel_rfl) (by kernel_rfl) (fun _ _ _ h => h) (by rfl) (HSX.out _ H2.out) ?_
      simp only [Act.put, List.setIfInBounds_toArray, List.set_cons_zero, List.set_cons_succ]
      refine skipAt 12 33 (oi := _) rfl rfl (by kernel_rfl) (by kernel_rfl) (by kernel_rfl) (fun _ _ _ h => h) (by rfl) (HSX.out _ H2.out) ?_
      simp only [Act.put, List.setIfInBounds_toArray, List.set_cons_zero, List.set_cons_succ]
      refine skipAt 13 34 (oi := _) rfl rfl (by kernel_rfl) (by kernel_rfl) (by kernel_rfl) (fun _ _ _ h => h) (by rfl) (HSX.out _ H2.out) ?_
      simp only [Act.put, List.setIfInBounds_toArray, List.set_cons_zero, List.set_cons_succ]
      refine skipAt 14 35 (oi := _) rfl rfl (by kernel_rfl) (by kernel_rfl) (by kernel_rfl) (fun _ _ _ h => h) (by rfl) (HSX.out _ H2.out) ?_
      simp only [Act.put, List.setIfInBounds_toArray, List.set_cons_zero, List.set_cons_succ]
      refine skipAt 15 36 (oi := _) rfl rfl (by kernel_rfl) (by kernel_rfl) (by kernel_rfl) (fun _ _ _ h => h) (by rfl) (HSX.out _ H2.out) ?_
      simp only [Act.put, List.setIfInBounds_toArray, List.set_cons_zero, List.set_cons_succ]
      refine takeAt 16 37 (oi := _) (v := ?_) rfl rfl (by kernel_rfl) (by kernel_rfl) (by kernel_rfl) (fun _ _ _ h => h) (by rfl) ?_ (HSX.out _ H2.out) ?_
      rotate_left
      · (intro w hSw; go_simp; try with_reducible rfl)
      simp only [Act.put, List.setIfInBounds_toArray, List.set_cons_zero, List.set_cons_succ]
      refine takeAt 17 38 (oi := _) (v := ?_) rfl rfl (by kernel_rfl) (by kernel_rfl) (by kernel_rfl) (fun _ _ _ h => h) (by rfl) ?_ (HSX.out _ H2.out) ?_
      rotate_left
      · (intro w hSw; go_simp; try with_reducible rfl)
      simp only [Act.put, List.setIfInBounds_toArray, List.set_cons_zero, List.set_cons_succ]
      refine skipAt 18 39 (oi := _) rfl rfl (by kernel_rfl) (by kernel_rfl) (by kernel_rfl) (fun _ _ _ h => h) (by rfl) (HSX.out _ H2.out) ?_
      simp only [Act.put, List.setIfInBounds_toArray, List.set_cons_zero, List.set_cons_succ]
      refine skipAt 19 40 (oi := _) rfl rfl (by kernel_rfl) (by kernel_rfl) (by kernel_rfl) (fun _ _ _ h => h) (by rfl) (HSX.out _ H2.out) ?_
      simp only [Act.put, List.setIfInBounds_toArray, List.set_cons_zero, List.set_cons_succ]
      refine skipAt 20 41 (oi := _) rfl rfl (by kernel_rfl) (by kernel_rfl) (by kernel_rfl) (fun _ _ _ h => h) (by rfl) (HSX.out _ H2.out) ?_
      simp only [Act.put, List.setIfInBounds_toArray, List.set_cons_zero, List.set_cons_succ]
      refine skipAt 21 42 (oi := _) rfl rfl (by kernel_rfl) (by kernel_rfl) (by kernel_rfl) (fun _ _ _ h => h) (by rfl) (HSX.out _ H2.out) ?_
      simp only [Act.put, List.setIfInBounds_toArray, List.set_cons_zero, List.set_cons_succ]
      refine skipAt 22 43 (oi := _) rfl rfl (by kernel_rfl) (by kernel_rfl) (by kernel_rfl) (fun _ _ _ h => h) (by rfl) (HSX.out _ H2.out) ?_
      simp only [Act.put, List.setIfInBounds_toArray, List.set_cons_zero, List.set_cons_succ]
      refine skipAt 23 44 (oi := _) rfl rfl (by kernel_rfl) (by kernel_rfl) (by kernel_rfl) (fun _ _ _ h => h) (by rfl) (HSX.out _ H2.out) ?_
      simp only [Act.put, List.setIfInBounds_toArray, List.set_cons_zero, List.set_cons_succ]
      refine skipAt 24 45 (oi := _) rfl rfl (by kernel_rfl) (by kernel_rfl) (by kernel_rfl) (fun _ _ _ h => h) (by rfl) (HSX.out _ H2.out) ?_
      simp only [Act.put, List.setIfInBounds_toArray, List.set_cons_zero, List.set_cons_succ]
      refine skipAt 25 46 (oi := _) rfl rfl (by kernel_rfl) (by kernel_rfl) (by kernel_rfl) (fun _ _ _ h => h) (by rfl) (HSX.out _ H2.out) ?_
      simp only [Act.put, List.setIfInBounds_toArray, List.set_cons_zero, List.set_cons_succ]
      refine skipAt 26 47 (oi := _) rfl rfl (by kernel_rfl) (by kernel_rfl) (by kernel_rfl) (fun _ _ _ h => h) (by rfl) (HSX.out _ H2.out) ?_
      simp only [Act.put, List.setIfInBounds_toArray, List.set_cons_zero, List.set_cons_succ]
      refine skipAt 27 48 (oi := _) rfl rfl (by kernel_rfl) (by kernel_rfl) (by kernel_rfl) (fun _ _ _ h => h) (by rfl) (HSX.out _ H2.out) ?_
      simp only [Act.put, List.setIfInBounds_toArray, List.set_cons_zero, List.set_cons_succ]
      refine skipAt 28 49 (oi := _) rfl rfl (by kernel_rfl) (by kernel_rfl) (by kernel_rfl) (fun _ _ _ h => h) (by rfl) (HSX.out _ H2.out) ?_
      simp only [Act.put, List.setIfInBounds_toArray, List.set_cons_zero, List.set_cons_succ]
      refine skipAt 29 50 (oi := _) rfl rfl (by kernel_rfl) (by kernel_rfl) (by kernel_rfl) (fun _ _ _ h => h) (by rfl) (HSX.out _ H2.out) ?_
      simp only [Act.put, List.setIfInBounds_toArray, List.set_cons_zero, List.set_cons_succ]
      refine takeAt 30 51 (oi := _) (v := ?_) rfl rfl (by kernel_rfl) (by kernel_rfl) (by kernel_rfl) (fun _ _ _ h => h) (by rfl) ?_ (HSX.out _ H2.out) ?_
      rotate_left
      · (intro w hSw; go_simp; try with_reducible rfl)
      simp only [Act.put, List.setIfInBounds_toArray, List.set_cons_zero, List.set_cons_succ]
      refine wpAnyH_done (by kernel_rfl) ?_ _
      have HS2 := Lib.hid (sqlives_any w2 ((HT.out.2.2.on H2.out).mono H2.out.size))
      go_wp2_with fail
      refine HS2.out.mono ?_
      rintro e w3 ⟨rfl, hb3⟩
      have H3 := Lib.hid (H2.out.trans (hb3.mono H2.out.size))
      clear hb3 HS2
      go_wp2_with fail
      go_ret
      exact ⟨rfl, H3.out⟩
    · by_cases hkL : (L : Int) - 1 ≤ k
      · skip
        have b1 : decide (k < 0) = false := decide_eq_false hk0
        have b2 : decide ((L : Int) - 1 ≤ k) = true := decide_eq_true hkL
        have HSX := Lib.hid (fun (W : World) (_ : Below w.heap.size w W) => trivial)
        go_wp2_with fail
        refine wp_region_held_drew (S := fun _ => True) (by kernel_rfl) (HSX.out _ (H1.out.drew)) (fun hHeld => ?_)
        change wpAnyH _ _ _ _ _ 31 _ _ _
        clear hHeld
        have HD := Lib.hid (H1.out.drew)
        have HPD := Lib.hid ((HT.out.2.2.on HD.out).mono HD.out.size)
        generalize w1.drew = WD at HD HPD ⊢
        refine wpAnyH_ready (rs := [0]) (by kernel_rfl) (by simp) ?_
        refine AllReadyH.cons (o := _) rfl (fun K hK => ?_) AllReadyH.nil
        go_simp
        refine (sqlives_any WD HPD.out).mono ?_
        rintro e w2 ⟨rfl, hb2⟩
        have H2 := Lib.hid (HD.out.trans (hb2.mono HD.out.size))
        clear hb2
        refine hK.out _ _ (HSX.out _ H2.out) (fun _ => ?_)
        clear hK K
        refine takeAt 1 22 (oi := _) (v := ?_) rfl rfl (by kernel_rfl) (by kernel_rfl) (by kernel_rfl) (fun _ _ _ h => h) (by rfl) ?_ (HSX.out _ H2.out) ?_
        rotate_left
        · (intro w hSw; go_simp; try with_reducible rfl)
        simp only [Act.put, List.setIfInBounds_toArray, List.set_cons_zero, List.set_cons_succ]
        refine takeAt 2 23 (oi := _) (v := ?_) rfl rfl (by kernel_rfl) (by kernel_rfl) (by kernel_rfl) (fun _ _ _ h => h) (by rfl) ?_ (HSX.out _ H2.out) ?_
        rotate_left
        · (intro w hSw; go_simp; try with_reducible rfl)
        simp only [Act.put, List.setIfInBounds_toArray, List.set_cons_zero, List.set_cons_succ]
        refine takeAt 3 24 (oi := _) (v := ?_) rfl rfl (by kernel_rfl) (by kernel_rfl) (by kernel_rfl) (fun _ _ _ h => h) (by rfl) ?_ (HSX.out _ H2.out) ?_
        rotate_left
        · (intro w hSw; go_simp; try with_reducible rfl)
        simp only [Act.put, List.setIfInBounds_toArray, List.set_cons_zero, List.set_cons_succ]
        refine takeAt 4 25 (oi := _) (v := ?_) rfl rfl (by kernel_rfl) (by kernel_rfl) (by kernel_rfl) (fun _ _ _ h => h) (by rfl) ?_ (HSX.out _ H2.out) ?_
        rotate_left
        · (intro w hSw; go_simp; try with_reducible rfl)
        simp only [Act.put, List.setIfInBounds_toArray, List.set_cons_zero, List.set_cons_succ]
        refine takeAt 5 26 (oi := _) (v := ?_) rfl rfl (by kernel_rfl) (by kernel_rfl) (by kernel_rfl) (fun _ _ _ h => h) (by rfl) ?_ (HSX.out _ H2.out) ?_
        rotate_left
        · (intro w hSw; go_simp; try with_reducible rfl)
        simp only [Act.put, List.setIfInBounds_toArray, List.set_cons_zero, List.set_cons_succ]
        refine takeAt 6 27 (oi := _) (v := ?_) rfl rfl (by kernel_rfl) (by kernel_rfl) (by kernel_rfl) (fun _ _ _ h => h) (by rfl) ?_ (HSX.out _ H2.out) ?_
        rotate_left
        · (intro w hSw; go_simp; try with_reducible rfl)
        simp only [Act.put, List.setIfInBounds_toArray, List.set_cons_zero, List.set_cons_succ]
        refine takeAt 7 28 (oi := _) (v := ?_) rfl rfl (by kernel_rfl) (by kernel_rfl) (by kernel_rfl) (fun _ _ _ h => h) (by rfl) ?_ (HSX.out _ H2.out) ?_
        rotate_left
        · (intro w hSw; go_simp; try with_reducible rfl)
        simp only [Act.put, List.setIfInBounds_toArray, List.set_cons_zero, List.set_cons_succ]
        refine takeAt 8 29 (oi := _) (v := ?_) rfl rfl (by kernel_rfl) (by kernel_rfl) (by kernel_rfl) (fun _ _ _ h => h) (by rfl) ?_ (HSX.out _ H2.out) ?_
        rotate_left
        · (intro w hSw; go_simp; try with_reducible rfl)
        simp only [Act.put, List.setIfInBounds_toArray, List.set_cons_zero, List.set_cons_succ]
        refine takeAt 9 30 (oi := _) (v := ?_) rfl rfl (by kernel_rfl) (by kernel_rfl) (by kernel_rfl) (fun _ _ _ h => h) (by rfl) ?_ (HSX.out _ H2.out) ?_
        rotate_left
        · (intro w hSw; go_simp; try with_reducible rfl)
        simp only [Act.put, List.setIfInBounds_toArray, List.set_cons_zero, List.set_cons_succ]
        refine takeAt 10 31 (oi := _) (v := ?_) rfl rfl (by kernel_rfl) (by kernel_rfl) (by kernel_rfl) (fun _ _ _ h => h) (by rfl) ?_ (HSX.out _ H2.out) ?_
        rotate_left
        · (intro w hSw; go_simp; try with_reducible rfl)
        simp only [Act.put, List.setIfInBounds_toArray, List.set_cons_zero, List.set_cons_succ]
        refine takeAt 11 32 (oi := _) (v := ?_) rfl rfl (by kernel_rfl) (by kernel_rfl) (by kernel_rfl) (fun _ _ _ h => h) (by rfl) ?_ (HSX.out _ H2.out) ?_
        rotate_left
        · (intro w hSw; go_simp; try with_reducible rfl)
        simp only [Act.put, List.setIfInBounds_toArray, List.set_cons_zero, List.set_cons_succ]
        refine takeAt 12 33 (oi := _) (v := ?_) rfl rfl (by kernel_rfl) (by kernel_rfl) (by kernel_rfl) (fun _ _ _ h => h) (by rfl) ?_ (HSX.out _ H2.out) ?_
        rotate_left
        · (intro w hSw; go_simp; try with_reducible rfl)
        simp only [Act.put, List.setIfInBounds_toArray, List.set_cons_zero, List.set_cons_succ]
        refine takeAt 13 34 (oi := _) (v := ?_) rfl rfl (by kernel_rfl) (by kernel_rfl) (by kernel_rfl) (fun _ _ _ h => h) (by rfl) ?_ (HSX.out _ H2.out) ?_
        rotate_left
        · (intro w hSw; go_simp; try with_reducible rfl)
        simp only [Act.put, List.setIfInBounds_toArray, List.set_cons_zero, List.set_cons_succ]
        refine takeAt 14 35 (oi := _) (v := ?_) rfl rfl (by kernel_rfl) (by kernel_rfl) (by kernel_rfl) (fun _ _ _ h => h) (by rfl) ?_ (HSX.out _ H2.out) ?_
        rotate_left
        · (intro w hSw; go_simp; try with_reducible rfl)
        simp only [Act.put, List.setIfInBounds_toArray, List.set_cons_zero, List.set_cons_succ]
        refine takeAt 15 36 (oi := _) (v := ?_) rfl rfl (by kernel_rfl) (by kernel_rfl) (by kernel_rfl) (fun _ _ _ h => h) (by rfl) ?_ (HSX.out _ H2.out) ?_
        rotate_left
        · (intro w hSw; go_simp; try with_reducible rfl)
        simp only [Act.put, List.setIfInBounds_toArray, List.set_cons_zero, List.set_cons_succ]
        refine takeAt 16 37 (oi := _) (v := ?_) rfl rfl (by kernel_rfl) (by kernel_rfl) (by kernel_rfl) (fun _ _ _ h => h) (by rfl) ?_ (HSX.out _ H2.out) ?_
        rotate_left
        · (intro w hSw; go_simp; try with_reducible rfl)
        simp only [Act.put, List.setIfInBounds_toArray, List.set_cons_zero, List.set_cons_succ]
        refine takeAt 17 38 (oi := _) (v := ?_) rfl rfl (by kernel_rfl) (by kernel_rfl) (by kernel_rfl) (fun _ _ _ h => h) (by rfl) ?_ (HSX.out _ H2.out) ?_
        rotate_left
        · (intro w hSw; go_simp; try with_reducible rfl)
        simp only [Act.put, List.setIfInBounds_toArray, List.set_cons_zero, List.set_cons_succ]
        refine skipAt 18 39 (oi := _) rfl rfl (by kernel_rfl) (by kernel_rfl) (by kernel_rfl) (fun _ _ _ h => h) (by rfl) (HSX.out _ H2.out) ?_
        simp only [Act.put, List.setIfInBounds_toArray, List.set_cons_zero, List.set_cons_succ]
        refine skipAt 19 40 (oi := _) rfl rfl (by kernel_rfl) (by kernel_rfl) (by kernel_rfl) (fun _ _ _ h => h) (by rfl) (HSX.out _ H2.out) ?_
        simp only [Act.put, List.setIfInBounds_toArray, List.set_cons_zero, List.set_cons_succ]
        refine skipAt 20 41 (oi := _) rfl rfl (by kernel_rfl) (by kernel_rfl) (by kernel_rfl) (fun _ _ _ h => h) (by rfl) (HSX.out _ H2.out) ?_
        simp only [Act.put, List.setIfInBounds_toArray, List.set_cons_zero, List.set_cons_succ]
        refine skipAt 21 42 (oi := _) rfl rfl (by kernel_rfl) (by kernel_rfl) (by kernel_rfl) (fun _ _ _ h => h) (by rfl) (HSX.out _ H2.out) ?_
        simp only [Act.put, List.setIfInBounds_toArray, List.set_cons_zero, List.set_cons_succ]
        refine skipAt 22 43 (oi := _) rfl rfl (by kernel_rfl) (by kernel_rfl) (by kernel_rfl) (fun _ _ _ h => h) (by rfl) (HSX.out _ H2.out) ?_
        simp only [Act.put, List.setIfInBounds_toArray, List.set_cons_zero, List.set_cons_succ]
        refine skipAt 23 44 (oi := _) rfl rfl (by kernel_rfl) (by kernel_rfl) (by kernel_rfl) (fun _ _ _ h => h) (by rfl) (HSX.out _ H2.out) ?_
        simp only [Act.put, List.setIfInBounds_toArray, List.set_cons_zero, List.set_cons_succ]
        refine skipAt 24 45 (oi := _) rfl rfl (by kernel_rfl) (by kernel_rfl) (by kernel_rfl) (fun _ _ _ h => h) (by rfl) (HSX.out _ H2.out) ?_
        simp only [Act.put, List.setIfInBounds_toArray, List.set_cons_zero, List.set_cons_succ]
        refine skipAt 25 46 (oi := _) rfl rfl (by kernel_rfl) (by kernel_rfl) (by kernel_rfl) (fun _ _ _ h => h) (by rfl) (HSX.out _ H2.out) ?_
        simp only [Act.put, List.setIfInBounds_toArray, List.set_cons_zero, List.set_cons_succ]
        refine skipAt 26 47 (oi := _) rfl rfl (by kernel_rfl) (by kernel_rfl) (by kernel_rfl) (fun _ _ _ h => h) (by rfl) (HSX.out _ H2.out) ?_
        simp only [Act.put, List.setIfInBounds_toArray, List.set_cons_zero, List.set_cons_succ]
        refine skipAt 27 48 (oi := _) rfl rfl (by kernel_rfl) (by kernel_rfl) (by kernel_rfl) (fun _ _ _ h => h) (by rfl) (HSX.out _ H2.out) ?_
        simp only [Act.put, List.setIfInBounds_toArray, List.set_cons_zero, List.set_cons_succ]
        refine skipAt 28 49 (oi := _) rfl rfl (by kernel_rfl) (by kernel_rfl) (by kernel_rfl) (fun _ _ _ h => h) (by rfl) (HSX.out _ H2.out) ?_
        simp only [Act.put, List.setIfInBounds_toArray, List.set_cons_zero, List.set_cons_succ]
        refine skipAt 29 50 (oi := _) rfl rfl (by kernel_rfl) (by kernel_rfl) (by kernel_rfl) (fun _ _ _ h => h) (by rfl) (HSX.out _ H2.out) ?_
        simp only [Act.put, List.setIfInBounds_toArray, List.set_cons_zero, List.set_cons_succ]
        refine takeAt 30 51 (oi := _) (v := ?_) rfl rfl (by kernel_rfl) (by kernel_rfl) (by kernel_rfl) (fun _ _ _ h => h) (by rfl) ?_ (HSX.out _ H2.out) ?_
        rotate_left
        · (intro w hSw; go_simp; try with_reducible rfl)
        simp only [Act.put, List.setIfInBounds_toArray, List.set_cons_zero, List.set_cons_succ]
        refine wpAnyH_done (by kernel_rfl) ?_ _
        have HS2 := Lib.hid (sqlives_any w2 ((HT.out.2.2.on H2.out).mono H2.out.size))
        go_wp2_with fail
        refine HS2.out.mono ?_
        rintro e w3 ⟨rfl, hb3⟩
        have H3 := Lib.hid (H2.out.trans (hb3.mono H2.out.size))
        clear hb3 HS2
        go_wp2_with fail
        go_ret
        exact ⟨rfl, H3.out⟩
      · skip
        obtain ⟨m, rfl⟩ : ∃ m : Nat, k = (m : Int) := ⟨k.toNat, by omega⟩
        have hkl : m + 1 < l.length := by rw [← HLL.out.2]; omega
        obtain ⟨x, hx⟩ : ∃ x, l[m]? = some x := ⟨_, List.getElem?_eq_getElem (by omega)⟩
        obtain ⟨y, hy⟩ : ∃ y, l[m + 1]? = some y := ⟨_, List.getElem?_eq_getElem hkl⟩
        obtain ⟨g, o, rfl, hg, hev⟩ := ev_two HT.out.2.1 hx hy
        have HX := Lib.hid (And.intro hx (And.intro hy hkl))
        have HSX := Lib.hid hev
        obtain ⟨x0, x1, x2, x3⟩ := x
        obtain ⟨y0, y1, y2, y3⟩ := y
        have b1 : decide ((m : Int) < 0) = false := decide_eq_false hk0
        have b2 : decide ((L : Int) - 1 ≤ (m : Int)) = false := decide_eq_false hkL
        have i1 : (0 : Int) ≤ (m : Int) := by omega
        have i2 : (m : Int) < (L : Int) := by omega
        have hwm : IntKind.i64.wrap ((m : Int) + 1) = (m : Int) + 1 := by rw [IntKind.wrap_i64]; omega
        have i3 : (0 : Int) ≤ (m : Int) + 1 := by omega
        have i4 : (m : Int) + 1 < (L : Int) := by omega
        have i5 : ((m : Int) + 1).toNat = m + 1 := by omega
        have hL200 : l.length ≤ 200 := (calls_zero (search_ok.1 HB.out).1).2.1
        have HL200 := Lib.hid hL200
        clear hx hy hev hkl hL200
        by_cases hw9 : x0 = y0
        · have b3 : (x0 == y0) = true := by rw [beq_iff_eq]; exact hw9
          clear hw9
          go_wp2_with fail
          refine wp_region_held_drew (S := EvC g o m ⟨x0, x1, x2, x3⟩ ⟨y0, y1, y2, y3⟩) (by kernel_rfl) (HSX.out _ (H1.out.drew)) (fun hHeld => ?_)
          change wpAnyH _ _ _ _ _ 31 _ _ _
          clear hHeld
          have HD := Lib.hid (H1.out.drew)
          have HPD := Lib.hid ((HT.out.2.2.on HD.out).mono HD.out.size)
          generalize w1.drew = WD at HD HPD ⊢
          refine wpAnyH_ready (rs := [0]) (by kernel_rfl) (by simp) ?_
          refine AllReadyH.cons (o := _) rfl (fun K hK => ?_) AllReadyH.nil
          go_simp
          refine (sqlives_any WD HPD.out).mono ?_
          rintro e w2 ⟨rfl, hb2⟩
          have H2 := Lib.hid (HD.out.trans (hb2.mono HD.out.size))
          clear hb2
          refine hK.out _ _ (HSX.out _ H2.out) (fun _ => ?_)
          clear hK K
          refine takeAt 1 22 (oi := _) (v := ?_) rfl rfl (by kernel_rfl) (by kernel_rfl) (by kernel_rfl) (fun _ _ _ h => h) (by rfl) ?_ (HSX.out _ H2.out) ?_
          rotate_left
          · (intro w hSw; obtain ⟨p0, p1, p2, p3, p4, p5, p6, p7⟩ := hSw; simp only at p0 p1 p2 p3 p4 p5 p6 p7; go_simp; try with_reducible rfl)
          simp only [Act.put, List.setIfInBounds_toArray, List.set_cons_zero, List.set_cons_succ]
          refine takeAt 2 23 (oi := _) (v := ?_) rfl rfl (by kernel_rfl) (by kernel_rfl) (by kernel_rfl) (fun _ _ _ h => h) (by rfl) ?_ (HSX.out _ H2.out) ?_
          rotate_left
          · (intro w hSw; obtain ⟨p0, p1, p2, p3, p4, p5, p6, p7⟩ := hSw; simp only at p0 p1 p2 p3 p4 p5 p6 p7; go_simp; try with_reducible rfl)
          simp only [Act.put, List.setIfInBounds_toArray, List.set_cons_zero, List.set_cons_succ]
          refine takeAt 3 24 (oi := _) (v := ?_) rfl rfl (by kernel_rfl) (by kernel_rfl) (by kernel_rfl) (fun _ _ _ h => h) (by rfl) ?_ (HSX.out _ H2.out) ?_
          rotate_left
          · (intro w hSw; obtain ⟨p0, p1, p2, p3, p4, p5, p6, p7⟩ := hSw; simp only at p0 p1 p2 p3 p4 p5 p6 p7; go_simp; try with_reducible rfl)
          simp only [Act.put, List.setIfInBounds_toArray, List.set_cons_zero, List.set_cons_succ]
          refine takeAt 4 25 (oi := _) (v := ?_) rfl rfl (by kernel_rfl) (by kernel_rfl) (by kernel_rfl) (fun _ _ _ h => h) (by rfl) ?_ (HSX.out _ H2.out) ?_
          rotate_left
          · (intro w hSw; obtain ⟨p0, p1, p2, p3, p4, p5, p6, p7⟩ := hSw; simp only at p0 p1 p2 p3 p4 p5 p6 p7; go_simp; try with_reducible rfl)
          simp only [Act.put, List.setIfInBounds_toArray, List.set_cons_zero, List.set_cons_succ]
          refine takeAt 5 26 (oi := _) (v := ?_) rfl rfl (by kernel_rfl) (by kernel_rfl) (by kernel_rfl) (fun _ _ _ h => h) (by rfl) ?_ (HSX.out _ H2.out) ?_
          rotate_left
          · (intro w hSw; obtain ⟨p0, p1, p2, p3, p4, p5, p6, p7⟩ := hSw; simp only at p0 p1 p2 p3 p4 p5 p6 p7; go_simp; try with_reducible rfl)
          simp only [Act.put, List.setIfInBounds_toArray, List.set_cons_zero, List.set_cons_succ]
          refine takeAt 6 27 (oi := _) (v := ?_) rfl rfl (by kernel_rfl) (by kernel_rfl) (by kernel_rfl) (fun _ _ _ h => h) (by rfl) ?_ (HSX.out _ H2.out) ?_
          rotate_left
          · (intro w hSw; obtain ⟨p0, p1, p2, p3, p4, p5, p6, p7⟩ := hSw; simp only at p0 p1 p2 p3 p4 p5 p6 p7; go_simp; try with_reducible rfl)
          simp only [Act.put, List.setIfInBounds_toArray, List.set_cons_zero, List.set_cons_succ]
          refine takeAt 7 28 (oi := _) (v := ?_) rfl rfl (by kernel_rfl) (by kernel_rfl) (by kernel_rfl) (fun _ _ _ h => h) (by rfl) ?_ (HSX.out _ H2.out) ?_
          rotate_left
          · (intro w hSw; obtain ⟨p0, p1, p2, p3, p4, p5, p6, p7⟩ := hSw; simp only at p0 p1 p2 p3 p4 p5 p6 p7; go_simp; try with_reducible rfl)
          simp only [Act.put, List.setIfInBounds_toArray, List.set_cons_zero, List.set_cons_succ]
          refine takeAt 8 29 (oi := _) (v := ?_) rfl rfl (by kernel_rfl) (by kernel_rfl) (by kernel_rfl) (fun _ _ _ h => h) (by rfl) ?_ (HSX.out _ H2.out) ?_
          rotate_left
          · (intro w hSw; obtain ⟨p0, p1, p2, p3, p4, p5, p6, p7⟩ := hSw; simp only at p0 p1 p2 p3 p4 p5 p6 p7; go_simp; try with_reducible rfl)
          simp only [Act.put, List.setIfInBounds_toArray, List.set_cons_zero, List.set_cons_succ]
          refine takeAt 9 30 (oi := _) (v := ?_) rfl rfl (by kernel_rfl) (by kernel_rfl) (by kernel_rfl) (fun _ _ _ h => h) (by rfl) ?_ (HSX.out _ H2.out) ?_
          rotate_left
          · (intro w hSw; obtain ⟨p0, p1, p2, p3, p4, p5, p6, p7⟩ := hSw; simp only at p0 p1 p2 p3 p4 p5 p6 p7; go_simp; try with_reducible rfl)
          simp only [Act.put, List.setIfInBounds_toArray, List.set_cons_zero, List.set_cons_succ]
          refine takeAt 10 31 (oi := _) (v := ?_) rfl rfl (by kernel_rfl) (by kernel_rfl) (by kernel_rfl) (fun _ _ _ h => h) (by rfl) ?_ (HSX.out _ H2.out) ?_
          rotate_left
          · (intro w hSw; obtain ⟨p0, p1, p2, p3, p4, p5, p6, p7⟩ := hSw; simp only at p0 p1 p2 p3 p4 p5 p6 p7; go_simp; try with_reducible rfl)
          simp only [Act.put, List.setIfInBounds_toArray, List.set_cons_zero, List.set_cons_succ]
          refine takeAt 11 32 (oi := _) (v := ?_) rfl rfl (by kernel_rfl) (by kernel_rfl) (by kernel_rfl) (fun _ _ _ h => h) (by rfl) ?_ (HSX.out _ H2.out) ?_
          rotate_left
          · (intro w hSw; obtain ⟨p0, p1, p2, p3, p4, p5, p6, p7⟩ := hSw; simp only at p0 p1 p2 p3 p4 p5 p6 p7; go_simp; try with_reducible rfl)
          simp only [Act.put, List.setIfInBounds_toArray, List.set_cons_zero, List.set_cons_succ]
          refine takeAt 12 33 (oi := _) (v := ?_) rfl rfl (by kernel_rfl) (by kernel_rfl) (by kernel_rfl) (fun _ _ _ h => h) (by rfl) ?_ (HSX.out _ H2.out) ?_
          rotate_left
          · (intro w hSw; obtain ⟨p0, p1, p2, p3, p4, p5, p6, p7⟩ := hSw; simp only at p0 p1 p2 p3 p4 p5 p6 p7; go_simp; try with_reducible rfl)
          simp only [Act.put, List.setIfInBounds_toArray, List.set_cons_zero, List.set_cons_succ]
          refine takeAt 13 34 (oi := _) (v := ?_) rfl rfl (by kernel_rfl) (by kernel_rfl) (by kernel_rfl) (fun _ _ _ h => h) (by rfl) ?_ (HSX.out _ H2.out) ?_
          rotate_left
          · (intro w hSw; obtain ⟨p0, p1, p2, p3, p4, p5, p6, p7⟩ := hSw; simp only at p0 p1 p2 p3 p4 p5 p6 p7; go_simp; try with_reducible rfl)
          simp only [Act.put, List.setIfInBounds_toArray, List.set_cons_zero, List.set_cons_succ]
          refine takeAt 14 35 (oi := _) (v := ?_) rfl rfl (by kernel_rfl) (by kernel_rfl) (by kernel_rfl) (fun _ _ _ h => h) (by rfl) ?_ (HSX.out _ H2.out) ?_
          rotate_left
          · (intro w hSw; obtain ⟨p0, p1, p2, p3, p4, p5, p6, p7⟩ := hSw; simp only at p0 p1 p2 p3 p4 p5 p6 p7; go_simp; try with_reducible rfl)
          simp only [Act.put, List.setIfInBounds_toArray, List.set_cons_zero, List.set_cons_succ]
          refine takeAt 15 36 (oi := _) (v := ?_) rfl rfl (by kernel_rfl) (by kernel_rfl) (by kernel_rfl) (fun _ _ _ h => h) (by rfl) ?_ (HSX.out _ H2.out) ?_
          rotate_left
          · (intro w hSw; obtain ⟨p0, p1, p2, p3, p4, p5, p6, p7⟩ := hSw; simp only at p0 p1 p2 p3 p4 p5 p6 p7; go_simp; try with_reducible rfl)
          simp only [Act.put, List.setIfInBounds_toArray, List.set_cons_zero, List.set_cons_succ]
          refine takeAt 16 37 (oi := _) (v := ?_) rfl rfl (by kernel_rfl) (by kernel_rfl) (by kernel_rfl) (fun _ _ _ h => h) (by rfl) ?_ (HSX.out _ H2.out) ?_
          rotate_left
          · (intro w hSw; obtain ⟨p0, p1, p2, p3, p4, p5, p6, p7⟩ := hSw; simp only at p0 p1 p2 p3 p4 p5 p6 p7; go_simp; try with_reducible rfl)
          simp only [Act.put, List.setIfInBounds_toArray, List.set_cons_zero, List.set_cons_succ]
          refine takeAt 17 38 (oi := _) (v := ?_) rfl rfl (by kernel_rfl) (by kernel_rfl) (by kernel_rfl) (fun _ _ _ h => h) (by rfl) ?_ (HSX.out _ H2.out) ?_
          rotate_left
          · (intro w hSw; obtain ⟨p0, p1, p2, p3, p4, p5, p6, p7⟩ := hSw; simp only at p0 p1 p2 p3 p4 p5 p6 p7; go_simp; try with_reducible rfl)
          simp only [Act.put, List.setIfInBounds_toArray, List.set_cons_zero, List.set_cons_succ]
          refine takeAt 18 39 (oi := _) (v := ?_) rfl rfl (by kernel_rfl) (by kernel_rfl) (by kernel_rfl) (fun _ _ _ h => h) (by rfl) ?_ (HSX.out _ H2.out) ?_
          rotate_left
          · (intro w hSw; obtain ⟨p0, p1, p2, p3, p4, p5, p6, p7⟩ := hSw; simp only at p0 p1 p2 p3 p4 p5 p6 p7; go_simp; try with_reducible rfl)
          simp only [Act.put, List.setIfInBounds_toArray, List.set_cons_zero, List.set_cons_succ]
          refine takeAt 19 40 (oi := _) (v := ?_) rfl rfl (by kernel_rfl) (by kernel_rfl) (by kernel_rfl) (fun _ _ _ h => h) (by rfl) ?_ (HSX.out _ H2.out) ?_
          rotate_left
          · (intro w hSw; obtain ⟨p0, p1, p2, p3, p4, p5, p6, p7⟩ := hSw; simp only at p0 p1 p2 p3 p4 p5 p6 p7; go_simp; try with_reducible rfl)
          simp only [Act.put, List.setIfInBounds_toArray, List.set_cons_zero, List.set_cons_succ]
          refine takeAt 20 41 (oi := _) (v := ?_) rfl rfl (by kernel_rfl) (by kernel_rfl) (by kernel_rfl) (fun _ _ _ h => h) (by rfl) ?_ (HSX.out _ H2.out) ?_
          rotate_left
          · (intro w hSw; obtain ⟨p0, p1, p2, p3, p4, p5, p6, p7⟩ := hSw; simp only at p0 p1 p2 p3 p4 p5 p6 p7; go_simp; try with_reducible rfl)
          simp only [Act.put, List.setIfInBounds_toArray, List.set_cons_zero, List.set_cons_succ]
          refine takeAt 21 42 (oi := _) (v := ?_) rfl rfl (by kernel_rfl) (by kernel_rfl) (by kernel_rfl) (fun _ _ _ h => h) (by rfl) ?_ (HSX.out _ H2.out) ?_
          rotate_left
          · (intro w hSw; obtain ⟨p0, p1, p2, p3, p4, p5, p6, p7⟩ := hSw; simp only at p0 p1 p2 p3 p4 p5 p6 p7; go_simp; try with_reducible rfl)
          simp only [Act.put, List.setIfInBounds_toArray, List.set_cons_zero, List.set_cons_succ]
          refine takeAt 22 43 (oi := _) (v := ?_) rfl rfl (by kernel_rfl) (by kernel_rfl) (by kernel_rfl) (fun _ _ _ h => h) (by rfl) ?_ (HSX.out _ H2.out) ?_
          rotate_left
          · (intro w hSw; obtain ⟨p0, p1, p2, p3, p4, p5, p6, p7⟩ := hSw; simp only at p0 p1 p2 p3 p4 p5 p6 p7; go_simp; try with_reducible rfl)
          simp only [Act.put, List.setIfInBounds_toArray, List.set_cons_zero, List.set_cons_succ]
          refine takeAt 23 44 (oi := _) (v := ?_) rfl rfl (by kernel_rfl) (by kernel_rfl) (by kernel_rfl) (fun _ _ _ h => h) (by rfl) ?_ (HSX.out _ H2.out) ?_
          rotate_left
          · (intro w hSw; obtain ⟨p0, p1, p2, p3, p4, p5, p6, p7⟩ := hSw; simp only at p0 p1 p2 p3 p4 p5 p6 p7; go_simp; try with_reducible rfl)
          simp only [Act.put, List.setIfInBounds_toArray, List.set_cons_zero, List.set_cons_succ]
          refine takeAt 24 45 (oi := _) (v := ?_) rfl rfl (by kernel_rfl) (by kernel_rfl) (by kernel_rfl) (fun _ _ _ h => h) (by rfl) ?_ (HSX.out _ H2.out) ?_
          rotate_left
          · (intro w hSw; obtain ⟨p0, p1, p2, p3, p4, p5, p6, p7⟩ := hSw; simp only at p0 p1 p2 p3 p4 p5 p6 p7; go_simp; try with_reducible rfl)
          simp only [Act.put, List.setIfInBounds_toArray, List.set_cons_zero, List.set_cons_succ]
          refine takeAt 25 46 (oi := _) (v := ?_) rfl rfl (by kernel_rfl) (by kernel_rfl) (by kernel_rfl) (fun _ _ _ h => h) (by rfl) ?_ (HSX.out _ H2.out) ?_
          rotate_left
          · (intro w hSw; obtain ⟨p0, p1, p2, p3, p4, p5, p6, p7⟩ := hSw; simp only at p0 p1 p2 p3 p4 p5 p6 p7; go_simp; try with_reducible rfl)
          simp only [Act.put, List.setIfInBounds_toArray, List.set_cons_zero, List.set_cons_succ]
          refine takeAt 26 47 (oi := _) (v := ?_) rfl rfl (by kernel_rfl) (by kernel_rfl) (by kernel_rfl) (fun _ _ _ h => h) (by rfl) ?_ (HSX.out _ H2.out) ?_
          rotate_left
          · (intro w hSw; obtain ⟨p0, p1, p2, p3, p4, p5, p6, p7⟩ := hSw; simp only at p0 p1 p2 p3 p4 p5 p6 p7; go_simp; try with_reducible rfl)
          simp only [Act.put, List.setIfInBounds_toArray, List.set_cons_zero, List.set_cons_succ]
          refine takeAt 27 48 (oi := _) (v := ?_) rfl rfl (by kernel_rfl) (by kernel_rfl) (by kernel_rfl) (fun _ _ _ h => h) (by rfl) ?_ (HSX.out _ H2.out) ?_
          rotate_left
          · (intro w hSw; obtain ⟨p0, p1, p2, p3, p4, p5, p6, p7⟩ := hSw; simp only at p0 p1 p2 p3 p4 p5 p6 p7; go_simp; try with_reducible rfl)
          simp only [Act.put, List.setIfInBounds_toArray, List.set_cons_zero, List.set_cons_succ]
          refine takeAt 28 49 (oi := _) (v := ?_) rfl rfl (by kernel_rfl) (by kernel_rfl) (by kernel_rfl) (fun _ _ _ h => h) (by rfl) ?_ (HSX.out _ H2.out) ?_
          rotate_left
          · (intro w hSw; obtain ⟨p0, p1, p2, p3, p4, p5, p6, p7⟩ := hSw; simp only at p0 p1 p2 p3 p4 p5 p6 p7; go_simp; try with_reducible rfl)
          simp only [Act.put, List.setIfInBounds_toArray, List.set_cons_zero, List.set_cons_succ]
          refine takeAt 29 50 (oi := _) (v := ?_) rfl rfl (by kernel_rfl) (by kernel_rfl) (by kernel_rfl) (fun _ _ _ h => h) (by rfl) ?_ (HSX.out _ H2.out) ?_
          rotate_left
          · (intro w hSw; obtain ⟨p0, p1, p2, p3, p4, p5, p6, p7⟩ := hSw; simp only at p0 p1 p2 p3 p4 p5 p6 p7; go_simp; try with_reducible rfl)
          simp only [Act.put, List.setIfInBounds_toArray, List.set_cons_zero, List.set_cons_succ]
          refine takeAt 30 51 (oi := _) (v := ?_) rfl rfl (by kernel_rfl) (by kernel_rfl) (by kernel_rfl) (fun _ _ _ h => h) (by rfl) ?_ (HSX.out _ H2.out) ?_
          rotate_left
          · (intro w hSw; obtain ⟨p0, p1, p2, p3, p4, p5, p6, p7⟩ := hSw; simp only at p0 p1 p2 p3 p4 p5 p6 p7; go_simp; try with_reducible rfl)
          simp only [Act.put, List.setIfInBounds_toArray, List.set_cons_zero, List.set_cons_succ]
          refine wpAnyH_done (by kernel_rfl) ?_ _
          have HS2 := Lib.hid (sqlives_any w2 ((HT.out.2.2.on H2.out).mono H2.out.size))
          go_wp2_with fail
          refine HS2.out.mono ?_
          rintro e w3 ⟨rfl, hb3⟩
          have H3 := Lib.hid (H2.out.trans (hb3.mono H2.out.size))
          clear hb3 HS2
          go_wp2_with fail
          go_ret
          exact ⟨rfl, H3.out⟩
        · have b3 : (x0 == y0) = false := by rw [beq_eq_false_iff_ne]; exact hw9
          have HW9 := Lib.hid hw9
          clear hw9
          go_wp2_with fail
          refine wp_region_held_drew (S := EvC g o m ⟨x0, x1, x2, x3⟩ ⟨y0, y1, y2, y3⟩) (by kernel_rfl) (HSX.out _ (H1.out.drew)) (fun hHeld => ?_)
          change wpAnyH _ _ _ _ _ 31 _ _ _
          clear hHeld
          have HD := Lib.hid (H1.out.drew)
          have HPD := Lib.hid ((HT.out.2.2.on HD.out).mono HD.out.size)
          generalize w1.drew = WD at HD HPD ⊢
          refine wpAnyH_ready (rs := [0]) (by kernel_rfl) (by simp) ?_
          refine AllReadyH.cons (o := _) rfl (fun K hK => ?_) AllReadyH.nil
          go_simp
          refine (sqlives_any WD HPD.out).mono ?_
          rintro e w2 ⟨rfl, hb2⟩
          have H2 := Lib.hid (HD.out.trans (hb2.mono HD.out.size))
          clear hb2
          refine hK.out _ _ (HSX.out _ H2.out) (fun _ => ?_)
          clear hK K
          refine takeAt 1 22 (oi := _) (v := ?_) rfl rfl (by kernel_rfl) (by kernel_rfl) (by kernel_rfl) (fun _ _ _ h => h) (by rfl) ?_ (HSX.out _ H2.out) ?_
          rotate_left
          · (intro w hSw; obtain ⟨p0, p1, p2, p3, p4, p5, p6, p7⟩ := hSw; simp only at p0 p1 p2 p3 p4 p5 p6 p7; go_simp; try with_reducible rfl)
          simp only [Act.put, List.setIfInBounds_toArray, List.set_cons_zero, List.set_cons_succ]
          refine takeAt 2 23 (oi := _) (v := ?_) rfl rfl (by kernel_rfl) (by kernel_rfl) (by kernel_rfl) (fun _ _ _ h => h) (by rfl) ?_ (HSX.out _ H2.out) ?_
          rotate_left
          · (intro w hSw; obtain ⟨p0, p1, p2, p3, p4, p5, p6, p7⟩ := hSw; simp only at p0 p1 p2 p3 p4 p5 p6 p7; go_simp; try with_reducible rfl)
          simp only [Act.put, List.setIfInBounds_toArray, List.set_cons_zero, List.set_cons_succ]
          refine takeAt 3 24 (oi := _) (v := ?_) rfl rfl (by kernel_rfl) (by kernel_rfl) (by kernel_rfl) (fun _ _ _ h => h) (by rfl) ?_ (HSX.out _ H2.out) ?_
          rotate_left
          · (intro w hSw; obtain ⟨p0, p1, p2, p3, p4, p5, p6, p7⟩ := hSw; simp only at p0 p1 p2 p3 p4 p5 p6 p7; go_simp; try with_reducible rfl)
          simp only [Act.put, List.setIfInBounds_toArray, List.set_cons_zero, List.set_cons_succ]
          refine takeAt 4 25 (oi := _) (v := ?_) rfl rfl (by kernel_rfl) (by kernel_rfl) (by kernel_rfl) (fun _ _ _ h => h) (by rfl) ?_ (HSX.out _ H2.out) ?_
          rotate_left
          · (intro w hSw; obtain ⟨p0, p1, p2, p3, p4, p5, p6, p7⟩ := hSw; simp only at p0 p1 p2 p3 p4 p5 p6 p7; go_simp; try with_reducible rfl)
          simp only [Act.put, List.setIfInBounds_toArray, List.set_cons_zero, List.set_cons_succ]
          refine takeAt 5 26 (oi := _) (v := ?_) rfl rfl (by kernel_rfl) (by kernel_rfl) (by kernel_rfl) (fun _ _ _ h => h) (by rfl) ?_ (HSX.out _ H2.out) ?_
          rotate_left
          · (intro w hSw; obtain ⟨p0, p1, p2, p3, p4, p5, p6, p7⟩ := hSw; simp only at p0 p1 p2 p3 p4 p5 p6 p7; go_simp; try with_reducible rfl)
          simp only [Act.put, List.setIfInBounds_toArray, List.set_cons_zero, List.set_cons_succ]
          refine takeAt 6 27 (oi := _) (v := ?_) rfl rfl (by kernel_rfl) (by kernel_rfl) (by kernel_rfl) (fun _ _ _ h => h) (by rfl) ?_ (HSX.out _ H2.out) ?_
          rotate_left
          · (intro w hSw; obtain ⟨p0, p1, p2, p3, p4, p5, p6, p7⟩ := hSw; simp only at p0 p1 p2 p3 p4 p5 p6 p7; go_simp; try with_reducible rfl)
          simp only [Act.put, List.setIfInBounds_toArray, List.set_cons_zero, List.set_cons_succ]
          refine takeAt 7 28 (oi := _) (v := ?_) rfl rfl (by kernel_rfl) (by kernel_rfl) (by kernel_rfl) (fun _ _ _ h => h) (by rfl) ?_ (HSX.out _ H2.out) ?_
          rotate_left
          · (intro w hSw; obtain ⟨p0, p1, p2, p3, p4, p5, p6, p7⟩ := hSw; simp only at p0 p1 p2 p3 p4 p5 p6 p7; go_simp; try with_reducible rfl)
          simp only [Act.put, List.setIfInBounds_toArray, List.set_cons_zero, List.set_cons_succ]
          refine takeAt 8 29 (oi := _) (v := ?_) rfl rfl (by kernel_rfl) (by kernel_rfl) (by kernel_rfl) (fun _ _ _ h => h) (by rfl) ?_ (HSX.out _ H2.out) ?_
          rotate_left
          · (intro w hSw; obtain ⟨p0, p1, p2, p3, p4, p5, p6, p7⟩ := hSw; simp only at p0 p1 p2 p3 p4 p5 p6 p7; go_simp; try with_reducible rfl)
          simp only [Act.put, List.setIfInBounds_toArray, List.set_cons_zero, List.set_cons_succ]
          refine takeAt 9 30 (oi := _) (v := ?_) rfl rfl (by kernel_rfl) (by kernel_rfl) (by kernel_rfl) (fun _ _ _ h => h) (by rfl) ?_ (HSX.out _ H2.out) ?_
          rotate_left
          · (intro w hSw; obtain ⟨p0, p1, p2, p3, p4, p5, p6, p7⟩ := hSw; simp only at p0 p1 p2 p3 p4 p5 p6 p7; go_simp; try with_reducible rfl)
          simp only [Act.put, List.setIfInBounds_toArray, List.set_cons_zero, List.set_cons_succ]
          refine takeAt 10 31 (oi := _) (v := ?_) rfl rfl (by kernel_rfl) (by kernel_rfl) (by kernel_rfl) (fun _ _ _ h => h) (by rfl) ?_ (HSX.out _ H2.out) ?_
          rotate_left
          · (intro w hSw; obtain ⟨p0, p1, p2, p3, p4, p5, p6, p7⟩ := hSw; simp only at p0 p1 p2 p3 p4 p5 p6 p7; go_simp; try with_reducible rfl)
          simp only [Act.put, List.setIfInBounds_toArray, List.set_cons_zero, List.set_cons_succ]
          refine takeAt 11 32 (oi := _) (v := ?_) rfl rfl (by kernel_rfl) (by kernel_rfl) (by kernel_rfl) (fun _ _ _ h => h) (by rfl) ?_ (HSX.out _ H2.out) ?_
          rotate_left
          · (intro w hSw; obtain ⟨p0, p1, p2, p3, p4, p5, p6, p7⟩ := hSw; simp only at p0 p1 p2 p3 p4 p5 p6 p7; go_simp; try with_reducible rfl)
          simp only [Act.put, List.setIfInBounds_toArray, List.set_cons_zero, List.set_cons_succ]
          refine takeAt 12 33 (oi := _) (v := ?_) rfl rfl (by kernel_rfl) (by kernel_rfl) (by kernel_rfl) (fun _ _ _ h => h) (by rfl) ?_ (HSX.out _ H2.out) ?_
          rotate_left
          · (intro w hSw; obtain ⟨p0, p1, p2, p3, p4, p5, p6, p7⟩ := hSw; simp only at p0 p1 p2 p3 p4 p5 p6 p7; go_simp; try with_reducible rfl)
          simp only [Act.put, List.setIfInBounds_toArray, List.set_cons_zero, List.set_cons_succ]
          refine takeAt 13 34 (oi := _) (v := ?_) rfl rfl (by kernel_rfl) (by kernel_rfl) (by kernel_rfl) (fun _ _ _ h => h) (by rfl) ?_ (HSX.out _ H2.out) ?_
          rotate_left
          · (intro w hSw; obtain ⟨p0, p1, p2, p3, p4, p5, p6, p7⟩ := hSw; simp only at p0 p1 p2 p3 p4 p5 p6 p7; go_simp; try with_reducible rfl)
          simp only [Act.put, List.setIfInBounds_toArray, List.set_cons_zero, List.set_cons_succ]
          refine takeAt 14 35 (oi := _) (v := ?_) rfl rfl (by kernel_rfl) (by kernel_rfl) (by kernel_rfl) (fun _ _ _ h => h) (by rfl) ?_ (HSX.out _ H2.out) ?_
          rotate_left
          · (intro w hSw; obtain ⟨p0, p1, p2, p3, p4, p5, p6, p7⟩ := hSw; simp only at p0 p1 p2 p3 p4 p5 p6 p7; go_simp; try with_reducible rfl)
          simp only [Act.put, List.setIfInBounds_toArray, List.set_cons_zero, List.set_cons_succ]
          refine takeAt 15 36 (oi := _) (v := ?_) rfl rfl (by kernel_rfl) (by kernel_rfl) (by kernel_rfl) (fun _ _ _ h => h) (by rfl) ?_ (HSX.out _ H2.out) ?_
          rotate_left
          · (intro w hSw; obtain ⟨p0, p1, p2, p3, p4, p5, p6, p7⟩ := hSw; simp only at p0 p1 p2 p3 p4 p5 p6 p7; go_simp; try with_reducible rfl)
          simp only [Act.put, List.setIfInBounds_toArray, List.set_cons_zero, List.set_cons_succ]
          refine takeAt 16 37 (oi := _) (v := ?_) rfl rfl (by kernel_rfl) (by kernel_rfl) (by kernel_rfl) (fun _ _ _ h => h) (by rfl) ?_ (HSX.out _ H2.out) ?_
          rotate_left
          · (intro w hSw; obtain ⟨p0, p1, p2, p3, p4, p5, p6, p7⟩ := hSw; simp only at p0 p1 p2 p3 p4 p5 p6 p7; go_simp; try with_reducible rfl)
          simp only [Act.put, List.setIfInBounds_toArray, List.set_cons_zero, List.set_cons_succ]
          refine takeAt 17 38 (oi := _) (v := ?_) rfl rfl (by kernel_rfl) (by kernel_rfl) (by kernel_rfl) (fun _ _ _ h => h) (by rfl) ?_ (HSX.out _ H2.out) ?_
          rotate_left
          · (intro w hSw; obtain ⟨p0, p1, p2, p3, p4, p5, p6, p7⟩ := hSw; simp only at p0 p1 p2 p3 p4 p5 p6 p7; go_simp; try with_reducible rfl)
          simp only [Act.put, List.setIfInBounds_toArray, List.set_cons_zero, List.set_cons_succ]
          refine takeAt 18 39 (oi := _) (v := ?_) rfl rfl (by kernel_rfl) (by kernel_rfl) (by kernel_rfl) (fun _ _ _ h => h) (by rfl) ?_ (HSX.out _ H2.out) ?_
          rotate_left
          · (intro w hSw; obtain ⟨p0, p1, p2, p3, p4, p5, p6, p7⟩ := hSw; simp only at p0 p1 p2 p3 p4 p5 p6 p7; go_simp; try with_reducible rfl)
          simp only [Act.put, List.setIfInBounds_toArray, List.set_cons_zero, List.set_cons_succ]
          refine takeAt 19 40 (oi := _) (v := ?_) rfl rfl (by kernel_rfl) (by kernel_rfl) (by kernel_rfl) (fun _ _ _ h => h) (by rfl) ?_ (HSX.out _ H2.out) ?_
          rotate_left
          · (intro w hSw; obtain ⟨p0, p1, p2, p3, p4, p5, p6, p7⟩ := hSw; simp only at p0 p1 p2 p3 p4 p5 p6 p7; go_simp; try with_reducible rfl)
          simp only [Act.put, List.setIfInBounds_toArray, List.set_cons_zero, List.set_cons_succ]
          refine takeAt 20 41 (oi := _) (v := ?_) rfl rfl (by kernel_rfl) (by kernel_rfl) (by kernel_rfl) (fun _ _ _ h => h) (by rfl) ?_ (HSX.out _ H2.out) ?_
          rotate_left
          · (intro w hSw; obtain ⟨p0, p1, p2, p3, p4, p5, p6, p7⟩ := hSw; simp only at p0 p1 p2 p3 p4 p5 p6 p7; go_simp; try with_reducible rfl)
          simp only [Act.put, List.setIfInBounds_toArray, List.set_cons_zero, List.set_cons_succ]
          refine takeAt 21 42 (oi := _) (v := ?_) rfl rfl (by kernel_rfl) (by kernel_rfl) (by kernel_rfl) (fun _ _ _ h => h) (by rfl) ?_ (HSX.out _ H2.out) ?_
          rotate_left
          · (intro w hSw; obtain ⟨p0, p1, p2, p3, p4, p5, p6, p7⟩ := hSw; simp only at p0 p1 p2 p3 p4 p5 p6 p7; go_simp; try with_reducible rfl)
          simp only [Act.put, List.setIfInBounds_toArray, List.set_cons_zero, List.set_cons_succ]
          refine takeAt 22 43 (oi := _) (v := ?_) rfl rfl (by kernel_rfl) (by kernel_rfl) (by kernel_rfl) (fun _ _ _ h => h) (by rfl) ?_ (HSX.out _ H2.out) ?_
          rotate_left
          · (intro w hSw; obtain ⟨p0, p1, p2, p3, p4, p5, p6, p7⟩ := hSw; simp only at p0 p1 p2 p3 p4 p5 p6 p7; go_simp; try with_reducible rfl)
          simp only [Act.put, List.setIfInBounds_toArray, List.set_cons_zero, List.set_cons_succ]
          refine takeAt 23 44 (oi := _) (v := ?_) rfl rfl (by kernel_rfl) (by kernel_rfl) (by kernel_rfl) (fun _ _ _ h => h) (by rfl) ?_ (HSX.out _ H2.out) ?_
          rotate_left
          · (intro w hSw; obtain ⟨p0, p1, p2, p3, p4, p5, p6, p7⟩ := hSw; simp only at p0 p1 p2 p3 p4 p5 p6 p7; go_simp; try with_reducible rfl)
          simp only [Act.put, List.setIfInBounds_toArray, List.set_cons_zero, List.set_cons_succ]
          refine takeAt 24 45 (oi := _) (v := ?_) rfl rfl (by kernel_rfl) (by kernel_rfl) (by kernel_rfl) (fun _ _ _ h => h) (by rfl) ?_ (HSX.out _ H2.out) ?_
          rotate_left
          · (intro w hSw; obtain ⟨p0, p1, p2, p3, p4, p5, p6, p7⟩ := hSw; simp only at p0 p1 p2 p3 p4 p5 p6 p7; go_simp; try with_reducible rfl)
          simp only [Act.put, List.setIfInBounds_toArray, List.set_cons_zero, List.set_cons_succ]
          refine takeAt 25 46 (oi := _) (v := ?_) rfl rfl (by kernel_rfl) (by kernel_rfl) (by kernel_rfl) (fun _ _ _ h => h) (by rfl) ?_ (HSX.out _ H2.out) ?_
          rotate_left
          · (intro w hSw; obtain ⟨p0, p1, p2, p3, p4, p5, p6, p7⟩ := hSw; simp only at p0 p1 p2 p3 p4 p5 p6 p7; go_simp; try with_reducible rfl)
          simp only [Act.put, List.setIfInBounds_toArray, List.set_cons_zero, List.set_cons_succ]
          refine takeAt 26 47 (oi := _) (v := ?_) rfl rfl (by kernel_rfl) (by kernel_rfl) (by kernel_rfl) (fun _ _ _ h => h) (by rfl) ?_ (HSX.out _ H2.out) ?_
          rotate_left
          · (intro w hSw; obtain ⟨p0, p1, p2, p3, p4, p5, p6, p7⟩ := hSw; simp only at p0 p1 p2 p3 p4 p5 p6 p7; go_simp; try with_reducible rfl)
          simp only [Act.put, List.setIfInBounds_toArray, List.set_cons_zero, List.set_cons_succ]
          refine takeAt 27 48 (oi := _) (v := ?_) rfl rfl (by kernel_rfl) (by kernel_rfl) (by kernel_rfl) (fun _ _ _ h => h) (by rfl) ?_ (HSX.out _ H2.out) ?_
          rotate_left
          · (intro w hSw; obtain ⟨p0, p1, p2, p3, p4, p5, p6, p7⟩ := hSw; simp only at p0 p1 p2 p3 p4 p5 p6 p7; go_simp; try with_reducible rfl)
          simp only [Act.put, List.setIfInBounds_toArray, List.set_cons_zero, List.set_cons_succ]
          refine takeAt 28 49 (oi := _) (v := ?_) rfl rfl (by kernel_rfl) (by kernel_rfl) (by kernel_rfl) (fun _ _ _ h => h) (by rfl) ?_ (HSX.out _ H2.out) ?_
          rotate_left
          · (intro w hSw; obtain ⟨p0, p1, p2, p3, p4, p5, p6, p7⟩ := hSw; simp only at p0 p1 p2 p3 p4 p5 p6 p7; go_simp; try with_reducible rfl)
          simp only [Act.put, List.setIfInBounds_toArray, List.set_cons_zero, List.set_cons_succ]
          refine takeAt 29 50 (oi := _) (v := ?_) rfl rfl (by kernel_rfl) (by kernel_rfl) (by kernel_rfl) (fun _ _ _ h => h) (by rfl) ?_ (HSX.out _ H2.out) ?_
          rotate_left
          · (intro w hSw; obtain ⟨p0, p1, p2, p3, p4, p5, p6, p7⟩ := hSw; simp only at p0 p1 p2 p3 p4 p5 p6 p7; go_simp; try with_reducible rfl)
          simp only [Act.put, List.setIfInBounds_toArray, List.set_cons_zero, List.set_cons_succ]
          refine takeAt 30 51 (oi := _) (v := ?_) rfl rfl (by kernel_rfl) (by kernel_rfl) (by kernel_rfl) (fun _ _ _ h => h) (by rfl) ?_ (HSX.out _ H2.out) ?_
          rotate_left
          · (intro w hSw; obtain ⟨p0, p1, p2, p3, p4, p5, p6, p7⟩ := hSw; simp only at p0 p1 p2 p3 p4 p5 p6 p7; go_simp; try with_reducible rfl)
          simp only [Act.put, List.setIfInBounds_toArray, List.set_cons_zero, List.set_cons_succ]
          refine wpAnyH_done (by kernel_rfl) ?_ _
          obtain ⟨p0, p1, p2, p3, p4, p5, p6, p7⟩ := HSX.out _ H2.out
          simp only at p0 p1 p2 p3 p4 p5 p6 p7
          have HCL := Lib.hid (cloneE_any ((HT.out.2.1.below H2.out).mono H2.out.size) (by have := HL200.out; have := HLL.out.2; omega))
          go_wp2_with fail
          refine HCL.out.mono ?_
          rintro e w3 ⟨mv, rfl, ho3, hb3⟩
          have H3 := Lib.hid (H2.out.trans (hb3.mono H2.out.size))
          obtain ⟨g3, cap3, rfl, hg3, hc3⟩ := own_two ho3 HX.out.1 HX.out.2.1
          rw [← HLL.out.2] at ho3 ⊢
          have hc4 : EvC g3 0 m ⟨x0, x1, x2, x3⟩ ⟨y0, y1, y2, y3⟩ w3.drew := hc3
          obtain ⟨c0, c1, c2, c3, c4, c5, c6, c7⟩ := hc4
          have hfz := fun j => own_frozen (ho3.drew) j
          simp only [Nat.zero_add] at c0 c1 c2 c3 c4 c5 c6 c7
          have HO3a := Lib.hid (And.intro (EOwn.drew ho3) (And.intro (H3.out.drew) (Nat.le_trans H2.out.size hg3)))
          clear hb3 ho3 hg3 HCL hc3 p0 p1 p2 p3 p4 p5 p6 p7
          go_wp2_with fail
          refine wp_region_held_drew (S := fun _ => True) (by kernel_rfl) trivial (fun hHeld => ?_)
          change wpAnyH _ _ _ _ _ 18 _ _ _
          clear hHeld
          generalize w3.drew = WD at c0 c1 c2 c3 c4 c5 c6 c7 hfz HO3a ⊢
          have HO3 := HO3a
          clear HO3a
          refine takeAt 0 55 (oi := _) (v := ?_) rfl rfl (by kernel_rfl) (by kernel_rfl) (by kernel_rfl) (fun _ _ _ h => h) (by rfl) ?_ trivial ?_
          rotate_left
          · (intro w hSw; go_simp; try with_reducible rfl)
          simp only [Act.put, List.setIfInBounds_toArray, List.set_cons_zero, List.set_cons_succ]
          refine takeAt 1 56 (oi := _) (v := ?_) rfl rfl (by kernel_rfl) (by kernel_rfl) (by kernel_rfl) (fun _ _ _ h => h) (by rfl) ?_ trivial ?_
          rotate_left
          · (intro w hSw; go_simp; try with_reducible rfl)
          simp only [Act.put, List.setIfInBounds_toArray, List.set_cons_zero, List.set_cons_succ]
          refine takeAt 2 57 (oi := _) (v := ?_) rfl rfl (by kernel_rfl) (by kernel_rfl) (by kernel_rfl) (fun _ _ _ h => h) (by rfl) ?_ trivial ?_
          rotate_left
          · (intro w hSw; go_simp; try with_reducible rfl)
          simp only [Act.put, List.setIfInBounds_toArray, List.set_cons_zero, List.set_cons_succ]
          refine takeAt 3 58 (oi := _) (v := ?_) rfl rfl (by kernel_rfl) (by kernel_rfl) (by kernel_rfl) (fun _ _ _ h => h) (by rfl) ?_ trivial ?_
          rotate_left
          · (intro w hSw; go_simp; try with_reducible rfl)
          simp only [Act.put, List.setIfInBounds_toArray, List.set_cons_zero, List.set_cons_succ]
          refine takeAt 4 59 (oi := _) (v := ?_) rfl rfl (by kernel_rfl) (by kernel_rfl) (by kernel_rfl) (fun _ _ _ h => h) (by rfl) ?_ trivial ?_
          rotate_left
          · (intro w hSw; go_simp; try with_reducible rfl)
          simp only [Act.put, List.setIfInBounds_toArray, List.set_cons_zero, List.set_cons_succ]
          refine takeAt 5 60 (oi := _) (v := ?_) rfl rfl (by kernel_rfl) (by kernel_rfl) (by kernel_rfl) (fun _ _ _ h => h) (by rfl) ?_ trivial ?_
          rotate_left
          · (intro w hSw; go_simp; try with_reducible rfl)
          simp only [Act.put, List.setIfInBounds_toArray, List.set_cons_zero, List.set_cons_succ]
          refine takeAt 6 61 (oi := _) (v := ?_) rfl rfl (by kernel_rfl) (by kernel_rfl) (by kernel_rfl) (fun _ _ _ h => h) (by rfl) ?_ trivial ?_
          rotate_left
          · (intro w hSw; go_simp; try with_reducible rfl)
          simp only [Act.put, List.setIfInBounds_toArray, List.set_cons_zero, List.set_cons_succ]
          refine takeAt 7 62 (oi := _) (v := ?_) rfl rfl (by kernel_rfl) (by kernel_rfl) (by kernel_rfl) (fun _ _ _ h => h) (by rfl) ?_ trivial ?_
          rotate_left
          · (intro w hSw; go_simp; try with_reducible rfl)
          simp only [Act.put, List.setIfInBounds_toArray, List.set_cons_zero, List.set_cons_succ]
          refine takeAt 8 63 (oi := _) (v := ?_) rfl rfl (by kernel_rfl) (by kernel_rfl) (by kernel_rfl) (fun _ _ _ h => h) (by rfl) ?_ trivial ?_
          rotate_left
          · (intro w hSw; go_simp; try with_reducible rfl)
          simp only [Act.put, List.setIfInBounds_toArray, List.set_cons_zero, List.set_cons_succ]
          refine takeAt 10 65 (oi := _) (v := ?_) rfl rfl (by kernel_rfl) (by kernel_rfl) (by kernel_rfl) (fun _ _ _ h => h) (by rfl) ?_ trivial ?_
          rotate_left
          · (intro w hSw; go_simp; try with_reducible rfl)
          simp only [Act.put, List.setIfInBounds_toArray, List.set_cons_zero, List.set_cons_succ]
          refine takeAt 11 66 (oi := _) (v := ?_) rfl rfl (by kernel_rfl) (by kernel_rfl) (by kernel_rfl) (fun _ _ _ h => h) (by rfl) ?_ trivial ?_
          rotate_left
          · (intro w hSw; go_simp; try with_reducible rfl)
          simp only [Act.put, List.setIfInBounds_toArray, List.set_cons_zero, List.set_cons_succ]
          refine takeAt 12 67 (oi := _) (v := ?_) rfl rfl (by kernel_rfl) (by kernel_rfl) (by kernel_rfl) (fun _ _ _ h => h) (by rfl) ?_ trivial ?_
          rotate_left
          · (intro w hSw; go_simp; try with_reducible rfl)
          simp only [Act.put, List.setIfInBounds_toArray, List.set_cons_zero, List.set_cons_succ]
          refine wpAnyH_ready (rs := [9, 13]) (by kernel_rfl) (by simp) ?_
          refine AllReadyH.cons (o := _) rfl (fun K hK => ?_) (AllReadyH.cons (o := _) rfl (fun K hK => ?_) AllReadyH.nil)
          · go_simp
            refine hK.out _ _ trivial (fun _ => ?_)
            clear hK K
            refine wpAnyH_ready (rs := [13]) (by kernel_rfl) (by simp) ?_
            refine AllReadyH.cons (o := _) rfl (fun K hK => ?_) AllReadyH.nil
            go_simp
            refine hK.out _ _ trivial (fun _ => ?_)
            clear hK K
            refine takeAt 14 69 (oi := _) (v := ?_) rfl rfl (by kernel_rfl) (by kernel_rfl) (by kernel_rfl) (fun _ _ _ h => h) (by rfl) ?_ trivial ?_
            rotate_left
            · (intro w hSw; go_simp; try with_reducible rfl)
            simp only [Act.put, List.setIfInBounds_toArray, List.set_cons_zero, List.set_cons_succ]
            refine wpAnyH_ready (rs := [15]) (by kernel_rfl) (by simp) ?_
            refine AllReadyH.cons (o := _) rfl (fun K hK => ?_) AllReadyH.nil
            go_simp
            have ho4 : EOwn ((((WD.setCell ⟨g3, m * 4, none⟩ (.int .i64 y0)).setCell ⟨g3, m * 4 + 1, none⟩ (.int .i64 y1)).setCell ⟨g3, m * 4 + 2, none⟩ (.int .i64 y2)).setCell ⟨g3, m * 4 + 3, none⟩ (.int .i64 y3)) w2.heap.size (.slice (some ⟨g3, 0, none⟩) L cap3) (l.set m ⟨y0, y1, y2, y3⟩) := EOwn.put HO3.out.1 HLL.out.2 (by have := HX.out.2.2; omega) ⟨y0, y1, y2, y3⟩
            have hb4 : Below w.heap.size w ((((WD.setCell ⟨g3, m * 4, none⟩ (.int .i64 y0)).setCell ⟨g3, m * 4 + 1, none⟩ (.int .i64 y1)).setCell ⟨g3, m * 4 + 2, none⟩ (.int .i64 y2)).setCell ⟨g3, m * 4 + 3, none⟩ (.int .i64 y3)) := (((HO3.out.2.1.setCell HO3.out.2.2 _).setCell HO3.out.2.2 _).setCell HO3.out.2.2 _).setCell HO3.out.2.2 _
            generalize ((((WD.setCell ⟨g3, m * 4, none⟩ (.int .i64 y0)).setCell ⟨g3, m * 4 + 1, none⟩ (.int .i64 y1)).setCell ⟨g3, m * 4 + 2, none⟩ (.int .i64 y2)).setCell ⟨g3, m * 4 + 3, none⟩ (.int .i64 y3)) = W4 at ho4 hb4 ⊢
            clear c0 c1 c2 c3 c4 c5 c6 c7 hfz
            obtain ⟨c4, c5, c6, c7⟩ := own_ev ho4 (k := m + 1) (x := ⟨y0, y1, y2, y3⟩) (by rw [List.getElem?_set_ne (by omega)]; exact HX.out.2.1)
            simp only at c4 c5 c6 c7
            have hfz := fun j => own_frozen ho4 j
            have HO4 := Lib.hid (And.intro ho4 hb4)
            clear ho4 hb4
            refine hK.out _ _ trivial (fun _ => ?_)
            clear hK K
            refine takeAt 16 70 (oi := _) (v := ?_) rfl rfl (by kernel_rfl) (by kernel_rfl) (by kernel_rfl) (fun _ _ _ h => h) (by rfl) ?_ trivial ?_
            rotate_left
            · (intro w hSw; go_simp; try with_reducible rfl)
            simp only [Act.put, List.setIfInBounds_toArray, List.set_cons_zero, List.set_cons_succ]
            refine wpAnyH_ready (rs := [17]) (by kernel_rfl) (by simp) ?_
            refine AllReadyH.cons (o := _) rfl (fun K hK => ?_) AllReadyH.nil
            go_simp
            have ho5 : EOwn ((((W4.setCell ⟨g3, (m + 1) * 4, none⟩ (.int .i64 x0)).setCell ⟨g3, (m + 1) * 4 + 1, none⟩ (.int .i64 x1)).setCell ⟨g3, (m + 1) * 4 + 2, none⟩ (.int .i64 x2)).setCell ⟨g3, (m + 1) * 4 + 3, none⟩ (.int .i64 x3)) w2.heap.size (.slice (some ⟨g3, 0, none⟩) L cap3) ((l.set m ⟨y0, y1, y2, y3⟩).set (m + 1) ⟨x0, x1, x2, x3⟩) := EOwn.put HO4.out.1 (by rw [List.length_set]; exact HLL.out.2) (by rw [List.length_set]; exact HX.out.2.2) ⟨x0, x1, x2, x3⟩
            have hb5 : Below w.heap.size w ((((W4.setCell ⟨g3, (m + 1) * 4, none⟩ (.int .i64 x0)).setCell ⟨g3, (m + 1) * 4 + 1, none⟩ (.int .i64 x1)).setCell ⟨g3, (m + 1) * 4 + 2, none⟩ (.int .i64 x2)).setCell ⟨g3, (m + 1) * 4 + 3, none⟩ (.int .i64 x3)) := (((HO4.out.2.setCell HO3.out.2.2 _).setCell HO3.out.2.2 _).setCell HO3.out.2.2 _).setCell HO3.out.2.2 _
            generalize ((((W4.setCell ⟨g3, (m + 1) * 4, none⟩ (.int .i64 x0)).setCell ⟨g3, (m + 1) * 4 + 1, none⟩ (.int .i64 x1)).setCell ⟨g3, (m + 1) * 4 + 2, none⟩ (.int .i64 x2)).setCell ⟨g3, (m + 1) * 4 + 3, none⟩ (.int .i64 x3)) = W5 at ho5 hb5 ⊢
            clear c4 c5 c6 c7 hfz
            rw [show (l.set m (⟨y0, y1, y2, y3⟩ : Ev)).set (m + 1) ⟨x0, x1, x2, x3⟩ = swapL l m from by unfold swapL; rw [getD_ev HX.out.1, getD_ev HX.out.2.1]] at ho5
            have HS5 := Lib.hid (sqfind_any ((HT.out.1.below hb5).mono hb5.size) ho5.rd ((HT.out.2.2.on hb5).mono hb5.size))
            have H5 := Lib.hid hb5
            clear ho5 hb5
            refine hK.out _ _ trivial (fun _ => ?_)
            clear hK K
            refine wpAnyH_done (by kernel_rfl) ?_ _
            obtain ⟨q1, q2⟩ := moves_swap HB.out HX.out.1 HX.out.2.1 HW9.out
            go_wp2_with fail
            refine HS5.out.mono ?_
            rintro e w6 ⟨hb6, v6, rfl, -⟩
            rw [q1, q2]
            clear q1 q2
            have H6 := Lib.hid (H5.out.trans (hb6.mono H5.out.size))
            clear hb6 HS5
            generalize fndB (ownB (callsOf ts l).1) ts (callsOf ts l) = fb
            cases fb
            · go_wp2_with fail
              go_ret
              exact ⟨rfl, H6.out⟩
            · go_wp2_with fail
              go_ret
              exact ⟨rfl, H6.out⟩
          · go_simp
            refine hK.out _ _ trivial (fun _ => ?_)
            clear hK K
            refine wpAnyH_ready (rs := [9]) (by kernel_rfl) (by simp) ?_
            refine AllReadyH.cons (o := _) rfl (fun K hK => ?_) AllReadyH.nil
            go_simp
            refine hK.out _ _ trivial (fun _ => ?_)
            clear hK K
            refine takeAt 14 69 (oi := _) (v := ?_) rfl rfl (by kernel_rfl) (by kernel_rfl) (by kernel_rfl) (fun _ _ _ h => h) (by rfl) ?_ trivial ?_
            rotate_left
            · (intro w hSw; go_simp; try with_reducible rfl)
            simp only [Act.put, List.setIfInBounds_toArray, List.set_cons_zero, List.set_cons_succ]
            refine wpAnyH_ready (rs := [15]) (by kernel_rfl) (by simp) ?_
            refine AllReadyH.cons (o := _) rfl (fun K hK => ?_) AllReadyH.nil
            go_simp
            have ho4 : EOwn ((((WD.setCell ⟨g3, m * 4, none⟩ (.int .i64 y0)).setCell ⟨g3, m * 4 + 1, none⟩ (.int .i64 y1)).setCell ⟨g3, m * 4 + 2, none⟩ (.int .i64 y2)).setCell ⟨g3, m * 4 + 3, none⟩ (.int .i64 y3)) w2.heap.size (.slice (some ⟨g3, 0, none⟩) L cap3) (l.set m ⟨y0, y1, y2, y3⟩) := EOwn.put HO3.out.1 HLL.out.2 (by have := HX.out.2.2; omega) ⟨y0, y1, y2, y3⟩
            have hb4 : Below w.heap.size w ((((WD.setCell ⟨g3, m * 4, none⟩ (.int .i64 y0)).setCell ⟨g3, m * 4 + 1, none⟩ (.int .i64 y1)).setCell ⟨g3, m * 4 + 2, none⟩ (.int .i64 y2)).setCell ⟨g3, m * 4 + 3, none⟩ (.int .i64 y3)) := (((HO3.out.2.1.setCell HO3.out.2.2 _).setCell HO3.out.2.2 _).setCell HO3.out.2.2 _).setCell HO3.out.2.2 _
            generalize ((((WD.setCell ⟨g3, m * 4, none⟩ (.int .i64 y0)).setCell ⟨g3, m * 4 + 1, none⟩ (.int .i64 y1)).setCell ⟨g3, m * 4 + 2, none⟩ (.int .i64 y2)).setCell ⟨g3, m * 4 + 3, none⟩ (.int .i64 y3)) = W4 at ho4 hb4 ⊢
            clear c0 c1 c2 c3 c4 c5 c6 c7 hfz
            obtain ⟨c4, c5, c6, c7⟩ := own_ev ho4 (k := m + 1) (x := ⟨y0, y1, y2, y3⟩) (by rw [List.getElem?_set_ne (by omega)]; exact HX.out.2.1)
            simp only at c4 c5 c6 c7
            have hfz := fun j => own_frozen ho4 j
            have HO4 := Lib.hid (And.intro ho4 hb4)
            clear ho4 hb4
            refine hK.out _ _ trivial (fun _ => ?_)
            clear hK K
            refine takeAt 16 70 (oi := _) (v := ?_) rfl rfl (by kernel_rfl) (by kernel_rfl) (by kernel_rfl) (fun _ _ _ h => h) (by rfl) ?_ trivial ?_
            rotate_left
            · (intro w hSw; go_simp; try with_reducible rfl)
            simp only [Act.put, List.setIfInBounds_toArray, List.set_cons_zero, List.set_cons_succ]
            refine wpAnyH_ready (rs := [17]) (by kernel_rfl) (by simp) ?_
            refine AllReadyH.cons (o := _) rfl (fun K hK => ?_) AllReadyH.nil
            go_simp
            have ho5 : EOwn ((((W4.setCell ⟨g3, (m + 1) * 4, none⟩ (.int .i64 x0)).setCell ⟨g3, (m + 1) * 4 + 1, none⟩ (.int .i64 x1)).setCell ⟨g3, (m + 1) * 4 + 2, none⟩ (.int .i64 x2)).setCell ⟨g3, (m + 1) * 4 + 3, none⟩ (.int .i64 x3)) w2.heap.size (.slice (some ⟨g3, 0, none⟩) L cap3) ((l.set m ⟨y0, y1, y2, y3⟩).set (m + 1) ⟨x0, x1, x2, x3⟩) := EOwn.put HO4.out.1 (by rw [List.length_set]; exact HLL.out.2) (by rw [List.length_set]; exact HX.out.2.2) ⟨x0, x1, x2, x3⟩
            have hb5 : Below w.heap.size w ((((W4.setCell ⟨g3, (m + 1) * 4, none⟩ (.int .i64 x0)).setCell ⟨g3, (m + 1) * 4 + 1, none⟩ (.int .i64 x1)).setCell ⟨g3, (m + 1) * 4 + 2, none⟩ (.int .i64 x2)).setCell ⟨g3, (m + 1) * 4 + 3, none⟩ (.int .i64 x3)) := (((HO4.out.2.setCell HO3.out.2.2 _).setCell HO3.out.2.2 _).setCell HO3.out.2.2 _).setCell HO3.out.2.2 _
            generalize ((((W4.setCell ⟨g3, (m + 1) * 4, none⟩ (.int .i64 x0)).setCell ⟨g3, (m + 1) * 4 + 1, none⟩ (.int .i64 x1)).setCell ⟨g3, (m + 1) * 4 + 2, none⟩ (.int .i64 x2)).setCell ⟨g3, (m + 1) * 4 + 3, none⟩ (.int .i64 x3)) = W5 at ho5 hb5 ⊢
            clear c4 c5 c6 c7 hfz
            rw [show (l.set m (⟨y0, y1, y2, y3⟩ : Ev)).set (m + 1) ⟨x0, x1, x2, x3⟩ = swapL l m from by unfold swapL; rw [getD_ev HX.out.1, getD_ev HX.out.2.1]] at ho5
            have HS5 := Lib.hid (sqfind_any ((HT.out.1.below hb5).mono hb5.size) ho5.rd ((HT.out.2.2.on hb5).mono hb5.size))
            have H5 := Lib.hid hb5
            clear ho5 hb5
            refine hK.out _ _ trivial (fun _ => ?_)
            clear hK K
            refine wpAnyH_done (by kernel_rfl) ?_ _
            obtain ⟨q1, q2⟩ := moves_swap HB.out HX.out.1 HX.out.2.1 HW9.out
            go_wp2_with fail
            refine HS5.out.mono ?_
            rintro e w6 ⟨hb6, v6, rfl, -⟩
            rw [q1, q2]
            clear q1 q2
            have H6 := Lib.hid (H5.out.trans (hb6.mono H5.out.size))
            clear hb6 HS5
            generalize fndB (ownB (callsOf ts l).1) ts (callsOf ts l) = fb
            cases fb
            · go_wp2_with fail
              go_ret
              exact ⟨rfl, H6.out⟩
            · go_wp2_with fail
              go_ret
              exact ⟨rfl, H6.out⟩
  · have hne : (searchE (callsOf ts l) != 0) = true := by rw [bne_iff_ne]; exact hE
    generalize searchE (callsOf ts l) = E at hne ⊢
    generalize fndB (ownB (callsOf ts l).1) ts (callsOf ts l) = b
    clear hE
    have HSX := Lib.hid (fun (W : World) (_ : Below w.heap.size w W) => trivial)
    go_wp2_with fail
    refine wp_region_held_drew (S := fun _ => True) (by kernel_rfl) (HSX.out _ (H1.out.drew)) (fun hHeld => ?_)
    change wpAnyH _ _ _ _ _ 31 _ _ _
    clear hHeld
    have HD := Lib.hid (H1.out.drew)
    have HPD := Lib.hid ((HT.out.2.2.on HD.out).mono HD.out.size)
    generalize w1.drew = WD at HD HPD ⊢
    refine wpAnyH_ready (rs := [0]) (by kernel_rfl) (by simp) ?_
    refine AllReadyH.cons (o := _) rfl (fun K hK => ?_) AllReadyH.nil
    go_simp
    refine (sqlives_any WD HPD.out).mono ?_
    rintro e w2 ⟨rfl, hb2⟩
    have H2 := Lib.hid (HD.out.trans (hb2.mono HD.out.size))
    clear hb2
    refine hK.out _ _ (HSX.out _ H2.out) (fun _ => ?_)
    clear hK K
    refine takeAt 1 22 (oi := _) (v := ?_) rfl rfl (by kernel_rfl) (by kernel_rfl) (by kernel_rfl) (fun _ _ _ h => h) (by rfl) ?_ (HSX.out _ H2.out) ?_
    rotate_left
    · (intro w hSw; go_simp; try with_reducible rfl)
    simp only [Act.put, List.setIfInBounds_toArray, List.set_cons_zero, List.set_cons_succ]
    refine takeAt 2 23 (oi := _) (v := ?_) rfl rfl (by kernel_rfl) (by kernel_rfl) (by kernel_rfl) (fun _ _ _ h => h) (by rfl) ?_ (HSX.out _ H2.out) ?_
    rotate_left
    · (intro w hSw; go_simp; try with_reducible rfl)
    simp only [Act.put, List.setIfInBounds_toArray, List.set_cons_zero, List.set_cons_succ]
    refine takeAt 3 24 (oi := _) (v := ?_) rfl rfl (by kernel_rfl) (by kernel_rfl) (by kernel_rfl) (fun _ _ _ h => h) (by rfl) ?_ (HSX.out _ H2.out) ?_
    rotate_left
    · (intro w hSw; go_simp; try with_reducible rfl)
    simp only [Act.put, List.setIfInBounds_toArray, List.set_cons_zero, List.set_cons_succ]
    refine takeAt 4 25 (oi := _) (v := ?_) rfl rfl (by kernel_rfl) (by kernel_rfl) (by kernel_rfl) (fun _ _ _ h => h) (by rfl) ?_ (HSX.out _ H2.out) ?_
    rotate_left
    · (intro w hSw; go_simp; try with_reducible rfl)
    simp only [Act.put, List.setIfInBounds_toArray, List.set_cons_zero, List.set_cons_succ]
    refine takeAt 5 26 (oi := _) (v := ?_) rfl rfl (by kernel_rfl) (by kernel_rfl) (by kernel_rfl) (fun _ _ _ h => h) (by rfl) ?_ (HSX.out _ H2.out) ?_
    rotate_left
    · (intro w hSw; go_simp; try with_reducible rfl)
    simp only [Act.put, List.setIfInBounds_toArray, List.set_cons_zero, List.set_cons_succ]
    refine takeAt 6 27 (oi := _) (v := ?_) rfl rfl (by kernel_rfl) (by kernel_rfl) (by kernel_rfl) (fun _ _ _ h => h) (by rfl) ?_ (HSX.out _ H2.out) ?_
    rotate_left
    · (intro w hSw; go_simp; try with_reducible rfl)
    simp only [Act.put, List.setIfInBounds_toArray, List.set_cons_zero, List.set_cons_succ]
    refine skipAt 7 28 (oi := _) rfl rfl (by kernel_rfl) (by kernel_rfl) (by kernel_rfl) (fun _ _ _ h => h) (by rfl) (HSX.out _ H2.out) ?_
    simp only [Act.put, List.setIfInBounds_toArray, List.set_cons_zero, List.set_cons_succ]
    refine skipAt 8 29 (oi := _) rfl rfl (by kernel_rfl) (by kernel_rfl) (by kernel_rfl) (fun _ _ _ h => h) (by rfl) (HSX.out _ H2.out) ?_
    simp only [Act.put, List.setIfInBounds_toArray, List.set_cons_zero, List.set_cons_succ]
    refine takeAt 9 30 (oi := _) (v := ?_) rfl rfl (by kernel_rfl) (by kernel_rfl) (by kernel_rfl) (fun _ _ _ h => h) (by rfl) ?_ (HSX.out _ H2.out) ?_
    rotate_left
    · (intro w hSw; go_simp; try with_reducible rfl)
    simp only [Act.put, List.setIfInBounds_toArray, List.set_cons_zero, List.set_cons_succ]
    refine takeAt 10 31 (oi := _) (v := ?_) rfl rfl (by kernel_rfl) (by kernel_rfl) (by kernel_rfl) (fun _ _ _ h => h) (by rfl) ?_ (HSX.out _ H2.out) ?_
    rotate_left
    · (intro w hSw; go_simp; try with_reducible rfl)
    simp only [Act.put, List.setIfInBounds_toArray, List.set_cons_zero, List.set_cons_succ]
    refine skipAt 11 32 (oi := _) rfl rfl (by kernel_rfl) (by kernel_rfl) (by kernel_rfl) (fun _ _ _ h => h) (by rfl) (HSX.out _ H2.out) ?_
    simp only [Act.put, List.setIfInBounds_toArray, List.set_cons_zero, List.set_cons_succ]
    refine skipAt 12 33 (oi := _) rfl rfl (by kernel_rfl) (by kernel_rfl) (by kernel_rfl) (fun _ _ _ h => h) (by rfl) (HSX.out _ H2.out) ?_
    simp only [Act.put, List.setIfInBounds_toArray, List.set_cons_zero, List.set_cons_succ]
    refine skipAt 13 34 (oi := _) rfl rfl (by kernel_rfl) (by kernel_rfl) (by kernel_rfl) (fun _ _ _ h => h) (by rfl) (HSX.out _ H2.out) ?_
    simp only [Act.put, List.setIfInBounds_toArray, List.set_cons_zero, List.set_cons_succ]
    refine skipAt 14 35 (oi := _) rfl rfl (by kernel_rfl) (by kernel_rfl) (by kernel_rfl) (fun _ _ _ h => h) (by rfl) (HSX.out _ H2.out) ?_
    simp only [Act.put, List.setIfInBounds_toArray, List.set_cons_zero, List.set_cons_succ]
    refine skipAt 15 36 (oi := _) rfl rfl (by kernel_rfl) (by kernel_rfl) (by kernel_rfl) (fun _ _ _ h => h) (by rfl) (HSX.out _ H2.out) ?_
    simp only [Act.put, List.setIfInBounds_toArray, List.set_cons_zero, List.set_cons_succ]
    refine takeAt 16 37 (oi := _) (v := ?_) rfl rfl (by kernel_rfl) (by kernel_rfl) (by kernel_rfl) (fun _ _ _ h => h) (by rfl) ?_ (HSX.out _ H2.out) ?_
    rotate_left
    · (intro w hSw; go_simp; try with_reducible rfl)
    simp only [Act.put, List.setIfInBounds_toArray, List.set_cons_zero, List.set_cons_succ]
    refine takeAt 17 38 (oi := _) (v := ?_) rfl rfl (by kernel_rfl) (by kernel_rfl) (by kernel_rfl) (fun _ _ _ h => h) (by rfl) ?_ (HSX.out _ H2.out) ?_
    rotate_left
    · (intro w hSw; go_simp; try with_reducible rfl)
    simp only [Act.put, List.setIfInBounds_toArray, List.set_cons_zero, List.set_cons_succ]
    refine skipAt 18 39 (oi := _) rfl rfl (by kernel_rfl) (by kernel_rfl) (by kernel_rfl) (fun _ _ _ h => h) (by rfl) (HSX.out _ H2.out) ?_
    simp only [Act.put, List.setIfInBounds_toArray, List.set_cons_zero, List.set_cons_succ]
    refine skipAt 19 40 (oi := _) rfl rfl (by kernel_rfl) (by kernel_rfl) (by kernel_rfl) (fun _ _ _ h => h) (by rfl) (HSX.out _ H2.out) ?_
    simp only [Act.put, List.setIfInBounds_toArray, List.set_cons_zero, List.set_cons_succ]
    refine skipAt 20 41 (oi := _) rfl rfl (by kernel_rfl) (by kernel_rfl) (by kernel_rfl) (fun _ _ _ h => h) (by rfl) (HSX.out _ H2.out) ?_
    simp only [Act.put, List.setIfInBounds_toArray, List.set_cons_zero, List.set_cons_succ]
    refine skipAt 21 42 (oi := _) rfl rfl (by kernel_rfl) (by kernel_rfl) (by kernel_rfl) (fun _ _ _ h => h) (by rfl) (HSX.out _ H2.out) ?_
    simp only [Act.put, List.setIfInBounds_toArray, List.set_cons_zero, List.set_cons_succ]
    refine skipAt 22 43 (oi := _) rfl rfl (by kernel_rfl) (by kernel_rfl) (by kernel_rfl) (fun _ _ _ h => h) (by rfl) (HSX.out _ H2.out) ?_
    simp only [Act.put, List.setIfInBounds_toArray, List.set_cons_zero, List.set_cons_succ]
    refine skipAt 23 44 (oi := _) rfl rfl (by kernel_rfl) (by kernel_rfl) (by kernel_rfl) (fun _ _ _ h => h) (by rfl) (HSX.out _ H2.out) ?_
    simp only [Act.put, List.setIfInBounds_toArray, List.set_cons_zero, List.set_cons_succ]
    refine skipAt 24 45 (oi := _) rfl rfl (by kernel_rfl) (by kernel_rfl) (by kernel_rfl) (fun _ _ _ h => h) (by rfl) (HSX.out _ H2.out) ?_
    simp only [Act.put, List.setIfInBounds_toArray, List.set_cons_zero, List.set_cons_succ]
    refine skipAt 25 46 (oi := _) rfl rfl (by kernel_rfl) (by kernel_rfl) (by kernel_rfl) (fun _ _ _ h => h) (by rfl) (HSX.out _ H2.out) ?_
    simp only [Act.put, List.setIfInBounds_toArray, List.set_cons_zero, List.set_cons_succ]
    refine skipAt 26 47 (oi := _) rfl rfl (by kernel_rfl) (by kernel_rfl) (by kernel_rfl) (fun _ _ _ h => h) (by rfl) (HSX.out _ H2.out) ?_
    simp only [Act.put, List.setIfInBounds_toArray, List.set_cons_zero, List.set_cons_succ]
    refine skipAt 27 48 (oi := _) rfl rfl (by kernel_rfl) (by kernel_rfl) (by kernel_rfl) (fun _ _ _ h => h) (by rfl) (HSX.out _ H2.out) ?_
    simp only [Act.put, List.setIfInBounds_toArray, List.set_cons_zero, List.set_cons_succ]
    refine skipAt 28 49 (oi := _) rfl rfl (by kernel_rfl) (by kernel_rfl) (by kernel_rfl) (fun _ _ _ h => h) (by rfl) (HSX.out _ H2.out) ?_
    simp only [Act.put, List.setIfInBounds_toArray, List.set_cons_zero, List.set_cons_succ]
    refine skipAt 29 50 (oi := _) rfl rfl (by kernel_rfl) (by kernel_rfl) (by kernel_rfl) (fun _ _ _ h => h) (by rfl) (HSX.out _ H2.out) ?_
    simp only [Act.put, List.setIfInBounds_toArray, List.set_cons_zero, List.set_cons_succ]
    refine takeAt 30 51 (oi := _) (v := ?_) rfl rfl (by kernel_rfl) (by kernel_rfl) (by kernel_rfl) (fun _ _ _ h => h) (by rfl) ?_ (HSX.out _ H2.out) ?_
    rotate_left
    · (intro w hSw; go_simp; try with_reducible rfl)
    simp only [Act.put, List.setIfInBounds_toArray, List.set_cons_zero, List.set_cons_succ]
    refine wpAnyH_done (by kernel_rfl) ?_ _
    have HS2 := Lib.hid (sqlives_any w2 ((HT.out.2.2.on H2.out).mono H2.out.size))
    go_wp2_with fail
    refine HS2.out.mono ?_
    rintro e w3 ⟨rfl, hb3⟩
    have H3 := Lib.hid (H2.out.trans (hb3.mono H2.out.size))
    clear hb3 HS2
    go_wp2_with fail
    go_ret
    exact ⟨rfl, H3.out⟩
end Go.Proofs.YtecpjeililiafaaDoor

/-
  The tied card of alibkeep.SeqMoves: whatever is handed in (the listed tables reading as the program's own text lays them), the law answers true and leaves its arguments as they were.
-/
namespace Go.Proofs.YtecpjeililiafaaDoor
open Go.ChangeShapes Go.WideShapes Go.ChangeAt Go.RowKit
set_option maxRecDepth 20000

theorem seqMoves_knob : ownKnob Tryd.prog.godebug = none := by kernel_rfl

set_option maxRecDepth 100000 in
theorem seqMoves_lifted (os : Os) (started : os.Started) (H : Type) (enc : TypeId × Value → H) :
    ReturnsInHanded {} Tryd.checked os 18 .any (fun w args => (Rows.seqMovesSpec.pre enc Tryd.prog Tryd.f18 [] false w args ∧ laidMetH Tryd.prog tab3Laid w) ∧ sizedMet enc Tryd.prog Tryd.f18 (OpenSpec.ofChange Rows.seqMovesSpec) false w args)
      (Rows.seqMovesSpec.post enc Tryd.prog Tryd.f18 false true false false) := by
  refine returnsInHanded_of_change_and (C := Tryd.checked) (X := fun w _ => laidMetH Tryd.prog tab3Laid w) (fun _ _ _ hh h => h.of_heap hh) seqMoves_knob started (by kernel_rfl) Tryd.func18
    (ChangeSpec.witness_shaped (enc := enc) (C := Tryd.checked) (os := os) (X := fun w _ => laidMetH Tryd.prog tab3Laid w) false (World.laidAll Tryd.prog os tab3Laid) #[.slice none 0 0, .slice none 0 0, .int .i64 0] 8 (World.laidAll_os _ _ _)
      (World.shaped_of_ZipB (by kernel_rfl) (by kernel_rfl)) (by kernel_rfl) (by kernel_rfl) (by kernel_rfl)
      (by rw [MakeChecks.laidMetH_plain _ _ _ (by kernel_rfl)]; exact laidMet_laidAll _ (by kernel_rfl) (by kernel_rfl))) ?_
  intro W base args ds gs before hval0 hW _ _ hL _
  have hval : ∀ (j : Nat) t v, Tryd.f18.params[j]? = some t → args[j]? = some v → Value.okWide Tryd.prog W .any base t v := hval0
  have hW' := hW
  have hlt := hW.lt
  obtain ⟨p, q, hA0, hV, rfl, _, _⟩ := hW
  have hA : DataW.TrodAll enc Tryd.prog W 0 (fun _ => true) true Tryd.f18.params.toList args.toList ds p := hA0
  rw [Tryd.params18] at hA hval
  obtain ⟨v0, v1, v2, d0, d1, d2, p0, p1, p2, rfl, rfl, rfl, h0, h1, h2⟩ := trodAll_three hA
  obtain ⟨rfl, rfl⟩ := trodVars_none hV
  obtain ⟨l0, hL0⟩ := open_nums (hval 0 22 v0 rfl rfl) h0
  obtain ⟨l1, hL1⟩ := open_evs (hval 1 23 v1 rfl rfl) h1
  obtain ⟨i2, rfl, rfl, rfl, wi2⟩ := open_int Tryd.underlying3 (hval 2 3 v2 rfl rfl) h2
  have hT := pow_of_laid hL
  clear hA0 hval0
  simp only [List.append_nil] at hW' hlt
  refine (smoves_any hL0 hL1 i2 hT).mono fun e W' ⟨he, hb⟩ => ?_
  subst he
  refine ⟨_, rfl, end_of_below (pa := p0 ++ p1) (pv := []) hW' hb (by simp) (fun _ _ _ => ?_) (fun sp hsp => ?_) (fun _ _ => rfl) (ok_one (by kernel_rfl) rfl (okWide_bool_mk Tryd.underlying4 _))⟩
  · exact trodAll_mk1 (shut_bool Tryd.underlying4 _)
  · skip
    have hk0 := WideElems.Trod_stays laidOutIt (by kernel_rfl) (of_decide_eq_true (by kernel_rfl)) h0 (fun x hx => hb.same (hlt x (List.mem_append.2 (.inl hx)))) (fun x hx => hsp x (List.mem_append.2 (.inl hx)))
    have hk1 := WideElems.Trod_stays laidOutIt (by kernel_rfl) (of_decide_eq_true (by kernel_rfl)) h1 (fun x hx => hb.same (hlt x (List.mem_append.2 (.inr hx)))) (fun x hx => hsp x (List.mem_append.2 (.inr hx)))
    have := trodAll_mk3 hk0 hk1 (shut_int Tryd.underlying3 wi2)
    simp only [List.append_nil] at this ⊢
    exact this

theorem seqMoves_holds : Rows.SeqMovesSaid :=
  OpenClaim.holds_of_wide 18 Tryd.f18 rfl rfl rfl rfl rfl rfl rfl ⟨rfl, rfl, rfl, rfl, rfl⟩ rfl rfl rfl rfl rfl (by kernel_rfl) Tryd.func18 (by kernel_rfl)
    (of_decide_eq_true (by kernel_rfl)) (by unfold Func.isWrapper; first | (rw [if_pos (by decide +kernel)]; kernel_rfl) | (rw [if_neg (by decide +kernel)]; exact ⟨rfl, rfl⟩))
    (fun os started H enc _ => seqMoves_lifted os started H enc)

theorem seqMoves_card : Rows.SeqMovesCardSaid :=
  Claim7.holds_tied_plain_at .later [] [.data, .data, .data] true Rows.seqMovesCard.stood.harness false seqMoves_holds (fun _ h => by cases h) (by kernel_rfl) (fun _ h => by cases h) seqMoves_row_tie rfl ⟨rfl, rfl⟩ (by kernel_rfl) rfl
    (fun f fn hf hfn => by
      obtain rfl : f = 18 := Option.some.inj ((show Tryd.prog.funcNamed "alibi/alibkeep.SeqMoves" = some 18 by kernel_rfl).symm.trans hf) |>.symm
      obtain rfl : fn = Tryd.f18 := (Option.some.inj (Tryd.func18.symm.trans hfn)).symm
      exact ⟨by kernel_rfl, fun j t ht => by
        rw [Tryd.params18] at ht
        have hm : t ∈ [22, 23, 3] := by simpa using Array.mem_of_getElem? ht
        have hall : ([22, 23, 3].all fun u => !Tryd.prog.wantsStandIn u) = true := by kernel_rfl
        exact (show Tryd.prog.wantsStandIn t = false by simpa using List.all_eq_true.1 hall t hm)⟩)
    (by kernel_rfl)
#print axioms seqMoves_card
end Go.Proofs.YtecpjeililiafaaDoor
