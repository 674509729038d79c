/-
  The walk of ObjectFront.
-/
import Derived.Test.YtebcnhnkpmbgdabFrontDd
import Derived.Test.YtebcnhnkpmbgdabAppDd
import Derived.Test.YtebcnhnkpmbgdabOLives
import Derived.Test.YtebcnhnkpmbgdabDdArg
import Derived.Test.YtebcnhnkpmbgdabRegionLast
namespace Go.Proofs.Ytebcnhnkpmbgdab
open Go.RowKit
set_option maxRecDepth 20000

/-- The box of what is done lies there. -/
def BoxS (P : Nat) (d : Dd) (w : World) : Prop := w.cell? ⟨P, 0, none⟩ = some (.int .i64 d.kind) ∧ w.cell? ⟨P, 1, none⟩ = some (.int .i64 d.arg) ∧ w.cell? ⟨P, 2, none⟩ = some (.int .i64 d.res)
theorem BoxS.of {P : Nat} {d : Dd} {w : World} (h : Lies w P 24 (ddCs d).toArray) : BoxS P d w := by
  refine ⟨?_, ?_, ?_⟩
  all_goals (rw [h.cell]; rfl)
theorem BoxS.on {P : Nat} {d : Dd} {w w' : World} (h : BoxS P d w) {B : Nat} (hb : Below B w w') (hP : P < B) : BoxS P d w' :=
  ⟨(hb.cell (p := ⟨P, 0, none⟩) hP).trans h.1, (hb.cell (p := ⟨P, 1, none⟩) hP).trans h.2.1, (hb.cell (p := ⟨P, 2, none⟩) hP).trans h.2.2⟩
theorem drd_on {w w' : World} {v : Value} {l : List Dd} (h : DRd w w.heap.size v l) (hb : Below w.heap.size w w') : DRd w' w'.heap.size v l := (LRd.below h hb).mono hb.size
theorem bOn {w W W' : World} (h : Below w.heap.size w W) (hb : Below W.heap.size W W') : Below w.heap.size w W' := h.trans (hb.mono h.size)
theorem dd_new (W : World) (d : Dd) : DRd (W.alloc (.cells (ddCs d).toArray 24)) (W.heap.size + 1) (.slice (some ⟨W.heap.size, 0, none⟩) 1 1) [d] :=
  LRd.of_lit (f := ddCs) (s := 3) (w := W) (l := [d]) (fun _ => rfl) 24 (cs := (ddCs d).toArray) (by simp) (n := 1) rfl (by unfold maxLen; omega)

/-- Where the walk is: old memory as it was, the box behind it. -/
structure At (w W : World) (d : Dd) : Prop where
  below : Below w.heap.size w W
  lie : Lies W w.heap.size 24 (ddCs d).toArray
  lt : w.heap.size < W.heap.size
theorem At.box {w W : World} {d : Dd} (h : At w W d) : BoxS w.heap.size d W := BoxS.of h.lie
theorem At.on {w W W' : World} {d : Dd} (h : At w W d) (hb : Below W.heap.size W W') : At w W' d := ⟨bOn h.below hb, h.lie.below hb h.lt, Nat.lt_of_lt_of_le h.lt hb.size⟩
theorem At.put {w W : World} {k a r : Int} (h : At w W ⟨k, a, r⟩) (y : Int) : At w (W.setCell ⟨w.heap.size, 2, none⟩ (.int .i64 y)) ⟨k, a, y⟩ :=
  ⟨h.below.setCell (Nat.le_refl _) _, (h.lie.set_ 2 (.int .i64 y)).cast (by simp), by simpa [World.setCell] using h.lt⟩
/-- What comes of a clone with one more behind it, whichever was made first. -/
theorem app_first {w : World} {v : Value} {l : List Dd} {d : Dd} (ty : TypeId) (B : Nat) (ho : DOwn w B v l) (hB : B ≤ w.heap.size) (hl : l.length * 24 ≤ 140737488355328) :
    ∃ A c w', (Builtin.append_ #[22, 22] ty #[v, .slice (some ⟨w.heap.size, 0, none⟩) 1 1]).run Try.prog (w.alloc (.cells (ddCs d).toArray 24)) = .ok (.slice A (l.length + 1) c) w' ∧ DRd w' w'.heap.size (.slice A (l.length + 1) c) (l ++ [d]) ∧ Below B w w' := by
  obtain ⟨v', w', h1, h2, h3⟩ := run_app_dds ty (ho.alloc (.cells (ddCs d).toArray 24)) (dd_new w d) (by simp; omega) (by simp; omega) (by simp)
  obtain ⟨A, c, rfl, _, _⟩ := h2.rd.is
  have h2' := h2.rd
  rw [show (l ++ [d]).length = l.length + 1 by simp] at h1 h2'
  exact ⟨A, c, w', h1, h2', ((Below.refl B w).alloc hB _).trans h3⟩
theorem app_last {w : World} {v : Value} {l : List Dd} {d : Dd} {G : Nat} (ty : TypeId) (B : Nat) (ho : DOwn w B v l) (hB : B ≤ w.heap.size) (hl : l.length * 24 ≤ 140737488355328) {BG : Nat} (hd : DRd w BG (.slice (some ⟨G, 0, none⟩) 1 1) [d]) :
    ∃ A c w', (Builtin.append_ #[22, 22] ty #[v, .slice (some ⟨G, 0, none⟩) 1 1]).run Try.prog w = .ok (.slice A (l.length + 1) c) w' ∧ DRd w' w'.heap.size (.slice A (l.length + 1) c) (l ++ [d]) ∧ Below B w w' := by
  obtain ⟨v', w', h1, h2, h3⟩ := run_app_dds ty ho hd (by simp; omega) hB (by simp)
  obtain ⟨A, c, rfl, _, _⟩ := h2.rd.is
  have h2' := h2.rd
  rw [show (l ++ [d]).length = l.length + 1 by simp] at h1 h2'
  exact ⟨A, c, w', h1, h2', h3⟩

set_option maxHeartbeats 3000000 in
theorem ofront_any {lv : Value} {l : List Dd} {w : World} (typ : Int) (hl : DRd w w.heap.size lv l) (d : Dd) (hs : l.length * 24 ≤ 140737488355328) :
    Calls Try.prog 3 #[.int .i64 typ, lv, ddV d] w fun e w' => e = .returned (.bool true) ∧ Below w.heap.size w w' := by
  obtain ⟨Al, capl, rfl, m3, m4⟩ := hl.is
  unfold maxLen at m4
  have hL := fun (W : World) (h : Below w.heap.size w W) => drd_on hl h
  have HL := Lib.hid hL
  have HN := Lib.hid hs
  have HP0 : Hid (At w (w.alloc (.cells (ddCs d).toArray 24)) d) := Lib.hid ⟨(Below.refl w.heap.size w).alloc (Nat.le_refl _) (.cells (ddCs d).toArray 24), Lies.new w 24 (ddCs d).toArray, by simp⟩
  obtain ⟨dk, da, dr⟩ := d
  cases hb : btw 1 typ 5
  · have hP := fun (W : World) (h : Below w.heap.size w W) => play_any typ (hL W h)
    have e1 : startE typ = 1 := by unfold startE; rw [hb]; rfl
    have e2 : playR typ l = 0 := by unfold playR; rw [hb]; rfl
    rw [e1, e2] at hP
    have HP := Lib.hid hP
    clear hP hL hl hs e1 e2 hb
    go_enter Try.func3, Try.ntmps3
    go_wp2_with fail
    refine (HP.out _ HP0.out.below).mono ?_
    rintro e w1 ⟨rfl, hb1⟩
    have H1 := Lib.hid (bOn HP0.out.below hb1)
    clear hb1
    go_wp2_with fail
    refine (olives_any _).mono ?_
    rintro e w2 ⟨rfl, hb2⟩
    have H2 := Lib.hid (bOn H1.out hb2)
    clear hb2
    go_wp2_with fail
    refine (olives_any _).mono ?_
    rintro e w3 ⟨rfl, hb3⟩
    have H3 := Lib.hid (bOn H2.out hb3)
    clear hb3
    go_wp2_with fail
    go_ret
    exact ⟨rfl, H3.out⟩
  · have e1 : startE typ = 0 := by unfold startE; rw [hb]; rfl
    have e2 : ∀ q, playR typ q = playN typ q := fun q => by unfold playR; rw [hb]; rfl
    have hP := fun (W : World) (h : Below w.heap.size w W) => play_any typ (hL W h)
    have hQ := fun (W : World) (v : Value) (h : DRd W W.heap.size v (l ++ [⟨dk, da, dr⟩])) => play_any typ h
    have hQ2 := fun (W : World) (v : Value) (h : DRd W W.heap.size v (l ++ [⟨dk, da, wrap64 (dr + 1)⟩])) => play_any typ h
    rw [e1, e2] at hP hQ hQ2
    obtain ⟨p1, p2, p3⟩ := play_more typ l ⟨dk, da, dr⟩
    have p4 := play_other typ l ⟨dk, da, dr⟩ (wrap64 (dr + 1)) (wrap_ne dr)
    simp only at p4
    generalize playN typ l = n at hP p1 p2 p3
    generalize playN typ (l ++ [⟨dk, da, dr⟩]) = m at hQ p2 p3 p4
    generalize playN typ (l ++ [⟨dk, da, wrap64 (dr + 1)⟩]) = k at hQ2 p4
    have HP1 := Lib.hid hP
    have HQ := Lib.hid hQ
    have HQ2 := Lib.hid hQ2
    have HPF := Lib.hid (And.intro p1 (And.intro p2 (And.intro p3 p4)))
    clear hP hQ hQ2 hL hl hs e1 e2 hb p1 p2 p3 p4
    go_enter Try.func3, Try.ntmps3
    go_wp2_with fail
    refine (HP1.out _ HP0.out.below).mono ?_
    rintro e w1 ⟨rfl, hb1⟩
    have H1 := Lib.hid (HP0.out.on hb1)
    clear hb1 HP1
    go_wp2_with fail
    refine (olives_any _).mono ?_
    rintro e w2 ⟨rfl, hb2⟩
    have H2 := Lib.hid (H1.out.on hb2)
    clear hb2 H1
    go_wp2_with fail
    have HWD := Lib.hid (H2.out.on (Below.refl _ _).drew)
    refine wp_region_held_drew (S := BoxS w.heap.size ⟨dk, da, dr⟩) (by kernel_rfl) HWD.out.box (fun hHeld => ?_)
    change wpAnyH _ _ _ _ _ 12 _ _ _
    clear hHeld H2
    generalize w2.drew = WD at HWD ⊢
    have hS0 := HWD.out.box
    iterate 2 (
      refine takeNext 12 31 (oi := _) (v := ?_) rfl rfl (by kernel_rfl) (by kernel_rfl) (by kernel_rfl) (fun _ _ _ h => h) (by rfl) ?_ hS0 ?_
      rotate_left
      · (intro w hSw; obtain ⟨s0, s1, s2⟩ := hSw; go_simp; try with_reducible rfl)
      simp only [Act.put, List.setIfInBounds_toArray, List.set_cons_zero, List.set_cons_succ, Nat.reduceAdd, Nat.reduceSub])
    refine takeAt 3 34 (oi := _) (v := ?_) rfl rfl (by kernel_rfl) (by kernel_rfl) (by kernel_rfl) (fun _ _ _ h => h) (by rfl) ?_ hS0 ?_
    rotate_left
    · (intro w hSw; obtain ⟨s0, s1, s2⟩ := hSw; go_simp; try with_reducible rfl)
    simp only [Act.put, List.setIfInBounds_toArray, List.set_cons_zero, List.set_cons_succ]
    refine wpAnyH_ready (rs := [2, 4]) (by kernel_rfl) (by simp) ?_
    refine AllReadyH.cons (o := _) rfl (fun K hK => ?_) (AllReadyH.cons (o := _) rfl (fun K hK => ?_) AllReadyH.nil)
    · go_simp
      refine (cloneD_any (w := WD) (HL.out _ HWD.out.below) HN.out).mono ?_
      rintro e wa ⟨va, rfl, hoa, hba⟩
      have HA := Lib.hid (And.intro hoa hba)
      clear hoa hba
      refine hK.out _ _ (BoxS.on hS0 HA.out.2 HWD.out.lt) (fun _ => ?_)
      clear hK K
      refine wpAnyH_ready (rs := [4]) (by kernel_rfl) (by simp) ?_
      refine AllReadyH.cons (o := _) rfl (fun K hK => ?_) AllReadyH.nil
      go_simp
      refine hK.out _ _ (BoxS.on hS0 (HA.out.2.alloc HA.out.2.size (.cells (ddCs ⟨dk, da, dr⟩).toArray 24)) HWD.out.lt) (fun _ => ?_)
      clear hK K
      refine wpAnyH_ready (rs := [5]) (by kernel_rfl) (by simp) ?_
      refine AllReadyH.cons (o := _) rfl (fun K hK => ?_) AllReadyH.nil
      obtain ⟨Ab, cb, wb, hrun, hdb, hbb⟩ := app_first (d := ⟨dk, da, dr⟩) 22 WD.heap.size HA.out.1 HA.out.2.size HN.out
      have HBB := Lib.hid (And.intro hdb (HA.out.2.trans hbb))
      have HRUN := Lib.hid hrun
      clear hdb hbb hrun
      refine step_run_app (by rfl) (.tmp 33) (.tmp 35) _ _ (by rfl) _ _ (by rfl) (by rfl) (.slice Ab (l.length + 1) cb) wb HRUN.out ?_
      refine hK.out _ _ (BoxS.on hS0 HBB.out.2 HWD.out.lt) (fun _ => ?_)
      clear hK K
      refine wpAnyH_ready (rs := [6]) (by kernel_rfl) (by simp) ?_
      refine AllReadyH.cons (o := _) rfl (fun K hK => ?_) AllReadyH.nil
      go_simp
      have HZ := Lib.hid (HWD.out.on HBB.out.2)
      refine (HQ.out _ _ HBB.out.1).mono ?_
      rintro e wz ⟨rfl, hbz⟩
      have HZZ := Lib.hid (HZ.out.on hbz)
      clear hbz HZ HBB HRUN HA hS0
      refine hK.out _ _ HZZ.out.box (fun _ => ?_)
      clear hK K
      refine takeAt 7 30 (oi := _) (v := ?_) rfl rfl (by kernel_rfl) (by kernel_rfl) (by kernel_rfl) (fun _ _ _ h => h) (by rfl) ?_ HZZ.out.box ?_
      rotate_left
      · (intro w hSw; obtain ⟨s0, s1, s2⟩ := hSw; go_simp; try with_reducible rfl)
      simp only [Act.put, List.setIfInBounds_toArray, List.set_cons_zero, List.set_cons_succ]
      refine takeAt 8 38 (oi := _) (v := ?_) rfl rfl (by kernel_rfl) (by kernel_rfl) (by kernel_rfl) (fun _ _ _ h => h) (by rfl) ?_ HZZ.out.box ?_
      rotate_left
      · (intro w hSw; obtain ⟨s0, s1, s2⟩ := hSw; go_simp; try with_reducible rfl)
      simp only [Act.put, List.setIfInBounds_toArray, List.set_cons_zero, List.set_cons_succ]
      refine takeAt 9 39 (oi := _) (v := ?_) rfl rfl (by kernel_rfl) (by kernel_rfl) (by kernel_rfl) (fun _ _ _ h => h) (by rfl) ?_ HZZ.out.box ?_
      rotate_left
      · (intro w hSw; obtain ⟨s0, s1, s2⟩ := hSw; go_simp; try with_reducible rfl)
      simp only [Act.put, List.setIfInBounds_toArray, List.set_cons_zero, List.set_cons_succ]
      refine takeAt 10 9 (oi := _) (v := ?_) rfl rfl (by kernel_rfl) (by kernel_rfl) (by kernel_rfl) (fun _ _ _ h => h) (by rfl) ?_ HZZ.out.box ?_
      rotate_left
      · (intro w hSw; obtain ⟨s0, s1, s2⟩ := hSw; go_simp; try with_reducible rfl)
      simp only [Act.put, List.setIfInBounds_toArray, List.set_cons_zero, List.set_cons_succ]
      refine takeAt 11 10 (oi := _) (v := ?_) rfl rfl (by kernel_rfl) (by kernel_rfl) (by kernel_rfl) (fun _ _ _ h => h) (by rfl) ?_ HZZ.out.box ?_
      rotate_left
      · (intro w hSw; obtain ⟨s0, s1, s2⟩ := hSw; go_simp; try with_reducible rfl)
      simp only [Act.put, List.setIfInBounds_toArray, List.set_cons_zero, List.set_cons_succ]
      refine wpAnyH_done (by kernel_rfl) ?_ _
      have HF1 := Lib.hid HZZ.out
      clear HZZ
      have b1 : (l.length : Int) ≤ 140737488355328 := by have := HN.out; omega
      have b2 : ¬ ((n : Nat) : Int) < 0 := by omega
      rcases Nat.lt_or_ge n l.length with hlt | hge
      · obtain rfl : m = n := HPF.out.2.1 hlt
        have q1 : ((m : Int) != (m : Int)) = false := by simp
        have q2 : ((m : Int) == (l.length : Int)) = false := by rw [beq_eq_false_iff_ne]; omega
        have q3 : ¬ l.length < m := by omega
        have q4 : m ≤ l.length := by omega
        go_wp2_with fail
        go_ret
        exact ⟨rfl, HF1.out.below⟩
      · have hn : n = l.length := by have := HPF.out.1; omega
        subst hn
        have q1 : ((l.length : Int) != (l.length : Int)) = false := by simp
        have q2 : ((l.length : Int) == (l.length : Int)) = true := by simp
        have q3 : ¬ l.length < l.length := by omega
        have q4 : l.length ≤ l.length := by omega
        clear hge
        rcases HPF.out.2.2.1 rfl with hm | hm
        · subst hm
          go_wp2_with fail
          go_ret
          exact ⟨rfl, HF1.out.below⟩
        · have q5 : ((m : Int) != (l.length : Int)) = true := by rw [bne_iff_ne]; omega
          have q6 : ((m : Int) != (l.length : Int) + 1) = false := by rw [bne_eq_false_iff_eq]; omega
          have q7 : ¬ m ≤ l.length := by omega
          have hk := HPF.out.2.2.2 hm
          subst hk
          clear hm
          have c2 := HF1.out.box.2.2
          have f2 := HF1.out.lie.frozen 2
          go_wp2_with fail
          have HW3 := Lib.hid (HF1.out.put (wrap64 (dr + 1)))
          clear c2 f2 HF1
          have q8 : ((l.length : Int) == (l.length : Int)) = true := by simp
          have HWD := Lib.hid (HW3.out.on (Below.refl _ _).drew)
          refine wp_region_held_drew (S := BoxS w.heap.size ⟨dk, da, wrap64 (dr + 1)⟩) (by kernel_rfl) HWD.out.box (fun hHeld => ?_)
          change wpAnyH _ _ _ _ _ 12 _ _ _
          clear hHeld HW3
          generalize (wz.setCell ⟨w.heap.size, 2, none⟩ (.int .i64 (wrap64 (dr + 1)))).drew = WD at HWD ⊢
          have hS0 := HWD.out.box
          iterate 2 (
            refine takeNext 12 89 (oi := _) (v := ?_) rfl rfl (by kernel_rfl) (by kernel_rfl) (by kernel_rfl) (fun _ _ _ h => h) (by rfl) ?_ hS0 ?_
            rotate_left
            · (intro w hSw; obtain ⟨s0, s1, s2⟩ := hSw; go_simp; try with_reducible rfl)
            simp only [Act.put, List.setIfInBounds_toArray, List.set_cons_zero, List.set_cons_succ, Nat.reduceAdd, Nat.reduceSub])
          refine takeAt 3 92 (oi := _) (v := ?_) rfl rfl (by kernel_rfl) (by kernel_rfl) (by kernel_rfl) (fun _ _ _ h => h) (by rfl) ?_ hS0 ?_
          rotate_left
          · (intro w hSw; obtain ⟨s0, s1, s2⟩ := hSw; go_simp; try with_reducible rfl)
          simp only [Act.put, List.setIfInBounds_toArray, List.set_cons_zero, List.set_cons_succ]
          refine wpAnyH_ready (rs := [2, 4]) (by kernel_rfl) (by simp) ?_
          refine AllReadyH.cons (o := _) rfl (fun K hK => ?_) (AllReadyH.cons (o := _) rfl (fun K hK => ?_) AllReadyH.nil)
          · go_simp
            refine (cloneD_any (w := WD) (HL.out _ HWD.out.below) HN.out).mono ?_
            rintro e wa ⟨va, rfl, hoa, hba⟩
            have HA := Lib.hid (And.intro hoa hba)
            clear hoa hba
            refine hK.out _ _ (BoxS.on hS0 HA.out.2 HWD.out.lt) (fun _ => ?_)
            clear hK K
            refine wpAnyH_ready (rs := [4]) (by kernel_rfl) (by simp) ?_
            refine AllReadyH.cons (o := _) rfl (fun K hK => ?_) AllReadyH.nil
            go_simp
            refine hK.out _ _ (BoxS.on hS0 (HA.out.2.alloc HA.out.2.size (.cells (ddCs ⟨dk, da, wrap64 (dr + 1)⟩).toArray 24)) HWD.out.lt) (fun _ => ?_)
            clear hK K
            refine wpAnyH_ready (rs := [5]) (by kernel_rfl) (by simp) ?_
            refine AllReadyH.cons (o := _) rfl (fun K hK => ?_) AllReadyH.nil
            obtain ⟨Ab, cb, wb, hrun, hdb, hbb⟩ := app_first (d := ⟨dk, da, wrap64 (dr + 1)⟩) 22 WD.heap.size HA.out.1 HA.out.2.size HN.out
            have HBB := Lib.hid (And.intro hdb (HA.out.2.trans hbb))
            have HRUN := Lib.hid hrun
            clear hdb hbb hrun
            refine step_run_app (by rfl) (.tmp 91) (.tmp 93) _ _ (by rfl) _ _ (by rfl) (by rfl) (.slice Ab (l.length + 1) cb) wb HRUN.out ?_
            refine hK.out _ _ (BoxS.on hS0 HBB.out.2 HWD.out.lt) (fun _ => ?_)
            clear hK K
            refine wpAnyH_ready (rs := [6]) (by kernel_rfl) (by simp) ?_
            refine AllReadyH.cons (o := _) rfl (fun K hK => ?_) AllReadyH.nil
            go_simp
            have HZ := Lib.hid (HWD.out.on HBB.out.2)
            refine (HQ2.out _ _ HBB.out.1).mono ?_
            rintro e wy ⟨rfl, hbz⟩
            have HYY := Lib.hid (HZ.out.on hbz)
            clear hbz HZ HBB HRUN HA hS0
            refine hK.out _ _ HYY.out.box (fun _ => ?_)
            clear hK K
            refine takeAt 7 88 (oi := _) (v := ?_) rfl rfl (by kernel_rfl) (by kernel_rfl) (by kernel_rfl) (fun _ _ _ h => h) (by rfl) ?_ HYY.out.box ?_
            rotate_left
            · (intro w hSw; obtain ⟨s0, s1, s2⟩ := hSw; go_simp; try with_reducible rfl)
            simp only [Act.put, List.setIfInBounds_toArray, List.set_cons_zero, List.set_cons_succ]
            refine takeAt 8 96 (oi := _) (v := ?_) rfl rfl (by kernel_rfl) (by kernel_rfl) (by kernel_rfl) (fun _ _ _ h => h) (by rfl) ?_ HYY.out.box ?_
            rotate_left
            · (intro w hSw; obtain ⟨s0, s1, s2⟩ := hSw; go_simp; try with_reducible rfl)
            simp only [Act.put, List.setIfInBounds_toArray, List.set_cons_zero, List.set_cons_succ]
            refine takeAt 9 97 (oi := _) (v := ?_) rfl rfl (by kernel_rfl) (by kernel_rfl) (by kernel_rfl) (fun _ _ _ h => h) (by rfl) ?_ HYY.out.box ?_
            rotate_left
            · (intro w hSw; obtain ⟨s0, s1, s2⟩ := hSw; go_simp; try with_reducible rfl)
            simp only [Act.put, List.setIfInBounds_toArray, List.set_cons_zero, List.set_cons_succ]
            refine takeAt 10 11 (oi := _) (v := ?_) rfl rfl (by kernel_rfl) (by kernel_rfl) (by kernel_rfl) (fun _ _ _ h => h) (by rfl) ?_ HYY.out.box ?_
            rotate_left
            · (intro w hSw; obtain ⟨s0, s1, s2⟩ := hSw; go_simp; try with_reducible rfl)
            simp only [Act.put, List.setIfInBounds_toArray, List.set_cons_zero, List.set_cons_succ]
            refine takeAt 11 12 (oi := _) (v := ?_) rfl rfl (by kernel_rfl) (by kernel_rfl) (by kernel_rfl) (fun _ _ _ h => h) (by rfl) ?_ HYY.out.box ?_
            rotate_left
            · (intro w hSw; obtain ⟨s0, s1, s2⟩ := hSw; go_simp; try with_reducible rfl)
            simp only [Act.put, List.setIfInBounds_toArray, List.set_cons_zero, List.set_cons_succ]
            refine wpAnyH_done (by kernel_rfl) ?_ _
            go_wp2_with fail
            go_ret
            exact ⟨rfl, HYY.out.below⟩
          · go_simp
            refine hK.out _ _ (BoxS.on hS0 ((Below.refl WD.heap.size WD).alloc (Nat.le_refl _) (.cells (ddCs ⟨dk, da, wrap64 (dr + 1)⟩).toArray 24)) HWD.out.lt) (fun _ => ?_)
            clear hK K
            refine wpAnyH_ready (rs := [2]) (by kernel_rfl) (by simp) ?_
            refine AllReadyH.cons (o := _) rfl (fun K hK => ?_) AllReadyH.nil
            go_simp
            have hbx : Below WD.heap.size WD (WD.alloc (.cells (ddCs ⟨dk, da, wrap64 (dr + 1)⟩).toArray 24)) := (Below.refl _ _).alloc (Nat.le_refl _) _
            have HX := Lib.hid (And.intro hbx (drd_on (HL.out _ HWD.out.below) hbx))
            clear hbx
            refine (cloneD_any HX.out.2 HN.out).mono ?_
            rintro e wa ⟨va, rfl, hoa, hba⟩
            have HA := Lib.hid (And.intro hoa (And.intro hba (LRd.below (dd_new WD ⟨dk, da, wrap64 (dr + 1)⟩) (hba.mono (by simp)))))
            clear hoa hba
            refine hK.out _ _ (BoxS.on hS0 (HX.out.1.trans (HA.out.2.1.mono HX.out.1.size)) HWD.out.lt) (fun _ => ?_)
            clear hK K
            refine wpAnyH_ready (rs := [5]) (by kernel_rfl) (by simp) ?_
            refine AllReadyH.cons (o := _) rfl (fun K hK => ?_) AllReadyH.nil
            obtain ⟨Ab, cb, wb, hrun, hdb, hbb⟩ := app_last (d := ⟨dk, da, wrap64 (dr + 1)⟩) 22 _ HA.out.1 HA.out.2.1.size HN.out HA.out.2.2
            have HBB := Lib.hid (And.intro hdb (HX.out.1.trans ((HA.out.2.1.trans hbb).mono HX.out.1.size)))
            have HRUN := Lib.hid hrun
            clear hdb hbb hrun
            refine step_run_app (by rfl) (.tmp 91) (.tmp 93) _ _ (by rfl) _ _ (by rfl) (by rfl) (.slice Ab (l.length + 1) cb) wb HRUN.out ?_
            refine hK.out _ _ (BoxS.on hS0 HBB.out.2 HWD.out.lt) (fun _ => ?_)
            clear hK K
            refine wpAnyH_ready (rs := [6]) (by kernel_rfl) (by simp) ?_
            refine AllReadyH.cons (o := _) rfl (fun K hK => ?_) AllReadyH.nil
            go_simp
            have HZ := Lib.hid (HWD.out.on HBB.out.2)
            refine (HQ2.out _ _ HBB.out.1).mono ?_
            rintro e wy ⟨rfl, hbz⟩
            have HYY := Lib.hid (HZ.out.on hbz)
            clear hbz HZ HBB HRUN HA HX hS0
            refine hK.out _ _ HYY.out.box (fun _ => ?_)
            clear hK K
            refine takeAt 7 88 (oi := _) (v := ?_) rfl rfl (by kernel_rfl) (by kernel_rfl) (by kernel_rfl) (fun _ _ _ h => h) (by rfl) ?_ HYY.out.box ?_
            rotate_left
            · (intro w hSw; obtain ⟨s0, s1, s2⟩ := hSw; go_simp; try with_reducible rfl)
            simp only [Act.put, List.setIfInBounds_toArray, List.set_cons_zero, List.set_cons_succ]
            refine takeAt 8 96 (oi := _) (v := ?_) rfl rfl (by kernel_rfl) (by kernel_rfl) (by kernel_rfl) (fun _ _ _ h => h) (by rfl) ?_ HYY.out.box ?_
            rotate_left
            · (intro w hSw; obtain ⟨s0, s1, s2⟩ := hSw; go_simp; try with_reducible rfl)
            simp only [Act.put, List.setIfInBounds_toArray, List.set_cons_zero, List.set_cons_succ]
            refine takeAt 9 97 (oi := _) (v := ?_) rfl rfl (by kernel_rfl) (by kernel_rfl) (by kernel_rfl) (fun _ _ _ h => h) (by rfl) ?_ HYY.out.box ?_
            rotate_left
            · (intro w hSw; obtain ⟨s0, s1, s2⟩ := hSw; go_simp; try with_reducible rfl)
            simp only [Act.put, List.setIfInBounds_toArray, List.set_cons_zero, List.set_cons_succ]
            refine takeAt 10 11 (oi := _) (v := ?_) rfl rfl (by kernel_rfl) (by kernel_rfl) (by kernel_rfl) (fun _ _ _ h => h) (by rfl) ?_ HYY.out.box ?_
            rotate_left
            · (intro w hSw; obtain ⟨s0, s1, s2⟩ := hSw; go_simp; try with_reducible rfl)
            simp only [Act.put, List.setIfInBounds_toArray, List.set_cons_zero, List.set_cons_succ]
            refine takeAt 11 12 (oi := _) (v := ?_) rfl rfl (by kernel_rfl) (by kernel_rfl) (by kernel_rfl) (fun _ _ _ h => h) (by rfl) ?_ HYY.out.box ?_
            rotate_left
            · (intro w hSw; obtain ⟨s0, s1, s2⟩ := hSw; go_simp; try with_reducible rfl)
            simp only [Act.put, List.setIfInBounds_toArray, List.set_cons_zero, List.set_cons_succ]
            refine wpAnyH_done (by kernel_rfl) ?_ _
            go_wp2_with fail
            go_ret
            exact ⟨rfl, HYY.out.below⟩
    · go_simp
      refine hK.out _ _ (BoxS.on hS0 ((Below.refl WD.heap.size WD).alloc (Nat.le_refl _) (.cells (ddCs ⟨dk, da, dr⟩).toArray 24)) HWD.out.lt) (fun _ => ?_)
      clear hK K
      refine wpAnyH_ready (rs := [2]) (by kernel_rfl) (by simp) ?_
      refine AllReadyH.cons (o := _) rfl (fun K hK => ?_) AllReadyH.nil
      go_simp
      have hbx : Below WD.heap.size WD (WD.alloc (.cells (ddCs ⟨dk, da, dr⟩).toArray 24)) := (Below.refl _ _).alloc (Nat.le_refl _) _
      have HX := Lib.hid (And.intro hbx (drd_on (HL.out _ HWD.out.below) hbx))
      clear hbx
      refine (cloneD_any HX.out.2 HN.out).mono ?_
      rintro e wa ⟨va, rfl, hoa, hba⟩
      have HA := Lib.hid (And.intro hoa (And.intro hba (LRd.below (dd_new WD ⟨dk, da, dr⟩) (hba.mono (by simp)))))
      clear hoa hba
      refine hK.out _ _ (BoxS.on hS0 (HX.out.1.trans (HA.out.2.1.mono HX.out.1.size)) HWD.out.lt) (fun _ => ?_)
      clear hK K
      refine wpAnyH_ready (rs := [5]) (by kernel_rfl) (by simp) ?_
      refine AllReadyH.cons (o := _) rfl (fun K hK => ?_) AllReadyH.nil
      obtain ⟨Ab, cb, wb, hrun, hdb, hbb⟩ := app_last (d := ⟨dk, da, dr⟩) 22 _ HA.out.1 HA.out.2.1.size HN.out HA.out.2.2
      have HBB := Lib.hid (And.intro hdb (HX.out.1.trans ((HA.out.2.1.trans hbb).mono HX.out.1.size)))
      have HRUN := Lib.hid hrun
      clear hdb hbb hrun
      refine step_run_app (by rfl) (.tmp 33) (.tmp 35) _ _ (by rfl) _ _ (by rfl) (by rfl) (.slice Ab (l.length + 1) cb) wb HRUN.out ?_
      refine hK.out _ _ (BoxS.on hS0 HBB.out.2 HWD.out.lt) (fun _ => ?_)
      clear hK K
      refine wpAnyH_ready (rs := [6]) (by kernel_rfl) (by simp) ?_
      refine AllReadyH.cons (o := _) rfl (fun K hK => ?_) AllReadyH.nil
      go_simp
      have HZ := Lib.hid (HWD.out.on HBB.out.2)
      refine (HQ.out _ _ HBB.out.1).mono ?_
      rintro e wz ⟨rfl, hbz⟩
      have HZZ := Lib.hid (HZ.out.on hbz)
      clear hbz HZ HBB HRUN HA HX hS0
      refine hK.out _ _ HZZ.out.box (fun _ => ?_)
      clear hK K
      refine takeAt 7 30 (oi := _) (v := ?_) rfl rfl (by kernel_rfl) (by kernel_rfl) (by kernel_rfl) (fun _ _ _ h => h) (by rfl) ?_ HZZ.out.box ?_
      rotate_left
      · (intro w hSw; obtain ⟨s0, s1, s2⟩ := hSw; go_simp; try with_reducible rfl)
      simp only [Act.put, List.setIfInBounds_toArray, List.set_cons_zero, List.set_cons_succ]
      refine takeAt 8 38 (oi := _) (v := ?_) rfl rfl (by kernel_rfl) (by kernel_rfl) (by kernel_rfl) (fun _ _ _ h => h) (by rfl) ?_ HZZ.out.box ?_
      rotate_left
      · (intro w hSw; obtain ⟨s0, s1, s2⟩ := hSw; go_simp; try with_reducible rfl)
      simp only [Act.put, List.setIfInBounds_toArray, List.set_cons_zero, List.set_cons_succ]
      refine takeAt 9 39 (oi := _) (v := ?_) rfl rfl (by kernel_rfl) (by kernel_rfl) (by kernel_rfl) (fun _ _ _ h => h) (by rfl) ?_ HZZ.out.box ?_
      rotate_left
      · (intro w hSw; obtain ⟨s0, s1, s2⟩ := hSw; go_simp; try with_reducible rfl)
      simp only [Act.put, List.setIfInBounds_toArray, List.set_cons_zero, List.set_cons_succ]
      refine takeAt 10 9 (oi := _) (v := ?_) rfl rfl (by kernel_rfl) (by kernel_rfl) (by kernel_rfl) (fun _ _ _ h => h) (by rfl) ?_ HZZ.out.box ?_
      rotate_left
      · (intro w hSw; obtain ⟨s0, s1, s2⟩ := hSw; go_simp; try with_reducible rfl)
      simp only [Act.put, List.setIfInBounds_toArray, List.set_cons_zero, List.set_cons_succ]
      refine takeAt 11 10 (oi := _) (v := ?_) rfl rfl (by kernel_rfl) (by kernel_rfl) (by kernel_rfl) (fun _ _ _ h => h) (by rfl) ?_ HZZ.out.box ?_
      rotate_left
      · (intro w hSw; obtain ⟨s0, s1, s2⟩ := hSw; go_simp; try with_reducible rfl)
      simp only [Act.put, List.setIfInBounds_toArray, List.set_cons_zero, List.set_cons_succ]
      refine wpAnyH_done (by kernel_rfl) ?_ _
      have HF1 := Lib.hid HZZ.out
      clear HZZ
      have b1 : (l.length : Int) ≤ 140737488355328 := by have := HN.out; omega
      have b2 : ¬ ((n : Nat) : Int) < 0 := by omega
      rcases Nat.lt_or_ge n l.length with hlt | hge
      · obtain rfl : m = n := HPF.out.2.1 hlt
        have q1 : ((m : Int) != (m : Int)) = false := by simp
        have q2 : ((m : Int) == (l.length : Int)) = false := by rw [beq_eq_false_iff_ne]; omega
        have q3 : ¬ l.length < m := by omega
        have q4 : m ≤ l.length := by omega
        go_wp2_with fail
        go_ret
        exact ⟨rfl, HF1.out.below⟩
      · have hn : n = l.length := by have := HPF.out.1; omega
        subst hn
        have q1 : ((l.length : Int) != (l.length : Int)) = false := by simp
        have q2 : ((l.length : Int) == (l.length : Int)) = true := by simp
        have q3 : ¬ l.length < l.length := by omega
        have q4 : l.length ≤ l.length := by omega
        clear hge
        rcases HPF.out.2.2.1 rfl with hm | hm
        · subst hm
          go_wp2_with fail
          go_ret
          exact ⟨rfl, HF1.out.below⟩
        · have q5 : ((m : Int) != (l.length : Int)) = true := by rw [bne_iff_ne]; omega
          have q6 : ((m : Int) != (l.length : Int) + 1) = false := by rw [bne_eq_false_iff_eq]; omega
          have q7 : ¬ m ≤ l.length := by omega
          have hk := HPF.out.2.2.2 hm
          subst hk
          clear hm
          have c2 := HF1.out.box.2.2
          have f2 := HF1.out.lie.frozen 2
          go_wp2_with fail
          have HW3 := Lib.hid (HF1.out.put (wrap64 (dr + 1)))
          clear c2 f2 HF1
          have q8 : ((l.length : Int) == (l.length : Int)) = true := by simp
          have HWD := Lib.hid (HW3.out.on (Below.refl _ _).drew)
          refine wp_region_held_drew (S := BoxS w.heap.size ⟨dk, da, wrap64 (dr + 1)⟩) (by kernel_rfl) HWD.out.box (fun hHeld => ?_)
          change wpAnyH _ _ _ _ _ 12 _ _ _
          clear hHeld HW3
          generalize (wz.setCell ⟨w.heap.size, 2, none⟩ (.int .i64 (wrap64 (dr + 1)))).drew = WD at HWD ⊢
          have hS0 := HWD.out.box
          iterate 2 (
            refine takeNext 12 89 (oi := _) (v := ?_) rfl rfl (by kernel_rfl) (by kernel_rfl) (by kernel_rfl) (fun _ _ _ h => h) (by rfl) ?_ hS0 ?_
            rotate_left
            · (intro w hSw; obtain ⟨s0, s1, s2⟩ := hSw; go_simp; try with_reducible rfl)
            simp only [Act.put, List.setIfInBounds_toArray, List.set_cons_zero, List.set_cons_succ, Nat.reduceAdd, Nat.reduceSub])
          refine takeAt 3 92 (oi := _) (v := ?_) rfl rfl (by kernel_rfl) (by kernel_rfl) (by kernel_rfl) (fun _ _ _ h => h) (by rfl) ?_ hS0 ?_
          rotate_left
          · (intro w hSw; obtain ⟨s0, s1, s2⟩ := hSw; go_simp; try with_reducible rfl)
          simp only [Act.put, List.setIfInBounds_toArray, List.set_cons_zero, List.set_cons_succ]
          refine wpAnyH_ready (rs := [2, 4]) (by kernel_rfl) (by simp) ?_
          refine AllReadyH.cons (o := _) rfl (fun K hK => ?_) (AllReadyH.cons (o := _) rfl (fun K hK => ?_) AllReadyH.nil)
          · go_simp
            refine (cloneD_any (w := WD) (HL.out _ HWD.out.below) HN.out).mono ?_
            rintro e wa ⟨va, rfl, hoa, hba⟩
            have HA := Lib.hid (And.intro hoa hba)
            clear hoa hba
            refine hK.out _ _ (BoxS.on hS0 HA.out.2 HWD.out.lt) (fun _ => ?_)
            clear hK K
            refine wpAnyH_ready (rs := [4]) (by kernel_rfl) (by simp) ?_
            refine AllReadyH.cons (o := _) rfl (fun K hK => ?_) AllReadyH.nil
            go_simp
            refine hK.out _ _ (BoxS.on hS0 (HA.out.2.alloc HA.out.2.size (.cells (ddCs ⟨dk, da, wrap64 (dr + 1)⟩).toArray 24)) HWD.out.lt) (fun _ => ?_)
            clear hK K
            refine wpAnyH_ready (rs := [5]) (by kernel_rfl) (by simp) ?_
            refine AllReadyH.cons (o := _) rfl (fun K hK => ?_) AllReadyH.nil
            obtain ⟨Ab, cb, wb, hrun, hdb, hbb⟩ := app_first (d := ⟨dk, da, wrap64 (dr + 1)⟩) 22 WD.heap.size HA.out.1 HA.out.2.size HN.out
            have HBB := Lib.hid (And.intro hdb (HA.out.2.trans hbb))
            have HRUN := Lib.hid hrun
            clear hdb hbb hrun
            refine step_run_app (by rfl) (.tmp 91) (.tmp 93) _ _ (by rfl) _ _ (by rfl) (by rfl) (.slice Ab (l.length + 1) cb) wb HRUN.out ?_
            refine hK.out _ _ (BoxS.on hS0 HBB.out.2 HWD.out.lt) (fun _ => ?_)
            clear hK K
            refine wpAnyH_ready (rs := [6]) (by kernel_rfl) (by simp) ?_
            refine AllReadyH.cons (o := _) rfl (fun K hK => ?_) AllReadyH.nil
            go_simp
            have HZ := Lib.hid (HWD.out.on HBB.out.2)
            refine (HQ2.out _ _ HBB.out.1).mono ?_
            rintro e wy ⟨rfl, hbz⟩
            have HYY := Lib.hid (HZ.out.on hbz)
            clear hbz HZ HBB HRUN HA hS0
            refine hK.out _ _ HYY.out.box (fun _ => ?_)
            clear hK K
            refine takeAt 7 88 (oi := _) (v := ?_) rfl rfl (by kernel_rfl) (by kernel_rfl) (by kernel_rfl) (fun _ _ _ h => h) (by rfl) ?_ HYY.out.box ?_
            rotate_left
            · (intro w hSw; obtain ⟨s0, s1, s2⟩ := hSw; go_simp; try with_reducible rfl)
            simp only [Act.put, List.setIfInBounds_toArray, List.set_cons_zero, List.set_cons_succ]
            refine takeAt 8 96 (oi := _) (v := ?_) rfl rfl (by kernel_rfl) (by kernel_rfl) (by kernel_rfl) (fun _ _ _ h => h) (by rfl) ?_ HYY.out.box ?_
            rotate_left
            · (intro w hSw; obtain ⟨s0, s1, s2⟩ := hSw; go_simp; try with_reducible rfl)
            simp only [Act.put, List.setIfInBounds_toArray, List.set_cons_zero, List.set_cons_succ]
            refine takeAt 9 97 (oi := _) (v := ?_) rfl rfl (by kernel_rfl) (by kernel_rfl) (by kernel_rfl) (fun _ _ _ h => h) (by rfl) ?_ HYY.out.box ?_
            rotate_left
            · (intro w hSw; obtain ⟨s0, s1, s2⟩ := hSw; go_simp; try with_reducible rfl)
            simp only [Act.put, List.setIfInBounds_toArray, List.set_cons_zero, List.set_cons_succ]
            refine takeAt 10 11 (oi := _) (v := ?_) rfl rfl (by kernel_rfl) (by kernel_rfl) (by kernel_rfl) (fun _ _ _ h => h) (by rfl) ?_ HYY.out.box ?_
            rotate_left
            · (intro w hSw; obtain ⟨s0, s1, s2⟩ := hSw; go_simp; try with_reducible rfl)
            simp only [Act.put, List.setIfInBounds_toArray, List.set_cons_zero, List.set_cons_succ]
            refine takeAt 11 12 (oi := _) (v := ?_) rfl rfl (by kernel_rfl) (by kernel_rfl) (by kernel_rfl) (fun _ _ _ h => h) (by rfl) ?_ HYY.out.box ?_
            rotate_left
            · (intro w hSw; obtain ⟨s0, s1, s2⟩ := hSw; go_simp; try with_reducible rfl)
            simp only [Act.put, List.setIfInBounds_toArray, List.set_cons_zero, List.set_cons_succ]
            refine wpAnyH_done (by kernel_rfl) ?_ _
            go_wp2_with fail
            go_ret
            exact ⟨rfl, HYY.out.below⟩
          · go_simp
            refine hK.out _ _ (BoxS.on hS0 ((Below.refl WD.heap.size WD).alloc (Nat.le_refl _) (.cells (ddCs ⟨dk, da, wrap64 (dr + 1)⟩).toArray 24)) HWD.out.lt) (fun _ => ?_)
            clear hK K
            refine wpAnyH_ready (rs := [2]) (by kernel_rfl) (by simp) ?_
            refine AllReadyH.cons (o := _) rfl (fun K hK => ?_) AllReadyH.nil
            go_simp
            have hbx : Below WD.heap.size WD (WD.alloc (.cells (ddCs ⟨dk, da, wrap64 (dr + 1)⟩).toArray 24)) := (Below.refl _ _).alloc (Nat.le_refl _) _
            have HX := Lib.hid (And.intro hbx (drd_on (HL.out _ HWD.out.below) hbx))
            clear hbx
            refine (cloneD_any HX.out.2 HN.out).mono ?_
            rintro e wa ⟨va, rfl, hoa, hba⟩
            have HA := Lib.hid (And.intro hoa (And.intro hba (LRd.below (dd_new WD ⟨dk, da, wrap64 (dr + 1)⟩) (hba.mono (by simp)))))
            clear hoa hba
            refine hK.out _ _ (BoxS.on hS0 (HX.out.1.trans (HA.out.2.1.mono HX.out.1.size)) HWD.out.lt) (fun _ => ?_)
            clear hK K
            refine wpAnyH_ready (rs := [5]) (by kernel_rfl) (by simp) ?_
            refine AllReadyH.cons (o := _) rfl (fun K hK => ?_) AllReadyH.nil
            obtain ⟨Ab, cb, wb, hrun, hdb, hbb⟩ := app_last (d := ⟨dk, da, wrap64 (dr + 1)⟩) 22 _ HA.out.1 HA.out.2.1.size HN.out HA.out.2.2
            have HBB := Lib.hid (And.intro hdb (HX.out.1.trans ((HA.out.2.1.trans hbb).mono HX.out.1.size)))
            have HRUN := Lib.hid hrun
            clear hdb hbb hrun
            refine step_run_app (by rfl) (.tmp 91) (.tmp 93) _ _ (by rfl) _ _ (by rfl) (by rfl) (.slice Ab (l.length + 1) cb) wb HRUN.out ?_
            refine hK.out _ _ (BoxS.on hS0 HBB.out.2 HWD.out.lt) (fun _ => ?_)
            clear hK K
            refine wpAnyH_ready (rs := [6]) (by kernel_rfl) (by simp) ?_
            refine AllReadyH.cons (o := _) rfl (fun K hK => ?_) AllReadyH.nil
            go_simp
            have HZ := Lib.hid (HWD.out.on HBB.out.2)
            refine (HQ2.out _ _ HBB.out.1).mono ?_
            rintro e wy ⟨rfl, hbz⟩
            have HYY := Lib.hid (HZ.out.on hbz)
            clear hbz HZ HBB HRUN HA HX hS0
            refine hK.out _ _ HYY.out.box (fun _ => ?_)
            clear hK K
            refine takeAt 7 88 (oi := _) (v := ?_) rfl rfl (by kernel_rfl) (by kernel_rfl) (by kernel_rfl) (fun _ _ _ h => h) (by rfl) ?_ HYY.out.box ?_
            rotate_left
            · (intro w hSw; obtain ⟨s0, s1, s2⟩ := hSw; go_simp; try with_reducible rfl)
            simp only [Act.put, List.setIfInBounds_toArray, List.set_cons_zero, List.set_cons_succ]
            refine takeAt 8 96 (oi := _) (v := ?_) rfl rfl (by kernel_rfl) (by kernel_rfl) (by kernel_rfl) (fun _ _ _ h => h) (by rfl) ?_ HYY.out.box ?_
            rotate_left
            · (intro w hSw; obtain ⟨s0, s1, s2⟩ := hSw; go_simp; try with_reducible rfl)
            simp only [Act.put, List.setIfInBounds_toArray, List.set_cons_zero, List.set_cons_succ]
            refine takeAt 9 97 (oi := _) (v := ?_) rfl rfl (by kernel_rfl) (by kernel_rfl) (by kernel_rfl) (fun _ _ _ h => h) (by rfl) ?_ HYY.out.box ?_
            rotate_left
            · (intro w hSw; obtain ⟨s0, s1, s2⟩ := hSw; go_simp; try with_reducible rfl)
            simp only [Act.put, List.setIfInBounds_toArray, List.set_cons_zero, List.set_cons_succ]
            refine takeAt 10 11 (oi := _) (v := ?_) rfl rfl (by kernel_rfl) (by kernel_rfl) (by kernel_rfl) (fun _ _ _ h => h) (by rfl) ?_ HYY.out.box ?_
            rotate_left
            · (intro w hSw; obtain ⟨s0, s1, s2⟩ := hSw; go_simp; try with_reducible rfl)
            simp only [Act.put, List.setIfInBounds_toArray, List.set_cons_zero, List.set_cons_succ]
            refine takeAt 11 12 (oi := _) (v := ?_) rfl rfl (by kernel_rfl) (by kernel_rfl) (by kernel_rfl) (fun _ _ _ h => h) (by rfl) ?_ HYY.out.box ?_
            rotate_left
            · (intro w hSw; obtain ⟨s0, s1, s2⟩ := hSw; go_simp; try with_reducible rfl)
            simp only [Act.put, List.setIfInBounds_toArray, List.set_cons_zero, List.set_cons_succ]
            refine wpAnyH_done (by kernel_rfl) ?_ _
            go_wp2_with fail
            go_ret
            exact ⟨rfl, HYY.out.below⟩
end Go.Proofs.Ytebcnhnkpmbgdab
