/-
  Joined by a program out of: LGroup, AppEv, FrontPure, PartPure.
-/
import Derived.Test.YtfgangkpebkicaaDoorMgAA
import Derived.Test.YtfgangkpebkicaaDoorMgAB
import Derived.Test.YtfgangkpebkicaaDoorMgAG
import Derived.Deep.Cut
import Derived.Deep.RegionHeld3
import Derived.Test.YtfgangkpebkicaaDoorMgAD

/-
  Contract of local.group.
-/
namespace Go.Proofs.YtfgangkpebkicaaDoor
open Go.RowKit Go.Maps
set_option maxRecDepth 20000
theorem zero_ints (w : World) : (zeroValue 22).run Tryd.prog w = .ok (.slice none 0 0) w := by kernel_rfl
/-- The record of the call of the round, in a block of its own. -/
def GrS (C : Nat) (th : Int) (W : World) : Prop := ∃ cs, Lies W C 51 cs ∧ cs[1]? = some (.int .i64 th)
theorem GrS.grown {C : Nat} {th : Int} {W W' : World} {row : Option Nat} (h : GrS C th W) (hg : W.grownBy W' row) (hne : row ≠ some C) : GrS C th W' := by
  obtain ⟨cs, h1, h2⟩ := h
  exact ⟨cs, h1.keep (hg.block C h1.lt (Ne.symm hne)), h2⟩
/-- The look-up, and that what it hands over shuns what the groups shun. -/
theorem grp_at {w : World} {base b n : Nat} {D : DataW Unit} (h : w.ownsGroups Tryd.prog 3 base 3 .i64 b n D) (hn : n < maxLen) {th : Int} (hkey : keyOf Tryd.prog 3 (.int .i64 th) = some (.int .i64 th)) :
    ∃ v zs, (Instr.lookup 60 (.map (some b)) (.int .i64 th) false).run Tryd.prog w = .ok v w ∧ D.atKey (.int .i64 th) .nil = rowDatum .i64 v zs ∧ w.ownsInts base 3 .i64 v zs ∧ zs.length ≤ n ∧ w.groupBack Tryd.prog 60 3 base 3 .i64 b n D (.int .i64 th) (.int .i64 th) v ∧
      ∀ No : Nat → Prop, w.Shuns b No → ∀ g, v.ownBlock = some g → ¬ No g := by
  obtain ⟨v, zs, hrun, hat, hoi, hzl, hback⟩ := h.at keyed_int Tryd.underlying60 (zero_ints w) hn hkey
  refine ⟨v, zs, hrun, hat, hoi, hzl, hback, ?_⟩
  obtain ⟨es, clock, hb, F, _⟩ := h
  rcases Maps.fit_look false keyed_int Tryd.underlying60 (zero_ints w) hb F hkey with ⟨h1, _, _⟩ | ⟨e0, y, hm0, _, h1, _, _, _⟩
  · rw [hrun] at h1
    injection h1 with h1 _
    intro _ _ g hg
    rw [show v = .slice none 0 0 by simpa using h1] at hg
    cases hg
  · rw [hrun] at h1
    injection h1 with h1 _
    rw [show v = e0.val by simpa using h1]
    exact fun No hs g hg => hs es clock hb e0 hm0 g hg
set_option maxHeartbeats 4000000 in
theorem lgroup_any {v : Value} {cs : List Cl} {w : World} (h : CRd w w.heap.size v cs) (hm : cs.length ≤ 1000) (hth : ∀ c ∈ cs, 0 ≤ c.thing ∧ c.thing < 1000) :
    Calls Tryd.prog 20 #[v] w fun e w' => e = .returned (.map (some w.heap.size)) ∧ Below w.heap.size w w' ∧ ∃ D, GrpD cs cs.length D ∧ w'.ownsGroups Tryd.prog 3 (w.heap.size + 1) 3 .i64 w.heap.size cs.length D := by
  obtain ⟨A, c, rfl, -, -⟩ := h.is
  have H := Lib.hid h
  obtain ⟨m, hm2⟩ : ∃ m, m = cs.length := ⟨_, rfl⟩
  rw [← hm2] at hm H ⊢
  have HM := Lib.hid hm2
  clear h hm2
  have hmm := @run_makeMap Tryd.prog
  go_enter Tryd.func20, Tryd.ntmps20
  go_wp2_with fail
  clear hmm
  go_loopw [9] (fun i wr => ∃ k : Nat, k ≤ m ∧ i = .int .i64 k ∧ Below w.heap.size w wr ∧ w.heap.size + 1 ≤ wr.heap.size ∧ ∃ D, GrpD cs k D ∧ wr.ownsGroups Tryd.prog 3 (w.heap.size + 1) 3 .i64 w.heap.size k D) (fun i _ => m - (intOf i).toNat)
  case atStart => exact ⟨0, Nat.zero_le _, rfl, (Below.refl _ _).alloc (Nat.le_refl _) _, by simp, _, GrpD.zero cs, World.ownsGroups_made _ _ _ _ _⟩
  case round =>
    obtain ⟨k, hk, rfl, hb, hs, D, hD, hO⟩ := hrel
    by_cases hkm : k < m
    · obtain ⟨x, hx⟩ : ∃ x, cs[k]? = some x := ⟨_, List.getElem?_eq_getElem (by rw [← HM.out]; exact hkm)⟩
      have h' := H.out.below hb
      obtain ⟨g, o, hA, hgl, d0, d1, d2, d3, d4, d5, d6⟩ := h'.cl hx
      subst hA
      have HD := Lib.hid (And.intro hD (And.intro hb (And.intro hs hO)))
      have HX := Lib.hid (show (cs.getD k default).thing = x.thing by rw [List.getD_eq_getElem?_getD, hx]; rfl)
      clear hD hb hs hO h'
      obtain ⟨i0, hi0, hz0, hz1, hz2⟩ := info_parts info_intT
      have HKEY := Lib.hid (show keyOf Tryd.prog 3 (.int .i64 x.thing) = some (.int .i64 x.thing) by
        have hxt := hth x (List.mem_of_getElem? hx)
        simp [keyOf, Tryd.underlying3, mapKey]
        exact WalkArith.wf_i64 (by omega))
      clear hx
      have j1 : (0 : Int) ≤ (k : Int) := by omega
      have j2 : (k : Int) < (m : Int) := by omega
      go_upto_region 5 with fail
      obtain ⟨C, hC⟩ : ∃ C, C = wr.heap.size := ⟨_, rfl⟩
      obtain ⟨W1, hW1⟩ : ∃ W1, W1 = wr.alloc (.cells #[.int .i64 x.who, .int .i64 x.thing, .int .i64 x.kind, .int .i64 x.arg, .int .i64 x.res, .int .i64 x.frm, .int .i64 x.til] 51) := ⟨_, rfl⟩
      rw [← hW1, ← hC]
      have hrow : ∀ (W : World) (es : Array MapEntry) (clock : Nat), W.heap[w.heap.size]? = some (.map es clock) → ∀ y ∈ es.toList, y.val.ownBlock = none ∨ y.val.ownBlock ≠ none := fun W es clock _ y _ => by cases y.val.ownBlock <;> simp
      have hO1 : W1.ownsGroups Tryd.prog 3 (w.heap.size + 1) 3 .i64 w.heap.size k D := by rw [hW1]; exact HD.out.2.2.2.kept (World.grownBy_alloc wr _ none) (by simp) (hrow wr)
      have hS1 : GrS C x.thing W1 := by rw [hW1, hC]; exact ⟨_, Lies.new _ _ _, rfl⟩
      have hb1 : Below w.heap.size w W1 := by rw [hW1]; exact HD.out.2.1.alloc HD.out.2.1.size _
      have hH1 : W1.Shuns w.heap.size (fun g => g = C) := by
        have h1 : wr.Shuns w.heap.size (fun g => g = C) := World.Shuns.reno (No := fun _ => False) (fun _ _ _ _ _ _ _ h => h) HD.out.2.2.2 (fun g hg => .inr (by rw [hg, hC]; exact Nat.le_refl _))
        rw [hW1]; exact h1.kept (World.grownBy_alloc wr _ none) (by have := HD.out.2.2.1; omega) (by simp)
      have hC1 : w.heap.size + 1 ≤ C := by rw [hC]; exact HD.out.2.2.1
      clear hW1 hC
      refine wp_region_held_drew (S := GrS C x.thing) (by kernel_rfl) hS1 (fun hHeld => ?_)
      change wpAnyH _ _ _ _ _ 11 _ _ _
      clear hHeld
      have HS := Lib.hid (show GrS C x.thing W1.drew from hS1)
      have HO := Lib.hid (hO1.kept (w' := W1.drew) (row := none) ⟨rfl, rfl, rfl, Nat.le_refl _, fun i hi _ => rfl⟩ (by simp) (hrow W1))
      have HB := Lib.hid (And.intro (show Below w.heap.size w W1.drew from hb1.drew) (And.intro hC1 (hH1.kept (w' := W1.drew) (row := none) ⟨rfl, rfl, rfl, Nat.le_refl _, fun i hi _ => rfl⟩ (by obtain ⟨cs1, hL1, _⟩ := hS1; have := hL1.lt; omega) (by simp))))
      have hCW : C < W1.drew.heap.size := by obtain ⟨cs1, hL1, _⟩ := hS1; exact hL1.lt
      have HCW := Lib.hid hCW
      clear hS1 hO1 hb1 hC1 hH1 hCW
      generalize W1.drew = WD at HS HO HB HCW ⊢
      refine takeAt 0 14 (oi := _) (v := ?_) rfl rfl (by kernel_rfl) (by kernel_rfl) (by kernel_rfl) (fun _ _ _ h => h) (by rfl) ?_ HS.out ?_
      rotate_left
      · (intro w hSw; obtain ⟨cs1, hL1, hc1⟩ := hSw; have p1 : w.cell? ⟨C, 1, none⟩ = some (.int .i64 x.thing) := (Lies.cell hL1 1).trans hc1; go_simp; try with_reducible rfl)
      simp only [Act.put, List.setIfInBounds_toArray, List.set_cons_zero, List.set_cons_succ]
      refine takeAt 1 15 (oi := _) (v := ?_) rfl rfl (by kernel_rfl) (by kernel_rfl) (by kernel_rfl) (fun _ _ _ h => h) (by rfl) ?_ HS.out ?_
      rotate_left
      · (intro w hSw; obtain ⟨cs1, hL1, hc1⟩ := hSw; have p1 : w.cell? ⟨C, 1, none⟩ = some (.int .i64 x.thing) := (Lies.cell hL1 1).trans hc1; go_simp; try with_reducible rfl)
      simp only [Act.put, List.setIfInBounds_toArray, List.set_cons_zero, List.set_cons_succ]
      refine takeAt 2 16 (oi := _) (v := ?_) rfl rfl (by kernel_rfl) (by kernel_rfl) (by kernel_rfl) (fun _ _ _ h => h) (by rfl) ?_ HS.out ?_
      rotate_left
      · (intro w hSw; obtain ⟨cs1, hL1, hc1⟩ := hSw; have p1 : w.cell? ⟨C, 1, none⟩ = some (.int .i64 x.thing) := (Lies.cell hL1 1).trans hc1; go_simp; try with_reducible rfl)
      simp only [Act.put, List.setIfInBounds_toArray, List.set_cons_zero, List.set_cons_succ]
      refine takeAt 3 17 (oi := _) (v := ?_) rfl rfl (by kernel_rfl) (by kernel_rfl) (by kernel_rfl) (fun _ _ _ h => h) (by rfl) ?_ HS.out ?_
      rotate_left
      · (intro w hSw; obtain ⟨cs1, hL1, hc1⟩ := hSw; have p1 : w.cell? ⟨C, 1, none⟩ = some (.int .i64 x.thing) := (Lies.cell hL1 1).trans hc1; go_simp; try with_reducible rfl)
      simp only [Act.put, List.setIfInBounds_toArray, List.set_cons_zero, List.set_cons_succ]
      refine takeAt 4 18 (oi := _) (v := ?_) rfl rfl (by kernel_rfl) (by kernel_rfl) (by kernel_rfl) (fun _ _ _ h => h) (by rfl) ?_ HS.out ?_
      rotate_left
      · (intro w hSw; obtain ⟨cs1, hL1, hc1⟩ := hSw; have p1 : w.cell? ⟨C, 1, none⟩ = some (.int .i64 x.thing) := (Lies.cell hL1 1).trans hc1; go_simp; try with_reducible rfl)
      simp only [Act.put, List.setIfInBounds_toArray, List.set_cons_zero, List.set_cons_succ]
      refine takeAt 5 19 (oi := _) (v := ?_) rfl rfl (by kernel_rfl) (by kernel_rfl) (by kernel_rfl) (fun _ _ _ h => h) (by rfl) ?_ HS.out ?_
      rotate_left
      · (intro w hSw; obtain ⟨cs1, hL1, hc1⟩ := hSw; have p1 : w.cell? ⟨C, 1, none⟩ = some (.int .i64 x.thing) := (Lies.cell hL1 1).trans hc1; go_simp; try with_reducible rfl)
      simp only [Act.put, List.setIfInBounds_toArray, List.set_cons_zero, List.set_cons_succ]
      refine takeAt 7 21 (oi := _) (v := ?_) rfl rfl (by kernel_rfl) (by kernel_rfl) (by kernel_rfl) (fun _ _ _ h => h) (by rfl) ?_ HS.out ?_
      rotate_left
      · (intro w hSw; obtain ⟨cs1, hL1, hc1⟩ := hSw; have p1 : w.cell? ⟨C, 1, none⟩ = some (.int .i64 x.thing) := (Lies.cell hL1 1).trans hc1; go_simp; try with_reducible rfl)
      simp only [Act.put, List.setIfInBounds_toArray, List.set_cons_zero, List.set_cons_succ]
      refine wpAnyH_ready (rs := [6, 8]) (by kernel_rfl) (by simp) ?_
      refine AllReadyH.cons (o := _) rfl (fun K hK => ?_) (AllReadyH.cons (o := _) rfl (fun K hK => ?_) AllReadyH.nil)
      · obtain ⟨v, zs, hrun, hat, hoi, hzl, hback, hsh⟩ := grp_at HO.out (by unfold maxLen; omega) (th := x.thing) (HKEY.out)
        have HOI := Lib.hid (And.intro (hoi.alloc (.cells #[.int .i64 (k : Int)] 3)) (And.intro hzl (hsh _ HB.out.2.2)))
        have HS2 := Lib.hid (HS.out.grown (World.grownBy_alloc WD (.cells #[.int .i64 (k : Int)] 3) none) (by simp))
        have HBK := Lib.hid (And.intro hat (And.intro hoi hback))
        go_simp
        clear hrun hat hback hsh
        refine hK.out _ _ HS.out (fun _ => ?_)
        clear hK K
        refine wpAnyH_ready (rs := [8]) (by kernel_rfl) (by simp) ?_
        refine AllReadyH.cons (o := _) rfl (fun K hK => ?_) AllReadyH.nil
        go_simp
        refine hK.out _ _ HS2.out (fun _ => ?_)
        clear hK K
        obtain ⟨v', w3, hrun3, hown3, hgrow3, hnil3, hloc3⟩ := run_append_own_at (WD.alloc (.cells #[.int .i64 (k : Int)] 3)) (w.heap.size + 1) 22 22 3 i0 (.int .i64 0) 1 8 Tryd.underlying22 hi0 hz0 hz1 hz2 rfl (by decide) v zs.length (zs.map (Value.int .i64)) HOI.out.1.1 ⟨WD.heap.size, 0, none⟩ 1 1 [.int .i64 (k : Int)] rfl (cell_one_new _ _ _) (ints_oneCell .i64 [(k : Int)]) (by have := HOI.out.2.1; unfold maxLen; omega) (by have := HOI.out.2.1; omega) (by have := HB.out.2.1; have := HCW.out; simp; omega)
        have hS3 : GrS C x.thing w3 := HS2.out.grown hgrow3 (fun h => HOI.out.2.2 C h rfl)
        have HS3 := Lib.hid hS3
        clear hS3
        refine wpAnyH_ready (rs := [9]) (by kernel_rfl) (by simp) ?_
        refine AllReadyH.cons (o := _) rfl (fun K hK => ?_) AllReadyH.nil
        refine step_run_app (by rfl) (.tmp 20) (.tmp 22) _ _ (by rfl) _ _ (by rfl) (by rfl) _ _ hrun3 ?_
        refine hK.out _ _ HS3.out (fun _ => ?_)
        clear hK K
        refine wpAnyH_ready (rs := [10]) (by kernel_rfl) (by simp) ?_
        refine AllReadyH.cons (o := _) rfl (fun K hK => ?_) AllReadyH.nil
        have hint3 := HBK.out.2.1.appended hown3 (WalkArith.wf_i64 (by omega))
        have hall : WD.grownBy w3 v.ownBlock := (World.grownBy_alloc WD _ _).trans hgrow3
        obtain ⟨w4, hrun4, hO4, hg4⟩ := HBK.out.2.2 w3 v' (zs ++ [(k : Int)]) hall hint3 (by simp; exact HOI.out.2.1) (hloc3.imp id (fun h => ⟨_, h, by simp⟩))
        have hS4 : GrS C x.thing w4 := HS3.out.grown hg4 (fun h => by injection h with h; have := HB.out.2.1; omega)
        go_simp
        refine hK.out _ _ hS4 (fun _ => ?_)
        clear hK K
        refine wpAnyH_done (by kernel_rfl) ?_ _
        clear hrun4 hrun3
        go_wp2_with fail
        go_roundw
        case rel =>
          have hz := HD.out.1.at_ HBK.out.1 HBK.out.2.1
          have h9 := GrpD.succ HD.out.1 (w := w3) (v := v') (base := w.heap.size + 1) (e := 3) (by rw [HX.out, ← hz]; exact hint3)
          rw [HX.out, ← hz] at h9
          exact ⟨k + 1, by omega, by go_num, HB.out.1.groups HBK.out.2.1 hall hg4 HB.out.1.size (Nat.le_succ _) (Nat.le_refl _), Nat.le_trans (by have := HB.out.2.1; have := HCW.out; omega) (Nat.le_trans hall.size hg4.size), _, h9, hO4⟩
        case measure => simp [intOf]; omega
      · have hO2 := HO.out.kept (World.grownBy_alloc WD (.cells #[.int .i64 (k : Int)] 3) none) (by simp) (hrow WD)
        have hH2 := HB.out.2.2.kept (World.grownBy_alloc WD (.cells #[.int .i64 (k : Int)] 3) none) (by have := HB.out.2.1; have := HCW.out; omega) (by simp)
        obtain ⟨v, zs, hrun, hat, hoi, hzl, hback, hsh⟩ := grp_at hO2 (by unfold maxLen; omega) (th := x.thing) (HKEY.out)
        have HOI := Lib.hid (And.intro hoi (And.intro hzl (hsh _ hH2)))
        have HS2 := Lib.hid (HS.out.grown (World.grownBy_alloc WD (.cells #[.int .i64 (k : Int)] 3) none) (by simp))
        have HBK := Lib.hid (And.intro hat (And.intro hoi hback))
        have HB2 := Lib.hid (HB.out.1.alloc HB.out.1.size (.cells #[.int .i64 (k : Int)] 3))
        have HRUN := Lib.hid hrun
        clear hrun hat hback hsh hO2 hH2
        go_simp
        refine hK.out _ _ HS2.out (fun _ => ?_)
        clear hK K
        refine wpAnyH_ready (rs := [6]) (by kernel_rfl) (by simp) ?_
        refine AllReadyH.cons (o := _) rfl (fun K hK => ?_) AllReadyH.nil
        have hrun := HRUN.out
        go_simp
        clear hrun
        refine hK.out _ _ HS2.out (fun _ => ?_)
        clear hK K
        obtain ⟨v', w3, hrun3, hown3, hgrow3, hnil3, hloc3⟩ := run_append_own_at (WD.alloc (.cells #[.int .i64 (k : Int)] 3)) (w.heap.size + 1) 22 22 3 i0 (.int .i64 0) 1 8 Tryd.underlying22 hi0 hz0 hz1 hz2 rfl (by decide) v zs.length (zs.map (Value.int .i64)) HOI.out.1.1 ⟨WD.heap.size, 0, none⟩ 1 1 [.int .i64 (k : Int)] rfl (cell_one_new _ _ _) (ints_oneCell .i64 [(k : Int)]) (by have := HOI.out.2.1; unfold maxLen; omega) (by have := HOI.out.2.1; omega) (by have := HB.out.2.1; have := HCW.out; simp; omega)
        have hS3 : GrS C x.thing w3 := HS2.out.grown hgrow3 (fun h => HOI.out.2.2 C h rfl)
        have HS3 := Lib.hid hS3
        clear hS3
        refine wpAnyH_ready (rs := [9]) (by kernel_rfl) (by simp) ?_
        refine AllReadyH.cons (o := _) rfl (fun K hK => ?_) AllReadyH.nil
        refine step_run_app (by rfl) (.tmp 20) (.tmp 22) _ _ (by rfl) _ _ (by rfl) (by rfl) _ _ hrun3 ?_
        refine hK.out _ _ HS3.out (fun _ => ?_)
        clear hK K
        refine wpAnyH_ready (rs := [10]) (by kernel_rfl) (by simp) ?_
        refine AllReadyH.cons (o := _) rfl (fun K hK => ?_) AllReadyH.nil
        have hint3 := HBK.out.2.1.appended hown3 (WalkArith.wf_i64 (by omega))
        have hall : (WD.alloc (.cells #[.int .i64 (k : Int)] 3)).grownBy w3 v.ownBlock := hgrow3
        obtain ⟨w4, hrun4, hO4, hg4⟩ := HBK.out.2.2 w3 v' (zs ++ [(k : Int)]) hall hint3 (by simp; exact HOI.out.2.1) (hloc3.imp id (fun h => ⟨_, h, Nat.le_refl _⟩))
        have hS4 : GrS C x.thing w4 := HS3.out.grown hg4 (fun h => by injection h with h; have := HB.out.2.1; omega)
        go_simp
        refine hK.out _ _ hS4 (fun _ => ?_)
        clear hK K
        refine wpAnyH_done (by kernel_rfl) ?_ _
        clear hrun4 hrun3
        go_wp2_with fail
        go_roundw
        case rel =>
          have hz := HD.out.1.at_ HBK.out.1 HBK.out.2.1
          have h9 := GrpD.succ HD.out.1 (w := w3) (v := v') (base := w.heap.size + 1) (e := 3) (by rw [HX.out, ← hz]; exact hint3)
          rw [HX.out, ← hz] at h9
          exact ⟨k + 1, by omega, by go_num, HB2.out.groups HBK.out.2.1 hall hg4 HB2.out.size (Nat.le_succ _) (Nat.le_refl _), Nat.le_trans (by have := HB.out.2.1; have := HCW.out; simp; omega) (Nat.le_trans hall.size hg4.size), _, h9, hO4⟩
        case measure => simp [intOf]; omega
    · obtain rfl : k = m := by omega
      go_wp2_with fail
      go_ret
      exact ⟨rfl, hb, D, hD, hO⟩
end Go.Proofs.YtfgangkpebkicaaDoor

/-
  append(s, x): events.
-/
namespace Go.Proofs.YtfgangkpebkicaaDoor
open Go.RowKit
set_option maxRecDepth 20000
theorem info_ev : (Tryd.prog.info? 84).map (fun i => (i.zero, i.size, i.bytes)) = some (some (evV default), 4, 32) := by kernel_rfl
theorem EOwn.then_ {w w' : World} {B : Nat} {v : Value} {l : List Ev} (h : EOwn w B v l) (hb : Below w.heap.size w w') : EOwn w' B v l :=
  World.ownsRow.kept h (row := none) ⟨hb.os, hb.tape, hb.output, hb.size, fun k hk _ => hb.block k hk⟩ (by
    cases hv : v.ownBlock with
    | none => exact .inl rfl
    | some k => exact .inr (by simp))
theorem EOwn.alloc {w : World} {B : Nat} {v : Value} {l : List Ev} (h : EOwn w B v l) (o : Obj) : EOwn (w.alloc o) B v l := World.ownsRow.alloc h o
theorem run_app_ev {W : World} {base G : Nat} {v : Value} {l : List Ev} {y : Ev} (ty : TypeId) (hown : EOwn W base v l) (hG : ∀ j u, (evCs y)[j]? = some u → W.cell? ⟨G, j, none⟩ = some u) (hlen : l.length ≤ 65536) (hbase : base ≤ W.heap.size) :
    ∃ v' w', (Builtin.append_ #[23, 23] ty #[v, .slice (some ⟨G, 0, none⟩) 1 1]).run Tryd.prog W = .ok v' w' ∧ EOwn w' base v' (l ++ [y]) ∧ Below base W w' ∧ W.grownBy w' v.ownBlock := by
  obtain ⟨i0, hi, hz0, hz1, hz2⟩ := info_of info_ev
  have hl := World.ownsRow.lt hown
  obtain ⟨v', w', hr, h2, h3, _⟩ := run_append_own (P := Tryd.prog) W base 23 ty 84 i0 (evV default) 4 32 Tryd.underlying23 hi hz0 hz1 hz2 rfl (by decide) v l.length (l.flatMap evCs) hown
    ⟨G, 0, none⟩ 1 1 (evCs y) rfl (fun j u hu => by
      rw [Addr.add_lit, Nat.zero_add]
      exact hG j u hu) (fun u hu => by
      simp only [List.mem_cons, List.not_mem_nil, or_false] at hu
      rcases hu with rfl | rfl | rfl | rfl <;> rfl) (by unfold maxLen; omega) (by omega) hbase
  refine ⟨v', w', hr, ?_, (Below.refl base W).grown h3 hbase (fun k hk => (hl k hk).1), h3⟩
  unfold EOwn
  rw [List.length_append, List.flatMap_append]
  simpa using h2
theorem own_sliceE {w : World} {B : Nat} {v : Value} {l : List Ev} (h : EOwn w B v l) : ∃ A c, v = .slice A l.length c := by
  obtain ⟨A, c, h, _⟩ := h.rd.is
  exact ⟨A, c, h⟩
theorem wp_app_ev {W : World} {o : Oper} {a : Act} {K : Act → World → Prop} {Q : Exit → Act → World → Prop} (s x : Operand)
    (ho : o.op = .call { callee := .builtin .append, args := #[s, x], argTypes := #[23, 23] })
    (base G : Nat) (v : Value) (l : List Ev) (y : Ev) (hs : a.eval s = v) (hx : a.eval x = .slice (some ⟨G, 0, none⟩) 1 1) (hown : EOwn W base v l) (hG : ∀ j u, (evCs y)[j]? = some u → W.cell? ⟨G, j, none⟩ = some u) (hlen : l.length ≤ 65536) (hbase : base ≤ W.heap.size)
    (h : ∀ v' w', EOwn w' base v' (l ++ [y]) → Below base W w' → W.grownBy w' v.ownBlock → K (a.put o.dst v') w') : Oper.wp Tryd.prog o a W K Q := by
  obtain ⟨v', w', hrun, r1, r2, r3⟩ := run_app_ev o.type hown hG hlen hbase
  unfold Oper.wp
  simp [execOp, ho, resolve, invoke, builtin, hs, hx, hrun, Result.andThen]
  exact h v' w' r1 r2 r3
theorem wpList_app_ev {W : World} {ops : Array Oper} {rest : List Oper} {o : Oper} {a : Act} {Q : Exit → Act → World → Prop} (hgd : o.guard = none) (s x : Operand)
    (ho : o.op = .call { callee := .builtin .append, args := #[s, x], argTypes := #[23, 23] })
    (base G : Nat) (v : Value) (l : List Ev) (y : Ev) (hs : a.eval s = v) (hx : a.eval x = .slice (some ⟨G, 0, none⟩) 1 1) (hown : EOwn W base v l) (hG : ∀ j u, (evCs y)[j]? = some u → W.cell? ⟨G, j, none⟩ = some u) (hlen : l.length ≤ 65536) (hbase : base ≤ W.heap.size)
    (h : ∀ v' w', EOwn w' base v' (l ++ [y]) → Below base W w' → W.grownBy w' v.ownBlock → wpList Tryd.prog ops Q rest (a.put o.dst v') w') : wpList Tryd.prog ops Q (o :: rest) a W :=
  wpList_plain hgd fun _ hK => wp_app_ev s x ho base G v l y hs hx hown hG hlen hbase fun v' w' h1 h2 h3 => hK _ _ (h v' w' h1 h2 h3)
theorem step_app_ev {W : World} {ops : Array Oper} {o : Oper} {a : Act} {K : Act → World → Prop} {Q : Exit → Act → World → Prop} {E : Prop} (hgd : o.guard = none) (s x : Operand)
    (ho : o.op = .call { callee := .builtin .append, args := #[s, x], argTypes := #[23, 23] })
    (base G : Nat) (v : Value) (l : List Ev) (y : Ev) (hs : a.eval s = v) (hx : a.eval x = .slice (some ⟨G, 0, none⟩) 1 1) (hown : EOwn W base v l) (hG : ∀ j u, (evCs y)[j]? = some u → W.cell? ⟨G, j, none⟩ = some u) (hlen : l.length ≤ 65536) (hbase : base ≤ W.heap.size)
    (h : ∀ v' w', EOwn w' base v' (l ++ [y]) → Below base W w' → W.grownBy w' v.ownBlock → K (a.put o.dst v') w') :
    if Region.wanted o (yielded ops a.tmps) = true then Oper.wp Tryd.prog o a W K Q else E := by
  have hw : Region.wanted o (yielded ops a.tmps) = true := by simp [Region.wanted, hgd]
  rw [if_pos hw]
  exact wp_app_ev s x ho base G v l y hs hx hown hG hlen hbase h
end Go.Proofs.YtfgangkpebkicaaDoor

/-
  Plain mathematics for the law HistoryFront: a begin of a history.
-/
namespace Go.Proofs.YtfgangkpebkicaaDoor
set_option maxRecDepth 20000
/-- Each call begins and is answered ahead of n; what is not answered has no result. -/
def Tidy (n : Nat) (cs : List Cl) : Prop := ∀ c ∈ cs, c.til < n ∧ c.frm < n ∧ 0 ≤ c.frm ∧ (c.til = -1 → c.res = 0)
theorem step_tidy {ts : List Int} {n : Nat} {cs cs' : List Cl} {x : Ev} (h : Tidy n cs) (hs : step ts n cs x = .inr cs') : Tidy (n + 1) cs' := by
  unfold step respS invS at hs
  repeat' split at hs
  all_goals (try cases hs)
  · rename_i h1 h2 h3 h4
    intro c hc
    rcases List.mem_or_eq_of_mem_set hc with hc | rfl
    · obtain ⟨a, b, d, e⟩ := h c hc
      exact ⟨by omega, by omega, d, e⟩
    · obtain ⟨d, e1, _, _, e4⟩ := openOf_at (cs := cs) (who := x.who) (by omega)
      have : cs.getD (openOf cs x.who).toNat default = d := by rw [List.getD_eq_getElem?_getD, e1]; rfl
      simp only [this]
      obtain ⟨a, b, c', e⟩ := h d (List.mem_of_getElem? e1)
      exact ⟨by omega, by omega, c', by omega⟩
  · intro c hc
    rcases List.mem_append.1 hc with hc | hc
    · obtain ⟨a, b, d, e⟩ := h c hc
      exact ⟨by omega, by omega, d, e⟩
    · rw [List.mem_singleton] at hc
      subst hc
      simp only
      exact ⟨by omega, by omega, by omega, by simp⟩
/-- What was not answered ahead of m is not answered. -/
def before_ (m : Nat) (y : Cl) : Cl := if (m : Int) ≤ y.til then { y with res := 0, til := -1 } else y
/-- The calls c go on from the calls d as they stood at m. -/
structure Grow (m : Nat) (d c : List Cl) : Prop where
  len : d.length ≤ c.length
  same : ∀ (i : Nat) (x y : Cl), d[i]? = some x → c[i]? = some y → x = before_ m y
  new : ∀ (i : Nat) (y : Cl), d.length ≤ i → c[i]? = some y → (m : Int) ≤ y.frm
theorem Grow.refl {m : Nat} {d : List Cl} (h : Tidy m d) : Grow m d d := by
  refine ⟨Nat.le_refl _, fun i x y h1 h2 => ?_, fun i y h1 h2 => ?_⟩
  · rw [h1] at h2
    injection h2 with h2
    subst h2
    have := (h x (List.mem_of_getElem? h1)).1
    unfold before_
    rw [if_neg (by omega)]
  · have := (List.getElem?_eq_some_iff.1 h2).1
    omega
theorem Grow.step {ts : List Int} {m n : Nat} {d c c' : List Cl} {x : Ev} (h : Grow m d c) (hm : m ≤ n) (ht : Tidy n c) (hs : step ts n c x = .inr c') : Grow m d c' := by
  unfold Go.Proofs.YtfgangkpebkicaaDoor.step respS invS at hs
  repeat' split at hs
  all_goals (try cases hs)
  · obtain ⟨e, e1, _, e3, e4⟩ := openOf_at (cs := c) (who := x.who) (by omega)
    have hg : c.getD (openOf c x.who).toNat default = e := by rw [List.getD_eq_getElem?_getD, e1]; rfl
    rw [hg]
    refine ⟨by rw [List.length_set]; exact h.len, fun i a b h1 h2 => ?_, fun i b h1 h2 => ?_⟩
    · rw [List.getElem?_set] at h2
      split at h2
      · rename_i hi
        subst hi
        injection h2 with h2
        subst h2
        have h3 := h.same _ _ _ h1 e1
        unfold before_ at h3 ⊢
        rw [if_neg (by omega)] at h3
        rw [if_pos (by show (m : Int) ≤ (n : Int); omega)]
        have h4 := (ht e (List.mem_of_getElem? e1)).2.2.2 e3
        subst h3
        exact Cl.same rfl rfl rfl rfl h4 rfl e3
      · exact h.same i a b h1 h2
    · rw [List.getElem?_set] at h2
      split at h2
      · rename_i hi
        subst hi
        injection h2 with h2
        subst h2
        exact h.new _ e h1 e1
      · exact h.new i b h1 h2
  · refine ⟨by rw [List.length_append]; have := h.len; omega, fun i a b h1 h2 => ?_, fun i b h1 h2 => ?_⟩
    · have hi := (List.getElem?_eq_some_iff.1 h1).1
      have := h.len
      rw [List.getElem?_append, if_pos (by omega)] at h2
      exact h.same i a b h1 h2
    · rw [List.getElem?_append] at h2
      split at h2
      · exact h.new i b h1 h2
      · have hi := (List.getElem?_eq_some_iff.1 h2).1
        simp at hi
        rw [hi] at h2
        simp at h2
        subst h2
        show (m : Int) ≤ (n : Int)
        omega
theorem Grow.run {ts : List Int} {m : Nat} {d : List Cl} : ∀ (l : List Ev) (n : Nat) (c : List Cl), Grow m d c → m ≤ n → Tidy n c → (run ts n c l).2.2 = 0 → Grow m d (run ts n c l).1
  | [], _, _, h, _, _, _ => h
  | x :: r, n, c, h, hm, ht, h0 => by
    rw [Go.Proofs.YtfgangkpebkicaaDoor.run] at h0 ⊢
    cases hs : Go.Proofs.YtfgangkpebkicaaDoor.step ts n c x with
    | inl e => rw [hs] at h0; exact absurd h0 (step_err hs)
    | inr c' =>
      rw [hs] at h0
      simp only at h0 ⊢
      exact Grow.run r (n + 1) c' (h.step hm ht hs) (by omega) (step_tidy ht hs) h0
end Go.Proofs.YtfgangkpebkicaaDoor

/-
  Plain mathematics for parts: the events of one thing of a history are one.
-/
namespace Go.Proofs.YtfgangkpebkicaaDoor
set_option maxRecDepth 20000
/-- What somebody waits for: the thing and the kind. -/
def openK (cs : List Cl) (who : Int) : Option (Int × Int) := if 0 ≤ openOf cs who then some ((cs.getD (openOf cs who).toNat default).thing, (cs.getD (openOf cs who).toNat default).kind) else none
def updK (o : Int → Option (Int × Int)) (who : Int) (v : Option (Int × Int)) : Int → Option (Int × Int) := fun w => if w = who then v else o w
/-- One more event, by what all wait for. -/
def stepK (ts : List Int) (o : Int → Option (Int × Int)) (x : Ev) : Option (Int → Option (Int × Int)) :=
  if ¬ (0 ≤ x.who ∧ x.who ≤ 7) ∨ ¬ (0 ≤ x.thing ∧ x.thing < ts.length) then none
  else if x.kind = 0 then
    match o x.who with
    | none => none
    | some tk => if tk.1 = x.thing ∧ givesB tk.2 x.val = true then some (updK o x.who none) else none
  else if fitsB (ts.getD x.thing.toNat 0) x.kind = true ∧ takesB x.kind x.val = true ∧ o x.who = none then some (updK o x.who (some (x.thing, x.kind))) else none
def runK (ts : List Int) : (Int → Option (Int × Int)) → List Ev → Bool
  | _, [] => true
  | o, x :: r => match stepK ts o x with
    | none => false
    | some o' => runK ts o' r
theorem openK_none {cs : List Cl} {who : Int} (h : openOf cs who < 0) : openK cs who = none := by
  unfold openK
  rw [if_neg (by omega)]
theorem openK_ways (cs : List Cl) (who : Int) : (openOf cs who < 0 ∧ openK cs who = none) ∨ ∃ (i : Nat) (c : Cl), cs[i]? = some c ∧ c.who = who ∧ c.til = -1 ∧ openOf cs who = (i : Int) ∧ openK cs who = some (c.thing, c.kind) := by
  by_cases h : 0 ≤ openOf cs who
  · obtain ⟨c, e1, e2, e3, e4⟩ := openOf_at h
    refine .inr ⟨_, c, e1, e2, e3, by omega, ?_⟩
    unfold openK
    rw [if_pos h, List.getD_eq_getElem?_getD, e1]
    rfl
  · exact .inl ⟨by omega, openK_none (by omega)⟩
theorem openK_snoc (cs : List Cl) (c : Cl) (ht : c.til = -1) : openK (cs ++ [c]) = updK (openK cs) c.who (some (c.thing, c.kind)) := by
  funext w
  unfold openK updK
  by_cases e : w = c.who
  · subst e
    have h1 : openOf (cs ++ [c]) c.who = (cs.length : Int) := by rw [openOf_snoc, if_pos ⟨rfl, ht⟩]
    rw [h1, if_pos (by omega), if_pos rfl, Int.toNat_natCast]
    simp
  · have h1 : openOf (cs ++ [c]) w = openOf cs w := by rw [openOf_snoc, if_neg (fun h => e h.1.symm)]
    rw [h1, if_neg e]
    show _ = if 0 ≤ openOf cs w then _ else _
    split
    · have := openOf_lt cs w
      rw [List.getD_eq_getElem?_getD, List.getElem?_append, if_pos (by omega), ← List.getD_eq_getElem?_getD]
    · rfl
theorem openK_set {cs : List Cl} (h : OneOpen cs) {who : Int} (h0 : 0 ≤ openOf cs who) {c : Cl} (hc : c.til ≠ -1) : openK (cs.set (openOf cs who).toNat c) = updK (openK cs) who none := by
  funext w
  unfold openK updK
  rw [openOf_set h h0 hc]
  by_cases e : w = who
  · subst e
    simp
  · rw [if_neg e, if_neg e]
    show _ = if 0 ≤ openOf cs w then _ else _
    by_cases hw : 0 ≤ openOf cs w
    · rw [if_pos hw, if_pos hw]
      have hne : (openOf cs who).toNat ≠ (openOf cs w).toNat := by
        intro he
        obtain ⟨a, a1, a2, a3, a4⟩ := openOf_at h0
        obtain ⟨b, b1, b2, b3, b4⟩ := openOf_at hw
        rw [he, b1] at a1
        injection a1 with a1
        subst a1
        exact e (b2.symm.trans a2)
      rw [List.getD_eq_getElem?_getD, List.getElem?_set, if_neg hne, ← List.getD_eq_getElem?_getD]
    · rw [if_neg hw, if_neg hw]
theorem step_K {ts : List Int} {n : Nat} {cs : List Cl} {x : Ev} (h1 : OneOpen cs) :
    (∃ e, step ts n cs x = .inl e ∧ stepK ts (openK cs) x = none) ∨ (∃ cs', step ts n cs x = .inr cs' ∧ OneOpen cs' ∧ stepK ts (openK cs) x = some (openK cs')) := by
  unfold step stepK
  by_cases hr : ¬ (0 ≤ x.who ∧ x.who ≤ 7) ∨ ¬ (0 ≤ x.thing ∧ x.thing < ts.length)
  · rw [if_pos hr, if_pos hr]; exact .inl ⟨_, rfl, rfl⟩
  · rw [if_neg hr, if_neg hr]
    by_cases hk : x.kind = 0
    · rw [if_pos hk, if_pos hk]
      unfold respS
      rcases openK_ways cs x.who with ⟨a1, a2⟩ | ⟨i, c, b1, b2, b3, b4, b5⟩
      · rw [if_pos a1, a2]; exact .inl ⟨_, rfl, rfl⟩
      · have hg : cs.getD (openOf cs x.who).toNat default = c := by rw [b4, Int.toNat_natCast, List.getD_eq_getElem?_getD, b1]; rfl
        rw [if_neg (by omega), hg, b5]
        simp only
        by_cases hg2 : c.thing = x.thing ∧ givesB c.kind x.val = true
        · rw [if_neg (by rintro (h | h); exact h hg2.1; rw [hg2.2] at h; cases h), if_pos hg2]
          have ht : ({ c with res := x.val, til := (n : Int) } : Cl).til ≠ -1 := by show (n : Int) ≠ -1; omega
          exact .inr ⟨_, rfl, h1.set _ ht, by rw [openK_set h1 (by omega) ht]⟩
        · rw [if_pos (by
            by_cases hq : c.thing = x.thing
            · right
              cases hgv : givesB c.kind x.val
              · rfl
              · exact absurd ⟨hq, hgv⟩ hg2
            · exact .inl hq), if_neg hg2]
          exact .inl ⟨_, rfl, rfl⟩
    · rw [if_neg hk, if_neg hk]
      unfold invS
      by_cases hf : fitsB (ts.getD x.thing.toNat 0) x.kind = true ∧ takesB x.kind x.val = true
      · rw [if_neg (by rintro (h | h); rw [hf.1] at h; cases h; rw [hf.2] at h; cases h)]
        rcases openK_ways cs x.who with ⟨a1, a2⟩ | ⟨i, c, b1, b2, b3, b4, b5⟩
        · rw [if_neg (by omega), a2, if_pos ⟨hf.1, hf.2, rfl⟩]
          exact .inr ⟨_, rfl, h1.snoc a1, by rw [openK_snoc _ _ rfl]⟩
        · rw [if_pos (by omega), b5, if_neg (fun h => by cases h.2.2)]
          exact .inl ⟨_, rfl, rfl⟩
      · rw [if_pos (by
          cases h2 : fitsB (ts.getD x.thing.toNat 0) x.kind
          · exact .inl rfl
          · right
            cases h3 : takesB x.kind x.val
            · rfl
            · exact absurd ⟨h2, h3⟩ hf), if_neg (fun h => hf ⟨h.1, h.2.1⟩)]
        exact .inl ⟨_, rfl, rfl⟩
theorem run_K {ts : List Int} : ∀ (l : List Ev) (n : Nat) (cs : List Cl), OneOpen cs → decide ((run ts n cs l).2.2 = 0) = runK ts (openK cs) l
  | [], n, cs, _ => by simp [run, runK]
  | x :: r, n, cs, h => by
    rw [run, runK]
    rcases step_K (ts := ts) (n := n) (x := x) h with ⟨e, h1, h2⟩ | ⟨cs', h1, h2, h3⟩
    · rw [h1, h2]
      exact decide_eq_false (step_err h1)
    · rw [h1, h3]
      exact run_K r (n + 1) cs' h2
/-- What is waited for of thing q alone. -/
def only (q : Int) (o : Int → Option (Int × Int)) : Int → Option (Int × Int) := fun w => (o w).filter fun tk => tk.1 == q
theorem only_upd (q : Int) (o : Int → Option (Int × Int)) (who : Int) (v : Option (Int × Int)) : only q (updK o who v) = updK (only q o) who (v.filter fun tk => tk.1 == q) := by
  funext w
  unfold only updK
  split <;> rfl
theorem upd_same {o : Int → Option (Int × Int)} {who : Int} {v : Option (Int × Int)} (h : o who = v) : updK o who v = o := by
  funext w
  unfold updK
  split
  · next e => rw [e, h]
  · rfl
theorem stepK_only {ts : List Int} {o o' : Int → Option (Int × Int)} {x : Ev} (q : Int) (h : stepK ts o x = some o') : if x.thing = q then stepK ts (only q o) x = some (only q o') else only q o' = only q o := by
  unfold stepK at h
  split at h
  · cases h
  · rename_i hr
    split at h
    · rename_i hk
      split at h
      · cases h
      · rename_i tk ho
        split at h
        · rename_i hg
          injection h with h
          subst h
          by_cases hq : x.thing = q
          · rw [if_pos hq]
            unfold stepK
            have h2 : only q o x.who = some tk := by
              unfold only
              rw [ho, Option.filter_some, if_pos (by rw [beq_iff_eq, hg.1, hq])]
            rw [if_neg hr, if_pos hk, h2]
            simp only
            rw [if_pos hg, only_upd]
            rfl
          · rw [if_neg hq, only_upd]
            refine upd_same ?_
            unfold only
            rw [ho, Option.filter_some, if_neg (by rw [beq_iff_eq, hg.1]; exact hq)]
            rfl
        · cases h
    · rename_i hk
      split at h
      · rename_i hg
        injection h with h
        subst h
        have h2 : only q o x.who = none := by unfold only; rw [hg.2.2]; rfl
        by_cases hq : x.thing = q
        · rw [if_pos hq]
          unfold stepK
          rw [if_neg hr, if_neg hk, if_pos ⟨hg.1, hg.2.1, h2⟩, only_upd, Option.filter_some, if_pos (by rw [beq_iff_eq]; exact hq)]
        · rw [if_neg hq, only_upd, Option.filter_some, if_neg (by rw [beq_iff_eq]; exact hq)]
          exact upd_same h2
      · cases h
theorem runK_only {ts : List Int} (q : Int) : ∀ (l : List Ev) (o : Int → Option (Int × Int)), runK ts o l = true → runK ts (only q o) (l.filter fun x => x.thing == q) = true
  | [], _, _ => rfl
  | x :: r, o, h => by
    rw [runK] at h
    cases hs : stepK ts o x with
    | none => rw [hs] at h; cases h
    | some o' =>
      rw [hs] at h
      have h2 := stepK_only q hs
      by_cases hq : x.thing = q
      · rw [if_pos hq] at h2
        rw [List.filter_cons_of_pos (by rw [beq_iff_eq]; exact hq), runK, h2]
        exact runK_only q r o' h
      · rw [if_neg hq] at h2
        rw [List.filter_cons_of_neg (by rw [beq_iff_eq]; exact hq), ← h2]
        exact runK_only q r o' h
/-- The part of thing q of a history is one. -/
def partL (l : List Ev) (q : Int) : List Ev := l.filter fun x => x.thing == q
theorem calls_zero {ts : List Int} {l : List Ev} (h : (callsOf ts l).2.2 = 0) : typesB ts = true ∧ l.length ≤ 200 ∧ callsOf ts l = run ts 0 [] l := by
  unfold callsOf at h ⊢
  cases hb : typesB ts
  · rw [hb, if_pos rfl] at h; cases h
  · rw [hb, if_neg (by decide)] at h
    rw [if_neg (by decide)]
    split at h
    · cases h
    · rename_i hl
      exact ⟨rfl, by omega, if_neg hl⟩
theorem part_ok {ts : List Int} {l : List Ev} (h : (callsOf ts l).2.2 = 0) (q : Int) : (callsOf ts (partL l q)).2.2 = 0 := by
  obtain ⟨h1, h2, h3⟩ := calls_zero h
  have hl : (partL l q).length ≤ l.length := List.length_filter_le _ _
  rw [h3] at h
  unfold callsOf
  rw [h1, if_neg (by decide), if_neg (by omega)]
  have h4 := run_K (ts := ts) l 0 [] OneOpen.nil
  rw [decide_eq_true h] at h4
  have h5 := runK_only (ts := ts) q l _ h4.symm
  have e0 : only q (openK []) = openK [] := by
    funext w
    unfold only
    rw [openK_none (cs := []) (who := w) (by show (-1 : Int) < 0; decide)]
    rfl
  rw [e0] at h5
  have h6 := run_K (ts := ts) (partL l q) 0 [] OneOpen.nil
  unfold partL at h6 ⊢
  rw [h5] at h6
  exact of_decide_eq_true h6
end Go.Proofs.YtfgangkpebkicaaDoor
