/-
  Contract of slices.Repeat over one number, four times.
-/
import Derived.Test.YtebcnhnkpmbgdaaRefSmall
import Derived.Test.YtebcnhnkpmbgdaaAppRow
import Derived.Test.YtebcnhnkpmbgdaaRegionLast
import Derived.Laws.CopyOwn
namespace Go.Proofs.Ytebcnhnkpmbgdaa
open Go.RowKit
set_option maxRecDepth 20000

/-- How far the ones are laid. -/
def RepR (w : World) (G : Nat) (i : Value) (wr : World) : Prop := ((i = .int .i64 1 ∧ Lies wr G 3 [.int .i64 1, .int .i64 0, .int .i64 0, .int .i64 0].toArray) ∨ (i = .int .i64 2 ∧ Lies wr G 3 [.int .i64 1, .int .i64 1, .int .i64 0, .int .i64 0].toArray) ∨ (i = .int .i64 4 ∧ Lies wr G 3 [.int .i64 1, .int .i64 1, .int .i64 1, .int .i64 1].toArray)) ∧ Below w.heap.size w wr
theorem mul64_one_four (w : World) : Calls Try.prog 57 #[.int .u64 1, .int .u64 4] w fun e w' => e = .returned (.tuple #[.int .u64 0, .int .u64 4]) ∧ w = w' := by
  go_enter Try.func57, Try.ntmps57
  go_wp2_with fail
  go_ret2
  exact ⟨rfl, rfl⟩
theorem mul_one_four (w : World) : Calls Try.prog 52 #[.int .u64 1, .int .u64 4] w fun e w' => e = .returned (.tuple #[.int .u64 0, .int .u64 4]) ∧ w = w' := by
  go_enter Try.func52, Try.ntmps52
  go_wp2_with fail
  refine (mul64_one_four w).mono ?_
  rintro e w' ⟨rfl, rfl⟩
  go_wp2_with fail
  go_ret2
  exact ⟨rfl, rfl⟩

theorem info_num : (Try.prog.info? 3).map (fun i => (i.zero, i.size, i.bytes)) = some (some (.int .i64 0), 1, 8) := by kernel_rfl
theorem num_one : (Try.prog.info? 3).map (·.size) = some 1 := by kernel_rfl
theorem made_four (w : World) : (Instr.makeSlice 23 (.int .i64 4) (.int .i64 4)).run Try.prog w = .ok (.slice (some ⟨w.heap.size, 0, none⟩) 4 4) (w.alloc (.cells #[.int .i64 0, .int .i64 0, .int .i64 0, .int .i64 0] 3)) := by
  obtain ⟨i0, hi, hz0, hz1, hz2⟩ := info_of info_num
  rw [run_make w 23 3 i0 (.int .i64 0) Try.underlying23 hi hz0 .i64 .i64 4 4 (by omega) (by omega) (by rw [hz2]; omega) (by omega), hz1]
  kernel_rfl

/-- The first n of four are 1. -/
abbrev onesL : Nat → List Value
  | 1 => [.int .i64 1, .int .i64 0, .int .i64 0, .int .i64 0]
  | 2 => [.int .i64 1, .int .i64 1, .int .i64 0, .int .i64 0]
  | _ => [.int .i64 1, .int .i64 1, .int .i64 1, .int .i64 1]

theorem copy_one {w : World} {g : Nat} {u : Value} (h : w.cell? ⟨g, 0, none⟩ = some u) : ∀ j v, [u][j]? = some v → w.cell? ((⟨g, 0, none⟩ : Addr).add j) = some v := by
  intro j v hj
  match j, hj with
  | 0, hj => injection hj with hj; subst hj; exact h
  | j + 1, hj => simp at hj
theorem copy_two {w : World} {g : Nat} {u v : Value} (h : w.cell? ⟨g, 0, none⟩ = some u) (h2 : w.cell? ⟨g, 1, none⟩ = some v) : ∀ j x, [u, v][j]? = some x → w.cell? ((⟨g, 0, none⟩ : Addr).add j) = some x := by
  intro j x hj
  match j, hj with
  | 0, hj => injection hj with hj; subst hj; exact h
  | 1, hj => injection hj with hj; subst hj; exact h2
  | j + 2, hj => simp at hj
set_option maxHeartbeats 4000000 in
theorem repeat_four (g : Nat) (w : World) (h : w.cell? ⟨g, 0, none⟩ = some (.int .i64 1)) :
    Calls Try.prog 47 #[.slice (some ⟨g, 0, none⟩) 1 1, .int .i64 4] w fun e w' => ∃ G, e = .returned (.slice (some ⟨G, 0, none⟩) 4 4) ∧ w.heap.size ≤ G ∧ Lies w' G 3 (onesL 4).toArray ∧ Below w.heap.size w w' := by
  have hg : g < w.heap.size := World.block_lt_of_cell? w ⟨g, 0, none⟩ h
  have hmk := made_four w
  have hw2 : IntKind.i64.wrap 2 = 2 := by decide
  have hw4 : IntKind.i64.wrap 4 = 4 := by decide
  go_enter Try.func47, Try.ntmps47
  go_wp2_with fail
  refine (mul_one_four w).mono ?_
  rintro e w' ⟨rfl, rfl⟩
  have HG := Lib.hid (And.intro (Lies.new w 3 #[.int .i64 0, .int .i64 0, .int .i64 0, .int .i64 0]) ((Below.refl w.heap.size w).alloc (Nat.le_refl _) (.cells #[.int .i64 0, .int .i64 0, .int .i64 0, .int .i64 0] 3)))
  have HC := Lib.hid (show (w.alloc (.cells #[.int .i64 0, .int .i64 0, .int .i64 0, .int .i64 0] 3)).cell? ⟨g, 0, none⟩ = some (.int .i64 1) from (HG.out.2.cell (p := ⟨g, 0, none⟩) hg).trans h)
  go_wp2_with (refine wpList_copy_splice rfl (.tmp 31) (.tmp 32) 23 23 rfl 3 Try.underlying23 num_one _ _ 4 4 1 1 rfl rfl w.heap.size 0 [.int .i64 0, .int .i64 0, .int .i64 0, .int .i64 0] 3 HG.out.1 [.int .i64 1] rfl (fun _ => ⟨rfl, _, rfl, copy_one HC.out⟩) (by decide) (by decide) w.heap.size w HG.out.2 (Nat.le_refl _) ?_; intro w2 hl2 hb2)
  obtain ⟨G, hG⟩ : ∃ G, G = w.heap.size := ⟨_, rfl⟩
  have HGw := Lib.hid (show w.heap.size ≤ G by omega)
  rw [← hG] at hl2 ⊢
  clear hG HG HC hmk
  have hl3 : Lies w2 G 3 (onesL 1).toArray := hl2
  clear hl2
  go_loopw [8] (RepR w G) (fun i _ => 4 - (intOf i).toNat)
  case atStart => exact ⟨.inl ⟨rfl, hl3⟩, hb2⟩
  case round =>
    clear hl3 hb2
    obtain ⟨hn, hb⟩ := hrel
    rcases hn with ⟨rfl, hl⟩ | ⟨rfl, hl⟩ | ⟨rfl, hl⟩
    · skip
      have hcell0 := Lies.cell hl 0
      have hcell1 := Lies.cell hl 1
      have HL := Lib.hid hl
      have HB := Lib.hid hb
      have HCS := Lib.hid (copy_one (u := .int .i64 1) (Lies.cell hl 0))
      clear hl hb hcell0 hcell1
      go_wp2_with fail
      refine wp_region_held_drew (S := fun _ => True) (by kernel_rfl) trivial (fun hHeld => ?_)
      change wpAnyH _ _ _ _ _ 10 _ _ _
      iterate 7 (
        refine takeNext 10 38 (oi := _) (v := ?_) rfl rfl (by kernel_rfl) (by kernel_rfl) (by kernel_rfl) (fun _ _ _ h => h) (by rfl) ?_ trivial ?_
        rotate_left
        · (intro w _; go_simp; try with_reducible rfl)
        simp only [Act.put, List.setIfInBounds_toArray, List.set_cons_zero, List.set_cons_succ, Nat.reduceAdd, Nat.reduceSub])
      refine wpAnyH_ready (rs := [7]) (by kernel_rfl) (by simp) ?_
      refine AllReadyH.cons (o := ⟨some 45, _, _, _, _, _⟩) rfl (fun K hK => ?_) AllReadyH.nil
      refine step_copy_splice (by rfl) (.tmp 41) (.tmp 44) 23 23 (by rfl) 3 Try.underlying23 num_one _ _ 3 3 1 4 (by rfl) (by rfl) G 1 (onesL 1) 3 HL.out [.int .i64 1] (by rfl) (fun _ => ⟨by rfl, _, by rfl, HCS.out⟩) (by decide) (by decide) w.heap.size w HB.out.drew HGw.out ?_
      intro w5 hl5 hb5
      refine hK.out _ _ trivial (fun _ => ?_)
      clear hK K
      simp only [Act.put, List.setIfInBounds_toArray, List.set_cons_zero, List.set_cons_succ]
      iterate 1 (
        refine takeNext 10 38 (oi := _) (v := ?_) rfl rfl (by kernel_rfl) (by kernel_rfl) (by kernel_rfl) (fun _ _ _ h => h) (by rfl) ?_ trivial ?_
        rotate_left
        · (intro w _; go_simp; try with_reducible rfl)
        simp only [Act.put, List.setIfInBounds_toArray, List.set_cons_zero, List.set_cons_succ, Nat.reduceAdd, Nat.reduceSub])
      refine takeAt 9 8 (oi := _) (v := ?_) rfl rfl (by kernel_rfl) (by kernel_rfl) (by kernel_rfl) (fun _ _ _ h => h) (by rfl) ?_ trivial ?_
      rotate_left
      · (intro w _; go_simp; try with_reducible rfl)
      simp only [Act.put, List.setIfInBounds_toArray, List.set_cons_zero, List.set_cons_succ]
      refine wpAnyH_done (by kernel_rfl) ?_ _
      go_wp2_with fail
      go_roundw
      case rel => exact ⟨.inr (.inl ⟨rfl, hl5⟩), hb5⟩
      case measure => simp [intOf]
    · skip
      have hcell0 := Lies.cell hl 0
      have hcell1 := Lies.cell hl 1
      have HL := Lib.hid hl
      have HB := Lib.hid hb
      have HCS := Lib.hid (copy_two (u := .int .i64 1) (v := .int .i64 1) (Lies.cell hl 0) (Lies.cell hl 1))
      clear hl hb hcell0 hcell1
      go_wp2_with fail
      refine wp_region_held_drew (S := fun _ => True) (by kernel_rfl) trivial (fun hHeld => ?_)
      change wpAnyH _ _ _ _ _ 10 _ _ _
      iterate 7 (
        refine takeNext 10 38 (oi := _) (v := ?_) rfl rfl (by kernel_rfl) (by kernel_rfl) (by kernel_rfl) (fun _ _ _ h => h) (by rfl) ?_ trivial ?_
        rotate_left
        · (intro w _; go_simp; try with_reducible rfl)
        simp only [Act.put, List.setIfInBounds_toArray, List.set_cons_zero, List.set_cons_succ, Nat.reduceAdd, Nat.reduceSub])
      refine wpAnyH_ready (rs := [7]) (by kernel_rfl) (by simp) ?_
      refine AllReadyH.cons (o := ⟨some 45, _, _, _, _, _⟩) rfl (fun K hK => ?_) AllReadyH.nil
      refine step_copy_splice (by rfl) (.tmp 41) (.tmp 44) 23 23 (by rfl) 3 Try.underlying23 num_one _ _ 2 2 2 4 (by rfl) (by rfl) G 2 (onesL 2) 3 HL.out [.int .i64 1, .int .i64 1] (by rfl) (fun _ => ⟨by rfl, _, by rfl, HCS.out⟩) (by decide) (by decide) w.heap.size w HB.out.drew HGw.out ?_
      intro w5 hl5 hb5
      refine hK.out _ _ trivial (fun _ => ?_)
      clear hK K
      simp only [Act.put, List.setIfInBounds_toArray, List.set_cons_zero, List.set_cons_succ]
      iterate 1 (
        refine takeNext 10 38 (oi := _) (v := ?_) rfl rfl (by kernel_rfl) (by kernel_rfl) (by kernel_rfl) (fun _ _ _ h => h) (by rfl) ?_ trivial ?_
        rotate_left
        · (intro w _; go_simp; try with_reducible rfl)
        simp only [Act.put, List.setIfInBounds_toArray, List.set_cons_zero, List.set_cons_succ, Nat.reduceAdd, Nat.reduceSub])
      refine takeAt 9 8 (oi := _) (v := ?_) rfl rfl (by kernel_rfl) (by kernel_rfl) (by kernel_rfl) (fun _ _ _ h => h) (by rfl) ?_ trivial ?_
      rotate_left
      · (intro w _; go_simp; try with_reducible rfl)
      simp only [Act.put, List.setIfInBounds_toArray, List.set_cons_zero, List.set_cons_succ]
      refine wpAnyH_done (by kernel_rfl) ?_ _
      go_wp2_with fail
      go_roundw
      case rel => exact ⟨.inr (.inr ⟨rfl, hl5⟩), hb5⟩
      case measure => simp [intOf]
    · have HL := Lib.hid (And.intro hl hb)
      clear hl hb
      go_wp2_with fail
      go_ret
      exact ⟨G, rfl, HGw.out, HL.out⟩
end Go.Proofs.Ytebcnhnkpmbgdaa
