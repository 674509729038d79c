/-
  Joined by a program out of: ITab, AheadR, Contains.
-/
import Derived.Test.YtfpnklcjkjfniaaDoorMgAA
import Derived.Deep.AppendLies
import Derived.Test.YtfpnklcjkjfniaaDoorMgAE
import Derived.Deep.QuietTactic
import Derived.BigQuiet
import Derived.Lib.Hide
import Derived.Test.YtfpnklcjkjfniaaDoorMgAU
import Derived.WalkKit

/-
  A table of integers in a block of the call's own; how it is made.
-/
namespace Go.Proofs.YtfpnklcjkjfniaaDoor
open Go.RowKit
set_option maxRecDepth 20000

/-- The cells of a table of N integers. -/
def tabCs (N : Nat) (f : Nat → Int) : Array Value := (Array.range N).map fun i => .int .i64 (f i)
def ITab (w : World) (g N : Nat) (f : Nat → Int) : Prop := Lies w g 3 (tabCs N f)

theorem tabCs_get (N : Nat) (f : Nat → Int) (i : Nat) (h : i < N) : (tabCs N f)[i]? = some (.int .i64 (f i)) := by
  simp [tabCs, h]
theorem tabCs_set (N : Nat) (f : Nat → Int) (i : Nat) (x : Int) : (tabCs N f).setIfInBounds i (.int .i64 x) = tabCs N (fun j => if j = i then x else f j) := by
  apply Array.ext_getElem?
  intro j
  rw [Array.getElem?_setIfInBounds]
  by_cases h : i = j
  · subst h
    by_cases hi : i < N <;> simp [tabCs, hi]
  · rw [if_neg h]
    by_cases hj : j < N <;> simp [tabCs, hj, show ¬ j = i from fun e => h e.symm]

section
variable {w : World} {g N : Nat} {f : Nat → Int}
theorem ITab.cell (h : ITab w g N f) {i : Nat} (hi : i < N) : w.cell? ⟨g, i, none⟩ = some (.int .i64 (f i)) := by
  rw [Lies.cell h, tabCs_get N f i hi]
theorem ITab.free (h : ITab w g N f) (i : Nat) : w.frozen? ⟨g, i, none⟩ = false := Lies.frozen h i
theorem ITab.set_ (h : ITab w g N f) (i : Nat) (x : Int) : ITab (w.setCell ⟨g, i, none⟩ (.int .i64 x)) g N (fun j => if j = i then x else f j) :=
  Lies.cast (Lies.set_ h i (.int .i64 x)) (tabCs_set N f i x)
theorem ITab.congr {f' : Nat → Int} (h : ITab w g N f) (e : ∀ i, i < N → f i = f' i) : ITab w g N f' := by
  refine Lies.cast h ?_
  apply Array.ext
  · simp [tabCs]
  · intro j h1 h2
    have : j < N := by simpa [tabCs] using h1
    simp [tabCs, e j this]
end

theorem info_intT : (Tryd.prog.info? 3).map (fun i => (i.zero, i.size, i.bytes)) = some (some (.int .i64 0), 1, 8) := by kernel_rfl

theorem made_ints (N : Nat) (l : Int) (hl : l = N) (hN : N ≤ 65536) (w : World) :
    (Instr.makeSlice 22 (.int .i64 l) (.int .i64 l)).run Tryd.prog w = .ok (.slice (some ⟨w.heap.size, 0, none⟩) N N) (w.alloc (.cells (tabCs N fun _ => 0) 3)) := by
  obtain ⟨i0, hi, hz0, hz1, hz2⟩ := info_parts info_intT
  subst hl
  rw [run_make w 22 3 i0 (.int .i64 0) Tryd.underlying22 hi hz0 .i64 .i64 N N (by omega) (by omega) (by rw [hz2]; omega) (by omega), hz1]
  simp only [Int.toNat_natCast, Nat.mul_one]
  congr 3
  apply Array.ext
  · simp [tabCs, madeCells]
  · intro j h1 h2
    simp [tabCs, madeCells, Value.cells, Nat.mod_one]
end Go.Proofs.YtfpnklcjkjfniaaDoor

/-
  Contract of alibref.Ahead.
-/
namespace Go.Proofs.YtfpnklcjkjfniaaDoor
open Go.RowKit
set_option maxRecDepth 20000

theorem ahead_val (s j : Nat) : (((s : Int) / 2 ^ ((j : Int).toNat)).tmod 2 == 1) = s.testBit j := by
  have e : (s : Int) / 2 ^ ((j : Int).toNat) = ((s / 2 ^ j : Nat) : Int) := by simp
  rw [e, Nat.testBit, Nat.shiftRight_eq_div_pow, Nat.and_comm, Nat.and_one_is_mod, Bool.eq_iff_iff, beq_iff_eq, bne_iff_ne]
  have : (((s / 2 ^ j : Nat) : Int)).tmod 2 = ((s / 2 ^ j % 2 : Nat) : Int) := rfl
  rw [this]
  omega

theorem ahead_any (n : Int) (c : Nat → Nat) (i j : Nat) (w : World) (hi : i < 12) (hj : j ≤ 15) :
    Calls Tryd.prog 48 #[relV n c, .int .i64 i, .int .i64 j] w fun e w' => e = .returned (.bool ((c i).testBit j)) ∧ Below w.heap.size w w' := by
  have hb := (Below.refl w.heap.size w).alloc (Nat.le_refl _) (.cells (relCs n c) 36)
  have hR : RelB (w.alloc (.cells (relCs n c) 36)) w.heap.size n c := Lies.new _ _ _
  have hk := hR.row' (k := i) hi
  have HB := Lib.hid (And.intro hb hR)
  clear hb hR
  go_enter Tryd.func48, Tryd.ntmps48
  go_wp2_with fail
  go_ret
  exact ⟨ret_bool (by rw [← ahead_val]; simp), HB.out.1⟩
theorem ahead_yes (n : Int) (c : Nat → Nat) (i j : Nat) (w : World) (hi : i < 12) (hj : j ≤ 15) (h : (c i).testBit j = true) :
    Calls Tryd.prog 48 #[relV n c, .int .i64 i, .int .i64 j] w fun e w' => e = .returned (.bool true) ∧ Below w.heap.size w w' := h ▸ ahead_any n c i j w hi hj
theorem ahead_no (n : Int) (c : Nat → Nat) (i j : Nat) (w : World) (hi : i < 12) (hj : j ≤ 15) (h : (c i).testBit j = false) :
    Calls Tryd.prog 48 #[relV n c, .int .i64 i, .int .i64 j] w fun e w' => e = .returned (.bool false) ∧ Below w.heap.size w w' := h ▸ ahead_any n c i j w hi hj
end Go.Proofs.YtfpnklcjkjfniaaDoor

/-
  Contracts of slices.Index and slices.Contains over integers.
-/
namespace Go.Proofs.YtfpnklcjkjfniaaDoor
open Go.RowKit
set_option maxRecDepth 20000

theorem index_any {B : Nat} {v : Value} {xs : List Int} {w : World} (h : IRd w B v xs) (hn : xs.length ≤ 1000000) (x : Int) :
    Calls Tryd.prog 81 #[v, .int .i64 x] w fun e w' => ∃ r : Int, e = .returned (.int .i64 r) ∧ decide (0 ≤ r) = decide (x ∈ xs) ∧ Below w.heap.size w w' := by
  obtain ⟨A, cap, rfl, hc⟩ := h
  obtain ⟨L, hL⟩ : ∃ L, L = xs.length := ⟨_, rfl⟩
  rw [← hL] at hc hn ⊢
  have HC := Lib.hid (And.intro hc hL)
  clear hc hL
  go_enter Tryd.func81, Tryd.ntmps81
  go_wp2_with fail
  go_loopw [8] (fun i wr => ∃ k : Nat, k ≤ L ∧ i = .int .i64 k ∧ (∀ j, j < k → xs.getD j 0 ≠ x) ∧ Below w.heap.size w wr) (fun i _ => L - (intOf i).toNat)
  case atStart => exact ⟨0, by omega, rfl, fun j hj => by omega, Below.refl _ _⟩
  case round =>
    obtain ⟨k, hk, rfl, ha, hb⟩ := hrel
    by_cases hkn : k < L
    · obtain ⟨g, rfl, hg, hcell⟩ := HC.out.1 (by omega)
      have hgw : g < w.heap.size := World.block_lt_of_cell? w ⟨g, 0, none⟩ (hcell 0 (by omega))
      have d1 : wr.cell? ⟨g, k, none⟩ = some (.int .i64 (xs.getD k 0)) := (hb.cell (p := ⟨g, k, none⟩) hgw).trans (hcell k hkn)
      have i1 : (0 : Int) ≤ (k : Int) := by omega
      have i2 : (k : Int) < (L : Int) := by omega
      generalize hy : xs.getD k 0 = y at d1
      have HA := Lib.hid (And.intro ha (And.intro hb hy))
      clear ha hb hy hcell
      by_cases hxy : x = y
      · have hz : (x == y) = true := by rw [beq_iff_eq]; exact hxy
        have HX := Lib.hid hxy
        clear hxy
        go_wp2_with fail
        go_ret
        refine ⟨k, rfl, ?_, HA.out.2.1⟩
        rw [decide_eq_true i1]
        refine (decide_eq_true ?_).symm
        have hlt : k < xs.length := by rw [← HC.out.2]; exact hkn
        have : xs.getD k 0 ∈ xs := by simp [List.getD, hlt]
        rw [HA.out.2.2, ← HX.out] at this
        exact this
      · have hz : (x == y) = false := by rw [beq_eq_false_iff_ne]; exact hxy
        have HX := Lib.hid hxy
        clear hxy
        go_wp2_with fail
        go_roundw
        case rel => exact ⟨k + 1, by omega, by go_num, fun j hj => by
          rcases Nat.lt_or_ge j k with h | h
          · exact HA.out.1 j h
          · obtain rfl : j = k := by omega
            rw [HA.out.2.2]
            exact fun e => HX.out e.symm, HA.out.2.1⟩
        case measure => simp [intOf]; omega
    · obtain rfl : k = L := by omega
      have HA := Lib.hid (And.intro ha hb)
      clear ha hb
      go_wp2_with fail
      go_ret
      refine ⟨-1, rfl, ?_, HA.out.2⟩
      rw [decide_eq_false (show ¬ (0 : Int) ≤ -1 by omega)]
      refine (decide_eq_false fun hm => ?_).symm
      obtain ⟨j, hj, e⟩ := List.getElem_of_mem hm
      exact HA.out.1 j (by rw [HC.out.2]; exact hj) (by simp [List.getD, hj, e])

theorem contains_any {B : Nat} {v : Value} {xs : List Int} {w : World} (h : IRd w B v xs) (hn : xs.length ≤ 1000000) (x : Int) :
    Calls Tryd.prog 60 #[v, .int .i64 x] w fun e w' => e = .returned (.bool (decide (x ∈ xs))) ∧ Below w.heap.size w w' := by
  have hi := index_any h hn x
  clear h
  go_enter Tryd.func60, Tryd.ntmps60
  go_wp2_with fail
  refine hi.mono ?_
  rintro e w1 ⟨r, rfl, hr, hb⟩
  have HB := Lib.hid (And.intro hb hr)
  clear hi hb hr
  by_cases h0 : (0 : Int) ≤ r
  · go_wp2_with fail
    go_ret
    exact ⟨ret_bool (by rw [← HB.out.2] <;> simp [h0]), HB.out.1⟩
  · go_wp2_with fail
    go_ret
    exact ⟨ret_bool (by rw [← HB.out.2] <;> simp [h0]), HB.out.1⟩
end Go.Proofs.YtfpnklcjkjfniaaDoor
