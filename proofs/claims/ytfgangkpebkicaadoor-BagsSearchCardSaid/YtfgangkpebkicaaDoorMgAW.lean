/-
  Joined by a program out of: BagElems, LinEq, IRd, Ok, LinLives, CloneSt, LinSay.
-/
import Derived.Test.YtfgangkpebkicaaDoorMgAV
import Derived.Sort.OwnSortedInts
import Derived.Test.YtfgangkpebkicaaDoorMgAP
import Derived.Laws.StructEq
import Derived.Deep.QuietTactic
import Derived.BigQuiet
import Derived.Test.YtfgangkpebkicaaDoorProg
import Derived.WalkKit
import Derived.Lib.Hide
import Derived.Test.YtfgangkpebkicaaDoorMgAA
import Derived.Test.YtfgangkpebkicaaDoorMgAB
import Derived.Deep.DeepAppendWide
import Derived.Lib.AppendZeros
import Derived.Lib.SliceRun
import Derived.Test.YtfgangkpebkicaaDoorMgAQ

/-
  Contract of bags.elements: the arguments of the calls in increasing order, each once.
-/
namespace Go.Proofs.YtfgangkpebkicaaDoor
open Go.RowKit Go.Sort
set_option maxRecDepth 20000

theorem le_chain {d : Array Int} {n : Nat} (h : ∀ j, 0 < j → j < n → d[j - 1]! ≤ d[j]!) : ∀ {i j : Nat}, i ≤ j → j < n → d[i]! ≤ d[j]! := by
  intro i j
  induction j with
  | zero => intro h1 _; rw [Nat.le_zero.1 h1]; exact Int.le_refl _
  | succ j ih =>
    intro h1 h2
    by_cases e : i = j + 1
    · rw [e]; exact Int.le_refl _
    · have h3 := ih (by omega) (by omega)
      have h4 := h (j + 1) (by omega) h2
      rw [Nat.add_sub_cancel] at h4
      omega
/-- Of a list in order slices.Compact leaves each number once, in increasing order. -/
theorem compact_inc {zs : List Int} (h : zs.Pairwise (· ≤ ·)) : (Lib.compact zs).Pairwise (· < ·) ∧ (∀ x, x ∈ Lib.compact zs ↔ x ∈ zs) ∧ (Lib.compact zs).length ≤ zs.length := by
  have hget : ∀ j, j < zs.length → zs.toArray[j]! = zs.getD j 0 := fun j hj => by
    rw [getElem!_pos zs.toArray j (by simpa using hj), List.getD_eq_getElem?_getD, List.getElem?_eq_getElem hj]
    rfl
  have hadj : ∀ j, 0 < j → j < zs.length → zs.toArray[j - 1]! ≤ zs.toArray[j]! := fun j h0 hj => by
    rw [hget j hj, hget (j - 1) (by omega), List.getD_eq_getElem?_getD, List.getD_eq_getElem?_getD, List.getElem?_eq_getElem hj, List.getElem?_eq_getElem (by omega : j - 1 < zs.length)]
    exact List.pairwise_iff_getElem.1 h (j - 1) j (by omega) hj (by omega)
  refine ⟨?_, fun x => ?_, ?_⟩
  · unfold Lib.compact Lib.compactUpTo
    rw [List.pairwise_map, List.pairwise_filter]
    refine List.pairwise_lt_range.imp_of_mem fun {i j} hi hj hij _ hk => ?_
    have hj2 := List.mem_range.1 hj
    unfold Lib.keeps at hk
    rw [decide_eq_true_iff] at hk
    have h1 := hk.resolve_left (by omega)
    have h2 := le_chain hadj (show i ≤ j - 1 by omega) (by omega)
    have h3 := hadj j (by omega) hj2
    omega
  · unfold Lib.compact Lib.compactUpTo
    rw [List.mem_map]
    constructor
    · rintro ⟨j, hj, rfl⟩
      have hj2 := List.mem_range.1 (List.mem_filter.1 hj).1
      rw [hget j hj2, List.getD_eq_getElem?_getD, List.getElem?_eq_getElem hj2]
      exact List.getElem_mem _
    · intro hx
      obtain ⟨j, hj, e⟩ := List.getElem_of_mem hx
      have key : ∀ j, j < zs.length → ∃ i, i ≤ j ∧ Lib.keeps zs.toArray i = true ∧ zs.toArray[i]! = zs.toArray[j]! := by
        intro j
        induction j with
        | zero => intro _; exact ⟨0, Nat.le_refl _, by simp [Lib.keeps], rfl⟩
        | succ j ih =>
          intro hj
          cases hk : Lib.keeps zs.toArray (j + 1)
          · obtain ⟨i, h1, h2, h3⟩ := ih (by omega)
            refine ⟨i, by omega, h2, h3.trans ?_⟩
            unfold Lib.keeps at hk
            rw [decide_eq_false_iff_not, Nat.add_sub_cancel] at hk
            exact (Classical.byContradiction fun hn => hk (.inr fun e => hn e.symm))
          · exact ⟨j + 1, Nat.le_refl _, hk, rfl⟩
      obtain ⟨i, h1, h2, h3⟩ := key j hj
      refine ⟨i, List.mem_filter.2 ⟨List.mem_range.2 (by omega), h2⟩, ?_⟩
      rw [h3, hget j hj, List.getD_eq_getElem?_getD, List.getElem?_eq_getElem hj]
      exact e
  · unfold Lib.compact Lib.compactUpTo
    rw [List.length_map]
    have := List.length_filter_le (Lib.keeps zs.toArray) (List.range zs.length)
    rw [List.length_range] at this
    exact this
theorem sorted_le (l : List Int) : (l.mergeSort fun x y => decide (x ≤ y)).Pairwise (· ≤ ·) ∧ (l.mergeSort fun x y => decide (x ≤ y)).length = l.length ∧ ∀ x, x ∈ (l.mergeSort fun x y => decide (x ≤ y)) ↔ x ∈ l := by
  refine ⟨?_, List.length_mergeSort _, fun x => (List.mergeSort_perm _ _).mem_iff⟩
  have h1 := List.pairwise_mergeSort (le := fun x y : Int => decide (x ≤ y)) (fun a b c h1 h2 => by rw [decide_eq_true_iff] at *; omega) (fun a b => by rw [Bool.or_eq_true, decide_eq_true_iff, decide_eq_true_iff]; omega) l
  exact h1.imp fun h => of_decide_eq_true h
theorem flat_ints (l : List Int) : l.flatMap intCs = l.map (Value.int .i64) := by
  induction l with
  | nil => rfl
  | cons a l ih => rw [List.flatMap_cons, ih]; rfl
theorem NOwn.base_mono {w : World} {B B' : Nat} {v : Value} {l : List Int} (h : NOwn w B' v l) (hB : B ≤ B') : NOwn w B v l :=
  ⟨h.1, h.2.elim (fun h => .inl h) fun ⟨g, cap, cur, h1, h2, h3⟩ => .inr ⟨g, cap, cur, h1, Nat.le_trans hB h2, h3⟩⟩
/-- The call's own row of integers, sorted. -/
theorem bsort_any {B : Nat} {v : Value} {l : List Int} {w : World} (h : NOwn w B v l) (hB : B ≤ w.heap.size) (hl : l.length ≤ 65536) :
    Calls Tryd.prog 54 #[v] w fun e w' => e = .returned (.tuple #[]) ∧ NOwn w' B v (l.mergeSort fun x y => decide (x ≤ y)) ∧ Below B w w' := by
  obtain ⟨_, hs2, _⟩ := sorted_le l
  rcases h.2 with ⟨rfl, h0⟩ | ⟨g, cap, cur, rfl, h1, h2, h3, h4, h5, h6⟩
  · have hl0 : l = [] := List.length_eq_zero_iff.1 h0
    subst hl0
    refine (AnyM.slices_Sort_int_none (ρ := srtRenB) laysSortB none 0 w).mono ?_
    rintro e w' ⟨rfl, rfl⟩
    exact ⟨rfl, (by rw [List.mergeSort_nil]; exact NOwn.nil _ _), Below.refl _ _⟩
  · have ht : cur.toList.take l.length = l.map (Value.int .i64) := by rw [← flat_ints, ← h6, Nat.mul_one]
    refine (AnyM.slices_Sort_int (ρ := srtRenB) laysSortB g 0 cap l w (holds_of_blockI h2 ht) (Array.getElem?_eq_some_iff.1 h2).1 (by omega)).mono ?_
    rintro e w' ⟨rfl, n, os, rfl⟩
    refine ⟨rfl, ?_, (Below.refl B w).grown (grownBy_sortedI _) hB (fun k hk => by injection hk with hk; omega)⟩
    have := ownsRow_sortedI (base := B) (n := n) (os := os) (ts := l.mergeSort fun x y => decide (x ≤ y)) hs2 h1 h2 h3 h4 (by rw [h5])
    unfold NOwn
    rw [flat_ints, hs2]
    exact this
/-- The call's own row of integers, compacted. -/
theorem bcompact_any {B : Nat} {v : Value} {l : List Int} {w : World} (h : NOwn w B v l) (hB : B ≤ w.heap.size) (hl : l.length ≤ 65536) (hle : (Lib.compact l).length ≤ l.length) :
    Calls Tryd.prog 55 #[v] w fun e w' => ∃ v', e = .returned v' ∧ NOwn w' B v' (Lib.compact l) ∧ Below B w w' := by
  rcases h.2 with ⟨rfl, h0⟩ | ⟨g, cap, cur, rfl, h1, h2, h3, h4, h5, h6⟩
  · have hl0 : l = [] := List.length_eq_zero_iff.1 h0
    subst hl0
    refine (Any.slices_Compact_int_empty (ρ := cmpRenB) laysCmpB none 0 w).mono ?_
    rintro e w' ⟨rfl, rfl⟩
    exact ⟨_, rfl, NOwn.nil _ _, Below.refl _ _⟩
  · have ht : cur.toList.take l.length = l.map (Value.int .i64) := by rw [← flat_ints, ← h6, Nat.mul_one]
    refine (Any.slices_Compact_int (ρ := cmpRenB) laysCmpB g 0 cap l w (holds_of_blockI h2 ht) (by omega) h3).mono ?_
    rintro e w' ⟨rfl, q, rfl⟩
    have hd : (Lib.compact l ++ List.replicate (l.length - (Lib.compact l).length) (0 : Int)).length = l.length := by simp; omega
    have hg := grownBy_sortedI (w := w) (g := g) (n := q) (os := #[]) (Lib.compact l ++ List.replicate (l.length - (Lib.compact l).length) (0 : Int)).toArray
    have hh := heap_sortedI (n := q) (os := #[]) (Lib.compact l ++ List.replicate (l.length - (Lib.compact l).length) (0 : Int)).toArray h2
    rw [grow_empty] at hg hh
    refine ⟨_, rfl, ?_, (Below.refl B w).grown hg hB (fun k hk => by injection hk with hk; omega)⟩
    refine ⟨by rw [flat_ints]; simp, .inr ⟨g, cap, _, rfl, h1, hh, by omega, h4, by simp [putCells, h5], ?_⟩⟩
    have h7 := take_putCellsI cur (Lib.compact l ++ List.replicate (l.length - (Lib.compact l).length) (0 : Int)) (by rw [hd, h5]; omega)
    rw [flat_ints, Nat.mul_one]
    have h8 := congrArg (List.take (Lib.compact l).length) h7
    rw [List.take_take, Nat.min_eq_left (by rw [hd]; exact hle)] at h8
    rw [h8, List.map_append, List.take_append_of_le_length (by simp), List.take_of_length_le (by simp)]
/-- The arguments in order, each once. -/
def elemL (cs : List Cl) : List Int := Lib.compact ((cs.map (·.arg)).mergeSort fun x y => decide (x ≤ y))
theorem elemL_inc (cs : List Cl) : (elemL cs).Pairwise (· < ·) ∧ (∀ x, x ∈ elemL cs ↔ ∃ c ∈ cs, c.arg = x) ∧ (elemL cs).length ≤ cs.length := by
  obtain ⟨h1, h2, h3⟩ := sorted_le (cs.map (·.arg))
  obtain ⟨h4, h5, h6⟩ := compact_inc h1
  refine ⟨h4, fun x => ?_, ?_⟩
  · unfold elemL
    rw [h5, h3, List.mem_map]
  · unfold elemL
    rw [List.length_map] at h2
    omega
def argsL (cs : List Cl) : List Int := cs.map fun c => c.arg
set_option maxHeartbeats 4000000 in
theorem belems_any {v : Value} {cs : List Cl} {w : World} (h : CRd w w.heap.size v cs) (hc : cs.length ≤ 200) :
    Calls Tryd.prog 29 #[v] w fun e w' => ∃ v', e = .returned v' ∧ NOwn w' w.heap.size v' (elemL cs) ∧ Below w.heap.size w w' := by
  obtain ⟨A, c, rfl, m1, m2⟩ := h.is
  unfold maxLen at m2
  have H := Lib.hid h
  clear h
  obtain ⟨L, hL⟩ : ∃ L, L = cs.length := ⟨_, rfl⟩
  rw [← hL]
  rw [← hL] at m1 hc
  have HL := Lib.hid hL
  clear hL
  go_enter Tryd.func29, Tryd.ntmps29
  go_wp2_with fail
  go_loopw [3, 8] (fun v i wr => ∃ (k : Nat) (v0 : Value), k ≤ L ∧ i = .int .i64 k ∧ v0 = v ∧ NOwn wr w.heap.size v0 (argsL (cs.take k)) ∧ Below w.heap.size w wr) (fun _ i _ => L - (intOf i).toNat)
  case atStart => exact ⟨0, _, by omega, rfl, rfl, NOwn.nil _ _, Below.refl _ _⟩
  case round =>
    obtain ⟨k, v0, hk, rfl, rfl, ho, hb⟩ := hrel
    by_cases hkL : k < L
    · obtain ⟨x, hx⟩ : ∃ x, cs[k]? = some x := ⟨_, List.getElem?_eq_getElem (by rw [← HL.out]; exact hkL)⟩
      have h' := H.out.below hb
      rw [← HL.out] at h'
      obtain ⟨g, o, rfl, -, d0, d1, d2, d3, d4, d5, d6⟩ := h'.cl hx
      have i1 : (0 : Int) ≤ (k : Int) := by omega
      have i2 : (k : Int) < (L : Int) := by omega
      have hst : argsL (cs.take (k + 1)) = argsL (cs.take k) ++ [x.arg] := by
        unfold argsL
        rw [List.take_add_one, hx, Option.toList_some, List.map_append]
        rfl
      have hpl : (argsL (cs.take k)).length ≤ 65536 := by
        unfold argsL
        rw [List.length_map]
        have := List.length_take_le k cs
        omega
      obtain ⟨x0, x1, x2, x3, x4, x5, x6⟩ := x
      have hbs := hb.size
      have HOW := Lib.hid ((ho.alloc (.cells (clCs ⟨x0, x1, x2, x3, x4, x5, x6⟩).toArray 51)).alloc (.cells #[.int .i64 x3] 3))
      have HW := Lib.hid ((hb.alloc hbs (.cells (clCs ⟨x0, x1, x2, x3, x4, x5, x6⟩).toArray 51)).alloc (by simp; omega) (.cells #[.int .i64 x3] 3))
      have HB := Lib.hid (And.intro hst hpl)
      have hnc := new_cells (wr.alloc (.cells (clCs ⟨x0, x1, x2, x3, x4, x5, x6⟩).toArray 51)) 3 [.int .i64 x3] 0 _ rfl
      rw [World.size_alloc] at hnc
      have HNC := Lib.hid hnc
      clear h' hx ho hb hst hpl hnc
      go_wp2_with (at_builtin; refine wpList_app_int rfl (.tmp 12) (.tmp 15) rfl w.heap.size (wr.heap.size + 1) _ (argsL (cs.take k)) x3 rfl rfl HOW.out HNC.out HB.out.2 HW.out.size ?_; intro v' w5 ho5 hb5; have HN := Lib.hid (And.intro ho5 hb5); clear ho5 hb5)
      go_roundw
      case rel =>
        refine ⟨k + 1, _, by omega, by go_num, rfl, ?_, HW.out.trans HN.out.2⟩
        rw [HB.out.1]
        exact HN.out.1
      case measure => simp [intOf]; omega
    · obtain rfl : k = L := by omega
      rw [HL.out, List.take_length] at ho
      unfold argsL at ho
      obtain ⟨h1, h2, h3⟩ := sorted_le (cs.map (·.arg))
      have hml : (cs.map (·.arg)).length ≤ 65536 := by
        rw [List.length_map]
        have := HL.out
        omega
      have HS := Lib.hid (bsort_any ho hb.size hml)
      have HB := Lib.hid (And.intro hb hml)
      have HM := Lib.hid (And.intro h2 (compact_inc h1).2.2)
      clear ho hb hml h1 h2 h3
      go_wp2_with fail
      refine HS.out.mono ?_
      rintro e w2 ⟨rfl, ho2, hb2⟩
      have HC := Lib.hid (bcompact_any ho2 (HB.out.1.trans hb2).size (by rw [HM.out.1]; exact HB.out.2) HM.out.2)
      have H2 := Lib.hid (HB.out.1.trans hb2)
      clear ho2 hb2 HS
      go_wp2_with fail
      refine HC.out.mono ?_
      rintro e w3 ⟨v', rfl, ho3, hb3⟩
      have H3 := Lib.hid (And.intro ho3 (H2.out.trans hb3))
      clear ho3 hb3 HC
      go_wp2_with fail
      go_ret
      exact ⟨_, rfl, H3.out.1, H3.out.2⟩
end Go.Proofs.YtfgangkpebkicaaDoor

/-
  slices.Equal of two lists of steps.
-/
namespace Go.Proofs.YtfgangkpebkicaaDoor
open Go.RowKit
set_option maxRecDepth 20000
theorem LRd.sp {w : World} {B n cap : Nat} {A : Option Addr} {l : List (Int × Int)} (h : SRd w B (.slice A n cap) l) {k : Nat} {x : Int × Int} (hk : l[k]? = some x) : ∃ g o, A = some ⟨g, o, none⟩ ∧ g < B ∧ w.cell? ⟨g, o + k * 2, none⟩ = some (.int .i64 x.1) ∧ w.cell? ⟨g, o + k * 2 + 1, none⟩ = some (.int .i64 x.2) := by
  obtain ⟨g, o, h1, h2, h3⟩ := h.at_ hk
  exact ⟨g, o, h1, h2, by have := h3 0 _ rfl; simpa using this, h3 1 _ rfl⟩
end Go.Proofs.YtfgangkpebkicaaDoor

/-
  Slices that read as a list of integers.
-/
namespace Go.Proofs.YtfgangkpebkicaaDoor
open Go.RowKit
set_option maxRecDepth 20000
/-- The value v is a slice that reads as the integers xs, in a block below B. -/
def IRd (w : World) (B : Nat) (v : Value) (xs : List Int) : Prop :=
  ∃ A cap, v = .slice A xs.length cap ∧ (0 < xs.length → ∃ g, A = some ⟨g, 0, none⟩ ∧ g < B ∧ ∀ j, j < xs.length → w.cell? ⟨g, j, none⟩ = some (.int .i64 (xs.getD j 0)))
theorem IRd.below {w w' : World} {B : Nat} {v : Value} {xs : List Int} (h : IRd w B v xs) (hb : Below B w w') : IRd w' B v xs := by
  obtain ⟨A, cap, hv, h2⟩ := h
  refine ⟨A, cap, hv, fun h0 => ?_⟩
  obtain ⟨g, hA, hg, hc⟩ := h2 h0
  exact ⟨g, hA, hg, fun j hj => (hb.cell (p := ⟨g, j, none⟩) hg).trans (hc j hj)⟩
theorem IRd.mono {w : World} {B B' : Nat} {v : Value} {xs : List Int} (h : IRd w B v xs) (hB : B ≤ B') : IRd w B' v xs := by
  obtain ⟨A, cap, hv, h2⟩ := h
  refine ⟨A, cap, hv, fun h0 => ?_⟩
  obtain ⟨g, hA, hg, hc⟩ := h2 h0
  exact ⟨g, hA, by omega, hc⟩
end Go.Proofs.YtfgangkpebkicaaDoor

/-
  Contract of alibkeep.ok.
-/
namespace Go.Proofs.YtfgangkpebkicaaDoor
open Go.RowKit
set_option maxRecDepth 20000
theorem all_zero {xs : List Int} (h : ∀ j, j < xs.length → xs.getD j 0 = 0) : ∀ x ∈ xs, x = 0 := by
  intro x hx
  obtain ⟨j, hj, rfl⟩ := List.getElem_of_mem hx
  have := h j hj
  rwa [List.getD_eq_getElem?_getD, List.getElem?_eq_getElem hj] at this
theorem not_all_zero {xs : List Int} {k : Nat} (hk : k < xs.length) (h : xs.getD k 0 ≠ 0) : ¬ ∀ x ∈ xs, x = 0 := fun ha => by
  rw [List.getD_eq_getElem?_getD, List.getElem?_eq_getElem hk] at h
  exact h (ha _ (List.getElem_mem hk))
theorem ok_any {B : Nat} {v : Value} {xs : List Int} {w : World} (h : IRd w B v xs) (hn : xs.length ≤ 1000000) :
    Calls Tryd.prog 34 #[v] w fun e w' => e = .returned (.bool (decide (∀ x ∈ xs, x = 0))) ∧ w = w' := by
  obtain ⟨A, c, rfl, k⟩ := h
  have HK := Lib.hid k
  clear k
  go_enter Tryd.func34, Tryd.ntmps34
  go_wp2_with fail
  go_loopw [7] (fun i wr => ∃ k : Nat, k ≤ xs.length ∧ i = .int .i64 k ∧ (∀ j, j < k → xs.getD j 0 = 0) ∧ w = wr) (fun i _ => xs.length - (intOf i).toNat)
  case atStart => exact ⟨0, by omega, rfl, fun j hj => by omega, rfl⟩
  case round =>
    obtain ⟨k, hk, rfl, ha, rfl⟩ := hrel
    have HA := Lib.hid ha
    clear ha
    by_cases hkn : k < xs.length
    · obtain ⟨g, rfl, hg, hc⟩ := HK.out (by omega)
      have d1 : w.cell? ⟨g, k, none⟩ = some (.int .i64 (xs.getD k 0)) := hc k hkn
      clear hc
      have i1 : (0 : Int) ≤ (k : Int) := by omega
      have i2 : (k : Int) < (xs.length : Int) := by omega
      generalize hxk : xs.getD k 0 = x at d1
      have HXK := Lib.hid hxk
      clear hxk
      by_cases hx : x = 0
      · subst hx
        go_wp2_with fail
        go_roundw
        case rel => exact ⟨k + 1, by omega, by go_num, fun j hj => by
          rcases Nat.lt_or_ge j k with h | h
          · exact HA.out j h
          · obtain rfl : j = k := by omega
            exact HXK.out, by trivial⟩
        case measure => simp [intOf]; omega
      · have hz : (x != 0) = true := by rw [bne_iff_ne]; exact hx
        have HX := Lib.hid hx
        clear hx
        go_wp2_with fail
        go_ret
        exact ⟨congrArg (fun b => Ending.returned (.bool b)) (decide_eq_false (not_all_zero hkn (by rw [HXK.out]; exact HX.out))).symm, rfl⟩
    · have hkn' : k = xs.length := by omega
      subst hkn'
      go_wp2_with fail
      go_ret
      exact ⟨congrArg (fun b => Ending.returned (.bool b)) (decide_eq_true (all_zero HA.out)).symm, rfl⟩
/-- A slice that was just written out. -/
theorem IRd.fresh (w : World) (t : TypeId) (xs : List Int) (n : Nat) (hn : n = xs.length) (cs : Array Value) (hcs : cs = (xs.map (Value.int .i64)).toArray) :
    IRd (w.alloc (.cells cs t)) (w.heap.size + 1) (.slice (some ⟨w.heap.size, 0, none⟩) n n) xs := by
  subst hn
  refine ⟨_, _, rfl, fun _ => ⟨_, rfl, by omega, fun j hj => ?_⟩⟩
  rw [cell_of_row _ _ j cs t (0, 0) (heap_alloc_new w _), hcs]
  simp [hj]
theorem ok_zero {B : Nat} {v : Value} {xs : List Int} {w : World} (h : IRd w B v xs) (hz : ∀ x ∈ xs, x = 0) (hn : xs.length ≤ 1000000) :
    Calls Tryd.prog 34 #[v] w fun e w' => e = .returned (.bool true) ∧ w = w' := by
  have := ok_any h hn
  rw [decide_eq_true hz] at this
  exact this
theorem ok_not {B : Nat} {v : Value} {xs : List Int} {w : World} (h : IRd w B v xs) {x : Int} (hx : x ∈ xs) (hz : x ≠ 0) (hn : xs.length ≤ 1000000) :
    Calls Tryd.prog 34 #[v] w fun e w' => e = .returned (.bool false) ∧ w = w' := by
  have := ok_any h hn
  rw [decide_eq_false (fun k => hz (k x hx))] at this
  exact this
end Go.Proofs.YtfgangkpebkicaaDoor

/-
  alibkeep.searchLives answers true.
-/
namespace Go.Proofs.YtfgangkpebkicaaDoor
open Go.RowKit Go.Maps
set_option maxRecDepth 20000
theorem SOwn.sp {w : World} {B : Nat} {v : Value} {S : List (Nat × Int)} (h : SOwn w B v S) : SRd w w.heap.size v (asSteps S) := by
  have h1 : (asSteps S).length = S.length := by unfold asSteps; exact List.length_map _
  have h2 : (asSteps S).flatMap spCs = S.flatMap stCs := by unfold asSteps; rw [List.flatMap_map]
  refine LRd.of_own (base := B) (t := 38) (fun _ => rfl) ?_
  rw [h1, h2]
  exact h
end Go.Proofs.YtfgangkpebkicaaDoor

/-
  append of steps: any slice of such behind a row of one's own; slices.Clone over such.
-/
namespace Go.Proofs.YtfgangkpebkicaaDoor
open Go.RowKit
set_option maxRecDepth 20000
/-- A slice of the call's own (in blocks from B on) that holds these. -/
def TOwn (w : World) (B : Nat) (v : Value) (l : List (Int × Int)) : Prop := w.ownsRow B 38 2 v l.length (l.flatMap spCs)
theorem TOwn.rd {w : World} {B : Nat} {v : Value} {l : List (Int × Int)} (h : TOwn w B v l) : SRd w w.heap.size v l := LRd.of_own (fun _ => rfl) h
theorem TOwn.nil (w : World) (B : Nat) : TOwn w B (.slice none 0 0) [] := World.ownsRow_nil _ _ _ _
theorem TOwn.below {w w' : World} {B : Nat} {v : Value} {l : List (Int × Int)} (h : TOwn w B v l) (hb : Below w.heap.size w w') : TOwn w' B v l := by
  refine ⟨h.1, h.2.elim (fun h => .inl h) fun ⟨g, cap, cur, h1, h2, h3, h4, h5, h6, h7⟩ => .inr ⟨g, cap, cur, h1, h2, ?_, h4, h5, h6, h7⟩⟩
  rw [hb.block g (Array.getElem?_eq_some_iff.1 h3).1]
  exact h3
theorem TOwn.alloc {w : World} {B : Nat} {v : Value} {l : List (Int × Int)} (h : TOwn w B v l) (o : Obj) : TOwn (w.alloc o) B v l := h.below ((Below.refl _ _).alloc (Nat.le_refl _) o)
theorem info_sp : (Tryd.prog.info? 38).map (fun i => (i.zero, i.size, i.bytes)) = some (some (.agg #[.int .i64 0, .int .i64 0]), 2, 16) := by kernel_rfl
theorem run_app_sps {W : World} {base n cap : Nat} {v : Value} {A : Option Addr} {l ys : List (Int × Int)} {B : Nat} (ty : TypeId) (hown : TOwn W base v l) (hr : SRd W B (.slice A n cap) ys) (hlen : ((l.length + ys.length) + (l.length + ys.length) / 4 + 192) * 16 ≤ 281474976710656) (hbase : base ≤ W.heap.size) (hA : A ≠ none) :
    ∃ v' w', (Builtin.append_ #[34, 34] ty #[v, .slice A n cap]).run Tryd.prog W = .ok v' w' ∧ TOwn w' base v' (l ++ ys) ∧ Below base W w' := by
  obtain ⟨i0, hi, hz0, hz1, hz2⟩ := info_of info_sp
  have hl := World.ownsRow.lt hown
  obtain ⟨A', cap', he, m1, m2, hc⟩ := hr
  injection he with e1 e2 e3
  subst e1 e2 e3
  cases A with
  | none => exact absurd rfl hA
  | some a =>
    have hlf : (ys.flatMap spCs).length = ys.length * 2 := flat_len (f := spCs) (s := 2) (fun _ => rfl) ys
    obtain ⟨v', w', hr, h2, h3, _⟩ := run_append_own_wide (P := Tryd.prog) W base 34 ty 38 i0 (.agg #[.int .i64 0, .int .i64 0]) 2 16 Tryd.underlying34 hi hz0 hz1 hz2 rfl (by decide) v l.length (l.flatMap spCs) hown
      a ys.length cap (ys.flatMap spCs) hlf (fun j u hu => by
        have hj := (List.getElem?_eq_some_iff.1 hu).1
        rw [hlf] at hj
        obtain ⟨g, o, ha, _, hcell⟩ := hc (by omega)
        injection ha with ha
        subst ha
        have hx := List.getElem?_eq_getElem (show j / 2 < ys.length by omega)
        have hm : j % 2 < (spCs ys[j / 2]).length := by show j % 2 < 2; omega
        have hf := flat_at (l := ys) (f := spCs) (s := 2) (fun _ => rfl) hx (List.getElem?_eq_getElem hm)
        have e : j / 2 * 2 + j % 2 = j := by omega
        rw [e, hu] at hf
        have := hcell (j / 2) _ hx (j % 2) _ ((List.getElem?_eq_getElem hm).trans hf.symm)
        rw [Addr.add_lit]
        rw [Nat.add_assoc, e] at this
        exact this) (fun u hu => by
        rw [List.mem_flatMap] at hu
        obtain ⟨x, _, hx⟩ := hu
        simp only [List.mem_cons, List.not_mem_nil, or_false] at hx
        rcases hx with rfl | rfl <;> rfl) (by unfold maxLen; omega) hlen hbase
    refine ⟨v', w', hr, ?_, (Below.refl base W).grown h3 hbase (fun k hk => (hl k hk).1)⟩
    unfold TOwn
    rw [List.length_append, List.flatMap_append]
    exact h2
end Go.Proofs.YtfgangkpebkicaaDoor

/-
  What Find and Right answer, in one word each; what that means.
-/
namespace Go.Proofs.YtfgangkpebkicaaDoor
open Go.RowKit
set_option maxRecDepth 20000
/-- Is one found, by a relation? -/
def fndB (p : Nat → Nat → Bool) (ts : List Int) (o : List Cl × Nat × Int) : Bool := decide (searchE o = 0) && (foundO p ts o.1).isSome
/-- What is found. -/
def fndL (p : Nat → Nat → Bool) (ts : List Int) (o : List Cl × Nat × Int) : List (Int × Int) := if searchE o = 0 then asSteps ((foundO p ts o.1).getD []) else []
/-- Is one found? -/
def foundB (ts : List Int) (o : List Cl × Nat × Int) : Bool := decide (searchE o = 0) && (foundO (aheadB o.1) ts o.1).isSome
/-- What is found. -/
def foundL (ts : List Int) (o : List Cl × Nat × Int) : List (Int × Int) := if searchE o = 0 then asSteps ((foundO (aheadB o.1) ts o.1).getD []) else []
theorem SOwn.t {w : World} {B : Nat} {v : Value} {S : List (Nat × Int)} (h : SOwn w B v S) : TOwn w B v (asSteps S) := by
  have h1 : (asSteps S).length = S.length := by unfold asSteps; exact List.length_map _
  have h2 : (asSteps S).flatMap spCs = S.flatMap stCs := by unfold asSteps; rw [List.flatMap_map]
  unfold TOwn
  rw [h1, h2]
  exact h
theorem fnd_of {p : Nat → Nat → Bool} {ts : List Int} {o : List Cl × Nat × Int} {w w' : World} {e : Ending} (h0 : FindPost p w ts o e w') :
    Below w.heap.size w w' ∧ ∃ v, e = .returned (.tuple #[v, .bool (fndB p ts o), .int .i64 (searchE o)]) ∧ TOwn w' w.heap.size v (fndL p ts o) := by
  obtain ⟨hb, h⟩ := h0
  refine ⟨hb, ?_⟩
  rcases h with ⟨h1, rfl⟩ | ⟨h1, ⟨h2, rfl⟩ | ⟨S, v, h2, rfl, h3⟩⟩
  · refine ⟨.slice none 0 0, ?_, ?_⟩
    · unfold fndB; rw [decide_eq_false h1]; rfl
    · unfold fndL; rw [if_neg h1]; exact TOwn.nil _ _
  · refine ⟨.slice none 0 0, ?_, ?_⟩
    · unfold fndB; rw [decide_eq_true h1, h2, h1]; rfl
    · unfold fndL; rw [if_pos h1, h2]; exact TOwn.nil _ _
  · refine ⟨v, ?_, ?_⟩
    · unfold fndB; rw [decide_eq_true h1, h2, h1]; rfl
    · unfold fndL; rw [if_pos h1, h2]; exact h3.t
theorem find_say {tv lv : Value} {ts : List Int} {l : List Ev} {w : World} (ht : NRd w w.heap.size tv ts) (hl : ERd w w.heap.size lv l) (hp : Pow10 w.heap.size w) :
    Calls Tryd.prog 16 #[tv, lv] w fun e w' => Below w.heap.size w w' ∧ ∃ v, e = .returned (.tuple #[v, .bool (foundB ts (callsOf ts l)), .int .i64 (searchE (callsOf ts l))]) ∧ TOwn w' w.heap.size v (foundL ts (callsOf ts l)) := by
  refine (find_any ht hl hp).mono ?_
  rintro e w' h
  exact fnd_of h
theorem search_ok {ts : List Int} {l : List Ev} : searchE (callsOf ts l) = 0 ↔ (callsOf ts l).2.2 = 0 ∧ (callsOf ts l).1.length ≤ 9 := by
  unfold searchE
  by_cases h : (callsOf ts l).2.2 = 0
  · rw [if_neg (fun h2 => h2 h)]
    by_cases h2 : 9 < (callsOf ts l).1.length
    · rw [if_pos h2]
      exact ⟨fun h3 => absurd h3 (by decide), fun h3 => by omega⟩
    · rw [if_neg h2]
      exact ⟨fun _ => ⟨h, by omega⟩, fun _ => rfl⟩
  · rw [if_pos h]
    exact ⟨fun h3 => absurd h3 h, fun h3 => absurd h3.1 h⟩
theorem fndB_iff {p : Nat → Nat → Bool} {ts : List Int} {l : List Ev} : fndB p ts (callsOf ts l) = true ↔ searchE (callsOf ts l) = 0 ∧ ∃ ws, RiteP ts (callsOf ts l).1 p ws := by
  unfold fndB
  rw [Bool.and_eq_true, decide_eq_true_iff]
  constructor
  · rintro ⟨h1, h2⟩
    have := (search_ok.1 h1).2
    exact ⟨h1, (found_rite (by omega) calls_thing).1 (fun e => by rw [e] at h2; cases h2)⟩
  · rintro ⟨h1, h2⟩
    have := (search_ok.1 h1).2
    have h3 := (found_rite (by omega) calls_thing).2 h2
    refine ⟨h1, ?_⟩
    cases hf : foundO p ts (callsOf ts l).1 with
    | none => exact absurd hf h3
    | some S => rfl
theorem fndL_rite {p : Nat → Nat → Bool} {ts : List Int} {l : List Ev} (h : fndB p ts (callsOf ts l) = true) : RiteP ts (callsOf ts l).1 p (fndL p ts (callsOf ts l)) := by
  unfold fndB at h
  rw [Bool.and_eq_true, decide_eq_true_iff] at h
  obtain ⟨h1, h2⟩ := h
  have := (search_ok.1 h1).2
  unfold fndL
  rw [if_pos h1]
  cases hf : foundO p ts (callsOf ts l).1 with
  | none => rw [hf] at h2; cases h2
  | some S => exact (rite_iff (by omega) calls_thing).1 (found_right hf)
theorem fndL_none {p : Nat → Nat → Bool} {ts : List Int} {o : List Cl × Nat × Int} (h : fndB p ts o = false) : fndL p ts o = [] := by
  unfold fndB at h
  unfold fndL
  split
  · rename_i h1
    rw [decide_eq_true h1, Bool.true_and] at h
    cases hf : foundO p ts o.1 with
    | none => rfl
    | some S => rw [hf] at h; cases h
  · rfl
theorem foundB_eq (ts : List Int) (o : List Cl × Nat × Int) : foundB ts o = fndB (aheadB o.1) ts o := rfl
theorem foundL_eq (ts : List Int) (o : List Cl × Nat × Int) : foundL ts o = fndL (aheadB o.1) ts o := rfl
/-- One is found just if there is a right order. -/
theorem foundB_iff {ts : List Int} {l : List Ev} : foundB ts (callsOf ts l) = true ↔ searchE (callsOf ts l) = 0 ∧ ∃ ws, Rite ts (callsOf ts l).1 ws := by
  rw [foundB_eq, fndB_iff]
  exact ⟨fun h => ⟨h.1, h.2.imp fun _ => riteP_iff.1⟩, fun h => ⟨h.1, h.2.imp fun _ => riteP_iff.2⟩⟩
theorem foundL_rite {ts : List Int} {l : List Ev} (h : foundB ts (callsOf ts l) = true) : Rite ts (callsOf ts l).1 (foundL ts (callsOf ts l)) := riteP_iff.1 (fndL_rite h)
theorem foundL_none {ts : List Int} {o : List Cl × Nat × Int} (h : foundB ts o = false) : foundL ts o = [] := fndL_none h
end Go.Proofs.YtfgangkpebkicaaDoor
