/-
  Joined by a program out of: LinEq, IRd, Ok, LinLives, CloneSt, Orderly.
-/
import Derived.Test.YtecpjeililiafaaDoorMgAV
import Derived.Laws.StructEq
import Derived.Deep.QuietTactic
import Derived.BigQuiet
import Derived.Test.YtecpjeililiafaaDoorProg
import Derived.WalkKit
import Derived.Lib.Hide
import Derived.Test.YtecpjeililiafaaDoorMgAE
import Derived.Deep.DeepAppendWide
import Derived.Lib.AppendZeros
import Derived.Lib.SliceRun
import Derived.Test.YtecpjeililiafaaDoorMgAK

/-
  slices.Equal of two lists of steps.
-/
namespace Go.Proofs.YtecpjeililiafaaDoor
open Go.RowKit
set_option maxRecDepth 20000

theorem take_eqS {α : Type} {xs ys : List α} (hl : xs.length = ys.length) (h : ∀ (j : Nat) (x y : α), xs[j]? = some x → ys[j]? = some y → x = y) : xs = ys := by
  apply List.ext_getElem hl
  intro j h1 h2
  exact h j _ _ (List.getElem?_eq_getElem h1) (List.getElem?_eq_getElem h2)
theorem LRd.sp {w : World} {B n cap : Nat} {A : Option Addr} {l : List (Int × Int)} (h : SRd w B (.slice A n cap) l) {k : Nat} {x : Int × Int} (hk : l[k]? = some x) : ∃ g o, A = some ⟨g, o, none⟩ ∧ g < B ∧ w.cell? ⟨g, o + k * 2, none⟩ = some (.int .i64 x.1) ∧ w.cell? ⟨g, o + k * 2 + 1, none⟩ = some (.int .i64 x.2) := by
  obtain ⟨g, o, h1, h2, h3⟩ := h.at_ hk
  exact ⟨g, o, h1, h2, by have := h3 0 _ rfl; simpa using this, h3 1 _ rfl⟩
/-- The first field in which two steps differ. -/
theorem st_ne (x0 x1 y0 y1 : Int) (h : (x0, x1) ≠ (y0, y1)) : (x0 == y0) = false ∨ (x0 = y0 ∧ (x1 == y1) = false) := by
  simp only [beq_eq_false_iff_ne]
  by_cases h0 : x0 = y0
  · by_cases h1 : x1 = y1
    · exact absurd (by rw [h0, h1]) h
    · simp [*]
  · simp [*]

set_option maxHeartbeats 2000000 in
theorem eqSt_any {B1 B2 : Nat} {v1 v2 : Value} {xs ys : List (Int × Int)} {w : World} (h1 : SRd w B1 v1 xs) (h2 : SRd w B2 v2 ys) :
    Calls Tryd.prog 27 #[v1, v2] w fun e w' => e = .returned (.bool (decide (xs = ys))) ∧ Below w.heap.size w w' := by
  obtain ⟨A1, c1, rfl, m1, m2⟩ := h1.is
  obtain ⟨A2, c2, rfl, m3, m4⟩ := h2.is
  unfold maxLen at m2 m4
  have H1 := Lib.hid h1
  have H2 := Lib.hid h2
  clear h1 h2
  obtain ⟨n, hn⟩ : ∃ n, n = xs.length := ⟨_, rfl⟩
  obtain ⟨n', hn'⟩ : ∃ n, n = ys.length := ⟨_, rfl⟩
  rw [← hn, ← hn']
  rw [← hn] at m1
  rw [← hn'] at m3
  have HN := Lib.hid hn
  have HN' := Lib.hid hn'
  clear hn hn'
  by_cases hl : n = n'
  · subst hl
    go_enter Tryd.func27, Tryd.ntmps27
    go_wp2_with fail
    go_loopw [13] (fun i wr => ∃ k : Nat, k ≤ n ∧ i = .int .i64 k ∧ (∀ (j : Nat) (x y : Int × Int), j < k → xs[j]? = some x → ys[j]? = some y → x = y) ∧ ∃ nq, wr = w.drewN nq) (fun i _ => n - (intOf i).toNat)
    case atStart => exact ⟨0, by omega, rfl, fun j x y hj => by omega, 0, rfl⟩
    case round =>
      obtain ⟨k, hk, rfl, ha, nq, rfl⟩ := hrel
      have HA := Lib.hid ha
      clear ha
      by_cases hkn : k < n
      · obtain ⟨x, hx⟩ : ∃ x, xs[k]? = some x := ⟨_, List.getElem?_eq_getElem (by rw [← HN.out]; exact hkn)⟩
        obtain ⟨y, hy⟩ : ∃ y, ys[k]? = some y := ⟨_, List.getElem?_eq_getElem (by rw [← HN'.out]; exact hkn)⟩
        have h1' := H1.out
        have h2' := H2.out
        rw [← HN.out] at h1'
        rw [← HN'.out] at h2'
        obtain ⟨g1, o1, rfl, -, b0, b1⟩ := h1'.sp hx
        obtain ⟨g2, o2, rfl, -, d0, d1⟩ := h2'.sp hy
        have HX := Lib.hid (And.intro hx hy)
        clear h1' h2' hx hy
        have i1 : (0 : Int) ≤ (k : Int) := by omega
        have i2 : (k : Int) < (n : Int) := by omega
        by_cases hxy : x = y
        · have HXY := Lib.hid hxy
          subst hxy
          obtain ⟨x0, x1⟩ := x
          go_wp2_with fail
          go_quiet (fail)
          go_wp2_with fail
          go_roundw
          case rel => exact ⟨k + 1, by omega, by go_num, fun j a b hj ha hb => by
            rcases Nat.lt_or_ge j k with h | h
            · exact HA.out j a b h ha hb
            · obtain rfl : j = k := by omega
              rw [HX.out.1] at ha
              rw [HX.out.2] at hb
              exact Option.some.inj (ha.symm.trans hb), _, rfl⟩
          case measure => simp [intOf]; omega
        · obtain ⟨x0, x1⟩ := x
          obtain ⟨y0, y1⟩ := y
          simp only at b0 b1 d0 d1
          have hz := st_ne _ _ _ _ hxy
          have HXY := Lib.hid hxy
          clear hxy
          rcases hz with hz | ⟨rfl, hz⟩
          all_goals (
            go_wp2_with fail
            go_quiet (fail)
            go_wp2_with fail
            go_ret
            exact ⟨ret_bool (decide_eq_false (fun e => HXY.out (by
              have h1 := HX.out.1
              rw [e, HX.out.2] at h1
              exact (Option.some.inj h1).symm))).symm, belowN (belowN (Below.refl _ _) _) _⟩)
      · obtain rfl : k = n := by omega
        go_wp2_with fail
        go_ret
        exact ⟨ret_bool (decide_eq_true (take_eqS (HN.out.symm.trans HN'.out) (fun j x y hx hy => HA.out j x y (by rw [HN.out]; exact (List.getElem?_eq_some_iff.1 hx).1) hx hy))).symm, belowN (Below.refl _ _) _⟩
  · have hz : ((n : Int) != (n' : Int)) = true := by rw [bne_iff_ne]; omega
    have hne : decide (xs = ys) = false := decide_eq_false (fun e => hl (by rw [HN.out, HN'.out, e]))
    rw [hne]
    clear hne hl
    go_enter Tryd.func27, Tryd.ntmps27
    go_wp2_with fail
    go_ret
    exact ⟨rfl, Below.refl _ _⟩
end Go.Proofs.YtecpjeililiafaaDoor

/-
  Slices that read as a list of integers.
-/
namespace Go.Proofs.YtecpjeililiafaaDoor
open Go.RowKit
set_option maxRecDepth 20000

/-- The value v is a slice that reads as the integers xs, in a block below B. -/
def IRd (w : World) (B : Nat) (v : Value) (xs : List Int) : Prop :=
  ∃ A cap, v = .slice A xs.length cap ∧ (0 < xs.length → ∃ g, A = some ⟨g, 0, none⟩ ∧ g < B ∧ ∀ j, j < xs.length → w.cell? ⟨g, j, none⟩ = some (.int .i64 (xs.getD j 0)))
theorem IRd.below {w w' : World} {B : Nat} {v : Value} {xs : List Int} (h : IRd w B v xs) (hb : Below B w w') : IRd w' B v xs := by
  obtain ⟨A, cap, hv, h2⟩ := h
  refine ⟨A, cap, hv, fun h0 => ?_⟩
  obtain ⟨g, hA, hg, hc⟩ := h2 h0
  exact ⟨g, hA, hg, fun j hj => (hb.cell (p := ⟨g, j, none⟩) hg).trans (hc j hj)⟩
theorem IRd.mono {w : World} {B B' : Nat} {v : Value} {xs : List Int} (h : IRd w B v xs) (hB : B ≤ B') : IRd w B' v xs := by
  obtain ⟨A, cap, hv, h2⟩ := h
  refine ⟨A, cap, hv, fun h0 => ?_⟩
  obtain ⟨g, hA, hg, hc⟩ := h2 h0
  exact ⟨g, hA, by omega, hc⟩

theorem rdBelowN {B : Nat} {a w : World} (h : Below B a w) (n : Nat) : Below B a (w.drewN n) := ⟨h.os, h.tape, h.output, h.size, h.block⟩

end Go.Proofs.YtecpjeililiafaaDoor

/-
  Contract of alibkeep.ok.
-/
namespace Go.Proofs.YtecpjeililiafaaDoor
open Go.RowKit
set_option maxRecDepth 20000

theorem all_zero {xs : List Int} (h : ∀ j, j < xs.length → xs.getD j 0 = 0) : ∀ x ∈ xs, x = 0 := by
  intro x hx
  obtain ⟨j, hj, rfl⟩ := List.getElem_of_mem hx
  have := h j hj
  rwa [List.getD_eq_getElem?_getD, List.getElem?_eq_getElem hj] at this
theorem not_all_zero {xs : List Int} {k : Nat} (hk : k < xs.length) (h : xs.getD k 0 ≠ 0) : ¬ ∀ x ∈ xs, x = 0 := fun ha => by
  rw [List.getD_eq_getElem?_getD, List.getElem?_eq_getElem hk] at h
  exact h (ha _ (List.getElem_mem hk))

theorem ok_any {B : Nat} {v : Value} {xs : List Int} {w : World} (h : IRd w B v xs) (hn : xs.length ≤ 1000000) :
    Calls Tryd.prog 44 #[v] w fun e w' => e = .returned (.bool (decide (∀ x ∈ xs, x = 0))) ∧ w = w' := by
  obtain ⟨A, c, rfl, k⟩ := h
  have HK := Lib.hid k
  clear k
  go_enter Tryd.func44, Tryd.ntmps44
  go_wp2_with fail
  go_loopw [7] (fun i wr => ∃ k : Nat, k ≤ xs.length ∧ i = .int .i64 k ∧ (∀ j, j < k → xs.getD j 0 = 0) ∧ w = wr) (fun i _ => xs.length - (intOf i).toNat)
  case atStart => exact ⟨0, by omega, rfl, fun j hj => by omega, rfl⟩
  case round =>
    obtain ⟨k, hk, rfl, ha, rfl⟩ := hrel
    have HA := Lib.hid ha
    clear ha
    by_cases hkn : k < xs.length
    · obtain ⟨g, rfl, hg, hc⟩ := HK.out (by omega)
      have d1 : w.cell? ⟨g, k, none⟩ = some (.int .i64 (xs.getD k 0)) := hc k hkn
      clear hc
      have i1 : (0 : Int) ≤ (k : Int) := by omega
      have i2 : (k : Int) < (xs.length : Int) := by omega
      generalize hxk : xs.getD k 0 = x at d1
      have HXK := Lib.hid hxk
      clear hxk
      by_cases hx : x = 0
      · subst hx
        go_wp2_with fail
        go_roundw
        case rel => exact ⟨k + 1, by omega, by go_num, fun j hj => by
          rcases Nat.lt_or_ge j k with h | h
          · exact HA.out j h
          · obtain rfl : j = k := by omega
            exact HXK.out, by trivial⟩
        case measure => simp [intOf]; omega
      · have hz : (x != 0) = true := by rw [bne_iff_ne]; exact hx
        have HX := Lib.hid hx
        clear hx
        go_wp2_with fail
        go_ret
        exact ⟨congrArg (fun b => Ending.returned (.bool b)) (decide_eq_false (not_all_zero hkn (by rw [HXK.out]; exact HX.out))).symm, rfl⟩
    · have hkn' : k = xs.length := by omega
      subst hkn'
      go_wp2_with fail
      go_ret
      exact ⟨congrArg (fun b => Ending.returned (.bool b)) (decide_eq_true (all_zero HA.out)).symm, rfl⟩

/-- A slice that was just written out. -/
theorem IRd.fresh (w : World) (t : TypeId) (xs : List Int) (n : Nat) (hn : n = xs.length) (cs : Array Value) (hcs : cs = (xs.map (Value.int .i64)).toArray) :
    IRd (w.alloc (.cells cs t)) (w.heap.size + 1) (.slice (some ⟨w.heap.size, 0, none⟩) n n) xs := by
  subst hn
  refine ⟨_, _, rfl, fun _ => ⟨_, rfl, by omega, fun j hj => ?_⟩⟩
  rw [cell_of_row _ _ j cs t (0, 0) (heap_alloc_new w _), hcs]
  simp [hj]

theorem ok_zero {B : Nat} {v : Value} {xs : List Int} {w : World} (h : IRd w B v xs) (hz : ∀ x ∈ xs, x = 0) (hn : xs.length ≤ 1000000) :
    Calls Tryd.prog 44 #[v] w fun e w' => e = .returned (.bool true) ∧ w = w' := by
  have := ok_any h hn
  rw [decide_eq_true hz] at this
  exact this
theorem ok_not {B : Nat} {v : Value} {xs : List Int} {w : World} (h : IRd w B v xs) {x : Int} (hx : x ∈ xs) (hz : x ≠ 0) (hn : xs.length ≤ 1000000) :
    Calls Tryd.prog 44 #[v] w fun e w' => e = .returned (.bool false) ∧ w = w' := by
  have := ok_any h hn
  rw [decide_eq_false (fun k => hz (k x hx))] at this
  exact this
end Go.Proofs.YtecpjeililiafaaDoor

/-
  alibkeep.searchLives answers true.
-/
namespace Go.Proofs.YtecpjeililiafaaDoor
open Go.RowKit Go.Maps
set_option maxRecDepth 20000

/-- A write and a read by two, at once. -/
abbrev twoS : List Ev := [⟨0, 0, 1, 5⟩, ⟨1, 0, 2, 0⟩, ⟨1, 0, 0, 5⟩, ⟨0, 0, 0, 0⟩]
theorem twoS_any (w : World) : Calls Tryd.prog 81 #[] w fun e w' => ∃ g, e = .returned (.slice (some ⟨g, 0, none⟩) 4 4) ∧ ERd w' w'.heap.size (.slice (some ⟨g, 0, none⟩) 4 4) twoS ∧ Below w.heap.size w w' := by
  go_enter Tryd.func81, Tryd.ntmps81
  go_wp2_with fail
  go_ret
  refine ⟨w.heap.size, rfl, ?_, (Below.refl _ _).alloc (Nat.le_refl _) _⟩
  have := LRd.of_lit (f := evCs) (s := 4) (w := w) (l := twoS) (fun _ => rfl) 77 (cs := #[.int .i64 0, .int .i64 0, .int .i64 1, .int .i64 5, .int .i64 1, .int .i64 0, .int .i64 2, .int .i64 0, .int .i64 1, .int .i64 0, .int .i64 0, .int .i64 5, .int .i64 0, .int .i64 0, .int .i64 0, .int .i64 0]) rfl (n := 4) rfl (by unfold maxLen; omega)
  simpa using this
/-- A read that is too old. -/
abbrev staleL : List Ev := [⟨0, 0, 1, 5⟩, ⟨0, 0, 0, 0⟩, ⟨1, 0, 2, 0⟩, ⟨1, 0, 0, 0⟩]
theorem two_ok : searchE (callsOf [1] twoS) = 0 := by decide +kernel
theorem two_found : foundO (aheadB (callsOf [1] twoS).1) [1] (callsOf [1] twoS).1 = some [(0, 0), (1, 5)] := by decide +kernel
theorem stale_ok : searchE (callsOf [1] staleL) = 0 := by decide +kernel
theorem stale_none : foundO (aheadB (callsOf [1] staleL).1) [1] (callsOf [1] staleL).1 = none := by decide +kernel
theorem SOwn.sp {w : World} {B : Nat} {v : Value} {S : List (Nat × Int)} (h : SOwn w B v S) : SRd w w.heap.size v (asSteps S) := by
  have h1 : (asSteps S).length = S.length := by unfold asSteps; exact List.length_map _
  have h2 : (asSteps S).flatMap spCs = S.flatMap stCs := by unfold asSteps; rw [List.flatMap_map]
  refine LRd.of_own (base := B) (t := 42) (fun _ => rfl) ?_
  rw [h1, h2]
  exact h

theorem staleW (W : World) : ERd (W.alloc (.cells #[.int .i64 0, .int .i64 0, .int .i64 1, .int .i64 5, .int .i64 0, .int .i64 0, .int .i64 0, .int .i64 0, .int .i64 1, .int .i64 0, .int .i64 2, .int .i64 0, .int .i64 1, .int .i64 0, .int .i64 0, .int .i64 0] 77)) (W.heap.size + 1) (.slice (some ⟨W.heap.size, 0, none⟩) 4 4) staleL :=
  LRd.of_lit (f := evCs) (s := 4) (fun _ => rfl) 77 rfl (n := 4) rfl (by unfold maxLen; omega)
set_option maxHeartbeats 2000000 in
theorem slives_any (w : World) (hp : Pow10 w.heap.size w) : Calls Tryd.prog 43 #[] w fun e w' => e = .returned (.bool true) ∧ Below w.heap.size w w' := by
  have HL := Lib.hid (fun W : World => LRd.of_lit (f := intCs) (s := 1) (w := W) (l := [1]) (fun _ => rfl) 3 (cs := #[.int .i64 1]) rfl (n := 1) rfl (by unfold maxLen; omega))
  have HE := Lib.hid staleW
  have HP := Lib.hid hp
  clear hp
  go_enter Tryd.func43, Tryd.ntmps43
  go_wp2_with fail
  refine (twoS_any _).mono ?_
  rintro e w1 ⟨g1, rfl, he1, hb1⟩
  have hw1 : Below w.heap.size w w1 := ((Below.refl _ _).alloc (Nat.le_refl _) _).trans (hb1.mono (by simp))
  have hn1 := ((HL.out w).below (hb1.mono (by simp))).mono (B' := w1.heap.size) (by have := hb1.size; simp at this; omega)
  have HC := Lib.hid (find_any hn1 he1 ((HP.out.on hw1).mono hw1.size))
  have H1 := Lib.hid hw1
  clear hw1 hn1 he1 hb1
  go_wp2_with fail
  refine HC.out.mono ?_
  rintro e w2 ⟨hb2, h⟩
  have h' : ∃ v, e = .returned (.tuple #[v, .bool true, .int .i64 0]) ∧ SRd w2 w2.heap.size v [(0, 0), (1, 5)] := by
    rcases h with ⟨h1, _⟩ | ⟨_, ⟨h1, _⟩ | ⟨S, v, h1, rfl, h2⟩⟩
    · exact absurd two_ok h1
    · rw [two_found] at h1; cases h1
    · rw [two_found] at h1
      injection h1 with h1
      subst h1
      exact ⟨v, rfl, h2.sp⟩
  obtain ⟨v, rfl, hv⟩ := h'
  have H2 := Lib.hid (And.intro (H1.out.trans (hb2.mono H1.out.size)) hv)
  clear hb2 h hv HC H1
  have hE3 := ((HE.out w2).mono (B' := (w2.alloc (.cells #[.int .i64 0, .int .i64 0, .int .i64 1, .int .i64 5, .int .i64 0, .int .i64 0, .int .i64 0, .int .i64 0, .int .i64 1, .int .i64 0, .int .i64 2, .int .i64 0, .int .i64 1, .int .i64 0, .int .i64 0, .int .i64 0] 77)).heap.size) (by simp)).below ((Below.refl _ _).alloc (Nat.le_refl _) (.cells #[.int .i64 1] 3))
  have hB3 : Below w.heap.size w ((w2.alloc (.cells #[.int .i64 0, .int .i64 0, .int .i64 1, .int .i64 5, .int .i64 0, .int .i64 0, .int .i64 0, .int .i64 0, .int .i64 1, .int .i64 0, .int .i64 2, .int .i64 0, .int .i64 1, .int .i64 0, .int .i64 0, .int .i64 0] 77)).alloc (.cells #[.int .i64 1] 3)) := (H2.out.1.alloc H2.out.1.size _).alloc (by have := H2.out.1.size; simp; omega) _
  have hN3 : NRd ((w2.alloc (.cells #[.int .i64 0, .int .i64 0, .int .i64 1, .int .i64 5, .int .i64 0, .int .i64 0, .int .i64 0, .int .i64 0, .int .i64 1, .int .i64 0, .int .i64 2, .int .i64 0, .int .i64 1, .int .i64 0, .int .i64 0, .int .i64 0] 77)).alloc (.cells #[.int .i64 1] 3)) ((w2.alloc (.cells #[.int .i64 0, .int .i64 0, .int .i64 1, .int .i64 5, .int .i64 0, .int .i64 0, .int .i64 0, .int .i64 0, .int .i64 1, .int .i64 0, .int .i64 2, .int .i64 0, .int .i64 1, .int .i64 0, .int .i64 0, .int .i64 0] 77)).alloc (.cells #[.int .i64 1] 3)).heap.size (.slice (some ⟨w2.heap.size + 1, 0, none⟩) 1 1) [1] := by
    have h9 := HL.out (w2.alloc (.cells #[.int .i64 0, .int .i64 0, .int .i64 1, .int .i64 5, .int .i64 0, .int .i64 0, .int .i64 0, .int .i64 0, .int .i64 1, .int .i64 0, .int .i64 2, .int .i64 0, .int .i64 1, .int .i64 0, .int .i64 0, .int .i64 0] 77))
    rw [World.size_alloc] at h9
    exact h9.mono (by simp)
  have hF := find_any hN3 (hE3.mono (B' := ((w2.alloc (.cells #[.int .i64 0, .int .i64 0, .int .i64 1, .int .i64 5, .int .i64 0, .int .i64 0, .int .i64 0, .int .i64 0, .int .i64 1, .int .i64 0, .int .i64 2, .int .i64 0, .int .i64 1, .int .i64 0, .int .i64 0, .int .i64 0] 77)).alloc (.cells #[.int .i64 1] 3)).heap.size) (by simp)) ((HP.out.on hB3).mono hB3.size)
  have HC := Lib.hid hF
  have HB3 := Lib.hid hB3
  clear hE3 hB3 hF
  go_wp2_with fail
  refine HC.out.mono ?_
  rintro e w3 ⟨hb3, h⟩
  have h' : e = .returned (.tuple #[.slice none 0 0, .bool false, .int .i64 0]) := by
    rcases h with ⟨h1, _⟩ | ⟨_, ⟨_, h1⟩ | ⟨S, v, h1, _⟩⟩
    · exact absurd stale_ok h1
    · exact h1
    · rw [stale_none] at h1; cases h1
  subst h'
  have hB4 := HB3.out.trans (hb3.mono HB3.out.size)
  have hv4 : SRd w3 w2.heap.size v [(0, 0), (1, 5)] := H2.out.2.below (((((Below.refl _ _).alloc (Nat.le_refl _) _).alloc (by simp) _)).trans (hb3.mono (by simp; omega)))
  have H4 := Lib.hid (And.intro hB4 hv4)
  have HS3 := Lib.hid (show w2.heap.size ≤ w3.heap.size by have := hb3.size; simp at this; omega)
  have HOK := Lib.hid (ok_zero (IRd.fresh w3 25 [0, 0] 2 rfl #[.int .i64 0, .int .i64 0] rfl) (by decide) (by decide))
  clear hb3 h HC hB4 hv4 HB3
  go_wp2_with fail
  refine HOK.out.mono ?_
  rintro e w4 ⟨rfl, rfl⟩
  have hN5 : SRd ((w3.alloc (.cells #[.int .i64 0, .int .i64 0] 25)).alloc (.cells #[.int .i64 0, .int .i64 0, .int .i64 1, .int .i64 5] 42)) ((w3.alloc (.cells #[.int .i64 0, .int .i64 0] 25)).alloc (.cells #[.int .i64 0, .int .i64 0, .int .i64 1, .int .i64 5] 42)).heap.size (.slice (some ⟨w3.heap.size + 1, 0, none⟩) 2 2) [(0, 0), (1, 5)] := by
    have h9 := LRd.of_lit (f := spCs) (s := 2) (w := w3.alloc (.cells #[.int .i64 0, .int .i64 0] 25)) (l := [(0, 0), (1, 5)]) (fun _ => rfl) 42 (cs := #[.int .i64 0, .int .i64 0, .int .i64 1, .int .i64 5]) rfl (n := 2) rfl (by unfold maxLen; omega)
    rw [World.size_alloc] at h9
    exact h9.mono (by simp)
  have hB5 : Below w.heap.size w ((w3.alloc (.cells #[.int .i64 0, .int .i64 0] 25)).alloc (.cells #[.int .i64 0, .int .i64 0, .int .i64 1, .int .i64 5] 42)) := (H4.out.1.alloc H4.out.1.size _).alloc (by have := H4.out.1.size; simp; omega) _
  have hb35 : Below w2.heap.size w3 ((w3.alloc (.cells #[.int .i64 0, .int .i64 0] 25)).alloc (.cells #[.int .i64 0, .int .i64 0, .int .i64 1, .int .i64 5] 42)) := by
    have h8 : w2.heap.size ≤ w3.heap.size := HS3.out
    exact ((Below.refl _ _).alloc h8 _).alloc (by simp; omega) _
  have HEQ := Lib.hid (eqSt_any (H4.out.2.below hb35) hN5)
  have HB5 := Lib.hid hB5
  clear hN5 hB5 hb35
  go_wp2_with fail
  refine HEQ.out.mono ?_
  rintro e w6 ⟨rfl, hb6⟩
  have HB6 := Lib.hid (HB5.out.trans (hb6.mono HB5.out.size))
  clear hb6 HEQ
  go_wp2_with fail
  go_ret
  exact ⟨rfl, HB6.out⟩
end Go.Proofs.YtecpjeililiafaaDoor

/-
  append of steps: any slice of such behind a row of one's own; slices.Clone over such.
-/
namespace Go.Proofs.YtecpjeililiafaaDoor
open Go.RowKit
set_option maxRecDepth 20000

/-- A slice of the call's own (in blocks from B on) that holds these. -/
def TOwn (w : World) (B : Nat) (v : Value) (l : List (Int × Int)) : Prop := w.ownsRow B 42 2 v l.length (l.flatMap spCs)
theorem TOwn.rd {w : World} {B : Nat} {v : Value} {l : List (Int × Int)} (h : TOwn w B v l) : SRd w w.heap.size v l := LRd.of_own (fun _ => rfl) h
theorem TOwn.nil (w : World) (B : Nat) : TOwn w B (.slice none 0 0) [] := World.ownsRow_nil _ _ _ _
theorem TOwn.below {w w' : World} {B : Nat} {v : Value} {l : List (Int × Int)} (h : TOwn w B v l) (hb : Below w.heap.size w w') : TOwn w' B v l := by
  refine ⟨h.1, h.2.elim (fun h => .inl h) fun ⟨g, cap, cur, h1, h2, h3, h4, h5, h6, h7⟩ => .inr ⟨g, cap, cur, h1, h2, ?_, h4, h5, h6, h7⟩⟩
  rw [hb.block g (Array.getElem?_eq_some_iff.1 h3).1]
  exact h3
theorem TOwn.alloc {w : World} {B : Nat} {v : Value} {l : List (Int × Int)} (h : TOwn w B v l) (o : Obj) : TOwn (w.alloc o) B v l := h.below ((Below.refl _ _).alloc (Nat.le_refl _) o)
theorem info_sp : (Tryd.prog.info? 42).map (fun i => (i.zero, i.size, i.bytes)) = some (some (.agg #[.int .i64 0, .int .i64 0]), 2, 16) := by kernel_rfl

theorem run_app_sps {W : World} {base n cap : Nat} {v : Value} {A : Option Addr} {l ys : List (Int × Int)} {B : Nat} (ty : TypeId) (hown : TOwn W base v l) (hr : SRd W B (.slice A n cap) ys) (hlen : ((l.length + ys.length) + (l.length + ys.length) / 4 + 192) * 16 ≤ 281474976710656) (hbase : base ≤ W.heap.size) (hA : A ≠ none) :
    ∃ v' w', (Builtin.append_ #[24, 24] ty #[v, .slice A n cap]).run Tryd.prog W = .ok v' w' ∧ TOwn w' base v' (l ++ ys) ∧ Below base W w' := by
  obtain ⟨i0, hi, hz0, hz1, hz2⟩ := info_of info_sp
  have hl := World.ownsRow.lt hown
  obtain ⟨A', cap', he, m1, m2, hc⟩ := hr
  injection he with e1 e2 e3
  subst e1 e2 e3
  cases A with
  | none => exact absurd rfl hA
  | some a =>
    have hlf : (ys.flatMap spCs).length = ys.length * 2 := flat_len (f := spCs) (s := 2) (fun _ => rfl) ys
    obtain ⟨v', w', hr, h2, h3, _⟩ := run_append_own_wide (P := Tryd.prog) W base 24 ty 42 i0 (.agg #[.int .i64 0, .int .i64 0]) 2 16 Tryd.underlying24 hi hz0 hz1 hz2 rfl (by decide) v l.length (l.flatMap spCs) hown
      a ys.length cap (ys.flatMap spCs) hlf (fun j u hu => by
        have hj := (List.getElem?_eq_some_iff.1 hu).1
        rw [hlf] at hj
        obtain ⟨g, o, ha, _, hcell⟩ := hc (by omega)
        injection ha with ha
        subst ha
        have hx := List.getElem?_eq_getElem (show j / 2 < ys.length by omega)
        have hm : j % 2 < (spCs ys[j / 2]).length := by show j % 2 < 2; omega
        have hf := flat_at (l := ys) (f := spCs) (s := 2) (fun _ => rfl) hx (List.getElem?_eq_getElem hm)
        have e : j / 2 * 2 + j % 2 = j := by omega
        rw [e, hu] at hf
        have := hcell (j / 2) _ hx (j % 2) _ ((List.getElem?_eq_getElem hm).trans hf.symm)
        rw [Addr.add_lit]
        rw [Nat.add_assoc, e] at this
        exact this) (fun u hu => by
        rw [List.mem_flatMap] at hu
        obtain ⟨x, _, hx⟩ := hu
        simp only [List.mem_cons, List.not_mem_nil, or_false] at hx
        rcases hx with rfl | rfl <;> rfl) (by unfold maxLen; omega) hlen hbase
    refine ⟨v', w', hr, ?_, (Below.refl base W).grown h3 hbase (fun k hk => (hl k hk).1)⟩
    unfold TOwn
    rw [List.length_append, List.flatMap_append]
    exact h2

set_option maxHeartbeats 1000000 in
theorem cloneS_any {v : Value} {l : List (Int × Int)} {w : World} (h : SRd w w.heap.size v l) (hbig : l.length * 16 ≤ 140737488355328) :
    Calls Tryd.prog 50 #[v] w fun e w' => ∃ v', e = .returned v' ∧ TOwn w' w.heap.size v' l ∧ Below w.heap.size w w' := by
  obtain ⟨A, cap, rfl, m1, m2⟩ := h.is
  have hq := fun (W : World) (a : Option Addr) (n cap : Nat) => Lib.run_eql_slice_nil (P := Tryd.prog) W 24 42 a n cap 0 0 Tryd.underlying24
  cases A with
  | none =>
    have hl : l = [] := by
      apply List.length_eq_zero_iff.1
      apply Classical.byContradiction
      intro hp
      obtain ⟨A', cap', hv, h1, h2, h3⟩ := h
      injection hv with e1 e2 e3
      subst e1
      obtain ⟨g, o, hA, _⟩ := h3 (by omega)
      cases hA
    subst hl
    go_enter Tryd.func50, Tryd.ntmps50
    go_wp2
    go_ret
    exact ⟨_, rfl, TOwn.nil _ _, Below.refl _ _⟩
  | some a =>
    have hempty : TOwn (w.alloc (.cells #[] 42)) w.heap.size (.slice (some ⟨w.heap.size, 0, none⟩) 0 0) [] := ⟨rfl, .inr ⟨w.heap.size, 0, #[], rfl, Nat.le_refl _, heap_alloc_new w _, Nat.le_refl _, by unfold maxLen; omega, rfl, rfl⟩⟩
    have hr1 : SRd (w.alloc (.cells #[] 42)) w.heap.size (.slice (some a) l.length cap) l := h.below ((Below.refl _ _).alloc (Nat.le_refl _) _)
    obtain ⟨v1, w1, hrun, ho1, hb1⟩ := run_app_sps 24 hempty hr1 (by simp; omega) (by simp) (by simp)
    rw [List.nil_append] at ho1
    have HO := Lib.hid (And.intro ho1 (((Below.refl w.heap.size w).alloc (Nat.le_refl _) (.cells #[] 42)).trans hb1))
    have HRUN := Lib.hid hrun
    clear hempty hr1 h ho1 hb1 hrun
    go_enter Tryd.func50, Tryd.ntmps50
    go_wp2_with (at_builtin; refine Lib.wpList_append_run _ rfl (.tmp 5) (.tmp 6) _ _ rfl _ _ rfl rfl v1 w1 HRUN.out ?_)
    go_ret
    exact ⟨v1, rfl, HO.out⟩
end Go.Proofs.YtecpjeililiafaaDoor

/-
  Plain mathematics: the calls of a history: each ends behind its begin; one's own stand one ahead of the next.
-/
namespace Go.Proofs.YtecpjeililiafaaDoor
set_option maxRecDepth 20000

/-- Calls of a history: each ends behind its begin; one's own stand one ahead of the next. -/
structure Orderly (n : Nat) (cs : List Cl) : Prop where
  tidy : Tidy n cs
  ends : ∀ c ∈ cs, c.til = -1 ∨ c.frm < c.til
  own : ∀ (i j : Nat) (c d : Cl), i < j → cs[i]? = some c → cs[j]? = some d → c.who = d.who → c.til ≠ -1 ∧ c.til < d.frm
theorem step_orderly {ts : List Int} {n : Nat} {cs cs' : List Cl} {x : Ev} (h : Orderly n cs) (hs : step ts n cs x = .inr cs') : Orderly (n + 1) cs' := by
  refine ⟨step_tidy h.tidy hs, ?_, ?_⟩
  · unfold step respS invS at hs
    repeat' split at hs
    all_goals (try cases hs)
    · obtain ⟨e, e1, _, _, e4⟩ := openOf_at (cs := cs) (who := x.who) (by omega)
      have hg : cs.getD (openOf cs x.who).toNat default = e := by rw [List.getD_eq_getElem?_getD, e1]; rfl
      intro c hc
      rcases List.mem_or_eq_of_mem_set hc with hc | rfl
      · exact h.ends c hc
      · rw [hg]
        right
        show e.frm < (n : Int)
        exact (h.tidy e (List.mem_of_getElem? e1)).2.1
    · intro c hc
      rcases List.mem_append.1 hc with hc | hc
      · exact h.ends c hc
      · rw [List.mem_singleton] at hc
        subst hc
        exact .inl rfl
  · unfold step respS invS at hs
    repeat' split at hs
    all_goals (try cases hs)
    · obtain ⟨e, e1, _, e3, e4⟩ := openOf_at (cs := cs) (who := x.who) (by omega)
      have hg : cs.getD (openOf cs x.who).toNat default = e := by rw [List.getD_eq_getElem?_getD, e1]; rfl
      rw [hg]
      intro i j c d hij hc hd hw
      rw [List.getElem?_set] at hc hd
      split at hc
      · rename_i hi
        subst hi
        injection hc with hc
        subst hc
        rw [if_neg (by omega)] at hd
        exact absurd e3 (h.own _ j e d hij e1 hd hw).1
      · split at hd
        · rename_i hj
          subst hj
          injection hd with hd
          subst hd
          exact h.own i _ c e hij hc e1 hw
        · exact h.own i j c d hij hc hd hw
    · intro i j c d hij hc hd hw
      have hjl := (List.getElem?_eq_some_iff.1 hd).1
      rw [List.length_append] at hjl
      simp only [List.length_cons, List.length_nil] at hjl
      rw [List.getElem?_append, if_pos (by omega)] at hc
      rw [List.getElem?_append] at hd
      split at hd
      · exact h.own i j c d hij hc hd hw
      · have : j - cs.length = 0 := by omega
        rw [this] at hd
        simp at hd
        subst hd
        have h1 := openOf_none (cs := cs) (who := x.who) (by omega) hc hw
        exact ⟨h1, (h.tidy c (List.mem_of_getElem? hc)).1⟩
theorem run_orderly {ts : List Int} : ∀ (l : List Ev) (n : Nat) (cs : List Cl), Orderly n cs → (run ts n cs l).2.2 = 0 → Orderly (n + l.length) (run ts n cs l).1
  | [], n, cs, h, _ => by simpa [run] using h
  | x :: r, n, cs, h, h0 => by
    rw [run] at h0 ⊢
    cases hs : step ts n cs x with
    | inl e => rw [hs] at h0; exact absurd h0 (step_err hs)
    | inr cs' =>
      rw [hs] at h0
      simp only at h0 ⊢
      have := run_orderly r (n + 1) cs' (step_orderly h hs) h0
      rwa [show n + 1 + r.length = n + (x :: r).length by simp only [List.length_cons]; omega] at this
theorem calls_orderly {ts : List Int} {l : List Ev} (h : (callsOf ts l).2.2 = 0) : Orderly l.length (callsOf ts l).1 ∧ l.length ≤ 200 := by
  unfold callsOf at h ⊢
  cases hb : typesB ts
  · rw [hb, if_pos rfl] at h; cases h
  · rw [hb, if_neg (by decide)] at h
    rw [if_neg (by decide)]
    split at h
    · cases h
    · rename_i hl
      rw [if_neg hl]
      have := run_orderly (ts := ts) l 0 [] ⟨fun c hc => by simp at hc, fun c hc => by simp at hc, fun i j c d _ hc => by simp at hc⟩ h
      rw [Nat.zero_add] at this
      exact ⟨this, by omega⟩
end Go.Proofs.YtecpjeililiafaaDoor
