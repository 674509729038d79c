/-
  Joined by a program out of: EqInt, Bools, LLives.
-/
import Derived.Test.YtecpjeililiafaaDoorMgAA
import Derived.Test.YtecpjeililiafaaDoorMgBB
import Derived.Test.YtecpjeililiafaaDoorMgBH
import Derived.Test.YtecpjeililiafaaDoorMgAW

/-
  slices.Equal of two lists of integers.
-/
namespace Go.Proofs.YtecpjeililiafaaDoor
open Go.RowKit
set_option maxRecDepth 20000

theorem ext_eq {α : Type} {xs ys : List α} (hl : xs.length = ys.length) (h : ∀ (j : Nat) (x y : α), xs[j]? = some x → ys[j]? = some y → x = y) : xs = ys := by
  apply List.ext_getElem hl
  intro j h1 h2
  exact h j _ _ (List.getElem?_eq_getElem h1) (List.getElem?_eq_getElem h2)

set_option maxHeartbeats 2000000 in
theorem eqInt_any {B1 B2 : Nat} {v1 v2 : Value} {xs ys : List Int} {w : World} (h1 : NRd w B1 v1 xs) (h2 : NRd w B2 v2 ys) :
    Calls Tryd.prog 41 #[v1, v2] w fun e w' => e = .returned (.bool (decide (xs = ys))) ∧ Below w.heap.size w w' := by
  obtain ⟨A1, c1, rfl, m1, m2⟩ := h1.is
  obtain ⟨A2, c2, rfl, m3, m4⟩ := h2.is
  unfold maxLen at m2 m4
  have H1 := Lib.hid h1
  have H2 := Lib.hid h2
  clear h1 h2
  obtain ⟨n, hn⟩ : ∃ n, n = xs.length := ⟨_, rfl⟩
  obtain ⟨n', hn'⟩ : ∃ n, n = ys.length := ⟨_, rfl⟩
  rw [← hn, ← hn']
  rw [← hn] at m1
  rw [← hn'] at m3
  have HN := Lib.hid hn
  have HN' := Lib.hid hn'
  clear hn hn'
  by_cases hl : n = n'
  · subst hl
    go_enter Tryd.func41, Tryd.ntmps41
    go_wp2_with fail
    go_loopw [13] (fun i wr => ∃ k : Nat, k ≤ n ∧ i = .int .i64 k ∧ (∀ (j : Nat) (x y : Int), j < k → xs[j]? = some x → ys[j]? = some y → x = y) ∧ ∃ nq, wr = w.drewN nq) (fun i _ => n - (intOf i).toNat)
    case atStart => exact ⟨0, by omega, rfl, fun j x y hj => by omega, 0, rfl⟩
    case round =>
      obtain ⟨k, hk, rfl, ha, nq, rfl⟩ := hrel
      have HA := Lib.hid ha
      clear ha
      by_cases hkn : k < n
      · obtain ⟨x, hx⟩ : ∃ x, xs[k]? = some x := ⟨_, List.getElem?_eq_getElem (by rw [← HN.out]; exact hkn)⟩
        obtain ⟨y, hy⟩ : ∃ y, ys[k]? = some y := ⟨_, List.getElem?_eq_getElem (by rw [← HN'.out]; exact hkn)⟩
        have h1' := H1.out
        have h2' := H2.out
        rw [← HN.out] at h1'
        rw [← HN'.out] at h2'
        obtain ⟨g1, o1, rfl, -, b0⟩ := h1'.num hx
        obtain ⟨g2, o2, rfl, -, d0⟩ := h2'.num hy
        have HX := Lib.hid (And.intro hx hy)
        clear h1' h2' hx hy
        have i1 : (0 : Int) ≤ (k : Int) := by omega
        have i2 : (k : Int) < (n : Int) := by omega
        by_cases hxy : x = y
        · have HXY := Lib.hid hxy
          subst hxy
          go_wp2_with fail
          go_quiet (fail)
          go_wp2_with fail
          go_roundw
          case rel => exact ⟨k + 1, by omega, by go_num, fun j a b hj ha hb => by
            rcases Nat.lt_or_ge j k with h | h
            · exact HA.out j a b h ha hb
            · obtain rfl : j = k := by omega
              rw [HX.out.1] at ha
              rw [HX.out.2] at hb
              exact Option.some.inj (ha.symm.trans hb), _, rfl⟩
          case measure => simp [intOf]; omega
        · have hz : (x != y) = true := by rw [bne_iff_ne]; exact hxy
          have HXY := Lib.hid hxy
          clear hxy
          go_wp2_with fail
          go_quiet (fail)
          go_wp2_with fail
          go_ret
          exact ⟨ret_bool (decide_eq_false (fun e => HXY.out (by
              have h1 := HX.out.1
              rw [e, HX.out.2] at h1
              exact (Option.some.inj h1).symm))).symm, belowN (belowN (Below.refl _ _) _) _⟩
      · obtain rfl : k = n := by omega
        go_wp2_with fail
        go_ret
        exact ⟨ret_bool (decide_eq_true (ext_eq (HN.out.symm.trans HN'.out) (fun j x y hx hy => HA.out j x y (by rw [HN.out]; exact (List.getElem?_eq_some_iff.1 hx).1) hx hy))).symm, belowN (Below.refl _ _) _⟩
  · have hz : ((n : Int) != (n' : Int)) = true := by rw [bne_iff_ne]; omega
    have hne : decide (xs = ys) = false := decide_eq_false (fun e => hl (by rw [HN.out, HN'.out, e]))
    rw [hne]
    clear hne hl
    go_enter Tryd.func41, Tryd.ntmps41
    go_wp2_with fail
    go_ret
    exact ⟨rfl, Below.refl _ _⟩
theorem eqInt_same {B1 B2 : Nat} {v1 v2 : Value} {xs : List Int} {w : World} (h1 : NRd w B1 v1 xs) (h2 : NRd w B2 v2 xs) :
    Calls Tryd.prog 41 #[v1, v2] w fun e w' => e = .returned (.bool true) ∧ Below w.heap.size w w' := by
  have := eqInt_any h1 h2
  rwa [decide_eq_true rfl] at this
end Go.Proofs.YtecpjeililiafaaDoor

/-
  Rows of truths: slices.Equal, slices.Contains.
-/
namespace Go.Proofs.YtecpjeililiafaaDoor
open Go.RowKit
set_option maxRecDepth 20000

abbrev blCs (b : Bool) : List Value := [.bool b]
abbrev BlRd (w : World) (B : Nat) (v : Value) (l : List Bool) : Prop := LRd 1 blCs w B v l
theorem LRd.bl {w : World} {B n cap : Nat} {A : Option Addr} {l : List Bool} (h : BlRd w B (.slice A n cap) l) {k : Nat} {x : Bool} (hk : l[k]? = some x) : ∃ g o, A = some ⟨g, o, none⟩ ∧ g < B ∧ w.cell? ⟨g, o + k, none⟩ = some (.bool x) := by
  obtain ⟨g, o, hA, hg, hc⟩ := h.at_ hk
  refine ⟨g, o, hA, hg, ?_⟩
  have := hc 0 _ rfl
  simpa using this
theorem BTab.rd {w : World} {g N : Nat} {S : Nat → Bool} (h : BTab w g N S) (hN : N ≤ 1000) : BlRd w w.heap.size (.slice (some ⟨g, 0, none⟩) N N) ((List.range N).map S) := by
  refine ⟨some ⟨g, 0, none⟩, N, by rw [List.length_map, List.length_range], by simp, by unfold maxLen; omega, fun _ => ⟨g, 0, rfl, h.lt, fun k x hx j u hu => ?_⟩⟩
  have hk : k < N := by
    have := (List.getElem?_eq_some_iff.1 hx).1
    simpa using this
  rw [List.getElem?_map, List.getElem?_range hk] at hx
  injection hx with hx
  subst hx
  match j, hu with
  | 0, hu =>
    injection hu with hu
    subst hu
    have := h.cell hk
    simpa using this
set_option maxHeartbeats 2000000 in
theorem eqBl_any {B1 B2 : Nat} {v1 v2 : Value} {xs ys : List Bool} {w : World} (h1 : BlRd w B1 v1 xs) (h2 : BlRd w B2 v2 ys) :
    Calls Tryd.prog 59 #[v1, v2] w fun e w' => e = .returned (.bool (decide (xs = ys))) ∧ Below w.heap.size w w' := by
  obtain ⟨A1, c1, rfl, m1, m2⟩ := h1.is
  obtain ⟨A2, c2, rfl, m3, m4⟩ := h2.is
  unfold maxLen at m2 m4
  have H1 := Lib.hid h1
  have H2 := Lib.hid h2
  clear h1 h2
  obtain ⟨n, hn⟩ : ∃ n, n = xs.length := ⟨_, rfl⟩
  obtain ⟨n', hn'⟩ : ∃ n, n = ys.length := ⟨_, rfl⟩
  rw [← hn, ← hn']
  rw [← hn] at m1
  rw [← hn'] at m3
  have HN := Lib.hid hn
  have HN' := Lib.hid hn'
  clear hn hn'
  by_cases hl : n = n'
  · subst hl
    go_enter Tryd.func59, Tryd.ntmps59
    go_wp2_with fail
    go_loopw [13] (fun i wr => ∃ k : Nat, k ≤ n ∧ i = .int .i64 k ∧ (∀ (j : Nat) (x y : Bool), j < k → xs[j]? = some x → ys[j]? = some y → x = y) ∧ ∃ nq, wr = w.drewN nq) (fun i _ => n - (intOf i).toNat)
    case atStart => exact ⟨0, by omega, rfl, fun j x y hj => by omega, 0, rfl⟩
    case round =>
      obtain ⟨k, hk, rfl, ha, nq, rfl⟩ := hrel
      have HA := Lib.hid ha
      clear ha
      by_cases hkn : k < n
      · obtain ⟨x, hx⟩ : ∃ x, xs[k]? = some x := ⟨_, List.getElem?_eq_getElem (by rw [← HN.out]; exact hkn)⟩
        obtain ⟨y, hy⟩ : ∃ y, ys[k]? = some y := ⟨_, List.getElem?_eq_getElem (by rw [← HN'.out]; exact hkn)⟩
        have h1' := H1.out
        have h2' := H2.out
        rw [← HN.out] at h1'
        rw [← HN'.out] at h2'
        obtain ⟨g1, o1, rfl, -, b0⟩ := h1'.bl hx
        obtain ⟨g2, o2, rfl, -, d0⟩ := h2'.bl hy
        have HX := Lib.hid (And.intro hx hy)
        clear h1' h2' hx hy
        have i1 : (0 : Int) ≤ (k : Int) := by omega
        have i2 : (k : Int) < (n : Int) := by omega
        by_cases hxy : x = y
        · have HXY := Lib.hid hxy
          subst hxy
          go_wp2_with fail
          go_quiet (fail)
          go_wp2_with fail
          go_roundw
          case rel => exact ⟨k + 1, by omega, by go_num, fun j a b hj ha hb => by
            rcases Nat.lt_or_ge j k with h | h
            · exact HA.out j a b h ha hb
            · obtain rfl : j = k := by omega
              rw [HX.out.1] at ha
              rw [HX.out.2] at hb
              exact Option.some.inj (ha.symm.trans hb), _, rfl⟩
          case measure => simp [intOf]; omega
        · have hz : (x != y) = true := by rw [bne_iff_ne]; exact hxy
          have HXY := Lib.hid hxy
          clear hxy
          cases x
          · cases y
            · exact absurd rfl HXY.out
            · skip
              go_wp2_with fail
              go_quiet (fail)
              go_wp2_with fail
              go_ret
              exact ⟨ret_bool (decide_eq_false (fun e => HXY.out (by
                  have h1 := HX.out.1
                  rw [e, HX.out.2] at h1
                  exact (Option.some.inj h1).symm))).symm, belowN (belowN (Below.refl _ _) _) _⟩
          · cases y
            · skip
              go_wp2_with fail
              go_quiet (fail)
              go_wp2_with fail
              go_ret
              exact ⟨ret_bool (decide_eq_false (fun e => HXY.out (by
                  have h1 := HX.out.1
                  rw [e, HX.out.2] at h1
                  exact (Option.some.inj h1).symm))).symm, belowN (belowN (Below.refl _ _) _) _⟩
            · exact absurd rfl HXY.out
      · obtain rfl : k = n := by omega
        go_wp2_with fail
        go_ret
        exact ⟨ret_bool (decide_eq_true (ext_eq (HN.out.symm.trans HN'.out) (fun j x y hx hy => HA.out j x y (by rw [HN.out]; exact (List.getElem?_eq_some_iff.1 hx).1) hx hy))).symm, belowN (Below.refl _ _) _⟩
  · have hz : ((n : Int) != (n' : Int)) = true := by rw [bne_iff_ne]; omega
    have hne : decide (xs = ys) = false := decide_eq_false (fun e => hl (by rw [HN.out, HN'.out, e]))
    rw [hne]
    clear hne hl
    go_enter Tryd.func59, Tryd.ntmps59
    go_wp2_with fail
    go_ret
    exact ⟨rfl, Below.refl _ _⟩
set_option maxHeartbeats 1000000 in
theorem indexBl_any {B : Nat} {v : Value} {xs : List Bool} {w : World} (h : BlRd w B v xs) (x : Bool) :
    Calls Tryd.prog 84 #[v, .bool x] w fun e w' => ∃ r : Int, e = .returned (.int .i64 r) ∧ decide (0 ≤ r) = decide (x ∈ xs) ∧ Below w.heap.size w w' := by
  obtain ⟨A, cap, rfl, m1, m2⟩ := h.is
  unfold maxLen at m2
  obtain ⟨L, hL⟩ : ∃ L, L = xs.length := ⟨_, rfl⟩
  have HC := Lib.hid h
  have HLL := Lib.hid hL
  rw [← hL] at m1 ⊢
  clear h hL
  go_enter Tryd.func84, Tryd.ntmps84
  go_wp2_with fail
  go_loopw [8] (fun i wr => ∃ k : Nat, k ≤ L ∧ i = .int .i64 k ∧ (∀ (j : Nat) (y : Bool), j < k → xs[j]? = some y → y ≠ x) ∧ Below w.heap.size w wr) (fun i _ => L - (intOf i).toNat)
  case atStart => exact ⟨0, by omega, rfl, fun j y hj => by omega, Below.refl _ _⟩
  case round =>
    obtain ⟨k, hk, rfl, ha, hb⟩ := hrel
    by_cases hkn : k < L
    · obtain ⟨y, hy⟩ : ∃ y, xs[k]? = some y := ⟨_, List.getElem?_eq_getElem (by rw [← HLL.out]; exact hkn)⟩
      have hr := HC.out
      rw [← HLL.out] at hr
      obtain ⟨g, o, rfl, hg, d0⟩ := hr.bl hy
      have hgw : g < w.heap.size := World.block_lt_of_cell? w ⟨g, o + k, none⟩ d0
      have d1 : wr.cell? ⟨g, o + k, none⟩ = some (.bool y) := (hb.cell (p := ⟨g, o + k, none⟩) hgw).trans d0
      have i1 : (0 : Int) ≤ (k : Int) := by omega
      have i2 : (k : Int) < (L : Int) := by omega
      have HA := Lib.hid (And.intro ha (And.intro hb hy))
      clear ha hb hy hr d0
      by_cases hxy : x = y
      · have hz : (x == y) = true := by rw [beq_iff_eq]; exact hxy
        have HX := Lib.hid hxy
        clear hxy
        go_wp2_with fail
        go_ret
        refine ⟨k, rfl, ?_, HA.out.2.1⟩
        rw [decide_eq_true i1]
        exact (decide_eq_true (by rw [HX.out]; exact List.mem_of_getElem? HA.out.2.2)).symm
      · have hz : (x == y) = false := by rw [beq_eq_false_iff_ne]; exact hxy
        have HX := Lib.hid hxy
        clear hxy
        go_wp2_with fail
        go_roundw
        case rel => exact ⟨k + 1, by omega, by go_num, fun j z hj hz => by
          rcases Nat.lt_or_ge j k with h | h
          · exact HA.out.1 j z h hz
          · obtain rfl : j = k := by omega
            rw [HA.out.2.2] at hz
            injection hz with hz
            subst hz
            exact fun e => HX.out e.symm, HA.out.2.1⟩
        case measure => simp [intOf]; omega
    · obtain rfl : k = L := by omega
      have HA := Lib.hid (And.intro ha hb)
      clear ha hb
      go_wp2_with fail
      go_ret
      refine ⟨-1, rfl, ?_, HA.out.2⟩
      rw [decide_eq_false (show ¬ (0 : Int) ≤ -1 by omega)]
      refine (decide_eq_false fun hm => ?_).symm
      obtain ⟨j, hj, e⟩ := List.getElem_of_mem hm
      exact HA.out.1 j x (by rw [HLL.out]; exact hj) (by rw [List.getElem?_eq_getElem hj, e]) rfl

theorem containsBl_any {B : Nat} {v : Value} {xs : List Bool} {w : World} (h : BlRd w B v xs) (x : Bool) :
    Calls Tryd.prog 55 #[v, .bool x] w fun e w' => e = .returned (.bool (decide (x ∈ xs))) ∧ Below w.heap.size w w' := by
  have hi := indexBl_any h x
  clear h
  go_enter Tryd.func55, Tryd.ntmps55
  go_wp2_with fail
  refine hi.mono ?_
  rintro e w1 ⟨r, rfl, hr, hb⟩
  have HB := Lib.hid (And.intro hb hr)
  clear hi hb hr
  by_cases h0 : (0 : Int) ≤ r
  · go_wp2_with fail
    go_ret
    exact ⟨ret_bool (by rw [← HB.out.2] <;> simp [h0]), HB.out.1⟩
  · go_wp2_with fail
    go_ret
    exact ⟨ret_bool (by rw [← HB.out.2] <;> simp [h0]), HB.out.1⟩
end Go.Proofs.YtecpjeililiafaaDoor

/-
  alibkeep.localLives answers true.
-/
namespace Go.Proofs.YtecpjeililiafaaDoor
open Go.RowKit Go.Maps
set_option maxRecDepth 20000

def ll4 : List Ev := [⟨0, 0, 1, 5⟩, ⟨0, 0, 0, 0⟩, ⟨1, 1, 4, 0⟩, ⟨1, 1, 0, 3⟩]
theorem ll_open : openE [1, 2] ll4 = 0 := by decide +kernel
theorem ll_open3 : openE [1, 2] (ll4.take 3) = 0 := by decide +kernel
theorem ll_parts : (List.range 2).map (pB [1, 2] ll4) = [true, false] := by decide +kernel
theorem ll_parts3 {k : Nat} (h : k < 2) : pB [1, 2] (ll4.take 3) k = true := by
  have h2 : k = 0 ∨ k = 1 := by omega
  rcases h2 with rfl | rfl
  · decide +kernel
  · decide +kernel
theorem ll_len0 : (ordL [1, 2] (ll4.take 3) 0).length = 1 := by decide +kernel
theorem ll_len1 : (ordL [1, 2] (ll4.take 3) 1).length = 0 := by decide +kernel
theorem twoN (W : World) : NRd (W.alloc (.cells #[.int .i64 1, .int .i64 2] 3)) (W.alloc (.cells #[.int .i64 1, .int .i64 2] 3)).heap.size (.slice (some ⟨W.heap.size, 0, none⟩) 2 2) [1, 2] :=
  (LRd.of_lit (f := intCs) (s := 1) (w := W) (l := [1, 2]) (fun _ => rfl) 3 (cs := #[.int .i64 1, .int .i64 2]) rfl (n := 2) rfl (by unfold maxLen; omega)).mono (by simp)
theorem allocInts (W : World) : Below W.heap.size W (W.alloc (.cells #[.int .i64 1, .int .i64 2] 3)) := (Below.refl _ _).alloc (Nat.le_refl _) _
set_option maxHeartbeats 4000000 in
theorem llives_any (w : World) (hp : Pow10 w.heap.size w) : Calls Tryd.prog 54 #[] w fun e w' => e = .returned (.bool true) ∧ Below w.heap.size w w' := by
  have hb0 : Below w.heap.size w (w.alloc (.cells #[.int .i64 0, .int .i64 0, .int .i64 1, .int .i64 5, .int .i64 0, .int .i64 0, .int .i64 0, .int .i64 0, .int .i64 1, .int .i64 1, .int .i64 4, .int .i64 0, .int .i64 1, .int .i64 1, .int .i64 0, .int .i64 3] 77)) := (Below.refl _ _).alloc (Nat.le_refl _) _
  have he0 : ERd (w.alloc (.cells #[.int .i64 0, .int .i64 0, .int .i64 1, .int .i64 5, .int .i64 0, .int .i64 0, .int .i64 0, .int .i64 0, .int .i64 1, .int .i64 1, .int .i64 4, .int .i64 0, .int .i64 1, .int .i64 1, .int .i64 0, .int .i64 3] 77)) (w.alloc (.cells #[.int .i64 0, .int .i64 0, .int .i64 1, .int .i64 5, .int .i64 0, .int .i64 0, .int .i64 0, .int .i64 0, .int .i64 1, .int .i64 1, .int .i64 4, .int .i64 0, .int .i64 1, .int .i64 1, .int .i64 0, .int .i64 3] 77)).heap.size (.slice (some ⟨w.heap.size, 0, none⟩) 4 4) ll4 :=
    (LRd.of_lit (f := evCs) (s := 4) (w := w) (l := ll4) (fun _ => rfl) 77 rfl (n := 4) rfl (by unfold maxLen; omega)).mono (by simp)
  have HP := Lib.hid hp
  have H0 := Lib.hid (And.intro hb0 he0)
  obtain ⟨W0, hW0⟩ : ∃ W0, W0 = w.alloc (.cells #[.int .i64 0, .int .i64 0, .int .i64 1, .int .i64 5, .int .i64 0, .int .i64 0, .int .i64 0, .int .i64 0, .int .i64 1, .int .i64 1, .int .i64 4, .int .i64 0, .int .i64 1, .int .i64 1, .int .i64 0, .int .i64 3] 77) := ⟨_, rfl⟩
  rw [← hW0] at H0
  have h1 := H0.out.1.trans ((allocInts W0).mono H0.out.1.size)
  have h2 := (H0.out.2.below (allocInts W0)).mono (allocInts W0).size
  have htw : NRd (W0.alloc (.cells #[.int .i64 1, .int .i64 2] 3)) (W0.alloc (.cells #[.int .i64 1, .int .i64 2] 3)).heap.size (.slice (some ⟨w.heap.size + 1, 0, none⟩) 2 2) [1, 2] := by
    have := twoN W0
    rwa [show W0.heap.size = w.heap.size + 1 by rw [hW0, World.size_alloc]] at this
  have HPA := Lib.hid (lparts_any htw h2 ((HP.out.on h1).mono h1.size))
  have H1 := Lib.hid (And.intro h1 h2)
  rw [hW0] at HPA H1
  clear hp hb0 he0 h1 h2 hW0 H0 htw
  go_enter Tryd.func54, Tryd.ntmps54
  go_wp2_with fail
  refine HPA.out.mono ?_
  rintro e w2 ⟨hb2, ⟨h0, -⟩ | ⟨-, g, rfl, htab⟩⟩
  · exact absurd ll_open h0
  have hbl := htab.rd (by decide)
  rw [show ([1, 2] : List Int).length = 2 from rfl, ll_parts] at hbl
  have HBL := Lib.hid hbl
  have H2 := Lib.hid (And.intro (H1.out.1.trans (hb2.mono H1.out.1.size)) ((H1.out.2.below hb2).mono hb2.size))
  clear hb2 htab hbl HPA H1
  have h3 := H2.out.1.trans ((allocInts w2).mono H2.out.1.size)
  have h4 := (H2.out.2.below (allocInts w2)).mono (allocInts w2).size
  have hor : Calls Tryd.prog 29 #[.slice (some ⟨w2.heap.size, 0, none⟩) 2 2, .slice (some ⟨w.heap.size, 0, none⟩) 4 4] (w2.alloc (.cells #[.int .i64 1, .int .i64 2] 3)) (LOrdPost (w2.alloc (.cells #[.int .i64 1, .int .i64 2] 3)) [1, 2] ll4 2 (openE [1, 2] ll4)) := lorders_any (twoN w2) h4 ((HP.out.on h3).mono h3.size)
  have HO := Lib.hid hor
  have H3 := Lib.hid (And.intro h3 h4)
  have HBL3 := Lib.hid ((HBL.out.below (allocInts w2)).mono (allocInts w2).size)
  clear h3 h4 hor HBL
  simp only [List.length_cons, List.length_nil, Nat.zero_add, Nat.reduceAdd]
  go_wp2_with fail
  refine HO.out.mono ?_
  rintro e w3 ⟨hb3, ⟨h0, -⟩ | ⟨-, -, rfl⟩ | ⟨-, hall, -⟩⟩
  · exact absurd ll_open h0
  · have H4 := Lib.hid (And.intro (H3.out.1.trans (hb3.mono H3.out.1.size)) ((H3.out.2.below hb3).mono hb3.size))
    have HBL4 := Lib.hid ((HBL3.out.below hb3).mono hb3.size)
    clear hb3 HO H3 HBL3 H2
    have h5 := H4.out.1.trans ((allocInts w3).mono H4.out.1.size)
    have h6 : ERd (w3.alloc (.cells #[.int .i64 1, .int .i64 2] 3)) (w3.alloc (.cells #[.int .i64 1, .int .i64 2] 3)).heap.size (.slice (some ⟨w.heap.size, 0, none⟩) 3 4) (ll4.take 3) := LRd.take_ ((H4.out.2.below (allocInts w3)).mono (allocInts w3).size) (by decide)
    have hor : Calls Tryd.prog 29 #[.slice (some ⟨w3.heap.size, 0, none⟩) 2 2, .slice (some ⟨w.heap.size, 0, none⟩) 3 4] (w3.alloc (.cells #[.int .i64 1, .int .i64 2] 3)) (LOrdPost (w3.alloc (.cells #[.int .i64 1, .int .i64 2] 3)) [1, 2] (ll4.take 3) 2 (openE [1, 2] (ll4.take 3))) := lorders_any (twoN w3) h6 ((HP.out.on h5).mono h5.size)
    have HO := Lib.hid hor
    have H5 := Lib.hid h5
    have HBL5 := Lib.hid ((HBL4.out.below (allocInts w3)).mono (allocInts w3).size)
    clear h5 h6 hor HBL4 H4
    go_wp2_with fail
    refine HO.out.mono ?_
    rintro e w4 ⟨hb4, ⟨h0, -⟩ | ⟨-, ⟨t, ht, hf⟩, -⟩ | ⟨-, -, g4, F, rfl, hg4, hvt, hrows⟩⟩
    · exact absurd ll_open3 h0
    · rw [ll_parts3 ht] at hf; cases hf
    have H6 := Lib.hid (H5.out.trans (hb4.mono H5.out.size))
    have HBL6 := Lib.hid ((HBL5.out.below hb4).mono hb4.size)
    obtain ⟨A0, c0, e0, -, -⟩ := (hrows 0 (by omega)).rd.is
    obtain ⟨A1, c1, e1, -, -⟩ := (hrows 1 (by omega)).rd.is
    have d0 := hvt.cell (i := 0) (by omega)
    have d1 := hvt.cell (i := 1) (by omega)
    rw [e0, ll_len0] at d0
    rw [e1, ll_len1] at d1
    have hlt := Lies.lt hvt
    have HD := Lib.hid (And.intro d0 (And.intro d1 hlt))
    have HOK := Lib.hid (ok_zero (IRd.fresh w4 25 [0, 0] 2 rfl #[.int .i64 0, .int .i64 0] rfl) (by decide) (by decide))
    clear hb4 hvt hrows HO e0 e1 d0 d1 hlt HBL5
    go_wp2_with fail
    refine HOK.out.mono ?_
    rintro e w5 ⟨rfl, rfl⟩
    have hal : Below w4.heap.size w4 ((w4.alloc (.cells #[.int .i64 0, .int .i64 0] 25)).alloc (.cells #[.bool true, .bool false] 4)) := ((Below.refl _ _).alloc (Nat.le_refl _) _).alloc (by simp) _
    have hn : BlRd ((w4.alloc (.cells #[.int .i64 0, .int .i64 0] 25)).alloc (.cells #[.bool true, .bool false] 4)) ((w4.alloc (.cells #[.int .i64 0, .int .i64 0] 25)).heap.size + 1) (.slice (some ⟨(w4.alloc (.cells #[.int .i64 0, .int .i64 0] 25)).heap.size, 0, none⟩) 2 2) [true, false] :=
      LRd.of_lit (f := blCs) (s := 1) (w := w4.alloc (.cells #[.int .i64 0, .int .i64 0] 25)) (l := [true, false]) (fun _ => rfl) 4 rfl (n := 2) rfl (by unfold maxLen; omega)
    rw [World.size_alloc] at hn
    have HEQ := Lib.hid (eqBl_any (HBL6.out.below hal) hn)
    have H7 := Lib.hid (And.intro (H6.out.trans (hal.mono H6.out.size)) hal)
    clear hal hn HOK
    go_wp2_with fail
    refine HEQ.out.mono ?_
    rintro e w7 ⟨rfl, hb7⟩
    have H8 := Lib.hid (H7.out.1.trans (hb7.mono H7.out.1.size))
    have hs7 := H7.out.2.trans (hb7.mono H7.out.2.size)
    have d0 : w7.cell? ⟨g4, 0, none⟩ = some (.slice A0 1 c0) := (hs7.cell (p := ⟨g4, 0, none⟩) HD.out.2.2).trans HD.out.1
    have d1 : w7.cell? ⟨g4, 1, none⟩ = some (.slice A1 0 c1) := (hs7.cell (p := ⟨g4, 1, none⟩) HD.out.2.2).trans HD.out.2.1
    clear hb7 HEQ hs7
    go_wp2_with fail
    go_ret
    exact ⟨rfl, H8.out⟩
  · have h1 := ll_parts
    rw [show (List.range 2).map (pB [1, 2] ll4) = [pB [1, 2] ll4 0, pB [1, 2] ll4 1] from rfl, hall 1 (by omega)] at h1
    cases hx : pB [1, 2] ll4 0 <;> rw [hx] at h1 <;> cases h1
end Go.Proofs.YtecpjeililiafaaDoor
