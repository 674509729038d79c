/-
  Joined by a program out of: RefSmall, ContN.
-/
import Derived.Test.YtfgangkpebkicaaGreatDoorMgAA
import Derived.Test.YtfgangkpebkicaaGreatDoorMsContains

/-
  Contracts of the small functions of the reference of package history.
-/
namespace Go.Proofs.YtfgangkpebkicaaGreatDoor
open Go.RowKit
set_option maxRecDepth 20000
theorem btwn_any (n a b : Int) (w : World) : Calls Tryz.prog 9 #[.int .i64 n, .int .i64 a, .int .i64 b] w fun e w' => e = .returned (.bool (btw a n b)) ∧ w = w' := by
  by_cases h1 : a ≤ n
  · by_cases h2 : n ≤ b
    · have h : btw a n b = true := btw_iff.2 ⟨h1, h2⟩
      rw [h]
      clear h
      go_enter Tryz.func9, Tryz.ntmps9
      go_wp2
      go_ret
      exact ⟨rfl, rfl⟩
    · have h : btw a n b = false := btw_not.2 fun h => h2 h.2
      rw [h]
      clear h
      go_enter Tryz.func9, Tryz.ntmps9
      go_wp2
      go_ret
      exact ⟨rfl, rfl⟩
  · have h : btw a n b = false := btw_not.2 fun h => h1 h.1
    rw [h]
    clear h
    go_enter Tryz.func9, Tryz.ntmps9
    go_wp2
    go_ret
    exact ⟨rfl, rfl⟩
theorem btwn_yes {n a b : Int} (w : World) (h : a ≤ n ∧ n ≤ b) : Calls Tryz.prog 9 #[.int .i64 n, .int .i64 a, .int .i64 b] w fun e w' => e = .returned (.bool true) ∧ w = w' := by
  have := btwn_any n a b w
  rwa [btw_iff.2 h] at this
theorem btwn_no {n a b : Int} (w : World) (h : ¬ (a ≤ n ∧ n ≤ b)) : Calls Tryz.prog 9 #[.int .i64 n, .int .i64 a, .int .i64 b] w fun e w' => e = .returned (.bool false) ∧ w = w' := by
  have := btwn_any n a b w
  rwa [btw_not.2 h] at this
/-- The kinds of a type. -/
def kindsL (t : Int) : List Int := if t = 1 then [1, 2] else if t = 2 then [3, 4] else if t = 3 then [5, 6] else if t = 4 then [7, 8, 9] else if t = 5 then [10] else []
theorem kinds_fit (t k : Int) : decide (k ∈ kindsL t) = fitsB t k := by
  unfold fitsB
  rw [Bool.eq_iff_iff, decide_eq_true_iff, decide_eq_true_iff]
  unfold kindsL kindType
  (repeat' split) <;> simp <;> omega
def asksB (k v : Int) : Bool := if k ∈ [2, 4, 6, 10] then v == 0 else btw 1 v 1000
def answersB (k v : Int) : Bool := if k = 2 ∨ k = 10 then btw 0 v 1000 else if k = 4 ∨ k = 6 then v == -1 || btw 1 v 1000 else if 7 ≤ k then btw 0 v 1 else v == 0
theorem asks_takes {t k v : Int} (h : fitsB t k = true) : asksB k v = takesB k v := by
  obtain ⟨h1, h2, _⟩ := fits_kind h
  unfold asksB takesB
  simp only [List.mem_cons, List.not_mem_nil, or_false]
  (repeat' split) <;> first | rfl | omega
theorem answers_gives {k v : Int} (h1 : 1 ≤ k) (h2 : k ≤ 10) : answersB k v = givesB k v := by
  unfold answersB givesB
  (repeat' split) <;> first | rfl | omega
theorem type_ways (t : Int) : t = 1 ∨ t = 2 ∨ t = 3 ∨ t = 4 ∨ t = 5 ∨ ((t == 1) = false ∧ (t == 2) = false ∧ (t == 3) = false ∧ (t == 4) = false ∧ (t == 5) = false) := by
  simp only [beq_eq_false_iff_ne]
  omega
theorem nrd_lit (w : World) (t : TypeId) (xs : List Int) (n : Nat) (hn : n = xs.length) (cs : Array Value) (hcs : cs = (xs.map (Value.int .i64)).toArray) :
    IRd (w.alloc (.cells cs t)) (w.alloc (.cells cs t)).heap.size (.slice (some ⟨w.heap.size, 0, none⟩) n n) xs := by
  subst hn
  refine ⟨_, _, rfl, fun _ => ⟨_, rfl, by simp, fun j hj => ?_⟩⟩
  rw [cell_of_row _ _ j cs t (0, 0) (heap_alloc_new w _), hcs]
  simp [hj]
set_option maxHeartbeats 1000000 in
theorem kinds_any (t : Int) (w : World) : Calls Tryz.prog 25 #[.int .i64 t] w fun e w' => ∃ v, e = .returned v ∧ IRd w' w'.heap.size v (kindsL t) ∧ Below w.heap.size w w' := by
  rcases type_ways t with rfl | rfl | rfl | rfl | rfl | h
  all_goals try (
    go_enter Tryz.func25, Tryz.ntmps25
    go_wp2
    go_ret
    refine ⟨_, rfl, ?_, (Below.refl _ _).alloc (Nat.le_refl _) _⟩
    first
      | exact nrd_lit w 3 [1, 2] 2 rfl #[.int .i64 1, .int .i64 2] rfl
      | exact nrd_lit w 3 [3, 4] 2 rfl #[.int .i64 3, .int .i64 4] rfl
      | exact nrd_lit w 3 [5, 6] 2 rfl #[.int .i64 5, .int .i64 6] rfl
      | exact nrd_lit w 3 [7, 8, 9] 3 rfl #[.int .i64 7, .int .i64 8, .int .i64 9] rfl
      | exact nrd_lit w 3 [10] 1 rfl #[.int .i64 10] rfl)
  have e : kindsL t = [] := by
    simp only [beq_eq_false_iff_ne] at h
    unfold kindsL
    (repeat' split) <;> first | rfl | omega
  rw [e]
  obtain ⟨h1, h2, h3, h4, h5⟩ := h
  clear e
  go_enter Tryz.func25, Tryz.ntmps25
  go_wp2
  go_ret
  exact ⟨_, rfl, ⟨none, 0, rfl, fun h => by simp at h⟩, Below.refl _ _⟩
set_option maxHeartbeats 1000000 in
theorem asks_any (k v : Int) (w : World) : Calls Tryz.prog 26 #[.int .i64 k, .int .i64 v] w fun e w' => e = .returned (.bool (asksB k v)) ∧ Below w.heap.size w w' := by
  have hc := contains_any (nrd_lit w 3 [2, 4, 6, 10] 4 rfl _ rfl) (by decide) k
  have er : asksB k v = if k ∈ [2, 4, 6, 10] then v == 0 else btw 1 v 1000 := rfl
  generalize asksB k v = s at er ⊢
  have HE := Lib.hid er
  clear er
  by_cases hm : k ∈ ([2, 4, 6, 10] : List Int)
  · rw [decide_eq_true hm] at hc
    have HC := Lib.hid hc
    have HM := Lib.hid hm
    clear hc hm
    generalize hv : (v == 0) = d
    go_enter Tryz.func26, Tryz.ntmps26
    go_wp2_with fail
    refine HC.out.mono ?_
    rintro e w1 ⟨rfl, hb⟩
    have HB := Lib.hid hb
    clear hb
    go_wp2_with fail
    go_ret
    have e := HE.out
    rw [if_pos HM.out, hv] at e
    exact ⟨ret_bool e.symm, ((Below.refl _ _).alloc (Nat.le_refl _) _).trans (HB.out.mono (by simp))⟩
  · rw [decide_eq_false hm] at hc
    have HC := Lib.hid hc
    have HM := Lib.hid hm
    clear hc hm
    go_enter Tryz.func26, Tryz.ntmps26
    go_wp2_with fail
    refine HC.out.mono ?_
    rintro e w1 ⟨rfl, hb⟩
    have HB := Lib.hid hb
    clear hb
    go_wp2_with (go_at_call 9; (with_reducible refine (btwn_any _ _ _ _).mono ?_); rintro e w' ⟨rfl, rfl⟩)
    go_ret
    have e := HE.out
    rw [if_neg HM.out] at e
    exact ⟨ret_bool e.symm, ((Below.refl _ _).alloc (Nat.le_refl _) _).trans (HB.out.mono (by simp))⟩
theorem ans_ways (k : Int) : (k = 2) ∨ (k = 10) ∨ (k = 4) ∨ (k = 6) ∨ (((k == 2) = false ∧ (k == 10) = false ∧ (k == 4) = false ∧ (k == 6) = false) ∧ 7 ≤ k) ∨ (((k == 2) = false ∧ (k == 10) = false ∧ (k == 4) = false ∧ (k == 6) = false) ∧ ¬ 7 ≤ k) := by
  simp only [beq_eq_false_iff_ne]
  omega
set_option maxHeartbeats 1000000 in
theorem answers_any (k v : Int) (w : World) : Calls Tryz.prog 24 #[.int .i64 k, .int .i64 v] w fun e w' => e = .returned (.bool (answersB k v)) ∧ w = w' := by
  rcases ans_ways k with rfl | rfl | rfl | rfl | h | h
  all_goals try (
    show Calls _ _ _ _ fun e w' => e = .returned (.bool (btw 0 v 1000)) ∧ w = w'
    go_enter Tryz.func24, Tryz.ntmps24
    go_wp2_with (go_at_call 9; (with_reducible refine (btwn_any _ _ _ _).mono ?_); rintro e w' ⟨rfl, rfl⟩)
    go_ret
    exact ⟨rfl, rfl⟩)
  all_goals try (
    show Calls _ _ _ _ fun e w' => e = .returned (.bool (v == -1 || btw 1 v 1000)) ∧ w = w'
    by_cases h1 : v = -1
    · subst h1
      go_enter Tryz.func24, Tryz.ntmps24
      go_wp2
      go_ret
      exact ⟨rfl, rfl⟩
    · have hz : (v == -1) = false := by rw [beq_eq_false_iff_ne]; exact h1
      rw [hz, Bool.false_or]
      clear h1
      go_enter Tryz.func24, Tryz.ntmps24
      go_wp2_with (go_at_call 9; (with_reducible refine (btwn_any _ _ _ _).mono ?_); rintro e w' ⟨rfl, rfl⟩)
      go_ret
      exact ⟨rfl, rfl⟩)
  · obtain ⟨⟨h1, h2, h3, h4⟩, h5⟩ := h
    have e : answersB k v = btw 0 v 1 := by
      simp only [beq_eq_false_iff_ne] at h1 h2 h3 h4
      unfold answersB
      (repeat' split) <;> first | rfl | omega
    rw [e]
    clear e
    go_enter Tryz.func24, Tryz.ntmps24
    go_wp2_with (go_at_call 9; (with_reducible refine (btwn_any _ _ _ _).mono ?_); rintro e w' ⟨rfl, rfl⟩)
    go_ret
    exact ⟨rfl, rfl⟩
  · obtain ⟨⟨h1, h2, h3, h4⟩, h5⟩ := h
    have e : answersB k v = (v == 0) := by
      simp only [beq_eq_false_iff_ne] at h1 h2 h3 h4
      unfold answersB
      (repeat' split) <;> first | rfl | omega
    rw [e]
    generalize hv : (v == 0) = d
    clear e
    go_enter Tryz.func24, Tryz.ntmps24
    go_wp2
    go_ret
    exact ⟨rfl, rfl⟩
end Go.Proofs.YtfgangkpebkicaaGreatDoor

/-
  slices.Index and slices.Contains over any slice of integers.
-/
namespace Go.Proofs.YtfgangkpebkicaaGreatDoor
open Go.RowKit
set_option maxRecDepth 20000
set_option maxHeartbeats 1000000 in
theorem indexS_any {B : Nat} {v : Value} {xs : List Int} {w : World} (h : NRd w B v xs) (x : Int) :
    Calls Tryz.prog 34 #[v, .int .i64 x] w fun e w' => ∃ r : Int, e = .returned (.int .i64 r) ∧ decide (0 ≤ r) = decide (x ∈ xs) ∧ Below w.heap.size w w' := by
  obtain ⟨A, cap, rfl, m1, m2⟩ := h.is
  unfold maxLen at m2
  obtain ⟨L, hL⟩ : ∃ L, L = xs.length := ⟨_, rfl⟩
  have HC := Lib.hid h
  have HLL := Lib.hid hL
  rw [← hL] at m1 ⊢
  clear h hL
  go_enter Tryz.func34, Tryz.ntmps34
  go_wp2_with fail
  go_loopw [8] (fun i wr => ∃ k : Nat, k ≤ L ∧ i = .int .i64 k ∧ (∀ (j : Nat) (y : Int), j < k → xs[j]? = some y → y ≠ x) ∧ Below w.heap.size w wr) (fun i _ => L - (intOf i).toNat)
  case atStart => exact ⟨0, by omega, rfl, fun j y hj => by omega, Below.refl _ _⟩
  case round =>
    obtain ⟨k, hk, rfl, ha, hb⟩ := hrel
    by_cases hkn : k < L
    · obtain ⟨y, hy⟩ : ∃ y, xs[k]? = some y := ⟨_, List.getElem?_eq_getElem (by rw [← HLL.out]; exact hkn)⟩
      have hr := HC.out
      rw [← HLL.out] at hr
      obtain ⟨g, o, rfl, hg, d0⟩ := hr.num hy
      have hgw : g < w.heap.size := World.block_lt_of_cell? w ⟨g, o + k, none⟩ d0
      have d1 : wr.cell? ⟨g, o + k, none⟩ = some (.int .i64 y) := (hb.cell (p := ⟨g, o + k, none⟩) hgw).trans d0
      have i1 : (0 : Int) ≤ (k : Int) := by omega
      have i2 : (k : Int) < (L : Int) := by omega
      have HA := Lib.hid (And.intro ha (And.intro hb hy))
      clear ha hb hy hr d0
      by_cases hxy : x = y
      · have hz : (x == y) = true := by rw [beq_iff_eq]; exact hxy
        have HX := Lib.hid hxy
        clear hxy
        go_wp2_with fail
        go_ret
        refine ⟨k, rfl, ?_, HA.out.2.1⟩
        rw [decide_eq_true i1]
        exact (decide_eq_true (by rw [HX.out]; exact List.mem_of_getElem? HA.out.2.2)).symm
      · have hz : (x == y) = false := by rw [beq_eq_false_iff_ne]; exact hxy
        have HX := Lib.hid hxy
        clear hxy
        go_wp2_with fail
        go_roundw
        case rel => exact ⟨k + 1, by omega, by go_num, fun j z hj hz => by
          rcases Nat.lt_or_ge j k with h | h
          · exact HA.out.1 j z h hz
          · obtain rfl : j = k := by omega
            rw [HA.out.2.2] at hz
            injection hz with hz
            subst hz
            exact fun e => HX.out e.symm, HA.out.2.1⟩
        case measure => simp [intOf]; omega
    · obtain rfl : k = L := by omega
      have HA := Lib.hid (And.intro ha hb)
      clear ha hb
      go_wp2_with fail
      go_ret
      refine ⟨-1, rfl, ?_, HA.out.2⟩
      rw [decide_eq_false (show ¬ (0 : Int) ≤ -1 by omega)]
      refine (decide_eq_false fun hm => ?_).symm
      obtain ⟨j, hj, e⟩ := List.getElem_of_mem hm
      exact HA.out.1 j x (by rw [HLL.out]; exact hj) (by rw [List.getElem?_eq_getElem hj, e]) rfl
theorem containsS_any {B : Nat} {v : Value} {xs : List Int} {w : World} (h : NRd w B v xs) (x : Int) :
    Calls Tryz.prog 18 #[v, .int .i64 x] w fun e w' => e = .returned (.bool (decide (x ∈ xs))) ∧ Below w.heap.size w w' := by
  have hi := indexS_any h x
  clear h
  go_enter Tryz.func18, Tryz.ntmps18
  go_wp2_with fail
  refine hi.mono ?_
  rintro e w1 ⟨r, rfl, hr, hb⟩
  have HB := Lib.hid (And.intro hb hr)
  clear hi hb hr
  by_cases h0 : (0 : Int) ≤ r
  · go_wp2_with fail
    go_ret
    exact ⟨ret_bool (by rw [← HB.out.2] <;> simp [h0]), HB.out.1⟩
  · go_wp2_with fail
    go_ret
    exact ⟨ret_bool (by rw [← HB.out.2] <;> simp [h0]), HB.out.1⟩
end Go.Proofs.YtfgangkpebkicaaGreatDoor
