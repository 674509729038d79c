/-
  Contracts of the small functions of package history and of its reference: ranges, kinds, what may be asked and answered.
-/
import Derived.Test.YtphhbojdolhieaaLRd
namespace Go.Proofs.Ytphhbojdolhieaa
open Go.RowKit
set_option maxRecDepth 20000
theorem within_any (n a b : Int) (w : World) : Calls Try.prog 47 #[.int .i64 n, .int .i64 a, .int .i64 b] w fun e w' => e = .returned (.bool (btw a n b)) ∧ w = w' := by
  by_cases h1 : a ≤ n
  · by_cases h2 : n ≤ b
    · have h : btw a n b = true := btw_iff.2 ⟨h1, h2⟩
      rw [h]
      clear h
      go_enter Try.func47, Try.ntmps47
      go_wp2
      go_ret
      exact ⟨rfl, rfl⟩
    · have h : btw a n b = false := btw_not.2 fun h => h2 h.2
      rw [h]
      clear h
      go_enter Try.func47, Try.ntmps47
      go_wp2
      go_ret
      exact ⟨rfl, rfl⟩
  · have h : btw a n b = false := btw_not.2 fun h => h1 h.1
    rw [h]
    clear h
    go_enter Try.func47, Try.ntmps47
    go_wp2
    go_ret
    exact ⟨rfl, rfl⟩
theorem within_yes {n a b : Int} (w : World) (h : a ≤ n ∧ n ≤ b) : Calls Try.prog 47 #[.int .i64 n, .int .i64 a, .int .i64 b] w fun e w' => e = .returned (.bool true) ∧ w = w' := by
  have := within_any n a b w
  rwa [btw_iff.2 h] at this
theorem within_no {n a b : Int} (w : World) (h : ¬ (a ≤ n ∧ n ≤ b)) : Calls Try.prog 47 #[.int .i64 n, .int .i64 a, .int .i64 b] w fun e w' => e = .returned (.bool false) ∧ w = w' := by
  have := within_any n a b w
  rwa [btw_not.2 h] at this
theorem kind_ways (k : Int) : k = 1 ∨ k = 2 ∨ k = 3 ∨ k = 4 ∨ k = 5 ∨ k = 6 ∨ k = 7 ∨ k = 8 ∨ k = 9 ∨ k = 10 ∨
    ((k == 1) = false ∧ (k == 2) = false ∧ (k == 3) = false ∧ (k == 4) = false ∧ (k == 5) = false ∧ (k == 6) = false ∧ (k == 7) = false ∧ (k == 8) = false ∧ (k == 9) = false ∧ (k == 10) = false) := by
  simp only [beq_eq_false_iff_ne]
  omega
theorem kindType_other {k : Int} (h : (k == 1) = false ∧ (k == 2) = false ∧ (k == 3) = false ∧ (k == 4) = false ∧ (k == 5) = false ∧ (k == 6) = false ∧ (k == 7) = false ∧ (k == 8) = false ∧ (k == 9) = false ∧ (k == 10) = false) : kindType k = 0 := by
  simp only [beq_eq_false_iff_ne] at h
  unfold kindType
  (repeat' split) <;> omega
theorem takes_other {k v : Int} (h : (k == 1) = false ∧ (k == 2) = false ∧ (k == 3) = false ∧ (k == 4) = false ∧ (k == 5) = false ∧ (k == 6) = false ∧ (k == 7) = false ∧ (k == 8) = false ∧ (k == 9) = false ∧ (k == 10) = false) : takesB k v = (v == 0) := by
  simp only [beq_eq_false_iff_ne] at h
  unfold takesB
  split
  · omega
  · rfl
theorem gives_other {k v : Int} (h : (k == 1) = false ∧ (k == 2) = false ∧ (k == 3) = false ∧ (k == 4) = false ∧ (k == 5) = false ∧ (k == 6) = false ∧ (k == 7) = false ∧ (k == 8) = false ∧ (k == 9) = false ∧ (k == 10) = false) : givesB k v = (v == 0) := by
  simp only [beq_eq_false_iff_ne] at h
  unfold givesB
  (repeat' split) <;> first | omega | rfl
set_option maxHeartbeats 1000000 in
theorem typeOf_any (k : Int) (w : World) : Calls Try.prog 60 #[.int .i64 k] w fun e w' => e = .returned (.int .i64 (kindType k)) ∧ w = w' := by
  rcases kind_ways k with rfl | rfl | rfl | rfl | rfl | rfl | rfl | rfl | rfl | rfl | h
  all_goals try (
    go_enter Try.func60, Try.ntmps60
    go_wp2
    go_ret
    exact ⟨rfl, rfl⟩)
  rw [kindType_other h]
  obtain ⟨h1, h2, h3, h4, h5, h6, h7, h8, h9, h10⟩ := h
  go_enter Try.func60, Try.ntmps60
  go_wp2
  go_ret
  exact ⟨rfl, rfl⟩
set_option maxHeartbeats 2000000 in
theorem takes_any (k v : Int) (w : World) : Calls Try.prog 56 #[.int .i64 k, .int .i64 v] w fun e w' => e = .returned (.bool (takesB k v)) ∧ w = w' := by
  rcases kind_ways k with rfl | rfl | rfl | rfl | rfl | rfl | rfl | rfl | rfl | rfl | h
  all_goals try (
    show Calls _ _ _ _ fun e w' => e = .returned (.bool (btw 1 v 1000)) ∧ w = w'
    go_enter Try.func56, Try.ntmps56
    go_wp2_with (go_at_call 47; (with_reducible refine (within_any _ _ _ _).mono ?_); rintro e w' ⟨rfl, rfl⟩)
    go_ret
    exact ⟨rfl, rfl⟩)
  all_goals try (
    show Calls _ _ _ _ fun e w' => e = .returned (.bool (v == 0)) ∧ w = w'
    generalize hv : (v == 0) = d
    go_enter Try.func56, Try.ntmps56
    go_wp2
    go_ret
    exact ⟨rfl, rfl⟩)
  rw [takes_other h]
  obtain ⟨h1, h2, h3, h4, h5, h6, h7, h8, h9, h10⟩ := h
  generalize hv : (v == 0) = d
  go_enter Try.func56, Try.ntmps56
  go_wp2
  go_ret
  exact ⟨rfl, rfl⟩
set_option maxHeartbeats 2000000 in
theorem gives_any (k v : Int) (w : World) : Calls Try.prog 54 #[.int .i64 k, .int .i64 v] w fun e w' => e = .returned (.bool (givesB k v)) ∧ w = w' := by
  rcases kind_ways k with rfl | rfl | rfl | rfl | rfl | rfl | rfl | rfl | rfl | rfl | h
  all_goals try (
    show Calls _ _ _ _ fun e w' => e = .returned (.bool (btw 0 v 1000)) ∧ w = w'
    go_enter Try.func54, Try.ntmps54
    go_wp2_with (go_at_call 47; (with_reducible refine (within_any _ _ _ _).mono ?_); rintro e w' ⟨rfl, rfl⟩)
    go_ret
    exact ⟨rfl, rfl⟩)
  all_goals try (
    show Calls _ _ _ _ fun e w' => e = .returned (.bool (btw 0 v 1)) ∧ w = w'
    go_enter Try.func54, Try.ntmps54
    go_wp2_with (go_at_call 47; (with_reducible refine (within_any _ _ _ _).mono ?_); rintro e w' ⟨rfl, rfl⟩)
    go_ret
    exact ⟨rfl, rfl⟩)
  all_goals try (
    show Calls _ _ _ _ fun e w' => e = .returned (.bool (v == 0)) ∧ w = w'
    generalize hv : (v == 0) = d
    go_enter Try.func54, Try.ntmps54
    go_wp2
    go_ret
    exact ⟨rfl, rfl⟩)
  all_goals try (
    show Calls _ _ _ _ fun e w' => e = .returned (.bool (v == -1 || btw 1 v 1000)) ∧ w = w'
    by_cases h1 : v = -1
    · subst h1
      go_enter Try.func54, Try.ntmps54
      go_wp2
      go_ret
      exact ⟨rfl, rfl⟩
    · have hz : (v == -1) = false := by rw [beq_eq_false_iff_ne]; exact h1
      rw [hz, Bool.false_or]
      clear h1
      go_enter Try.func54, Try.ntmps54
      go_wp2_with (go_at_call 47; (with_reducible refine (within_any _ _ _ _).mono ?_); rintro e w' ⟨rfl, rfl⟩)
      go_ret
      exact ⟨rfl, rfl⟩)
  rw [gives_other h]
  obtain ⟨h1, h2, h3, h4, h5, h6, h7, h8, h9, h10⟩ := h
  generalize hv : (v == 0) = d
  go_enter Try.func54, Try.ntmps54
  go_wp2
  go_ret
  exact ⟨rfl, rfl⟩
theorem fits_any (t k : Int) (w : World) : Calls Try.prog 55 #[.int .i64 t, .int .i64 k] w fun e w' => e = .returned (.bool (fitsB t k)) ∧ w = w' := by
  by_cases h : t = 0
  · subst h
    have e : fitsB 0 k = false := by simp [fitsB]
    rw [e]
    go_enter Try.func55, Try.ntmps55
    go_wp2
    go_ret
    exact ⟨rfl, rfl⟩
  · have hz : (t != 0) = true := by rw [bne_iff_ne]; exact h
    have e : fitsB t k = (t == kindType k) := by
      unfold fitsB
      rw [Bool.eq_iff_iff, decide_eq_true_iff, beq_iff_eq]
      exact ⟨fun h => h.2, fun h' => ⟨h, h'⟩⟩
    rw [e]
    clear h e
    generalize hd : (t == kindType k) = d
    go_enter Try.func55, Try.ntmps55
    go_wp2_with (go_at_call 60; (with_reducible refine (typeOf_any _ _).mono ?_); rintro e w' ⟨rfl, rfl⟩)
    go_ret
    exact ⟨rfl, rfl⟩
end Go.Proofs.Ytphhbojdolhieaa
