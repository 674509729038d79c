/-
  Contract of order.Check.
-/
import Derived.Test.YtndcgliopckllaaHas
namespace Go.Proofs.Ytndcgliopckllaa
open Go.RowKit
set_option maxRecDepth 20000

/-- A relation as a value: the number of items, and a set for each of twelve. -/
abbrev relV (n : Int) (a : Nat → Nat) : Value := .agg #[.int .i64 n, .int .u16 (a 0), .int .u16 (a 1), .int .u16 (a 2), .int .u16 (a 3), .int .u16 (a 4), .int .u16 (a 5), .int .u16 (a 6), .int .u16 (a 7), .int .u16 (a 8), .int .u16 (a 9), .int .u16 (a 10), .int .u16 (a 11)]
abbrev rowsV (a : Nat → Nat) : Value := .agg #[.int .u16 (a 0), .int .u16 (a 1), .int .u16 (a 2), .int .u16 (a 3), .int .u16 (a 4), .int .u16 (a 5), .int .u16 (a 6), .int .u16 (a 7), .int .u16 (a 8), .int .u16 (a 9), .int .u16 (a 10), .int .u16 (a 11)]

theorem idx12 (a : Nat → Nat) (k : Nat) (hk : k < 12) (w : World) :
    (Instr.index 39 (rowsV a) (.int .i64 k)).run Try.prog w = .ok (.int .u16 (a k)) w := by
  have h : k = 0 ∨ k = 1 ∨ k = 2 ∨ k = 3 ∨ k = 4 ∨ k = 5 ∨ k = 6 ∨ k = 7 ∨ k = 8 ∨ k = 9 ∨ k = 10 ∨ k = 11 := by omega
  clear hk
  rcases h with rfl | rfl | rfl | rfl | rfl | rfl | rfl | rfl | rfl | rfl | rfl | rfl <;> rfl

theorem check_arg (n : Int) (a : Nat → Nat) (w : World) (h : n < 0 ∨ 12 < n) :
    Calls Try.prog 41 #[relV n a] w fun e w' => e = .returned (.int .i64 1) ∧ Below w.heap.size w w' := by
  rcases h with h | h
  · go_enter Try.func41, Try.ntmps41
    go_wp2
    go_ret
    exact ⟨rfl, (Below.refl _ _).alloc (Nat.le_refl _) _⟩
  · have h' : ¬ n < 0 := by omega
    go_enter Try.func41, Try.ntmps41
    go_wp2
    go_ret
    exact ⟨rfl, (Below.refl _ _).alloc (Nat.le_refl _) _⟩

/-- What is wrong with a row: a bit from n on, or a row from n on that is not empty. -/
def rowBad (n i x : Nat) : Bool := (x &&& (65535 - (2 ^ n - 1))) != 0 || (decide (n ≤ i) && x != 0)

theorem andNot_val (n x : Nat) (hn : n ≤ 12) (hx : x < 65536) : (bits BinOp.andNot IntKind.u16 (x : Int) ((2 ^ n - 1 : Nat) : Int) != 0) = ((x &&& (65535 - (2 ^ n - 1))) != 0) := by
  have h2 : 2 ^ n < 65536 := Nat.lt_of_le_of_lt (Nat.pow_le_pow_right (by omega) hn) (by decide)
  rw [u16_andNot_nat _ _ hx (by omega), Bool.eq_iff_iff, bne_iff_ne, bne_iff_ne]
  omega

theorem check_ok (n : Nat) (a : Nat → Nat) (w : World) (hn : n ≤ 12) (ha : ∀ i, i < 12 → a i < 65536) (hg : ∀ i, i < 12 → rowBad n i (a i) = false) :
    Calls Try.prog 41 #[relV n a] w fun e w' => e = .returned (.int .i64 0) ∧ Below w.heap.size w w' := by
  have h0 : ¬ (n : Int) < 0 := by omega
  have h1 : ¬ 12 < (n : Int) := by omega
  go_enter Try.func41, Try.ntmps41
  go_wp2
  go_loop [15] (fun i => ∃ k : Nat, k ≤ 12 ∧ i = .int .i64 k) (fun i => 12 - (intOf i).toNat)
  case atStart => exact ⟨0, by omega, rfl⟩
  case round =>
    obtain ⟨k, hk, rfl⟩ := hrel
    by_cases hlt : k < 12
    · have hi := idx12 a k hlt
      have hv := andNot_val n (a k) hn (ha k hlt)
      have hb := hg k hlt
      unfold rowBad at hb
      rw [Bool.or_eq_false_iff, Bool.and_eq_false_iff] at hb
      obtain ⟨hb1, hb2⟩ := hb
      rw [hb1] at hv
      clear hb1
      have hz : n ≤ k → ((a k : Int) != 0) = false := by
        intro h
        rcases hb2 with h' | h'
        · simp at h'; omega
        · rw [bne_eq_false_iff_eq] at h' ⊢; omega
      clear hb2
      by_cases hnk : n ≤ k
      · have hz' := hz hnk
        clear hz
        go_wp2_with (go_at_call 46; refine (first_any n _ (by omega)).mono ?_; rintro e w' ⟨rfl, rfl⟩)
        go_round
        case rel => exact ⟨k + 1, by omega, by go_num⟩
        case measure => simp [intOf]; omega
      · clear hz
        go_wp2_with (go_at_call 46; refine (first_any n _ (by omega)).mono ?_; rintro e w' ⟨rfl, rfl⟩)
        go_round
        case rel => exact ⟨k + 1, by omega, by go_num⟩
        case measure => simp [intOf]; omega
    · go_wp2
      go_ret
      exact ⟨rfl, (Below.refl _ _).alloc (Nat.le_refl _) _⟩

theorem check_form (n : Nat) (a : Nat → Nat) (w : World) (hn : n ≤ 12) (ha : ∀ i, i < 12 → a i < 65536) (m : Nat) (hm : m < 12) (hmb : rowBad n m (a m) = true) :
    Calls Try.prog 41 #[relV n a] w fun e w' => e = .returned (.int .i64 3) ∧ Below w.heap.size w w' := by
  have h0 : ¬ (n : Int) < 0 := by omega
  have h1 : ¬ 12 < (n : Int) := by omega
  go_enter Try.func41, Try.ntmps41
  go_wp2
  go_loop [15] (fun i => ∃ k : Nat, k ≤ m ∧ i = .int .i64 k) (fun i => 12 - (intOf i).toNat)
  case atStart => exact ⟨0, by omega, rfl⟩
  case round =>
    obtain ⟨k, hk, rfl⟩ := hrel
    have hlt : k < 12 := by omega
    have hi := idx12 a k hlt
    have hv := andNot_val n (a k) hn (ha k hlt)
    by_cases hb1 : ((a k &&& (65535 - (2 ^ n - 1))) != 0) = true
    · rw [hb1] at hv
      clear hb1 hmb
      go_wp2_with (go_at_call 46; refine (first_any n _ (by omega)).mono ?_; rintro e w' ⟨rfl, rfl⟩)
      go_ret
      exact ⟨rfl, (Below.refl _ _).alloc (Nat.le_refl _) _⟩
    · rw [Bool.not_eq_true] at hb1
      rw [hb1] at hv
      by_cases hnk : n ≤ k
      · by_cases hz : a k = 0
        · have hkm : k < m := by
            rcases Nat.lt_or_ge k m with h | h
            · exact h
            · exfalso
              have : k = m := by omega
              subst this
              unfold rowBad at hmb
              rw [hb1, hz] at hmb
              simp at hmb
          have hz' : ((a k : Int) != 0) = false := by rw [bne_eq_false_iff_eq]; omega
          clear hb1 hmb hz
          go_wp2_with (go_at_call 46; refine (first_any n _ (by omega)).mono ?_; rintro e w' ⟨rfl, rfl⟩)
          go_round
          case rel => exact ⟨k + 1, by omega, by go_num⟩
          case measure => simp [intOf]; omega
        · have hz' : ((a k : Int) != 0) = true := by rw [bne_iff_ne]; omega
          clear hb1 hmb hz
          go_wp2_with (go_at_call 46; refine (first_any n _ (by omega)).mono ?_; rintro e w' ⟨rfl, rfl⟩)
          go_ret
          exact ⟨rfl, (Below.refl _ _).alloc (Nat.le_refl _) _⟩
      · have hkm : k < m := by
          rcases Nat.lt_or_ge k m with h | h
          · exact h
          · exfalso
            have : k = m := by omega
            subst this
            unfold rowBad at hmb
            rw [hb1] at hmb
            simp at hmb
            omega
        clear hb1 hmb
        go_wp2_with (go_at_call 46; refine (first_any n _ (by omega)).mono ?_; rintro e w' ⟨rfl, rfl⟩)
        go_round
        case rel => exact ⟨k + 1, by omega, by go_num⟩
        case measure => simp [intOf]; omega
end Go.Proofs.Ytndcgliopckllaa
