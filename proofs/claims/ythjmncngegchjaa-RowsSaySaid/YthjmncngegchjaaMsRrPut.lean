/-
  Joined by a program out of: RrPut.
-/
import Derived.Test.YthjmncngegchjaaMgAF
import Derived.Test.YthjmncngegchjaaMgAD

/-
  Contracts of the reference's PutBy and TakenBy.
-/
namespace Go.Proofs.Ythjmncngegchjaa
open Go.RowKit
set_option maxRecDepth 20000

/-- A place, or -1. -/
def atI : Option Nat → Int
  | none => -1
  | some k => k
theorem atI_neg {o : Option Nat} : atI o < 0 ↔ o = none := by
  cases o with
  | none => simp [atI]
  | some k => simp [atI]
theorem atI_some {o : Option Nat} (h : ¬ atI o < 0) : ∃ k : Nat, o = some k ∧ atI o = k := by
  cases o with
  | none => simp [atI] at h
  | some k => exact ⟨k, rfl, rfl⟩

set_option maxHeartbeats 2000000 in
theorem putBy_any (v : Int) {lv : Value} {cs : List Cl} {w : World} (h : CRd w w.heap.size lv cs) :
    Calls Try.prog 27 #[lv, .int .i64 v] w fun e w' => e = .returned (.int .i64 (atI (fAt (isE v) 0 cs))) ∧ Below w.heap.size w w' := by
  obtain ⟨A, cap, rfl, m1, m2⟩ := h.is
  unfold maxLen at m2
  obtain ⟨n, hn⟩ : ∃ n, n = cs.length := ⟨_, rfl⟩
  rw [← hn] at h m1 ⊢
  obtain ⟨Q, hQ⟩ : ∃ Q, Q = fAt (isE v) 0 cs := ⟨_, rfl⟩
  rw [← hQ]
  have HN := Lib.hid (And.intro hn (And.intro hQ h))
  have m3 : (n : Int) ≤ 9223372036854775807 := by omega
  clear h hn hQ m2
  go_enter Try.func27, Try.ntmps27
  go_wp2_with fail
  go_loopw [9] (fun i wr => ∃ k : Nat, k ≤ n ∧ i = .int .i64 k ∧ fAt (isE v) k (cs.drop k) = Q ∧ Below w.heap.size w wr) (fun i _ => n - (intOf i).toNat)
  case atStart => exact ⟨0, by omega, rfl, by rw [List.drop_zero, HN.out.2.1], Below.refl _ _⟩
  case round =>
    obtain ⟨k, hk, rfl, hq, hb⟩ := hrel
    by_cases hkn : k < n
    · obtain ⟨y, hy⟩ : ∃ y, cs[k]? = some y := ⟨_, List.getElem?_eq_getElem (by rw [← HN.out.1]; exact hkn)⟩
      have hdrop : cs.drop k = y :: cs.drop (k + 1) := by
        obtain ⟨h2, h3⟩ := List.getElem?_eq_some_iff.1 hy
        rw [List.drop_eq_getElem_cons h2, h3]
      rw [hdrop, fAt] at hq
      obtain ⟨g, o, rfl, -, d0, d1, d2, d3, d4, d5, d6⟩ := (HN.out.2.2.below hb).cl hy
      have hi := isE_iff (v := v) (c := y)
      obtain ⟨z, hz⟩ : ∃ z, z = isE v y := ⟨_, rfl⟩
      rw [← hz] at hq hi
      obtain ⟨y0, y1, y2, y3, y4, y5, y6⟩ := y
      simp only at d0 d1 d2 d3 d4 d5 d6 hi
      have i1 : (0 : Int) ≤ (k : Int) := by omega
      have i2 : (k : Int) < (n : Int) := by omega
      have HB := Lib.hid (hb.alloc hb.size (.cells #[.int .i64 y0, .int .i64 y1, .int .i64 y2, .int .i64 y3, .int .i64 y4, .int .i64 y5, .int .i64 y6] 49))
      have HQ := Lib.hid hq
      clear hy hdrop hz hb hq
      by_cases h1 : y2 = 3
      · subst h1
        by_cases h2 : y3 = v
        · subst h2
          obtain rfl : z = true := hi.2 ⟨rfl, rfl⟩
          have hqq := HQ.out
          rw [if_pos rfl] at hqq
          have HQQ := Lib.hid hqq
          clear hqq hi
          go_wp2_with fail
          go_ret
          exact ⟨by rw [← HQQ.out]; rfl, HB.out⟩
        · obtain rfl : z = false := Bool.eq_false_iff.2 fun h => h2 (hi.1 h).2
          have b2 : (y3 == v) = false := beq_eq_false_iff_ne.2 h2
          clear h2 hi
          go_wp2_with fail
          go_roundw
          case rel => exact ⟨k + 1, by omega, by go_num, by have := HQ.out; rwa [if_neg (by decide)] at this, HB.out⟩
          case measure => simp [intOf]; omega
      · obtain rfl : z = false := Bool.eq_false_iff.2 fun h => h1 (hi.1 h).1
        have b1 : (y2 == 3) = false := beq_eq_false_iff_ne.2 h1
        clear h1 hi
        go_wp2_with fail
        go_roundw
        case rel => exact ⟨k + 1, by omega, by go_num, by have := HQ.out; rwa [if_neg (by decide)] at this, HB.out⟩
        case measure => simp [intOf]; omega
    · obtain rfl : n = k := by omega
      rw [List.drop_eq_nil_of_le (by rw [← HN.out.1]; exact Nat.le_refl _), fAt] at hq
      have HQ := Lib.hid hq
      have HB := Lib.hid hb
      clear hq hb
      go_wp2_with fail
      go_ret
      exact ⟨by rw [← HQ.out]; rfl, HB.out⟩

set_option maxHeartbeats 2000000 in
theorem takenBy_any (v : Int) {lv : Value} {cs : List Cl} {w : World} (h : CRd w w.heap.size lv cs) :
    Calls Try.prog 28 #[lv, .int .i64 v] w fun e w' => e = .returned (.int .i64 (atI (fAt (isD v) 0 cs))) ∧ Below w.heap.size w w' := by
  obtain ⟨A, cap, rfl, m1, m2⟩ := h.is
  unfold maxLen at m2
  obtain ⟨n, hn⟩ : ∃ n, n = cs.length := ⟨_, rfl⟩
  rw [← hn] at h m1 ⊢
  obtain ⟨Q, hQ⟩ : ∃ Q, Q = fAt (isD v) 0 cs := ⟨_, rfl⟩
  rw [← hQ]
  have HN := Lib.hid (And.intro hn (And.intro hQ h))
  have m3 : (n : Int) ≤ 9223372036854775807 := by omega
  clear h hn hQ m2
  go_enter Try.func28, Try.ntmps28
  go_wp2_with fail
  go_loopw [9] (fun i wr => ∃ k : Nat, k ≤ n ∧ i = .int .i64 k ∧ fAt (isD v) k (cs.drop k) = Q ∧ Below w.heap.size w wr) (fun i _ => n - (intOf i).toNat)
  case atStart => exact ⟨0, by omega, rfl, by rw [List.drop_zero, HN.out.2.1], Below.refl _ _⟩
  case round =>
    obtain ⟨k, hk, rfl, hq, hb⟩ := hrel
    by_cases hkn : k < n
    · obtain ⟨y, hy⟩ : ∃ y, cs[k]? = some y := ⟨_, List.getElem?_eq_getElem (by rw [← HN.out.1]; exact hkn)⟩
      have hdrop : cs.drop k = y :: cs.drop (k + 1) := by
        obtain ⟨h2, h3⟩ := List.getElem?_eq_some_iff.1 hy
        rw [List.drop_eq_getElem_cons h2, h3]
      rw [hdrop, fAt] at hq
      obtain ⟨g, o, rfl, -, d0, d1, d2, d3, d4, d5, d6⟩ := (HN.out.2.2.below hb).cl hy
      have hi := isD_iff (v := v) (c := y)
      obtain ⟨z, hz⟩ : ∃ z, z = isD v y := ⟨_, rfl⟩
      rw [← hz] at hq hi
      obtain ⟨y0, y1, y2, y3, y4, y5, y6⟩ := y
      simp only at d0 d1 d2 d3 d4 d5 d6 hi
      have i1 : (0 : Int) ≤ (k : Int) := by omega
      have i2 : (k : Int) < (n : Int) := by omega
      have HB := Lib.hid (hb.alloc hb.size (.cells #[.int .i64 y0, .int .i64 y1, .int .i64 y2, .int .i64 y3, .int .i64 y4, .int .i64 y5, .int .i64 y6] 49))
      have HQ := Lib.hid hq
      clear hy hdrop hz hb hq
      by_cases h1 : y2 = 4
      · subst h1
        by_cases h2 : y4 = v
        · subst h2
          obtain rfl : z = true := hi.2 ⟨rfl, rfl⟩
          have hqq := HQ.out
          rw [if_pos rfl] at hqq
          have HQQ := Lib.hid hqq
          clear hqq hi
          go_wp2_with fail
          go_ret
          exact ⟨by rw [← HQQ.out]; rfl, HB.out⟩
        · obtain rfl : z = false := Bool.eq_false_iff.2 fun h => h2 (hi.1 h).2
          have b2 : (y4 == v) = false := beq_eq_false_iff_ne.2 h2
          clear h2 hi
          go_wp2_with fail
          go_roundw
          case rel => exact ⟨k + 1, by omega, by go_num, by have := HQ.out; rwa [if_neg (by decide)] at this, HB.out⟩
          case measure => simp [intOf]; omega
      · obtain rfl : z = false := Bool.eq_false_iff.2 fun h => h1 (hi.1 h).1
        have b1 : (y2 == 4) = false := beq_eq_false_iff_ne.2 h1
        clear h1 hi
        go_wp2_with fail
        go_roundw
        case rel => exact ⟨k + 1, by omega, by go_num, by have := HQ.out; rwa [if_neg (by decide)] at this, HB.out⟩
        case measure => simp [intOf]; omega
    · obtain rfl : n = k := by omega
      rw [List.drop_eq_nil_of_le (by rw [← HN.out.1]; exact Nat.le_refl _), fAt] at hq
      have HQ := Lib.hid hq
      have HB := Lib.hid hb
      clear hq hb
      go_wp2_with fail
      go_ret
      exact ⟨by rw [← HQ.out]; rfl, HB.out⟩
end Go.Proofs.Ythjmncngegchjaa
