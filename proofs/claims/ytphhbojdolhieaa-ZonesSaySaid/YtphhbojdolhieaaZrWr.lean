/-
  Contract of the reference's writeOf.
-/
import Derived.Test.YtphhbojdolhieaaHistSmall
import Derived.Test.YtphhbojdolhieaaZonePure
namespace Go.Proofs.Ytphhbojdolhieaa
open Go.RowKit
set_option maxRecDepth 20000

set_option maxHeartbeats 2000000 in
theorem writeOf_any (v : Int) {lv : Value} {cs : List Cl} {w : World} (h : CRd w w.heap.size lv cs) :
    Calls Try.prog 31 #[lv, .int .i64 v] w fun e w' => e = .returned (.tuple #[.int .i64 (((wAt v 0 cs).getD 0 : Nat) : Int), .bool (wAt v 0 cs).isSome]) ∧ Below w.heap.size w w' := by
  obtain ⟨A, cap, rfl, m1, m2⟩ := h.is
  unfold maxLen at m2
  obtain ⟨n, hn⟩ : ∃ n, n = cs.length := ⟨_, rfl⟩
  rw [← hn] at h m1 ⊢
  obtain ⟨Q, hQ⟩ : ∃ Q, Q = wAt v 0 cs := ⟨_, rfl⟩
  rw [← hQ]
  have HN := Lib.hid (And.intro hn (And.intro hQ h))
  have m3 : (n : Int) ≤ 9223372036854775807 := by omega
  clear h hn hQ m2
  go_enter Try.func31, Try.ntmps31
  go_wp2_with fail
  go_loopw [10] (fun i wr => ∃ k : Nat, k ≤ n ∧ i = .int .i64 k ∧ wAt v k (cs.drop k) = Q ∧ Below w.heap.size w wr) (fun i _ => n - (intOf i).toNat)
  case atStart => exact ⟨0, by omega, rfl, by rw [List.drop_zero, HN.out.2.1], Below.refl _ _⟩
  case round =>
    obtain ⟨k, hk, rfl, hq, hb⟩ := hrel
    by_cases hkn : k < n
    · obtain ⟨y, hy⟩ : ∃ y, cs[k]? = some y := ⟨_, List.getElem?_eq_getElem (by rw [← HN.out.1]; exact hkn)⟩
      have hdrop : cs.drop k = y :: cs.drop (k + 1) := by
        obtain ⟨h2, h3⟩ := List.getElem?_eq_some_iff.1 hy
        rw [List.drop_eq_getElem_cons h2, h3]
      rw [hdrop, wAt] at hq
      obtain ⟨g, o, rfl, -, d0, d1, d2, d3, d4, d5, d6⟩ := (HN.out.2.2.below hb).cl hy
      have hi := isW_iff (v := v) (c := y)
      obtain ⟨z, hz⟩ : ∃ z, z = isW v y := ⟨_, rfl⟩
      rw [← hz] at hq hi
      obtain ⟨y0, y1, y2, y3, y4, y5, y6⟩ := y
      simp only at d0 d1 d2 d3 d4 d5 d6 hi
      have i1 : (0 : Int) ≤ (k : Int) := by omega
      have i2 : (k : Int) < (n : Int) := by omega
      have HB := Lib.hid (hb.alloc hb.size (.cells #[.int .i64 y0, .int .i64 y1, .int .i64 y2, .int .i64 y3, .int .i64 y4, .int .i64 y5, .int .i64 y6] 47))
      have HQ := Lib.hid hq
      clear hy hdrop hz hb hq
      by_cases h1 : y2 = 1
      · subst h1
        by_cases h2 : y3 = v
        · subst h2
          obtain rfl : z = true := hi.2 ⟨rfl, rfl⟩
          have hqq := HQ.out
          rw [if_pos rfl] at hqq
          have HQQ := Lib.hid hqq
          clear hqq hi
          go_wp2_with fail
          go_ret2
          exact ⟨by rw [← HQQ.out]; rfl, HB.out⟩
        · obtain rfl : z = false := Bool.eq_false_iff.2 fun h => h2 (hi.1 h).2
          have b2 : (y3 == v) = false := beq_eq_false_iff_ne.2 h2
          clear h2 hi
          go_wp2_with fail
          go_roundw
          case rel => exact ⟨k + 1, by omega, by go_num, by have := HQ.out; rwa [if_neg (by decide)] at this, HB.out⟩
          case measure => simp [intOf]; omega
      · obtain rfl : z = false := Bool.eq_false_iff.2 fun h => h1 (hi.1 h).1
        have b1 : (y2 == 1) = false := beq_eq_false_iff_ne.2 h1
        clear h1 hi
        go_wp2_with fail
        go_roundw
        case rel => exact ⟨k + 1, by omega, by go_num, by have := HQ.out; rwa [if_neg (by decide)] at this, HB.out⟩
        case measure => simp [intOf]; omega
    · obtain rfl : n = k := by omega
      rw [List.drop_eq_nil_of_le (by rw [← HN.out.1]; exact Nat.le_refl _), wAt] at hq
      have HQ := Lib.hid hq
      have HB := Lib.hid hb
      clear hq hb
      go_wp2_with fail
      go_ret2
      exact ⟨by rw [← HQ.out]; rfl, HB.out⟩
end Go.Proofs.Ytphhbojdolhieaa
