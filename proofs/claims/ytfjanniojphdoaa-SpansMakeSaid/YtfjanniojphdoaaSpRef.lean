/-
  Contracts of the reference's functions for spans: Between, SpansRight, SpanRel.
-/
import Derived.Test.YtfjanniojphdoaaSpOf
namespace Go.Proofs.Ytfjanniojphdoaa
open Go.RowKit
set_option maxRecDepth 20000

theorem between_any (x lo hi : Int) (w : World) :
    Calls Try.prog 11 #[.int .i64 x, .int .i64 lo, .int .i64 hi] w fun e w' => e = .returned (.bool (decide (lo ≤ x ∧ x ≤ hi))) ∧ w = w' := by
  by_cases h1 : lo ≤ x
  · by_cases h2 : x ≤ hi
    · have e : decide (lo ≤ x ∧ x ≤ hi) = true := decide_eq_true ⟨h1, h2⟩
      rw [e]
      clear e
      go_enter Try.func11, Try.ntmps11
      go_wp2
      go_ret
      exact ⟨rfl, rfl⟩
    · have e : decide (lo ≤ x ∧ x ≤ hi) = false := decide_eq_false fun h => h2 h.2
      rw [e]
      clear e
      go_enter Try.func11, Try.ntmps11
      go_wp2
      go_ret
      exact ⟨rfl, rfl⟩
  · have e : decide (lo ≤ x ∧ x ≤ hi) = false := decide_eq_false fun h => h1 h.1
    rw [e]
    clear e
    go_enter Try.func11, Try.ntmps11
    go_wp2
    go_ret
    exact ⟨rfl, rfl⟩

set_option maxHeartbeats 1000000 in
theorem right_any {B m : Nat} {v : Value} {F T : Nat → Int} {w : World} (h : SRd w B v m F T) (hB : B ≤ w.heap.size) :
    Calls Try.prog 9 #[v] w fun e w' => e = .returned (.int .i64 (spErr m F T)) ∧ Below w.heap.size w w' := by
  by_cases hm : 12 < m
  · obtain ⟨A, c, rfl, k⟩ := h
    clear k
    have e : spErr m F T = 2 := if_pos hm
    rw [e]
    have h1 : 12 < (m : Int) := by omega
    go_enter Try.func9, Try.ntmps9
    go_wp2_with fail
    go_ret
    exact ⟨rfl, Below.refl _ _⟩
  have e : spErr m F T = if spAll F T m = true then 0 else 3 := if_neg hm
  obtain ⟨A, c, rfl⟩ := h.is
  have H := Lib.hid (And.intro h (And.intro hB e))
  have h1 : ¬ 12 < (m : Int) := by omega
  clear e hB h
  go_enter Try.func9, Try.ntmps9
  go_wp2_with fail
  go_loopw [10] (fun i wr => ∃ k : Nat, k ≤ m ∧ i = .int .i64 k ∧ spAll F T k = true ∧ Below w.heap.size w wr) (fun i _ => m - (intOf i).toNat)
  case atStart => exact ⟨0, by omega, rfl, rfl, Below.refl _ _⟩
  case round =>
    obtain ⟨k, hk, rfl, ha, hb⟩ := hrel
    have HA := Lib.hid (And.intro ha hb)
    by_cases hkm : k < m
    · obtain ⟨g, o, rfl, hg⟩ := H.out.1.addr (by omega)
      obtain ⟨d1, d2⟩ := (H.out.1.below (hb.mono H.out.2.1)).cells hkm
      clear hb ha hg
      have i1 : (0 : Int) ≤ (k : Int) := by omega
      have i2 : (k : Int) < (m : Int) := by omega
      generalize hf : F k = f at d1
      generalize ht : T k = t at d2
      have HF := Lib.hid (And.intro hf ht)
      clear hf ht
      by_cases h2 : 0 ≤ f ∧ f ≤ 1000000
      · have e1 : decide (0 ≤ f ∧ f ≤ 1000000) = true := decide_eq_true h2
        by_cases h3 : f ≤ t ∧ t ≤ 1000000
        · have e2 : decide (f ≤ t ∧ t ≤ 1000000) = true := decide_eq_true h3
          have HN := Lib.hid (spOk_at HF.out.1 HF.out.2 (decide_eq_true ⟨h2.1, h3⟩))
          clear h2 h3
          go_wp2_with fail
          refine (between_any f 0 1000000 _).mono ?_
          rintro e w' ⟨rfl, rfl⟩
          rw [e1]
          go_wp2_with fail
          refine (between_any t f 1000000 _).mono ?_
          rintro e w' ⟨rfl, rfl⟩
          rw [e2]
          go_wp2_with fail
          go_roundw
          case rel => exact ⟨k + 1, by omega, by go_num, by rw [spAll, HA.out.1, HN.out]; rfl, HA.out.2.alloc HA.out.2.size _⟩
          case measure => simp [intOf]; omega
        · have e2 : decide (f ≤ t ∧ t ≤ 1000000) = false := decide_eq_false h3
          have HN := Lib.hid (spOk_at HF.out.1 HF.out.2 (decide_eq_false (p := 0 ≤ f ∧ f ≤ t ∧ t ≤ 1000000) fun h => h3 h.2))
          clear h2 h3
          go_wp2_with fail
          refine (between_any f 0 1000000 _).mono ?_
          rintro e w' ⟨rfl, rfl⟩
          rw [e1]
          go_wp2_with fail
          refine (between_any t f 1000000 _).mono ?_
          rintro e w' ⟨rfl, rfl⟩
          rw [e2]
          go_wp2_with fail
          go_ret
          exact ⟨ret_int (H.out.2.2.trans (if_neg (spAll_not hkm HN.out))).symm, HA.out.2.alloc HA.out.2.size _⟩
      · have e1 : decide (0 ≤ f ∧ f ≤ 1000000) = false := decide_eq_false h2
        have HN := Lib.hid (spOk_at HF.out.1 HF.out.2 (decide_eq_false (p := 0 ≤ f ∧ f ≤ t ∧ t ≤ 1000000) fun h => h2 ⟨h.1, by omega⟩))
        clear h2
        go_wp2_with fail
        refine (between_any f 0 1000000 _).mono ?_
        rintro e w' ⟨rfl, rfl⟩
        rw [e1]
        go_wp2_with fail
        go_ret
        exact ⟨ret_int (H.out.2.2.trans (if_neg (spAll_not hkm HN.out))).symm, HA.out.2.alloc HA.out.2.size _⟩
    · obtain rfl : k = m := by omega
      go_wp2_with fail
      go_ret
      exact ⟨ret_int (H.out.2.2.trans (if_pos HA.out.1)).symm, HA.out.2⟩

theorem add_or (x j : Nat) (hx : x < 2 ^ j) : x + 2 ^ j = x ||| 2 ^ j := by
  have := Nat.two_pow_add_eq_or_of_lt hx 1
  rw [Nat.mul_one] at this
  rw [Nat.or_comm, ← this, Nat.add_comm]
theorem add_pow (x j : Nat) (hx : x < 2 ^ j) (hj : j ≤ 15) : IntKind.u16.wrap ((x : Int) + (2 : Int) ^ j) = ((x ||| 2 ^ j : Nat) : Int) := by
  have h2 : 2 ^ (j + 1) ≤ 65536 := Nat.le_trans (Nat.pow_le_pow_right (by omega) (by omega : j + 1 ≤ 16)) (by decide)
  rw [show ((2 : Int) ^ j) = ((2 ^ j : Nat) : Int) from by simp, ← Int.natCast_add, add_or x j hx]
  refine wrap_u16_nat _ (Nat.lt_of_lt_of_le (Nat.or_lt_two_pow (Nat.lt_trans hx (Nat.pow_lt_pow_right (by omega) (by omega))) (Nat.pow_lt_pow_right (by omega) (by omega))) h2)
theorem oAt_row_lt (m : Nat) (F T : Nat → Int) (k j : Nat) : oAt m F T k j k < 2 ^ j := by
  unfold oAt
  rw [if_neg (by omega), if_pos rfl]
  exact pickS_lt _ _

set_option maxHeartbeats 2000000 in
theorem srel_any {B m : Nat} {v : Value} {F T : Nat → Int} {w : World} (h : SRd w B v m F T) (hB : B ≤ w.heap.size) (hm : m ≤ 12) :
    Calls Try.prog 12 #[v] w fun e w' => e = .returned (relV m (spRel m F T)) ∧ Below w.heap.size w w' := by
  obtain ⟨A, c, rfl⟩ := h.is
  have H := Lib.hid (And.intro h hB)
  clear h hB
  have hO : ORel w w.heap.size (w.heap.size + 1) m (oAt m F T 0 0) ((w.alloc (.cells (relCs 0 fun _ => 0) 26)).alloc (.cells (relCs m fun _ => 0) 26)) := by
    rw [oAt_none]
    have h3 := Lies.new (w.alloc (.cells (relCs 0 fun _ => 0) 26)) 26 (relCs m fun _ => 0)
    rw [World.size_alloc] at h3
    exact ⟨((Below.refl _ _).alloc (Nat.le_refl _) _).alloc (by simp) _, Lies.alloc (Lies.new _ _ _) _, h3, Nat.le_refl _, by omega⟩
  have HO := Lib.hid hO
  clear hO
  go_enter Try.func12, Try.ntmps12
  go_wp2_with fail
  have hO := HO.out
  clear HO
  change Code.wp _ _ _ _ ((w.alloc (.cells (relCs 0 fun _ => 0) 26)).alloc (.cells (relCs m fun _ => 0) 26))
  generalize (w.alloc (.cells (relCs 0 fun _ => 0) 26)).alloc (.cells (relCs m fun _ => 0) 26) = W at hO ⊢
  generalize w.heap.size + 1 = G at hO ⊢
  go_loopw [11] (fun i wr => ∃ k : Nat, k ≤ m ∧ i = .int .i64 k ∧ ORel w w.heap.size G m (oAt m F T k 0) wr) (fun i _ => m - (intOf i).toNat)
  case atStart => exact ⟨0, by omega, rfl, hO⟩
  case round =>
    clear hO
    obtain ⟨k, hk, rfl, hO⟩ := hrel
    by_cases hkm : k < m
    · obtain ⟨g, o, rfl, hg⟩ := H.out.1.addr (by omega)
      have HO := Lib.hid hO
      clear hg hO
      have i1 : (0 : Int) ≤ (k : Int) := by omega
      have i2 : (k : Int) < (m : Int) := by omega
      have k12 : (k : Int) < 12 := by omega
      go_wp2_with fail
      obtain ⟨wo, rfl⟩ : ∃ wo : World, wo = wr := ⟨_, rfl⟩
      go_loopw [16] (fun i wr => ∃ j : Nat, j ≤ m ∧ i = .int .i64 j ∧ ORel w w.heap.size G m (oAt m F T k j) wr) (fun i _ => m - (intOf i).toNat)
      case atStart => exact ⟨0, by omega, rfl, HO.out⟩
      case round =>
        clear HO
        obtain ⟨j, hj, rfl, hO⟩ := hrel
        by_cases hjm : j < m
        · have hb := hO.below
          obtain ⟨d1, _⟩ := (H.out.1.below (hb.mono H.out.2)).cells hjm
          obtain ⟨_, d2⟩ := (H.out.1.below (hb.mono H.out.2)).cells hkm
          have hk12 : k < 12 := by omega
          have hst := oAt_step m F T k j
          have ck := hO.own.row' hk12
          have fk := hO.own.free (1 + k)
          have hlt := oAt_row_lt m F T k j
          have HO := Lib.hid hO
          clear hb hO
          have j1 : (0 : Int) ≤ (j : Int) := by omega
          have j2 : (j : Int) < (m : Int) := by omega
          generalize hx : oAt m F T k j k = x at ck hlt hst
          have ho := add_pow x j hlt (by omega)
          have hp := pow_u16 j (by omega)
          generalize hf' : F j = f' at d1 hst
          generalize ht' : T k = t' at d2 hst
          clear ht' hf'
          by_cases hcmp : t' < f'
          · rw [if_pos hcmp] at hst
            have HS := Lib.hid (And.intro hst hx)
            clear hst hx
            go_wp2_with fail
            go_region
            go_wp2_with fail
            go_region
            have h1 : ORel w w.heap.size G m (oAt m F T k (j + 1)) (wr.setCell ⟨G, 1 + k, none⟩ (.int .u16 ((x ||| 2 ^ j : Nat) : Int))).drew.drew := by
              rw [HS.out.1]
              exact (HO.out.set_ hk12 _).drew.drew
            clear ck fk d1 d2 ho hp
            generalize (wr.setCell ⟨G, 1 + k, none⟩ (.int .u16 ((x ||| 2 ^ j : Nat) : Int))).drew.drew = w5 at h1 ⊢
            have HX := Lib.hid h1
            clear h1
            go_wp2_with fail
            go_roundw
            case rel => exact ⟨j + 1, by omega, by go_num, HX.out⟩
            case measure => simp [intOf]; omega
          · rw [if_neg hcmp] at hst
            have HS := Lib.hid (And.intro hst hx)
            clear hst hx
            go_wp2_with fail
            go_region
            go_wp2_with fail
            go_roundw
            case rel => exact ⟨j + 1, by omega, by go_num, by rw [HS.out.1]; exact HO.out.drew⟩
            case measure => simp [intOf]; omega
        · obtain rfl : j = m := by omega
          rw [oAt_end] at hO
          go_wp2_with fail
          go_roundw
          case rel => exact ⟨k + 1, by omega, by go_num, hO⟩
          case measure => simp [intOf]; omega
    · obtain rfl : k = m := by omega
      rw [oAt_all] at hO
      have hr := hO.res.size
      obtain ⟨r0, r1, r2, r3, r4, r5, r6, r7, r8, r9, r10, r11⟩ := hO.res.rows
      have hc := hO.own.size
      obtain ⟨c0, c1, c2, c3, c4, c5, c6, c7, c8, c9, c10, c11⟩ := hO.own.rows
      have hf := hO.res.free
      go_wp2_with fail
      clear hr r0 r1 r2 r3 r4 r5 r6 r7 r8 r9 r10 r11 hc c0 c1 c2 c3 c4 c5 c6 c7 c8 c9 c10 c11 hf
      refine post_fill (W := wr) (g := w.heap.size) k (spRel k F T) hO.res hO.below (by omega) ?_
      intro wz hz hbz
      have hs := hz.size
      obtain ⟨c0, c1, c2, c3, c4, c5, c6, c7, c8, c9, c10, c11⟩ := hz.rows
      exact bodyPost_ret (v := relV k (spRel k F T))
        (by simp [results, Try.results12, go_sem, hs, c0, c1, c2, c3, c4, c5, c6, c7, c8, c9, c10, c11]) rfl ⟨rfl, hbz⟩
end Go.Proofs.Ytfjanniojphdoaa
