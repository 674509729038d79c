/-
  Contract of order.reverse.
-/
import Derived.Test.YtcpmhflkooipdaaDoorReady
import Derived.Test.YtcpmhflkooipdaaDoorClose
namespace Go.Proofs.YtcpmhflkooipdaaDoor
open Go.RowKit
set_option maxRecDepth 20000

set_option maxHeartbeats 1000000 in
theorem reverse_any (n : Nat) (a : Nat → Nat) (w : World) (hn : n ≤ 12) (ha : ∀ i, i < 12 → a i < 65536) :
    Calls Tryd.prog 24 #[relV n a] w fun e w' => e = .returned (relV n (rev n a)) ∧ Below w.heap.size w w' := by
  have HC : CRel w (w.heap.size + 1 + 1) n a (fun _ => 0) (((w.alloc (.cells (relCs n a) 25)).alloc (.cells (relCs 0 fun _ => 0) 25)).alloc (.cells (relCs n fun _ => 0) 25)) := by
    have h1 := Lies.new w 25 (relCs n a)
    have h2 := Lies.new (w.alloc (.cells (relCs n a) 25)) 25 (relCs 0 fun _ => 0)
    have h3 := Lies.new ((w.alloc (.cells (relCs n a) 25)).alloc (.cells (relCs 0 fun _ => 0) 25)) 25 (relCs n fun _ => 0)
    rw [World.size_alloc] at h2
    rw [World.size_alloc, World.size_alloc] at h3
    exact ⟨(((Below.refl _ _).alloc (Nat.le_refl _) _).alloc (by simp) _).alloc (by simp; omega) _, (h1.alloc _).alloc _, h2.alloc _, h3, by omega⟩
  go_enter Tryd.func24, Tryd.ntmps24
  go_wp2_with fail
  change Code.wp _ _ _ _ (((w.alloc (.cells (relCs n a) 25)).alloc (.cells (relCs 0 fun _ => 0) 25)).alloc (.cells (relCs n fun _ => 0) 25))
  generalize ((w.alloc (.cells (relCs n a) 25)).alloc (.cells (relCs 0 fun _ => 0) 25)).alloc (.cells (relCs n fun _ => 0) 25) = W at HC ⊢
  have hfar := HC.far
  generalize w.heap.size + 1 + 1 = G at HC hfar ⊢
  go_loopw [11] (fun i wr => ∃ k : Nat, k ≤ n ∧ i = .int .i64 k ∧ CRel w G n a (revs n a k) wr) (fun i _ => n - (intOf i).toNat)
  case atStart => exact ⟨0, by omega, rfl, HC⟩
  case round =>
    clear HC
    obtain ⟨k, hk, rfl, hC⟩ := hrel
    have hs := hC.arg.size
    by_cases hkn : k < n
    · go_wp2_with fail
      obtain ⟨wo, rfl⟩ : ∃ wo : World, wo = wr := ⟨_, rfl⟩
      clear hs
      go_loopw [16] (fun i wr => ∃ m : Nat, m ≤ n ∧ i = .int .i64 m ∧ CRel w G n a (stepR m a k (revs n a k)) wr) (fun i _ => n - (intOf i).toNat)
      case atStart => exact ⟨0, by omega, rfl, by rw [stepR_zero]; exact hC⟩
      case round =>
        clear hC
        obtain ⟨m, hm, rfl, hC⟩ := hrel
        by_cases hmn : m < n
        · have hm12 : m < 12 := by omega
          have hk12 : k < 12 := by omega
          have hak := ha k hk12
          have hlm : revs n a k m < 65536 := revs_lt n a 16 m k (by omega)
          have ck := hC.arg.row' hk12
          have cm := hC.clo.row' hm12
          have fm := hC.clo.free (1 + m)
          rw [stepR_at] at cm
          have ho := or_pow (revs n a k m) k hlm (by omega)
          have hp := pow_u16 k (by omega)
          have hs := stepR_succ m a k (revs n a k)
          cases hb : (a k).testBit m
          · rw [hb] at hs
            have HS := Lib.hid hs
            have Hb := Lib.hid hb
            clear hs hb
            go_wp2_with (go_at_call 22; refine (has_no _ m _ hak (by omega) Hb.out).mono ?_; rintro e w' ⟨rfl, rfl⟩)
            go_roundw
            case rel => exact ⟨m + 1, by omega, by go_num, hC.congr (fun i hi => by rw [HS.out]; split <;> simp_all [stepR_at])⟩
            case measure => simp [intOf]; omega
          · rw [hb] at hs
            have HS := Lib.hid hs
            have Hb := Lib.hid hb
            clear hs hb
            go_wp2_with (go_at_call 22; refine (has_yes _ m _ hak (by omega) Hb.out).mono ?_; rintro e w' ⟨rfl, rfl⟩)
            go_region
            go_wp2
            go_roundw
            case rel => exact ⟨m + 1, by omega, by go_num, (CRel.drew (hC.set_ hm12 _)).congr (fun i hi => by rw [HS.out]; split <;> simp_all)⟩
            case measure => simp [intOf]; omega
        · have hmn' : m = n := by omega
          subst hmn'
          go_wp2_with fail
          go_roundw
          case rel => exact ⟨k + 1, by omega, by go_num, hC⟩
          case measure => simp [intOf]; omega
    · have hkn' : k = n := by omega
      subst hkn'
      have hr := hC.res.size
      obtain ⟨r0, r1, r2, r3, r4, r5, r6, r7, r8, r9, r10, r11⟩ := hC.res.rows
      have hc := hC.clo.size
      obtain ⟨c0, c1, c2, c3, c4, c5, c6, c7, c8, c9, c10, c11⟩ := hC.clo.rows
      have hf := hC.res.free
      go_wp2_with fail
      clear hr r0 r1 r2 r3 r4 r5 r6 r7 r8 r9 r10 r11 hs hc c0 c1 c2 c3 c4 c5 c6 c7 c8 c9 c10 c11 hf
      refine post_fill (W := wr) (g := w.heap.size + 1) k (revs k a k) hC.res hC.below (by omega) ?_
      intro wz hz hbz
      have hs := hz.size
      obtain ⟨c0, c1, c2, c3, c4, c5, c6, c7, c8, c9, c10, c11⟩ := hz.rows
      exact bodyPost_ret (v := relV k (revs k a k))
        (by simp [results, Tryd.results24, go_sem, hs, c0, c1, c2, c3, c4, c5, c6, c7, c8, c9, c10, c11]) rfl ⟨rfl, hbz⟩
end Go.Proofs.YtcpmhflkooipdaaDoor
