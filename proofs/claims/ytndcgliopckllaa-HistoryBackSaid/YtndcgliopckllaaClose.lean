/-
  Contract of order.Close.
-/
import Derived.Test.YtndcgliopckllaaMem
namespace Go.Proofs.Ytndcgliopckllaa
open Go.RowKit
set_option maxRecDepth 20000

/-- What stays true while the closure is made: old memory, the argument's block, the result's block, the closure's block. -/
structure CRel (w : World) (G n : Nat) (a c : Nat → Nat) (wr : World) : Prop where
  below : Below w.heap.size w wr
  arg : RelB wr w.heap.size n a
  res : RelB wr (w.heap.size + 1) 0 (fun _ => 0)
  clo : RelB wr G n c
  far : w.heap.size + 2 ≤ G

theorem CRel.set_ {w wr : World} {G n : Nat} {a c : Nat → Nat} (h : CRel w G n a c wr) {k : Nat} (hk : k < 12) (x : Nat) :
    CRel w G n a (fun i => if i = k then x else c i) (wr.setCell ⟨G, 1 + k, none⟩ (.int .u16 x)) :=
  ⟨h.below.setCell (by have := h.far; show w.heap.size ≤ G; omega) _, Lies.far h.arg (by have := h.far; show w.heap.size ≠ G; omega) _, Lies.far h.res (by have := h.far; show w.heap.size + 1 ≠ G; omega) _, h.clo.set' hk x, h.far⟩
theorem CRel.drew {w wr : World} {G n : Nat} {a c : Nat → Nat} (h : CRel w G n a c wr) : CRel w G n a c wr.drew :=
  ⟨h.below.drew, h.arg, h.res, h.clo, h.far⟩
theorem CRel.congr {w wr : World} {G n : Nat} {a c d : Nat → Nat} (h : CRel w G n a c wr) (e : ∀ i, i < 12 → c i = d i) : CRel w G n a d wr :=
  ⟨h.below, h.arg, h.res, h.clo.congr e, h.far⟩

set_option maxHeartbeats 1000000 in
theorem close_ok (n : Nat) (a : Nat → Nat) (w : World) (hn : n ≤ 12) (ha : ∀ i, i < 12 → a i < 65536) (hg : ∀ i, i < 12 → rowBad n i (a i) = false) :
    Calls Try.prog 27 #[relV n a] w fun e w' => e = .returned (.tuple #[relV n (warsh n a n), .bool (cyc (warsh n a n) n), .int .i64 0]) ∧ Below w.heap.size w w' := by
  go_enter Try.func27, Try.ntmps27
  go_wp2_with fail
  refine (check_ok n a _ hn ha hg).mono ?_
  rintro e w1 ⟨rfl, hb1⟩
  have hB1 : RelB w1 w.heap.size n a := Lies.below ((Lies.new w _ _).alloc _) hb1 (by rw [World.size_alloc, World.size_alloc]; omega)
  have hB0 : RelB w1 (w.heap.size + 1) 0 (fun _ => 0) := Lies.below (Lies.cast (by have h := Lies.new (w.alloc (.cells (relCs n a) 41)) 41 (relCs 0 fun _ => 0); rw [World.size_alloc] at h; exact h) rfl) hb1 (by rw [World.size_alloc, World.size_alloc]; omega)
  have hB2 : w.heap.size + 2 ≤ w1.heap.size := by have := hb1.size; simp at this; omega
  have hlt : w.heap.size < w1.heap.size := by omega
  have hbw : Below w.heap.size w w1 := (((Below.refl _ _).alloc (Nat.le_refl _) _).alloc (by simp) _).trans (hb1.mono (by simp; omega))
  have HC : CRel w w1.heap.size n a a (w1.alloc (.cells (relCs n a) 41)) := ⟨hbw.alloc (by omega) _, Lies.alloc hB1 _, Lies.alloc hB0 _, Lies.new _ _ _, hB2⟩
  have hs := hB1.size
  obtain ⟨c0, c1, c2, c3, c4, c5, c6, c7, c8, c9, c10, c11⟩ := hB1.rows
  clear hb1 hB1 hbw hB0
  go_wp2_with fail
  clear hs c0 c1 c2 c3 c4 c5 c6 c7 c8 c9 c10 c11
  generalize hG : w1.heap.size = G at *
  generalize hW : w1.alloc (Obj.cells #[Value.int IntKind.i64 ↑n, Value.int IntKind.u16 ↑(a 0), Value.int IntKind.u16 ↑(a 1), Value.int IntKind.u16 ↑(a 2), Value.int IntKind.u16 ↑(a 3), Value.int IntKind.u16 ↑(a 4), Value.int IntKind.u16 ↑(a 5), Value.int IntKind.u16 ↑(a 6), Value.int IntKind.u16 ↑(a 7), Value.int IntKind.u16 ↑(a 8), Value.int IntKind.u16 ↑(a 9), Value.int IntKind.u16 ↑(a 10), Value.int IntKind.u16 ↑(a 11)] 41) = W at *
  clear hG hW
  go_loopw [20] (fun i wr => ∃ k : Nat, k ≤ n ∧ i = .int .i64 k ∧ CRel w G n a (warsh n a k) wr) (fun i _ => n - (intOf i).toNat)
  case atStart => exact ⟨0, by omega, rfl, HC⟩
  case round =>
    obtain ⟨k, hk, rfl, hC⟩ := hrel
    have hs := hC.arg.size
    have hs2 := hC.res.size
    by_cases hkn : k < n
    · go_wp2_with fail
      obtain ⟨wo, rfl⟩ : ∃ wo : World, wo = wr := ⟨_, rfl⟩
      clear hs hs2
      go_loopw [25] (fun i wr => ∃ m : Nat, m ≤ n ∧ i = .int .i64 m ∧ CRel w G n a (stepV m (warsh n a k) k) wr) (fun i _ => n - (intOf i).toNat)
      case atStart => exact ⟨0, by omega, rfl, by rw [stepV_zero]; exact hC⟩
      case round =>
        clear hC
        obtain ⟨m, hm, rfl, hC⟩ := hrel
        by_cases hmn : m < n
        · have hm12 : m < 12 := by omega
          have hk12 : k < 12 := by omega
          have hlm := stepV_lt (m := m) (v := k) (warsh_lt (n := n) (B := 16) ha k (by omega)) hk12 m hm12
          have cm := hC.clo.row' hm12
          have ck := hC.clo.row' hk12
          have fm := hC.clo.free (1 + m)
          rw [stepV_at] at cm hlm
          rw [stepV_via] at ck
          have hlk := warsh_lt (n := n) (B := 16) ha k (by omega) k hk12
          have ho := u16_or_nat (warsh n a k m) (warsh n a k k) hlm hlk
          have hs := stepV_succ m (warsh n a k) k
          cases hb : (warsh n a k m).testBit k
          · rw [hb] at hs
            have HS := Lib.hid hs
            have Hb := Lib.hid hb
            clear hs hb
            go_wp2_with (go_at_call 42; refine (has_no _ k _ hlm (by omega) Hb.out).mono ?_; rintro e w' ⟨rfl, rfl⟩)
            go_roundw
            case rel => exact ⟨m + 1, by omega, by go_num, hC.congr (fun i hi => by rw [HS.out]; split <;> simp_all [stepV_at])⟩
            case measure => simp [intOf]; omega
          · rw [hb] at hs
            have HS := Lib.hid hs
            have Hb := Lib.hid hb
            clear hs hb
            go_wp2_with (go_at_call 42; refine (has_yes _ k _ hlm (by omega) Hb.out).mono ?_; rintro e w' ⟨rfl, rfl⟩)
            go_region
            go_wp2
            go_roundw
            case rel => exact ⟨m + 1, by omega, by go_num, (CRel.drew (hC.set_ hm12 _)).congr (fun i hi => by rw [HS.out]; split <;> simp_all)⟩
            case measure => simp [intOf]; omega
        · have hmn' : m = n := by omega
          subst hmn'
          go_wp2_with fail
          go_roundw
          case rel => exact ⟨k + 1, by omega, by go_num, hC⟩
          case measure => simp [intOf]; omega
    · have hkn' : k = n := by omega
      subst hkn'
      have hl := warsh_lt (n := k) (B := 16) ha k (by omega)
      go_wp2_with fail
      obtain ⟨wo, rfl⟩ : ∃ wo : World, wo = wr := ⟨_, rfl⟩
      clear hs hs2
      go_loop [9, 49] (fun b i => ∃ m : Nat, m ≤ k ∧ i = .int .i64 m ∧ b = .bool (cyc (warsh k a k) m)) (fun _ i => k - (intOf i).toNat)
      case atStart => exact ⟨0, by omega, rfl, rfl⟩
      case round =>
        obtain ⟨m, hm, rfl, rfl⟩ := hrel
        by_cases hmn : m < k
        · have hm12 : m < 12 := by omega
          have hlm := hl m hm12
          have cm := hC.clo.row' hm12
          have hcy : cyc (warsh k a k) (m + 1) = (cyc (warsh k a k) m || (warsh k a k m).testBit m) := rfl
          cases hb : cyc (warsh k a k) m
          · rw [hb, Bool.false_or] at hcy
            have HY := Lib.hid hcy
            clear hcy hb
            go_wp2_with (go_at_call 42; refine (has_any _ m _ hlm (by omega)).mono ?_; rintro e w' ⟨rfl, rfl⟩)
            go_round
            case rel => exact ⟨m + 1, by omega, by go_num, by rw [HY.out]⟩
            case measure => simp [intOf]; omega
          · rw [hb, Bool.true_or] at hcy
            have HY := Lib.hid hcy
            clear hcy hb
            go_wp2_with fail
            go_round
            case rel => exact ⟨m + 1, by omega, by go_num, by rw [HY.out]⟩
            case measure => simp [intOf]; omega
        · have hmn' : m = k := by omega
          subst hmn'
          have hr := hC.res.size
          obtain ⟨r0, r1, r2, r3, r4, r5, r6, r7, r8, r9, r10, r11⟩ := hC.res.rows
          have hs := hC.clo.size
          obtain ⟨c0, c1, c2, c3, c4, c5, c6, c7, c8, c9, c10, c11⟩ := hC.clo.rows
          have hf := hC.res.free
          have hfar := hC.far
          go_wp2_with fail
          have hz := hC.res.fill m (warsh m a m)
          have hbz := fillW_below hC.below (g := w.heap.size + 1) (by omega) m (warsh m a m)
          clear hr r0 r1 r2 r3 r4 r5 r6 r7 r8 r9 r10 r11 hs c0 c1 c2 c3 c4 c5 c6 c7 c8 c9 c10 c11 hf
          change bodyPost _ _ _ _ _ (fillW wo (w.heap.size + 1) m (warsh m a m))
          generalize fillW wo (w.heap.size + 1) m (warsh m a m) = wz at hz hbz ⊢
          have hs := hz.size
          obtain ⟨c0, c1, c2, c3, c4, c5, c6, c7, c8, c9, c10, c11⟩ := hz.rows
          exact bodyPost_ret (v := .tuple #[relV m (warsh m a m), .bool (cyc (warsh m a m) m), .int .i64 0])
            (by simp [results, Try.results27, go_sem, hs, c0, c1, c2, c3, c4, c5, c6, c7, c8, c9, c10, c11]) rfl ⟨rfl, hbz⟩
end Go.Proofs.Ytndcgliopckllaa
