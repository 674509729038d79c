/-
  Joined by a program out of: Check, Close, Clo, Acyclic, Ready, Reverse, CloLt, SeqI, BitsPure.
-/
import Derived.Test.YtfgangkpebkicaaDoorMgAX
import Derived.Test.YtfgangkpebkicaaDoorMgAK
import Derived.Test.YtfgangkpebkicaaDoorMgAH
import Derived.Test.YtfgangkpebkicaaDoorMgAR
import Derived.OwnWalk
import Derived.Test.YtfgangkpebkicaaDoorProg
import Derived.WalkKit

/-
  Contract of order.Check.
-/
namespace Go.Proofs.YtfgangkpebkicaaDoor
open Go.RowKit
set_option maxRecDepth 20000
theorem idx12 (a : Nat → Nat) (k : Nat) (hk : k < 12) (w : World) :
    (Instr.index 44 (rowsV a) (.int .i64 k)).run Tryd.prog w = .ok (.int .u16 (a k)) w := by
  have h : k = 0 ∨ k = 1 ∨ k = 2 ∨ k = 3 ∨ k = 4 ∨ k = 5 ∨ k = 6 ∨ k = 7 ∨ k = 8 ∨ k = 9 ∨ k = 10 ∨ k = 11 := by omega
  clear hk
  rcases h with rfl | rfl | rfl | rfl | rfl | rfl | rfl | rfl | rfl | rfl | rfl | rfl <;> rfl
/-- What is wrong with a row: a bit from n on, or a row from n on that is not empty. -/
def rowBad (n i x : Nat) : Bool := (x &&& (65535 - (2 ^ n - 1))) != 0 || (decide (n ≤ i) && x != 0)
theorem andNot_val (n x : Nat) (hn : n ≤ 12) (hx : x < 65536) : (bits BinOp.andNot IntKind.u16 (x : Int) ((2 ^ n - 1 : Nat) : Int) != 0) = ((x &&& (65535 - (2 ^ n - 1))) != 0) := by
  have h2 : 2 ^ n < 65536 := Nat.lt_of_le_of_lt (Nat.pow_le_pow_right (by omega) hn) (by decide)
  rw [u16_andNot_nat _ _ hx (by omega), Bool.eq_iff_iff, bne_iff_ne, bne_iff_ne]
  omega
theorem check_ok (n : Nat) (a : Nat → Nat) (w : World) (hn : n ≤ 12) (ha : ∀ i, i < 12 → a i < 65536) (hg : ∀ i, i < 12 → rowBad n i (a i) = false) :
    Calls Tryd.prog 80 #[relV n a] w fun e w' => e = .returned (.int .i64 0) ∧ Below w.heap.size w w' := by
  have h0 : ¬ (n : Int) < 0 := by omega
  have h1 : ¬ 12 < (n : Int) := by omega
  go_enter Tryd.func80, Tryd.ntmps80
  go_wp2
  go_loop [15] (fun i => ∃ k : Nat, k ≤ 12 ∧ i = .int .i64 k) (fun i => 12 - (intOf i).toNat)
  case atStart => exact ⟨0, by omega, rfl⟩
  case round =>
    obtain ⟨k, hk, rfl⟩ := hrel
    by_cases hlt : k < 12
    · have hi := idx12 a k hlt
      have hv := andNot_val n (a k) hn (ha k hlt)
      have hb := hg k hlt
      unfold rowBad at hb
      rw [Bool.or_eq_false_iff, Bool.and_eq_false_iff] at hb
      obtain ⟨hb1, hb2⟩ := hb
      rw [hb1] at hv
      clear hb1
      have hz : n ≤ k → ((a k : Int) != 0) = false := by
        intro h
        rcases hb2 with h' | h'
        · simp at h'; omega
        · rw [bne_eq_false_iff_eq] at h' ⊢; omega
      clear hb2
      by_cases hnk : n ≤ k
      · have hz' := hz hnk
        clear hz
        go_wp2_with (go_at_call 99; refine (first_any n _ (by omega)).mono ?_; rintro e w' ⟨rfl, rfl⟩)
        go_round
        case rel => exact ⟨k + 1, by omega, by go_num⟩
        case measure => simp [intOf]; omega
      · clear hz
        go_wp2_with (go_at_call 99; refine (first_any n _ (by omega)).mono ?_; rintro e w' ⟨rfl, rfl⟩)
        go_round
        case rel => exact ⟨k + 1, by omega, by go_num⟩
        case measure => simp [intOf]; omega
    · go_wp2
      go_ret
      exact ⟨rfl, (Below.refl _ _).alloc (Nat.le_refl _) _⟩
end Go.Proofs.YtfgangkpebkicaaDoor

/-
  Contract of order.Close.
-/
namespace Go.Proofs.YtfgangkpebkicaaDoor
open Go.RowKit
set_option maxRecDepth 20000
/-- What stays true while the closure is made: old memory, the argument's block, the result's block, the closure's block. -/
structure CRel (w : World) (G n : Nat) (a c : Nat → Nat) (wr : World) : Prop where
  below : Below w.heap.size w wr
  arg : RelB wr w.heap.size n a
  res : RelB wr (w.heap.size + 1) 0 (fun _ => 0)
  clo : RelB wr G n c
  far : w.heap.size + 2 ≤ G
theorem CRel.set_ {w wr : World} {G n : Nat} {a c : Nat → Nat} (h : CRel w G n a c wr) {k : Nat} (hk : k < 12) (x : Nat) :
    CRel w G n a (fun i => if i = k then x else c i) (wr.setCell ⟨G, 1 + k, none⟩ (.int .u16 x)) :=
  ⟨h.below.setCell (by have := h.far; show w.heap.size ≤ G; omega) _, Lies.far h.arg (by have := h.far; show w.heap.size ≠ G; omega) _, Lies.far h.res (by have := h.far; show w.heap.size + 1 ≠ G; omega) _, h.clo.set' hk x, h.far⟩
theorem CRel.drew {w wr : World} {G n : Nat} {a c : Nat → Nat} (h : CRel w G n a c wr) : CRel w G n a c wr.drew :=
  ⟨h.below.drew, h.arg, h.res, h.clo, h.far⟩
theorem CRel.congr {w wr : World} {G n : Nat} {a c d : Nat → Nat} (h : CRel w G n a c wr) (e : ∀ i, i < 12 → c i = d i) : CRel w G n a d wr :=
  ⟨h.below, h.arg, h.res, h.clo.congr e, h.far⟩
set_option maxHeartbeats 1000000 in
theorem close_ok (n : Nat) (a : Nat → Nat) (w : World) (hn : n ≤ 12) (ha : ∀ i, i < 12 → a i < 65536) (hg : ∀ i, i < 12 → rowBad n i (a i) = false) :
    Calls Tryd.prog 67 #[relV n a] w fun e w' => e = .returned (.tuple #[relV n (warsh n a n), .bool (cyc (warsh n a n) n), .int .i64 0]) ∧ Below w.heap.size w w' := by
  go_enter Tryd.func67, Tryd.ntmps67
  go_wp2_with fail
  refine (check_ok n a _ hn ha hg).mono ?_
  rintro e w1 ⟨rfl, hb1⟩
  have hB1 : RelB w1 w.heap.size n a := Lies.below ((Lies.new w _ _).alloc _) hb1 (by rw [World.size_alloc, World.size_alloc]; omega)
  have hB0 : RelB w1 (w.heap.size + 1) 0 (fun _ => 0) := Lies.below (Lies.cast (by have h := Lies.new (w.alloc (.cells (relCs n a) 46)) 46 (relCs 0 fun _ => 0); rw [World.size_alloc] at h; exact h) rfl) hb1 (by rw [World.size_alloc, World.size_alloc]; omega)
  have hB2 : w.heap.size + 2 ≤ w1.heap.size := by have := hb1.size; simp at this; omega
  have hlt : w.heap.size < w1.heap.size := by omega
  have hbw : Below w.heap.size w w1 := (((Below.refl _ _).alloc (Nat.le_refl _) _).alloc (by simp) _).trans (hb1.mono (by simp; omega))
  have HC : CRel w w1.heap.size n a a (w1.alloc (.cells (relCs n a) 46)) := ⟨hbw.alloc (by omega) _, Lies.alloc hB1 _, Lies.alloc hB0 _, Lies.new _ _ _, hB2⟩
  have hs := hB1.size
  obtain ⟨c0, c1, c2, c3, c4, c5, c6, c7, c8, c9, c10, c11⟩ := hB1.rows
  clear hb1 hB1 hbw hB0
  go_wp2_with fail
  clear hs c0 c1 c2 c3 c4 c5 c6 c7 c8 c9 c10 c11
  generalize hG : w1.heap.size = G at *
  generalize hW : w1.alloc (Obj.cells #[Value.int IntKind.i64 ↑n, Value.int IntKind.u16 ↑(a 0), Value.int IntKind.u16 ↑(a 1), Value.int IntKind.u16 ↑(a 2), Value.int IntKind.u16 ↑(a 3), Value.int IntKind.u16 ↑(a 4), Value.int IntKind.u16 ↑(a 5), Value.int IntKind.u16 ↑(a 6), Value.int IntKind.u16 ↑(a 7), Value.int IntKind.u16 ↑(a 8), Value.int IntKind.u16 ↑(a 9), Value.int IntKind.u16 ↑(a 10), Value.int IntKind.u16 ↑(a 11)] 46) = W at *
  clear hG hW
  go_loopw [20] (fun i wr => ∃ k : Nat, k ≤ n ∧ i = .int .i64 k ∧ CRel w G n a (warsh n a k) wr) (fun i _ => n - (intOf i).toNat)
  case atStart => exact ⟨0, by omega, rfl, HC⟩
  case round =>
    obtain ⟨k, hk, rfl, hC⟩ := hrel
    have hs := hC.arg.size
    have hs2 := hC.res.size
    by_cases hkn : k < n
    · go_wp2_with fail
      obtain ⟨wo, rfl⟩ : ∃ wo : World, wo = wr := ⟨_, rfl⟩
      clear hs hs2
      go_loopw [25] (fun i wr => ∃ m : Nat, m ≤ n ∧ i = .int .i64 m ∧ CRel w G n a (stepV m (warsh n a k) k) wr) (fun i _ => n - (intOf i).toNat)
      case atStart => exact ⟨0, by omega, rfl, by rw [stepV_zero]; exact hC⟩
      case round =>
        clear hC
        obtain ⟨m, hm, rfl, hC⟩ := hrel
        by_cases hmn : m < n
        · have hm12 : m < 12 := by omega
          have hk12 : k < 12 := by omega
          have hlm := stepV_lt (m := m) (v := k) (warsh_lt (n := n) (B := 16) ha k (by omega)) hk12 m hm12
          have cm := hC.clo.row' hm12
          have ck := hC.clo.row' hk12
          have fm := hC.clo.free (1 + m)
          rw [stepV_at] at cm hlm
          rw [stepV_via] at ck
          have hlk := warsh_lt (n := n) (B := 16) ha k (by omega) k hk12
          have ho := u16_or_nat (warsh n a k m) (warsh n a k k) hlm hlk
          have hs := stepV_succ m (warsh n a k) k
          cases hb : (warsh n a k m).testBit k
          · rw [hb] at hs
            have HS := Lib.hid hs
            have Hb := Lib.hid hb
            clear hs hb
            go_wp2_with (go_at_call 68; refine (has_no _ k _ hlm (by omega) Hb.out).mono ?_; rintro e w' ⟨rfl, rfl⟩)
            go_roundw
            case rel => exact ⟨m + 1, by omega, by go_num, hC.congr (fun i hi => by rw [HS.out]; split <;> simp_all [stepV_at])⟩
            case measure => simp [intOf]; omega
          · rw [hb] at hs
            have HS := Lib.hid hs
            have Hb := Lib.hid hb
            clear hs hb
            go_wp2_with (go_at_call 68; refine (has_yes _ k _ hlm (by omega) Hb.out).mono ?_; rintro e w' ⟨rfl, rfl⟩)
            go_region
            go_wp2
            go_roundw
            case rel => exact ⟨m + 1, by omega, by go_num, (CRel.drew (hC.set_ hm12 _)).congr (fun i hi => by rw [HS.out]; split <;> simp_all)⟩
            case measure => simp [intOf]; omega
        · have hmn' : m = n := by omega
          subst hmn'
          go_wp2_with fail
          go_roundw
          case rel => exact ⟨k + 1, by omega, by go_num, hC⟩
          case measure => simp [intOf]; omega
    · have hkn' : k = n := by omega
      subst hkn'
      have hl := warsh_lt (n := k) (B := 16) ha k (by omega)
      go_wp2_with fail
      obtain ⟨wo, rfl⟩ : ∃ wo : World, wo = wr := ⟨_, rfl⟩
      clear hs hs2
      go_loop [9, 49] (fun b i => ∃ m : Nat, m ≤ k ∧ i = .int .i64 m ∧ b = .bool (cyc (warsh k a k) m)) (fun _ i => k - (intOf i).toNat)
      case atStart => exact ⟨0, by omega, rfl, rfl⟩
      case round =>
        obtain ⟨m, hm, rfl, rfl⟩ := hrel
        by_cases hmn : m < k
        · have hm12 : m < 12 := by omega
          have hlm := hl m hm12
          have cm := hC.clo.row' hm12
          have hcy : cyc (warsh k a k) (m + 1) = (cyc (warsh k a k) m || (warsh k a k m).testBit m) := rfl
          cases hb : cyc (warsh k a k) m
          · rw [hb, Bool.false_or] at hcy
            have HY := Lib.hid hcy
            clear hcy hb
            go_wp2_with (go_at_call 68; refine (has_any _ m _ hlm (by omega)).mono ?_; rintro e w' ⟨rfl, rfl⟩)
            go_round
            case rel => exact ⟨m + 1, by omega, by go_num, by rw [HY.out]⟩
            case measure => simp [intOf]; omega
          · rw [hb, Bool.true_or] at hcy
            have HY := Lib.hid hcy
            clear hcy hb
            go_wp2_with fail
            go_round
            case rel => exact ⟨m + 1, by omega, by go_num, by rw [HY.out]⟩
            case measure => simp [intOf]; omega
        · have hmn' : m = k := by omega
          subst hmn'
          have hr := hC.res.size
          obtain ⟨r0, r1, r2, r3, r4, r5, r6, r7, r8, r9, r10, r11⟩ := hC.res.rows
          have hs := hC.clo.size
          obtain ⟨c0, c1, c2, c3, c4, c5, c6, c7, c8, c9, c10, c11⟩ := hC.clo.rows
          have hf := hC.res.free
          have hfar := hC.far
          go_wp2_with fail
          have hz := hC.res.fill m (warsh m a m)
          have hbz := fillW_below hC.below (g := w.heap.size + 1) (by omega) m (warsh m a m)
          clear hr r0 r1 r2 r3 r4 r5 r6 r7 r8 r9 r10 r11 hs c0 c1 c2 c3 c4 c5 c6 c7 c8 c9 c10 c11 hf
          change bodyPost _ _ _ _ _ (fillW wo (w.heap.size + 1) m (warsh m a m))
          generalize fillW wo (w.heap.size + 1) m (warsh m a m) = wz at hz hbz ⊢
          have hs := hz.size
          obtain ⟨c0, c1, c2, c3, c4, c5, c6, c7, c8, c9, c10, c11⟩ := hz.rows
          exact bodyPost_ret (v := .tuple #[relV m (warsh m a m), .bool (cyc (warsh m a m) m), .int .i64 0])
            (by simp [results, Tryd.results67, go_sem, hs, c0, c1, c2, c3, c4, c5, c6, c7, c8, c9, c10, c11]) rfl ⟨rfl, hbz⟩
end Go.Proofs.YtfgangkpebkicaaDoor

/-
  Contracts of order.Close, by whether Check finds a fault.
-/
namespace Go.Proofs.YtfgangkpebkicaaDoor
open Go.RowKit
set_option maxRecDepth 20000
/-- The zero relation, as a value. -/
abbrev zeroV : Value := .agg #[.int .i64 0, .int .u16 0, .int .u16 0, .int .u16 0, .int .u16 0, .int .u16 0, .int .u16 0, .int .u16 0, .int .u16 0, .int .u16 0, .int .u16 0, .int .u16 0, .int .u16 0]
/-- A relation on n items that Check lets by. -/
structure Good (n : Nat) (a : Nat → Nat) : Prop where
  le : n ≤ 12
  lt : ∀ i, i < 12 → a i < 65536
  rows : ∀ i, i < 12 → rowBad n i (a i) = false
/-- Its closure. -/
def clo (n : Nat) (a : Nat → Nat) : Nat → Nat := warsh n a n
theorem close_any (n : Nat) (a : Nat → Nat) (w : World) (h : Good n a) :
    Calls Tryd.prog 67 #[relV n a] w fun e w' => e = .returned (.tuple #[relV n (clo n a), .bool (cyc (clo n a) n), .int .i64 0]) ∧ Below w.heap.size w w' :=
  close_ok n a w h.le h.lt h.rows
theorem close_yes (n : Nat) (a : Nat → Nat) (w : World) (h : Good n a) (hy : cyc (clo n a) n = true) :
    Calls Tryd.prog 67 #[relV n a] w fun e w' => e = .returned (.tuple #[relV n (clo n a), .bool true, .int .i64 0]) ∧ Below w.heap.size w w' := hy ▸ close_any n a w h
theorem close_no (n : Nat) (a : Nat → Nat) (w : World) (h : Good n a) (hy : cyc (clo n a) n = false) :
    Calls Tryd.prog 67 #[relV n a] w fun e w' => e = .returned (.tuple #[relV n (clo n a), .bool false, .int .i64 0]) ∧ Below w.heap.size w w' := hy ▸ close_any n a w h
end Go.Proofs.YtfgangkpebkicaaDoor

/-
  Contract of order.closeAcyclic.
-/
namespace Go.Proofs.YtfgangkpebkicaaDoor
open Go.RowKit
set_option maxRecDepth 20000
set_option maxHeartbeats 1000000 in
theorem acyclic_yes (n : Nat) (a : Nat → Nat) (w : World) (h : Good n a) (hy : cyc (clo n a) n = true) :
    Calls Tryd.prog 49 #[relV n a] w fun e w' => e = .returned (.tuple #[zeroV, .int .i64 4]) ∧ Below w.heap.size w w' := by
  go_enter Tryd.func49, Tryd.ntmps49
  go_wp2_with fail
  refine (close_yes n a _ h hy).mono ?_
  rintro e w1 ⟨rfl, hb1⟩
  have hB0 : RelB w1 (w.heap.size + 1) 0 (fun _ => 0) := Lies.below (Lies.cast (by have h := Lies.new (w.alloc (.cells (relCs n a) 46)) 46 (relCs 0 fun _ => 0); rw [World.size_alloc] at h; exact h) rfl) hb1 (by rw [World.size_alloc, World.size_alloc]; omega)
  have hbw : Below w.heap.size w w1 := (((Below.refl _ _).alloc (Nat.le_refl _) _).alloc (by simp) _).trans (hb1.mono (by simp; omega))
  have hlt : w.heap.size + 1 < w1.heap.size := by have := hb1.size; simp at this; omega
  have hs := hB0.size
  obtain ⟨c0, c1, c2, c3, c4, c5, c6, c7, c8, c9, c10, c11⟩ := hB0.rows
  have hf := hB0.free
  have HB := Lib.hid hbw
  clear hb1 hbw
  go_wp2_with fail
  clear hs c0 c1 c2 c3 c4 c5 c6 c7 c8 c9 c10 c11 hf
  refine post_fill1 (W := w1) (g := w.heap.size + 1) 0 (fun _ => 0) hB0 HB.out (by omega) (by omega) ?_
  intro wz hz hbz
  have hs := hz.size
  obtain ⟨c0, c1, c2, c3, c4, c5, c6, c7, c8, c9, c10, c11⟩ := hz.rows
  exact bodyPost_ret (v := .tuple #[zeroV, .int .i64 4])
    (by simp [results, Tryd.results49, go_sem, hs, c0, c1, c2, c3, c4, c5, c6, c7, c8, c9, c10, c11]) rfl ⟨rfl, hbz⟩
set_option maxHeartbeats 1000000 in
theorem acyclic_no (n : Nat) (a : Nat → Nat) (w : World) (h : Good n a) (hy : cyc (clo n a) n = false) :
    Calls Tryd.prog 49 #[relV n a] w fun e w' => e = .returned (.tuple #[(relV n (clo n a)), .int .i64 0]) ∧ Below w.heap.size w w' := by
  go_enter Tryd.func49, Tryd.ntmps49
  go_wp2_with fail
  refine (close_no n a _ h hy).mono ?_
  rintro e w1 ⟨rfl, hb1⟩
  have hB0 : RelB w1 (w.heap.size + 1) 0 (fun _ => 0) := Lies.below (Lies.cast (by have h := Lies.new (w.alloc (.cells (relCs n a) 46)) 46 (relCs 0 fun _ => 0); rw [World.size_alloc] at h; exact h) rfl) hb1 (by rw [World.size_alloc, World.size_alloc]; omega)
  have hbw : Below w.heap.size w w1 := (((Below.refl _ _).alloc (Nat.le_refl _) _).alloc (by simp) _).trans (hb1.mono (by simp; omega))
  have hlt : w.heap.size + 1 < w1.heap.size := by have := hb1.size; simp at this; omega
  have hs := hB0.size
  obtain ⟨c0, c1, c2, c3, c4, c5, c6, c7, c8, c9, c10, c11⟩ := hB0.rows
  have hf := hB0.free
  have HB := Lib.hid hbw
  clear hb1 hbw
  go_wp2_with fail
  clear hs c0 c1 c2 c3 c4 c5 c6 c7 c8 c9 c10 c11 hf
  refine post_fill1 (W := w1) (g := w.heap.size + 1) n (clo n a) hB0 HB.out (by omega) (by omega) ?_
  intro wz hz hbz
  have hs := hz.size
  obtain ⟨c0, c1, c2, c3, c4, c5, c6, c7, c8, c9, c10, c11⟩ := hz.rows
  exact bodyPost_ret (v := .tuple #[(relV n (clo n a)), .int .i64 0])
    (by simp [results, Tryd.results49, go_sem, hs, c0, c1, c2, c3, c4, c5, c6, c7, c8, c9, c10, c11]) rfl ⟨rfl, hbz⟩
end Go.Proofs.YtfgangkpebkicaaDoor

/-
  Contract of order.ready.
-/
namespace Go.Proofs.YtfgangkpebkicaaDoor
open Go.RowKit
set_option maxRecDepth 20000
set_option maxHeartbeats 1000000 in
theorem ready_any (n : Nat) (b : Nat → Nat) (d : Nat) (w : World) (hn : n ≤ 12) (hb : ∀ i, i < 12 → b i < 65536) (hd : d < 65536) :
    Calls Tryd.prog 52 #[relV n b, .int .u16 d] w fun e w' => e = .returned (.int .u16 (rdyUp b d n)) ∧ Below w.heap.size w w' := by
  have hB : RelB (w.alloc (.cells (relCs n b) 46)) w.heap.size n b := Lies.new _ _ _
  have hb0 : Below w.heap.size w (w.alloc (.cells (relCs n b) 46)) := (Below.refl _ _).alloc (Nat.le_refl _) _
  go_enter Tryd.func52, Tryd.ntmps52
  go_wp2_with fail
  change Code.wp _ _ _ _ (w.alloc (.cells (relCs n b) 46))
  generalize w.alloc (.cells (relCs n b) 46) = W at hB hb0 ⊢
  go_loop [5, 9] (fun s i => ∃ k : Nat, k ≤ n ∧ i = .int .i64 k ∧ s = .int .u16 (rdyUp b d k)) (fun _ i => n - (intOf i).toNat)
  case atStart => exact ⟨0, by omega, rfl, rfl⟩
  case round =>
    obtain ⟨k, hk, rfl, rfl⟩ := hrel
    by_cases hkn : k < n
    · have hr := hB.row' (show k < 12 by omega)
      have hv := u16_andNot_nat (b k) d (hb k (by omega)) hd
      have ho := or_pow (rdyUp b d k) k (rdyUp_lt b d 16 k (by omega)) (by omega)
      have hp := pow_u16 k (by omega)
      have he : rdyUp b d (k + 1) = if d.testBit k = false ∧ b k &&& (65535 - d) = 0 then rdyUp b d k ||| 2 ^ k else rdyUp b d k := rfl
      have hz := nat_eq0 (b k &&& (65535 - d))
      cases hdk : d.testBit k
      · by_cases hbk : b k &&& (65535 - d) = 0
        · rw [if_pos ⟨hdk, hbk⟩] at he
          rw [decide_eq_true hbk] at hz
          have HE := Lib.hid he
          have HD := Lib.hid hdk
          clear he hbk hdk
          go_wp2_with (go_at_call 68; refine (has_no d k _ hd (by omega) HD.out).mono ?_; rintro e w' ⟨rfl, rfl⟩)
          go_round
          case rel => exact ⟨k + 1, by omega, by go_num, by rw [HE.out]⟩
          case measure => simp [intOf]; omega
        · rw [if_neg (fun h => hbk h.2)] at he
          rw [decide_eq_false hbk] at hz
          have HE := Lib.hid he
          have HD := Lib.hid hdk
          clear he hbk hdk
          go_wp2_with (go_at_call 68; refine (has_no d k _ hd (by omega) HD.out).mono ?_; rintro e w' ⟨rfl, rfl⟩)
          go_round
          case rel => exact ⟨k + 1, by omega, by go_num, by rw [HE.out]⟩
          case measure => simp [intOf]; omega
      · rw [if_neg (fun h => by rw [hdk] at h; exact absurd h.1 (by decide))] at he
        have HE := Lib.hid he
        have HD := Lib.hid hdk
        clear he hdk hz
        go_wp2_with (go_at_call 68; refine (has_yes d k _ hd (by omega) HD.out).mono ?_; rintro e w' ⟨rfl, rfl⟩)
        go_round
        case rel => exact ⟨k + 1, by omega, by go_num, by rw [HE.out]⟩
        case measure => simp [intOf]; omega
    · have hkn' : k = n := by omega
      subst hkn'
      go_wp2_with fail
      go_ret
      exact ⟨rfl, hb0⟩
end Go.Proofs.YtfgangkpebkicaaDoor

/-
  Contract of order.reverse.
-/
namespace Go.Proofs.YtfgangkpebkicaaDoor
open Go.RowKit
set_option maxRecDepth 20000
set_option maxHeartbeats 1000000 in
theorem reverse_any (n : Nat) (a : Nat → Nat) (w : World) (hn : n ≤ 12) (ha : ∀ i, i < 12 → a i < 65536) :
    Calls Tryd.prog 50 #[relV n a] w fun e w' => e = .returned (relV n (rev n a)) ∧ Below w.heap.size w w' := by
  have HC : CRel w (w.heap.size + 1 + 1) n a (fun _ => 0) (((w.alloc (.cells (relCs n a) 46)).alloc (.cells (relCs 0 fun _ => 0) 46)).alloc (.cells (relCs n fun _ => 0) 46)) := by
    have h1 := Lies.new w 46 (relCs n a)
    have h2 := Lies.new (w.alloc (.cells (relCs n a) 46)) 46 (relCs 0 fun _ => 0)
    have h3 := Lies.new ((w.alloc (.cells (relCs n a) 46)).alloc (.cells (relCs 0 fun _ => 0) 46)) 46 (relCs n fun _ => 0)
    rw [World.size_alloc] at h2
    rw [World.size_alloc, World.size_alloc] at h3
    exact ⟨(((Below.refl _ _).alloc (Nat.le_refl _) _).alloc (by simp) _).alloc (by simp; omega) _, (h1.alloc _).alloc _, h2.alloc _, h3, by omega⟩
  go_enter Tryd.func50, Tryd.ntmps50
  go_wp2_with fail
  change Code.wp _ _ _ _ (((w.alloc (.cells (relCs n a) 46)).alloc (.cells (relCs 0 fun _ => 0) 46)).alloc (.cells (relCs n fun _ => 0) 46))
  generalize ((w.alloc (.cells (relCs n a) 46)).alloc (.cells (relCs 0 fun _ => 0) 46)).alloc (.cells (relCs n fun _ => 0) 46) = W at HC ⊢
  have hfar := HC.far
  generalize w.heap.size + 1 + 1 = G at HC hfar ⊢
  go_loopw [11] (fun i wr => ∃ k : Nat, k ≤ n ∧ i = .int .i64 k ∧ CRel w G n a (revs n a k) wr) (fun i _ => n - (intOf i).toNat)
  case atStart => exact ⟨0, by omega, rfl, HC⟩
  case round =>
    clear HC
    obtain ⟨k, hk, rfl, hC⟩ := hrel
    have hs := hC.arg.size
    by_cases hkn : k < n
    · go_wp2_with fail
      obtain ⟨wo, rfl⟩ : ∃ wo : World, wo = wr := ⟨_, rfl⟩
      clear hs
      go_loopw [16] (fun i wr => ∃ m : Nat, m ≤ n ∧ i = .int .i64 m ∧ CRel w G n a (stepR m a k (revs n a k)) wr) (fun i _ => n - (intOf i).toNat)
      case atStart => exact ⟨0, by omega, rfl, by rw [stepR_zero]; exact hC⟩
      case round =>
        clear hC
        obtain ⟨m, hm, rfl, hC⟩ := hrel
        by_cases hmn : m < n
        · have hm12 : m < 12 := by omega
          have hk12 : k < 12 := by omega
          have hak := ha k hk12
          have hlm : revs n a k m < 65536 := revs_lt n a 16 m k (by omega)
          have ck := hC.arg.row' hk12
          have cm := hC.clo.row' hm12
          have fm := hC.clo.free (1 + m)
          rw [stepR_at] at cm
          have ho := or_pow (revs n a k m) k hlm (by omega)
          have hp := pow_u16 k (by omega)
          have hs := stepR_succ m a k (revs n a k)
          cases hb : (a k).testBit m
          · rw [hb] at hs
            have HS := Lib.hid hs
            have Hb := Lib.hid hb
            clear hs hb
            go_wp2_with (go_at_call 68; refine (has_no _ m _ hak (by omega) Hb.out).mono ?_; rintro e w' ⟨rfl, rfl⟩)
            go_roundw
            case rel => exact ⟨m + 1, by omega, by go_num, hC.congr (fun i hi => by rw [HS.out]; split <;> simp_all [stepR_at])⟩
            case measure => simp [intOf]; omega
          · rw [hb] at hs
            have HS := Lib.hid hs
            have Hb := Lib.hid hb
            clear hs hb
            go_wp2_with (go_at_call 68; refine (has_yes _ m _ hak (by omega) Hb.out).mono ?_; rintro e w' ⟨rfl, rfl⟩)
            go_region
            go_wp2
            go_roundw
            case rel => exact ⟨m + 1, by omega, by go_num, (CRel.drew (hC.set_ hm12 _)).congr (fun i hi => by rw [HS.out]; split <;> simp_all)⟩
            case measure => simp [intOf]; omega
        · have hmn' : m = n := by omega
          subst hmn'
          go_wp2_with fail
          go_roundw
          case rel => exact ⟨k + 1, by omega, by go_num, hC⟩
          case measure => simp [intOf]; omega
    · have hkn' : k = n := by omega
      subst hkn'
      have hr := hC.res.size
      obtain ⟨r0, r1, r2, r3, r4, r5, r6, r7, r8, r9, r10, r11⟩ := hC.res.rows
      have hc := hC.clo.size
      obtain ⟨c0, c1, c2, c3, c4, c5, c6, c7, c8, c9, c10, c11⟩ := hC.clo.rows
      have hf := hC.res.free
      go_wp2_with fail
      clear hr r0 r1 r2 r3 r4 r5 r6 r7 r8 r9 r10 r11 hs hc c0 c1 c2 c3 c4 c5 c6 c7 c8 c9 c10 c11 hf
      refine post_fill (W := wr) (g := w.heap.size + 1) k (revs k a k) hC.res hC.below (by omega) ?_
      intro wz hz hbz
      have hs := hz.size
      obtain ⟨c0, c1, c2, c3, c4, c5, c6, c7, c8, c9, c10, c11⟩ := hz.rows
      exact bodyPost_ret (v := relV k (revs k a k))
        (by simp [results, Tryd.results50, go_sem, hs, c0, c1, c2, c3, c4, c5, c6, c7, c8, c9, c10, c11]) rfl ⟨rfl, hbz⟩
end Go.Proofs.YtfgangkpebkicaaDoor

/-
  Plain: the closure and the turned relation stay small.
-/
namespace Go.Proofs.YtfgangkpebkicaaDoor
open Go.RowKit
set_option maxRecDepth 20000
theorem clo_lt {n : Nat} {a : Nat → Nat} (h : Good n a) : ∀ i, i < 12 → clo n a i < 65536 := warsh_lt (B := 16) h.lt n h.le
theorem rev_lt {n : Nat} (h : n ≤ 12) (c : Nat → Nat) : ∀ i, rev n c i < 65536 := fun i => revs_lt n c 16 i n (by omega)
end Go.Proofs.YtfgangkpebkicaaDoor

/-
  Slices of integers of the call's own: make with a capacity, append of one; slices that read as a list.
-/
namespace Go.Proofs.YtfgangkpebkicaaDoor
open Go.RowKit
set_option maxRecDepth 20000
/-- The value v is a slice of the call's own (in blocks from B on) that holds the integers xs. -/
def JOwn (w : World) (B : Nat) (v : Value) (xs : List Int) : Prop := w.ownsRow B 3 1 v xs.length (xs.map (Value.int .i64))
theorem JOwn.drew {w : World} {B : Nat} {v : Value} {xs : List Int} (h : JOwn w B v xs) : JOwn w.drew B v xs := h
theorem JOwn.alloc {w : World} {B : Nat} {v : Value} {xs : List Int} (h : JOwn w B v xs) (o : Obj) : JOwn (w.alloc o) B v xs := World.ownsRow.alloc h o
theorem JOwn.then_ {w w' : World} {B : Nat} {v : Value} {xs : List Int} (h : JOwn w B v xs) (hb : Below w.heap.size w w') : JOwn w' B v xs :=
  World.ownsRow.kept h (row := none) ⟨hb.os, hb.tape, hb.output, hb.size, fun k hk _ => hb.block k hk⟩ (by
    cases hv : v.ownBlock with
    | none => exact .inl rfl
    | some k => exact .inr (by simp))
theorem JOwn.mono {w : World} {B B' : Nat} {v : Value} {xs : List Int} (h : JOwn w B v xs) (hB : B' ≤ B) : JOwn w B' v xs := by
  obtain ⟨h1, h2⟩ := h
  refine ⟨h1, ?_⟩
  rcases h2 with h2 | ⟨g, cap, cur, h3, h4, h5⟩
  · exact .inl h2
  · exact .inr ⟨g, cap, cur, h3, Nat.le_trans hB h4, h5⟩
theorem made_cap (N : Nat) (hN : N ≤ 65536) (w : World) :
    (Instr.makeSlice 22 (.int .i64 0) (.int .i64 N)).run Tryd.prog w = .ok (.slice (some ⟨w.heap.size, 0, none⟩) 0 N) (w.alloc (.cells (tabCs N fun _ => 0) 3)) := by
  obtain ⟨i0, hi, hz0, hz1, hz2⟩ := info_parts info_intT
  rw [run_make w 22 3 i0 (.int .i64 0) Tryd.underlying22 hi hz0 .i64 .i64 0 N (by omega) (by omega) (by rw [hz2]; omega) (by omega), hz1]
  simp only [Int.toNat_natCast, Nat.mul_one]
  congr 3
  apply Array.ext
  · simp [tabCs, madeCells]
  · intro j h1 h2
    simp [tabCs, madeCells, Value.cells, Nat.mod_one]
theorem JOwn.made (w : World) (N : Nat) (hN : N ≤ 65536) : JOwn (w.alloc (.cells (tabCs N fun _ => 0) 3)) w.heap.size (.slice (some ⟨w.heap.size, 0, none⟩) 0 N) [] :=
  World.ownsRow_made w _ N (Nat.le_refl _) (by unfold maxLen; omega) (by simp [tabCs])
/-- append(s, y), behind the block that holds y. -/
theorem app_one {W : World} {ops : Array Oper} {rest : List Oper} {o : Oper} {a : Act} {Q : Exit → Act → World → Prop} (hgd : o.guard = none) (s x : Operand)
    (ho : o.op = .call { callee := .builtin .append, args := #[s, x], argTypes := #[22, 22] })
    (B : Nat) (v : Value) (xs : List Int) (hs : a.eval s = v) (hown : JOwn W B v xs) (y : Int) (hx : a.eval x = .slice (some ⟨W.heap.size, 0, none⟩) 1 1)
    (hlen : xs.length ≤ 65536) (hB : B ≤ W.heap.size)
    (k : ∀ v' w', JOwn w' B v' (xs ++ [y]) → Below B W w' → wpList Tryd.prog ops Q rest (a.put o.dst v') w') :
    wpList Tryd.prog ops Q (o :: rest) a (W.alloc (.cells #[.int .i64 y] 3)) := by
  obtain ⟨i0, hi, hz0, hz1, hz2⟩ := info_parts info_intT
  refine wpList_append_own _ hgd s x 22 ho B 3 i0 (.int .i64 0) 1 8 Tryd.underlying22 hi hz0 hz1 hz2 rfl (by decide) v xs.length (xs.map (Value.int .i64)) hs (World.ownsRow.alloc hown _)
    ⟨W.heap.size, 0, none⟩ 1 1 [.int .i64 y] hx rfl ?_ ?_ (by unfold maxLen; omega) (by omega) (by simp; omega) ?_
  · intro j u hu
    match j, hu with
    | 0, hu => injection hu with hu; subst hu; exact (World.cell?_alloc_at _ _ _ _ rfl).trans rfl
    | j + 1, hu => simp at hu
  · intro u hu
    simp at hu
    subst hu
    rfl
  · intro v' w' h1 h2 _
    refine k v' w' ?_ ?_
    · unfold JOwn
      simpa using h1
    · have hl := World.ownsRow.lt hown
      exact ((Below.refl B W).alloc hB _).grown h2 (by simp; omega) (fun k hk => (hl k hk).1)
theorem JOwn.rd {w : World} {B : Nat} {v : Value} {xs : List Int} (h : JOwn w B v xs) : IRd w w.heap.size v xs := by
  rcases h.2 with ⟨rfl, h0⟩ | ⟨g, cap, cur, rfl, h1, h2, h3⟩
  · exact ⟨none, 0, by rw [h0], fun h => by omega⟩
  · refine ⟨_, cap, rfl, fun _ => ⟨g, rfl, ?_, fun j hj => ?_⟩⟩
    · rcases Nat.lt_or_ge g w.heap.size with h' | h'
      · exact h'
      · rw [Array.getElem?_eq_none h'] at h2; cases h2
    · rw [World.ownsRow.cellAt h j (by omega)]
      simp [hj]
end Go.Proofs.YtfgangkpebkicaaDoor

/-
  Plain mathematics of the lowest bit, and of how many bits there are.
-/
namespace Go.Proofs.YtfgangkpebkicaaDoor
open Go.RowKit
set_option maxRecDepth 20000
/-- The place of the lowest bit. -/
def tzN : Nat → Nat → Nat
  | 0, _ => 0
  | f + 1, x => if x % 2 = 1 then 0 else tzN f (x / 2) + 1
def tz (x : Nat) : Nat := tzN 16 x
theorem and_double (a b : Nat) : (2 * a) &&& (2 * b) = 2 * (a &&& b) := by
  apply Nat.eq_of_testBit_eq
  intro i
  cases i with
  | zero => simp [Nat.testBit_zero]
  | succ j =>
    rw [Nat.testBit_succ, Nat.testBit_succ, Nat.and_div_two]
    rw [show 2 * a / 2 = a by omega, show 2 * b / 2 = b by omega, show 2 * (a &&& b) / 2 = a &&& b by omega]
theorem and_odd (a b : Nat) : (2 * a + 1) &&& (2 * b + 1) = 2 * (a &&& b) + 1 := by
  apply Nat.eq_of_testBit_eq
  intro i
  cases i with
  | zero => simp [Nat.testBit_zero]
  | succ j =>
    rw [Nat.testBit_succ, Nat.testBit_succ, Nat.and_div_two]
    rw [show (2 * a + 1) / 2 = a by omega, show (2 * b + 1) / 2 = b by omega, show (2 * (a &&& b) + 1) / 2 = a &&& b by omega]
theorem and_compl (k m : Nat) (h : m < 2 ^ k) : m &&& (2 ^ k - 1 - m) = 0 := by
  apply Nat.eq_of_testBit_eq
  intro i
  rw [show 2 ^ k - 1 - m = 2 ^ k - (m + 1) by omega, Nat.testBit_and, Nat.testBit_two_pow_sub_succ h, Nat.zero_testBit]
  cases m.testBit i <;> simp
theorem low_and : ∀ k x : Nat, 0 < x → x < 2 ^ k → x &&& (2 ^ k - x) = 2 ^ (tzN k x) ∧ tzN k x < k
  | 0, x, h0, h1 => by simp at h1; omega
  | k + 1, x, h0, h1 => by
    have hp : 2 ^ (k + 1) = 2 * 2 ^ k := by rw [Nat.pow_succ]; omega
    unfold tzN
    by_cases ho : x % 2 = 1
    · rw [if_pos ho]
      obtain ⟨m, rfl⟩ : ∃ m, x = 2 * m + 1 := ⟨x / 2, by omega⟩
      have hm : m < 2 ^ k := by omega
      rw [show 2 ^ (k + 1) - (2 * m + 1) = 2 * (2 ^ k - 1 - m) + 1 by omega, and_odd, and_compl k m hm]
      exact ⟨rfl, by omega⟩
    · rw [if_neg ho]
      obtain ⟨m, rfl⟩ : ∃ m, x = 2 * m := ⟨x / 2, by omega⟩
      have hm : m < 2 ^ k := by omega
      obtain ⟨h, hl⟩ := low_and k m (by omega) hm
      rw [show 2 ^ (k + 1) - (2 * m) = 2 * (2 ^ k - m) by omega, and_double, show 2 * m / 2 = m by omega, h]
      exact ⟨by rw [Nat.pow_succ]; omega, by omega⟩
theorem tzN_bit : ∀ k x : Nat, 0 < x → x < 2 ^ k → x.testBit (tzN k x) = true ∧ ∀ i, i < tzN k x → x.testBit i = false
  | 0, x, h0, h1 => by simp at h1; omega
  | k + 1, x, h0, h1 => by
    have hp : 2 ^ (k + 1) = 2 * 2 ^ k := by rw [Nat.pow_succ]; omega
    unfold tzN
    by_cases ho : x % 2 = 1
    · rw [if_pos ho]
      exact ⟨by rw [Nat.testBit_zero]; simpa using ho, fun i hi => by omega⟩
    · rw [if_neg ho]
      obtain ⟨h, hl⟩ := tzN_bit k (x / 2) (by omega) (by omega)
      refine ⟨by rw [Nat.testBit_succ]; exact h, fun i hi => ?_⟩
      cases i with
      | zero => rw [Nat.testBit_zero]; simpa using ho
      | succ j => rw [Nat.testBit_succ]; exact hl j (by omega)
def deb : List Nat := [0, 1, 28, 2, 29, 14, 24, 3, 30, 22, 20, 15, 25, 17, 4, 8, 31, 27, 13, 23, 21, 19, 16, 7, 26, 12, 18, 6, 11, 5, 10, 9]
theorem deb_at : ∀ t, t < 16 → 2 ^ t * 125613361 % 4294967296 / 134217728 < 32 ∧ deb.getD (2 ^ t * 125613361 % 4294967296 / 134217728) 0 = t := by decide
end Go.Proofs.YtfgangkpebkicaaDoor
