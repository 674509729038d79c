/-
  Joined by a program out of: Clo, Acyclic, Ready, Reverse, CloLt, Tab, SeqI, BitsPure, Bits.
-/
import Derived.Test.YtecpjeililiafaaDoorMgBJ
import Derived.Test.YtecpjeililiafaaDoorMgAI
import Derived.OwnWalk
import Derived.Test.YtecpjeililiafaaDoorMgAW
import Derived.WalkKit
import Derived.Deep.QuietTactic
import Derived.BigQuiet

/-
  Contracts of order.Close, by whether Check finds a fault.
-/
namespace Go.Proofs.YtecpjeililiafaaDoor
open Go.RowKit
set_option maxRecDepth 20000

/-- The zero relation, as a value. -/
abbrev zeroV : Value := .agg #[.int .i64 0, .int .u16 0, .int .u16 0, .int .u16 0, .int .u16 0, .int .u16 0, .int .u16 0, .int .u16 0, .int .u16 0, .int .u16 0, .int .u16 0, .int .u16 0, .int .u16 0]

/-- What Check answers, whatever the memory. -/
def Checks (n : Int) (a : Nat → Nat) (E : Int) : Prop := ∀ w : World, Calls Tryd.prog 125 #[relV n a] w fun e w' => e = .returned (.int .i64 E) ∧ Below w.heap.size w w'

theorem close_err (n : Int) (a : Nat → Nat) (E : Int) (w : World) (hE : (E != 0) = true) (hc : Checks n a E) :
    Calls Tryd.prog 114 #[relV n a] w fun e w' => e = .returned (.tuple #[zeroV, .bool false, .int .i64 E]) ∧ Below w.heap.size w w' := by
  go_enter Tryd.func114, Tryd.ntmps114
  go_wp2_with fail
  refine (hc _).mono ?_
  rintro e w1 ⟨rfl, hb1⟩
  have hB0 : RelB w1 (w.heap.size + 1) 0 (fun _ => 0) := Lies.below (Lies.cast (by have h := Lies.new (w.alloc (.cells (relCs n a) 36)) 36 (relCs 0 fun _ => 0); rw [World.size_alloc] at h; exact h) rfl) hb1 (by rw [World.size_alloc, World.size_alloc]; omega)
  have hbw : Below w.heap.size w w1 := (((Below.refl _ _).alloc (Nat.le_refl _) _).alloc (by simp) _).trans (hb1.mono (by simp; omega))
  have hs := hB0.size
  obtain ⟨c0, c1, c2, c3, c4, c5, c6, c7, c8, c9, c10, c11⟩ := hB0.rows
  have hf := hB0.free
  have HB := Lib.hid hbw
  clear hb1 hc hbw
  go_wp2_with fail
  have hz := hB0.fill 0 (fun _ => 0)
  have hbz := fillW_below HB.out (g := w.heap.size + 1) (by omega) 0 (fun _ => 0)
  clear hs c0 c1 c2 c3 c4 c5 c6 c7 c8 c9 c10 c11 hf
  change bodyPost _ _ _ _ _ (fillW w1 (w.heap.size + 1) 0 (fun _ => 0))
  generalize fillW w1 (w.heap.size + 1) 0 (fun _ => 0) = wz at hz hbz ⊢
  have hs := hz.size
  obtain ⟨c0, c1, c2, c3, c4, c5, c6, c7, c8, c9, c10, c11⟩ := hz.rows
  exact bodyPost_ret (v := .tuple #[zeroV, .bool false, .int .i64 E])
    (by simp [results, Tryd.results114, go_sem, hs, c0, c1, c2, c3, c4, c5, c6, c7, c8, c9, c10, c11]) rfl ⟨rfl, hbz⟩

/-- A relation on n items that Check lets by. -/
structure Good (n : Nat) (a : Nat → Nat) : Prop where
  le : n ≤ 12
  lt : ∀ i, i < 12 → a i < 65536
  rows : ∀ i, i < 12 → rowBad n i (a i) = false
/-- Its closure. -/
def clo (n : Nat) (a : Nat → Nat) : Nat → Nat := warsh n a n

theorem close_any (n : Nat) (a : Nat → Nat) (w : World) (h : Good n a) :
    Calls Tryd.prog 114 #[relV n a] w fun e w' => e = .returned (.tuple #[relV n (clo n a), .bool (cyc (clo n a) n), .int .i64 0]) ∧ Below w.heap.size w w' :=
  close_ok n a w h.le h.lt h.rows
theorem close_yes (n : Nat) (a : Nat → Nat) (w : World) (h : Good n a) (hy : cyc (clo n a) n = true) :
    Calls Tryd.prog 114 #[relV n a] w fun e w' => e = .returned (.tuple #[relV n (clo n a), .bool true, .int .i64 0]) ∧ Below w.heap.size w w' := hy ▸ close_any n a w h
theorem close_no (n : Nat) (a : Nat → Nat) (w : World) (h : Good n a) (hy : cyc (clo n a) n = false) :
    Calls Tryd.prog 114 #[relV n a] w fun e w' => e = .returned (.tuple #[relV n (clo n a), .bool false, .int .i64 0]) ∧ Below w.heap.size w w' := hy ▸ close_any n a w h
end Go.Proofs.YtecpjeililiafaaDoor

/-
  Contract of order.closeAcyclic.
-/
namespace Go.Proofs.YtecpjeililiafaaDoor
open Go.RowKit
set_option maxRecDepth 20000

set_option maxHeartbeats 1000000 in
theorem acyclic_err (n : Int) (a : Nat → Nat) (E : Int) (w : World) (hE : (E != 0) = true) (hc : Checks n a E) :
    Calls Tryd.prog 98 #[relV n a] w fun e w' => e = .returned (.tuple #[zeroV, .int .i64 E]) ∧ Below w.heap.size w w' := by
  go_enter Tryd.func98, Tryd.ntmps98
  go_wp2_with fail
  refine (close_err n a E _ hE hc).mono ?_
  rintro e w1 ⟨rfl, hb1⟩
  have hB0 : RelB w1 (w.heap.size + 1) 0 (fun _ => 0) := Lies.below (Lies.cast (by have h := Lies.new (w.alloc (.cells (relCs n a) 36)) 36 (relCs 0 fun _ => 0); rw [World.size_alloc] at h; exact h) rfl) hb1 (by rw [World.size_alloc, World.size_alloc]; omega)
  have hbw : Below w.heap.size w w1 := (((Below.refl _ _).alloc (Nat.le_refl _) _).alloc (by simp) _).trans (hb1.mono (by simp; omega))
  have hlt : w.heap.size + 1 < w1.heap.size := by have := hb1.size; simp at this; omega
  have hs := hB0.size
  obtain ⟨c0, c1, c2, c3, c4, c5, c6, c7, c8, c9, c10, c11⟩ := hB0.rows
  have hf := hB0.free
  have HB := Lib.hid hbw
  clear hb1 hbw
  go_wp2_with fail
  clear hs c0 c1 c2 c3 c4 c5 c6 c7 c8 c9 c10 c11 hf
  refine post_fill1 (W := w1) (g := w.heap.size + 1) 0 (fun _ => 0) hB0 HB.out (by omega) (by omega) ?_
  intro wz hz hbz
  have hs := hz.size
  obtain ⟨c0, c1, c2, c3, c4, c5, c6, c7, c8, c9, c10, c11⟩ := hz.rows
  exact bodyPost_ret (v := .tuple #[zeroV, .int .i64 E])
    (by simp [results, Tryd.results98, go_sem, hs, c0, c1, c2, c3, c4, c5, c6, c7, c8, c9, c10, c11]) rfl ⟨rfl, hbz⟩


set_option maxHeartbeats 1000000 in
theorem acyclic_yes (n : Nat) (a : Nat → Nat) (w : World) (h : Good n a) (hy : cyc (clo n a) n = true) :
    Calls Tryd.prog 98 #[relV n a] w fun e w' => e = .returned (.tuple #[zeroV, .int .i64 4]) ∧ Below w.heap.size w w' := by
  go_enter Tryd.func98, Tryd.ntmps98
  go_wp2_with fail
  refine (close_yes n a _ h hy).mono ?_
  rintro e w1 ⟨rfl, hb1⟩
  have hB0 : RelB w1 (w.heap.size + 1) 0 (fun _ => 0) := Lies.below (Lies.cast (by have h := Lies.new (w.alloc (.cells (relCs n a) 36)) 36 (relCs 0 fun _ => 0); rw [World.size_alloc] at h; exact h) rfl) hb1 (by rw [World.size_alloc, World.size_alloc]; omega)
  have hbw : Below w.heap.size w w1 := (((Below.refl _ _).alloc (Nat.le_refl _) _).alloc (by simp) _).trans (hb1.mono (by simp; omega))
  have hlt : w.heap.size + 1 < w1.heap.size := by have := hb1.size; simp at this; omega
  have hs := hB0.size
  obtain ⟨c0, c1, c2, c3, c4, c5, c6, c7, c8, c9, c10, c11⟩ := hB0.rows
  have hf := hB0.free
  have HB := Lib.hid hbw
  clear hb1 hbw
  go_wp2_with fail
  clear hs c0 c1 c2 c3 c4 c5 c6 c7 c8 c9 c10 c11 hf
  refine post_fill1 (W := w1) (g := w.heap.size + 1) 0 (fun _ => 0) hB0 HB.out (by omega) (by omega) ?_
  intro wz hz hbz
  have hs := hz.size
  obtain ⟨c0, c1, c2, c3, c4, c5, c6, c7, c8, c9, c10, c11⟩ := hz.rows
  exact bodyPost_ret (v := .tuple #[zeroV, .int .i64 4])
    (by simp [results, Tryd.results98, go_sem, hs, c0, c1, c2, c3, c4, c5, c6, c7, c8, c9, c10, c11]) rfl ⟨rfl, hbz⟩

set_option maxHeartbeats 1000000 in
theorem acyclic_no (n : Nat) (a : Nat → Nat) (w : World) (h : Good n a) (hy : cyc (clo n a) n = false) :
    Calls Tryd.prog 98 #[relV n a] w fun e w' => e = .returned (.tuple #[(relV n (clo n a)), .int .i64 0]) ∧ Below w.heap.size w w' := by
  go_enter Tryd.func98, Tryd.ntmps98
  go_wp2_with fail
  refine (close_no n a _ h hy).mono ?_
  rintro e w1 ⟨rfl, hb1⟩
  have hB0 : RelB w1 (w.heap.size + 1) 0 (fun _ => 0) := Lies.below (Lies.cast (by have h := Lies.new (w.alloc (.cells (relCs n a) 36)) 36 (relCs 0 fun _ => 0); rw [World.size_alloc] at h; exact h) rfl) hb1 (by rw [World.size_alloc, World.size_alloc]; omega)
  have hbw : Below w.heap.size w w1 := (((Below.refl _ _).alloc (Nat.le_refl _) _).alloc (by simp) _).trans (hb1.mono (by simp; omega))
  have hlt : w.heap.size + 1 < w1.heap.size := by have := hb1.size; simp at this; omega
  have hs := hB0.size
  obtain ⟨c0, c1, c2, c3, c4, c5, c6, c7, c8, c9, c10, c11⟩ := hB0.rows
  have hf := hB0.free
  have HB := Lib.hid hbw
  clear hb1 hbw
  go_wp2_with fail
  clear hs c0 c1 c2 c3 c4 c5 c6 c7 c8 c9 c10 c11 hf
  refine post_fill1 (W := w1) (g := w.heap.size + 1) n (clo n a) hB0 HB.out (by omega) (by omega) ?_
  intro wz hz hbz
  have hs := hz.size
  obtain ⟨c0, c1, c2, c3, c4, c5, c6, c7, c8, c9, c10, c11⟩ := hz.rows
  exact bodyPost_ret (v := .tuple #[(relV n (clo n a)), .int .i64 0])
    (by simp [results, Tryd.results98, go_sem, hs, c0, c1, c2, c3, c4, c5, c6, c7, c8, c9, c10, c11]) rfl ⟨rfl, hbz⟩

end Go.Proofs.YtecpjeililiafaaDoor

/-
  Contract of order.ready.
-/
namespace Go.Proofs.YtecpjeililiafaaDoor
open Go.RowKit
set_option maxRecDepth 20000

set_option maxHeartbeats 1000000 in
theorem ready_any (n : Nat) (b : Nat → Nat) (d : Nat) (w : World) (hn : n ≤ 12) (hb : ∀ i, i < 12 → b i < 65536) (hd : d < 65536) :
    Calls Tryd.prog 101 #[relV n b, .int .u16 d] w fun e w' => e = .returned (.int .u16 (rdyUp b d n)) ∧ Below w.heap.size w w' := by
  have hB : RelB (w.alloc (.cells (relCs n b) 36)) w.heap.size n b := Lies.new _ _ _
  have hb0 : Below w.heap.size w (w.alloc (.cells (relCs n b) 36)) := (Below.refl _ _).alloc (Nat.le_refl _) _
  go_enter Tryd.func101, Tryd.ntmps101
  go_wp2_with fail
  change Code.wp _ _ _ _ (w.alloc (.cells (relCs n b) 36))
  generalize w.alloc (.cells (relCs n b) 36) = W at hB hb0 ⊢
  go_loop [5, 9] (fun s i => ∃ k : Nat, k ≤ n ∧ i = .int .i64 k ∧ s = .int .u16 (rdyUp b d k)) (fun _ i => n - (intOf i).toNat)
  case atStart => exact ⟨0, by omega, rfl, rfl⟩
  case round =>
    obtain ⟨k, hk, rfl, rfl⟩ := hrel
    by_cases hkn : k < n
    · have hr := hB.row' (show k < 12 by omega)
      have hv := u16_andNot_nat (b k) d (hb k (by omega)) hd
      have ho := or_pow (rdyUp b d k) k (rdyUp_lt b d 16 k (by omega)) (by omega)
      have hp := pow_u16 k (by omega)
      have he : rdyUp b d (k + 1) = if d.testBit k = false ∧ b k &&& (65535 - d) = 0 then rdyUp b d k ||| 2 ^ k else rdyUp b d k := rfl
      have hz := nat_eq0 (b k &&& (65535 - d))
      cases hdk : d.testBit k
      · by_cases hbk : b k &&& (65535 - d) = 0
        · rw [if_pos ⟨hdk, hbk⟩] at he
          rw [decide_eq_true hbk] at hz
          have HE := Lib.hid he
          have HD := Lib.hid hdk
          clear he hbk hdk
          go_wp2_with (go_at_call 115; refine (has_no d k _ hd (by omega) HD.out).mono ?_; rintro e w' ⟨rfl, rfl⟩)
          go_round
          case rel => exact ⟨k + 1, by omega, by go_num, by rw [HE.out]⟩
          case measure => simp [intOf]; omega
        · rw [if_neg (fun h => hbk h.2)] at he
          rw [decide_eq_false hbk] at hz
          have HE := Lib.hid he
          have HD := Lib.hid hdk
          clear he hbk hdk
          go_wp2_with (go_at_call 115; refine (has_no d k _ hd (by omega) HD.out).mono ?_; rintro e w' ⟨rfl, rfl⟩)
          go_round
          case rel => exact ⟨k + 1, by omega, by go_num, by rw [HE.out]⟩
          case measure => simp [intOf]; omega
      · rw [if_neg (fun h => by rw [hdk] at h; exact absurd h.1 (by decide))] at he
        have HE := Lib.hid he
        have HD := Lib.hid hdk
        clear he hdk hz
        go_wp2_with (go_at_call 115; refine (has_yes d k _ hd (by omega) HD.out).mono ?_; rintro e w' ⟨rfl, rfl⟩)
        go_round
        case rel => exact ⟨k + 1, by omega, by go_num, by rw [HE.out]⟩
        case measure => simp [intOf]; omega
    · have hkn' : k = n := by omega
      subst hkn'
      go_wp2_with fail
      go_ret
      exact ⟨rfl, hb0⟩
end Go.Proofs.YtecpjeililiafaaDoor

/-
  Contract of order.reverse.
-/
namespace Go.Proofs.YtecpjeililiafaaDoor
open Go.RowKit
set_option maxRecDepth 20000

set_option maxHeartbeats 1000000 in
theorem reverse_any (n : Nat) (a : Nat → Nat) (w : World) (hn : n ≤ 12) (ha : ∀ i, i < 12 → a i < 65536) :
    Calls Tryd.prog 99 #[relV n a] w fun e w' => e = .returned (relV n (rev n a)) ∧ Below w.heap.size w w' := by
  have HC : CRel w (w.heap.size + 1 + 1) n a (fun _ => 0) (((w.alloc (.cells (relCs n a) 36)).alloc (.cells (relCs 0 fun _ => 0) 36)).alloc (.cells (relCs n fun _ => 0) 36)) := by
    have h1 := Lies.new w 36 (relCs n a)
    have h2 := Lies.new (w.alloc (.cells (relCs n a) 36)) 36 (relCs 0 fun _ => 0)
    have h3 := Lies.new ((w.alloc (.cells (relCs n a) 36)).alloc (.cells (relCs 0 fun _ => 0) 36)) 36 (relCs n fun _ => 0)
    rw [World.size_alloc] at h2
    rw [World.size_alloc, World.size_alloc] at h3
    exact ⟨(((Below.refl _ _).alloc (Nat.le_refl _) _).alloc (by simp) _).alloc (by simp; omega) _, (h1.alloc _).alloc _, h2.alloc _, h3, by omega⟩
  go_enter Tryd.func99, Tryd.ntmps99
  go_wp2_with fail
  change Code.wp _ _ _ _ (((w.alloc (.cells (relCs n a) 36)).alloc (.cells (relCs 0 fun _ => 0) 36)).alloc (.cells (relCs n fun _ => 0) 36))
  generalize ((w.alloc (.cells (relCs n a) 36)).alloc (.cells (relCs 0 fun _ => 0) 36)).alloc (.cells (relCs n fun _ => 0) 36) = W at HC ⊢
  have hfar := HC.far
  generalize w.heap.size + 1 + 1 = G at HC hfar ⊢
  go_loopw [11] (fun i wr => ∃ k : Nat, k ≤ n ∧ i = .int .i64 k ∧ CRel w G n a (revs n a k) wr) (fun i _ => n - (intOf i).toNat)
  case atStart => exact ⟨0, by omega, rfl, HC⟩
  case round =>
    clear HC
    obtain ⟨k, hk, rfl, hC⟩ := hrel
    have hs := hC.arg.size
    by_cases hkn : k < n
    · go_wp2_with fail
      obtain ⟨wo, rfl⟩ : ∃ wo : World, wo = wr := ⟨_, rfl⟩
      clear hs
      go_loopw [16] (fun i wr => ∃ m : Nat, m ≤ n ∧ i = .int .i64 m ∧ CRel w G n a (stepR m a k (revs n a k)) wr) (fun i _ => n - (intOf i).toNat)
      case atStart => exact ⟨0, by omega, rfl, by rw [stepR_zero]; exact hC⟩
      case round =>
        clear hC
        obtain ⟨m, hm, rfl, hC⟩ := hrel
        by_cases hmn : m < n
        · have hm12 : m < 12 := by omega
          have hk12 : k < 12 := by omega
          have hak := ha k hk12
          have hlm : revs n a k m < 65536 := revs_lt n a 16 m k (by omega)
          have ck := hC.arg.row' hk12
          have cm := hC.clo.row' hm12
          have fm := hC.clo.free (1 + m)
          rw [stepR_at] at cm
          have ho := or_pow (revs n a k m) k hlm (by omega)
          have hp := pow_u16 k (by omega)
          have hs := stepR_succ m a k (revs n a k)
          cases hb : (a k).testBit m
          · rw [hb] at hs
            have HS := Lib.hid hs
            have Hb := Lib.hid hb
            clear hs hb
            go_wp2_with (go_at_call 115; refine (has_no _ m _ hak (by omega) Hb.out).mono ?_; rintro e w' ⟨rfl, rfl⟩)
            go_roundw
            case rel => exact ⟨m + 1, by omega, by go_num, hC.congr (fun i hi => by rw [HS.out]; split <;> simp_all [stepR_at])⟩
            case measure => simp [intOf]; omega
          · rw [hb] at hs
            have HS := Lib.hid hs
            have Hb := Lib.hid hb
            clear hs hb
            go_wp2_with (go_at_call 115; refine (has_yes _ m _ hak (by omega) Hb.out).mono ?_; rintro e w' ⟨rfl, rfl⟩)
            go_region
            go_wp2
            go_roundw
            case rel => exact ⟨m + 1, by omega, by go_num, (CRel.drew (hC.set_ hm12 _)).congr (fun i hi => by rw [HS.out]; split <;> simp_all)⟩
            case measure => simp [intOf]; omega
        · have hmn' : m = n := by omega
          subst hmn'
          go_wp2_with fail
          go_roundw
          case rel => exact ⟨k + 1, by omega, by go_num, hC⟩
          case measure => simp [intOf]; omega
    · have hkn' : k = n := by omega
      subst hkn'
      have hr := hC.res.size
      obtain ⟨r0, r1, r2, r3, r4, r5, r6, r7, r8, r9, r10, r11⟩ := hC.res.rows
      have hc := hC.clo.size
      obtain ⟨c0, c1, c2, c3, c4, c5, c6, c7, c8, c9, c10, c11⟩ := hC.clo.rows
      have hf := hC.res.free
      go_wp2_with fail
      clear hr r0 r1 r2 r3 r4 r5 r6 r7 r8 r9 r10 r11 hs hc c0 c1 c2 c3 c4 c5 c6 c7 c8 c9 c10 c11 hf
      refine post_fill (W := wr) (g := w.heap.size + 1) k (revs k a k) hC.res hC.below (by omega) ?_
      intro wz hz hbz
      have hs := hz.size
      obtain ⟨c0, c1, c2, c3, c4, c5, c6, c7, c8, c9, c10, c11⟩ := hz.rows
      exact bodyPost_ret (v := relV k (revs k a k))
        (by simp [results, Tryd.results99, go_sem, hs, c0, c1, c2, c3, c4, c5, c6, c7, c8, c9, c10, c11]) rfl ⟨rfl, hbz⟩
end Go.Proofs.YtecpjeililiafaaDoor

/-
  Plain: the closure and the turned relation stay small.
-/
namespace Go.Proofs.YtecpjeililiafaaDoor
open Go.RowKit
set_option maxRecDepth 20000

theorem clo_lt {n : Nat} {a : Nat → Nat} (h : Good n a) : ∀ i, i < 12 → clo n a i < 65536 := warsh_lt (B := 16) h.lt n h.le
theorem rev_lt {n : Nat} (h : n ≤ 12) (c : Nat → Nat) : ∀ i, rev n c i < 65536 := fun i => revs_lt n c 16 i n (by omega)

theorem wraps_i64 (n : Int) (h₀ : 0 ≤ n) (h₁ : n < 2 ^ 62) : IntKind.i64.wrap n = n := by rw [IntKind.wrap_i64]; omega
theorem pow12 {n : Nat} (h : n ≤ 12) : 2 ^ n ≤ 4096 := Nat.le_trans (Nat.pow_le_pow_right (by omega) h) (by decide)
theorem two_pow_cast (n : Nat) (h : n ≤ 12) : wrap64 (2 ^ n) = ((2 ^ n : Nat) : Int) := by
  rw [show ((2 : Int) ^ n) = ((2 ^ n : Nat) : Int) from by simp]
  have h2 := pow12 h
  generalize 2 ^ n = p at h2 ⊢
  exact IntWalk.wrap64_in _ ⟨by omega, by omega⟩
theorem or_i64 (d m : Nat) (hd : d < 4096) (hm : m < 12) : bits BinOp.or IntKind.i64 (d : Int) (wrap64 (2 ^ m)) = ((d ||| 2 ^ m : Nat) : Int) := by
  rw [two_pow_cast m (by omega)]
  have h2 : 2 ^ m ≤ 4096 := pow12 (by omega)
  exact (bits_nat .i64 62 (by decide) wraps_i64 d (2 ^ m) (by omega) (by omega)).2
end Go.Proofs.YtecpjeililiafaaDoor

/-
  A table of integers in a block of the call's own; how it is made; how a number of one bit is joined to a set.
-/
namespace Go.Proofs.YtecpjeililiafaaDoor
open Go.RowKit
set_option maxRecDepth 20000

end Go.Proofs.YtecpjeililiafaaDoor

/-
  Slices of integers of the call's own: make with a capacity, append of one; slices that read as a list.
-/
namespace Go.Proofs.YtecpjeililiafaaDoor
open Go.RowKit
set_option maxRecDepth 20000

/-- The value v is a slice of the call's own (in blocks from B on) that holds the integers xs. -/
def JOwn (w : World) (B : Nat) (v : Value) (xs : List Int) : Prop := w.ownsRow B 3 1 v xs.length (xs.map (Value.int .i64))

theorem JOwn.drew {w : World} {B : Nat} {v : Value} {xs : List Int} (h : JOwn w B v xs) : JOwn w.drew B v xs := h
theorem JOwn.alloc {w : World} {B : Nat} {v : Value} {xs : List Int} (h : JOwn w B v xs) (o : Obj) : JOwn (w.alloc o) B v xs := World.ownsRow.alloc h o
theorem JOwn.then_ {w w' : World} {B : Nat} {v : Value} {xs : List Int} (h : JOwn w B v xs) (hb : Below w.heap.size w w') : JOwn w' B v xs :=
  World.ownsRow.kept h (row := none) ⟨hb.os, hb.tape, hb.output, hb.size, fun k hk _ => hb.block k hk⟩ (by
    cases hv : v.ownBlock with
    | none => exact .inl rfl
    | some k => exact .inr (by simp))
theorem JOwn.mono {w : World} {B B' : Nat} {v : Value} {xs : List Int} (h : JOwn w B v xs) (hB : B' ≤ B) : JOwn w B' v xs := by
  obtain ⟨h1, h2⟩ := h
  refine ⟨h1, ?_⟩
  rcases h2 with h2 | ⟨g, cap, cur, h3, h4, h5⟩
  · exact .inl h2
  · exact .inr ⟨g, cap, cur, h3, Nat.le_trans hB h4, h5⟩

theorem made_cap (N : Nat) (hN : N ≤ 65536) (w : World) :
    (Instr.makeSlice 22 (.int .i64 0) (.int .i64 N)).run Tryd.prog w = .ok (.slice (some ⟨w.heap.size, 0, none⟩) 0 N) (w.alloc (.cells (tabCs N fun _ => 0) 3)) := by
  obtain ⟨i0, hi, hz0, hz1, hz2⟩ := info_parts info_intT
  rw [run_make w 22 3 i0 (.int .i64 0) Tryd.underlying22 hi hz0 .i64 .i64 0 N (by omega) (by omega) (by rw [hz2]; omega) (by omega), hz1]
  simp only [Int.toNat_natCast, Nat.mul_one]
  congr 3
  apply Array.ext
  · simp [tabCs, madeCells]
  · intro j h1 h2
    simp [tabCs, madeCells, Value.cells, Nat.mod_one]

theorem JOwn.made (w : World) (N : Nat) (hN : N ≤ 65536) : JOwn (w.alloc (.cells (tabCs N fun _ => 0) 3)) w.heap.size (.slice (some ⟨w.heap.size, 0, none⟩) 0 N) [] :=
  World.ownsRow_made w _ N (Nat.le_refl _) (by unfold maxLen; omega) (by simp [tabCs])

/-- append(s, y), behind the block that holds y. -/
theorem app_one {W : World} {ops : Array Oper} {rest : List Oper} {o : Oper} {a : Act} {Q : Exit → Act → World → Prop} (hgd : o.guard = none) (s x : Operand)
    (ho : o.op = .call { callee := .builtin .append, args := #[s, x], argTypes := #[22, 22] })
    (B : Nat) (v : Value) (xs : List Int) (hs : a.eval s = v) (hown : JOwn W B v xs) (y : Int) (hx : a.eval x = .slice (some ⟨W.heap.size, 0, none⟩) 1 1)
    (hlen : xs.length ≤ 65536) (hB : B ≤ W.heap.size)
    (k : ∀ v' w', JOwn w' B v' (xs ++ [y]) → Below B W w' → wpList Tryd.prog ops Q rest (a.put o.dst v') w') :
    wpList Tryd.prog ops Q (o :: rest) a (W.alloc (.cells #[.int .i64 y] 3)) := by
  obtain ⟨i0, hi, hz0, hz1, hz2⟩ := info_parts info_intT
  refine wpList_append_own _ hgd s x 22 ho B 3 i0 (.int .i64 0) 1 8 Tryd.underlying22 hi hz0 hz1 hz2 rfl (by decide) v xs.length (xs.map (Value.int .i64)) hs (World.ownsRow.alloc hown _)
    ⟨W.heap.size, 0, none⟩ 1 1 [.int .i64 y] hx rfl ?_ ?_ (by unfold maxLen; omega) (by omega) (by simp; omega) ?_
  · intro j u hu
    match j, hu with
    | 0, hu => injection hu with hu; subst hu; exact (World.cell?_alloc_at _ _ _ _ rfl).trans rfl
    | j + 1, hu => simp at hu
  · intro u hu
    simp at hu
    subst hu
    rfl
  · intro v' w' h1 h2 _
    refine k v' w' ?_ ?_
    · unfold JOwn
      simpa using h1
    · have hl := World.ownsRow.lt hown
      exact ((Below.refl B W).alloc hB _).grown h2 (by simp; omega) (fun k hk => (hl k hk).1)

theorem JOwn.rd {w : World} {B : Nat} {v : Value} {xs : List Int} (h : JOwn w B v xs) : IRd w w.heap.size v xs := by
  rcases h.2 with ⟨rfl, h0⟩ | ⟨g, cap, cur, rfl, h1, h2, h3⟩
  · exact ⟨none, 0, by rw [h0], fun h => by omega⟩
  · refine ⟨_, cap, rfl, fun _ => ⟨g, rfl, ?_, fun j hj => ?_⟩⟩
    · rcases Nat.lt_or_ge g w.heap.size with h' | h'
      · exact h'
      · rw [Array.getElem?_eq_none h'] at h2; cases h2
    · rw [World.ownsRow.cellAt h j (by omega)]
      simp [hj]
end Go.Proofs.YtecpjeililiafaaDoor

/-
  Plain mathematics of the lowest bit, and of how many bits there are.
-/
namespace Go.Proofs.YtecpjeililiafaaDoor
open Go.RowKit
set_option maxRecDepth 20000

/-- The place of the lowest bit. -/
def tzN : Nat → Nat → Nat
  | 0, _ => 0
  | f + 1, x => if x % 2 = 1 then 0 else tzN f (x / 2) + 1
def tz (x : Nat) : Nat := tzN 16 x

theorem and_double (a b : Nat) : (2 * a) &&& (2 * b) = 2 * (a &&& b) := by
  apply Nat.eq_of_testBit_eq
  intro i
  cases i with
  | zero => simp [Nat.testBit_zero]
  | succ j =>
    rw [Nat.testBit_succ, Nat.testBit_succ, Nat.and_div_two]
    rw [show 2 * a / 2 = a by omega, show 2 * b / 2 = b by omega, show 2 * (a &&& b) / 2 = a &&& b by omega]
theorem and_odd (a b : Nat) : (2 * a + 1) &&& (2 * b + 1) = 2 * (a &&& b) + 1 := by
  apply Nat.eq_of_testBit_eq
  intro i
  cases i with
  | zero => simp [Nat.testBit_zero]
  | succ j =>
    rw [Nat.testBit_succ, Nat.testBit_succ, Nat.and_div_two]
    rw [show (2 * a + 1) / 2 = a by omega, show (2 * b + 1) / 2 = b by omega, show (2 * (a &&& b) + 1) / 2 = a &&& b by omega]
theorem and_compl (k m : Nat) (h : m < 2 ^ k) : m &&& (2 ^ k - 1 - m) = 0 := by
  apply Nat.eq_of_testBit_eq
  intro i
  rw [show 2 ^ k - 1 - m = 2 ^ k - (m + 1) by omega, Nat.testBit_and, Nat.testBit_two_pow_sub_succ h, Nat.zero_testBit]
  cases m.testBit i <;> simp

theorem low_and : ∀ k x : Nat, 0 < x → x < 2 ^ k → x &&& (2 ^ k - x) = 2 ^ (tzN k x) ∧ tzN k x < k
  | 0, x, h0, h1 => by simp at h1; omega
  | k + 1, x, h0, h1 => by
    have hp : 2 ^ (k + 1) = 2 * 2 ^ k := by rw [Nat.pow_succ]; omega
    unfold tzN
    by_cases ho : x % 2 = 1
    · rw [if_pos ho]
      obtain ⟨m, rfl⟩ : ∃ m, x = 2 * m + 1 := ⟨x / 2, by omega⟩
      have hm : m < 2 ^ k := by omega
      rw [show 2 ^ (k + 1) - (2 * m + 1) = 2 * (2 ^ k - 1 - m) + 1 by omega, and_odd, and_compl k m hm]
      exact ⟨rfl, by omega⟩
    · rw [if_neg ho]
      obtain ⟨m, rfl⟩ : ∃ m, x = 2 * m := ⟨x / 2, by omega⟩
      have hm : m < 2 ^ k := by omega
      obtain ⟨h, hl⟩ := low_and k m (by omega) hm
      rw [show 2 ^ (k + 1) - (2 * m) = 2 * (2 ^ k - m) by omega, and_double, show 2 * m / 2 = m by omega, h]
      exact ⟨by rw [Nat.pow_succ]; omega, by omega⟩

theorem tzN_bit : ∀ k x : Nat, 0 < x → x < 2 ^ k → x.testBit (tzN k x) = true ∧ ∀ i, i < tzN k x → x.testBit i = false
  | 0, x, h0, h1 => by simp at h1; omega
  | k + 1, x, h0, h1 => by
    have hp : 2 ^ (k + 1) = 2 * 2 ^ k := by rw [Nat.pow_succ]; omega
    unfold tzN
    by_cases ho : x % 2 = 1
    · rw [if_pos ho]
      exact ⟨by rw [Nat.testBit_zero]; simpa using ho, fun i hi => by omega⟩
    · rw [if_neg ho]
      obtain ⟨h, hl⟩ := tzN_bit k (x / 2) (by omega) (by omega)
      refine ⟨by rw [Nat.testBit_succ]; exact h, fun i hi => ?_⟩
      cases i with
      | zero => rw [Nat.testBit_zero]; simpa using ho
      | succ j => rw [Nat.testBit_succ]; exact hl j (by omega)

/-- How many of the lowest k bits are set. -/
def popN : Nat → Nat → Nat
  | 0, _ => 0
  | f + 1, x => x % 2 + popN f (x / 2)
def pop (x : Nat) : Nat := popN 16 x

def deb : List Nat := [0, 1, 28, 2, 29, 14, 24, 3, 30, 22, 20, 15, 25, 17, 4, 8, 31, 27, 13, 23, 21, 19, 16, 7, 26, 12, 18, 6, 11, 5, 10, 9]
theorem deb_at : ∀ t, t < 16 → 2 ^ t * 125613361 % 4294967296 / 134217728 < 32 ∧ deb.getD (2 ^ t * 125613361 % 4294967296 / 134217728) 0 = t := by decide

theorem popN_zero : ∀ k, popN k 0 = 0
  | 0 => rfl
  | k + 1 => by unfold popN; rw [popN_zero k]
theorem popN_small : ∀ k j x : Nat, x < 2 ^ k → k ≤ j → popN j x = popN k x
  | 0, j, x, h, _ => by
    have : x = 0 := by simpa using h
    subst this
    rw [popN_zero, popN_zero]
  | k + 1, 0, x, h, hj => by omega
  | k + 1, j + 1, x, h, hj => by
    have hp : 2 ^ (k + 1) = 2 * 2 ^ k := by rw [Nat.pow_succ]; omega
    unfold popN
    rw [popN_small k j (x / 2) (by omega) (by omega)]
theorem popN_split : ∀ k j x : Nat, popN (k + j) x = popN k (x % 2 ^ k) + popN j (x / 2 ^ k)
  | 0, j, x => by simp [popN]
  | k + 1, j, x => by
    have hp : 2 ^ (k + 1) = 2 * 2 ^ k := by rw [Nat.pow_succ]; omega
    rw [show k + 1 + j = (k + j) + 1 by omega]
    unfold popN
    rw [popN_split k j (x / 2)]
    have e1 : x % 2 ^ (k + 1) % 2 = x % 2 := by rw [hp, Nat.mod_mul_right_mod]
    have e2 : x % 2 ^ (k + 1) / 2 = x / 2 % 2 ^ k := by rw [hp, Nat.mod_mul_right_div_self]
    have e3 : x / 2 / 2 ^ k = x / 2 ^ (k + 1) := by rw [Nat.div_div_eq_div_mul, ← hp]
    rw [e1, e2, e3]
    cases j <;> simp [popN] <;> omega
end Go.Proofs.YtecpjeililiafaaDoor

/-
  Contracts of math/bits' TrailingZeros16 and OnesCount16.
-/
namespace Go.Proofs.YtecpjeililiafaaDoor
open Go.RowKit
set_option maxRecDepth 20000

/-- The library's table, where the program lays it. -/
def Tab (w : World) : Prop := ∀ k, k < 32 → w.cell? ⟨0, k, none⟩ = some (.int .u8 (deb.getD k 0 : Nat))
theorem Tab.below {w w' : World} {B : Nat} (h : Tab w) (hb : Below B w w') (hB : 0 < B) : Tab w' := fun k hk => (hb.cell (p := ⟨0, k, none⟩) hB).trans (h k hk)

theorem Tab.drew {w : World} (h : Tab w) : Tab w.drew := h
theorem Tab.alloc {w : World} (h : Tab w) (hp : 0 < w.heap.size) (o : Obj) : Tab (w.alloc o) := h.below ((Below.refl w.heap.size w).alloc (Nat.le_refl _) o) hp

theorem neg_val (x : Nat) (h0 : 0 < x) (hx : x < 65536) : IntKind.u16.wrap (-(x : Int)) = ((65536 - x : Nat) : Int) := by
  rw [IntKind.wrap_u16]; omega
theorem tz_and (x : Nat) (h0 : 0 < x) (hx : x < 65536) : bits BinOp.and IntKind.u16 (x : Int) (IntKind.u16.wrap (-(x : Int))) = ((2 ^ tz x : Nat) : Int) := by
  rw [neg_val x h0 hx, u16_and_nat _ _ hx (by omega)]
  have h := (low_and 16 x h0 hx).1
  exact congrArg _ h

theorem tz_any (x : Nat) (w : World) (hx : x < 65536) (h0 : 0 < x) (hT : Tab w) :
    Calls Tryd.prog 100 #[.int .u16 x] w fun e w' => e = .returned (.int .i64 (tz x)) ∧ w = w' := by
  have hz : ((x : Int) == 0) = false := by rw [beq_eq_false_iff_ne]; omega
  have hl : tz x < 16 := (low_and 16 x h0 hx).2
  obtain ⟨d1, d2⟩ := deb_at (tz x) hl
  have hp : 2 ^ tz x < 65536 := pow_lt _ (by omega)
  have hv := tz_and x h0 hx
  have hqg : ∀ p : Nat, p < 65536 → ((p : Int) % 4294967296 * 125613361 % 4294967296 / 134217728).toNat = p * 125613361 % 4294967296 / 134217728 := by
    intro p hp
    rw [show (p : Int) % 4294967296 = p by omega, show ((p : Int) * 125613361 % 4294967296 / 134217728) = ((p * 125613361 % 4294967296 / 134217728 : Nat) : Int) from by rw [Int.natCast_ediv, Int.natCast_emod, Int.natCast_mul]; rfl, Int.toNat_natCast]
  have hq : (((2 ^ tz x : Nat) : Int) % 4294967296 * 125613361 % 4294967296 / 134217728).toNat = 2 ^ tz x * 125613361 % 4294967296 / 134217728 := hqg _ hp
  clear hqg
  have hc := hT _ d1
  rw [d2, ← hq, ← hv] at hc
  have hi1 : 0 ≤ bits BinOp.and IntKind.u16 (x : Int) (IntKind.u16.wrap (-(x : Int))) % 4294967296 * 125613361 % 4294967296 / 134217728 := by rw [hv]; omega
  have hi2 : bits BinOp.and IntKind.u16 (x : Int) (IntKind.u16.wrap (-(x : Int))) % 4294967296 * 125613361 % 4294967296 / 134217728 < 32 := by rw [hv]; omega
  clear hq hv d1 d2 hT
  go_enter Tryd.func100, Tryd.ntmps100
  go_wp2
  go_ret
  exact ⟨rfl, rfl⟩

end Go.Proofs.YtecpjeililiafaaDoor
