/-
  Contract of order.widest.
-/
import Derived.Test.YtfjanniojphdoaaDoorWide
namespace Go.Proofs.YtfjanniojphdoaaDoor
open Go.RowKit
set_option maxRecDepth 20000

theorem below_drewN {B : Nat} {a w : World} (h : Below B a w) (n : Nat) : Below B a (w.drewN n) := ⟨h.os, h.tape, h.output, h.size, h.block⟩

structure WRel (w : World) (n : Nat) (c : Nat → Nat) (wr : World) : Prop where
  below : Below w.heap.size w wr
  arg : RelB wr w.heap.size n c
  tab : Tab wr
  pos : 0 < w.heap.size
  sz : w.heap.size < wr.heap.size
theorem WRel.then_ {w wr w' : World} {n : Nat} {c : Nat → Nat} (h : WRel w n c wr) (hb : Below wr.heap.size wr w') : WRel w n c w' :=
  ⟨h.below.trans (hb.mono h.below.size), Lies.below h.arg hb h.sz, h.tab.below hb (by have := h.sz; omega), h.pos, Nat.lt_of_lt_of_le h.sz hb.size⟩
theorem WRel.drewN {w wr : World} {n : Nat} {c : Nat → Nat} (h : WRel w n c wr) (k : Nat) : WRel w n c (wr.drewN k) := h.then_ (below_drewN (Below.refl _ _) k)

set_option maxHeartbeats 1000000 in
theorem widest_any (n : Nat) (c : Nat → Nat) (w : World) (hn : n ≤ 12) (hc : ∀ i, i < 12 → c i < 65536) (hT : Tab w) (hpos : 0 < w.heap.size) :
    Calls Tryd.prog 39 #[relV n c] w fun e w' => e = .returned (.int .u16 (wideUp c n (2 ^ n))) ∧ Below w.heap.size w w' := by
  have hW : WRel w n c (w.alloc (.cells (relCs n c) 25)) := by
    have hb := (Below.refl w.heap.size w).alloc (Nat.le_refl _) (.cells (relCs n c) 25)
    exact ⟨hb, Lies.new _ _ _, hT.below hb hpos, hpos, by simp⟩
  have hp := pow_u16 n (by omega)
  have h2 : 2 ^ n ≤ 4096 := Nat.le_trans (Nat.pow_le_pow_right (by omega) hn) (by decide)
  obtain ⟨N, hN⟩ : ∃ N, N = 2 ^ n := ⟨_, rfl⟩
  rw [← hN] at h2 hp ⊢
  have HN := Lib.hid hN
  clear hN hT
  go_enter Tryd.func39, Tryd.ntmps39
  go_wp2_with fail
  change Code.wp _ _ _ _ (w.alloc (.cells (relCs n c) 25))
  generalize w.alloc (.cells (relCs n c) 25) = W at hW ⊢
  go_loopw [3, 8] (fun s i wr => ∃ k : Nat, k ≤ N ∧ i = .int .u16 k ∧ s = .int .u16 (wideUp c n k) ∧ WRel w n c wr) (fun _ i _ => N - (intOf i).toNat)
  case atStart => exact ⟨0, by omega, rfl, rfl, hW⟩
  case round =>
    clear hW
    obtain ⟨k, hk, rfl, rfl, hR⟩ := hrel
    by_cases hkn : k < N
    · have hle := wideUp_lt c n k
      have he : wideUp c n (k + 1) = if cb k (wideUp c n k) = true ∧ antiUp c k n = true then k else wideUp c n k := rfl
      have hs := hR.arg.size
      obtain ⟨c0, c1, c2, c3, c4, c5, c6, c7, c8, c9, c10, c11⟩ := hR.arg.rows
      have HR := Lib.hid hR
      have hadd : IntKind.u16.wrap ((k : Int) + 1) = (k : Int) + 1 := by rw [IntKind.wrap_u16]; omega
      clear hR
      cases hcb : cb k (wideUp c n k)
      · rw [if_neg (fun h => by rw [hcb] at h; exact absurd h.1 (by decide))] at he
        have HE := Lib.hid he
        have HC := Lib.hid hcb
        clear he hcb c0 c1 c2 c3 c4 c5 c6 c7 c8 c9 c10 c11
        go_wp2_with fail
        refine (comes_no k (wideUp c n k) _ (by omega) (by omega) HR.out.tab HC.out).mono ?_
        rintro e w1 ⟨rfl, nq, rfl⟩
        go_wp2_with fail
        go_roundw
        case rel => exact ⟨k + 1, by omega, by go_num, by rw [HE.out], HR.out.drewN _⟩
        case measure => simp [intOf]; omega
      · cases han : antiUp c k n
        · rw [if_neg (fun h => by rw [han] at h; exact absurd h.2 (by decide))] at he
          have HE := Lib.hid he
          have HC := Lib.hid hcb
          have HA := Lib.hid han
          clear he hcb han
          go_wp2_with fail
          refine (comes_yes k (wideUp c n k) _ (by omega) (by omega) HR.out.tab HC.out).mono ?_
          rintro e w1 ⟨rfl, nq, rfl⟩
          go_wp2_with fail
          refine (anti_no n c k _ hn hc (by omega) HA.out).mono ?_
          rintro e w2 ⟨rfl, hb2⟩
          have HR2 := Lib.hid ((HR.out.drewN nq).then_ hb2)
          clear hb2 HR hs c0 c1 c2 c3 c4 c5 c6 c7 c8 c9 c10 c11
          go_wp2_with fail
          go_roundw
          case rel => exact ⟨k + 1, by omega, by go_num, by rw [HE.out], HR2.out⟩
          case measure => simp [intOf]; omega
        · rw [if_pos ⟨hcb, han⟩] at he
          have HE := Lib.hid he
          have HC := Lib.hid hcb
          have HA := Lib.hid han
          clear he hcb han
          go_wp2_with fail
          refine (comes_yes k (wideUp c n k) _ (by omega) (by omega) HR.out.tab HC.out).mono ?_
          rintro e w1 ⟨rfl, nq, rfl⟩
          go_wp2_with fail
          refine (anti_yes n c k _ hn hc (by omega) HA.out).mono ?_
          rintro e w2 ⟨rfl, hb2⟩
          have HR2 := Lib.hid ((HR.out.drewN nq).then_ hb2)
          clear hb2 HR hs c0 c1 c2 c3 c4 c5 c6 c7 c8 c9 c10 c11
          go_wp2_with fail
          go_roundw
          case rel => exact ⟨k + 1, by omega, by go_num, by rw [HE.out], HR2.out⟩
          case measure => simp [intOf]; omega
    · have hkn' : k = N := by omega
      subst hkn'
      have HR := Lib.hid hR
      clear hR
      go_wp2_with fail
      go_ret
      exact ⟨rfl, HR.out.below⟩
end Go.Proofs.YtfjanniojphdoaaDoor
