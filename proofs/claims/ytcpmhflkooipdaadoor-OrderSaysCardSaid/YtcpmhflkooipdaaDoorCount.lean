/-
  Contract of order.Count.
-/
import Derived.Test.YtcpmhflkooipdaaDoorAcyclic
import Derived.Test.YtcpmhflkooipdaaDoorReverse
import Derived.Test.YtcpmhflkooipdaaDoorTab
import Derived.Test.YtcpmhflkooipdaaDoorCountPure
namespace Go.Proofs.YtcpmhflkooipdaaDoor
open Go.RowKit
set_option maxRecDepth 20000

/-- The number that Count answers, of the closure c. -/
def cntC (n : Nat) (c : Nat → Nat) : Int := ctab (rev n c) n (2 ^ n) (2 ^ n - 1)

theorem clo_lt {n : Nat} {a : Nat → Nat} (h : Good n a) : ∀ i, i < 12 → clo n a i < 65536 := warsh_lt (B := 16) h.lt n h.le
theorem rev_lt {n : Nat} (h : n ≤ 12) (c : Nat → Nat) : ∀ i, rev n c i < 65536 := fun i => revs_lt n c 16 i n (by omega)

theorem wraps_i64 (n : Int) (h₀ : 0 ≤ n) (h₁ : n < 2 ^ 62) : IntKind.i64.wrap n = n := by rw [IntKind.wrap_i64]; omega
theorem pow12 {n : Nat} (h : n ≤ 12) : 2 ^ n ≤ 4096 := Nat.le_trans (Nat.pow_le_pow_right (by omega) h) (by decide)
theorem two_pow_cast (n : Nat) (h : n ≤ 12) : wrap64 (2 ^ n) = ((2 ^ n : Nat) : Int) := by
  rw [show ((2 : Int) ^ n) = ((2 ^ n : Nat) : Int) from by simp]
  have h2 := pow12 h
  generalize 2 ^ n = p at h2 ⊢
  exact IntWalk.wrap64_in _ ⟨by omega, by omega⟩
theorem or_i64 (d m : Nat) (hd : d < 4096) (hm : m < 12) : bits BinOp.or IntKind.i64 (d : Int) (wrap64 (2 ^ m)) = ((d ||| 2 ^ m : Nat) : Int) := by
  rw [two_pow_cast m (by omega)]
  have h2 : 2 ^ m ≤ 4096 := pow12 (by omega)
  exact (bits_nat .i64 62 (by decide) wraps_i64 d (2 ^ m) (by omega) (by omega)).2

structure NRel (w : World) (B G n N : Nat) (a b : Nat → Nat) (f : Nat → Int) (wr : World) : Prop where
  below : Below w.heap.size w wr
  arg : RelB wr w.heap.size n a
  bef : RelB wr B n b
  tab : ITab wr G N f
  fb : w.heap.size < B
  fg : B < G
  sz : G < wr.heap.size

theorem NRel.drew {w wr : World} {B G n N : Nat} {a b : Nat → Nat} {f : Nat → Int} (h : NRel w B G n N a b f wr) : NRel w B G n N a b f wr.drew :=
  ⟨h.below.drew, h.arg, h.bef, h.tab, h.fb, h.fg, h.sz⟩
theorem NRel.then_ {w wr w' : World} {B G n N : Nat} {a b : Nat → Nat} {f : Nat → Int} (h : NRel w B G n N a b f wr) (hb : Below wr.heap.size wr w') : NRel w B G n N a b f w' := by
  have h1 := h.fb; have h2 := h.fg; have h3 := h.sz; have h4 := h.below.size
  exact ⟨h.below.trans (hb.mono h4), Lies.below h.arg hb (by omega), Lies.below h.bef hb (by omega), Lies.below h.tab hb h3, h1, h2, Nat.lt_of_lt_of_le h3 hb.size⟩
theorem NRel.set_ {w wr : World} {B G n N : Nat} {a b : Nat → Nat} {f : Nat → Int} (h : NRel w B G n N a b f wr) (i : Nat) (x : Int) :
    NRel w B G n N a b (upd f i x) (wr.setCell ⟨G, i, none⟩ (.int .i64 x)) := by
  have h1 := h.fb; have h2 := h.fg
  exact ⟨h.below.setCell (by show w.heap.size ≤ G; omega) _, Lies.far h.arg (by show w.heap.size ≠ G; omega) _, Lies.far h.bef (by show B ≠ G; omega) _, h.tab.set_ i x, h1, h2, by simpa [World.setCell] using h.sz⟩
theorem NRel.congr {w wr : World} {B G n N : Nat} {a b : Nat → Nat} {f f' : Nat → Int} (h : NRel w B G n N a b f wr) (e : f = f') : NRel w B G n N a b f' wr := e ▸ h

set_option maxHeartbeats 1000000 in
theorem count_no (n : Nat) (a : Nat → Nat) (w : World) (h : Good n a) (hy : cyc (clo n a) n = false) :
    Calls Tryd.prog 7 #[relV n a] w fun e w' => e = .returned (.tuple #[.int .i64 (cntC n (clo n a)), .int .i64 0]) ∧ Below w.heap.size w w' := by
  have hcl := clo_lt h
  have hle := h.le
  obtain ⟨N, hN⟩ : ∃ N, N = 2 ^ n := ⟨_, rfl⟩
  have hN1 : 1 ≤ N := by rw [hN]; exact Nat.one_le_two_pow
  have hN2 : N ≤ 4096 := by rw [hN]; exact pow12 hle
  have hmk := fun W : World => made_ints N (wrap64 (2 ^ n)) (by rw [two_pow_cast n hle, hN]) (by omega) W
  have HN := Lib.hid hN
  clear hN
  go_enter Tryd.func7, Tryd.ntmps7
  go_wp2_with fail
  refine (acyclic_no n a _ h hy).mono ?_
  rintro e w1 ⟨rfl, hb1⟩
  have hz1 : w.heap.size + 1 ≤ w1.heap.size := by have := hb1.size; simpa using this
  have hA1 : RelB w1 w.heap.size n a := Lies.below (Lies.new w _ _) hb1 (by rw [World.size_alloc]; omega)
  have hw1 : Below w.heap.size w w1 := ((Below.refl _ _).alloc (Nat.le_refl _) _).trans (hb1.mono (by simp))
  have HH := Lib.hid (And.intro hA1 (And.intro hw1 hz1))
  clear hb1 hA1 hw1 hz1
  go_wp2_with fail
  refine (reverse_any n (clo n a) _ hle hcl).mono ?_
  rintro e w2 ⟨rfl, hb2⟩
  obtain ⟨hA1, hw1, hz1⟩ := HH.out
  have hz2 : w1.heap.size + 1 ≤ w2.heap.size := by have := hb2.size; simpa using this
  have hA2 : RelB w2 w.heap.size n a := Lies.below (Lies.alloc hA1 _) hb2 (by simp; omega)
  have hw2 : Below w.heap.size w w2 := (hw1.alloc (by omega) _).trans (hb2.mono (by simp; omega))
  have hs := hA2.size
  have hlt : w.heap.size < w2.heap.size := by omega
  have HH2 := Lib.hid (And.intro hA2 hw2)
  clear hb2 hA1 hw1 hz1 HH hA2 hw2 hz2
  have t0 := tabCs_get N (fun _ => 0) 0 (by omega)
  go_wp2_with fail
  obtain ⟨hA2, hw2⟩ := HH2.out
  change Code.wp _ _ _ _ ((w2.alloc (.cells (relCs n (rev n (clo n a))) 25)).alloc (.cells ((tabCs N fun _ => 0).setIfInBounds 0 (.int .i64 1)) 3))
  have HN0 : NRel w w2.heap.size (w2.heap.size + 1) n N a (rev n (clo n a)) (ctab (rev n (clo n a)) n 0) ((w2.alloc (.cells (relCs n (rev n (clo n a))) 25)).alloc (.cells ((tabCs N fun _ => 0).setIfInBounds 0 (.int .i64 1)) 3)) := by
    have hG := Lies.new (w2.alloc (.cells (relCs n (rev n (clo n a))) 25)) 3 ((tabCs N fun _ => 0).setIfInBounds 0 (.int .i64 1))
    rw [World.size_alloc] at hG
    refine ⟨(hw2.alloc (by omega) _).alloc (by simp; omega) _, Lies.alloc (Lies.alloc hA2 _) _, Lies.alloc (Lies.new _ _ _) _, ?_, hlt, by omega, by simp⟩
    exact Lies.cast hG (tabCs_set N _ 0 1)
  generalize (w2.alloc (.cells (relCs n (rev n (clo n a))) 25)).alloc (.cells ((tabCs N fun _ => 0).setIfInBounds 0 (.int .i64 1)) 3) = W at HN0 ⊢
  have hrl := rev_lt hle (clo n a)
  generalize hbb : rev n (clo n a) = b at HN0 hrl ⊢
  have HBB := Lib.hid hbb
  clear hbb
  have hBlt := HN0.fb
  generalize w2.heap.size + 1 = G at HN0 ⊢
  generalize w2.heap.size = B at HN0 hBlt ⊢
  clear hA2 hw2 HH2 t0 hs hlt hmk
  go_loopw [29] (fun i wr => ∃ k : Nat, k ≤ N ∧ i = .int .i64 k ∧ NRel w B G n N a b (ctab b n k) wr) (fun i _ => N - (intOf i).toNat)
  case atStart => exact ⟨0, by omega, rfl, HN0⟩
  case round =>
    clear HN0
    obtain ⟨k, hk, rfl, hR⟩ := hrel
    have hs := hR.arg.size
    by_cases hkN : k < N
    · have hb0 := hR.bef.size
      obtain ⟨c0, c1, c2, c3, c4, c5, c6, c7, c8, c9, c10, c11⟩ := hR.bef.rows
      have HR := Lib.hid hR
      clear hR
      go_wp2_with fail
      refine (ready_any n b k wr hle (fun i _ => hrl i) (by omega)).mono ?_
      rintro e w3 ⟨rfl, hb3⟩
      have hR := HR.out.then_ hb3
      clear HR hs hb0 c0 c1 c2 c3 c4 c5 c6 c7 c8 c9 c10 c11 hb3
      have hs := hR.arg.size
      have HR := Lib.hid hR
      clear hR
      have hrx : rdyUp b k n < 65536 := rdyUp_lt b k 16 n (by omega)
      generalize hr : rdyUp b k n = r at hrx ⊢
      have HRR := Lib.hid hr
      clear hr
      go_wp2_with fail
      clear hs
      go_loopw [38] (fun i wr => ∃ m : Nat, m ≤ n ∧ i = .int .i64 m ∧ NRel w B G n N a b (pushed r k (ctab b n k) m) wr) (fun i _ => n - (intOf i).toNat)
      case atStart => exact ⟨0, by omega, rfl, HR.out⟩
      case round =>
        clear HR
        obtain ⟨m, hm, rfl, hR⟩ := hrel
        by_cases hmn : m < n
        · have hdm : k ||| 2 ^ m < N := by rw [HN.out] at hkN ⊢; exact or_pow_lt hkN hmn
          have hor := or_i64 k m (by omega) (by omega)
          have ck := hR.tab.cell hkN
          have cm := hR.tab.cell hdm
          have fm := hR.tab.free (k ||| 2 ^ m)
          have he : pushed r k (ctab b n k) (m + 1) = if r.testBit m = true then upd (pushed r k (ctab b n k) m) (k ||| 2 ^ m) (wrap64 (pushed r k (ctab b n k) m (k ||| 2 ^ m) + pushed r k (ctab b n k) m k)) else pushed r k (ctab b n k) m := rfl
          have HR := Lib.hid hR
          clear hR
          generalize pushed r k (ctab b n k) m = f at ck cm he HR ⊢
          cases hb : r.testBit m
          · rw [hb, if_neg (by decide)] at he
            have HE := Lib.hid he
            have Hb := Lib.hid hb
            clear he hb ck cm fm hor
            go_wp2_with (go_at_call 22; refine (has_no r m _ hrx (by omega) Hb.out).mono ?_; rintro e w' ⟨rfl, rfl⟩)
            go_roundw
            case rel => exact ⟨m + 1, by omega, by go_num, by rw [HE.out]; exact HR.out⟩
            case measure => simp [intOf]; omega
          · rw [hb, if_pos rfl] at he
            have HE := Lib.hid he
            have Hb := Lib.hid hb
            clear he hb
            generalize hq : k ||| 2 ^ m = q at *
            have HQ := Lib.hid hq
            clear hq
            go_wp2_with (go_at_call 22; refine (has_yes r m _ hrx (by omega) Hb.out).mono ?_; rintro e w' ⟨rfl, rfl⟩)
            go_region
            go_wp2
            go_roundw
            case rel => exact ⟨m + 1, by omega, by go_num, by rw [HE.out]; exact NRel.drew (HR.out.set_ q _)⟩
            case measure => simp [intOf]; omega
        · have hmn' : m = n := by omega
          subst hmn'
          go_wp2_with fail
          go_roundw
          case rel => exact ⟨k + 1, by omega, by go_num, hR.congr (by rw [← HRR.out]; rfl)⟩
          case measure => simp [intOf]; omega
    · have hkN' : k = N := by omega
      subst hkN'
      have hc := hR.tab.cell (i := k - 1) (by omega)
      have HR := Lib.hid hR
      clear hR
      go_wp2_with fail
      go_ret2
      have e : cntC n (clo n a) = ctab b n k (k - 1) := by unfold cntC; rw [HBB.out, ← HN.out]
      rw [e]
      exact ⟨rfl, HR.out.below⟩
end Go.Proofs.YtcpmhflkooipdaaDoor
