/-
  Contract of order.Apart.
-/
import Derived.Test.YtfjanniojphdoaaDoorLeast
import Derived.Test.YtfjanniojphdoaaDoorWidest
namespace Go.Proofs.YtfjanniojphdoaaDoor
open Go.RowKit
set_option maxRecDepth 20000

structure ARel (w : World) (G n : Nat) (a : Nat → Nat) (v : Value) (xs : List Int) (wr : World) : Prop where
  below : Below w.heap.size w wr
  arg : RelB wr w.heap.size n a
  own : IOwn wr G v xs
  fg : w.heap.size < G
  sz : G ≤ wr.heap.size
theorem ARel.app {w wr w' : World} {G n : Nat} {a : Nat → Nat} {v v' : Value} {xs ys : List Int} (h : ARel w G n a v xs wr) (hb : Below G wr w') (ho : IOwn w' G v' ys) : ARel w G n a v' ys w' := by
  have h2 := h.fg; have h3 := h.sz
  exact ⟨h.below.trans (hb.mono (by omega)), Lies.below h.arg hb (by omega), ho, h2, Nat.le_trans h3 hb.size⟩

theorem pop_le (x : Nat) : pop x ≤ 16 := popN_le 16 x

/-- The antichain of the closure c. -/
def wide (n : Nat) (c : Nat → Nat) : Nat := wideUp c n (2 ^ n)
theorem wide_lt {n : Nat} (h : n ≤ 12) (c : Nat → Nat) : wide n c < 65536 := by
  have h2 : 2 ^ n ≤ 4096 := Nat.le_trans (Nat.pow_le_pow_right (by omega) h) (by decide)
  have := wideUp_lt c n (2 ^ n)
  unfold wide
  omega

set_option maxHeartbeats 1000000 in
theorem apart_no (n : Nat) (a : Nat → Nat) (w : World) (h : Good n a) (hy : cyc (clo n a) n = false) (hT : Tab w) (hpos : 0 < w.heap.size) :
    Calls Tryd.prog 17 #[relV n a] w fun e w' => ∃ v, e = .returned (.tuple #[v, .int .i64 0]) ∧ IOwn w' w.heap.size v (itemsUp (wide n (clo n a)) n) ∧ Below w.heap.size w w' := by
  have hcl := clo_lt h
  have hle := h.le
  go_enter Tryd.func17, Tryd.ntmps17
  go_wp2_with fail
  refine (acyclic_no n a _ h hy).mono ?_
  rintro e w1 ⟨rfl, hb1⟩
  have hz1 : w.heap.size + 1 ≤ w1.heap.size := by have := hb1.size; simpa using this
  have hA1 : RelB w1 w.heap.size n a := Lies.below (Lies.new w _ _) hb1 (by rw [World.size_alloc]; omega)
  have hw1 : Below w.heap.size w w1 := ((Below.refl _ _).alloc (Nat.le_refl _) _).trans (hb1.mono (by simp))
  have HH := Lib.hid (And.intro hA1 (And.intro hw1 hz1))
  have HT := Lib.hid hT
  clear hb1 hA1 hw1 hz1 hT
  go_wp2_with fail
  obtain ⟨hA1, hw1, hz1⟩ := HH.out
  refine (widest_any n (clo n a) _ hle hcl (HT.out.below (hw1.alloc (by omega) _) hpos) (by simp)).mono ?_
  rintro e w2 ⟨rfl, hb2⟩
  have hz2 : w1.heap.size + 1 ≤ w2.heap.size := by have := hb2.size; simpa using this
  have hA2 : RelB w2 w.heap.size n a := Lies.below (Lies.alloc hA1 _) hb2 (by simp; omega)
  have hw2 : Below w.heap.size w w2 := (hw1.alloc (by omega) _).trans (hb2.mono (by simp; omega))
  have hwl := wide_lt hle (clo n a)
  change wideUp (clo n a) n (2 ^ n) < 65536 at hwl
  have HH2 := Lib.hid (And.intro hA2 (And.intro hw2 hz2))
  have HZ := Lib.hid hz1
  clear hb2 hA1 hw1 hz1 HH hA2 hw2 hz2
  generalize hss : wideUp (clo n a) n (2 ^ n) = s at hwl ⊢
  have HS := Lib.hid hss
  clear hss
  go_wp2_with fail
  refine (ones_any s _ hwl).mono ?_
  rintro e w3 ⟨rfl, nq, hw3⟩
  have hmk := made_cap (pop s) (by have := pop_le s; omega)
  obtain ⟨hA2, hw2, hz2⟩ := HH2.out
  have hb3 : Below w2.heap.size w2 w3 := by rw [hw3]; exact below_drewN (Below.refl _ _) nq
  have hz1 := HZ.out
  have hsz := hb3.size
  have hA3 : RelB w3 w.heap.size n a := Lies.below hA2 hb3 (by omega)
  have hs := hA3.size
  have hlt : w.heap.size < w3.heap.size := by omega
  have HN0 : ARel w w3.heap.size n a (.slice (some ⟨w3.heap.size, 0, none⟩) 0 (pop s)) [] (w3.alloc (.cells (tabCs (pop s) fun _ => 0) 3)) := by
    have hG := IOwn.made w3 (pop s) (by have := pop_le s; omega)
    exact ⟨(hw2.trans (hb3.mono (by omega))).alloc (by omega) _, Lies.alloc hA3 _, hG, hlt, by simp⟩
  have HN := Lib.hid HN0
  clear hA2 hw2 HH2 hz1 hz2 HN0 HZ hw3 hb3 hA3 hsz
  go_wp2_with fail
  have HN0 := HN.out
  clear HN hs hlt hmk
  generalize w3.alloc (.cells (tabCs (pop s) fun _ => 0) 3) = W at HN0 ⊢
  generalize w3.heap.size = G at HN0 ⊢
  go_loopw [7, 24] (fun v i wr => ∃ k : Nat, k ≤ n ∧ i = .int .i64 k ∧ ARel w G n a v (itemsUp s k) wr) (fun _ i _ => n - (intOf i).toNat)
  case atStart => exact ⟨0, by omega, rfl, HN0⟩
  case round =>
    clear HN0
    obtain ⟨k, hk, rfl, hR⟩ := hrel
    by_cases hkn : k < n
    · have hll := itemsUp_length s k
      have hown := hR.own
      have hsz := hR.sz
      have he : itemsUp s (k + 1) = if s.testBit k = true then itemsUp s k ++ [(k : Int)] else itemsUp s k := rfl
      have HR := Lib.hid hR
      have HO := Lib.hid hown
      clear hR hown
      cases hb : s.testBit k
      · rw [if_neg (by rw [hb]; decide)] at he
        have HE := Lib.hid he
        have HB := Lib.hid hb
        clear he hb
        go_wp2_with (go_at_call 29; refine (has_no s k _ hwl (by omega) HB.out).mono ?_; rintro e w' ⟨rfl, rfl⟩)
        go_roundw
        case rel => exact ⟨k + 1, by omega, by go_num, by rw [HE.out]; exact HR.out⟩
        case measure => simp [intOf]; omega
      · rw [if_pos hb] at he
        have HE := Lib.hid he
        have HB := Lib.hid hb
        clear he hb
        go_wp2_with fail
        refine (has_yes s k _ hwl (by omega) HB.out).mono ?_
        rintro e w' ⟨rfl, rfl⟩
        go_wp2_with (at_builtin; refine app_one rfl (.tmp 30) (.tmp 32) rfl G _ (itemsUp s k) rfl HO.out (k : Int) rfl (by omega) hsz ?_; intro v' w5 ho5 hb5)
        go_roundw
        case rel => exact ⟨k + 1, by omega, by go_num, by rw [HE.out]; exact HR.out.app hb5 ho5⟩
        case measure => simp [intOf]; omega
    · have hkn' : k = n := by omega
      subst hkn'
      have HR := Lib.hid hR
      clear hR
      go_wp2_with fail
      go_ret2
      exact ⟨_, rfl, by unfold wide; rw [HS.out]; exact HR.out.own.mono (by have := HR.out.fg; omega), HR.out.below⟩
end Go.Proofs.YtfjanniojphdoaaDoor
