/-
  Contract of order.Least.
-/
import Derived.Test.YtcpmhflkooipdaaDoorCount
import Derived.Test.YtcpmhflkooipdaaDoorSeq
import Derived.Test.YtcpmhflkooipdaaDoorBits
import Derived.Test.YtcpmhflkooipdaaDoorLeastPure
namespace Go.Proofs.YtcpmhflkooipdaaDoor
open Go.RowKit
set_option maxRecDepth 20000

theorem tz_zero (w : World) : Calls Tryd.prog 25 #[.int .u16 0] w fun e w' => e = .returned (.int .i64 16) ∧ w = w' := by
  go_enter Tryd.func25, Tryd.ntmps25
  go_wp2
  go_ret
  exact ⟨rfl, rfl⟩
theorem next_any (x : Nat) (w : World) (hx : x < 65536) (hT : Tab w) :
    Calls Tryd.prog 25 #[.int .u16 x] w fun e w' => e = .returned (.int .i64 (nextOf x)) ∧ w = w' := by
  unfold nextOf
  by_cases h : x = 0
  · subst h
    exact tz_zero w
  · rw [if_neg h]
    exact tz_any x w hx (by omega) hT
theorem nextOf_le (x : Nat) (hx : x < 65536) : nextOf x ≤ 16 := by
  unfold nextOf
  split
  · omega
  · exact Nat.le_of_lt (low_and 16 x (by omega) hx).2

structure LRel (w : World) (B G n : Nat) (a b : Nat → Nat) (v : Value) (xs : List Int) (wr : World) : Prop where
  below : Below w.heap.size w wr
  arg : RelB wr w.heap.size n a
  bef : RelB wr B n b
  own : IOwn wr G v xs
  tab : Tab wr
  pos : 0 < w.heap.size
  fb : w.heap.size < B
  fg : B < G
  sz : G ≤ wr.heap.size
theorem LRel.then_ {w wr w' : World} {B G n : Nat} {a b : Nat → Nat} {v : Value} {xs : List Int} (h : LRel w B G n a b v xs wr) (hb : Below wr.heap.size wr w') : LRel w B G n a b v xs w' := by
  have h1 := h.fb; have h2 := h.fg; have h3 := h.sz; have h4 := h.below.size; have h5 := h.pos
  exact ⟨h.below.trans (hb.mono h4), Lies.below h.arg hb (by omega), Lies.below h.bef hb (by omega), h.own.then_ hb, h.tab.below hb (by omega), h5, h1, h2, Nat.le_trans h3 hb.size⟩
theorem LRel.app {w wr w' : World} {B G n : Nat} {a b : Nat → Nat} {v v' : Value} {xs ys : List Int} (h : LRel w B G n a b v xs wr) (hb : Below G wr w') (ho : IOwn w' G v' ys) : LRel w B G n a b v' ys w' := by
  have h1 := h.fb; have h2 := h.fg; have h3 := h.sz; have h4 := h.below.size; have h5 := h.pos
  exact ⟨h.below.trans (hb.mono (by omega)), Lies.below h.arg hb (by omega), Lies.below h.bef hb (by omega), ho, h.tab.below hb (by omega), h5, h1, h2, Nat.le_trans h3 hb.size⟩

set_option maxHeartbeats 1000000 in
theorem least_no (n : Nat) (a : Nat → Nat) (w : World) (h : Good n a) (hy : cyc (clo n a) n = false) (hT : Tab w) (hpos : 0 < w.heap.size) :
    Calls Tryd.prog 6 #[relV n a] w fun e w' => ∃ v, e = .returned (.tuple #[v, .int .i64 0]) ∧ IOwn w' w.heap.size v (lsL (rev n (clo n a)) n n) ∧ Below w.heap.size w w' := by
  have hcl := clo_lt h
  have hle := h.le
  have hmk := made_cap n (by omega)
  go_enter Tryd.func6, Tryd.ntmps6
  go_wp2_with fail
  refine (acyclic_no n a _ h hy).mono ?_
  rintro e w1 ⟨rfl, hb1⟩
  have hz1 : w.heap.size + 1 ≤ w1.heap.size := by have := hb1.size; simpa using this
  have hA1 : RelB w1 w.heap.size n a := Lies.below (Lies.new w _ _) hb1 (by rw [World.size_alloc]; omega)
  have hw1 : Below w.heap.size w w1 := ((Below.refl _ _).alloc (Nat.le_refl _) _).trans (hb1.mono (by simp))
  have HH := Lib.hid (And.intro hA1 (And.intro hw1 hz1))
  have HT := Lib.hid hT
  clear hb1 hA1 hw1 hz1 hT
  go_wp2_with fail
  refine (reverse_any n (clo n a) _ hle hcl).mono ?_
  rintro e w2 ⟨rfl, hb2⟩
  obtain ⟨hA1, hw1, hz1⟩ := HH.out
  have hz2 : w1.heap.size + 1 ≤ w2.heap.size := by have := hb2.size; simpa using this
  have hA2 : RelB w2 w.heap.size n a := Lies.below (Lies.alloc hA1 _) hb2 (by simp; omega)
  have hw2 : Below w.heap.size w w2 := (hw1.alloc (by omega) _).trans (hb2.mono (by simp; omega))
  have hs := hA2.size
  have hlt : w.heap.size < w2.heap.size := by omega
  have HH2 := Lib.hid (And.intro hA2 hw2)
  clear hb2 hA1 hw1 hz1 HH hA2 hw2 hz2
  go_wp2_with fail
  obtain ⟨hA2, hw2⟩ := HH2.out
  change Code.wp _ _ _ _ ((w2.alloc (.cells (relCs n (rev n (clo n a))) 25)).alloc (.cells (tabCs n fun _ => 0) 3))
  have HN0 : LRel w w2.heap.size (w2.heap.size + 1) n a (rev n (clo n a)) (.slice (some ⟨w2.heap.size + 1, 0, none⟩) 0 n) [] ((w2.alloc (.cells (relCs n (rev n (clo n a))) 25)).alloc (.cells (tabCs n fun _ => 0) 3)) := by
    have hG := IOwn.made (w2.alloc (.cells (relCs n (rev n (clo n a))) 25)) n (by omega)
    rw [World.size_alloc] at hG
    have hb : Below w.heap.size w ((w2.alloc (.cells (relCs n (rev n (clo n a))) 25)).alloc (.cells (tabCs n fun _ => 0) 3)) := (hw2.alloc (by omega) _).alloc (by simp; omega) _
    exact ⟨hb, Lies.alloc (Lies.alloc hA2 _) _, Lies.alloc (Lies.new _ _ _) _, hG, HT.out.below hb hpos, hpos, hlt, by omega, by simp⟩
  generalize (w2.alloc (.cells (relCs n (rev n (clo n a))) 25)).alloc (.cells (tabCs n fun _ => 0) 3) = W at HN0 ⊢
  have hrl := rev_lt hle (clo n a)
  generalize hbb : rev n (clo n a) = b at HN0 hrl ⊢
  have HBB := Lib.hid hbb
  clear hbb
  have hBlt := HN0.fb
  generalize w2.heap.size + 1 = G at HN0 ⊢
  generalize w2.heap.size = B at HN0 hBlt ⊢
  clear hA2 hw2 HH2 hs hlt hmk
  go_loopw [7, 8, 25] (fun v d i wr => ∃ k : Nat, k ≤ n ∧ i = .int .i64 k ∧ d = .int .u16 (lsD b n k) ∧ LRel w B G n a b v (lsL b n k) wr) (fun _ _ i _ => n - (intOf i).toNat)
  case atStart => exact ⟨0, by omega, rfl, rfl, HN0⟩
  case round =>
    clear HN0
    obtain ⟨k, hk, rfl, rfl, hR⟩ := hrel
    by_cases hkn : k < n
    · have hb0 := hR.bef.size
      obtain ⟨c0, c1, c2, c3, c4, c5, c6, c7, c8, c9, c10, c11⟩ := hR.bef.rows
      have HR := Lib.hid hR
      have hdl := lsD_lt b n k
      have hll := lsL_length b n k
      have hD : lsD b n (k + 1) = lsD b n k ||| (2 ^ nextOf (rdyUp b (lsD b n k) n) % 65536) := rfl
      have hL : lsL b n (k + 1) = lsL b n k ++ [(nextOf (rdyUp b (lsD b n k) n) : Int)] := rfl
      generalize lsD b n k = d at hdl hD hL ⊢
      have HD := Lib.hid hD
      have HL := Lib.hid hL
      have HLL := Lib.hid hll
      clear hR hD hL hll
      go_wp2_with fail
      refine (ready_any n b d wr hle (fun i _ => hrl i) hdl).mono ?_
      rintro e w3 ⟨rfl, hb3⟩
      have hR := HR.out.then_ hb3
      clear HR hb0 c0 c1 c2 c3 c4 c5 c6 c7 c8 c9 c10 c11 hb3
      have hrx : rdyUp b d n < 65536 := rdyUp_lt b d 16 n (by omega)
      go_wp2_with fail
      refine (next_any (rdyUp b d n) w3 hrx hR.tab).mono ?_
      rintro e w4 ⟨rfl, rfl⟩
      have ht := nextOf_le (rdyUp b d n) hrx
      have hown := hR.own
      have hsz := hR.sz
      have HR := Lib.hid hR
      have HO := Lib.hid hown
      clear hR hown hrx
      generalize nextOf (rdyUp b d n) = t at ht HD HL ⊢
      have hsh : IntKind.u16.wrap (2 ^ t) = ((2 ^ t % 65536 : Nat) : Int) := by rw [IntKind.wrap_u16]; simp
      have hor := u16_or_nat d (2 ^ t % 65536) hdl (by omega)
      rw [← hsh] at hor
      clear hsh
      go_wp2_with (at_builtin; refine app_one rfl (.tmp 31) (.tmp 33) rfl G _ (lsL b n k) rfl HO.out (t : Int) rfl (by rw [HLL.out]; omega) hsz ?_; intro v' w5 ho5 hb5)
      go_roundw
      case rel => exact ⟨k + 1, by omega, by go_num, by rw [HD.out], by rw [HL.out]; exact HR.out.app hb5 ho5⟩
      case measure => simp [intOf]; omega
    · have hkn' : k = n := by omega
      subst hkn'
      have HR := Lib.hid hR
      clear hR
      go_wp2_with fail
      go_ret2
      exact ⟨_, rfl, by rw [HBB.out]; exact HR.out.own.mono (by have := HR.out.fg; omega), HR.out.below⟩
end Go.Proofs.YtcpmhflkooipdaaDoor
