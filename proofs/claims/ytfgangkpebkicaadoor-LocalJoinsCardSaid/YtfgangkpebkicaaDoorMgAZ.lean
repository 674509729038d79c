/-
  Joined by a program out of: Bits, LeastPure, Least, ErrF, LeastErr, Trans, Good, LJoinPure.
-/
import Derived.Test.YtfgangkpebkicaaDoorMgAY
import Derived.Deep.QuietTactic
import Derived.BigQuiet
import Derived.Test.YtfgangkpebkicaaDoorMgAK
import Derived.Test.YtfgangkpebkicaaDoorMgAX
import Derived.Test.YtfgangkpebkicaaDoorMgAR

/-
  Contracts of math/bits' TrailingZeros16 and OnesCount16.
-/
namespace Go.Proofs.YtfgangkpebkicaaDoor
open Go.RowKit
set_option maxRecDepth 20000
/-- The library's table, where the program lays it. -/
def Tab (w : World) : Prop := ∀ k, k < 32 → w.cell? ⟨0, k, none⟩ = some (.int .u8 (deb.getD k 0 : Nat))
theorem Tab.below {w w' : World} {B : Nat} (h : Tab w) (hb : Below B w w') (hB : 0 < B) : Tab w' := fun k hk => (hb.cell (p := ⟨0, k, none⟩) hB).trans (h k hk)
theorem Tab.drew {w : World} (h : Tab w) : Tab w.drew := h
theorem Tab.alloc {w : World} (h : Tab w) (hp : 0 < w.heap.size) (o : Obj) : Tab (w.alloc o) := h.below ((Below.refl w.heap.size w).alloc (Nat.le_refl _) o) hp
theorem neg_val (x : Nat) (h0 : 0 < x) (hx : x < 65536) : IntKind.u16.wrap (-(x : Int)) = ((65536 - x : Nat) : Int) := by
  rw [IntKind.wrap_u16]; omega
theorem tz_and (x : Nat) (h0 : 0 < x) (hx : x < 65536) : bits BinOp.and IntKind.u16 (x : Int) (IntKind.u16.wrap (-(x : Int))) = ((2 ^ tz x : Nat) : Int) := by
  rw [neg_val x h0 hx, u16_and_nat _ _ hx (by omega)]
  have h := (low_and 16 x h0 hx).1
  exact congrArg _ h
theorem tz_any (x : Nat) (w : World) (hx : x < 65536) (h0 : 0 < x) (hT : Tab w) :
    Calls Tryd.prog 51 #[.int .u16 x] w fun e w' => e = .returned (.int .i64 (tz x)) ∧ w = w' := by
  have hz : ((x : Int) == 0) = false := by rw [beq_eq_false_iff_ne]; omega
  have hl : tz x < 16 := (low_and 16 x h0 hx).2
  obtain ⟨d1, d2⟩ := deb_at (tz x) hl
  have hp : 2 ^ tz x < 65536 := pow_lt _ (by omega)
  have hv := tz_and x h0 hx
  have hqg : ∀ p : Nat, p < 65536 → ((p : Int) % 4294967296 * 125613361 % 4294967296 / 134217728).toNat = p * 125613361 % 4294967296 / 134217728 := by
    intro p hp
    rw [show (p : Int) % 4294967296 = p by omega, show ((p : Int) * 125613361 % 4294967296 / 134217728) = ((p * 125613361 % 4294967296 / 134217728 : Nat) : Int) from by rw [Int.natCast_ediv, Int.natCast_emod, Int.natCast_mul]; rfl, Int.toNat_natCast]
  have hq : (((2 ^ tz x : Nat) : Int) % 4294967296 * 125613361 % 4294967296 / 134217728).toNat = 2 ^ tz x * 125613361 % 4294967296 / 134217728 := hqg _ hp
  clear hqg
  have hc := hT _ d1
  rw [d2, ← hq, ← hv] at hc
  have hi1 : 0 ≤ bits BinOp.and IntKind.u16 (x : Int) (IntKind.u16.wrap (-(x : Int))) % 4294967296 * 125613361 % 4294967296 / 134217728 := by rw [hv]; omega
  have hi2 : bits BinOp.and IntKind.u16 (x : Int) (IntKind.u16.wrap (-(x : Int))) % 4294967296 * 125613361 % 4294967296 / 134217728 < 32 := by rw [hv]; omega
  clear hq hv d1 d2 hT
  go_enter Tryd.func51, Tryd.ntmps51
  go_wp2
  go_ret
  exact ⟨rfl, rfl⟩
end Go.Proofs.YtfgangkpebkicaaDoor

/-
  Plain: the list that Least makes.
-/
namespace Go.Proofs.YtfgangkpebkicaaDoor
open Go.RowKit
set_option maxRecDepth 20000
/-- The lowest item of a set of sixteen; 16 where it is empty. -/
def nextOf (r : Nat) : Nat := if r = 0 then 16 else tz r
def lsD (b : Nat → Nat) (n : Nat) : Nat → Nat
  | 0 => 0
  | k + 1 => lsD b n k ||| (2 ^ nextOf (rdyUp b (lsD b n k) n) % 65536)
def lsL (b : Nat → Nat) (n : Nat) : Nat → List Int
  | 0 => []
  | k + 1 => lsL b n k ++ [(nextOf (rdyUp b (lsD b n k) n) : Int)]
theorem lsD_lt (b : Nat → Nat) (n : Nat) : ∀ k, lsD b n k < 65536
  | 0 => by unfold lsD; decide
  | k + 1 => by
    unfold lsD
    exact Nat.or_lt_two_pow (n := 16) (lsD_lt b n k) (Nat.mod_lt _ (by decide))
theorem lsL_length (b : Nat → Nat) (n : Nat) : ∀ k, (lsL b n k).length = k
  | 0 => rfl
  | k + 1 => by unfold lsL; rw [List.length_append, lsL_length b n k]; rfl
end Go.Proofs.YtfgangkpebkicaaDoor

/-
  Contract of order.Least.
-/
namespace Go.Proofs.YtfgangkpebkicaaDoor
open Go.RowKit
set_option maxRecDepth 20000
theorem tz_zero (w : World) : Calls Tryd.prog 51 #[.int .u16 0] w fun e w' => e = .returned (.int .i64 16) ∧ w = w' := by
  go_enter Tryd.func51, Tryd.ntmps51
  go_wp2
  go_ret
  exact ⟨rfl, rfl⟩
theorem next_any (x : Nat) (w : World) (hx : x < 65536) (hT : Tab w) :
    Calls Tryd.prog 51 #[.int .u16 x] w fun e w' => e = .returned (.int .i64 (nextOf x)) ∧ w = w' := by
  unfold nextOf
  by_cases h : x = 0
  · subst h
    exact tz_zero w
  · rw [if_neg h]
    exact tz_any x w hx (by omega) hT
theorem nextOf_le (x : Nat) (hx : x < 65536) : nextOf x ≤ 16 := by
  unfold nextOf
  split
  · omega
  · exact Nat.le_of_lt (low_and 16 x (by omega) hx).2
structure LRel (w : World) (B G n : Nat) (a b : Nat → Nat) (v : Value) (xs : List Int) (wr : World) : Prop where
  below : Below w.heap.size w wr
  arg : RelB wr w.heap.size n a
  bef : RelB wr B n b
  own : JOwn wr G v xs
  tab : Tab wr
  pos : 0 < w.heap.size
  fb : w.heap.size < B
  fg : B < G
  sz : G ≤ wr.heap.size
theorem LRel.then_ {w wr w' : World} {B G n : Nat} {a b : Nat → Nat} {v : Value} {xs : List Int} (h : LRel w B G n a b v xs wr) (hb : Below wr.heap.size wr w') : LRel w B G n a b v xs w' := by
  have h1 := h.fb; have h2 := h.fg; have h3 := h.sz; have h4 := h.below.size; have h5 := h.pos
  exact ⟨h.below.trans (hb.mono h4), Lies.below h.arg hb (by omega), Lies.below h.bef hb (by omega), h.own.then_ hb, h.tab.below hb (by omega), h5, h1, h2, Nat.le_trans h3 hb.size⟩
theorem LRel.app {w wr w' : World} {B G n : Nat} {a b : Nat → Nat} {v v' : Value} {xs ys : List Int} (h : LRel w B G n a b v xs wr) (hb : Below G wr w') (ho : JOwn w' G v' ys) : LRel w B G n a b v' ys w' := by
  have h1 := h.fb; have h2 := h.fg; have h3 := h.sz; have h4 := h.below.size; have h5 := h.pos
  exact ⟨h.below.trans (hb.mono (by omega)), Lies.below h.arg hb (by omega), Lies.below h.bef hb (by omega), ho, h.tab.below hb (by omega), h5, h1, h2, Nat.le_trans h3 hb.size⟩
set_option maxHeartbeats 1000000 in
theorem least_no (n : Nat) (a : Nat → Nat) (w : World) (h : Good n a) (hy : cyc (clo n a) n = false) (hT : Tab w) (hpos : 0 < w.heap.size) :
    Calls Tryd.prog 25 #[relV n a] w fun e w' => ∃ v, e = .returned (.tuple #[v, .int .i64 0]) ∧ JOwn w' w.heap.size v (lsL (rev n (clo n a)) n n) ∧ Below w.heap.size w w' := by
  have hcl := clo_lt h
  have hle := h.le
  have hmk := made_cap n (by omega)
  go_enter Tryd.func25, Tryd.ntmps25
  go_wp2_with fail
  refine (acyclic_no n a _ h hy).mono ?_
  rintro e w1 ⟨rfl, hb1⟩
  have hz1 : w.heap.size + 1 ≤ w1.heap.size := by have := hb1.size; simpa using this
  have hA1 : RelB w1 w.heap.size n a := Lies.below (Lies.new w _ _) hb1 (by rw [World.size_alloc]; omega)
  have hw1 : Below w.heap.size w w1 := ((Below.refl _ _).alloc (Nat.le_refl _) _).trans (hb1.mono (by simp))
  have HH := Lib.hid (And.intro hA1 (And.intro hw1 hz1))
  have HT := Lib.hid hT
  clear hb1 hA1 hw1 hz1 hT
  go_wp2_with fail
  refine (reverse_any n (clo n a) _ hle hcl).mono ?_
  rintro e w2 ⟨rfl, hb2⟩
  obtain ⟨hA1, hw1, hz1⟩ := HH.out
  have hz2 : w1.heap.size + 1 ≤ w2.heap.size := by have := hb2.size; simpa using this
  have hA2 : RelB w2 w.heap.size n a := Lies.below (Lies.alloc hA1 _) hb2 (by simp; omega)
  have hw2 : Below w.heap.size w w2 := (hw1.alloc (by omega) _).trans (hb2.mono (by simp; omega))
  have hs := hA2.size
  have hlt : w.heap.size < w2.heap.size := by omega
  have HH2 := Lib.hid (And.intro hA2 hw2)
  clear hb2 hA1 hw1 hz1 HH hA2 hw2 hz2
  go_wp2_with fail
  obtain ⟨hA2, hw2⟩ := HH2.out
  change Code.wp _ _ _ _ ((w2.alloc (.cells (relCs n (rev n (clo n a))) 46)).alloc (.cells (tabCs n fun _ => 0) 3))
  have HN0 : LRel w w2.heap.size (w2.heap.size + 1) n a (rev n (clo n a)) (.slice (some ⟨w2.heap.size + 1, 0, none⟩) 0 n) [] ((w2.alloc (.cells (relCs n (rev n (clo n a))) 46)).alloc (.cells (tabCs n fun _ => 0) 3)) := by
    have hG := JOwn.made (w2.alloc (.cells (relCs n (rev n (clo n a))) 46)) n (by omega)
    rw [World.size_alloc] at hG
    have hb : Below w.heap.size w ((w2.alloc (.cells (relCs n (rev n (clo n a))) 46)).alloc (.cells (tabCs n fun _ => 0) 3)) := (hw2.alloc (by omega) _).alloc (by simp; omega) _
    exact ⟨hb, Lies.alloc (Lies.alloc hA2 _) _, Lies.alloc (Lies.new _ _ _) _, hG, HT.out.below hb hpos, hpos, hlt, by omega, by simp⟩
  generalize (w2.alloc (.cells (relCs n (rev n (clo n a))) 46)).alloc (.cells (tabCs n fun _ => 0) 3) = W at HN0 ⊢
  have hrl := rev_lt hle (clo n a)
  generalize hbb : rev n (clo n a) = b at HN0 hrl ⊢
  have HBB := Lib.hid hbb
  clear hbb
  have hBlt := HN0.fb
  generalize w2.heap.size + 1 = G at HN0 ⊢
  generalize w2.heap.size = B at HN0 hBlt ⊢
  clear hA2 hw2 HH2 hs hlt hmk
  go_loopw [7, 8, 25] (fun v d i wr => ∃ k : Nat, k ≤ n ∧ i = .int .i64 k ∧ d = .int .u16 (lsD b n k) ∧ LRel w B G n a b v (lsL b n k) wr) (fun _ _ i _ => n - (intOf i).toNat)
  case atStart => exact ⟨0, by omega, rfl, rfl, HN0⟩
  case round =>
    clear HN0
    obtain ⟨k, hk, rfl, rfl, hR⟩ := hrel
    by_cases hkn : k < n
    · have hb0 := hR.bef.size
      obtain ⟨c0, c1, c2, c3, c4, c5, c6, c7, c8, c9, c10, c11⟩ := hR.bef.rows
      have HR := Lib.hid hR
      have hdl := lsD_lt b n k
      have hll := lsL_length b n k
      have hD : lsD b n (k + 1) = lsD b n k ||| (2 ^ nextOf (rdyUp b (lsD b n k) n) % 65536) := rfl
      have hL : lsL b n (k + 1) = lsL b n k ++ [(nextOf (rdyUp b (lsD b n k) n) : Int)] := rfl
      generalize lsD b n k = d at hdl hD hL ⊢
      have HD := Lib.hid hD
      have HL := Lib.hid hL
      have HLL := Lib.hid hll
      clear hR hD hL hll
      go_wp2_with fail
      refine (ready_any n b d wr hle (fun i _ => hrl i) hdl).mono ?_
      rintro e w3 ⟨rfl, hb3⟩
      have hR := HR.out.then_ hb3
      clear HR hb0 c0 c1 c2 c3 c4 c5 c6 c7 c8 c9 c10 c11 hb3
      have hrx : rdyUp b d n < 65536 := rdyUp_lt b d 16 n (by omega)
      go_wp2_with fail
      refine (next_any (rdyUp b d n) w3 hrx hR.tab).mono ?_
      rintro e w4 ⟨rfl, rfl⟩
      have ht := nextOf_le (rdyUp b d n) hrx
      have hown := hR.own
      have hsz := hR.sz
      have HR := Lib.hid hR
      have HO := Lib.hid hown
      clear hR hown hrx
      generalize nextOf (rdyUp b d n) = t at ht HD HL ⊢
      have hsh : IntKind.u16.wrap (2 ^ t) = ((2 ^ t % 65536 : Nat) : Int) := by rw [IntKind.wrap_u16]; simp
      have hor := u16_or_nat d (2 ^ t % 65536) hdl (by omega)
      rw [← hsh] at hor
      clear hsh
      go_wp2_with (at_builtin; refine app_one rfl (.tmp 31) (.tmp 33) rfl G _ (lsL b n k) rfl HO.out (t : Int) rfl (by rw [HLL.out]; omega) hsz ?_; intro v' w5 ho5 hb5)
      go_roundw
      case rel => exact ⟨k + 1, by omega, by go_num, by rw [HD.out], by rw [HL.out]; exact HR.out.app hb5 ho5⟩
      case measure => simp [intOf]; omega
    · have hkn' : k = n := by omega
      subst hkn'
      have HR := Lib.hid hR
      clear hR
      go_wp2_with fail
      go_ret2
      exact ⟨_, rfl, by rw [HBB.out]; exact HR.out.own.mono (by have := HR.out.fg; omega), HR.out.below⟩
end Go.Proofs.YtfgangkpebkicaaDoor

/-
  Where closeAcyclic finds a fault.
-/
namespace Go.Proofs.YtfgangkpebkicaaDoor
open Go.RowKit
set_option maxRecDepth 20000
/-- closeAcyclic tells the fault E, whatever the memory. -/
def Fails (n : Int) (a : Nat → Nat) (E : Int) : Prop := ∀ w : World, Calls Tryd.prog 49 #[relV n a] w fun e w' => e = .returned (.tuple #[zeroV, .int .i64 E]) ∧ Below w.heap.size w w'
theorem fails_round {n : Nat} {a : Nat → Nat} (h : Good n a) (hy : cyc (clo n a) n = true) : Fails n a 4 := fun w => acyclic_yes n a w h hy
end Go.Proofs.YtfgangkpebkicaaDoor

/-
  Where closeAcyclic finds a fault, Least answers that fault.
-/
namespace Go.Proofs.YtfgangkpebkicaaDoor
open Go.RowKit
set_option maxRecDepth 20000
set_option maxHeartbeats 1000000 in
theorem least_err (n : Int) (a : Nat → Nat) (E : Int) (w : World) (hE : (E != 0) = true) (hF : Fails n a E) :
    Calls Tryd.prog 25 #[relV n a] w fun e w' => e = .returned (.tuple #[.slice none 0 0, .int .i64 E]) ∧ Below w.heap.size w w' := by
  go_enter Tryd.func25, Tryd.ntmps25
  go_wp2_with fail
  refine (hF _).mono ?_
  rintro e w1 ⟨rfl, hb1⟩
  have hw1 : Below w.heap.size w w1 := ((Below.refl _ _).alloc (Nat.le_refl _) _).trans (hb1.mono (by simp))
  have HW := Lib.hid hw1
  clear hb1 hw1
  go_wp2_with fail
  go_ret2
  exact ⟨rfl, HW.out.alloc HW.out.size _⟩
end Go.Proofs.YtfgangkpebkicaaDoor

/-
  Plain: the closure is transitive, has all that was there, and closing it once more changes nothing.
-/
namespace Go.Proofs.YtfgangkpebkicaaDoor
open Go.RowKit
set_option maxRecDepth 20000
/-- What stands ahead of v stands ahead of all that v stands ahead of. -/
def TransV (n : Nat) (c : Nat → Nat) : Prop := ∀ i, i < n → ∀ v, v < n → (c i).testBit v = true → ∀ j, (c v).testBit j = true → (c i).testBit j = true
theorem stepV_bit (n : Nat) (a : Nat → Nat) (v i j : Nat) (hi : i < n) : (stepV n a v i).testBit j = ((a i).testBit j || ((a i).testBit v && (a v).testBit j)) := by
  unfold stepV
  by_cases h : (a i).testBit v = true
  · rw [if_pos ⟨hi, h⟩, Nat.testBit_or, h]; rfl
  · rw [if_neg (fun k => h k.2)]
    have : (a i).testBit v = false := by simpa using h
    rw [this]; simp
/-- Behind k rounds one may go through the items below k. -/
theorem warsh_trans (n : Nat) (a : Nat → Nat) : ∀ k, k ≤ n → ∀ i, i < n → ∀ v, v < k → ((warsh n a k i).testBit v = true) → ∀ j, (warsh n a k v).testBit j = true → (warsh n a k i).testBit j = true
  | 0, _ => fun _ _ v hv => by omega
  | k + 1, hk => by
    have ih := warsh_trans n a k (by omega)
    intro i hi v hv hiv j hvj
    change (stepV n (warsh n a k) k i).testBit v = true at hiv
    change (stepV n (warsh n a k) k v).testBit j = true at hvj
    show (stepV n (warsh n a k) k i).testBit j = true
    rw [stepV_bit n _ k _ _ hi] at hiv ⊢
    rw [stepV_bit n _ k _ _ (by omega)] at hvj
    simp only [Bool.or_eq_true, Bool.and_eq_true] at hiv hvj ⊢
    rcases Nat.lt_or_ge v k with hvk | hvk
    · rcases hiv with h1 | ⟨h1, h2⟩
      · rcases hvj with h3 | ⟨h3, h4⟩
        · exact .inl (ih i hi v hvk h1 j h3)
        · exact .inr ⟨ih i hi v hvk h1 k h3, h4⟩
      · rcases hvj with h3 | ⟨h3, h4⟩
        · exact .inr ⟨h1, ih k (by omega) v hvk h2 j h3⟩
        · exact .inr ⟨h1, h4⟩
    · obtain rfl : v = k := by omega
      have hik : (warsh n a v i).testBit v = true := by
        rcases hiv with h1 | ⟨h1, _⟩ <;> exact h1
      have hkj : (warsh n a v v).testBit j = true := by
        rcases hvj with h3 | ⟨_, h4⟩
        · exact h3
        · exact h4
      exact .inr ⟨hik, hkj⟩
theorem warsh_has (n : Nat) (a : Nat → Nat) (i j : Nat) (h : (a i).testBit j = true) : ∀ k, (warsh n a k i).testBit j = true
  | 0 => h
  | k + 1 => by
    show (stepV n (warsh n a k) k i).testBit j = true
    unfold stepV
    split
    · rw [Nat.testBit_or, warsh_has n a i j h k]; rfl
    · exact warsh_has n a i j h k
/-- Nothing but the first n items comes up, if so it was. -/
theorem warsh_in {n : Nat} {a : Nat → Nat} (h : ∀ i, i < n → ∀ j, (a i).testBit j = true → j < n) : ∀ k, k ≤ n → ∀ i, i < n → ∀ j, (warsh n a k i).testBit j = true → j < n
  | 0, _ => h
  | k + 1, hk => fun i hi j hj => by
    change (stepV n (warsh n a k) k i).testBit j = true at hj
    rw [stepV_bit n _ k _ _ hi] at hj
    simp only [Bool.or_eq_true, Bool.and_eq_true] at hj
    rcases hj with h1 | ⟨_, h2⟩
    · exact warsh_in h k (by omega) i hi j h1
    · exact warsh_in h k (by omega) k (by omega) j h2
theorem warsh_out {n : Nat} {a : Nat → Nat} (i : Nat) (hi : n ≤ i) : ∀ k, warsh n a k i = a i
  | 0 => rfl
  | k + 1 => by
    show stepV n (warsh n a k) k i = a i
    unfold stepV
    rw [if_neg (fun h => by omega)]
    exact warsh_out i hi k
end Go.Proofs.YtfgangkpebkicaaDoor

/-
  Plain: relations that Check lets by: their closure is one, closed, and has all that was there. The three ways of Check.
-/
namespace Go.Proofs.YtfgangkpebkicaaDoor
open Go.RowKit
set_option maxRecDepth 20000
theorem not_bit (x j : Nat) (hx : x < 65536) : (65535 - x).testBit j = (decide (j < 16) && !x.testBit j) := by
  have := Nat.testBit_two_pow_sub_succ (n := 16) hx j
  rw [show 2 ^ 16 - (x + 1) = 65535 - x by omega] at this
  exact this
theorem sub_zero {x y : Nat} (hy : y < 65536) (h : ∀ j, x.testBit j = true → y.testBit j = true) : x &&& (65535 - y) = 0 := by
  apply Nat.eq_of_testBit_eq
  intro j
  rw [Nat.testBit_and, not_bit _ _ hy, Nat.zero_testBit]
  cases hj : x.testBit j
  · rfl
  · rw [h j hj]; simp
theorem bit_lt16 {x j : Nat} (hx : x < 65536) (hj : x.testBit j = true) : j < 16 := by
  rcases Nat.lt_or_ge j 16 with h | h
  · exact h
  · have : x < 2 ^ j := Nat.lt_of_lt_of_le (show x < 2 ^ 16 from hx) (Nat.pow_le_pow_right (by omega) h)
    rw [Nat.testBit_lt_two_pow this] at hj; cases hj
theorem sub_of_zero {x y : Nat} (hx : x < 65536) (hy : y < 65536) (h : x &&& (65535 - y) = 0) (j : Nat) (hj : x.testBit j = true) : y.testBit j = true := by
  have h1 := congrArg (fun t => t.testBit j) h
  simp only [Nat.testBit_and, not_bit _ _ hy, Nat.zero_testBit, hj, bit_lt16 hx hj] at h1
  simpa using h1
theorem ones_bit (n j : Nat) : (2 ^ n - 1).testBit j = decide (j < n) := Nat.testBit_two_pow_sub_one n j
theorem ones_lt {n : Nat} (h : n ≤ 12) : 2 ^ n - 1 < 65536 := by
  have h2 : 2 ^ n ≤ 4096 := Nat.le_trans (Nat.pow_le_pow_right (by omega) h) (by decide)
  omega
theorem Good.inn {n : Nat} {a : Nat → Nat} (h : Good n a) {i : Nat} (hi : i < 12) {j : Nat} (hj : (a i).testBit j = true) : j < n := by
  have hb := h.rows i hi
  unfold rowBad at hb
  rw [Bool.or_eq_false_iff] at hb
  have h0 : a i &&& (65535 - (2 ^ n - 1)) = 0 := by simpa using hb.1
  have := sub_of_zero (h.lt i hi) (ones_lt h.le) h0 j hj
  rw [ones_bit] at this
  simpa using this
theorem Good.out {n : Nat} {a : Nat → Nat} (h : Good n a) {i : Nat} (hi : i < 12) (hn : n ≤ i) : a i = 0 := by
  have hb := h.rows i hi
  unfold rowBad at hb
  rw [Bool.or_eq_false_iff] at hb
  simpa [hn] using hb.2
theorem good_of {n : Nat} {a : Nat → Nat} (hn : n ≤ 12) (hl : ∀ i, i < 12 → a i < 65536) (hi : ∀ i, i < 12 → ∀ j, (a i).testBit j = true → j < n) (ho : ∀ i, i < 12 → n ≤ i → a i = 0) : Good n a := by
  refine ⟨hn, hl, fun i h => ?_⟩
  unfold rowBad
  rw [Bool.or_eq_false_iff]
  refine ⟨?_, ?_⟩
  · have := sub_zero (x := a i) (ones_lt hn) (fun j hj => by rw [ones_bit]; exact decide_eq_true (hi i h j hj))
    rw [this]; rfl
  · by_cases hni : n ≤ i
    · rw [ho i h hni]; simp
    · simp [hni]
theorem Good.clo_in {n : Nat} {a : Nat → Nat} (h : Good n a) {i : Nat} (hi : i < n) {j : Nat} (hj : (clo n a i).testBit j = true) : j < n :=
  warsh_in (fun _ hi _ hj => h.inn (Nat.lt_of_lt_of_le hi h.le) hj) n (Nat.le_refl _) i hi j hj
theorem Good.clo_out {n : Nat} {a : Nat → Nat} (h : Good n a) {i : Nat} (hi : i < 12) (hn : n ≤ i) : clo n a i = 0 := (warsh_out i hn n).trans (h.out hi hn)
theorem Good.clo {n : Nat} {a : Nat → Nat} (h : Good n a) : Good n (clo n a) := by
  refine good_of h.le (fun i hi => warsh_lt (B := 16) h.lt n h.le i hi) (fun i hi j hj => ?_) (fun i hi hn => h.clo_out hi hn)
  rcases Nat.lt_or_ge i n with hin | hin
  · exact h.clo_in hin hj
  · rw [h.clo_out hi hin] at hj; simp at hj
theorem clo_trans (n : Nat) (a : Nat → Nat) : TransV n (clo n a) := fun i hi v hv hiv j hj => warsh_trans n a n (Nat.le_refl _) i hi v hv hiv j hj
theorem clo_has (n : Nat) (a : Nat → Nat) (i j : Nat) (h : (a i).testBit j = true) : (clo n a i).testBit j = true := warsh_has n a i j h n
end Go.Proofs.YtfgangkpebkicaaDoor

/-
  Plain: what package local's Join answers; the rule for a map's length; a row of steps with room.
-/
namespace Go.Proofs.YtfgangkpebkicaaDoor
open Go.RowKit Go.Maps
set_option maxRecDepth 20000
/-- The steps of those calls that have one, in that order. -/
def pickF (F : Int → Option Int) (xs : List Int) : List (Int × Int) := xs.filterMap fun k => (F k).map fun r => (k, r)
/-- The relation that Join is about. -/
def jnR (cs : List Cl) (ww : List (List (Int × Int))) : Nat → Nat := relP (relF (aheadB cs) ww) cs.length
def joinC (cs : List Cl) (ww : List (List (Int × Int))) : List (Int × Int) × Bool × Int :=
  match colF cs (flatF 0 ww) (fun _ => none) with
  | none => ([], false, 3)
  | some F => if cyc (clo cs.length (jnR cs ww)) cs.length = true then ([], false, 0) else (pickF F (lsL (rev cs.length (clo cs.length (jnR cs ww))) cs.length cs.length), true, 0)
def joinO (ts : List Int) (l : List Ev) (ww : List (List (Int × Int))) : List (Int × Int) × Bool × Int :=
  if openE ts l ≠ 0 then ([], false, openE ts l) else if ww.length ≠ ts.length then ([], false, 3) else joinC (callsOf ts l).1 ww
def JoinPost (w : World) (R : List (Int × Int) × Bool × Int) (e : Ending) (w' : World) : Prop :=
  Below w.heap.size w w' ∧ ∃ v, e = .returned (.tuple #[v, .bool R.2.1, .int .i64 R.2.2]) ∧ SRd w' w'.heap.size v R.1
theorem colF_rng {cs : List Cl} : ∀ {xs : List (Nat × (Int × Int))} {F G : Int → Option Int}, colF cs xs F = some G → ∀ q ∈ xs, (0 ≤ q.2.1 ∧ q.2.1 < cs.length) ∧ (cs.getD q.2.1.toNat default).thing = (q.1 : Int)
  | [], _, _, _, _, hq => by simp at hq
  | (t, x) :: r, F, G, h, q, hq => by
    rw [colF] at h
    split at h
    · cases h
    · next h1 =>
      split at h
      · cases h
      · rcases List.mem_cons.1 hq with rfl | hq
        · refine ⟨Classical.byContradiction fun hn => h1 (.inl hn), Classical.byContradiction fun hn => h1 (.inr hn)⟩
        · exact colF_rng h q hq
theorem flatF_mem : ∀ {ww : List (List (Int × Int))} {k : Nat} {t : Nat} {x : Int × Int}, (t, x) ∈ flatF k ww ↔ k ≤ t ∧ ∃ l, ww[t - k]? = some l ∧ x ∈ l
  | [], k, t, x => by simp [flatF]
  | l :: r, k, t, x => by
    rw [flatF, List.mem_append, flatF_mem, List.mem_map]
    constructor
    · rintro (⟨y, hy, e⟩ | ⟨h1, l', h2, h3⟩)
      · injection e with e1 e2
        subst e1 e2
        exact ⟨Nat.le_refl _, l, by rw [Nat.sub_self]; rfl, hy⟩
      · exact ⟨by omega, l', by rw [show t - k = (t - (k + 1)) + 1 by omega]; exact h2, h3⟩
    · rintro ⟨h1, l', h2, h3⟩
      by_cases e : t = k
      · subst e
        rw [Nat.sub_self] at h2
        injection h2 with h2
        subst h2
        exact .inl ⟨x, h3, rfl⟩
      · rw [show t - k = (t - (k + 1)) + 1 by omega] at h2
        exact .inr ⟨by omega, l', h2, h3⟩
theorem col_rng {cs : List Cl} {ww : List (List (Int × Int))} {G : Int → Option Int} (h : colF cs (flatF 0 ww) (fun _ => none) = some G) : ∀ l ∈ ww, ∀ x ∈ l, 0 ≤ x.1 ∧ x.1 < cs.length := fun l hl x hx => by
  obtain ⟨t, ht⟩ := List.getElem?_of_mem hl
  exact (colF_rng h (t, x) (flatF_mem.2 ⟨Nat.zero_le _, l, by rw [Nat.sub_zero]; exact ht, hx⟩)).1
theorem good_relP (p : Nat → Nat → Bool) {n : Nat} (hn : n ≤ 12) : Good n (relP p n) := good_of hn (fun i _ => relP_lt p hn i) (fun i _ j hj => by
    rw [relP_bit] at hj
    simp only [Bool.and_eq_true, decide_eq_true_eq] at hj
    exact hj.1.2) (fun i _ hi => by unfold relP; rw [if_neg (by omega)])
theorem JMap.lenAt {w : World} {ops : Array Oper} {rest : List Oper} {o : Oper} {a : Act} {Q : Exit → Act → World → Prop} (hg : o.guard = none) (m : Operand) (hop : o.op = Op.call { callee := Callee.builtin Builtin.len, args := #[m], argTypes := #[65] })
    {b n : Nat} {F : Int → Option Int} (h : JMap w b n F) (hm : a.eval m = .map (some b)) (hK : ∀ k : Nat, k ≤ n → wpList Tryd.prog ops Q rest (a.put o.dst (.int .i64 k)) w) : wpList Tryd.prog ops Q (o :: rest) a w := by
  obtain ⟨D, h, _⟩ := h
  exact wpList_len_own _ hg m 65 hop 3 38 Tryd.underlying65 stR b n D hm h (hK _ h.size_le)
def stepCs (K : Nat) : Array Value := madeCells (Value.cells (.agg #[.int .i64 0, .int .i64 0])) (K * 2)
theorem made_steps (K : Nat) (hK : K ≤ 65536) (w : World) :
    (Instr.makeSlice 34 (.int .i64 0) (.int .i64 K)).run Tryd.prog w = .ok (.slice (some ⟨w.heap.size, 0, none⟩) 0 K) (w.alloc (.cells (stepCs K) 38)) := by
  obtain ⟨i0, hi, hz0, hz1, hz2⟩ := info_of info_sp
  rw [run_make w 34 38 i0 (.agg #[.int .i64 0, .int .i64 0]) Tryd.underlying34 hi hz0 .i64 .i64 0 K (by omega) (by omega) (by rw [hz2]; omega) (by omega), hz1]
  simp only [Int.toNat_natCast]
  rfl
theorem TOwn.made (w : World) (K : Nat) (hK : K ≤ 65536) : TOwn (w.alloc (.cells (stepCs K) 38)) w.heap.size (.slice (some ⟨w.heap.size, 0, none⟩) 0 K) [] :=
  World.ownsRow_made w _ K (Nat.le_refl _) (by unfold maxLen; omega) (size_madeCells _ _)
theorem srd_one {w : World} {g : Nat} {k v : Int} (h : Lies w g 38 #[.int .i64 k, .int .i64 v]) : SRd w (g + 1) (.slice (some ⟨g, 0, none⟩) 1 1) [(k, v)] := by
  refine ⟨_, _, rfl, Nat.le_refl _, by unfold maxLen; omega, fun _ => ⟨g, 0, rfl, by omega, fun i x hi j u hu => ?_⟩⟩
  have h0 : i = 0 := by have := (List.getElem?_eq_some_iff.1 hi).1; simp at this; omega
  subst h0
  simp at hi
  subst hi
  rw [Lies.cell h]
  simpa using hu
/-- append of one step, behind the block that holds it. -/
theorem wpList_app_t {W : World} {ops : Array Oper} {rest : List Oper} {o : Oper} {a : Act} {Q : Exit → Act → World → Prop} (hgd : o.guard = none) (s x : Operand)
    (ho : o.op = .call { callee := .builtin .append, args := #[s, x], argTypes := #[34, 34] })
    (base G : Nat) (v : Value) (l : List (Int × Int)) (k r : Int) (hs : a.eval s = v) (hx : a.eval x = .slice (some ⟨G, 0, none⟩) 1 1) (hown : TOwn W base v l) (hG : Lies W G 38 #[.int .i64 k, .int .i64 r]) (hlen : l.length ≤ 1000) (hbase : base ≤ W.heap.size)
    (h : ∀ v' w', TOwn w' base v' (l ++ [(k, r)]) → Below base W w' → wpList Tryd.prog ops Q rest (a.put o.dst v') w') : wpList Tryd.prog ops Q (o :: rest) a W := by
  refine wpList_plain hgd fun _ hK => ?_
  obtain ⟨v', w', hrun, r1, r2⟩ := run_app_sps o.type hown (srd_one hG) (by simp only [List.length_cons, List.length_nil]; omega) hbase (by simp)
  unfold Oper.wp
  simp [execOp, ho, resolve, invoke, builtin, hs, hx, hrun, Result.andThen]
  exact hK _ _ (h v' w' r1 r2)
end Go.Proofs.YtfgangkpebkicaaDoor
