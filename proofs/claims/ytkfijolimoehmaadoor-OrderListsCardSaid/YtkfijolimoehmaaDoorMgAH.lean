/-
  Joined by a program out of: Ones, Bits, LeastPure, Least, WidePure, Wide, Widest.
-/
import Derived.Test.YtkfijolimoehmaaDoorMgAA
import Derived.Test.YtkfijolimoehmaaDoorMgAG
import Derived.Deep.QuietTactic
import Derived.BigQuiet
import Derived.Test.YtkfijolimoehmaaDoorMgAB

/-
  Contract of math/bits' OnesCount16.
-/
namespace Go.Proofs.YtkfijolimoehmaaDoor
open Go.RowKit
set_option maxRecDepth 20000

/-- The library's table of how many bits a byte has. -/
def popS : ByteArray := (⟨(List.append (List.append [0, 1, 1, 2, 1, 2, 2, 3, 1, 2, 2, 3, 2, 3, 3, 4, 1, 2, 2, 3, 2, 3, 3, 4, 2, 3, 3, 4, 3, 4, 4, 5, 1, 2, 2, 3, 2, 3, 3, 4, 2, 3, 3, 4, 3, 4, 4, 5, 2, 3, 3, 4, 3, 4, 4, 5, 3, 4, 4, 5, 4, 5, 5, 6] [1, 2, 2, 3, 2, 3, 3, 4, 2, 3, 3, 4, 3, 4, 4, 5, 2, 3, 3, 4, 3, 4, 4, 5, 3, 4, 4, 5, 4, 5, 5, 6, 2, 3, 3, 4, 3, 4, 4, 5, 3, 4, 4, 5, 4, 5, 5, 6, 3, 4, 4, 5, 4, 5, 5, 6, 4, 5, 5, 6, 5, 6, 6, 7]) (List.append [1, 2, 2, 3, 2, 3, 3, 4, 2, 3, 3, 4, 3, 4, 4, 5, 2, 3, 3, 4, 3, 4, 4, 5, 3, 4, 4, 5, 4, 5, 5, 6, 2, 3, 3, 4, 3, 4, 4, 5, 3, 4, 4, 5, 4, 5, 5, 6, 3, 4, 4, 5, 4, 5, 5, 6, 4, 5, 5, 6, 5, 6, 6, 7] [2, 3, 3, 4, 3, 4, 4, 5, 3, 4, 4, 5, 4, 5, 5, 6, 3, 4, 4, 5, 4, 5, 5, 6, 4, 5, 5, 6, 5, 6, 6, 7, 3, 4, 4, 5, 4, 5, 5, 6, 4, 5, 5, 6, 5, 6, 6, 7, 4, 5, 5, 6, 5, 6, 6, 7, 5, 6, 6, 7, 6, 7, 7, 8])).toArray⟩ : ByteArray)
theorem popS_at : ∀ k, k < 256 → popS[k]? = some (UInt8.ofNat (popN 8 k)) := by decide +kernel
theorem popN_le : ∀ k x : Nat, popN k x ≤ k
  | 0, _ => Nat.le_refl _
  | k + 1, x => by unfold popN; have := popN_le k (x / 2); omega
theorem pop_two (x : Nat) : popN 8 (x / 256) + popN 8 (x % 256) = pop x := by
  have h := popN_split 8 8 x
  unfold pop
  rw [h]
  exact Nat.add_comm _ _

theorem index_at (S : ByteArray) (i : Nat) (b : UInt8) (h : S[i]? = some b) (w : World) :
    (Instr.index 9 (.string S) (.int .u16 (i : Int))).run Tryd.prog w = .ok (.int .u8 b.toNat) w := by
  have hi : i < S.size := by
    rcases Nat.lt_or_ge i S.size with h' | h'
    · exact h'
    · rw [ByteArray.getElem?_ge' S _ (by omega)] at h; cases h
  rw [ByteArray.getElem?_lt' S _ hi] at h
  rw [run_index_string w _ S _ _ Tryd.underlying9, dif_pos (by omega)]
  injection h with h
  simp [h]

set_option maxRecDepth 100000 in
theorem ones_any (x : Nat) (w : World) (hx : x < 65536) :
    Calls Tryd.prog 33 #[.int .u16 x] w fun e w' => e = .returned (.int .i64 (pop x)) ∧ ∃ n, w' = w.drewN n := by
  have h1 := popS_at (x / 256) (by omega)
  have h2 := popS_at (x % 256) (by omega)
  have l1 := popN_le 8 (x / 256)
  have l2 := popN_le 8 (x % 256)
  have hp := pop_two x
  go_enter Tryd.func33, Tryd.ntmps33
  go_wp2
  generalize hS : (⟨(List.append (List.append [0, 1, 1, 2, 1, 2, 2, 3, 1, 2, 2, 3, 2, 3, 3, 4, 1, 2, 2, 3, 2, 3, 3, 4, 2, 3, 3, 4, 3, 4, 4, 5, 1, 2, 2, 3, 2, 3, 3, 4, 2, 3, 3, 4, 3, 4, 4, 5, 2, 3, 3, 4, 3, 4, 4, 5, 3, 4, 4, 5, 4, 5, 5, 6] [1, 2, 2, 3, 2, 3, 3, 4, 2, 3, 3, 4, 3, 4, 4, 5, 2, 3, 3, 4, 3, 4, 4, 5, 3, 4, 4, 5, 4, 5, 5, 6, 2, 3, 3, 4, 3, 4, 4, 5, 3, 4, 4, 5, 4, 5, 5, 6, 3, 4, 4, 5, 4, 5, 5, 6, 4, 5, 5, 6, 5, 6, 6, 7]) (List.append [1, 2, 2, 3, 2, 3, 3, 4, 2, 3, 3, 4, 3, 4, 4, 5, 2, 3, 3, 4, 3, 4, 4, 5, 3, 4, 4, 5, 4, 5, 5, 6, 2, 3, 3, 4, 3, 4, 4, 5, 3, 4, 4, 5, 4, 5, 5, 6, 3, 4, 4, 5, 4, 5, 5, 6, 4, 5, 5, 6, 5, 6, 6, 7] [2, 3, 3, 4, 3, 4, 4, 5, 3, 4, 4, 5, 4, 5, 5, 6, 3, 4, 4, 5, 4, 5, 5, 6, 4, 5, 5, 6, 5, 6, 6, 7, 3, 4, 4, 5, 4, 5, 5, 6, 4, 5, 5, 6, 5, 6, 6, 7, 4, 5, 5, 6, 5, 6, 6, 7, 5, 6, 6, 7, 6, 7, 7, 8])).toArray⟩ : ByteArray) = S
  rw [show popS = S from hS] at h1 h2
  clear hS
  have hm : bits BinOp.and IntKind.u16 (x : Int) 255 = ((x % 256 : Nat) : Int) := by
    rw [show (255 : Int) = ((255 : Nat) : Int) from rfl, u16_and_nat _ _ hx (by omega)]
    exact congrArg _ (Nat.and_two_pow_sub_one_eq_mod x 8)
  have i1 := index_at S (x / 256) _ h1 
  have i2 := index_at S (x % 256) _ h2
  rw [← hm] at i2
  have e1 : ((x / 256 : Nat) : Int) = (x : Int) / 256 := by omega
  rw [e1] at i1
  clear h1 h2 hm e1
  go_quiet (fail)
  go_wp2
  go_ret
  exact ⟨ret_int (by omega), nq, rfl⟩
theorem ones_below (x : Nat) (w : World) (hx : x < 65536) :
    Calls Tryd.prog 33 #[.int .u16 x] w fun e w' => e = .returned (.int .i64 (pop x)) ∧ Below w.heap.size w w' :=
  (ones_any x w hx).mono fun _ _ ⟨he, _, hw⟩ => ⟨he, by rw [hw]; exact ⟨rfl, rfl, rfl, Nat.le_refl _, fun _ _ => rfl⟩⟩
end Go.Proofs.YtkfijolimoehmaaDoor

/-
  Contracts of math/bits' TrailingZeros16 and OnesCount16.
-/
namespace Go.Proofs.YtkfijolimoehmaaDoor
open Go.RowKit
set_option maxRecDepth 20000

/-- The library's table, where the program lays it. -/
def Tab (w : World) : Prop := ∀ k, k < 32 → w.cell? ⟨0, k, none⟩ = some (.int .u8 (deb.getD k 0 : Nat))
theorem Tab.below {w w' : World} {B : Nat} (h : Tab w) (hb : Below B w w') (hB : 0 < B) : Tab w' := fun k hk => (hb.cell (p := ⟨0, k, none⟩) hB).trans (h k hk)

theorem Tab.drew {w : World} (h : Tab w) : Tab w.drew := h
theorem Tab.alloc {w : World} (h : Tab w) (hp : 0 < w.heap.size) (o : Obj) : Tab (w.alloc o) := h.below ((Below.refl w.heap.size w).alloc (Nat.le_refl _) o) hp

theorem neg_val (x : Nat) (h0 : 0 < x) (hx : x < 65536) : IntKind.u16.wrap (-(x : Int)) = ((65536 - x : Nat) : Int) := by
  rw [IntKind.wrap_u16]; omega
theorem tz_and (x : Nat) (h0 : 0 < x) (hx : x < 65536) : bits BinOp.and IntKind.u16 (x : Int) (IntKind.u16.wrap (-(x : Int))) = ((2 ^ tz x : Nat) : Int) := by
  rw [neg_val x h0 hx, u16_and_nat _ _ hx (by omega)]
  have h := (low_and 16 x h0 hx).1
  exact congrArg _ h

theorem tz_any (x : Nat) (w : World) (hx : x < 65536) (h0 : 0 < x) (hT : Tab w) :
    Calls Tryd.prog 25 #[.int .u16 x] w fun e w' => e = .returned (.int .i64 (tz x)) ∧ w = w' := by
  have hz : ((x : Int) == 0) = false := by rw [beq_eq_false_iff_ne]; omega
  have hl : tz x < 16 := (low_and 16 x h0 hx).2
  obtain ⟨d1, d2⟩ := deb_at (tz x) hl
  have hp : 2 ^ tz x < 65536 := pow_lt _ (by omega)
  have hv := tz_and x h0 hx
  have hqg : ∀ p : Nat, p < 65536 → ((p : Int) % 4294967296 * 125613361 % 4294967296 / 134217728).toNat = p * 125613361 % 4294967296 / 134217728 := by
    intro p hp
    rw [show (p : Int) % 4294967296 = p by omega, show ((p : Int) * 125613361 % 4294967296 / 134217728) = ((p * 125613361 % 4294967296 / 134217728 : Nat) : Int) from by rw [Int.natCast_ediv, Int.natCast_emod, Int.natCast_mul]; rfl, Int.toNat_natCast]
  have hq : (((2 ^ tz x : Nat) : Int) % 4294967296 * 125613361 % 4294967296 / 134217728).toNat = 2 ^ tz x * 125613361 % 4294967296 / 134217728 := hqg _ hp
  clear hqg
  have hc := hT _ d1
  rw [d2, ← hq, ← hv] at hc
  have hi1 : 0 ≤ bits BinOp.and IntKind.u16 (x : Int) (IntKind.u16.wrap (-(x : Int))) % 4294967296 * 125613361 % 4294967296 / 134217728 := by rw [hv]; omega
  have hi2 : bits BinOp.and IntKind.u16 (x : Int) (IntKind.u16.wrap (-(x : Int))) % 4294967296 * 125613361 % 4294967296 / 134217728 < 32 := by rw [hv]; omega
  clear hq hv d1 d2 hT
  go_enter Tryd.func25, Tryd.ntmps25
  go_wp2
  go_ret
  exact ⟨rfl, rfl⟩

end Go.Proofs.YtkfijolimoehmaaDoor

/-
  Plain: the list that Least makes.
-/
namespace Go.Proofs.YtkfijolimoehmaaDoor
open Go.RowKit
set_option maxRecDepth 20000

/-- The lowest item of a set of sixteen; 16 where it is empty. -/
def nextOf (r : Nat) : Nat := if r = 0 then 16 else tz r
def lsD (b : Nat → Nat) (n : Nat) : Nat → Nat
  | 0 => 0
  | k + 1 => lsD b n k ||| (2 ^ nextOf (rdyUp b (lsD b n k) n) % 65536)
def lsL (b : Nat → Nat) (n : Nat) : Nat → List Int
  | 0 => []
  | k + 1 => lsL b n k ++ [(nextOf (rdyUp b (lsD b n k) n) : Int)]
theorem lsD_lt (b : Nat → Nat) (n : Nat) : ∀ k, lsD b n k < 65536
  | 0 => by unfold lsD; decide
  | k + 1 => by
    unfold lsD
    exact Nat.or_lt_two_pow (n := 16) (lsD_lt b n k) (Nat.mod_lt _ (by decide))
theorem lsL_length (b : Nat → Nat) (n : Nat) : ∀ k, (lsL b n k).length = k
  | 0 => rfl
  | k + 1 => by unfold lsL; rw [List.length_append, lsL_length b n k]; rfl
end Go.Proofs.YtkfijolimoehmaaDoor

/-
  Contract of order.Least.
-/
namespace Go.Proofs.YtkfijolimoehmaaDoor
open Go.RowKit
set_option maxRecDepth 20000

theorem tz_zero (w : World) : Calls Tryd.prog 25 #[.int .u16 0] w fun e w' => e = .returned (.int .i64 16) ∧ w = w' := by
  go_enter Tryd.func25, Tryd.ntmps25
  go_wp2
  go_ret
  exact ⟨rfl, rfl⟩
theorem next_any (x : Nat) (w : World) (hx : x < 65536) (hT : Tab w) :
    Calls Tryd.prog 25 #[.int .u16 x] w fun e w' => e = .returned (.int .i64 (nextOf x)) ∧ w = w' := by
  unfold nextOf
  by_cases h : x = 0
  · subst h
    exact tz_zero w
  · rw [if_neg h]
    exact tz_any x w hx (by omega) hT
theorem nextOf_le (x : Nat) (hx : x < 65536) : nextOf x ≤ 16 := by
  unfold nextOf
  split
  · omega
  · exact Nat.le_of_lt (low_and 16 x (by omega) hx).2

structure LRel (w : World) (B G n : Nat) (a b : Nat → Nat) (v : Value) (xs : List Int) (wr : World) : Prop where
  below : Below w.heap.size w wr
  arg : RelB wr w.heap.size n a
  bef : RelB wr B n b
  own : IOwn wr G v xs
  tab : Tab wr
  pos : 0 < w.heap.size
  fb : w.heap.size < B
  fg : B < G
  sz : G ≤ wr.heap.size
theorem LRel.then_ {w wr w' : World} {B G n : Nat} {a b : Nat → Nat} {v : Value} {xs : List Int} (h : LRel w B G n a b v xs wr) (hb : Below wr.heap.size wr w') : LRel w B G n a b v xs w' := by
  have h1 := h.fb; have h2 := h.fg; have h3 := h.sz; have h4 := h.below.size; have h5 := h.pos
  exact ⟨h.below.trans (hb.mono h4), Lies.below h.arg hb (by omega), Lies.below h.bef hb (by omega), h.own.then_ hb, h.tab.below hb (by omega), h5, h1, h2, Nat.le_trans h3 hb.size⟩
theorem LRel.app {w wr w' : World} {B G n : Nat} {a b : Nat → Nat} {v v' : Value} {xs ys : List Int} (h : LRel w B G n a b v xs wr) (hb : Below G wr w') (ho : IOwn w' G v' ys) : LRel w B G n a b v' ys w' := by
  have h1 := h.fb; have h2 := h.fg; have h3 := h.sz; have h4 := h.below.size; have h5 := h.pos
  exact ⟨h.below.trans (hb.mono (by omega)), Lies.below h.arg hb (by omega), Lies.below h.bef hb (by omega), ho, h.tab.below hb (by omega), h5, h1, h2, Nat.le_trans h3 hb.size⟩

set_option maxHeartbeats 1000000 in
theorem least_no (n : Nat) (a : Nat → Nat) (w : World) (h : Good n a) (hy : cyc (clo n a) n = false) (hT : Tab w) (hpos : 0 < w.heap.size) :
    Calls Tryd.prog 6 #[relV n a] w fun e w' => ∃ v, e = .returned (.tuple #[v, .int .i64 0]) ∧ IOwn w' w.heap.size v (lsL (rev n (clo n a)) n n) ∧ Below w.heap.size w w' := by
  have hcl := clo_lt h
  have hle := h.le
  have hmk := made_cap n (by omega)
  go_enter Tryd.func6, Tryd.ntmps6
  go_wp2_with fail
  refine (acyclic_no n a _ h hy).mono ?_
  rintro e w1 ⟨rfl, hb1⟩
  have hz1 : w.heap.size + 1 ≤ w1.heap.size := by have := hb1.size; simpa using this
  have hA1 : RelB w1 w.heap.size n a := Lies.below (Lies.new w _ _) hb1 (by rw [World.size_alloc]; omega)
  have hw1 : Below w.heap.size w w1 := ((Below.refl _ _).alloc (Nat.le_refl _) _).trans (hb1.mono (by simp))
  have HH := Lib.hid (And.intro hA1 (And.intro hw1 hz1))
  have HT := Lib.hid hT
  clear hb1 hA1 hw1 hz1 hT
  go_wp2_with fail
  refine (reverse_any n (clo n a) _ hle hcl).mono ?_
  rintro e w2 ⟨rfl, hb2⟩
  obtain ⟨hA1, hw1, hz1⟩ := HH.out
  have hz2 : w1.heap.size + 1 ≤ w2.heap.size := by have := hb2.size; simpa using this
  have hA2 : RelB w2 w.heap.size n a := Lies.below (Lies.alloc hA1 _) hb2 (by simp; omega)
  have hw2 : Below w.heap.size w w2 := (hw1.alloc (by omega) _).trans (hb2.mono (by simp; omega))
  have hs := hA2.size
  have hlt : w.heap.size < w2.heap.size := by omega
  have HH2 := Lib.hid (And.intro hA2 hw2)
  clear hb2 hA1 hw1 hz1 HH hA2 hw2 hz2
  go_wp2_with fail
  obtain ⟨hA2, hw2⟩ := HH2.out
  change Code.wp _ _ _ _ ((w2.alloc (.cells (relCs n (rev n (clo n a))) 25)).alloc (.cells (tabCs n fun _ => 0) 3))
  have HN0 : LRel w w2.heap.size (w2.heap.size + 1) n a (rev n (clo n a)) (.slice (some ⟨w2.heap.size + 1, 0, none⟩) 0 n) [] ((w2.alloc (.cells (relCs n (rev n (clo n a))) 25)).alloc (.cells (tabCs n fun _ => 0) 3)) := by
    have hG := IOwn.made (w2.alloc (.cells (relCs n (rev n (clo n a))) 25)) n (by omega)
    rw [World.size_alloc] at hG
    have hb : Below w.heap.size w ((w2.alloc (.cells (relCs n (rev n (clo n a))) 25)).alloc (.cells (tabCs n fun _ => 0) 3)) := (hw2.alloc (by omega) _).alloc (by simp; omega) _
    exact ⟨hb, Lies.alloc (Lies.alloc hA2 _) _, Lies.alloc (Lies.new _ _ _) _, hG, HT.out.below hb hpos, hpos, hlt, by omega, by simp⟩
  generalize (w2.alloc (.cells (relCs n (rev n (clo n a))) 25)).alloc (.cells (tabCs n fun _ => 0) 3) = W at HN0 ⊢
  have hrl := rev_lt hle (clo n a)
  generalize hbb : rev n (clo n a) = b at HN0 hrl ⊢
  have HBB := Lib.hid hbb
  clear hbb
  have hBlt := HN0.fb
  generalize w2.heap.size + 1 = G at HN0 ⊢
  generalize w2.heap.size = B at HN0 hBlt ⊢
  clear hA2 hw2 HH2 hs hlt hmk
  go_loopw [7, 8, 25] (fun v d i wr => ∃ k : Nat, k ≤ n ∧ i = .int .i64 k ∧ d = .int .u16 (lsD b n k) ∧ LRel w B G n a b v (lsL b n k) wr) (fun _ _ i _ => n - (intOf i).toNat)
  case atStart => exact ⟨0, by omega, rfl, rfl, HN0⟩
  case round =>
    clear HN0
    obtain ⟨k, hk, rfl, rfl, hR⟩ := hrel
    by_cases hkn : k < n
    · have hb0 := hR.bef.size
      obtain ⟨c0, c1, c2, c3, c4, c5, c6, c7, c8, c9, c10, c11⟩ := hR.bef.rows
      have HR := Lib.hid hR
      have hdl := lsD_lt b n k
      have hll := lsL_length b n k
      have hD : lsD b n (k + 1) = lsD b n k ||| (2 ^ nextOf (rdyUp b (lsD b n k) n) % 65536) := rfl
      have hL : lsL b n (k + 1) = lsL b n k ++ [(nextOf (rdyUp b (lsD b n k) n) : Int)] := rfl
      generalize lsD b n k = d at hdl hD hL ⊢
      have HD := Lib.hid hD
      have HL := Lib.hid hL
      have HLL := Lib.hid hll
      clear hR hD hL hll
      go_wp2_with fail
      refine (ready_any n b d wr hle (fun i _ => hrl i) hdl).mono ?_
      rintro e w3 ⟨rfl, hb3⟩
      have hR := HR.out.then_ hb3
      clear HR hb0 c0 c1 c2 c3 c4 c5 c6 c7 c8 c9 c10 c11 hb3
      have hrx : rdyUp b d n < 65536 := rdyUp_lt b d 16 n (by omega)
      go_wp2_with fail
      refine (next_any (rdyUp b d n) w3 hrx hR.tab).mono ?_
      rintro e w4 ⟨rfl, rfl⟩
      have ht := nextOf_le (rdyUp b d n) hrx
      have hown := hR.own
      have hsz := hR.sz
      have HR := Lib.hid hR
      have HO := Lib.hid hown
      clear hR hown hrx
      generalize nextOf (rdyUp b d n) = t at ht HD HL ⊢
      have hsh : IntKind.u16.wrap (2 ^ t) = ((2 ^ t % 65536 : Nat) : Int) := by rw [IntKind.wrap_u16]; simp
      have hor := u16_or_nat d (2 ^ t % 65536) hdl (by omega)
      rw [← hsh] at hor
      clear hsh
      go_wp2_with (at_builtin; refine app_one rfl (.tmp 31) (.tmp 33) rfl G _ (lsL b n k) rfl HO.out (t : Int) rfl (by rw [HLL.out]; omega) hsz ?_; intro v' w5 ho5 hb5)
      go_roundw
      case rel => exact ⟨k + 1, by omega, by go_num, by rw [HD.out], by rw [HL.out]; exact HR.out.app hb5 ho5⟩
      case measure => simp [intOf]; omega
    · have hkn' : k = n := by omega
      subst hkn'
      have HR := Lib.hid hR
      clear hR
      go_wp2_with fail
      go_ret2
      exact ⟨_, rfl, by rw [HBB.out]; exact HR.out.own.mono (by have := HR.out.fg; omega), HR.out.below⟩
end Go.Proofs.YtkfijolimoehmaaDoor

/-
  Plain: the antichain that widest finds.
-/
namespace Go.Proofs.YtkfijolimoehmaaDoor
open Go.RowKit
set_option maxRecDepth 20000

/-- None of the first m items of s stands ahead of one of s. -/
def antiUp (c : Nat → Nat) (s : Nat) : Nat → Bool
  | 0 => true
  | m + 1 => antiUp c s m && !(s.testBit m && decide (c m &&& s ≠ 0))
theorem antiUp_mono {c : Nat → Nat} {s : Nat} : ∀ {m n : Nat}, m ≤ n → antiUp c s m = false → antiUp c s n = false
  | m, 0, h, h0 => by
    have : m = 0 := by omega
    subst this; exact h0
  | m, n + 1, h, h0 => by
    by_cases e : m = n + 1
    · subst e; exact h0
    · unfold antiUp; rw [antiUp_mono (show m ≤ n by omega) h0]; rfl
/-- Set a is ahead of set b: it is longer, or as long and less. -/
def cb (a b : Nat) : Bool := if pop a = pop b then decide (a ^^^ b ≠ 0) && a.testBit (tz (a ^^^ b)) else decide (pop b < pop a)
def wideUp (c : Nat → Nat) (n : Nat) : Nat → Nat
  | 0 => 0
  | k + 1 => if cb k (wideUp c n k) = true ∧ antiUp c k n = true then k else wideUp c n k
theorem wideUp_lt (c : Nat → Nat) (n : Nat) : ∀ k, wideUp c n k ≤ k
  | 0 => Nat.le_refl _
  | k + 1 => by unfold wideUp; have := wideUp_lt c n k; split <;> omega
/-- The items of s below m. -/
def itemsUp (s : Nat) : Nat → List Int
  | 0 => []
  | m + 1 => if s.testBit m = true then itemsUp s m ++ [(m : Int)] else itemsUp s m
theorem itemsUp_length (s : Nat) : ∀ m, (itemsUp s m).length ≤ m
  | 0 => Nat.le_refl _
  | m + 1 => by
    unfold itemsUp
    have := itemsUp_length s m
    split
    · rw [List.length_append]; simp; omega
    · omega
end Go.Proofs.YtkfijolimoehmaaDoor

/-
  Contracts of order.isAntichain, order.comesBefore, order.widest.
-/
namespace Go.Proofs.YtkfijolimoehmaaDoor
open Go.RowKit
set_option maxRecDepth 20000


set_option maxHeartbeats 1000000 in
theorem anti_any (n : Nat) (c : Nat → Nat) (s : Nat) (w : World) (hn : n ≤ 12) (hc : ∀ i, i < 12 → c i < 65536) (hs : s < 65536) :
    Calls Tryd.prog 37 #[relV n c, .int .u16 s] w fun e w' => e = .returned (.bool (antiUp c s n)) ∧ Below w.heap.size w w' := by
  have hB : RelB (w.alloc (.cells (relCs n c) 25)) w.heap.size n c := Lies.new _ _ _
  have hb0 : Below w.heap.size w (w.alloc (.cells (relCs n c) 25)) := (Below.refl _ _).alloc (Nat.le_refl _) _
  go_enter Tryd.func37, Tryd.ntmps37
  go_wp2_with fail
  change Code.wp _ _ _ _ (w.alloc (.cells (relCs n c) 25))
  generalize w.alloc (.cells (relCs n c) 25) = W at hB hb0 ⊢
  go_loop [8] (fun i => ∃ k : Nat, k ≤ n ∧ i = .int .i64 k ∧ antiUp c s k = true) (fun i => n - (intOf i).toNat)
  case atStart => exact ⟨0, by omega, rfl, rfl⟩
  case round =>
    obtain ⟨k, hk, rfl, hy⟩ := hrel
    have HY := Lib.hid hy
    clear hy
    by_cases hkn : k < n
    · have hr := hB.row' (show k < 12 by omega)
      have hv := u16_and_nat (c k) s (hc k (by omega)) hs
      have hz := nat_ne0 (c k &&& s)
      have he : antiUp c s (k + 1) = (antiUp c s k && !(s.testBit k && decide (c k &&& s ≠ 0))) := rfl
      cases hsk : s.testBit k
      · rw [HY.out, hsk] at he
        have HE := Lib.hid he
        have HD := Lib.hid hsk
        clear he hsk hz hv
        go_wp2_with (go_at_call 22; refine (has_no s k _ hs (by omega) HD.out).mono ?_; rintro e w' ⟨rfl, rfl⟩)
        go_round
        case rel => exact ⟨k + 1, by omega, by go_num, by rw [HE.out]; rfl⟩
        case measure => simp [intOf]; omega
      · by_cases hq : c k &&& s = 0
        · rw [HY.out, hsk, decide_eq_false (by simpa using hq)] at he
          rw [decide_eq_false (by simpa using hq)] at hz
          have HE := Lib.hid he
          have HD := Lib.hid hsk
          clear he hsk hq
          go_wp2_with (go_at_call 22; refine (has_yes s k _ hs (by omega) HD.out).mono ?_; rintro e w' ⟨rfl, rfl⟩)
          go_round
          case rel => exact ⟨k + 1, by omega, by go_num, by rw [HE.out]; rfl⟩
          case measure => simp [intOf]; omega
        · rw [HY.out, hsk, decide_eq_true hq] at he
          rw [decide_eq_true hq] at hz
          have he' : antiUp c s n = false := antiUp_mono (show k + 1 ≤ n by omega) he
          have HE := Lib.hid he'
          have HD := Lib.hid hsk
          clear he he' hsk hq
          go_wp2_with (go_at_call 22; refine (has_yes s k _ hs (by omega) HD.out).mono ?_; rintro e w' ⟨rfl, rfl⟩)
          go_ret
          exact ⟨ret_bool (by rw [HE.out]), hb0⟩
    · have hkn' : k = n := by omega
      subst hkn'
      go_wp2_with fail
      go_ret
      exact ⟨ret_bool (by rw [HY.out]), hb0⟩

theorem anti_yes (n : Nat) (c : Nat → Nat) (s : Nat) (w : World) (hn : n ≤ 12) (hc : ∀ i, i < 12 → c i < 65536) (hs : s < 65536) (h : antiUp c s n = true) :
    Calls Tryd.prog 37 #[relV n c, .int .u16 s] w fun e w' => e = .returned (.bool true) ∧ Below w.heap.size w w' := h ▸ anti_any n c s w hn hc hs
theorem anti_no (n : Nat) (c : Nat → Nat) (s : Nat) (w : World) (hn : n ≤ 12) (hc : ∀ i, i < 12 → c i < 65536) (hs : s < 65536) (h : antiUp c s n = false) :
    Calls Tryd.prog 37 #[relV n c, .int .u16 s] w fun e w' => e = .returned (.bool false) ∧ Below w.heap.size w w' := h ▸ anti_any n c s w hn hc hs

theorem xor_lt (a b : Nat) (ha : a < 65536) (hb : b < 65536) : a ^^^ b < 65536 := Nat.xor_lt_two_pow (n := 16) ha hb

set_option maxHeartbeats 1000000 in
theorem comes_any (a b : Nat) (w : World) (ha : a < 65536) (hb : b < 65536) (hT : Tab w) :
    Calls Tryd.prog 36 #[.int .u16 a, .int .u16 b] w fun e w' => e = .returned (.bool (cb a b)) ∧ ∃ n, w' = w.drewN n := by
  have hx := xor_lt a b ha hb
  have hv := u16_xor_nat a b ha hb
  have hT' : ∀ n, Tab (w.drewN n) := fun n => hT
  have HT := Lib.hid hT'
  clear hT hT'
  go_enter Tryd.func36, Tryd.ntmps36
  go_wp2_with fail
  refine (ones_any a _ ha).mono ?_
  rintro e w1 ⟨rfl, n1, rfl⟩
  go_wp2_with fail
  refine (ones_any b _ hb).mono ?_
  rintro e w1 ⟨rfl, n2, rfl⟩
  have hz : ((pop a : Int) != (pop b : Int)) = decide (pop a ≠ pop b) := by rw [Bool.eq_iff_iff, bne_iff_ne, decide_eq_true_iff]; omega
  have hu : cb a b = if pop a = pop b then decide (a ^^^ b ≠ 0) && a.testBit (tz (a ^^^ b)) else decide (pop b < pop a) := rfl
  by_cases hp : pop a = pop b
  · rw [decide_eq_false (by simpa using hp)] at hz
    rw [if_pos hp] at hu
    have hq := nat_ne0 (a ^^^ b)
    clear hp
    by_cases h0 : a ^^^ b = 0
    · rw [decide_eq_false (by simpa using h0)] at hq hu
      have HU := Lib.hid hu
      clear hu h0
      go_wp2_with fail
      go_ret
      exact ⟨ret_bool (by rw [HU.out]; rfl), _, rfl⟩
    · rw [decide_eq_true h0] at hq hu
      have HU := Lib.hid hu
      have h0' : 0 < a ^^^ b := by omega
      have htz : tz (a ^^^ b) < 16 := (low_and 16 _ h0' hx).2
      clear hu h0
      go_wp2_with fail
      refine (tz_any (a ^^^ b) _ hx h0' (HT.out _)).mono ?_
      rintro e w1 ⟨rfl, rfl⟩
      go_wp2_with fail
      refine (has_any a (tz (a ^^^ b)) _ ha (by omega)).mono ?_
      rintro e w1 ⟨rfl, rfl⟩
      go_wp2_with fail
      go_ret
      exact ⟨ret_bool (by rw [HU.out]; rfl), _, rfl⟩
  · rw [decide_eq_true hp] at hz
    rw [if_neg hp] at hu
    have HU := Lib.hid hu
    clear hu hp
    go_wp2_with fail
    go_ret
    exact ⟨ret_bool (by rw [HU.out]), _, rfl⟩

theorem comes_yes (a b : Nat) (w : World) (ha : a < 65536) (hb : b < 65536) (hT : Tab w) (h : cb a b = true) :
    Calls Tryd.prog 36 #[.int .u16 a, .int .u16 b] w fun e w' => e = .returned (.bool true) ∧ ∃ n, w' = w.drewN n := h ▸ comes_any a b w ha hb hT
theorem comes_no (a b : Nat) (w : World) (ha : a < 65536) (hb : b < 65536) (hT : Tab w) (h : cb a b = false) :
    Calls Tryd.prog 36 #[.int .u16 a, .int .u16 b] w fun e w' => e = .returned (.bool false) ∧ ∃ n, w' = w.drewN n := h ▸ comes_any a b w ha hb hT
end Go.Proofs.YtkfijolimoehmaaDoor

/-
  Contract of order.widest.
-/
namespace Go.Proofs.YtkfijolimoehmaaDoor
open Go.RowKit
set_option maxRecDepth 20000

theorem below_drewN {B : Nat} {a w : World} (h : Below B a w) (n : Nat) : Below B a (w.drewN n) := ⟨h.os, h.tape, h.output, h.size, h.block⟩

structure WRel (w : World) (n : Nat) (c : Nat → Nat) (wr : World) : Prop where
  below : Below w.heap.size w wr
  arg : RelB wr w.heap.size n c
  tab : Tab wr
  pos : 0 < w.heap.size
  sz : w.heap.size < wr.heap.size
theorem WRel.then_ {w wr w' : World} {n : Nat} {c : Nat → Nat} (h : WRel w n c wr) (hb : Below wr.heap.size wr w') : WRel w n c w' :=
  ⟨h.below.trans (hb.mono h.below.size), Lies.below h.arg hb h.sz, h.tab.below hb (by have := h.sz; omega), h.pos, Nat.lt_of_lt_of_le h.sz hb.size⟩
theorem WRel.drewN {w wr : World} {n : Nat} {c : Nat → Nat} (h : WRel w n c wr) (k : Nat) : WRel w n c (wr.drewN k) := h.then_ (below_drewN (Below.refl _ _) k)

set_option maxHeartbeats 1000000 in
theorem widest_any (n : Nat) (c : Nat → Nat) (w : World) (hn : n ≤ 12) (hc : ∀ i, i < 12 → c i < 65536) (hT : Tab w) (hpos : 0 < w.heap.size) :
    Calls Tryd.prog 32 #[relV n c] w fun e w' => e = .returned (.int .u16 (wideUp c n (2 ^ n))) ∧ Below w.heap.size w w' := by
  have hW : WRel w n c (w.alloc (.cells (relCs n c) 25)) := by
    have hb := (Below.refl w.heap.size w).alloc (Nat.le_refl _) (.cells (relCs n c) 25)
    exact ⟨hb, Lies.new _ _ _, hT.below hb hpos, hpos, by simp⟩
  have hp := pow_u16 n (by omega)
  have h2 : 2 ^ n ≤ 4096 := Nat.le_trans (Nat.pow_le_pow_right (by omega) hn) (by decide)
  obtain ⟨N, hN⟩ : ∃ N, N = 2 ^ n := ⟨_, rfl⟩
  rw [← hN] at h2 hp ⊢
  have HN := Lib.hid hN
  clear hN hT
  go_enter Tryd.func32, Tryd.ntmps32
  go_wp2_with fail
  change Code.wp _ _ _ _ (w.alloc (.cells (relCs n c) 25))
  generalize w.alloc (.cells (relCs n c) 25) = W at hW ⊢
  go_loopw [3, 8] (fun s i wr => ∃ k : Nat, k ≤ N ∧ i = .int .u16 k ∧ s = .int .u16 (wideUp c n k) ∧ WRel w n c wr) (fun _ i _ => N - (intOf i).toNat)
  case atStart => exact ⟨0, by omega, rfl, rfl, hW⟩
  case round =>
    clear hW
    obtain ⟨k, hk, rfl, rfl, hR⟩ := hrel
    by_cases hkn : k < N
    · have hle := wideUp_lt c n k
      have he : wideUp c n (k + 1) = if cb k (wideUp c n k) = true ∧ antiUp c k n = true then k else wideUp c n k := rfl
      have hs := hR.arg.size
      obtain ⟨c0, c1, c2, c3, c4, c5, c6, c7, c8, c9, c10, c11⟩ := hR.arg.rows
      have HR := Lib.hid hR
      have hadd : IntKind.u16.wrap ((k : Int) + 1) = (k : Int) + 1 := by rw [IntKind.wrap_u16]; omega
      clear hR
      cases hcb : cb k (wideUp c n k)
      · rw [if_neg (fun h => by rw [hcb] at h; exact absurd h.1 (by decide))] at he
        have HE := Lib.hid he
        have HC := Lib.hid hcb
        clear he hcb c0 c1 c2 c3 c4 c5 c6 c7 c8 c9 c10 c11
        go_wp2_with fail
        refine (comes_no k (wideUp c n k) _ (by omega) (by omega) HR.out.tab HC.out).mono ?_
        rintro e w1 ⟨rfl, nq, rfl⟩
        go_wp2_with fail
        go_roundw
        case rel => exact ⟨k + 1, by omega, by go_num, by rw [HE.out], HR.out.drewN _⟩
        case measure => simp [intOf]; omega
      · cases han : antiUp c k n
        · rw [if_neg (fun h => by rw [han] at h; exact absurd h.2 (by decide))] at he
          have HE := Lib.hid he
          have HC := Lib.hid hcb
          have HA := Lib.hid han
          clear he hcb han
          go_wp2_with fail
          refine (comes_yes k (wideUp c n k) _ (by omega) (by omega) HR.out.tab HC.out).mono ?_
          rintro e w1 ⟨rfl, nq, rfl⟩
          go_wp2_with fail
          refine (anti_no n c k _ hn hc (by omega) HA.out).mono ?_
          rintro e w2 ⟨rfl, hb2⟩
          have HR2 := Lib.hid ((HR.out.drewN nq).then_ hb2)
          clear hb2 HR hs c0 c1 c2 c3 c4 c5 c6 c7 c8 c9 c10 c11
          go_wp2_with fail
          go_roundw
          case rel => exact ⟨k + 1, by omega, by go_num, by rw [HE.out], HR2.out⟩
          case measure => simp [intOf]; omega
        · rw [if_pos ⟨hcb, han⟩] at he
          have HE := Lib.hid he
          have HC := Lib.hid hcb
          have HA := Lib.hid han
          clear he hcb han
          go_wp2_with fail
          refine (comes_yes k (wideUp c n k) _ (by omega) (by omega) HR.out.tab HC.out).mono ?_
          rintro e w1 ⟨rfl, nq, rfl⟩
          go_wp2_with fail
          refine (anti_yes n c k _ hn hc (by omega) HA.out).mono ?_
          rintro e w2 ⟨rfl, hb2⟩
          have HR2 := Lib.hid ((HR.out.drewN nq).then_ hb2)
          clear hb2 HR hs c0 c1 c2 c3 c4 c5 c6 c7 c8 c9 c10 c11
          go_wp2_with fail
          go_roundw
          case rel => exact ⟨k + 1, by omega, by go_num, by rw [HE.out], HR2.out⟩
          case measure => simp [intOf]; omega
    · have hkn' : k = N := by omega
      subst hkn'
      have HR := Lib.hid hR
      clear hR
      go_wp2_with fail
      go_ret
      exact ⟨rfl, HR.out.below⟩
end Go.Proofs.YtkfijolimoehmaaDoor
