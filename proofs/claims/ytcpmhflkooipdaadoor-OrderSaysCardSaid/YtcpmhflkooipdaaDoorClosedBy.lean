/-
  Contract of alibref.Closed: the closure, and whether it comes round.
-/
import Derived.Test.YtcpmhflkooipdaaDoorReach
import Derived.Test.YtcpmhflkooipdaaDoorSpanPure
namespace Go.Proofs.YtcpmhflkooipdaaDoor
open Go.RowKit
set_option maxRecDepth 20000

/-- The closure as far as it was searched: k whole rows, and the first j of row k. -/
def clAt (c : Nat → Nat) (k j : Nat) : Nat → Nat := fun i => if i < k then c i else if i = k then pickS (fun x => (c k).testBit x) j else 0
def clR (c : Nat → Nat) (k j : Nat) : Bool := cyc c k || (decide (k < j) && (c k).testBit k)
theorem clAt_none (c : Nat → Nat) : clAt c 0 0 = fun _ => 0 := by
  funext i
  unfold clAt
  rw [if_neg (by omega)]
  split <;> rfl
theorem clAt_end {n : Nat} {a : Nat → Nat} (h : Good n a) {k : Nat} (hk : k < n) : clAt (clo n a) k n = clAt (clo n a) (k + 1) 0 := by
  funext i
  unfold clAt
  by_cases h1 : i < k
  · rw [if_pos h1, if_pos (by omega)]
  rw [if_neg h1]
  by_cases h2 : i = k
  · subst h2
    rw [if_pos rfl, if_pos (by omega)]
    apply Nat.eq_of_testBit_eq
    intro x
    rw [pickS_bit]
    cases hx : (clo n a i).testBit x with
    | false => simp
    | true => simp [h.clo_in hk hx]
  · rw [if_neg h2, if_neg (by omega)]
    by_cases h3 : i = k + 1
    · rw [if_pos h3]; rfl
    · rw [if_neg h3]
theorem clAt_all {n : Nat} {a : Nat → Nat} (h : Good n a) (i : Nat) (hi : i < 12) : clAt (clo n a) n 0 i = clo n a i := by
  unfold clAt
  by_cases h1 : i < n
  · rw [if_pos h1]
  · rw [if_neg h1, h.clo_out hi (by omega)]
    split <;> rfl
theorem clAt_lt {n : Nat} {a : Nat → Nat} (h : Good n a) {k j : Nat} (hj : j ≤ 12) (i : Nat) (hi : i < 12) : clAt (clo n a) k j i < 65536 := by
  unfold clAt
  split
  · exact h.clo.lt i hi
  split
  · exact pickS_lt16 _ hj
  · decide
theorem clAt_yes {c : Nat → Nat} {k j : Nat} (h : (c k).testBit j = true) : clAt c k (j + 1) = fun i => if i = k then clAt c k j k ||| 2 ^ j else clAt c k j i := by
  funext i
  unfold clAt
  by_cases h1 : i = k
  · subst h1
    simp [pickS, h]
  · simp [h1]
theorem clAt_no {c : Nat → Nat} {k j : Nat} (h : (c k).testBit j = false) : clAt c k (j + 1) = clAt c k j := by
  funext i
  unfold clAt
  simp [pickS, h]
theorem clR_yes {c : Nat → Nat} {k j : Nat} (h : (c k).testBit j = true) : clR c k (j + 1) = (clR c k j || decide (k = j)) := by
  unfold clR
  by_cases e : k = j
  · subst e; simp [h]
  · have : decide (k < j + 1) = decide (k < j) := by
      by_cases h' : k < j
      · simp [h']; omega
      · simp [h']; omega
    rw [this]; simp [e]
theorem clR_no {c : Nat → Nat} {k j : Nat} (h : (c k).testBit j = false) : clR c k (j + 1) = clR c k j := by
  unfold clR
  by_cases e : k = j
  · subst e; simp [h]
  · have : decide (k < j + 1) = decide (k < j) := by
      by_cases h' : k < j
      · simp [h']; omega
      · simp [h']; omega
    rw [this]
theorem clR_end (c : Nat → Nat) {k n : Nat} (hk : k < n) : clR c k n = clR c (k + 1) 0 := by
  unfold clR
  simp [hk, cyc]
theorem clR_all (c : Nat → Nat) (n : Nat) : clR c n 0 = cyc c n := by simp [clR]

structure KRel (w : World) (n : Nat) (a : Nat → Nat) (c : Nat → Nat) (wr : World) : Prop where
  below : Below w.heap.size w wr
  arg : RelB wr w.heap.size n a
  res : RelB wr (w.heap.size + 1) 0 (fun _ => 0)
  own : RelB wr (w.heap.size + 2) n c
section
variable {w wr w' : World} {n : Nat} {a c d : Nat → Nat}
theorem KRel.then_ (h : KRel w n a c wr) (hb : Below wr.heap.size wr w') : KRel w n a c w' :=
  ⟨h.below.trans (hb.mono h.below.size), Lies.below h.arg hb h.arg.lt, Lies.below h.res hb h.res.lt, Lies.below h.own hb h.own.lt⟩
theorem KRel.set_ (h : KRel w n a c wr) {k : Nat} (hk : k < 12) (x : Nat) : KRel w n a (fun i => if i = k then x else c i) (wr.setCell ⟨w.heap.size + 2, 1 + k, none⟩ (.int .u16 x)) :=
  ⟨h.below.setCell (p := ⟨w.heap.size + 2, 1 + k, none⟩) (by show w.heap.size ≤ w.heap.size + 2; omega) _, Lies.far h.arg (by show w.heap.size ≠ w.heap.size + 2; omega) _, Lies.far h.res (by show w.heap.size + 1 ≠ w.heap.size + 2; omega) _, h.own.set' hk x⟩
theorem KRel.drew (h : KRel w n a c wr) : KRel w n a c wr.drew := ⟨h.below.drew, h.arg, h.res, h.own⟩
theorem KRel.congr (h : KRel w n a c wr) (e : ∀ i, i < 12 → c i = d i) : KRel w n a d wr := ⟨h.below, h.arg, h.res, h.own.congr e⟩
end

set_option maxHeartbeats 2000000 in
theorem closed_by (n : Nat) (a : Nat → Nat) (w : World) (h : Good n a) :
    Calls Tryd.prog 10 #[relV n a] w fun e w' => e = .returned (.tuple #[relV n (clo n a), .bool (cyc (clo n a) n)]) ∧ Below w.heap.size w w' := by
  have hle := h.le
  have HG := Lib.hid h
  clear h
  go_enter Tryd.func10, Tryd.ntmps10
  go_wp2_with fail
  have hO : KRel w n a (clAt (clo n a) 0 0) (((w.alloc (.cells (relCs n a) 25)).alloc (.cells (relCs 0 fun _ => 0) 25)).alloc (.cells (relCs n fun _ => 0) 25)) := by
    rw [clAt_none]
    have h1 := Lies.new (w.alloc (.cells (relCs n a) 25)) 25 (relCs 0 fun _ => 0)
    have h2 := Lies.new ((w.alloc (.cells (relCs n a) 25)).alloc (.cells (relCs 0 fun _ => 0) 25)) 25 (relCs n fun _ => 0)
    rw [World.size_alloc] at h1
    rw [World.size_alloc, World.size_alloc] at h2
    exact ⟨(((Below.refl _ _).alloc (Nat.le_refl _) _).alloc (by simp) _).alloc (by simp; omega) _, Lies.alloc (Lies.alloc (Lies.new _ _ _) _) _, Lies.alloc h1 _, h2⟩
  change Code.wp _ _ _ _ (((w.alloc (.cells (relCs n a) 25)).alloc (.cells (relCs 0 fun _ => 0) 25)).alloc (.cells (relCs n fun _ => 0) 25))
  generalize ((w.alloc (.cells (relCs n a) 25)).alloc (.cells (relCs 0 fun _ => 0) 25)).alloc (.cells (relCs n fun _ => 0) 25) = W at hO ⊢
  go_loopw [5, 13] (fun b i wr => ∃ k : Nat, k ≤ n ∧ i = .int .i64 k ∧ b = .bool (clR (clo n a) k 0) ∧ KRel w n a (clAt (clo n a) k 0) wr) (fun _ i _ => n - (intOf i).toNat)
  case atStart => exact ⟨0, by omega, rfl, rfl, hO⟩
  case round =>
    clear hO
    obtain ⟨k, hk, rfl, rfl, hO⟩ := hrel
    by_cases hkn : k < n
    · have hsz := hO.arg.size
      have HO := Lib.hid hO
      clear hO
      have i1 : (0 : Int) ≤ (k : Int) := by omega
      have i2 : (k : Int) < (n : Int) := by omega
      go_wp2_with fail
      have hO := HO.out
      clear HO hsz
      go_loopw [5, 18] (fun b i wr => ∃ j : Nat, j ≤ n ∧ i = .int .i64 j ∧ b = .bool (clR (clo n a) k j) ∧ KRel w n a (clAt (clo n a) k j) wr) (fun _ i _ => n - (intOf i).toNat)
      case atStart => exact ⟨0, by omega, rfl, rfl, hO⟩
      case round =>
        clear hO
        obtain ⟨j, hj, rfl, rfl, hO⟩ := hrel
        by_cases hjn : j < n
        · have hsz := hO.arg.size
          obtain ⟨c0, c1, c2, c3, c4, c5, c6, c7, c8, c9, c10, c11⟩ := hO.arg.rows
          have HO := Lib.hid hO
          clear hO
          have j1 : (0 : Int) ≤ (j : Int) := by omega
          have j2 : (j : Int) < (n : Int) := by omega
          go_wp2_with fail
          refine (reaches_any n k j a wr HG.out hkn).mono ?_
          rintro e w1 ⟨rfl, hb⟩
          have hO := HO.out.then_ hb
          clear HO hsz c0 c1 c2 c3 c4 c5 c6 c7 c8 c9 c10 c11 hb
          cases hbit : (clo n a k).testBit j with
          | false =>
            have HO := Lib.hid (And.intro hbit hO)
            clear hbit hO
            go_wp2_with fail
            go_roundw
            case rel => exact ⟨j + 1, by omega, by go_num, by rw [clR_no HO.out.1], by rw [clAt_no HO.out.1]; exact HO.out.2⟩
            case measure => simp [intOf]; omega
          | true =>
            have hk12 : k < 12 := by omega
            have k12 : (k : Int) < 12 := by omega
            have ck := hO.own.row' hk12
            have fk := hO.own.free (1 + k)
            have hlt := clAt_lt HG.out (k := k) (j := j) (by omega) k hk12
            have hst := clAt_yes hbit
            have hrr := clR_yes hbit
            have HO := Lib.hid hO
            clear hO hbit
            generalize hx : clAt (clo n a) k j k = x at ck hlt hst
            have ho := or_pow x j hlt (by omega)
            have hp := pow_u16 j (by omega)
            have HS := Lib.hid (And.intro hst hrr)
            clear hst hrr hx
            go_wp2_with fail
            go_region
            have h1 : KRel w n a (clAt (clo n a) k (j + 1)) (w1.setCell ⟨w.heap.size + 2, 1 + k, none⟩ (.int .u16 ((x ||| 2 ^ j : Nat) : Int))).drew := by
              rw [HS.out.1]
              exact (HO.out.set_ hk12 _).drew
            clear ck fk ho hp
            generalize (w1.setCell ⟨w.heap.size + 2, 1 + k, none⟩ (.int .u16 ((x ||| 2 ^ j : Nat) : Int))).drew = w5 at h1 ⊢
            have HX := Lib.hid h1
            clear h1
            cases hr : clR (clo n a) k j with
            | true =>
              have HRR := Lib.hid hr
              clear hr
              go_wp2_with fail
              go_roundw
              case rel => exact ⟨j + 1, by omega, by go_num, by rw [HS.out.2, HRR.out]; rfl, HX.out⟩
              case measure => simp [intOf]; omega
            | false =>
              have HRR := Lib.hid hr
              clear hr
              by_cases e : k = j
              · subst e
                go_wp2_with fail
                go_roundw
                case rel => exact ⟨k + 1, by omega, by go_num, by rw [HS.out.2, HRR.out]; simp, HX.out⟩
                case measure => simp [intOf]; omega
              · have hne : ((k : Int) == (j : Int)) = false := by rw [beq_eq_false_iff_ne]; omega
                have HE := Lib.hid e
                clear e
                go_wp2_with fail
                go_roundw
                case rel => exact ⟨j + 1, by omega, by go_num, by rw [HS.out.2, HRR.out]; simp [HE.out], HX.out⟩
                case measure => simp [intOf]; omega
        · obtain rfl : j = n := by omega
          rw [clAt_end HG.out hkn] at hO
          rw [clR_end _ hkn]
          go_wp2_with fail
          go_roundw
          case rel => exact ⟨k + 1, by omega, by go_num, rfl, hO⟩
          case measure => simp [intOf]; omega
    · obtain rfl : k = n := by omega
      rw [clR_all]
      have hO := hO.congr (d := clo k a) (fun i hi => clAt_all HG.out i hi)
      have hr := hO.res.size
      obtain ⟨r0, r1, r2, r3, r4, r5, r6, r7, r8, r9, r10, r11⟩ := hO.res.rows
      have hc := hO.own.size
      obtain ⟨c0, c1, c2, c3, c4, c5, c6, c7, c8, c9, c10, c11⟩ := hO.own.rows
      have hf := hO.res.free
      go_wp2_with fail
      clear hr r0 r1 r2 r3 r4 r5 r6 r7 r8 r9 r10 r11 hc c0 c1 c2 c3 c4 c5 c6 c7 c8 c9 c10 c11 hf
      refine post_fill (W := wr) (g := w.heap.size + 1) k (clo k a) hO.res hO.below (by omega) ?_
      intro wz hz hbz
      have hs := hz.size
      obtain ⟨c0, c1, c2, c3, c4, c5, c6, c7, c8, c9, c10, c11⟩ := hz.rows
      exact bodyPost_ret (v := .tuple #[relV k (clo k a), .bool (cyc (clo k a) k)])
        (by simp [results, Tryd.results10, go_sem, hs, c0, c1, c2, c3, c4, c5, c6, c7, c8, c9, c10, c11]) rfl ⟨rfl, hbz⟩
end Go.Proofs.YtcpmhflkooipdaaDoor
