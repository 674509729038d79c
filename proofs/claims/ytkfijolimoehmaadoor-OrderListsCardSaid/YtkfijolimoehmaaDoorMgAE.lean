/-
  Joined by a program out of: Reach, SpanPure, ClosedBy.
-/
import Derived.Test.YtkfijolimoehmaaDoorMgAD
import Derived.Test.YtkfijolimoehmaaDoorMgAC
import Derived.WalkKit

/-
  Contract of alibref.Reaches.
-/
namespace Go.Proofs.YtkfijolimoehmaaDoor
open Go.RowKit
set_option maxRecDepth 20000

theorem Srch.start {n i j : Nat} {a : Nat → Nat} (hi : i < n) : Srch n a i j (fun _ => false) [i] i n :=
  ⟨fun _ h => absurd h (by decide), fun x h => by
    have : x = i := by simpa using h
    exact ⟨by omega, .inl this⟩, ⟨hi, .inl rfl⟩, fun x h => by
    rcases h with rfl | h
    · exact .inl (by simp)
    · cases h⟩

/-- What the table of truths in block g says. -/
def seenW (w : World) (g x : Nat) : Bool := match w.cell? ⟨g, x, none⟩ with | some (.bool b) => b | _ => false
theorem unseen_congr {S T : Nat → Bool} : ∀ n, (∀ x, x < n → S x = T x) → unseen S n = unseen T n
  | 0, _ => rfl
  | n + 1, h => by
    unfold unseen
    rw [unseen_congr n (fun x hx => h x (by omega)), h n (by omega)]
theorem unseenW {w : World} {g n : Nat} {S : Nat → Bool} (h : BTab w g n S) : unseen (seenW w g) n = unseen S n :=
  unseen_congr n fun x hx => by
    unfold seenW
    rw [h.cell hx]
def lenV : Value → Nat
  | .slice _ l _ => l
  | _ => 0

structure RchR (w : World) (n : Nat) (a : Nat → Nat) (G : Nat) (S : Nat → Bool) (q : Value) (l : List Nat) (wr : World) : Prop where
  below : Below w.heap.size w wr
  rel : RelB wr w.heap.size n a
  seen : BTab wr G n S
  todo : QOwn wr (G + 1) q l
  fg : w.heap.size < G
section
variable {w wr w' : World} {n G : Nat} {a : Nat → Nat} {S : Nat → Bool} {q : Value} {l : List Nat}
theorem RchR.then_ (h : RchR w n a G S q l wr) (hb : Below wr.heap.size wr w') : RchR w n a G S q l w' :=
  ⟨h.below.trans (hb.mono h.below.size), Lies.below h.rel hb h.rel.lt, Lies.below h.seen hb h.seen.lt, h.todo.then_ hb, h.fg⟩
theorem RchR.see (h : RchR w n a G S q l wr) (m : Nat) : RchR w n a G (fun x => if x = m then true else S x) q l (wr.setCell ⟨G, m, none⟩ (.bool true)) :=
  ⟨h.below.setCell (p := ⟨G, m, none⟩) (Nat.le_of_lt h.fg) _, Lies.far h.rel (by have := h.fg; show w.heap.size ≠ G; omega) _, h.seen.set_ m true, h.todo.far (p := ⟨G, m, none⟩) (Nat.lt_succ_self G) _, h.fg⟩
theorem RchR.app (h : RchR w n a G S q l wr) {q' : Value} {l' : List Nat} (hb : Below (G + 1) wr w') (ho : QOwn w' (G + 1) q' l') : RchR w n a G S q' l' w' :=
  ⟨h.below.trans (hb.mono (by have := h.fg; omega)), Lies.below h.rel hb (by have := h.fg; omega), Lies.below h.seen hb (by omega), ho, h.fg⟩
end

set_option maxHeartbeats 2000000 in
theorem reaches_any (n i j : Nat) (a : Nat → Nat) (w : World) (h : Good n a) (hi : i < n) :
    Calls Tryd.prog 29 #[relV n a, .int .i64 i, .int .i64 j] w fun e w' => e = .returned (.bool ((clo n a i).testBit j)) ∧ Below w.heap.size w w' := by
  have hle := h.le
  have hmk := fun W : World => made_bools n (n : Int) rfl (by omega) W
  have HG := Lib.hid h
  clear h
  go_enter Tryd.func29, Tryd.ntmps29
  go_wp2_with fail
  have hR0 : RchR w n a (w.heap.size + 1) (fun _ => false) (.slice (some ⟨w.heap.size + 1 + 1, 0, none⟩) 1 1) [i]
      (((w.alloc (.cells (relCs n a) 25)).alloc (.cells (bitCs n fun _ => false) 4)).alloc (.cells #[.int .i64 (i : Int)] 3)) := by
    have hT := Lies.new (w.alloc (.cells (relCs n a) 25)) 4 (bitCs n fun _ => false)
    have hQ := QOwn.first (B := w.heap.size + 1 + 1) ((w.alloc (.cells (relCs n a) 25)).alloc (.cells (bitCs n fun _ => false) 4)) i (by simp)
    rw [World.size_alloc] at hT
    rw [World.size_alloc, World.size_alloc] at hQ
    exact ⟨(((Below.refl _ _).alloc (Nat.le_refl _) _).alloc (by simp) _).alloc (by simp; omega) _, Lies.alloc (Lies.alloc (Lies.new _ _ _) _) _, Lies.alloc hT _, hQ, by omega⟩
  generalize ((w.alloc (.cells (relCs n a) 25)).alloc (.cells (bitCs n fun _ => false) 4)).alloc (.cells #[.int .i64 (i : Int)] 3) = W at hR0 ⊢
  generalize hGG : w.heap.size + 1 = G at hR0 ⊢
  clear hmk
  go_loopw [8] (fun q wr => ∃ (S : Nat → Bool) (l : List Nat) (k : Nat), Srch n a i j S l k n ∧ l.length + unseen S n ≤ n + 1 ∧ RchR w n a G S q l wr) (fun q wr => lenV q + unseen (seenW wr G) n)
  case atStart => exact ⟨fun _ => false, [i], i, Srch.start hi, by have := unseen_le (fun _ => false) n; simp; omega, hR0⟩
  case round =>
    clear hR0
    obtain ⟨S, l, k0, hS, hM, hR⟩ := hrel
    have hms : unseen (seenW wr G) n = unseen S n := unseenW hR.seen
    cases l with
    | nil =>
      obtain ⟨g, o, cap, cs, rfl, _⟩ := hR.todo
      have hno := hS.no HG.out hi
      have HH := Lib.hid (And.intro hno hR.below)
      clear hno hR hS
      go_wp2_with fail
      go_ret
      exact ⟨ret_bool HH.out.1.symm, HH.out.2⟩
    | cons k l =>
      obtain ⟨g, o, cap, cs, hq, _⟩ := hR.todo
      obtain ⟨L, hL⟩ : ∃ L, L = (k :: l).length := ⟨_, rfl⟩
      rw [← hL] at hq
      subst hq
      have hL0 : (0 : Int) < (L : Int) := by rw [hL]; simp
      have hL1 : 0 < L := by omega
      obtain ⟨hc, hq⟩ := hR.todo.tail
      have htl := slice_tail g o L cap hL1
      have hk : k < n := (hS.todo k (by simp)).1
      have hP := hS.pop HG.out
      have hlL : l.length + 1 = L := by rw [hL]; simp
      have hsz := hR.rel.size
      have hR' : RchR w n a G S (.slice (some ⟨g, tailAt o cap, none⟩) (L - 1) (cap - 1)) l wr := ⟨hR.below, hR.rel, hR.seen, hq, hR.fg⟩
      have HR := Lib.hid (And.intro hR' (And.intro hP (And.intro hM hms)))
      clear hR hR' hq hP hS hM hL
      obtain ⟨M, hMM⟩ : ∃ M, M = l.length + unseen S n := ⟨_, rfl⟩
      have hMn : M + 1 ≤ n + 1 := by have := HR.out.2.2.1; simp at this; omega
      have hMW : M + 1 = L + unseen (seenW wr G) n := by rw [HR.out.2.2.2]; omega
      go_wp2_with fail
      have hR := HR.out.1
      have hS := HR.out.2.1
      generalize (Value.slice (some ⟨g, tailAt o cap, none⟩) (L - 1) (cap - 1)) = q0 at hR ⊢
      have hMW' : M + 1 = lenV (.slice (some ⟨g, o, none⟩) L cap) + unseen (seenW wr G) n := hMW
      clear HR hc htl hsz hMW hL0 hL1
      go_loopw [8, 26] (fun q t wr => ∃ (m : Nat) (S : Nat → Bool) (l : List Nat), m ≤ n ∧ t = .int .i64 m ∧ Srch n a i j S l k m ∧ l.length + unseen S n ≤ M ∧ RchR w n a G S q l wr) (fun _ t _ => n - (intOf t).toNat)
      case atStart => exact ⟨0, S, l, by omega, rfl, hS, by omega, hR⟩
      case round =>
        clear hR hS hMM hlL
        obtain ⟨m, S, l, hm, rfl, hS, hM, hR⟩ := hrel
        by_cases hmn : m < n
        · have hsz := hR.rel.size
          obtain ⟨c0, c1, c2, c3, c4, c5, c6, c7, c8, c9, c10, c11⟩ := hR.rel.rows
          have i1 : (0 : Int) ≤ (m : Int) := by omega
          have i2 : (m : Int) < (n : Int) := by omega
          have HR := Lib.hid (And.intro hR (And.intro hS hM))
          clear hR hS hM
          go_wp2_with fail
          refine (ahead_any n a k m wr (by omega) (by omega)).mono ?_
          rintro e w1 ⟨rfl, hb⟩
          have hR := HR.out.1.then_ hb
          have HR2 := Lib.hid (And.intro hR HR.out.2)
          clear hR HR hb hsz c0 c1 c2 c3 c4 c5 c6 c7 c8 c9 c10 c11
          cases hbit : (a k).testBit m with
          | false =>
            have HB := Lib.hid hbit
            clear hbit
            go_wp2_with fail
            go_roundw
            case rel => exact ⟨m + 1, S, l, by omega, by go_num, HR2.out.2.1.skip (.inl HB.out), HR2.out.2.2, HR2.out.1⟩
            case measure => simp [intOf]; omega
          | true =>
            have HB := Lib.hid hbit
            clear hbit
            by_cases hmj : m = j
            · subst hmj
              go_wp2_with fail
              go_ret
              exact ⟨ret_bool (HR2.out.2.1.step_in hi HB.out).symm, HR2.out.1.below⟩
            · have hne : ((m : Int) == (j : Int)) = false := by rw [beq_eq_false_iff_ne]; omega
              have hcS := HR2.out.1.seen.cell hmn
              have hfz : w1.frozen? ⟨G, m, none⟩ = false := Lies.frozen HR2.out.1.seen m
              have HJ := Lib.hid hmj
              clear hmj
              cases hSm : S m with
              | true =>
                rw [hSm] at hcS
                have HSM := Lib.hid hSm
                clear hSm
                go_wp2_with fail
                go_roundw
                case rel => exact ⟨m + 1, S, l, by omega, by go_num, HR2.out.2.1.skip (.inr HSM.out), HR2.out.2.2, HR2.out.1⟩
                case measure => simp [intOf]; omega
              | false =>
                rw [hSm] at hcS
                have hP := HR2.out.2.1.push hi hmn HB.out HJ.out
                have hu := unseen_push S m hSm n hmn
                have hR3 := HR2.out.1.see m
                have hll : l.length ≤ 65536 := by have := HR2.out.2.2; omega
                have hgl : G + 1 ≤ (w1.setCell ⟨G, m, none⟩ (.bool true)).heap.size := hR3.seen.lt
                have hsw : (w1.setCell ⟨G, m, none⟩ (.bool true)).heap.size = w1.heap.size := by simp
                have HQ := Lib.hid hR3.todo
                have HSM := Lib.hid (And.intro hP (And.intro hu hR3))
                clear hSm hP hu hR3
                go_wp2_with (at_builtin; refine app_q rfl (.tmp 44) (.tmp 46) rfl (G + 1) _ l rfl HQ.out m w1.heap.size hsw rfl hll hgl ?_; intro v' w5 ho5 hb5)
                go_roundw
                case rel => exact ⟨m + 1, _, _, by omega, by go_num, HSM.out.1, by have := HR2.out.2.2; have := HSM.out.2.1; rw [List.length_append, List.length_singleton]; omega, HSM.out.2.2.app hb5 ho5⟩
                case measure => simp [intOf]; omega
        · obtain rfl : m = n := by omega
          go_wp2_with fail
          go_roundw
          case rel => exact ⟨S, l, k, hS, by omega, hR⟩
          case measure =>
            obtain ⟨g', o', cap', cs', rfl, _⟩ := hR.todo
            rw [unseenW hR.seen, ← hMW']
            show l.length + unseen S m < M + 1
            omega
end Go.Proofs.YtkfijolimoehmaaDoor

/-
  Plain mathematics for package spans: m spans, from F i to T i. No Go, no program.
-/
namespace Go.Proofs.YtkfijolimoehmaaDoor
open Go.RowKit
set_option maxRecDepth 20000

def spOk (F T : Nat → Int) (i : Nat) : Bool := decide (0 ≤ F i ∧ F i ≤ T i ∧ T i ≤ 1000000)
def spAll (F T : Nat → Int) : Nat → Bool
  | 0 => true
  | k + 1 => spAll F T k && spOk F T k
/-- What Check answers. -/
def spErr (m : Nat) (F T : Nat → Int) : Int := if 12 < m then 2 else if spAll F T m = true then 0 else 3
theorem spAll_iff (F T : Nat → Int) : ∀ m, spAll F T m = true ↔ ∀ i, i < m → spOk F T i = true
  | 0 => by simp [spAll]
  | m + 1 => by
    rw [spAll, Bool.and_eq_true, spAll_iff F T m]
    constructor
    · rintro ⟨h1, h2⟩ i hi
      rcases Nat.lt_or_ge i m with h | h
      · exact h1 i h
      · obtain rfl : i = m := by omega
        exact h2
    · exact fun h => ⟨fun i hi => h i (by omega), h m (by omega)⟩
theorem spErr_zero {m : Nat} {F T : Nat → Int} : spErr m F T = 0 ↔ m ≤ 12 ∧ ∀ i, i < m → spOk F T i = true := by
  unfold spErr
  rw [← spAll_iff]
  split
  · constructor
    · intro h; omega
    · intro h; omega
  · split
    · exact ⟨fun _ => ⟨by omega, by assumption⟩, fun _ => rfl⟩
    · exact ⟨fun h => by omega, fun h => by simp_all⟩
theorem spErr_ways (m : Nat) (F T : Nat → Int) : spErr m F T = 0 ∨ (spErr m F T != 0) = true := by
  unfold spErr
  repeat' split
  all_goals simp

/-- The set of the items below m of which p holds. -/
def pickS (p : Nat → Bool) : Nat → Nat
  | 0 => 0
  | m + 1 => if p m = true then pickS p m ||| 2 ^ m else pickS p m
theorem pickS_bit (p : Nat → Bool) (i : Nat) : ∀ m, (pickS p m).testBit i = (decide (i < m) && p i)
  | 0 => by simp [pickS]
  | m + 1 => by
    rw [pickS]
    have ih := pickS_bit p i m
    by_cases e : m = i
    · subst e
      cases hp : p m
      · simp [ih, hp]
      · simp
    · have : decide (i < m + 1) = decide (i < m) := by simp; omega
      rw [this, ← ih]
      split
      · rw [Nat.testBit_or, Nat.testBit_two_pow]; simp [e]
      · rfl
theorem pickS_lt (p : Nat → Bool) : ∀ m, pickS p m < 2 ^ m
  | 0 => by simp [pickS]
  | m + 1 => by
    have ih := pickS_lt p m
    rw [pickS]
    split
    · exact Nat.or_lt_two_pow (Nat.lt_trans ih (Nat.pow_lt_pow_right (by omega) (by omega))) (Nat.pow_lt_pow_right (by omega) (by omega))
    · exact Nat.lt_trans ih (Nat.pow_lt_pow_right (by omega) (by omega))
theorem pickS_lt16 (p : Nat → Bool) {m : Nat} (hm : m ≤ 12) : pickS p m < 65536 :=
  Nat.lt_of_lt_of_le (pickS_lt p m) (Nat.le_trans (Nat.pow_le_pow_right (by omega) hm) (by decide))
theorem pickS_congr {p q : Nat → Bool} : ∀ {m : Nat}, (∀ i, i < m → p i = q i) → pickS p m = pickS q m
  | 0, _ => rfl
  | m + 1, h => by rw [pickS, pickS, pickS_congr (fun i hi => h i (by omega)), h m (by omega)]

/-- Whom span i precedes. -/
def spRow (m : Nat) (F T : Nat → Int) (i : Nat) : Nat := pickS (fun j => decide (T i < F j)) m
def spRel (m : Nat) (F T : Nat → Int) (i : Nat) : Nat := if i < m then spRow m F T i else 0
theorem spRel_lt (m : Nat) (F T : Nat → Int) (hm : m ≤ 12) (i : Nat) : spRel m F T i < 65536 := by
  unfold spRel
  split
  · exact pickS_lt16 _ hm
  · decide
theorem spRel_bit (m : Nat) (F T : Nat → Int) (i j : Nat) : (spRel m F T i).testBit j = (decide (i < m) && decide (j < m) && decide (T i < F j)) := by
  unfold spRel spRow
  split
  · rename_i h
    rw [pickS_bit]; simp [h]
  · rename_i h
    simp [h]

/-- How many of the first k spans hold the time t. -/
def cntAt (F T : Nat → Int) (t : Int) : Nat → Nat
  | 0 => 0
  | k + 1 => cntAt F T t k + if F k ≤ t ∧ t ≤ T k then 1 else 0
theorem cntAt_le (F T : Nat → Int) (t : Int) : ∀ k, cntAt F T t k ≤ k
  | 0 => Nat.le_refl _
  | k + 1 => by
    have := cntAt_le F T t k
    rw [cntAt]
    split <;> omega
/-- The best time, and how many hold it, behind k rounds. -/
def bestUp (m : Nat) (F T : Nat → Int) : Nat → Int × Nat
  | 0 => (0, 0)
  | k + 1 => if (bestUp m F T k).2 < cntAt F T (F k) m ∨ (cntAt F T (F k) m = (bestUp m F T k).2 ∧ F k < (bestUp m F T k).1) then (F k, cntAt F T (F k) m) else bestUp m F T k
theorem bestUp_le (m : Nat) (F T : Nat → Int) : ∀ k, (bestUp m F T k).2 ≤ m
  | 0 => Nat.zero_le _
  | k + 1 => by
    rw [bestUp]
    split
    · exact cntAt_le _ _ _ _
    · exact bestUp_le m F T k
end Go.Proofs.YtkfijolimoehmaaDoor

/-
  Contract of alibref.Closed: the closure, and whether it comes round.
-/
namespace Go.Proofs.YtkfijolimoehmaaDoor
open Go.RowKit
set_option maxRecDepth 20000

/-- The closure as far as it was searched: k whole rows, and the first j of row k. -/
def clAt (c : Nat → Nat) (k j : Nat) : Nat → Nat := fun i => if i < k then c i else if i = k then pickS (fun x => (c k).testBit x) j else 0
def clR (c : Nat → Nat) (k j : Nat) : Bool := cyc c k || (decide (k < j) && (c k).testBit k)
theorem clAt_none (c : Nat → Nat) : clAt c 0 0 = fun _ => 0 := by
  funext i
  unfold clAt
  rw [if_neg (by omega)]
  split <;> rfl
theorem clAt_end {n : Nat} {a : Nat → Nat} (h : Good n a) {k : Nat} (hk : k < n) : clAt (clo n a) k n = clAt (clo n a) (k + 1) 0 := by
  funext i
  unfold clAt
  by_cases h1 : i < k
  · rw [if_pos h1, if_pos (by omega)]
  rw [if_neg h1]
  by_cases h2 : i = k
  · subst h2
    rw [if_pos rfl, if_pos (by omega)]
    apply Nat.eq_of_testBit_eq
    intro x
    rw [pickS_bit]
    cases hx : (clo n a i).testBit x with
    | false => simp
    | true => simp [h.clo_in hk hx]
  · rw [if_neg h2, if_neg (by omega)]
    by_cases h3 : i = k + 1
    · rw [if_pos h3]; rfl
    · rw [if_neg h3]
theorem clAt_all {n : Nat} {a : Nat → Nat} (h : Good n a) (i : Nat) (hi : i < 12) : clAt (clo n a) n 0 i = clo n a i := by
  unfold clAt
  by_cases h1 : i < n
  · rw [if_pos h1]
  · rw [if_neg h1, h.clo_out hi (by omega)]
    split <;> rfl
theorem clAt_lt {n : Nat} {a : Nat → Nat} (h : Good n a) {k j : Nat} (hj : j ≤ 12) (i : Nat) (hi : i < 12) : clAt (clo n a) k j i < 65536 := by
  unfold clAt
  split
  · exact h.clo.lt i hi
  split
  · exact pickS_lt16 _ hj
  · decide
theorem clAt_yes {c : Nat → Nat} {k j : Nat} (h : (c k).testBit j = true) : clAt c k (j + 1) = fun i => if i = k then clAt c k j k ||| 2 ^ j else clAt c k j i := by
  funext i
  unfold clAt
  by_cases h1 : i = k
  · subst h1
    simp [pickS, h]
  · simp [h1]
theorem clAt_no {c : Nat → Nat} {k j : Nat} (h : (c k).testBit j = false) : clAt c k (j + 1) = clAt c k j := by
  funext i
  unfold clAt
  simp [pickS, h]
theorem clR_yes {c : Nat → Nat} {k j : Nat} (h : (c k).testBit j = true) : clR c k (j + 1) = (clR c k j || decide (k = j)) := by
  unfold clR
  by_cases e : k = j
  · subst e; simp [h]
  · have : decide (k < j + 1) = decide (k < j) := by
      by_cases h' : k < j
      · simp [h']; omega
      · simp [h']; omega
    rw [this]; simp [e]
theorem clR_no {c : Nat → Nat} {k j : Nat} (h : (c k).testBit j = false) : clR c k (j + 1) = clR c k j := by
  unfold clR
  by_cases e : k = j
  · subst e; simp [h]
  · have : decide (k < j + 1) = decide (k < j) := by
      by_cases h' : k < j
      · simp [h']; omega
      · simp [h']; omega
    rw [this]
theorem clR_end (c : Nat → Nat) {k n : Nat} (hk : k < n) : clR c k n = clR c (k + 1) 0 := by
  unfold clR
  simp [hk, cyc]
theorem clR_all (c : Nat → Nat) (n : Nat) : clR c n 0 = cyc c n := by simp [clR]

structure CbR (w : World) (n : Nat) (a : Nat → Nat) (c : Nat → Nat) (wr : World) : Prop where
  below : Below w.heap.size w wr
  arg : RelB wr w.heap.size n a
  res : RelB wr (w.heap.size + 1) 0 (fun _ => 0)
  own : RelB wr (w.heap.size + 2) n c
section
variable {w wr w' : World} {n : Nat} {a c d : Nat → Nat}
theorem CbR.then_ (h : CbR w n a c wr) (hb : Below wr.heap.size wr w') : CbR w n a c w' :=
  ⟨h.below.trans (hb.mono h.below.size), Lies.below h.arg hb h.arg.lt, Lies.below h.res hb h.res.lt, Lies.below h.own hb h.own.lt⟩
theorem CbR.set_ (h : CbR w n a c wr) {k : Nat} (hk : k < 12) (x : Nat) : CbR w n a (fun i => if i = k then x else c i) (wr.setCell ⟨w.heap.size + 2, 1 + k, none⟩ (.int .u16 x)) :=
  ⟨h.below.setCell (p := ⟨w.heap.size + 2, 1 + k, none⟩) (by show w.heap.size ≤ w.heap.size + 2; omega) _, Lies.far h.arg (by show w.heap.size ≠ w.heap.size + 2; omega) _, Lies.far h.res (by show w.heap.size + 1 ≠ w.heap.size + 2; omega) _, h.own.set' hk x⟩
theorem CbR.drew (h : CbR w n a c wr) : CbR w n a c wr.drew := ⟨h.below.drew, h.arg, h.res, h.own⟩
theorem CbR.congr (h : CbR w n a c wr) (e : ∀ i, i < 12 → c i = d i) : CbR w n a d wr := ⟨h.below, h.arg, h.res, h.own.congr e⟩
end

set_option maxHeartbeats 2000000 in
theorem closed_by (n : Nat) (a : Nat → Nat) (w : World) (h : Good n a) :
    Calls Tryd.prog 10 #[relV n a] w fun e w' => e = .returned (.tuple #[relV n (clo n a), .bool (cyc (clo n a) n)]) ∧ Below w.heap.size w w' := by
  have hle := h.le
  have HG := Lib.hid h
  clear h
  go_enter Tryd.func10, Tryd.ntmps10
  go_wp2_with fail
  have hO : CbR w n a (clAt (clo n a) 0 0) (((w.alloc (.cells (relCs n a) 25)).alloc (.cells (relCs 0 fun _ => 0) 25)).alloc (.cells (relCs n fun _ => 0) 25)) := by
    rw [clAt_none]
    have h1 := Lies.new (w.alloc (.cells (relCs n a) 25)) 25 (relCs 0 fun _ => 0)
    have h2 := Lies.new ((w.alloc (.cells (relCs n a) 25)).alloc (.cells (relCs 0 fun _ => 0) 25)) 25 (relCs n fun _ => 0)
    rw [World.size_alloc] at h1
    rw [World.size_alloc, World.size_alloc] at h2
    exact ⟨(((Below.refl _ _).alloc (Nat.le_refl _) _).alloc (by simp) _).alloc (by simp; omega) _, Lies.alloc (Lies.alloc (Lies.new _ _ _) _) _, Lies.alloc h1 _, h2⟩
  change Code.wp _ _ _ _ (((w.alloc (.cells (relCs n a) 25)).alloc (.cells (relCs 0 fun _ => 0) 25)).alloc (.cells (relCs n fun _ => 0) 25))
  generalize ((w.alloc (.cells (relCs n a) 25)).alloc (.cells (relCs 0 fun _ => 0) 25)).alloc (.cells (relCs n fun _ => 0) 25) = W at hO ⊢
  go_loopw [5, 13] (fun b i wr => ∃ k : Nat, k ≤ n ∧ i = .int .i64 k ∧ b = .bool (clR (clo n a) k 0) ∧ CbR w n a (clAt (clo n a) k 0) wr) (fun _ i _ => n - (intOf i).toNat)
  case atStart => exact ⟨0, by omega, rfl, rfl, hO⟩
  case round =>
    clear hO
    obtain ⟨k, hk, rfl, rfl, hO⟩ := hrel
    by_cases hkn : k < n
    · have hsz := hO.arg.size
      have HO := Lib.hid hO
      clear hO
      have i1 : (0 : Int) ≤ (k : Int) := by omega
      have i2 : (k : Int) < (n : Int) := by omega
      go_wp2_with fail
      have hO := HO.out
      clear HO hsz
      go_loopw [5, 18] (fun b i wr => ∃ j : Nat, j ≤ n ∧ i = .int .i64 j ∧ b = .bool (clR (clo n a) k j) ∧ CbR w n a (clAt (clo n a) k j) wr) (fun _ i _ => n - (intOf i).toNat)
      case atStart => exact ⟨0, by omega, rfl, rfl, hO⟩
      case round =>
        clear hO
        obtain ⟨j, hj, rfl, rfl, hO⟩ := hrel
        by_cases hjn : j < n
        · have hsz := hO.arg.size
          obtain ⟨c0, c1, c2, c3, c4, c5, c6, c7, c8, c9, c10, c11⟩ := hO.arg.rows
          have HO := Lib.hid hO
          clear hO
          have j1 : (0 : Int) ≤ (j : Int) := by omega
          have j2 : (j : Int) < (n : Int) := by omega
          go_wp2_with fail
          refine (reaches_any n k j a wr HG.out hkn).mono ?_
          rintro e w1 ⟨rfl, hb⟩
          have hO := HO.out.then_ hb
          clear HO hsz c0 c1 c2 c3 c4 c5 c6 c7 c8 c9 c10 c11 hb
          cases hbit : (clo n a k).testBit j with
          | false =>
            have HO := Lib.hid (And.intro hbit hO)
            clear hbit hO
            go_wp2_with fail
            go_roundw
            case rel => exact ⟨j + 1, by omega, by go_num, by rw [clR_no HO.out.1], by rw [clAt_no HO.out.1]; exact HO.out.2⟩
            case measure => simp [intOf]; omega
          | true =>
            have hk12 : k < 12 := by omega
            have k12 : (k : Int) < 12 := by omega
            have ck := hO.own.row' hk12
            have fk := hO.own.free (1 + k)
            have hlt := clAt_lt HG.out (k := k) (j := j) (by omega) k hk12
            have hst := clAt_yes hbit
            have hrr := clR_yes hbit
            have HO := Lib.hid hO
            clear hO hbit
            generalize hx : clAt (clo n a) k j k = x at ck hlt hst
            have ho := or_pow x j hlt (by omega)
            have hp := pow_u16 j (by omega)
            have HS := Lib.hid (And.intro hst hrr)
            clear hst hrr hx
            go_wp2_with fail
            go_region
            have h1 : CbR w n a (clAt (clo n a) k (j + 1)) (w1.setCell ⟨w.heap.size + 2, 1 + k, none⟩ (.int .u16 ((x ||| 2 ^ j : Nat) : Int))).drew := by
              rw [HS.out.1]
              exact (HO.out.set_ hk12 _).drew
            clear ck fk ho hp
            generalize (w1.setCell ⟨w.heap.size + 2, 1 + k, none⟩ (.int .u16 ((x ||| 2 ^ j : Nat) : Int))).drew = w5 at h1 ⊢
            have HX := Lib.hid h1
            clear h1
            cases hr : clR (clo n a) k j with
            | true =>
              have HRR := Lib.hid hr
              clear hr
              go_wp2_with fail
              go_roundw
              case rel => exact ⟨j + 1, by omega, by go_num, by rw [HS.out.2, HRR.out]; rfl, HX.out⟩
              case measure => simp [intOf]; omega
            | false =>
              have HRR := Lib.hid hr
              clear hr
              by_cases e : k = j
              · subst e
                go_wp2_with fail
                go_roundw
                case rel => exact ⟨k + 1, by omega, by go_num, by rw [HS.out.2, HRR.out]; simp, HX.out⟩
                case measure => simp [intOf]; omega
              · have hne : ((k : Int) == (j : Int)) = false := by rw [beq_eq_false_iff_ne]; omega
                have HE := Lib.hid e
                clear e
                go_wp2_with fail
                go_roundw
                case rel => exact ⟨j + 1, by omega, by go_num, by rw [HS.out.2, HRR.out]; simp [HE.out], HX.out⟩
                case measure => simp [intOf]; omega
        · obtain rfl : j = n := by omega
          rw [clAt_end HG.out hkn] at hO
          rw [clR_end _ hkn]
          go_wp2_with fail
          go_roundw
          case rel => exact ⟨k + 1, by omega, by go_num, rfl, hO⟩
          case measure => simp [intOf]; omega
    · obtain rfl : k = n := by omega
      rw [clR_all]
      have hO := hO.congr (d := clo k a) (fun i hi => clAt_all HG.out i hi)
      have hr := hO.res.size
      obtain ⟨r0, r1, r2, r3, r4, r5, r6, r7, r8, r9, r10, r11⟩ := hO.res.rows
      have hc := hO.own.size
      obtain ⟨c0, c1, c2, c3, c4, c5, c6, c7, c8, c9, c10, c11⟩ := hO.own.rows
      have hf := hO.res.free
      go_wp2_with fail
      clear hr r0 r1 r2 r3 r4 r5 r6 r7 r8 r9 r10 r11 hc c0 c1 c2 c3 c4 c5 c6 c7 c8 c9 c10 c11 hf
      refine post_fill (W := wr) (g := w.heap.size + 1) k (clo k a) hO.res hO.below (by omega) ?_
      intro wz hz hbz
      have hs := hz.size
      obtain ⟨c0, c1, c2, c3, c4, c5, c6, c7, c8, c9, c10, c11⟩ := hz.rows
      exact bodyPost_ret (v := .tuple #[relV k (clo k a), .bool (cyc (clo k a) k)])
        (by simp [results, Tryd.results10, go_sem, hs, c0, c1, c2, c3, c4, c5, c6, c7, c8, c9, c10, c11]) rfl ⟨rfl, hbz⟩
end Go.Proofs.YtkfijolimoehmaaDoor
