/-
  Joined by a program out of: ListE, CountPure, PlaceOrd, DilPlace.
-/
import Derived.Test.YtkfijolimoehmaaDoorMgAD
import Derived.Test.YtkfijolimoehmaaDoorMgAE
import Derived.Test.YtkfijolimoehmaaDoorMgAA
import Derived.Test.YtkfijolimoehmaaDoorMgAC

/-
  aliblaw.OrderLists where Check finds a fault, and where something is round.
-/
namespace Go.Proofs.YtkfijolimoehmaaDoor
open Go.RowKit
set_option maxRecDepth 20000

/-- The relation lies as it was laid; old memory is as it was. -/
structure LsO (w0 : World) (n : Int) (a : Nat → Nat) (w : World) : Prop where
  below : Below w0.heap.size w0 w
  one : RelB w w0.heap.size n a
theorem LsO.start (w0 : World) (n : Int) (a : Nat → Nat) : LsO w0 n a (w0.alloc (.cells (relCs n a) 25)) := ⟨(Below.refl _ _).alloc (Nat.le_refl _) _, Lies.new _ _ _⟩
theorem LsO.next {w0 w w' : World} {n : Int} {a : Nat → Nat} (h : LsO w0 n a w) (hb : Below w.heap.size w w') : LsO w0 n a w' := ⟨h.below.trans (hb.mono h.below.size), Lies.below h.one hb h.one.lt⟩
set_option maxHeartbeats 4000000 in
theorem lists_err (n : Int) (a : Nat → Nat) (E : Int) (w : World) (hE : (E != 0) = true) (hc : Checks n a E) (hr : Rights n a E) :
    Calls Tryd.prog 4 #[relV n a] w fun e w' => e = .returned (.bool true) ∧ Below w.heap.size w w' := by
  have hF : Fails n a E := fails_check hE hc
  have HF := Lib.hid hF
  have HC := Lib.hid hr
  have hE' : (E == 0) = false := by
    cases h : (E == 0)
    · rfl
    · rw [eq_of_beq h] at hE; cases hE
  clear hF hc hr
  go_enter Tryd.func4, Tryd.ntmps4
  have H := Lib.hid (LsO.start w n a)
  go_wp2_with fail
  refine (chain_err n a E _ hE HF.out).mono ?_
  rintro e w1 ⟨rfl, hb1⟩
  have h1 := H.out.next hb1
  have c0 := h1.one.size
  obtain ⟨c1, c2, c3, c4, c5, c6, c7, c8, c9, c10, c11, c12⟩ := h1.one.rows
  have H1 := Lib.hid h1
  clear hb1 h1
  clear H
  go_wp2_with fail
  clear c0 c1 c2 c3 c4 c5 c6 c7 c8 c9 c10 c11 c12
  refine (apart_err n a E _ hE HF.out).mono ?_
  rintro e w2 ⟨rfl, hb2⟩
  have h2 := H1.out.next hb2
  have c0 := h2.one.size
  obtain ⟨c1, c2, c3, c4, c5, c6, c7, c8, c9, c10, c11, c12⟩ := h2.one.rows
  have H2 := Lib.hid h2
  clear hb2 h2
  clear H1
  go_wp2_with fail
  clear c0 c1 c2 c3 c4 c5 c6 c7 c8 c9 c10 c11 c12
  refine (ranks_err n a E _ hE HF.out).mono ?_
  rintro e w3 ⟨rfl, hb3⟩
  have h3 := H2.out.next hb3
  have c0 := h3.one.size
  obtain ⟨c1, c2, c3, c4, c5, c6, c7, c8, c9, c10, c11, c12⟩ := h3.one.rows
  have H3 := Lib.hid h3
  clear hb3 h3
  clear H2
  go_wp2_with fail
  clear c0 c1 c2 c3 c4 c5 c6 c7 c8 c9 c10 c11 c12
  refine (chains_err n a E _ hE HF.out).mono ?_
  rintro e w4 ⟨rfl, hb4⟩
  have h4 := H3.out.next hb4
  have c0 := h4.one.size
  obtain ⟨c1, c2, c3, c4, c5, c6, c7, c8, c9, c10, c11, c12⟩ := h4.one.rows
  have H4 := Lib.hid h4
  clear hb4 h4
  clear H3
  go_wp2_with fail
  clear c0 c1 c2 c3 c4 c5 c6 c7 c8 c9 c10 c11 c12
  refine (HC.out _).mono ?_
  rintro e w5 ⟨rfl, hb5⟩
  have h5 := H4.out.next hb5
  have c0 := h5.one.size
  obtain ⟨c1, c2, c3, c4, c5, c6, c7, c8, c9, c10, c11, c12⟩ := h5.one.rows
  have H5 := Lib.hid h5
  clear hb5 h5
  clear H4
  go_wp2_with fail
  go_ret
  exact ⟨rfl, H5.out.below.alloc H5.out.below.size _⟩

set_option maxHeartbeats 4000000 in
theorem lists_round (n : Nat) (a : Nat → Nat) (w : World) (h : Good n a) (hy : cyc (clo n a) n = true) (hr : Rights n a 0) :
    Calls Tryd.prog 4 #[relV n a] w fun e w' => e = .returned (.bool true) ∧ Below w.heap.size w w' := by
  have hF : Fails n a 4 := fails_round h hy
  have hE : ((4 : Int) != 0) = true := rfl
  have hcl := fun w => closed_by n a w h
  rw [hy] at hcl
  generalize clo n a = c at hcl
  have HF := Lib.hid hF
  have HC := Lib.hid hr
  have HD := Lib.hid hcl
  clear hF hr hcl hy h
  go_enter Tryd.func4, Tryd.ntmps4
  have H := Lib.hid (LsO.start w n a)
  go_wp2_with fail
  refine (chain_err n a 4 _ hE HF.out).mono ?_
  rintro e w1 ⟨rfl, hb1⟩
  have h1 := H.out.next hb1
  have c0 := h1.one.size
  obtain ⟨c1, c2, c3, c4, c5, c6, c7, c8, c9, c10, c11, c12⟩ := h1.one.rows
  have H1 := Lib.hid h1
  clear hb1 h1
  clear H
  go_wp2_with fail
  clear c0 c1 c2 c3 c4 c5 c6 c7 c8 c9 c10 c11 c12
  refine (apart_err n a 4 _ hE HF.out).mono ?_
  rintro e w2 ⟨rfl, hb2⟩
  have h2 := H1.out.next hb2
  have c0 := h2.one.size
  obtain ⟨c1, c2, c3, c4, c5, c6, c7, c8, c9, c10, c11, c12⟩ := h2.one.rows
  have H2 := Lib.hid h2
  clear hb2 h2
  clear H1
  go_wp2_with fail
  clear c0 c1 c2 c3 c4 c5 c6 c7 c8 c9 c10 c11 c12
  refine (ranks_err n a 4 _ hE HF.out).mono ?_
  rintro e w3 ⟨rfl, hb3⟩
  have h3 := H2.out.next hb3
  have c0 := h3.one.size
  obtain ⟨c1, c2, c3, c4, c5, c6, c7, c8, c9, c10, c11, c12⟩ := h3.one.rows
  have H3 := Lib.hid h3
  clear hb3 h3
  clear H2
  go_wp2_with fail
  clear c0 c1 c2 c3 c4 c5 c6 c7 c8 c9 c10 c11 c12
  refine (chains_err n a 4 _ hE HF.out).mono ?_
  rintro e w4 ⟨rfl, hb4⟩
  have h4 := H3.out.next hb4
  have c0 := h4.one.size
  obtain ⟨c1, c2, c3, c4, c5, c6, c7, c8, c9, c10, c11, c12⟩ := h4.one.rows
  have H4 := Lib.hid h4
  clear hb4 h4
  clear H3
  go_wp2_with fail
  clear c0 c1 c2 c3 c4 c5 c6 c7 c8 c9 c10 c11 c12
  refine (HC.out _).mono ?_
  rintro e w5 ⟨rfl, hb5⟩
  have h5 := H4.out.next hb5
  have c0 := h5.one.size
  obtain ⟨c1, c2, c3, c4, c5, c6, c7, c8, c9, c10, c11, c12⟩ := h5.one.rows
  have H5 := Lib.hid h5
  clear hb5 h5
  clear H4
  have c0 := fun o => (show RelB (w5.alloc o) w.heap.size n a from Lies.alloc H5.out.one o).size
  have cs := fun o => (show RelB (w5.alloc o) w.heap.size n a from Lies.alloc H5.out.one o).rows
  have c1 := fun o => (cs o).1
  have c2 := fun o => (cs o).2.1
  have c3 := fun o => (cs o).2.2.1
  have c4 := fun o => (cs o).2.2.2.1
  have c5 := fun o => (cs o).2.2.2.2.1
  have c6 := fun o => (cs o).2.2.2.2.2.1
  have c7 := fun o => (cs o).2.2.2.2.2.2.1
  have c8 := fun o => (cs o).2.2.2.2.2.2.2.1
  have c9 := fun o => (cs o).2.2.2.2.2.2.2.2.1
  have c10 := fun o => (cs o).2.2.2.2.2.2.2.2.2.1
  have c11 := fun o => (cs o).2.2.2.2.2.2.2.2.2.2.1
  have c12 := fun o => (cs o).2.2.2.2.2.2.2.2.2.2.2
  clear cs
  go_wp2_with fail
  clear c0 c1 c2 c3 c4 c5 c6 c7 c8 c9 c10 c11 c12
  refine (HD.out _).mono ?_
  rintro e w6 ⟨rfl, hb6⟩
  have hB0 : RelB w6 w5.heap.size 0 (fun _ => 0) := Lies.below (Lies.cast (Lies.new w5 25 (relCs 0 fun _ => 0)) rfl) hb6 (by simp)
  have hw6 : Below w.heap.size w w6 := (H5.out.below.alloc H5.out.below.size _).trans (hb6.mono (by have := H5.out.below.size; simp; omega))
  have hle : w.heap.size ≤ w5.heap.size := H5.out.below.size
  have hs := hB0.size
  obtain ⟨c0, c1, c2, c3, c4, c5, c6, c7, c8, c9, c10, c11⟩ := hB0.rows
  have hf := hB0.free
  have HB := Lib.hid hw6
  clear hb6 hw6 H5
  go_wp2_with fail
  clear hs c0 c1 c2 c3 c4 c5 c6 c7 c8 c9 c10 c11 hf
  go_ret
  exact ⟨rfl, fillW_below HB.out (g := w5.heap.size) hle n c⟩
end Go.Proofs.YtkfijolimoehmaaDoor

/-
  Plain: the table that Count fills.
-/
namespace Go.Proofs.YtkfijolimoehmaaDoor
open Go.RowKit
set_option maxRecDepth 20000

def upd (f : Nat → Int) (i : Nat) (x : Int) : Nat → Int := fun j => if j = i then x else f j
/-- What set d hands on to the sets that have one item more, over the items below m. -/
def pushed (next d : Nat) (f : Nat → Int) : Nat → Nat → Int
  | 0 => f
  | m + 1 => if next.testBit m = true then upd (pushed next d f m) (d ||| 2 ^ m) (wrap64 (pushed next d f m (d ||| 2 ^ m) + pushed next d f m d)) else pushed next d f m
/-- The table behind the first k sets. -/
def ctab (b : Nat → Nat) (n : Nat) : Nat → Nat → Int
  | 0 => fun s => if s = 0 then 1 else 0
  | k + 1 => pushed (rdyUp b k n) k (ctab b n k) n
theorem or_pow_lt {d m n : Nat} (hd : d < 2 ^ n) (hm : m < n) : d ||| 2 ^ m < 2 ^ n := Nat.or_lt_two_pow hd (Nat.pow_lt_pow_right (by omega) hm)
end Go.Proofs.YtkfijolimoehmaaDoor

/-
  Plain: how place goes through the chains.
-/
namespace Go.Proofs.YtkfijolimoehmaaDoor
open Go.RowKit
set_option maxRecDepth 20000

def updN (f : Nat → Nat) (i : Nat) (x : Nat) : Nat → Nat := fun j => if j = i then x else f j
/-- What an attempt comes to: whether it is possible, the chains, the numbers. -/
structure PRes where
  ok : Bool
  ch : Nat → Nat
  nu : Nat → Int
def tryK (go : (Nat → Nat) → (Nat → Int) → PRes) (rel : Nat → Nat) (item : Nat) : Nat → Nat → (Nat → Nat) → (Nat → Int) → PRes
  | 0, _, ch, nu => ⟨false, ch, nu⟩
  | m + 1, k, ch, nu =>
    if ch k &&& (65535 - rel item) = 0 then
      if (go (updN ch k (ch k ||| 2 ^ item)) (upd nu item k)).ok = true then ⟨true, (go (updN ch k (ch k ||| 2 ^ item)) (upd nu item k)).ch, (go (updN ch k (ch k ||| 2 ^ item)) (upd nu item k)).nu⟩
      else if ch k = 0 then ⟨false, updN (go (updN ch k (ch k ||| 2 ^ item)) (upd nu item k)).ch k (ch k), (go (updN ch k (ch k ||| 2 ^ item)) (upd nu item k)).nu⟩
      else tryK go rel item m (k + 1) (updN (go (updN ch k (ch k ||| 2 ^ item)) (upd nu item k)).ch k (ch k)) (go (updN ch k (ch k ||| 2 ^ item)) (upd nu item k)).nu
    else tryK go rel item m (k + 1) ch nu
/-- place, with f items still to come; K chains, n items. -/
def placeM (rel : Nat → Nat) (K n : Nat) : Nat → (Nat → Nat) → (Nat → Int) → PRes
  | 0, ch, nu => ⟨true, ch, nu⟩
  | f + 1, ch, nu => tryK (placeM rel K n f) rel (n - (f + 1)) K 0 ch nu
end Go.Proofs.YtkfijolimoehmaaDoor

/-
  Plain: place finds a partition into chains wherever there is one, also with its cut at an empty chain; what it finds is one.
-/
namespace Go.Proofs.YtkfijolimoehmaaDoor
open Go.RowKit
set_option maxRecDepth 20000

/-- The first t items lie in their chains. -/
structure PInv (rel : Nat → Nat) (K t : Nat) (ch : Nat → Nat) (nu : Nat → Int) : Prop where
  place : ∀ i, i < t → ∃ k, k < K ∧ nu i = (k : Int) ∧ (ch k).testBit i = true
  bits : ∀ k i, (ch k).testBit i = true → i < t ∧ k < K ∧ nu i = (k : Int)
  pref : ∀ k, k < K → ch k = 0 → ∀ k', k < k' → k' < K → ch k' = 0
  good : ∀ i j, i < t → j < t → i ≠ j → nu i = nu j → (rel i).testBit j = true
  lt : ∀ k, ch k < 65536
/-- All n items can be laid into K chains, the first t as they lie. -/
def Ext (rel : Nat → Nat) (K n t : Nat) (ch : Nat → Nat) (g : Nat → Nat) : Prop :=
  (∀ i, i < n → g i < K) ∧ (∀ i j, i < n → j < n → i ≠ j → g i = g j → (rel i).testBit j = true) ∧ ∀ i, i < t → (ch (g i)).testBit i = true

theorem PInv.nu {rel : Nat → Nat} {K t : Nat} {ch : Nat → Nat} {nu nu' : Nat → Int} (h : PInv rel K t ch nu) (e : ∀ i, i < t → nu' i = nu i) : PInv rel K t ch nu' :=
  ⟨fun i hi => by rw [e i hi]; exact h.place i hi, fun k i hb => by
    have h1 := h.bits k i hb
    rw [e i h1.1]; exact h1, h.pref, fun i j hi hj hij he => by
    rw [e i hi, e j hj] at he
    exact h.good i j hi hj hij he, h.lt⟩
/-- One item more. -/
theorem PInv.put {rel : Nat → Nat} {K t k : Nat} {ch : Nat → Nat} {nu : Nat → Int} (h : PInv rel K t ch nu) (ht : t < 12) (hk : k < K) (hr : rel t < 65536) (hfit : ch k &&& (65535 - rel t) = 0)
    (hsym : ∀ j, j < t → (rel j).testBit t = (rel t).testBit j) (hne : ∀ k', k' < k → ch k' ≠ 0) : PInv rel K (t + 1) (updN ch k (ch k ||| 2 ^ t)) (upd nu t k) := by
  have hbit : ∀ k' i, (updN ch k (ch k ||| 2 ^ t) k').testBit i = ((ch k').testBit i || (decide (k' = k) && decide (i = t))) := fun k' i => by
    unfold updN
    by_cases e : k' = k
    · subst e
      rw [if_pos rfl, Nat.testBit_or, Nat.testBit_two_pow]
      simp [eq_comm]
    · rw [if_neg e]
      simp [e]
  have hnu : ∀ i, i < t → upd nu t k i = nu i := fun i hi => by
    unfold upd
    rw [if_neg (by omega)]
  have hnt : upd nu t k t = (k : Int) := by unfold upd; rw [if_pos rfl]
  refine ⟨fun i hi => ?_, fun k' i hb => ?_, fun k1 hk1 hz k2 h12 hk2 => ?_, fun i j hi hj hij he => ?_, fun k' => ?_⟩
  · rcases Nat.lt_or_ge i t with h1 | h1
    · obtain ⟨k', hk', e1, e2⟩ := h.place i h1
      exact ⟨k', hk', by rw [hnu i h1]; exact e1, by rw [hbit, e2]; rfl⟩
    · obtain rfl : i = t := by omega
      exact ⟨k, hk, hnt, by rw [hbit]; simp⟩
  · rw [hbit, Bool.or_eq_true, Bool.and_eq_true, decide_eq_true_iff, decide_eq_true_iff] at hb
    rcases hb with hb | ⟨rfl, rfl⟩
    · have h1 := h.bits k' i hb
      exact ⟨by omega, h1.2.1, by rw [hnu i h1.1]; exact h1.2.2⟩
    · exact ⟨by omega, hk, hnt⟩
  · have hz1 : k1 ≠ k ∧ ch k1 = 0 := by
      unfold updN at hz
      by_cases e : k1 = k
      · rw [if_pos e] at hz
        have := congrArg (fun x => x.testBit t) hz
        simp at this
      · rw [if_neg e] at hz
        exact ⟨e, hz⟩
    have h1 : k < k1 := by
      rcases Nat.lt_or_ge k k1 with h1 | h1
      · exact h1
      · exact absurd hz1.2 (hne k1 (by omega))
    unfold updN
    rw [if_neg (by omega)]
    exact h.pref k1 hk1 hz1.2 k2 h12 hk2
  · have key : ∀ u, u < t → nu u = (k : Int) → (rel t).testBit u = true := fun u hu hnk => by
      obtain ⟨k', hk', e1, e2⟩ := h.place u hu
      have hkk : k' = k := by omega
      rw [hkk] at e2
      exact sub_of_zero (h.lt k) hr hfit u e2
    rcases Nat.lt_or_ge i t with h1 | h1
    · rcases Nat.lt_or_ge j t with h2 | h2
      · rw [hnu i h1, hnu j h2] at he
        exact h.good i j h1 h2 hij he
      · obtain rfl : j = t := by omega
        rw [hnu i h1, hnt] at he
        rw [hsym i h1]
        exact key i h1 he
    · obtain rfl : i = t := by omega
      have h2 : j < i := by omega
      rw [hnu j h2, hnt] at he
      exact key j h2 he.symm
  · unfold updN
    split
    · exact Nat.or_lt_two_pow (n := 16) (h.lt k) (Nat.lt_of_lt_of_le (Nat.pow_lt_pow_right (by omega) ht) (by decide))
    · exact h.lt k'

section
variable {rel : Nat → Nat} {K n : Nat}
/-- What an attempt at item t promises. -/
def Keeps (rel : Nat → Nat) (K n t : Nat) (ch : Nat → Nat) (nu : Nat → Int) (r : PRes) : Prop :=
  (r.ok = true → PInv rel K n r.ch r.nu) ∧ (r.ok = false → r.ch = ch ∧ (∀ i, i < t → r.nu i = nu i) ∧ ∀ g, ¬ Ext rel K n t ch g)

theorem tryK_keeps (hr : ∀ i, i < n → rel i < 65536) (hn : n ≤ 12) (hsym : ∀ i j, i < n → j < n → (rel i).testBit j = (rel j).testBit i) {t : Nat} (ht : t < n) {go : (Nat → Nat) → (Nat → Int) → PRes}
    (hgo : ∀ ch nu, PInv rel K (t + 1) ch nu → Keeps rel K n (t + 1) ch nu (go ch nu)) :
    ∀ m k ch nu, m + k = K → PInv rel K t ch nu → (∀ k', k' < k → ch k' ≠ 0) →
      (((tryK go rel t m k ch nu).ok = true → PInv rel K n (tryK go rel t m k ch nu).ch (tryK go rel t m k ch nu).nu) ∧
       ((tryK go rel t m k ch nu).ok = false → (tryK go rel t m k ch nu).ch = ch ∧ (∀ i, i < t → (tryK go rel t m k ch nu).nu i = nu i) ∧ ∀ g, Ext rel K n t ch g → ¬ k ≤ g t))
  | 0, k, ch, nu, hmk, hI, hne => by
    rw [tryK]
    refine ⟨fun h => (by cases h), fun _ => ⟨rfl, fun _ _ => rfl, fun g hg hk => ?_⟩⟩
    have := hg.1 t ht
    omega
  | m + 1, k, ch, nu, hmk, hI, hne => by
    rw [tryK]
    have hkK : k < K := by omega
    by_cases hfit : ch k &&& (65535 - rel t) = 0
    · rw [if_pos hfit]
      have hI2 := hI.put (by omega) hkK (hr t ht) hfit (fun j hj => hsym j t (by omega) ht) hne
      have hk2 := hgo _ _ hI2
      generalize go (updN ch k (ch k ||| 2 ^ t)) (upd nu t k) = r at hk2 ⊢
      by_cases hok : r.ok = true
      · rw [if_pos hok]
        exact ⟨fun _ => hk2.1 hok, fun h => (by cases h)⟩
      · rw [if_neg hok]
        have hok' : r.ok = false := by simpa using hok
        obtain ⟨hc, hnu, hno⟩ := hk2.2 hok'
        have hback : updN r.ch k (ch k) = ch := by
          rw [hc]
          funext j
          unfold updN
          by_cases e : j = k
          · rw [if_pos e, e]
          · rw [if_neg e, if_neg e]
        have hnu' : ∀ i, i < t → r.nu i = nu i := fun i hi => by
          rw [hnu i (by omega)]
          unfold upd
          rw [if_neg (by omega)]
        -- no way with item t in chain k
        have hnk : ∀ g, Ext rel K n t ch g → g t ≠ k := fun g hg e => hno g ⟨hg.1, hg.2.1, fun i hi => by
          unfold updN
          rcases Nat.lt_or_ge i t with h1 | h1
          · have h2 := hg.2.2 i h1
            by_cases e1 : g i = k
            · rw [if_pos e1, Nat.testBit_or, ← e1, h2]; rfl
            · rw [if_neg e1]; exact h2
          · obtain rfl : i = t := by omega
            rw [if_pos e, Nat.testBit_or, Nat.testBit_two_pow]
            simp⟩
        by_cases hz : ch k = 0
        · rw [if_pos hz]
          refine ⟨fun h => (by cases h), fun _ => ⟨hback, hnu', fun g hg hk => ?_⟩⟩
          -- change the chains k and g t: both are empty
          have hgk : k < g t := by
            have := hnk g hg
            omega
          have hgK := hg.1 t ht
          have hz2 : ch (g t) = 0 := hI.pref k hkK hz (g t) hgk hgK
          refine hnk (fun i => if g i = k then g t else if g i = g t then k else g i) ⟨fun i hi => ?_, fun i j hi hj hij e => ?_, fun i hi => ?_⟩ ?_
          · show (if g i = k then g t else if g i = g t then k else g i) < K
            have := hg.1 i hi
            split
            · exact hgK
            · split <;> omega
          · have e' : (if g i = k then g t else if g i = g t then k else g i) = (if g j = k then g t else if g j = g t then k else g j) := e
            refine hg.2.1 i j hi hj hij ?_
            by_cases c1 : g i = k
            · rw [if_pos c1] at e'
              by_cases c2 : g j = k
              · omega
              · rw [if_neg c2] at e'
                by_cases c3 : g j = g t
                · rw [if_pos c3] at e'; omega
                · rw [if_neg c3] at e'; omega
            · rw [if_neg c1] at e'
              by_cases c4 : g i = g t
              · rw [if_pos c4] at e'
                by_cases c2 : g j = k
                · rw [if_pos c2] at e'; omega
                · rw [if_neg c2] at e'
                  by_cases c3 : g j = g t
                  · omega
                  · rw [if_neg c3] at e'; omega
              · rw [if_neg c4] at e'
                by_cases c2 : g j = k
                · rw [if_pos c2] at e'; omega
                · rw [if_neg c2] at e'
                  by_cases c3 : g j = g t
                  · rw [if_pos c3] at e'; omega
                  · rw [if_neg c3] at e'; omega
          · show (ch (if g i = k then g t else if g i = g t then k else g i)).testBit i = true
            have h2 := hg.2.2 i hi
            by_cases c1 : g i = k
            · rw [c1, hz] at h2
              simp at h2
            · by_cases c2 : g i = g t
              · rw [c2, hz2] at h2
                simp at h2
              · rw [if_neg c1, if_neg c2]
                exact h2
          · show (if g t = k then g t else if g t = g t then k else g t) = k
            rw [if_neg (by omega), if_pos rfl]
        · rw [if_neg hz, hback]
          have hI3 := hI.nu hnu'
          obtain ⟨a1, a2⟩ := tryK_keeps hr hn hsym ht hgo m (k + 1) ch r.nu (by omega) hI3 (fun k' hk' => by
            rcases Nat.lt_or_ge k' k with h1 | h1
            · exact hne k' h1
            · obtain rfl : k' = k := by omega
              exact hz)
          refine ⟨a1, fun h => ?_⟩
          obtain ⟨b1, b2, b3⟩ := a2 h
          refine ⟨b1, fun i hi => (b2 i hi).trans (hnu' i hi), fun g hg hk => ?_⟩
          have h1 := hnk g hg
          exact b3 g hg (by omega)
    · rw [if_neg hfit]
      have hz : ch k ≠ 0 := fun e => hfit (by rw [e]; simp)
      obtain ⟨a1, a2⟩ := tryK_keeps hr hn hsym ht hgo m (k + 1) ch nu (by omega) hI (fun k' hk' => by
        rcases Nat.lt_or_ge k' k with h1 | h1
        · exact hne k' h1
        · obtain rfl : k' = k := by omega
          exact hz)
      refine ⟨a1, fun h => ?_⟩
      obtain ⟨b1, b2, b3⟩ := a2 h
      refine ⟨b1, b2, fun g hg hk => ?_⟩
      rcases Nat.lt_or_ge k (g t) with h1 | h1
      · exact b3 g hg (by omega)
      · have hgt : g t = k := by omega
        apply hfit
        refine sub_zero (hr t ht) fun u hu => ?_
        have h2 := hI.bits k u hu
        have h3 := hg.2.2 u h2.1
        have h4 := hI.bits (g u) u h3
        have h5 : g u = k := by omega
        exact hg.2.1 t u ht (by omega) (by omega) (by rw [hgt, h5])

theorem placeM_keeps (hr : ∀ i, i < n → rel i < 65536) (hn : n ≤ 12) (hsym : ∀ i j, i < n → j < n → (rel i).testBit j = (rel j).testBit i) :
    ∀ f, f ≤ n → ∀ ch nu, PInv rel K (n - f) ch nu → Keeps rel K n (n - f) ch nu (placeM rel K n f ch nu)
  | 0, _, ch, nu, hI => by
    rw [placeM]
    exact ⟨fun _ => hI, fun h => (by cases h)⟩
  | f + 1, hf, ch, nu, hI => by
    rw [placeM]
    have e : n - f = n - (f + 1) + 1 := by omega
    have ih := placeM_keeps hr hn hsym f (by omega)
    rw [e] at ih
    obtain ⟨a1, a2⟩ := tryK_keeps hr hn hsym (t := n - (f + 1)) (by omega) (go := placeM rel K n f) ih K 0 ch nu (by omega) hI (fun k' hk' => by omega)
    exact ⟨a1, fun h => ⟨(a2 h).1, (a2 h).2.1, fun g hg => (a2 h).2.2 g hg (Nat.zero_le _)⟩⟩

/-- Where there is a partition place finds one. -/
theorem placeM_all (hr : ∀ i, i < n → rel i < 65536) (hn : n ≤ 12) (hsym : ∀ i j, i < n → j < n → (rel i).testBit j = (rel j).testBit i)
    {g : Nat → Nat} (h1 : ∀ i, i < n → g i < K) (h2 : ∀ i j, i < n → j < n → i ≠ j → g i = g j → (rel i).testBit j = true) :
    PInv rel K n (placeM rel K n n (fun _ => 0) (fun _ => 0)).ch (placeM rel K n n (fun _ => 0) (fun _ => 0)).nu := by
  have hI : PInv rel K (n - n) (fun _ => 0) (fun _ => 0) := ⟨fun i hi => by omega, fun k i h => by simp at h, fun _ _ _ _ _ _ => rfl, fun i j hi => by omega, fun _ => by show 0 < 65536; decide⟩
  obtain ⟨a1, a2⟩ := placeM_keeps (K := K) hr hn hsym n (Nat.le_refl _) _ _ hI
  cases hok : (placeM rel K n n (fun _ => 0) (fun _ => 0)).ok
  · exact absurd ⟨h1, h2, fun i hi => by omega⟩ ((a2 hok).2.2 g)
  · exact a1 hok
end
end Go.Proofs.YtkfijolimoehmaaDoor
