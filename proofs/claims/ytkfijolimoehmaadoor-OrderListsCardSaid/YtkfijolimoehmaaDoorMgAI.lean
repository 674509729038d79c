/-
  Joined by a program out of: Apart, WideMost, ApartPure.
-/
import Derived.Test.YtkfijolimoehmaaDoorMgAH

/-
  Contract of order.Apart.
-/
namespace Go.Proofs.YtkfijolimoehmaaDoor
open Go.RowKit
set_option maxRecDepth 20000

structure ARel (w : World) (G n : Nat) (a : Nat → Nat) (v : Value) (xs : List Int) (wr : World) : Prop where
  below : Below w.heap.size w wr
  arg : RelB wr w.heap.size n a
  own : IOwn wr G v xs
  fg : w.heap.size < G
  sz : G ≤ wr.heap.size
theorem ARel.app {w wr w' : World} {G n : Nat} {a : Nat → Nat} {v v' : Value} {xs ys : List Int} (h : ARel w G n a v xs wr) (hb : Below G wr w') (ho : IOwn w' G v' ys) : ARel w G n a v' ys w' := by
  have h2 := h.fg; have h3 := h.sz
  exact ⟨h.below.trans (hb.mono (by omega)), Lies.below h.arg hb (by omega), ho, h2, Nat.le_trans h3 hb.size⟩

theorem pop_le (x : Nat) : pop x ≤ 16 := popN_le 16 x

/-- The antichain of the closure c. -/
def wide (n : Nat) (c : Nat → Nat) : Nat := wideUp c n (2 ^ n)
theorem wide_lt {n : Nat} (h : n ≤ 12) (c : Nat → Nat) : wide n c < 65536 := by
  have h2 : 2 ^ n ≤ 4096 := Nat.le_trans (Nat.pow_le_pow_right (by omega) h) (by decide)
  have := wideUp_lt c n (2 ^ n)
  unfold wide
  omega

set_option maxHeartbeats 1000000 in
theorem apart_no (n : Nat) (a : Nat → Nat) (w : World) (h : Good n a) (hy : cyc (clo n a) n = false) (hT : Tab w) (hpos : 0 < w.heap.size) :
    Calls Tryd.prog 15 #[relV n a] w fun e w' => ∃ v, e = .returned (.tuple #[v, .int .i64 0]) ∧ IOwn w' w.heap.size v (itemsUp (wide n (clo n a)) n) ∧ Below w.heap.size w w' := by
  have hcl := clo_lt h
  have hle := h.le
  go_enter Tryd.func15, Tryd.ntmps15
  go_wp2_with fail
  refine (acyclic_no n a _ h hy).mono ?_
  rintro e w1 ⟨rfl, hb1⟩
  have hz1 : w.heap.size + 1 ≤ w1.heap.size := by have := hb1.size; simpa using this
  have hA1 : RelB w1 w.heap.size n a := Lies.below (Lies.new w _ _) hb1 (by rw [World.size_alloc]; omega)
  have hw1 : Below w.heap.size w w1 := ((Below.refl _ _).alloc (Nat.le_refl _) _).trans (hb1.mono (by simp))
  have HH := Lib.hid (And.intro hA1 (And.intro hw1 hz1))
  have HT := Lib.hid hT
  clear hb1 hA1 hw1 hz1 hT
  go_wp2_with fail
  obtain ⟨hA1, hw1, hz1⟩ := HH.out
  refine (widest_any n (clo n a) _ hle hcl (HT.out.below (hw1.alloc (by omega) _) hpos) (by simp)).mono ?_
  rintro e w2 ⟨rfl, hb2⟩
  have hz2 : w1.heap.size + 1 ≤ w2.heap.size := by have := hb2.size; simpa using this
  have hA2 : RelB w2 w.heap.size n a := Lies.below (Lies.alloc hA1 _) hb2 (by simp; omega)
  have hw2 : Below w.heap.size w w2 := (hw1.alloc (by omega) _).trans (hb2.mono (by simp; omega))
  have hwl := wide_lt hle (clo n a)
  change wideUp (clo n a) n (2 ^ n) < 65536 at hwl
  have HH2 := Lib.hid (And.intro hA2 (And.intro hw2 hz2))
  have HZ := Lib.hid hz1
  clear hb2 hA1 hw1 hz1 HH hA2 hw2 hz2
  generalize hss : wideUp (clo n a) n (2 ^ n) = s at hwl ⊢
  have HS := Lib.hid hss
  clear hss
  go_wp2_with fail
  refine (ones_any s _ hwl).mono ?_
  rintro e w3 ⟨rfl, nq, hw3⟩
  have hmk := made_cap (pop s) (by have := pop_le s; omega)
  obtain ⟨hA2, hw2, hz2⟩ := HH2.out
  have hb3 : Below w2.heap.size w2 w3 := by rw [hw3]; exact below_drewN (Below.refl _ _) nq
  have hz1 := HZ.out
  have hsz := hb3.size
  have hA3 : RelB w3 w.heap.size n a := Lies.below hA2 hb3 (by omega)
  have hs := hA3.size
  have hlt : w.heap.size < w3.heap.size := by omega
  have HN0 : ARel w w3.heap.size n a (.slice (some ⟨w3.heap.size, 0, none⟩) 0 (pop s)) [] (w3.alloc (.cells (tabCs (pop s) fun _ => 0) 3)) := by
    have hG := IOwn.made w3 (pop s) (by have := pop_le s; omega)
    exact ⟨(hw2.trans (hb3.mono (by omega))).alloc (by omega) _, Lies.alloc hA3 _, hG, hlt, by simp⟩
  have HN := Lib.hid HN0
  clear hA2 hw2 HH2 hz1 hz2 HN0 HZ hw3 hb3 hA3 hsz
  go_wp2_with fail
  have HN0 := HN.out
  clear HN hs hlt hmk
  generalize w3.alloc (.cells (tabCs (pop s) fun _ => 0) 3) = W at HN0 ⊢
  generalize w3.heap.size = G at HN0 ⊢
  go_loopw [7, 24] (fun v i wr => ∃ k : Nat, k ≤ n ∧ i = .int .i64 k ∧ ARel w G n a v (itemsUp s k) wr) (fun _ i _ => n - (intOf i).toNat)
  case atStart => exact ⟨0, by omega, rfl, HN0⟩
  case round =>
    clear HN0
    obtain ⟨k, hk, rfl, hR⟩ := hrel
    by_cases hkn : k < n
    · have hll := itemsUp_length s k
      have hown := hR.own
      have hsz := hR.sz
      have he : itemsUp s (k + 1) = if s.testBit k = true then itemsUp s k ++ [(k : Int)] else itemsUp s k := rfl
      have HR := Lib.hid hR
      have HO := Lib.hid hown
      clear hR hown
      cases hb : s.testBit k
      · rw [if_neg (by rw [hb]; decide)] at he
        have HE := Lib.hid he
        have HB := Lib.hid hb
        clear he hb
        go_wp2_with (go_at_call 22; refine (has_no s k _ hwl (by omega) HB.out).mono ?_; rintro e w' ⟨rfl, rfl⟩)
        go_roundw
        case rel => exact ⟨k + 1, by omega, by go_num, by rw [HE.out]; exact HR.out⟩
        case measure => simp [intOf]; omega
      · rw [if_pos hb] at he
        have HE := Lib.hid he
        have HB := Lib.hid hb
        clear he hb
        go_wp2_with fail
        refine (has_yes s k _ hwl (by omega) HB.out).mono ?_
        rintro e w' ⟨rfl, rfl⟩
        go_wp2_with (at_builtin; refine app_one rfl (.tmp 30) (.tmp 32) rfl G _ (itemsUp s k) rfl HO.out (k : Int) rfl (by omega) hsz ?_; intro v' w5 ho5 hb5)
        go_roundw
        case rel => exact ⟨k + 1, by omega, by go_num, by rw [HE.out]; exact HR.out.app hb5 ho5⟩
        case measure => simp [intOf]; omega
    · have hkn' : k = n := by omega
      subst hkn'
      have HR := Lib.hid hR
      clear hR
      go_wp2_with fail
      go_ret2
      exact ⟨_, rfl, by unfold wide; rw [HS.out]; exact HR.out.own.mono (by have := HR.out.fg; omega), HR.out.below⟩
end Go.Proofs.YtkfijolimoehmaaDoor

/-
  Plain: the set that order.Apart finds is the widest one.
-/
namespace Go.Proofs.YtkfijolimoehmaaDoor
open Go.RowKit
set_option maxRecDepth 20000

/-! ### The widest set -/
theorem pop_card : ∀ k x, popN k (x % 2 ^ k) = card k x
  | 0, x => by simp [popN, card, sumUp]
  | k + 1, x => by
    rw [popN_split k 1]
    have e1 : x % 2 ^ (k + 1) % 2 ^ k = x % 2 ^ k := by
      rw [Nat.pow_succ, Nat.mod_mul_right_mod]
    have e2 : x % 2 ^ (k + 1) / 2 ^ k = x / 2 ^ k % 2 := by
      rw [Nat.pow_succ, Nat.mod_mul_right_div_self]
    rw [e1, e2, pop_card k x]
    unfold card
    rw [sumUp]
    congr 1
    rw [Nat.testBit, Nat.shiftRight_eq_div_pow, Nat.and_comm, Nat.and_one_is_mod]
    simp only [popN, Nat.add_zero, Nat.mod_mod]
    rcases Nat.mod_two_eq_zero_or_one (x / 2 ^ k) with e | e <;> simp [e]
theorem card_more {n S : Nat} (hS : S < 2 ^ n) : ∀ m, card (n + m) S = card n S
  | 0 => rfl
  | m + 1 => by
    have h0 : S.testBit (n + m) = false := Nat.testBit_lt_two_pow (Nat.lt_of_lt_of_le hS (Nat.pow_le_pow_right (by omega) (by omega)))
    have ih := card_more hS m
    unfold card at ih ⊢
    rw [show n + (m + 1) = (n + m) + 1 by omega, sumUp, ih, h0]; simp
theorem pop_is {n S : Nat} (hn : n ≤ 16) (hS : S < 2 ^ n) : pop S = card n S := by
  have h16 : S < 2 ^ 16 := Nat.lt_of_lt_of_le hS (Nat.pow_le_pow_right (by omega) hn)
  have h1 := pop_card 16 S
  rw [Nat.mod_eq_of_lt h16] at h1
  have h2 := card_more hS (16 - n)
  rw [show n + (16 - n) = 16 by omega] at h2
  unfold pop
  rw [h1, h2]
theorem items_card (S : Nat) : ∀ n, (itemsUp S n).length = card n S
  | 0 => rfl
  | n + 1 => by
    have ih := items_card S n
    unfold card at ih ⊢
    rw [itemsUp, sumUp, ← ih]
    split <;> simp
theorem anti_iff (c : Nat → Nat) (s : Nat) : ∀ m, antiUp c s m = true ↔ ∀ i, i < m → s.testBit i = true → c i &&& s = 0
  | 0 => by simp [antiUp]
  | m + 1 => by
    rw [antiUp, Bool.and_eq_true, anti_iff c s m]
    constructor
    · rintro ⟨h1, h2⟩ i hi hs
      rcases Nat.lt_or_ge i m with h | h
      · exact h1 i h hs
      · obtain rfl : i = m := by omega
        simpa [hs] using h2
    · intro h
      refine ⟨fun i hi hs => h i (by omega) hs, ?_⟩
      cases hs : s.testBit m
      · rfl
      · simp [h m (by omega) hs]
theorem wide_most {c : Nat → Nat} {n : Nat} : ∀ K, antiUp c (wideUp c n K) n = true ∧ ∀ k, k < K → antiUp c k n = true → pop k ≤ pop (wideUp c n K)
  | 0 => ⟨(anti_iff c 0 n).2 (fun i _ hs => by simp at hs), fun k h => by omega⟩
  | K + 1 => by
    obtain ⟨ih1, ih2⟩ := wide_most (c := c) (n := n) K
    rw [wideUp]
    by_cases hc : cb K (wideUp c n K) = true ∧ antiUp c K n = true
    · rw [if_pos hc]
      have hle : pop (wideUp c n K) ≤ pop K := by
        have := hc.1
        unfold cb at this
        split at this
        · omega
        · have := of_decide_eq_true this; omega
      refine ⟨hc.2, fun k hk ha => ?_⟩
      rcases Nat.lt_or_ge k K with h | h
      · exact Nat.le_trans (ih2 k h ha) hle
      · obtain rfl : k = K := by omega
        exact Nat.le_refl _
    · rw [if_neg hc]
      refine ⟨ih1, fun k hk ha => ?_⟩
      rcases Nat.lt_or_ge k K with h | h
      · exact ih2 k h ha
      · obtain rfl : k = K := by omega
        have hcb : cb k (wideUp c n k) = false := by
          cases hb : cb k (wideUp c n k)
          · rfl
          · exact absurd ⟨hb, ha⟩ hc
        unfold cb at hcb
        split at hcb
        · omega
        · have := of_decide_eq_false hcb; omega

theorem wide_small (n : Nat) (c : Nat → Nat) : wide n c < 2 ^ n := by
  unfold wide
  have h1 := wideUp_lt c n (2 ^ n)
  rcases Nat.lt_or_ge (wideUp c n (2 ^ n)) (2 ^ n) with h | h
  · exact h
  · exfalso
    have key : ∀ K, 0 < K → wideUp c n K < K := fun K => by
      induction K with
      | zero => intro h0; omega
      | succ K ih =>
        intro _
        rw [wideUp]
        split
        · omega
        · by_cases h0 : K = 0
          · subst h0; simp [wideUp]
          · have := ih (by omega); omega
    have := key (2 ^ n) (Nat.two_pow_pos n)
    omega
theorem items_wide {n : Nat} (hn : n ≤ 12) (c : Nat → Nat) : (itemsUp (wide n c) n).length = pop (wide n c) := by
  rw [items_card, pop_is (by omega) (wide_small n c)]
end Go.Proofs.YtkfijolimoehmaaDoor

/-
  Plain: the longest list of items apart, item by item, is the set that widest finds.
-/
namespace Go.Proofs.YtkfijolimoehmaaDoor
open Go.RowKit
set_option maxRecDepth 20000

/-- a has the lowest bit in which they differ. -/
def LexL (a b : Nat) : Prop := ∃ p, a.testBit p = true ∧ b.testBit p = false ∧ ∀ i, i < p → a.testBit i = b.testBit i
theorem LexL.trans {a b c : Nat} (h1 : LexL a b) (h2 : LexL b c) : LexL a c := by
  obtain ⟨p, p1, p2, p3⟩ := h1
  obtain ⟨q, q1, q2, q3⟩ := h2
  rcases Nat.lt_trichotomy p q with h | h | h
  · exact ⟨p, p1, by rw [← q3 p h]; exact p2, fun i hi => (p3 i hi).trans (q3 i (by omega))⟩
  · subst h; rw [q1] at p2; cases p2
  · exact ⟨q, by rw [p3 q h]; exact q1, q2, fun i hi => (p3 i (by omega)).trans (q3 i hi)⟩
theorem LexL.asymm {a b : Nat} (h1 : LexL a b) (h2 : LexL b a) : False := by
  obtain ⟨p, p1, p2, _⟩ := h1.trans h2
  rw [p1] at p2
  cases p2
theorem xor_zero {a b : Nat} (h : a ^^^ b = 0) : a = b := by
  apply Nat.eq_of_testBit_eq
  intro i
  have h1 := congrArg (fun x => x.testBit i) h
  simp only [Nat.testBit_xor, Nat.zero_testBit] at h1
  cases h2 : a.testBit i <;> cases h3 : b.testBit i <;> rw [h2, h3] at h1 <;> first | rfl | cases h1
theorem lex_or {a b : Nat} (ha : a < 65536) (hb : b < 65536) (hne : a ≠ b) : (LexL a b ∧ a.testBit (tz (a ^^^ b)) = true) ∨ (LexL b a ∧ a.testBit (tz (a ^^^ b)) = false) := by
  have hx : a ^^^ b < 2 ^ 16 := Nat.xor_lt_two_pow ha hb
  have h0 : 0 < a ^^^ b := by
    rcases Nat.eq_zero_or_pos (a ^^^ b) with h | h
    · exact absurd (xor_zero h) hne
    · exact h
  obtain ⟨t1, t2⟩ := tzN_bit 16 (a ^^^ b) h0 hx
  have hlow : ∀ i, i < tz (a ^^^ b) → a.testBit i = b.testBit i := fun i hi => by
    have := t2 i hi
    rw [Nat.testBit_xor] at this
    cases h1 : a.testBit i <;> cases h2 : b.testBit i <;> rw [h1, h2] at this <;> first | rfl | cases this
  have hd : (a.testBit (tz (a ^^^ b)) ^^ b.testBit (tz (a ^^^ b))) = true := by rw [← Nat.testBit_xor]; exact t1
  cases h1 : a.testBit (tz (a ^^^ b)) <;> cases h2 : b.testBit (tz (a ^^^ b)) <;> rw [h1, h2] at hd
  · cases hd
  · exact .inr ⟨⟨_, h2, h1, fun i hi => (hlow i hi).symm⟩, rfl⟩
  · exact .inl ⟨⟨_, h1, h2, hlow⟩, rfl⟩
  · cases hd
/-- The order of the code, plainly. -/
theorem cb_iff {a b : Nat} (ha : a < 65536) (hb : b < 65536) : cb a b = true ↔ pop b < pop a ∨ (pop a = pop b ∧ LexL a b) := by
  unfold cb
  by_cases hp : pop a = pop b
  · rw [if_pos hp, Bool.and_eq_true, decide_eq_true_iff]
    constructor
    · rintro ⟨h1, h2⟩
      have hne : a ≠ b := fun e => h1 (by rw [e]; exact Nat.xor_self b)
      rcases lex_or ha hb hne with h | h
      · exact .inr ⟨hp, h.1⟩
      · rw [h.2] at h2; cases h2
    · rintro (h | ⟨_, h⟩)
      · omega
      · have hne : a ≠ b := fun e => by subst e; exact h.asymm h
        refine ⟨fun e => hne (xor_zero e), ?_⟩
        rcases lex_or ha hb hne with h' | h'
        · exact h'.2
        · exact (h.asymm h'.1).elim
  · rw [if_neg hp, decide_eq_true_iff]
    exact ⟨fun h => .inl h, fun h => h.elim (fun h => h) (fun h => absurd h.1 hp)⟩
theorem cb_trans {a b c : Nat} (ha : a < 65536) (hb : b < 65536) (hc : c < 65536) (h1 : cb a b = true) (h2 : cb b c = true) : cb a c = true := by
  rw [cb_iff ha hb] at h1
  rw [cb_iff hb hc] at h2
  rw [cb_iff ha hc]
  rcases h1 with h1 | ⟨h1, l1⟩ <;> rcases h2 with h2 | ⟨h2, l2⟩
  · exact .inl (by omega)
  · exact .inl (by omega)
  · exact .inl (by omega)
  · exact .inr ⟨by omega, l1.trans l2⟩
theorem cb_only {a b : Nat} (ha : a < 65536) (hb : b < 65536) (h1 : cb a b = false) (h2 : cb b a = false) : a = b := by
  apply Classical.byContradiction
  intro hne
  have n1 : ¬ (pop b < pop a ∨ (pop a = pop b ∧ LexL a b)) := fun h => by rw [(cb_iff ha hb).2 h] at h1; cases h1
  have n2 : ¬ (pop a < pop b ∨ (pop b = pop a ∧ LexL b a)) := fun h => by rw [(cb_iff hb ha).2 h] at h2; cases h2
  have hp : pop a = pop b := by omega
  rcases lex_or ha hb hne with h | h
  · exact n1 (.inr ⟨hp, h.1⟩)
  · exact n2 (.inr ⟨hp.symm, h.1⟩)
/-- widest finds the best of all. -/
theorem wide_best {c : Nat → Nat} {n : Nat} : ∀ K, K ≤ 65536 → ∀ k, k < K → antiUp c k n = true → cb k (wideUp c n K) = false
  | 0, _, k, h, _ => by omega
  | K + 1, hK, k, hk, ha => by
    have ih := wide_best (c := c) (n := n) K (by omega)
    have hle := wideUp_lt c n K
    rw [wideUp]
    have self : ∀ x, cb x x = false := fun x => by
      unfold cb
      rw [if_pos rfl, Nat.xor_self]
      rfl
    by_cases hc : cb K (wideUp c n K) = true ∧ antiUp c K n = true
    · rw [if_pos hc]
      rcases Nat.lt_or_ge k K with h | h
      · cases hcb : cb k K
        · rfl
        · have := cb_trans (by omega) (by omega) (by omega) hcb hc.1
          rw [ih k h ha] at this
          cases this
      · obtain rfl : k = K := by omega
        exact self k
    · rw [if_neg hc]
      rcases Nat.lt_or_ge k K with h | h
      · exact ih k h ha
      · obtain rfl : k = K := by omega
        cases hb : cb k (wideUp c n k)
        · rfl
        · exact absurd ⟨hb, ha⟩ hc
/-! ### Item by item -/
/-- Is k apart from the items of s below m? -/
def fitU (c : Nat → Nat) (s k : Nat) : Nat → Bool
  | 0 => true
  | m + 1 => fitU c s k m && !(s.testBit m && ((c m).testBit k || (c k).testBit m))
theorem fitU_iff (c : Nat → Nat) (s k : Nat) : ∀ m, fitU c s k m = true ↔ ∀ i, i < m → s.testBit i = true → (c i).testBit k = false ∧ (c k).testBit i = false
  | 0 => by simp [fitU]
  | m + 1 => by
    rw [fitU, Bool.and_eq_true, fitU_iff c s k m]
    constructor
    · rintro ⟨h1, h2⟩ i hi hs
      rcases Nat.lt_or_ge i m with h | h
      · exact h1 i h hs
      · obtain rfl : i = m := by omega
        rw [hs] at h2
        simpa using h2
    · intro h
      refine ⟨fun i hi hs => h i (by omega) hs, ?_⟩
      cases hs : s.testBit m
      · rfl
      · obtain ⟨a, b⟩ := h m (by omega) hs
        rw [a, b]
        rfl
/-- LongApart, with t items still to come. -/
def laS (c : Nat → Nat) (n : Nat) : Nat → Nat → Nat
  | 0, s => s
  | t + 1, s => if fitU c s (n - (t + 1)) (n - (t + 1)) = true then (if pop (laS c n t (s ||| 2 ^ (n - (t + 1)))) < pop (laS c n t s) then laS c n t s else laS c n t (s ||| 2 ^ (n - (t + 1)))) else laS c n t s
theorem or_pow_bit (s k i : Nat) : (s ||| 2 ^ k).testBit i = (s.testBit i || decide (k = i)) := by rw [Nat.testBit_or, Nat.testBit_two_pow]
section
variable {c : Nat → Nat} {n : Nat}
/-- Pairwise apart. -/
def AntiP (c : Nat → Nat) (s : Nat) : Prop := ∀ i j, s.testBit i = true → s.testBit j = true → (c i).testBit j = false
theorem anti_p {s : Nat} (hs : s < 2 ^ n) : antiUp c s n = true ↔ AntiP c s := by
  rw [anti_iff]
  have hlt : ∀ i, s.testBit i = true → i < n := fun i hi => by
    apply Classical.byContradiction
    intro hn
    rw [Nat.testBit_lt_two_pow (Nat.lt_of_lt_of_le hs (Nat.pow_le_pow_right (by omega) (by omega)))] at hi
    cases hi
  constructor
  · intro h i j hi hj
    have := congrArg (fun x => x.testBit j) (h i (hlt i hi) hi)
    simp only [Nat.testBit_and, hj, Bool.and_true, Nat.zero_testBit] at this
    exact this
  · intro h i hi hb
    apply Nat.eq_of_testBit_eq
    intro j
    rw [Nat.testBit_and, Nat.zero_testBit]
    cases hj : s.testBit j
    · rw [Bool.and_false]
    · rw [h i j hb hj]; rfl
/-- What LongApart keeps to: what is there is kept below, it is apart, and none that begins so is better. -/
structure LaOk (c : Nat → Nat) (n k s R : Nat) : Prop where
  lt : R < 2 ^ n
  same : ∀ i, i < k → R.testBit i = s.testBit i
  anti : AntiP c R
  best : ∀ T, T < 2 ^ n → AntiP c T → (∀ i, i < k → T.testBit i = s.testBit i) → cb T R = false
theorem laS_ok (hn : n ≤ 12) (hirr : ∀ v, v < n → (c v).testBit v = false) : ∀ t, t ≤ n → ∀ s, s < 2 ^ (n - t) → AntiP c s → LaOk c n (n - t) s (laS c n t s)
  | 0, _, s, hs, ha => ⟨hs, fun _ _ => rfl, ha, fun T hT _ he => by
      have : T = s := by
        apply Nat.eq_of_testBit_eq
        intro i
        by_cases hi : i < n
        · exact he i hi
        · rw [Nat.testBit_lt_two_pow (Nat.lt_of_lt_of_le hT (Nat.pow_le_pow_right (by omega) (by omega))), Nat.testBit_lt_two_pow (Nat.lt_of_lt_of_le hs (Nat.pow_le_pow_right (by omega) (by omega)))]
      subst this
      show cb T T = false
      unfold cb
      rw [if_pos rfl, Nat.xor_self]
      rfl⟩
  | t + 1, ht, s, hs, ha => by
    obtain ⟨k, hk⟩ : ∃ k, k = n - (t + 1) := ⟨_, rfl⟩
    have hk1 : n - t = k + 1 := by omega
    have hkn : k < n := by omega
    have h16 : 2 ^ n ≤ 65536 := Nat.le_trans (Nat.pow_le_pow_right (by omega) hn) (by decide)
    have ih := laS_ok hn hirr t (by omega)
    rw [hk1] at ih
    rw [laS, ← hk]
    rw [← hk] at hs
    have hsb : ∀ i, k ≤ i → s.testBit i = false := fun i hi => Nat.testBit_lt_two_pow (Nat.lt_of_lt_of_le hs (Nat.pow_le_pow_right (by omega) hi))
    have hwo := ih s (Nat.lt_of_lt_of_le hs (Nat.pow_le_pow_right (by omega) (by omega))) ha
    by_cases hf : fitU c s k k = true
    · rw [if_pos hf]
      have hf' := (fitU_iff c s k k).1 hf
      have hlts : ∀ i, s.testBit i = true → i < k := fun i hi => by
        apply Classical.byContradiction
        intro h
        rw [hsb i (by omega)] at hi
        cases hi
      have hwi := ih (s ||| 2 ^ k) (Nat.or_lt_two_pow (Nat.lt_of_lt_of_le hs (Nat.pow_le_pow_right (by omega) (by omega))) (Nat.pow_lt_pow_right (by omega) (by omega))) (fun i j hi hj => by
        rw [or_pow_bit, Bool.or_eq_true, decide_eq_true_iff] at hi hj
        rcases hi with hi | rfl <;> rcases hj with hj | rfl
        · exact ha i j hi hj
        · exact (hf' i (hlts i hi) hi).1
        · exact (hf' j (hlts j hj) hj).2
        · exact hirr _ hkn)
      generalize laS c n t s = A at hwo ⊢
      generalize laS c n t (s ||| 2 ^ k) = B at hwi ⊢
      have hBk : B.testBit k = true := by rw [hwi.same k (by omega), or_pow_bit]; simp
      have hBlow : ∀ i, i < k → B.testBit i = s.testBit i := fun i hi => by
        rw [hwi.same i (by omega), or_pow_bit, decide_eq_false (by omega), Bool.or_false]
      have hA16 : A < 65536 := Nat.lt_of_lt_of_le hwo.lt h16
      have hB16 : B < 65536 := Nat.lt_of_lt_of_le hwi.lt h16
      by_cases hlt : pop B < pop A
      · rw [if_pos hlt]
        refine ⟨hwo.lt, fun i hi => hwo.same i (by omega), hwo.anti, fun T hT hTa he => ?_⟩
        have hT16 : T < 65536 := Nat.lt_of_lt_of_le hT h16
        cases hTk : T.testBit k
        · exact hwo.best T hT hTa (fun i hi => by
            rcases Nat.lt_or_ge i k with h | h
            · exact he i h
            · obtain rfl : i = k := by omega
              rw [hTk, hsb i (Nat.le_refl _)])
        · have h1 := hwi.best T hT hTa (fun i hi => by
            rcases Nat.lt_or_ge i k with h | h
            · rw [he i h, or_pow_bit, decide_eq_false (by omega), Bool.or_false]
            · obtain rfl : i = k := by omega
              rw [hTk, or_pow_bit]; simp)
          cases h2 : cb T A
          · rfl
          · exfalso
            have h3 := cb_trans hT16 hA16 hB16 h2 ((cb_iff hA16 hB16).2 (.inl hlt))
            rw [h1] at h3
            cases h3
      · rw [if_neg hlt]
        refine ⟨hwi.lt, hBlow, hwi.anti, fun T hT hTa he => ?_⟩
        have hT16 : T < 65536 := Nat.lt_of_lt_of_le hT h16
        cases hTk : T.testBit k
        · have h1 := hwo.best T hT hTa (fun i hi => by
            rcases Nat.lt_or_ge i k with h | h
            · exact he i h
            · obtain rfl : i = k := by omega
              rw [hTk, hsb i (Nat.le_refl _)])
          have hle : pop T ≤ pop A := by
            apply Classical.byContradiction
            intro h
            rw [(cb_iff hT16 hA16).2 (.inl (by omega))] at h1
            cases h1
          cases h2 : cb T B
          · rfl
          · exfalso
            rw [cb_iff hT16 hB16] at h2
            rcases h2 with h2 | ⟨_, h2⟩
            · omega
            · exact h2.asymm ⟨k, hBk, hTk, fun i hi => (hBlow i hi).trans (he i hi).symm⟩
        · exact hwi.best T hT hTa (fun i hi => by
            rcases Nat.lt_or_ge i k with h | h
            · rw [he i h, or_pow_bit, decide_eq_false (by omega), Bool.or_false]
            · obtain rfl : i = k := by omega
              rw [hTk, or_pow_bit]; simp)
    · rw [if_neg hf]
      refine ⟨hwo.lt, fun i hi => hwo.same i (by omega), hwo.anti, fun T hT hTa he => ?_⟩
      refine hwo.best T hT hTa (fun i hi => ?_)
      rcases Nat.lt_or_ge i k with h | h
      · exact he i h
      · obtain rfl : i = k := by omega
        rw [hsb i (Nat.le_refl _)]
        cases hTk : T.testBit i
        · rfl
        · exact absurd ((fitU_iff c s i i).2 (fun j hj hsj => by
            have hTj : T.testBit j = true := by rw [he j hj]; exact hsj
            exact ⟨hTa j i hTj hTk, hTa i j hTk hTj⟩)) hf
/-- What LongApart finds is what widest finds. -/
theorem laS_wide (hn : n ≤ 12) (hirr : ∀ v, v < n → (c v).testBit v = false) : laS c n n 0 = wide n c := by
  have h16 : 2 ^ n ≤ 65536 := Nat.le_trans (Nat.pow_le_pow_right (by omega) hn) (by decide)
  have h := laS_ok hn hirr n (Nat.le_refl _) 0 (Nat.two_pow_pos _) (fun i j hi => by simp at hi)
  have hw := wide_small n c
  have hwa := (anti_p hw).1 (wide_most (c := c) (n := n) (2 ^ n)).1
  refine cb_only (Nat.lt_of_lt_of_le h.lt h16) (Nat.lt_of_lt_of_le hw h16) ?_ (h.best _ hw hwa (fun i hi => by omega))
  exact wide_best (2 ^ n) h16 _ h.lt ((anti_p h.lt).2 h.anti)
end
end Go.Proofs.YtkfijolimoehmaaDoor
