/-
  Joined by a program out of: SzpPure, LenPure.
-/
import Derived.Test.YtkfijolimoehmaaDoorMgAP
import Derived.Test.YtkfijolimoehmaaDoorMgAH

/-
  Plain: an order of all: there is one just where nothing is round; the least one keeps what stands ahead; one pair more of two items that are apart.
-/
namespace Go.Proofs.YtkfijolimoehmaaDoor
open Go.RowKit
set_option maxRecDepth 20000

theorem strict_lt {x y t : Nat} (h : Sub x y) (hy : y.testBit t = true) (hx : x.testBit t = false) : x < y := by
  have e : y &&& x = x := by
    apply Nat.eq_of_testBit_eq
    intro j
    rw [Nat.testBit_and]
    cases hj : x.testBit j
    · simp
    · rw [h j hj]; rfl
  have hle : y &&& x ≤ y := Nat.and_le_left
  rw [e] at hle
  rcases Nat.lt_or_ge x y with hlt | hge
  · exact hlt
  · have e2 : x = y := Nat.le_antisymm hle hge
    rw [e2, hy] at hx; cases hx
theorem sumUp_pos {f : Nat → Nat} {i : Nat} (hf : f i ≠ 0) : ∀ {m : Nat}, i < m → sumUp f m ≠ 0
  | 0, h => by omega
  | m + 1, h => by
    rw [sumUp]
    by_cases e : i = m
    · subst e; omega
    · have := sumUp_pos hf (show i < m by omega); omega
theorem sumUp_bound {f : Nat → Nat} {B : Nat} : ∀ {m : Nat}, (∀ i, i < m → f i ≤ B) → sumUp f m ≤ m * B
  | 0, _ => by simp [sumUp]
  | m + 1, h => by
    rw [sumUp, Nat.succ_mul]
    exact Nat.add_le_add (sumUp_bound fun i hi => h i (by omega)) (h m (by omega))

/-- A strict order on the first n items. -/
structure Strict (n : Nat) (c : Nat → Nat) : Prop where
  trans : TransV n c
  irr : ∀ v, v < n → (c v).testBit v = false
  inn : ∀ i, i < n → ∀ j, (c i).testBit j = true → j < n
theorem strict_clo {n : Nat} {a : Nat → Nat} (h : Good n a) (hy : cyc (clo n a) n = false) : Strict n (clo n a) := by
  refine ⟨clo_trans n a, fun v hv => ?_, fun i hi j hj => h.clo_in hi hj⟩
  cases hc : (clo n a v).testBit v
  · rfl
  · have := (cyc_iff (clo n a) n).2 ⟨v, hv, hc⟩
    rw [hy] at this; cases this
theorem Strict.turn {n : Nat} {c : Nat → Nat} (h : Strict n c) : Strict n (rev n c) := by
  refine ⟨fun i hi v hv hiv j hj => ?_, fun v hv => ?_, fun i hi j hj => (rev_at.1 hj).1⟩
  · obtain ⟨_, _, h1⟩ := rev_at.1 hiv
    obtain ⟨hjn, _, h2⟩ := rev_at.1 hj
    exact rev_at.2 ⟨hjn, hi, h.trans j hjn v hv h2 i h1⟩
  · rw [rev_bit, h.irr v hv]; simp

/-- In every set that isn't empty there is one that stands ahead of none of it. -/
theorem Strict.top {n : Nat} {c : Nat → Nat} (h : Strict n c) (S : Nat) : ∀ m x, c x &&& S < m → x < n → S.testBit x = true → ∃ y, y < n ∧ S.testBit y = true ∧ ∀ z, (c y).testBit z = true → S.testBit z = false
  | 0, _, h0, _, _ => by omega
  | m + 1, x, hm, hx, hS => by
    by_cases hz : ∃ z, (c x).testBit z = true ∧ S.testBit z = true
    · obtain ⟨z, h1, h2⟩ := hz
      have hzn := h.inn x hx z h1
      refine h.top S m z (Nat.lt_of_lt_of_le (strict_lt (t := z) (fun t ht => ?_) ?_ ?_) (Nat.le_of_lt_succ hm)) hzn h2
      · rw [Nat.testBit_and, Bool.and_eq_true] at ht ⊢
        exact ⟨h.trans x hx z hzn h1 t ht.1, ht.2⟩
      · rw [Nat.testBit_and, h1, h2]; rfl
      · rw [Nat.testBit_and, h.irr z hzn]; rfl
    · refine ⟨x, hx, hS, fun z h1 => ?_⟩
      cases h2 : S.testBit z
      · rfl
      · exact absurd ⟨z, h1, h2⟩ hz

theorem bit_of_ne {n S : Nat} (h0 : S ≠ 0) (hS : S < 2 ^ n) : ∃ x, x < n ∧ S.testBit x = true := by
  apply Classical.byContradiction
  intro hno
  apply h0
  apply Nat.eq_of_testBit_eq
  intro j
  rw [Nat.zero_testBit]
  cases hj : S.testBit j
  · rfl
  · exfalso
    rcases Nat.lt_or_ge j n with h | h
    · exact hno ⟨j, h, hj⟩
    · rw [Nat.testBit_lt_two_pow (Nat.lt_of_lt_of_le hS (Nat.pow_le_pow_right (by omega) h))] at hj; cases hj

/-- What is closed downwards has an order. -/
theorem fin_pos {n : Nat} {c : Nat → Nat} (h : Strict n c) (hn : n ≤ 12) : ∀ m S, S < m → S < 2 ^ n → (∀ x, x < n → S.testBit x = true → Sub (rev n c x) S) → fin (rev n c) n S ≠ 0
  | 0, _, h0, _, _ => by omega
  | m + 1, S, hm, hS, hd => by
    by_cases h0 : S = 0
    · subst h0; rw [fin_zero]; decide
    · have hp : 2 ^ n ≤ 2 ^ 16 := Nat.pow_le_pow_right (by omega) (by omega)
      have hS' : S < 65536 := Nat.lt_of_lt_of_le hS hp
      obtain ⟨x, hx, hSx⟩ := bit_of_ne h0 hS
      obtain ⟨y, hy, hSy, htop⟩ := h.top S _ x (Nat.lt_succ_self _) hx hSx
      rw [fin_eq h0]
      refine sumUp_pos (i := y) ?_ hy
      rw [lastly_iff (rev_lt hn c) hS' hSy (fun t ht => ?_)]
      · refine fin_pos h hn m (del S y) (by have := del_lt hSy; omega) (Nat.lt_trans (del_lt hSy) hS) (fun z hz hSz t ht => ?_)
        have hzS : S.testBit z = true := del_sub hSy hSz
        have hyt : y ≠ t := fun e => by
          subst e
          have := htop z (rev_at.1 ht).2.2
          rw [hzS] at this; cases this
        rw [del_ne S hyt]
        exact hd z hz hzS t ht
      · have hyt : y ≠ t := fun e => by
          subst e
          have := (rev_at.1 ht).2.2
          rw [h.irr y hy] at this; cases this
        rw [del_ne S hyt]
        exact hd y hy hSy t ht

theorem orders_pos {n : Nat} {a : Nat → Nat} (h : Good n a) (hy : cyc (clo n a) n = false) : orders n a ≠ 0 := by
  unfold orders
  rw [← fin_clo h]
  exact fin_pos (strict_clo h hy) h.le _ (all n) (Nat.lt_succ_self _) (all_lt n) (fun x _ _ t ht => all_bit (rev_at.1 ht).1)

/-! ### How many at most -/
theorem card_le (n S : Nat) : card n S ≤ n := by
  have := sumUp_bound (f := fun i => if S.testBit i = true then 1 else 0) (B := 1) (m := n) (fun i _ => by split <;> omega)
  unfold card; omega
theorem card_del {n S i : Nat} (hi : i < n) (h : S.testBit i = true) : card n S = card n (del S i) + 1 := by
  unfold card
  refine sumUp_one (j := i) ?_ hi (fun k _ hk => ?_)
  · simp [h, del_self h]
  · simp only [del_ne S (fun e => hk e.symm)]
theorem fin_le (b : Nat → Nat) (n : Nat) (hn : n ≤ 12) : ∀ m S, S < m → fin b n S ≤ 12 ^ card n S
  | 0, _, h => by omega
  | m + 1, S, hm => by
    by_cases h0 : S = 0
    · subst h0; rw [fin_zero]; exact Nat.one_le_pow _ _ (by omega)
    · rw [fin_eq h0]
      by_cases hb : ∃ i, i < n ∧ S.testBit i = true
      · obtain ⟨i, hi, hSi⟩ := hb
        have hc := card_del hi hSi
        refine Nat.le_trans (sumUp_bound (B := 12 ^ (card n S - 1)) (fun k hk => ?_)) ?_
        · unfold lastly
          split
          · next hl =>
            have := fin_le b n hn m (del S k) (by have := del_lt hl.1; omega)
            have hc' := card_del hk hl.1
            rw [show card n S - 1 = card n (del S k) by omega]
            exact this
          · exact Nat.zero_le _
        · rw [hc, Nat.add_sub_cancel, Nat.pow_succ, Nat.mul_comm]
          exact Nat.mul_le_mul (Nat.le_refl _) hn
      · rw [sumUp_zero (fun i hi => ?_)]
        · exact Nat.zero_le _
        · unfold lastly
          rw [if_neg (fun h => hb ⟨i, hi, h.1⟩)]
theorem orders_le {n : Nat} (hn : n ≤ 12) (a : Nat → Nat) : orders n a ≤ 8916100448256 := by
  refine Nat.le_trans (fin_le _ n hn _ (all n) (Nat.lt_succ_self _)) (Nat.le_trans (Nat.pow_le_pow_right (by omega) (Nat.le_trans (card_le _ _) hn)) (by decide))
theorem orders_wrap {n : Nat} (hn : n ≤ 12) (a : Nat → Nat) : wrap64 ((orders n a : Nat) : Int) = (orders n a : Nat) := by
  have := orders_le hn a
  simp only [wrap64]
  omega

/-! ### One pair more -/
theorem put_strict {n : Nat} {a : Nat → Nat} (h : Good n a) (hy : cyc (clo n a) n = false) {i j : Nat} (hi : i < n) (hj : j < n) (hij : i ≠ j) (hno : (clo n a i).testBit j = false) : cyc (clo n (put a j i)) n = false := by
  have hs := strict_clo h hy
  have key : ∀ k, k ≤ n → ∀ x y, x < n → (warsh n (put a j i) k x).testBit y = true →
      (clo n a x).testBit y = true ∨ ((x = j ∨ (clo n a x).testBit j = true) ∧ (y = i ∨ (clo n a i).testBit y = true)) := by
    intro k
    induction k with
    | zero =>
      intro _ x y _ hxy
      change (put a j i x).testBit y = true at hxy
      rw [put_bit] at hxy
      simp only [Bool.or_eq_true, Bool.and_eq_true, decide_eq_true_eq] at hxy
      rcases hxy with hxy | ⟨rfl, rfl⟩
      · exact .inl (clo_has n a x y hxy)
      · exact .inr ⟨.inl rfl, .inl rfl⟩
    | succ k ih =>
      intro hk x y hx hxy
      have hkn : k < n := by omega
      change (stepV n (warsh n (put a j i) k) k x).testBit y = true at hxy
      rw [stepV_bit n _ k _ _ hx] at hxy
      simp only [Bool.or_eq_true, Bool.and_eq_true] at hxy
      rcases hxy with hxy | ⟨h1, h2⟩
      · exact ih (by omega) x y hx hxy
      · rcases ih (by omega) x k hx h1 with p1 | ⟨p1, p2⟩
        · rcases ih (by omega) k y hkn h2 with q1 | ⟨q1, q2⟩
          · exact .inl (hs.trans x hx k hkn p1 y q1)
          · refine .inr ⟨.inr ?_, q2⟩
            rcases q1 with rfl | q1
            · exact p1
            · exact hs.trans x hx k hkn p1 j q1
        · rcases ih (by omega) k y hkn h2 with q1 | ⟨q1, q2⟩
          · refine .inr ⟨p1, .inr ?_⟩
            rcases p2 with rfl | p2
            · exact q1
            · exact hs.trans i hi k hkn p2 y q1
          · exfalso
            rcases p2 with rfl | p2
            · rcases q1 with rfl | q1
              · exact hij rfl
              · rw [hno] at q1; cases q1
            · rcases q1 with rfl | q1
              · rw [hno] at p2; cases p2
              · have := hs.trans i hi k hkn p2 j q1
                rw [hno] at this; cases this
  cases hc : cyc (clo n (put a j i)) n with
  | false => rfl
  | true =>
    exfalso
    obtain ⟨v, hv, hvv⟩ := (cyc_iff _ _).1 hc
    rcases key n (Nat.le_refl _) v v hv hvv with p | ⟨p1, p2⟩
    · rw [hs.irr v hv] at p; cases p
    · rcases p2 with rfl | p2
      · rcases p1 with rfl | p1
        · exact hij rfl
        · rw [hno] at p1; cases p1
      · rcases p1 with rfl | p1
        · rw [hno] at p2; cases p2
        · have := hs.trans i hi v hv p2 j p1
          rw [hno] at this; cases this

/-! ### The least order -/
section
variable {n : Nat} {c : Nat → Nat}
theorem card_full {S : Nat} (h : card n S = n) : ∀ x, x < n → S.testBit x = true := by
  intro x hx
  cases hS : S.testBit x
  · exfalso
    have hb : (S ||| 2 ^ x).testBit x = true := by simp
    have h1 := card_del hx hb
    have h2 := card_le n (S ||| 2 ^ x)
    rw [del_or hS] at h1
    omega
  · rfl
theorem card_miss {S : Nat} (h : card n S < n) : ∃ x, x < n ∧ S.testBit x = false := by
  apply Classical.byContradiction
  intro hno
  have h1 : card n S = sumUp (fun _ => 1) n := sumUp_congr fun i hi => by
    cases hb : S.testBit i
    · exact absurd ⟨i, hi, hb⟩ hno
    · simp
  have h2 : ∀ m, sumUp (fun _ => 1) m = m := fun m => by
    induction m with
    | zero => rfl
    | succ m ih => rw [sumUp, ih]
  rw [h2] at h1
  omega

/-- While items are left, one of them may come next. -/
theorem next_is (h : Strict n c) (hn : n ≤ 12) {D : Nat} (hD : D < 65536) (hc : card n D < n) :
    nextOf (rdyUp (rev n c) D n) < n ∧ D.testBit (nextOf (rdyUp (rev n c) D n)) = false ∧ Sub (rev n c (nextOf (rdyUp (rev n c) D n))) D := by
  obtain ⟨x, hx, hDx⟩ := card_miss hc
  obtain ⟨y, hy, hSy, htop⟩ := h.turn.top (65535 - D) _ x (Nat.lt_succ_self _) hx (by rw [not_bit _ _ hD, hDx]; simp; omega)
  rw [not_bit _ _ hD] at hSy
  have hDy : D.testBit y = false := by
    simp only [Bool.and_eq_true, Bool.not_eq_true'] at hSy
    exact hSy.2
  have hsub : Sub (rev n c y) D := fun t ht => by
    have h1 := htop t ht
    rw [not_bit _ _ hD] at h1
    have h2 : t < n := (rev_at.1 ht).1
    cases hDt : D.testBit t
    · rw [hDt] at h1
      simp only [Bool.and_eq_false_iff, decide_eq_false_iff_not] at h1
      rcases h1 with h1 | h1
      · omega
      · cases h1
    · rfl
  have hbit : (rdyUp (rev n c) D n).testBit y = true := by
    rw [rdy_bit]
    simp only [Bool.and_eq_true, decide_eq_true_eq, Bool.not_eq_true']
    exact ⟨hy, hDy, (within_iff (rev_lt hn c y) hD).2 hsub⟩
  have hne : rdyUp (rev n c) D n ≠ 0 := fun e => by rw [e] at hbit; simp at hbit
  have hlt : rdyUp (rev n c) D n < 2 ^ 16 := rdyUp_lt _ _ 16 n (by omega)
  have ht := (tzN_bit 16 _ (Nat.pos_of_ne_zero hne) hlt).1
  unfold nextOf
  rw [if_neg hne]
  rw [rdy_bit] at ht
  simp only [Bool.and_eq_true, decide_eq_true_eq, Bool.not_eq_true'] at ht
  exact ⟨ht.1, ht.2.1, (within_iff (rev_lt hn c _) hD).1 ht.2.2⟩

/-- Item k of the list. -/
def nth (n : Nat) (c : Nat → Nat) (k : Nat) : Nat := nextOf (rdyUp (rev n c) (lsD (rev n c) n k) n)
theorem least_step (h : Strict n c) (hn : n ≤ 12) : ∀ k, k ≤ n → card n (lsD (rev n c) n k) = k ∧ ∀ x, (lsD (rev n c) n k).testBit x = true ↔ ∃ m, m < k ∧ nth n c m = x
  | 0, _ => by
    refine ⟨?_, fun x => ?_⟩
    · show card n 0 = 0
      unfold card
      exact sumUp_zero (fun i _ => by simp)
    · show (0 : Nat).testBit x = true ↔ _
      simp
  | k + 1, hk => by
    obtain ⟨ih1, ih2⟩ := least_step h hn k (by omega)
    obtain ⟨h1, h2, _⟩ := next_is h hn (lsD_lt (rev n c) n k) (by rw [ih1]; omega)
    have h16 : 2 ^ nth n c k % 65536 = 2 ^ nth n c k := Nat.mod_eq_of_lt (Nat.pow_lt_pow_right (n := 16) (by omega) (by unfold nth; omega))
    have hD : lsD (rev n c) n (k + 1) = lsD (rev n c) n k ||| 2 ^ nth n c k := by
      show _ ||| (2 ^ nth n c k % 65536) = _
      rw [h16]
    rw [hD]
    refine ⟨?_, fun x => ?_⟩
    · rw [card_del (i := nth n c k) h1 (by simp), del_or (i := nth n c k) h2, ih1]
    · rw [Nat.testBit_or, Nat.testBit_two_pow, Bool.or_eq_true, ih2, decide_eq_true_eq]
      constructor
      · rintro (⟨m, hm, e⟩ | e)
        · exact ⟨m, by omega, e⟩
        · exact ⟨k, by omega, e⟩
      · rintro ⟨m, hm, e⟩
        rcases Nat.lt_or_ge m k with h' | h'
        · exact .inl ⟨m, h', e⟩
        · obtain rfl : m = k := by omega
          exact .inr e
theorem least_sub (h : Strict n c) (hn : n ≤ 12) {k : Nat} (hk : k < n) : Sub (rev n c (nth n c k)) (lsD (rev n c) n k) :=
  (next_is h hn (lsD_lt (rev n c) n k) (by rw [(least_step h hn k (by omega)).1]; exact hk)).2.2
theorem least_all (h : Strict n c) (hn : n ≤ 12) {x : Nat} (hx : x < n) : ∃ m, m < n ∧ nth n c m = x :=
  ((least_step h hn n (Nat.le_refl _)).2 x).1 (card_full (least_step h hn n (Nat.le_refl _)).1 x hx)
theorem lsL_get (b : Nat → Nat) (n : Nat) : ∀ k m, m < k → (lsL b n k).getD m 0 = (nextOf (rdyUp b (lsD b n m) n) : Int)
  | 0, m, h => by omega
  | k + 1, m, h => by
    have hl := lsL_length b n k
    rw [lsL, List.getD_eq_getElem?_getD]
    by_cases e : m < k
    · rw [List.getElem?_append_left (by omega)]
      have := lsL_get b n k m e
      rwa [List.getD_eq_getElem?_getD] at this
    · obtain rfl : m = k := by omega
      rw [List.getElem?_append_right (by omega), hl]
      simp

/-- r is where v stands in xs first; -1 where it doesn't. -/
def FirstAt (xs : List Int) (v r : Int) : Prop := (∃ k : Nat, r = k ∧ k < xs.length ∧ xs.getD k 0 = v ∧ ∀ j, j < k → xs.getD j 0 ≠ v) ∨ (r = -1 ∧ ∀ j, j < xs.length → xs.getD j 0 ≠ v)
/-- In the least order who stands ahead stands ahead. -/
theorem least_ahead (h : Strict n c) (hn : n ≤ 12) {i j : Nat} (hi : i < n) (hj : j < n) (hc : (c i).testBit j = true) {ri rj : Int} (hri : FirstAt (lsL (rev n c) n n) i ri) (hrj : FirstAt (lsL (rev n c) n n) j rj) : ri < rj := by
  have hlen := lsL_length (rev n c) n n
  rcases hrj with ⟨kj, rfl, hkj, ej, _⟩ | ⟨_, hno⟩
  · rw [hlen] at hkj
    have e1 := lsL_get (rev n c) n n kj hkj
    rw [ej] at e1
    have e2 : nth n c kj = j := by unfold nth; omega
    have hs := least_sub h hn hkj i (by rw [e2]; exact rev_at.2 ⟨hi, hj, hc⟩)
    obtain ⟨m, hm, em⟩ := ((least_step h hn kj (by omega)).2 i).1 hs
    have e3 : (lsL (rev n c) n n).getD m 0 = (i : Int) := by
      rw [lsL_get (rev n c) n n m (by omega)]
      exact congrArg _ em
    rcases hri with ⟨ki, rfl, _, _, hfst⟩ | ⟨_, hno⟩
    · rcases Nat.lt_or_ge m ki with h' | h'
      · exact absurd e3 (hfst m h')
      · omega
    · exact absurd e3 (hno m (by rw [hlen]; omega))
  · obtain ⟨m, hm, em⟩ := least_all h hn hj
    refine absurd ?_ (hno m (by rw [hlen]; exact hm))
    rw [lsL_get (rev n c) n n m hm]
    exact congrArg _ em
end
end Go.Proofs.YtkfijolimoehmaaDoor

/-
  Plain: the length of the longest chain that starts with an item; the rounds that find it; forwards and backwards the longest are as long.
-/
namespace Go.Proofs.YtkfijolimoehmaaDoor
open Go.RowKit
set_option maxRecDepth 20000

/-- The greatest of f over the j below m that s has; no less than 1 + 0. -/
def rowMax (s : Nat) (f : Nat → Nat) : Nat → Nat
  | 0 => 1
  | m + 1 => if s.testBit m = true then max (rowMax s f m) (f m + 1) else rowMax s f m
theorem rowMax_ge {s : Nat} {f : Nat → Nat} {j : Nat} (h : s.testBit j = true) : ∀ {m : Nat}, j < m → f j + 1 ≤ rowMax s f m
  | 0, hj => by omega
  | m + 1, hj => by
    rw [rowMax]
    by_cases e : j = m
    · subst e; rw [if_pos h]; exact Nat.le_max_right _ _
    · have := rowMax_ge (f := f) h (show j < m by omega)
      split
      · exact Nat.le_trans this (Nat.le_max_left _ _)
      · exact this
theorem rowMax_one (s : Nat) (f : Nat → Nat) : ∀ m, 1 ≤ rowMax s f m
  | 0 => Nat.le_refl _
  | m + 1 => by
    rw [rowMax]
    split
    · exact Nat.le_trans (rowMax_one s f m) (Nat.le_max_left _ _)
    · exact rowMax_one s f m
theorem rowMax_is (s : Nat) (f : Nat → Nat) : ∀ m, rowMax s f m = 1 ∨ ∃ j, j < m ∧ s.testBit j = true ∧ rowMax s f m = f j + 1
  | 0 => .inl rfl
  | m + 1 => by
    rw [rowMax]
    by_cases hb : s.testBit m = true
    · rw [if_pos hb]
      by_cases hle : rowMax s f m ≤ f m + 1
      · exact .inr ⟨m, by omega, hb, by omega⟩
      · rcases rowMax_is s f m with e | ⟨j, hj, hs, e⟩
        · exact .inl (by omega)
        · exact .inr ⟨j, by omega, hs, by omega⟩
    · rw [if_neg hb]
      rcases rowMax_is s f m with e | ⟨j, hj, hs, e⟩
      · exact .inl e
      · exact .inr ⟨j, by omega, hs, e⟩
theorem rowMax_congr {s : Nat} {f g : Nat → Nat} : ∀ {m : Nat}, (∀ j, j < m → s.testBit j = true → f j = g j) → rowMax s f m = rowMax s g m
  | 0, _ => rfl
  | m + 1, h => by
    rw [rowMax, rowMax, rowMax_congr (fun j hj hs => h j (by omega) hs)]
    by_cases hb : s.testBit m = true
    · rw [if_pos hb, if_pos hb, h m (by omega) hb]
    · rw [if_neg hb, if_neg hb]

/-- How many there are in the longest chain from item i on. -/
def len (c : Nat → Nat) (n i : Nat) : Nat := rowMax (c i) (fun j => if _h : c j < c i then len c n j else 0) n
termination_by c i
decreasing_by assumption

section
variable {n : Nat} {c : Nat → Nat}
theorem Strict.less (h : Strict n c) {i j : Nat} (hi : i < n) (hij : (c i).testBit j = true) : c j < c i :=
  strict_lt (t := j) (fun t ht => h.trans i hi j (h.inn i hi j hij) hij t ht) hij (h.irr j (h.inn i hi j hij))
theorem len_eq (h : Strict n c) {i : Nat} (hi : i < n) : len c n i = rowMax (c i) (len c n) n := by
  rw [len]
  refine rowMax_congr fun j _ hij => ?_
  rw [dif_pos (h.less hi hij)]
theorem len_one (h : Strict n c) {i : Nat} (hi : i < n) : 1 ≤ len c n i := by rw [len_eq h hi]; exact rowMax_one _ _ _
theorem len_less (h : Strict n c) {i j : Nat} (hi : i < n) (hij : (c i).testBit j = true) : len c n j + 1 ≤ len c n i := by
  rw [len_eq h hi]
  exact rowMax_ge hij (h.inn i hi j hij)
theorem len_is (h : Strict n c) {i : Nat} (hi : i < n) : len c n i = 1 ∨ ∃ j, j < n ∧ (c i).testBit j = true ∧ len c n i = len c n j + 1 := by
  rw [len_eq h hi]
  exact rowMax_is _ _ _
theorem card_sub {S T t : Nat} (ht : t < n) (h : Sub S T) (hT : T.testBit t = true) (hS : S.testBit t = false) : card n S + 1 ≤ card n T := by
  rw [card_del ht hT]
  refine Nat.succ_le_succ (sumUp_le fun i _ => ?_)
  by_cases hb : S.testBit i = true
  · have hti : t ≠ i := fun e => by rw [e, hb] at hS; cases hS
    rw [if_pos hb, if_pos (by rw [del_ne T hti]; exact h i hb)]
    exact Nat.le_refl _
  · rw [if_neg hb]; exact Nat.zero_le _
theorem len_card (h : Strict n c) : ∀ m i, c i < m → i < n → len c n i ≤ card n (c i) + 1
  | 0, _, h0, _ => by omega
  | m + 1, i, hm, hi => by
    rcases len_is h hi with e | ⟨j, hj, hij, e⟩
    · omega
    · have h1 := len_card h m j (by have := h.less hi hij; omega) hj
      have h2 := card_sub (n := n) (S := c j) (T := c i) hj (fun t ht => h.trans i hi j hj hij t ht) hij (h.irr j hj)
      omega
theorem len_le (h : Strict n c) {i : Nat} (hi : i < n) : len c n i ≤ n := by
  have h1 := len_card h _ i (Nat.lt_succ_self _) hi
  have h2 := card_le n (c i)
  rcases Nat.lt_or_ge (card n (c i)) n with h3 | h3
  · omega
  · have := card_full (Nat.le_antisymm h2 h3) i hi
    rw [h.irr i hi] at this; cases this

/-! ### The rounds -/
def updF (f : Nat → Nat) (i x : Nat) : Nat → Nat := fun j => if j = i then x else f j
/-- Item i, with the first m of the others looked at. -/
def inn (c : Nat → Nat) (i : Nat) (f : Nat → Nat) : Nat → Nat → Nat
  | 0 => updF f i 1
  | m + 1 => if (c i).testBit m = true then updF (inn c i f m) i (max (inn c i f m i) (inn c i f m m + 1)) else inn c i f m
def mid (c : Nat → Nat) (n : Nat) (f : Nat → Nat) : Nat → Nat → Nat
  | 0 => f
  | k + 1 => inn c k (mid c n f k) n
def rnd (c : Nat → Nat) (n : Nat) : Nat → Nat → Nat
  | 0 => fun _ => 0
  | r + 1 => mid c n (rnd c n r) n
theorem inn_is (hirr : ∀ v, v < n → (c v).testBit v = false) {i : Nat} (hi : i < n) (f : Nat → Nat) : ∀ m, inn c i f m = updF f i (rowMax (c i) f m)
  | 0 => rfl
  | m + 1 => by
    rw [inn, inn_is hirr hi f m]
    by_cases hb : (c i).testBit m = true
    · have hne : m ≠ i := fun e => by rw [e, hirr i hi] at hb; cases hb
      rw [if_pos hb, rowMax, if_pos hb]
      funext j
      unfold updF
      by_cases e : j = i
      · simp [e, hne]
      · simp [e]
    · rw [if_neg hb, rowMax, if_neg hb]
/-- After r rounds: no more than it is; and no less than r, or what it is. -/
theorem mid_ok (h : Strict n c) {f : Nat → Nat} {r : Nat} (hf : ∀ j, j < n → f j ≤ len c n j ∧ min r (len c n j) ≤ f j) : ∀ k, k ≤ n → ∀ j, j < n →
    mid c n f k j ≤ len c n j ∧ min r (len c n j) ≤ mid c n f k j ∧ (j < k → min (r + 1) (len c n j) ≤ mid c n f k j)
  | 0, _, j, hj => ⟨(hf j hj).1, (hf j hj).2, fun h => by omega⟩
  | k + 1, hk, j, hj => by
    have ih := mid_ok h hf k (by omega)
    have hkn : k < n := by omega
    rw [mid, inn_is h.irr hkn]
    unfold updF
    by_cases e : j = k
    · subst e
      rw [if_pos rfl]
      have hup : rowMax (c j) (mid c n f j) n ≤ len c n j := by
        rcases rowMax_is (c j) (mid c n f j) n with e | ⟨t, ht, hjt, e⟩
        · rw [e]; exact len_one h hj
        · rw [e]
          exact Nat.le_trans (Nat.succ_le_succ (ih t ht).1) (len_less h hj hjt)
      have hlo : min (r + 1) (len c n j) ≤ rowMax (c j) (mid c n f j) n := by
        rcases len_is h hj with e | ⟨t, ht, hjt, e⟩
        · have := rowMax_one (c j) (mid c n f j) n
          omega
        · have h1 := rowMax_ge (f := mid c n f j) hjt ht
          have h2 := (ih t ht).2.1
          omega
      exact ⟨hup, by omega, fun _ => hlo⟩
    · rw [if_neg e]
      obtain ⟨h1, h2, h3⟩ := ih j hj
      exact ⟨h1, h2, fun hjk => h3 (by omega)⟩
theorem rnd_ok (h : Strict n c) : ∀ r j, j < n → rnd c n r j ≤ len c n j ∧ min r (len c n j) ≤ rnd c n r j
  | 0, j, _ => ⟨Nat.zero_le _, by simp⟩
  | r + 1, j, hj => by
    obtain ⟨h1, _, h3⟩ := mid_ok h (rnd_ok h r) n (Nat.le_refl _) j hj
    exact ⟨h1, h3 hj⟩
theorem rnd_len (h : Strict n c) {j : Nat} (hj : j < n) : rnd c n n j = len c n j := by
  obtain ⟨h1, h2⟩ := rnd_ok h n j hj
  have := len_le h hj
  omega
end

/-! ### Bounds along the way -/
theorem inn_bound {c : Nat → Nat} {i B : Nat} {f : Nat → Nat} (hf : ∀ j, f j ≤ B) : ∀ m j, inn c i f m j ≤ B + 1 + m
  | 0, j => by
    rw [inn]; unfold updF
    have := hf j
    split <;> omega
  | m + 1, j => by
    have ih := inn_bound (c := c) (i := i) hf m
    rw [inn]
    split
    · unfold updF
      have h1 := ih i; have h2 := ih m; have h3 := ih j
      split <;> omega
    · have := ih j; omega
theorem mid_bound {c : Nat → Nat} {n B : Nat} {f : Nat → Nat} (hf : ∀ j, f j ≤ B) : ∀ k j, mid c n f k j ≤ B + k * (n + 1)
  | 0, j => by rw [mid]; have := hf j; omega
  | k + 1, j => by
    rw [mid]
    have := inn_bound (c := c) (i := k) (mid_bound (c := c) (n := n) hf k) n j
    rw [Nat.succ_mul]; omega
theorem rnd_bound {c : Nat → Nat} {n : Nat} : ∀ r j, rnd c n r j ≤ r * (n * (n + 1))
  | 0, _ => Nat.zero_le _
  | r + 1, j => by
    rw [rnd]
    have := mid_bound (c := c) (n := n) (rnd_bound (c := c) (n := n) r) n j
    rw [Nat.succ_mul]; exact this

/-! ### Forwards and backwards -/
theorem len_both {n : Nat} {c b : Nat → Nat} (hc : Strict n c) (hb : Strict n b) (hcb : ∀ i j, i < n → (c i).testBit j = true → (b j).testBit i = true) : ∀ m i, c i < m → i < n → ∃ e, e < n ∧ len c n i + len b n i ≤ len b n e + 1
  | 0, _, h0, _ => by omega
  | m + 1, i, hm, hi => by
    rcases len_is hc hi with e | ⟨j, hj, hij, e⟩
    · exact ⟨i, hi, by omega⟩
    · obtain ⟨x, hx, hl⟩ := len_both hc hb hcb m j (by have := hc.less hi hij; omega) hj
      have := len_less hb hj (hcb i j hi hij)
      exact ⟨x, hx, by omega⟩

/-- The greatest of the first m. -/
def maxUp (f : Nat → Nat) : Nat → Nat
  | 0 => 0
  | m + 1 => max (maxUp f m) (f m)
theorem maxUp_ge {f : Nat → Nat} {j : Nat} : ∀ {m : Nat}, j < m → f j ≤ maxUp f m
  | 0, h => by omega
  | m + 1, h => by
    rw [maxUp]
    by_cases e : j = m
    · subst e; exact Nat.le_max_right _ _
    · exact Nat.le_trans (maxUp_ge (show j < m by omega)) (Nat.le_max_left _ _)
theorem maxUp_le {f : Nat → Nat} {B : Nat} : ∀ {m : Nat}, (∀ j, j < m → f j ≤ B) → maxUp f m ≤ B
  | 0, _ => Nat.zero_le _
  | m + 1, h => by
    rw [maxUp]
    exact Nat.max_le.2 ⟨maxUp_le fun j hj => h j (by omega), h m (by omega)⟩
theorem maxUp_is (f : Nat → Nat) : ∀ m, maxUp f m = 0 ∨ ∃ j, j < m ∧ maxUp f m = f j
  | 0 => .inl rfl
  | m + 1 => by
    rw [maxUp]
    by_cases h : maxUp f m ≤ f m
    · exact .inr ⟨m, by omega, by omega⟩
    · rcases maxUp_is f m with e | ⟨j, hj, e⟩
      · exact .inl (by omega)
      · exact .inr ⟨j, by omega, by omega⟩
theorem maxUp_congr {f g : Nat → Nat} : ∀ {m : Nat}, (∀ j, j < m → f j = g j) → maxUp f m = maxUp g m
  | 0, _ => rfl
  | m + 1, h => by rw [maxUp, maxUp, maxUp_congr (fun j hj => h j (by omega)), h m (by omega)]
theorem long_both {n : Nat} {c : Nat → Nat} (h : Strict n c) : maxUp (len c n) n = maxUp (len (rev n c) n) n := by
  have hr := h.turn
  refine Nat.le_antisymm (maxUp_le fun i hi => ?_) (maxUp_le fun i hi => ?_)
  · obtain ⟨e, he, hl⟩ := len_both h hr (fun i j hi hij => rev_at.2 ⟨hi, h.inn i hi j hij, hij⟩) _ i (Nat.lt_succ_self _) hi
    have h1 := len_one hr hi
    have h2 := maxUp_ge (f := len (rev n c) n) he
    omega
  · obtain ⟨e, he, hl⟩ := len_both hr h (fun i j _ hij => (rev_at.1 hij).2.2) _ i (Nat.lt_succ_self _) hi
    have h1 := len_one h hi
    have h2 := maxUp_ge (f := len c n) he
    omega
end Go.Proofs.YtkfijolimoehmaaDoor
