/-
  Joined by a program out of: NthPure, LocalPure.
-/
import Derived.Test.YtecpjeililiafaaDoorMgBM
import Derived.Test.YtecpjeililiafaaDoorMgBK
import Derived.Test.YtecpjeililiafaaDoorMgBL
import Derived.Test.YtecpjeililiafaaDoorMgBA

/-
  Plain: the least order keeps what stands ahead.
-/
namespace Go.Proofs.YtecpjeililiafaaDoor
open Go.RowKit
set_option maxRecDepth 20000

theorem strict_lt {x y t : Nat} (h : Sub x y) (hy : y.testBit t = true) (hx : x.testBit t = false) : x < y := by
  have e : y &&& x = x := by
    apply Nat.eq_of_testBit_eq
    intro j
    rw [Nat.testBit_and]
    cases hj : x.testBit j
    · simp
    · rw [h j hj]; rfl
  have hle : y &&& x ≤ y := Nat.and_le_left
  rw [e] at hle
  rcases Nat.lt_or_ge x y with hlt | hge
  · exact hlt
  · have e2 : x = y := Nat.le_antisymm hle hge
    rw [e2, hy] at hx; cases hx
theorem sumUp_pos {f : Nat → Nat} {i : Nat} (hf : f i ≠ 0) : ∀ {m : Nat}, i < m → sumUp f m ≠ 0
  | 0, h => by omega
  | m + 1, h => by
    rw [sumUp]
    by_cases e : i = m
    · subst e; omega
    · have := sumUp_pos hf (show i < m by omega); omega
theorem sumUp_bound {f : Nat → Nat} {B : Nat} : ∀ {m : Nat}, (∀ i, i < m → f i ≤ B) → sumUp f m ≤ m * B
  | 0, _ => by simp [sumUp]
  | m + 1, h => by
    rw [sumUp, Nat.succ_mul]
    exact Nat.add_le_add (sumUp_bound fun i hi => h i (by omega)) (h m (by omega))

/-- A strict order on the first n items. -/
structure Strict (n : Nat) (c : Nat → Nat) : Prop where
  trans : TransV n c
  irr : ∀ v, v < n → (c v).testBit v = false
  inn : ∀ i, i < n → ∀ j, (c i).testBit j = true → j < n
theorem strict_clo {n : Nat} {a : Nat → Nat} (h : Good n a) (hy : cyc (clo n a) n = false) : Strict n (clo n a) := by
  refine ⟨clo_trans n a, fun v hv => ?_, fun i hi j hj => h.clo_in hi hj⟩
  cases hc : (clo n a v).testBit v
  · rfl
  · have := (cyc_iff (clo n a) n).2 ⟨v, hv, hc⟩
    rw [hy] at this; cases this
theorem Strict.turn {n : Nat} {c : Nat → Nat} (h : Strict n c) : Strict n (rev n c) := by
  refine ⟨fun i hi v hv hiv j hj => ?_, fun v hv => ?_, fun i hi j hj => (rev_at.1 hj).1⟩
  · obtain ⟨_, _, h1⟩ := rev_at.1 hiv
    obtain ⟨hjn, _, h2⟩ := rev_at.1 hj
    exact rev_at.2 ⟨hjn, hi, h.trans j hjn v hv h2 i h1⟩
  · rw [rev_bit, h.irr v hv]; simp

/-- In every set that isn't empty there is one that stands ahead of none of it. -/
theorem Strict.top {n : Nat} {c : Nat → Nat} (h : Strict n c) (S : Nat) : ∀ m x, c x &&& S < m → x < n → S.testBit x = true → ∃ y, y < n ∧ S.testBit y = true ∧ ∀ z, (c y).testBit z = true → S.testBit z = false
  | 0, _, h0, _, _ => by omega
  | m + 1, x, hm, hx, hS => by
    by_cases hz : ∃ z, (c x).testBit z = true ∧ S.testBit z = true
    · obtain ⟨z, h1, h2⟩ := hz
      have hzn := h.inn x hx z h1
      refine h.top S m z (Nat.lt_of_lt_of_le (strict_lt (t := z) (fun t ht => ?_) ?_ ?_) (Nat.le_of_lt_succ hm)) hzn h2
      · rw [Nat.testBit_and, Bool.and_eq_true] at ht ⊢
        exact ⟨h.trans x hx z hzn h1 t ht.1, ht.2⟩
      · rw [Nat.testBit_and, h1, h2]; rfl
      · rw [Nat.testBit_and, h.irr z hzn]; rfl
    · refine ⟨x, hx, hS, fun z h1 => ?_⟩
      cases h2 : S.testBit z
      · rfl
      · exact absurd ⟨z, h1, h2⟩ hz

theorem card_le (n S : Nat) : card n S ≤ n := by
  have := sumUp_bound (f := fun i => if S.testBit i = true then 1 else 0) (B := 1) (m := n) (fun i _ => by split <;> omega)
  unfold card; omega
theorem card_del {n S i : Nat} (hi : i < n) (h : S.testBit i = true) : card n S = card n (del S i) + 1 := by
  unfold card
  refine sumUp_one (j := i) ?_ hi (fun k _ hk => ?_)
  · simp [h, del_self h]
  · simp only [del_ne S (fun e => hk e.symm)]
/-! ### The least order -/
section
variable {n : Nat} {c : Nat → Nat}
theorem card_full {S : Nat} (h : card n S = n) : ∀ x, x < n → S.testBit x = true := by
  intro x hx
  cases hS : S.testBit x
  · exfalso
    have hb : (S ||| 2 ^ x).testBit x = true := by simp
    have h1 := card_del hx hb
    have h2 := card_le n (S ||| 2 ^ x)
    rw [del_or hS] at h1
    omega
  · rfl
theorem card_miss {S : Nat} (h : card n S < n) : ∃ x, x < n ∧ S.testBit x = false := by
  apply Classical.byContradiction
  intro hno
  have h1 : card n S = sumUp (fun _ => 1) n := sumUp_congr fun i hi => by
    cases hb : S.testBit i
    · exact absurd ⟨i, hi, hb⟩ hno
    · simp
  have h2 : ∀ m, sumUp (fun _ => 1) m = m := fun m => by
    induction m with
    | zero => rfl
    | succ m ih => rw [sumUp, ih]
  rw [h2] at h1
  omega

/-- While items are left, one of them may come next. -/
theorem next_is (h : Strict n c) (hn : n ≤ 12) {D : Nat} (hD : D < 65536) (hc : card n D < n) :
    nextOf (rdyUp (rev n c) D n) < n ∧ D.testBit (nextOf (rdyUp (rev n c) D n)) = false ∧ Sub (rev n c (nextOf (rdyUp (rev n c) D n))) D := by
  obtain ⟨x, hx, hDx⟩ := card_miss hc
  obtain ⟨y, hy, hSy, htop⟩ := h.turn.top (65535 - D) _ x (Nat.lt_succ_self _) hx (by rw [not_bit _ _ hD, hDx]; simp; omega)
  rw [not_bit _ _ hD] at hSy
  have hDy : D.testBit y = false := by
    simp only [Bool.and_eq_true, Bool.not_eq_true'] at hSy
    exact hSy.2
  have hsub : Sub (rev n c y) D := fun t ht => by
    have h1 := htop t ht
    rw [not_bit _ _ hD] at h1
    have h2 : t < n := (rev_at.1 ht).1
    cases hDt : D.testBit t
    · rw [hDt] at h1
      simp only [Bool.and_eq_false_iff, decide_eq_false_iff_not] at h1
      rcases h1 with h1 | h1
      · omega
      · cases h1
    · rfl
  have hbit : (rdyUp (rev n c) D n).testBit y = true := by
    rw [rdy_bit]
    simp only [Bool.and_eq_true, decide_eq_true_eq, Bool.not_eq_true']
    exact ⟨hy, hDy, (within_iff (rev_lt hn c y) hD).2 hsub⟩
  have hne : rdyUp (rev n c) D n ≠ 0 := fun e => by rw [e] at hbit; simp at hbit
  have hlt : rdyUp (rev n c) D n < 2 ^ 16 := rdyUp_lt _ _ 16 n (by omega)
  have ht := (tzN_bit 16 _ (Nat.pos_of_ne_zero hne) hlt).1
  unfold nextOf
  rw [if_neg hne]
  rw [rdy_bit] at ht
  simp only [Bool.and_eq_true, decide_eq_true_eq, Bool.not_eq_true'] at ht
  exact ⟨ht.1, ht.2.1, (within_iff (rev_lt hn c _) hD).1 ht.2.2⟩

/-- Item k of the list. -/
def nth (n : Nat) (c : Nat → Nat) (k : Nat) : Nat := nextOf (rdyUp (rev n c) (lsD (rev n c) n k) n)
theorem least_step (h : Strict n c) (hn : n ≤ 12) : ∀ k, k ≤ n → card n (lsD (rev n c) n k) = k ∧ ∀ x, (lsD (rev n c) n k).testBit x = true ↔ ∃ m, m < k ∧ nth n c m = x
  | 0, _ => by
    refine ⟨?_, fun x => ?_⟩
    · show card n 0 = 0
      unfold card
      exact sumUp_zero (fun i _ => by simp)
    · show (0 : Nat).testBit x = true ↔ _
      simp
  | k + 1, hk => by
    obtain ⟨ih1, ih2⟩ := least_step h hn k (by omega)
    obtain ⟨h1, h2, _⟩ := next_is h hn (lsD_lt (rev n c) n k) (by rw [ih1]; omega)
    have h16 : 2 ^ nth n c k % 65536 = 2 ^ nth n c k := Nat.mod_eq_of_lt (Nat.pow_lt_pow_right (n := 16) (by omega) (by unfold nth; omega))
    have hD : lsD (rev n c) n (k + 1) = lsD (rev n c) n k ||| 2 ^ nth n c k := by
      show _ ||| (2 ^ nth n c k % 65536) = _
      rw [h16]
    rw [hD]
    refine ⟨?_, fun x => ?_⟩
    · rw [card_del (i := nth n c k) h1 (by simp), del_or (i := nth n c k) h2, ih1]
    · rw [Nat.testBit_or, Nat.testBit_two_pow, Bool.or_eq_true, ih2, decide_eq_true_eq]
      constructor
      · rintro (⟨m, hm, e⟩ | e)
        · exact ⟨m, by omega, e⟩
        · exact ⟨k, by omega, e⟩
      · rintro ⟨m, hm, e⟩
        rcases Nat.lt_or_ge m k with h' | h'
        · exact .inl ⟨m, h', e⟩
        · obtain rfl : m = k := by omega
          exact .inr e
theorem least_sub (h : Strict n c) (hn : n ≤ 12) {k : Nat} (hk : k < n) : Sub (rev n c (nth n c k)) (lsD (rev n c) n k) :=
  (next_is h hn (lsD_lt (rev n c) n k) (by rw [(least_step h hn k (by omega)).1]; exact hk)).2.2
theorem least_all (h : Strict n c) (hn : n ≤ 12) {x : Nat} (hx : x < n) : ∃ m, m < n ∧ nth n c m = x :=
  ((least_step h hn n (Nat.le_refl _)).2 x).1 (card_full (least_step h hn n (Nat.le_refl _)).1 x hx)
theorem lsL_get (b : Nat → Nat) (n : Nat) : ∀ k m, m < k → (lsL b n k).getD m 0 = (nextOf (rdyUp b (lsD b n m) n) : Int)
  | 0, m, h => by omega
  | k + 1, m, h => by
    have hl := lsL_length b n k
    rw [lsL, List.getD_eq_getElem?_getD]
    by_cases e : m < k
    · rw [List.getElem?_append_left (by omega)]
      have := lsL_get b n k m e
      rwa [List.getD_eq_getElem?_getD] at this
    · obtain rfl : m = k := by omega
      rw [List.getElem?_append_right (by omega), hl]
      simp

/-- r is where v stands in xs first; -1 where it doesn't. -/
def FstAt (xs : List Int) (v r : Int) : Prop := (∃ k : Nat, r = k ∧ k < xs.length ∧ xs.getD k 0 = v ∧ ∀ j, j < k → xs.getD j 0 ≠ v) ∨ (r = -1 ∧ ∀ j, j < xs.length → xs.getD j 0 ≠ v)
/-- In the least order who stands ahead stands ahead. -/
theorem least_ahead (h : Strict n c) (hn : n ≤ 12) {i j : Nat} (hi : i < n) (hj : j < n) (hc : (c i).testBit j = true) {ri rj : Int} (hri : FstAt (lsL (rev n c) n n) i ri) (hrj : FstAt (lsL (rev n c) n n) j rj) : ri < rj := by
  have hlen := lsL_length (rev n c) n n
  rcases hrj with ⟨kj, rfl, hkj, ej, _⟩ | ⟨_, hno⟩
  · rw [hlen] at hkj
    have e1 := lsL_get (rev n c) n n kj hkj
    rw [ej] at e1
    have e2 : nth n c kj = j := by unfold nth; omega
    have hs := least_sub h hn hkj i (by rw [e2]; exact rev_at.2 ⟨hi, hj, hc⟩)
    obtain ⟨m, hm, em⟩ := ((least_step h hn kj (by omega)).2 i).1 hs
    have e3 : (lsL (rev n c) n n).getD m 0 = (i : Int) := by
      rw [lsL_get (rev n c) n n m (by omega)]
      exact congrArg _ em
    rcases hri with ⟨ki, rfl, _, _, hfst⟩ | ⟨_, hno⟩
    · rcases Nat.lt_or_ge m ki with h' | h'
      · exact absurd e3 (hfst m h')
      · omega
    · exact absurd e3 (hno m (by rw [hlen]; omega))
  · obtain ⟨m, hm, em⟩ := least_all h hn hj
    refine absurd ?_ (hno m (by rw [hlen]; exact hm))
    rw [lsL_get (rev n c) n n m hm]
    exact congrArg _ em
end
end Go.Proofs.YtecpjeililiafaaDoor

/-
  Plain: locality. A right order of the whole is, thing by thing, a right order of each part; and right orders of the parts are joined to one of the whole (Herlihy, Wing).
-/
namespace Go.Proofs.YtecpjeililiafaaDoor
open Go.RowKit
set_option maxRecDepth 20000

/-- A right order of what thing t was asked, with the numbers of the whole. -/
structure RiteT (ts : List Int) (cs : List Cl) (t : Nat) (w : List (Int × Int)) : Prop where
  rng : ∀ x ∈ w, 0 ≤ x.1 ∧ x.1 < cs.length
  own : ∀ x ∈ w, (atC cs x).thing.toNat = t
  once : (w.map (·.1)).Nodup
  res : ∀ x ∈ w, (atC cs x).til ≠ -1 → (atC cs x).res = x.2
  all : ∀ i, i < cs.length → (cs.getD i default).thing.toNat = t → (cs.getD i default).til ≠ -1 → (i : Int) ∈ w.map (·.1)
  ord : ∀ i j, i < cs.length → j < cs.length → (cs.getD i default).thing.toNat = t → aheadB cs i j = true → ∀ a y b, w = a ++ y :: b → y.1 = (j : Int) → (i : Int) ∈ a.map (·.1)
  goes : goesB (ts.getD t 0) (beginL (ts.getD t 0)) (w.map (ddC cs)) = true

/-- The steps of thing t. -/
def ownW (cs : List Cl) (t : Nat) (ws : List (Int × Int)) : List (Int × Int) := ws.filter fun x => (atC cs x).thing.toNat == t
theorem ownW_mem {cs : List Cl} {t : Nat} {ws : List (Int × Int)} {x : Int × Int} : x ∈ ownW cs t ws ↔ x ∈ ws ∧ (atC cs x).thing.toNat = t := by
  unfold ownW
  rw [List.mem_filter, beq_iff_eq]
theorem ownW_map (cs : List Cl) (t : Nat) (ws : List (Int × Int)) : (ownW cs t ws).map (ddC cs) = ownD cs t ws := rfl
theorem atC_of {cs : List Cl} {x : Int × Int} {i : Nat} (h : x.1 = (i : Int)) : atC cs x = cs.getD i default := by unfold atC; rw [h]; rfl

theorem filter_split {α : Type} {p : α → Bool} : ∀ {l a : List α} {y : α} {b : List α}, l.filter p = a ++ y :: b → ∃ a' b', l = a' ++ y :: b' ∧ a'.filter p = a
  | [], a, y, b, h => by
    cases a <;> cases h
  | z :: l, a, y, b, h => by
    rw [List.filter_cons] at h
    split at h
    · cases a with
      | nil =>
        injection h with h1 h2
        exact ⟨[], l, by rw [h1]; rfl, rfl⟩
      | cons c a =>
        injection h with h1 h2
        obtain ⟨a', b', e1, e2⟩ := filter_split h2
        subst h1
        refine ⟨z :: a', b', by rw [e1]; rfl, ?_⟩
        rename_i hz
        rw [List.filter_cons, if_pos hz, e2]
    · obtain ⟨a', b', e1, e2⟩ := filter_split h
      rename_i hz
      refine ⟨z :: a', b', by rw [e1]; rfl, ?_⟩
      rw [List.filter_cons, if_neg hz, e2]

/-- Thing by thing a right order is right. -/
theorem Rite.part {ts : List Int} {cs : List Cl} {ws : List (Int × Int)} (h : Rite ts cs ws) {t : Nat} (ht : t < ts.length) : RiteT ts cs t (ownW cs t ws) where
  rng x hx := h.rng x (ownW_mem.1 hx).1
  own x hx := (ownW_mem.1 hx).2
  once := h.once.sublist ((List.filter_sublist).map _)
  res x hx := h.res x (ownW_mem.1 hx).1
  all i hi hth hti := by
    obtain ⟨x, hx, e⟩ := List.mem_map.1 (h.all i hi hti)
    exact List.mem_map.2 ⟨x, ownW_mem.2 ⟨hx, by rw [atC_of e]; exact hth⟩, e⟩
  ord i j hi hj hth ha a y b hs hy := by
    obtain ⟨a', b', e1, e2⟩ := filter_split hs
    obtain ⟨x, hx, e⟩ := List.mem_map.1 (h.ord i j hi hj ha a' y b' e1 hy)
    refine List.mem_map.2 ⟨x, ?_, e⟩
    rw [← e2, List.mem_filter]
    exact ⟨hx, by rw [beq_iff_eq, atC_of e]; exact hth⟩
  goes := h.goes t ht

/-- What keeps 'ahead of' and is right thing by thing is right. -/
theorem rite_join {ts : List Int} {cs : List Cl} {ws : List (Int × Int)} (hth : ∀ c ∈ cs, 0 ≤ c.thing ∧ c.thing < ts.length) (hr : ∀ x ∈ ws, 0 ≤ x.1 ∧ x.1 < cs.length)
    (hp : ∀ t, t < ts.length → RiteT ts cs t (ownW cs t ws))
    (ho : ∀ i j, i < cs.length → j < cs.length → aheadB cs i j = true → ∀ a y b, ws = a ++ y :: b → y.1 = (j : Int) → (i : Int) ∈ a.map (·.1)) : Rite ts cs ws where
  rng := hr
  once := by
    have hpw : ∀ (l : List (Int × Int)), (∀ x ∈ l, x ∈ ws) → l.Sublist ws → (l.map (·.1)).Nodup := by
      intro l
      induction l with
      | nil => intro _ _; exact List.nodup_nil
      | cons x l ih =>
        intro hm hs
        rw [List.map_cons, List.nodup_cons]
        refine ⟨fun hx => ?_, ih (fun y hy => hm y (List.mem_cons_of_mem _ hy)) ((List.sublist_cons_self _ _).trans hs)⟩
        obtain ⟨y, hy, e⟩ := List.mem_map.1 hx
        have e2 : (atC cs y).thing.toNat = (atC cs x).thing.toNat := by unfold atC; rw [e]
        have ht := atC_thing hth (hr x (hm x (List.mem_cons_self ..)))
        have h1 := (hp (atC cs x).thing.toNat (by omega)).once
        have h2 : (ownW cs (atC cs x).thing.toNat (x :: l)).Sublist (ownW cs (atC cs x).thing.toNat ws) := hs.filter _
        have h3 := h1.sublist (h2.map (·.1))
        rw [show ownW cs (atC cs x).thing.toNat (x :: l) = x :: ownW cs (atC cs x).thing.toNat l by unfold ownW; rw [List.filter_cons, if_pos (by rw [beq_iff_eq])], List.map_cons, List.nodup_cons] at h3
        exact h3.1 (List.mem_map.2 ⟨y, ownW_mem.2 ⟨hy, e2⟩, e⟩)
    exact hpw ws (fun x h => h) (List.Sublist.refl _)
  res x hx := (hp _ (by have := atC_thing hth (hr x hx); omega)).res x (ownW_mem.2 ⟨hx, rfl⟩)
  all i hi hti := by
    have hm : cs.getD i default ∈ cs := by rw [List.getD_eq_getElem?_getD, List.getElem?_eq_getElem hi]; exact List.getElem_mem _
    have := hth _ hm
    obtain ⟨x, hx, e⟩ := List.mem_map.1 ((hp (cs.getD i default).thing.toNat (by omega)).all i hi rfl hti)
    exact List.mem_map.2 ⟨x, (ownW_mem.1 hx).1, e⟩
  ord := ho
  goes t ht := (hp t ht).goes

/-- Each step with the latest begin among it and those before it. -/
def tauF (cs : List Cl) : Int → List (Int × Int) → List (Int × (Int × Int))
  | _, [] => []
  | m, x :: r => (max m (atC cs x).frm, x) :: tauF cs (max m (atC cs x).frm) r
theorem tauF_map (cs : List Cl) : ∀ (w : List (Int × Int)) (m : Int), (tauF cs m w).map (·.2) = w
  | [], _ => rfl
  | x :: r, m => by rw [tauF, List.map_cons, tauF_map cs r]
theorem tauF_ge (cs : List Cl) : ∀ (w : List (Int × Int)) (m : Int), ∀ q ∈ tauF cs m w, m ≤ q.1
  | [], _, q, h => by cases h
  | x :: r, m, q, h => by
    rw [tauF, List.mem_cons] at h
    rcases h with rfl | h
    · simp only; omega
    · have := tauF_ge cs r _ q h
      omega
theorem tauF_up (cs : List Cl) : ∀ (w : List (Int × Int)) (m : Int), (tauF cs m w).Pairwise fun a b => decide (a.1 ≤ b.1) = true
  | [], _ => List.Pairwise.nil
  | x :: r, m => by
    rw [tauF, List.pairwise_cons]
    exact ⟨fun q hq => decide_eq_true (tauF_ge cs r _ q hq), tauF_up cs r _⟩
theorem tauF_at (cs : List Cl) : ∀ (w : List (Int × Int)) (m : Int), ∀ q ∈ tauF cs m w, ∃ a b, w = a ++ q.2 :: b ∧ (atC cs q.2).frm ≤ q.1 ∧ ∀ B, m ≤ B → (∀ y ∈ a, (atC cs y).frm ≤ B) → (atC cs q.2).frm ≤ B → q.1 ≤ B
  | [], _, q, h => by cases h
  | x :: r, m, q, h => by
    rw [tauF, List.mem_cons] at h
    rcases h with rfl | h
    · exact ⟨[], r, rfl, by simp only; omega, fun B h1 _ h3 => by simp only at h3 ⊢; omega⟩
    · obtain ⟨a, b, e, h1, h2⟩ := tauF_at cs r _ q h
      refine ⟨x :: a, b, by rw [e]; rfl, h1, fun B hB ha hq => h2 B ?_ (fun y hy => ha y (List.mem_cons_of_mem _ hy)) hq⟩
      have := ha x (List.mem_cons_self ..)
      omega
/-- The latest begin is no later than the step's own end. -/
theorem tauF_til {ts : List Int} {cs : List Cl} {t : Nat} {w : List (Int × Int)} (hw : RiteT ts cs t w) (he : ∀ c ∈ cs, c.til = -1 ∨ c.frm < c.til) (h0 : ∀ c ∈ cs, 0 ≤ c.frm) {q : Int × (Int × Int)} (hq : q ∈ tauF cs (-1) w) (hti : (atC cs q.2).til ≠ -1) : q.1 ≤ (atC cs q.2).til := by
  obtain ⟨a, b, e, _, h2⟩ := tauF_at cs w _ q hq
  have hm : q.2 ∈ w := by rw [e]; simp
  have hg : ∀ x ∈ w, atC cs x ∈ cs := fun x hx => by
    have := hw.rng x hx
    unfold atC
    rw [List.getD_eq_getElem?_getD, List.getElem?_eq_getElem (by omega : x.1.toNat < cs.length)]
    exact List.getElem_mem _
  have hend := he _ (hg _ hm)
  have hb := h0 _ (hg _ hm)
  refine h2 _ (by omega) (fun y hy => ?_) (by omega)
  refine Classical.byContradiction fun hlt => ?_
  have hyw : y ∈ w := by rw [e]; exact List.mem_append.2 (.inl hy)
  have r1 := hw.rng _ hm
  have r2 := hw.rng _ hyw
  obtain ⟨a1, b1, e1⟩ := List.append_of_mem hy
  have hah : aheadB cs q.2.1.toNat y.1.toNat = true := decide_eq_true ⟨hti, by unfold atC at hlt; omega⟩
  have h3 := hw.ord q.2.1.toNat y.1.toNat (by omega) (by omega) (hw.own _ hm) hah a1 y (b1 ++ q.2 :: b) (by rw [e, e1]; simp) (by omega)
  have hnd := hw.once
  rw [e, e1, List.map_append, List.map_append] at hnd
  obtain ⟨z, hz, ez⟩ := List.mem_map.1 h3
  have h4 := (List.nodup_append.1 hnd).2.2 z.1 (List.mem_append.2 (.inl (List.mem_map.2 ⟨z, hz, rfl⟩))) q.2.1 (by simp)
  exact h4 (by omega)

/-- All parts' steps, by time. -/
def joinT (cs : List Cl) (T : Nat) (w : Nat → List (Int × Int)) : List (Int × (Int × Int)) :=
  ((List.range T).flatMap fun t => tauF cs (-1) (w t)).mergeSort fun a b => decide (a.1 ≤ b.1)
theorem flat_one {α : Type} {f : Nat → List α} {t : Nat} (h : ∀ k, k ≠ t → f k = []) : ∀ T, (List.range T).flatMap f = if t < T then f t else []
  | 0 => by simp
  | T + 1 => by
    rw [List.range_succ, List.flatMap_append, flat_one h T, List.flatMap_cons, List.flatMap_nil, List.append_nil]
    by_cases e : T = t
    · subst e
      rw [if_neg (by omega), if_pos (by omega), List.nil_append]
    · rw [h T e, List.append_nil]
      by_cases h2 : t < T
      · rw [if_pos h2, if_pos (by omega)]
      · rw [if_neg h2, if_neg (by omega)]
theorem joinT_own {ts : List Int} {cs : List Cl} {w : Nat → List (Int × Int)} {T t : Nat} (hw : ∀ k, k < T → RiteT ts cs k (w k)) (ht : t < T) : ownW cs t ((joinT cs T w).map (·.2)) = w t := by
  have hin : ∀ k, k < T → ∀ q ∈ tauF cs (-1) (w k), (atC cs q.2).thing.toNat = k := fun k hk q hq => (hw k hk).own _ (by
    have : q.2 ∈ (tauF cs (-1) (w k)).map (·.2) := List.mem_map.2 ⟨q, hq, rfl⟩
    rwa [tauF_map] at this)
  have key : (joinT cs T w).filter (fun q => (atC cs q.2).thing.toNat == t) = tauF cs (-1) (w t) := by
    have hself : (tauF cs (-1) (w t)).filter (fun q => (atC cs q.2).thing.toNat == t) = tauF cs (-1) (w t) := List.filter_eq_self.2 fun q hq => by rw [beq_iff_eq]; exact hin t ht q hq
    have hflat : ((List.range T).flatMap fun k => tauF cs (-1) (w k)).filter (fun q => (atC cs q.2).thing.toNat == t) = tauF cs (-1) (w t) := by
      rw [List.filter_flatMap]
      have : (List.range T).flatMap (fun k => (tauF cs (-1) (w k)).filter (fun q => (atC cs q.2).thing.toNat == t)) = (List.range T).flatMap (fun k => if k = t then tauF cs (-1) (w t) else []) := by
        rw [List.flatMap_def, List.flatMap_def]
        refine congrArg List.flatten (List.map_congr_left fun k hk => ?_)
        have hk := List.mem_range.1 hk
        by_cases e : k = t
        · subst e; rw [if_pos rfl, hself]
        · rw [if_neg e, List.filter_eq_nil_iff]
          intro q hq
          rw [beq_iff_eq, hin k hk q hq]
          exact e
      rw [this, flat_one (t := t) (fun k hk => if_neg hk), if_pos ht, if_pos rfl]
    have hsub : (tauF cs (-1) (w t)).Sublist (joinT cs T w) := List.sublist_mergeSort (fun a b c h1 h2 => by simp only [decide_eq_true_eq] at *; omega) (fun a b => by simp only [Bool.or_eq_true, decide_eq_true_eq]; omega) (tauF_up cs _ _) (by
      refine List.sublist_flatten_of_mem ?_
      exact List.mem_map.2 ⟨t, List.mem_range.2 ht, rfl⟩)
    have h1 := hsub.filter (fun q => (atC cs q.2).thing.toNat == t)
    rw [hself] at h1
    refine (h1.eq_of_length ?_).symm
    have h2 := ((List.mergeSort_perm ((List.range T).flatMap fun k => tauF cs (-1) (w k)) (fun a b => decide (a.1 ≤ b.1))).filter (fun q => (atC cs q.2).thing.toNat == t)).length_eq
    rw [hflat] at h2
    exact h2.symm
  have h9 : ownW cs t ((joinT cs T w).map (·.2)) = ((joinT cs T w).filter (fun q => (atC cs q.2).thing.toNat == t)).map (·.2) := by
    unfold ownW
    rw [List.filter_map]
    rfl
  rw [h9, key, tauF_map]
theorem joinT_mem {cs : List Cl} {w : Nat → List (Int × Int)} {T : Nat} {q : Int × (Int × Int)} : q ∈ joinT cs T w ↔ ∃ t, t < T ∧ q ∈ tauF cs (-1) (w t) := by
  unfold joinT
  rw [(List.mergeSort_perm _ _).mem_iff, List.mem_flatMap]
  exact ⟨fun ⟨t, h1, h2⟩ => ⟨t, List.mem_range.1 h1, h2⟩, fun ⟨t, h1, h2⟩ => ⟨t, List.mem_range.2 h1, h2⟩⟩
/-- HERLIHY, WING: right orders of the parts can be joined to one of the whole, in which each part stands as it stood. -/
theorem local_join {ts : List Int} {cs : List Cl} (hth : ∀ c ∈ cs, 0 ≤ c.thing ∧ c.thing < ts.length) (he : ∀ c ∈ cs, c.til = -1 ∨ c.frm < c.til) (h0 : ∀ c ∈ cs, 0 ≤ c.frm)
    {w : Nat → List (Int × Int)} (hw : ∀ t, t < ts.length → RiteT ts cs t (w t)) : ∃ ws, Rite ts cs ws ∧ ∀ t, t < ts.length → ownW cs t ws = w t := by
  have hown := fun t ht => joinT_own hw (t := t) ht
  have hin : ∀ q ∈ joinT cs ts.length w, ∃ t, t < ts.length ∧ q ∈ tauF cs (-1) (w t) ∧ q.2 ∈ w t := fun q hq => by
    obtain ⟨t, ht, h1⟩ := joinT_mem.1 hq
    refine ⟨t, ht, h1, ?_⟩
    have : q.2 ∈ (tauF cs (-1) (w t)).map (·.2) := List.mem_map.2 ⟨q, h1, rfl⟩
    rwa [tauF_map] at this
  refine ⟨(joinT cs ts.length w).map (·.2), rite_join hth (fun x hx => ?_) (fun t ht => ?_) (fun i j hi hj ha a y b hs hy => ?_), hown⟩
  · obtain ⟨q, hq, rfl⟩ := List.mem_map.1 hx
    obtain ⟨t, ht, _, h2⟩ := hin q hq
    exact (hw t ht).rng _ h2
  · rw [hown t ht]
    exact hw t ht
  · obtain ⟨A, B, e1, e2, e3⟩ := List.map_eq_append_iff.1 hs
    obtain ⟨q, B', rfl, rfl, rfl⟩ := List.map_eq_cons_iff.1 e3
    have hah := of_decide_eq_true ha
    have hm : cs.getD i default ∈ cs := by rw [List.getD_eq_getElem?_getD, List.getElem?_eq_getElem hi]; exact List.getElem_mem _
    have hti := hth _ hm
    obtain ⟨x, hx, ex⟩ := List.mem_map.1 ((hw (cs.getD i default).thing.toNat (by omega)).all i hi rfl hah.1)
    have hx2 : x ∈ (tauF cs (-1) (w (cs.getD i default).thing.toNat)).map (·.2) := by rw [tauF_map]; exact hx
    obtain ⟨q1, hq1, rfl⟩ := List.mem_map.1 hx2
    have hj1 : q1 ∈ joinT cs ts.length w := joinT_mem.2 ⟨_, by omega, hq1⟩
    have hle := tauF_til (hw (cs.getD i default).thing.toNat (by omega)) he h0 hq1 (by rw [atC_of ex]; exact hah.1)
    rw [atC_of ex] at hle
    obtain ⟨t2, ht2, hq2, _⟩ := hin q (by rw [e1]; simp)
    obtain ⟨_, _, _, hge, _⟩ := tauF_at cs _ _ q hq2
    rw [atC_of hy] at hge
    have hlt : q1.1 < q.1 := by omega
    have hpw : (joinT cs ts.length w).Pairwise fun a b => decide (a.1 ≤ b.1) = true := List.pairwise_mergeSort (fun a b c h1 h2 => by simp only [decide_eq_true_eq] at *; omega) (fun a b => by simp only [Bool.or_eq_true, decide_eq_true_eq]; omega) _
    rw [e1] at hj1 hpw
    rcases List.mem_append.1 hj1 with h | h
    · rw [← e2]
      exact List.mem_map.2 ⟨q1.2, List.mem_map.2 ⟨q1, h, rfl⟩, ex⟩
    · exfalso
      rcases List.mem_cons.1 h with rfl | h
      · omega
      · have h5 := (List.pairwise_cons.1 (List.pairwise_append.1 hpw).2.1).1 q1 h
        have := of_decide_eq_true h5
        omega
/-- HERLIHY, WING: there is a right order of the whole just if there is one of each part. -/
theorem local_iff {ts : List Int} {cs : List Cl} (hth : ∀ c ∈ cs, 0 ≤ c.thing ∧ c.thing < ts.length) (he : ∀ c ∈ cs, c.til = -1 ∨ c.frm < c.til) (h0 : ∀ c ∈ cs, 0 ≤ c.frm) :
    (∃ ws, Rite ts cs ws) ↔ ∀ t, t < ts.length → ∃ w, RiteT ts cs t w := by
  constructor
  · rintro ⟨ws, h⟩ t ht
    exact ⟨_, h.part ht⟩
  · intro h
    have h2 : ∀ t, ∃ w, t < ts.length → RiteT ts cs t w := fun t => by
      by_cases ht : t < ts.length
      · obtain ⟨w, hw⟩ := h t ht
        exact ⟨w, fun _ => hw⟩
      · exact ⟨[], fun h => absurd h ht⟩
    obtain ⟨w, hw⟩ := Classical.axiomOfChoice h2
    obtain ⟨ws, h3, _⟩ := local_join hth he h0 hw
    exact ⟨ws, h3⟩
/-- Whatever lists of the things are joined, so that 'ahead of' is kept among them: right just if each list is right. -/
theorem local_any {ts : List Int} {cs : List Cl} (hth : ∀ c ∈ cs, 0 ≤ c.thing ∧ c.thing < ts.length) {w : Nat → List (Int × Int)} {ws : List (Int × Int)} (hr : ∀ x ∈ ws, 0 ≤ x.1 ∧ x.1 < cs.length) (hown : ∀ t, t < ts.length → ownW cs t ws = w t)
    (hext : ∀ i j, i < cs.length → j < cs.length → aheadB cs i j = true → (i : Int) ∈ ws.map (·.1) → ∀ a y b, ws = a ++ y :: b → y.1 = (j : Int) → (i : Int) ∈ a.map (·.1)) :
    Rite ts cs ws ↔ ∀ t, t < ts.length → RiteT ts cs t (w t) := by
  constructor
  · intro h t ht
    rw [← hown t ht]
    exact h.part ht
  · intro h
    have h2 : ∀ t, t < ts.length → RiteT ts cs t (ownW cs t ws) := fun t ht => by rw [hown t ht]; exact h t ht
    refine rite_join hth hr h2 fun i j hi hj ha a y b hs hy => hext i j hi hj ha ?_ a y b hs hy
    have hm : cs.getD i default ∈ cs := by rw [List.getD_eq_getElem?_getD, List.getElem?_eq_getElem hi]; exact List.getElem_mem _
    have := hth _ hm
    obtain ⟨x, hx, e⟩ := List.mem_map.1 ((h2 (cs.getD i default).thing.toNat (by omega)).all i hi rfl (of_decide_eq_true ha).1)
    exact List.mem_map.2 ⟨x, (ownW_mem.1 hx).1, e⟩
/-- The time of a call in its thing's list; a call that stands in no list comes last. -/
def tauOf (cs : List Cl) (w : List (Int × Int)) (i : Nat) : Int := match (tauF cs (-1) w).find? fun q => q.2.1 == (i : Int) with | some q => q.1 | none => 1000
theorem tauOf_at {cs : List Cl} {w : List (Int × Int)} {i : Nat} (h : (i : Int) ∈ w.map (·.1)) : ∃ q ∈ tauF cs (-1) w, q.2.1 = (i : Int) ∧ tauOf cs w i = q.1 := by
  unfold tauOf
  cases hf : (tauF cs (-1) w).find? fun q => q.2.1 == (i : Int) with
  | none =>
    exfalso
    obtain ⟨x, hx, e⟩ := List.mem_map.1 h
    have hx2 : x ∈ (tauF cs (-1) w).map (·.2) := by rw [tauF_map]; exact hx
    obtain ⟨q, hq, rfl⟩ := List.mem_map.1 hx2
    have := List.find?_eq_none.1 hf q hq
    exact this (by rw [beq_iff_eq]; exact e)
  | some q =>
    have h1 := List.find?_some hf
    rw [beq_iff_eq] at h1
    exact ⟨q, List.mem_of_find?_eq_some hf, h1, rfl⟩
/-- 'Ahead of' goes up in time, over all things. -/
theorem tau_ahead {ts : List Int} {cs : List Cl} (hth : ∀ c ∈ cs, 0 ≤ c.thing ∧ c.thing < ts.length) (he : ∀ c ∈ cs, c.til = -1 ∨ c.frm < c.til) (h0 : ∀ c ∈ cs, 0 ≤ c.frm ∧ c.til < 1000)
    {w : Nat → List (Int × Int)} (hw : ∀ t, t < ts.length → RiteT ts cs t (w t)) {i j : Nat} (hi : i < cs.length) (ha : aheadB cs i j = true) :
    tauOf cs (w (cs.getD i default).thing.toNat) i < tauOf cs (w (cs.getD j default).thing.toNat) j := by
  have hah := of_decide_eq_true ha
  have hm : cs.getD i default ∈ cs := by rw [List.getD_eq_getElem?_getD, List.getElem?_eq_getElem hi]; exact List.getElem_mem _
  have hti := hth _ hm
  have hb := h0 _ hm
  have hwi := hw (cs.getD i default).thing.toNat (by omega)
  obtain ⟨q, hq, e, et⟩ := tauOf_at (cs := cs) (hwi.all i hi rfl hah.1)
  have hle := tauF_til hwi he (fun c hc => (h0 c hc).1) hq (by rw [atC_of e]; exact hah.1)
  rw [atC_of e] at hle
  rw [et]
  by_cases hj : (j : Int) ∈ (w (cs.getD j default).thing.toNat).map (·.1)
  · obtain ⟨p, hp, ep, ept⟩ := tauOf_at (cs := cs) hj
    obtain ⟨_, _, _, hge, _⟩ := tauF_at cs _ _ p hp
    rw [atC_of ep] at hge
    rw [ept]
    omega
  · have : tauOf cs (w (cs.getD j default).thing.toNat) j = 1000 := by
      unfold tauOf
      rw [List.find?_eq_none.2 (fun p hp => by
        rw [beq_iff_eq]
        intro e
        refine hj (List.mem_map.2 ⟨p.2, ?_, e⟩)
        have : p.2 ∈ (tauF cs (-1) (w (cs.getD j default).thing.toNat)).map (·.2) := List.mem_map.2 ⟨p, hp, rfl⟩
        rwa [tauF_map] at this)]
    rw [this]
    omega
end Go.Proofs.YtecpjeililiafaaDoor
