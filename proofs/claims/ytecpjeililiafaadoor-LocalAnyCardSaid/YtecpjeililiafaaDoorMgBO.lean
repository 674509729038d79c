/-
  Joined by a program out of: LJoinLaw, LJoinOwn.
-/
import Derived.Test.YtecpjeililiafaaDoorMgBL
import Derived.Test.YtecpjeililiafaaDoorMgBN

/-
  Plain: what is joined. Lists of right orders are never round; and what they are joined to has each list as it stood.
-/
namespace Go.Proofs.YtecpjeililiafaaDoor
open Go.RowKit
set_option maxRecDepth 20000

/-! ### The relation -/
def adjP (l : List (Int × Int)) (i j : Nat) : Prop := ∃ u x y v, l = u ++ x :: y :: v ∧ x.1.toNat = i ∧ y.1.toNat = j
theorem adjP_cons {x y : Int × Int} {r : List (Int × Int)} {i j : Nat} : adjP (x :: y :: r) i j ↔ (i = x.1.toNat ∧ j = y.1.toNat) ∨ adjP (y :: r) i j := by
  constructor
  · rintro ⟨u, a, b, v, e, h1, h2⟩
    match u, e with
    | [], e =>
      injection e with e1 e2
      injection e2 with e2 _
      subst e1 e2
      exact .inl ⟨h1.symm, h2.symm⟩
    | c :: u, e =>
      injection e with _ e2
      exact .inr ⟨u, a, b, v, e2, h1, h2⟩
  · rintro (⟨rfl, rfl⟩ | ⟨u, a, b, v, e, h1, h2⟩)
    · exact ⟨[], x, y, r, rfl, rfl, rfl⟩
    · exact ⟨x :: u, a, b, v, by rw [e]; rfl, h1, h2⟩
theorem adjP_short {l : List (Int × Int)} (h : l.length ≤ 1) (i j : Nat) : ¬ adjP l i j := by
  rintro ⟨u, a, b, v, rfl, _⟩
  simp at h
  omega
theorem lnkP_iff : ∀ (l : List (Int × Int)) (p : Nat → Nat → Bool) (i j : Nat), lnkP p l i j = true ↔ p i j = true ∨ adjP l i j
  | [], p, i, j => ⟨.inl, fun h => h.resolve_right (adjP_short (by simp) i j)⟩
  | [x], p, i, j => ⟨.inl, fun h => h.resolve_right (adjP_short (by simp) i j)⟩
  | x :: y :: r, p, i, j => by
    rw [lnkP, lnkP_iff (y :: r), adjP_cons]
    unfold setP
    simp only [Bool.or_eq_true, Bool.and_eq_true, decide_eq_true_eq]
    exact or_assoc
theorem relF_iff : ∀ (ww : List (List (Int × Int))) (p : Nat → Nat → Bool) (i j : Nat), relF p ww i j = true ↔ p i j = true ∨ ∃ l ∈ ww, adjP l i j
  | [], p, i, j => by simp [relF]
  | l :: r, p, i, j => by
    rw [relF, relF_iff r, lnkP_iff]
    simp only [List.mem_cons, exists_eq_or_imp]
    exact or_assoc

/-! ### Nothing is round where a number goes up -/
theorem cyc_rank {n : Nat} {p : Nat → Nat → Bool} (f : Nat → Nat) (h : ∀ i j, i < n → j < n → p i j = true → f i < f j) : cyc (clo n (relP p n)) n = false := by
  have key : ∀ k, k ≤ n → ∀ x y, x < n → (warsh n (relP p n) k x).testBit y = true → f x < f y := by
    intro k
    induction k with
    | zero =>
      intro _ x y _ hb
      change (relP p n x).testBit y = true at hb
      rw [relP_bit] at hb
      simp only [Bool.and_eq_true, decide_eq_true_eq] at hb
      exact h x y hb.1.1 hb.1.2 hb.2
    | succ k ih =>
      intro hk x y hx hb
      change (stepV n (warsh n (relP p n) k) k x).testBit y = true at hb
      rw [stepV_bit n _ k _ _ hx] at hb
      simp only [Bool.or_eq_true, Bool.and_eq_true] at hb
      rcases hb with hb | ⟨h1, h2⟩
      · exact ih (by omega) x y hx hb
      · have a1 := ih (by omega) x k hx h1
        have a2 := ih (by omega) k y (by omega) h2
        omega
  cases hc : cyc (clo n (relP p n)) n with
  | false => rfl
  | true =>
    obtain ⟨v, hv, hb⟩ := (cyc_iff _ _).1 hc
    have := key n (Nat.le_refl _) v v hv hb
    omega
/-- The place of a call in a list. -/
def plcW (ws : List (Int × Int)) (k : Int) : Nat := match ws with
  | [] => 0
  | a :: r => if a.1 = k then 0 else plcW r k + 1
theorem plcW_le : ∀ (ws : List (Int × Int)) (k : Int), plcW ws k ≤ ws.length
  | [], _ => Nat.le_refl _
  | a :: r, k => by
    unfold plcW
    have := plcW_le r k
    split <;> simp <;> omega
theorem plcW_mem : ∀ {ws : List (Int × Int)} {k : Int}, k ∈ ws.map (·.1) → plcW ws k < ws.length
  | [], k, h => by simp at h
  | a :: r, k, h => by
    unfold plcW
    split
    · simp
    · next hne =>
      rw [List.map_cons, List.mem_cons] at h
      have := plcW_mem (h.resolve_left (fun e => hne e.symm))
      simp; omega
theorem plcW_not : ∀ {ws : List (Int × Int)} {k : Int}, k ∉ ws.map (·.1) → plcW ws k = ws.length
  | [], k, _ => rfl
  | a :: r, k, h => by
    rw [List.map_cons, List.mem_cons, not_or] at h
    unfold plcW
    rw [if_neg (fun e => h.1 e.symm), plcW_not h.2]
    simp
theorem plcW_lt : ∀ {ws : List (Int × Int)}, (ws.map (·.1)).Nodup → ∀ {x y : Int × Int}, [x, y].Sublist ws → plcW ws x.1 < plcW ws y.1
  | [], _, x, y, h => by simp at h
  | a :: r, hnd, x, y, h => by
    rw [List.map_cons, List.nodup_cons] at hnd
    have hne : ∀ z ∈ r, a.1 ≠ z.1 := fun z hz e => hnd.1 (List.mem_map.2 ⟨z, hz, e.symm⟩)
    unfold plcW
    cases h with
    | cons _ h =>
      rw [if_neg (hne x (h.subset (by simp))), if_neg (hne y (h.subset (by simp)))]
      have := plcW_lt hnd.2 h
      omega
    | cons_cons _ h =>
      rw [if_pos rfl, if_neg (hne y (h.subset (by simp)))]
      omega
theorem adj_sub {u v : List (Int × Int)} {x y : Int × Int} : [x, y].Sublist (u ++ x :: y :: v) := by
  have h : [x, y].Sublist (x :: y :: v) := (List.Sublist.cons_cons _ (List.Sublist.cons_cons _ (List.nil_sublist _)))
  exact h.trans (List.sublist_append_right _ _)
/-- Lists that stand in one right order of all: nothing is round. -/
theorem join_calm {ts : List Int} {cs : List Cl} {ws : List (Int × Int)} (h : Rite ts cs ws) {ww : List (List (Int × Int))} (hs : ∀ l ∈ ww, l.Sublist ws) : cyc (clo cs.length (jnR cs ww)) cs.length = false := by
  refine cyc_rank (fun i => plcW ws (i : Int)) fun i j hi hj hp => ?_
  rcases (relF_iff _ _ _ _).1 hp with ha | ⟨l, hl, u, x, y, v, rfl, rfl, rfl⟩
  · have hin := h.all i hi (of_decide_eq_true ha).1
    by_cases hj2 : (j : Int) ∈ ws.map (·.1)
    · obtain ⟨y, hy, ey⟩ := List.mem_map.1 hj2
      obtain ⟨a, b, rfl⟩ := List.append_of_mem hy
      obtain ⟨x, hx, ex⟩ := List.mem_map.1 (h.ord i j hi hj ha a y b rfl ey)
      have := plcW_lt h.once (x := x) (y := y) (List.Sublist.append (List.singleton_sublist.2 hx) (List.singleton_sublist.2 (by simp)))
      rw [← ex, ← ey]
      exact this
    · rw [plcW_not hj2]
      exact plcW_mem hin
  · have hsb := (adj_sub (u := u) (v := v) (x := x) (y := y)).trans (hs _ hl)
    have hx := h.rng x (hsb.subset (by simp))
    have hy := h.rng y (hsb.subset (by simp))
    have := plcW_lt h.once hsb
    rw [Int.toNat_of_nonneg hx.1, Int.toNat_of_nonneg hy.1]
    exact this

/-! ### The steps by their calls -/
theorem colF_at {cs : List Cl} : ∀ {xs : List (Nat × (Int × Int))} {F G : Int → Option Int}, colF cs xs F = some G → ∀ k r, G k = some r ↔ F k = some r ∨ ∃ t, (t, (k, r)) ∈ xs
  | [], F, G, h, k, r => by
    rw [colF] at h
    injection h with h
    subst h
    simp
  | (t, x) :: q, F, G, h, k, r => by
    rw [colF] at h
    split at h
    · cases h
    · split at h
      · cases h
      · next _ hF =>
        rw [colF_at h k r]
        have hn : F x.1 = none := by
          cases hx : F x.1
          · rfl
          · rw [hx] at hF; exact absurd rfl hF
        constructor
        · rintro (h1 | ⟨t', h1⟩)
          · by_cases e : k = x.1
            · rw [if_pos e] at h1
              injection h1 with h1
              exact .inr ⟨t, by rw [e, ← h1]; simp⟩
            · rw [if_neg e] at h1
              exact .inl h1
          · exact .inr ⟨t', List.mem_cons_of_mem _ h1⟩
        · rintro (h1 | ⟨t', h1⟩)
          · have e : k ≠ x.1 := fun e => by rw [e, hn] at h1; cases h1
            exact .inl (by rw [if_neg e]; exact h1)
          · rcases List.mem_cons.1 h1 with h1 | h1
            · injection h1 with _ h1
              subst h1
              exact .inl (by rw [if_pos rfl])
            · exact .inr ⟨t', h1⟩
theorem colF_once {cs : List Cl} : ∀ {xs : List (Nat × (Int × Int))} {F G : Int → Option Int}, colF cs xs F = some G → (xs.map (·.2.1)).Nodup ∧ ∀ q ∈ xs, F q.2.1 = none
  | [], F, G, _ => by simp
  | (t, x) :: r, F, G, h => by
    rw [colF] at h
    split at h
    · cases h
    · split at h
      · cases h
      · next _ hF =>
        obtain ⟨h1, h2⟩ := colF_once h
        have hn : F x.1 = none := by
          cases hx : F x.1
          · rfl
          · rw [hx] at hF; exact absurd rfl hF
        have h3 : ∀ q ∈ r, q.2.1 ≠ x.1 ∧ F q.2.1 = none := fun q hq => by
          have h4 := h2 q hq
          by_cases e : q.2.1 = x.1
          · rw [if_pos e] at h4; cases h4
          · rw [if_neg e] at h4; exact ⟨e, h4⟩
        refine ⟨?_, fun q hq => ?_⟩
        · rw [List.map_cons, List.nodup_cons]
          refine ⟨fun hm => ?_, h1⟩
          obtain ⟨q, hq, e⟩ := List.mem_map.1 hm
          exact (h3 q hq).1 e
        · rcases List.mem_cons.1 hq with rfl | hq
          · exact hn
          · exact (h3 q hq).2
theorem colF_ok {cs : List Cl} : ∀ {xs : List (Nat × (Int × Int))} {F : Int → Option Int}, (∀ q ∈ xs, (0 ≤ q.2.1 ∧ q.2.1 < cs.length) ∧ (cs.getD q.2.1.toNat default).thing = (q.1 : Int)) → (xs.map (·.2.1)).Nodup → (∀ q ∈ xs, F q.2.1 = none) → ∃ G, colF cs xs F = some G
  | [], F, _, _, _ => ⟨F, rfl⟩
  | (t, x) :: r, F, h1, h2, h3 => by
    obtain ⟨h4, h5⟩ := h1 (t, x) (by simp)
    rw [List.map_cons, List.nodup_cons] at h2
    rw [colF, if_neg (fun h => h.elim (fun h => h h4) (fun h => h h5)), if_neg (by rw [h3 (t, x) (by simp)]; decide)]
    refine colF_ok (fun q hq => h1 q (List.mem_cons_of_mem _ hq)) h2.2 (fun q hq => ?_)
    rw [if_neg (fun e => h2.1 (List.mem_map.2 ⟨q, hq, e⟩))]
    exact h3 q (List.mem_cons_of_mem _ hq)
theorem flat_once {cs : List Cl} : ∀ {ww : List (List (Int × Int))} {k : Nat}, (∀ q ∈ flatF k ww, (cs.getD q.2.1.toNat default).thing = (q.1 : Int)) → (∀ l ∈ ww, (l.map (·.1)).Nodup) → ((flatF k ww).map (·.2.1)).Nodup
  | [], k, _, _ => by simp [flatF]
  | l :: r, k, h1, h2 => by
    rw [flatF] at h1 ⊢
    rw [List.map_append, List.map_map, List.nodup_append]
    refine ⟨h2 l (by simp), flat_once (fun q hq => h1 q (List.mem_append_right _ hq)) (fun m hm => h2 m (List.mem_cons_of_mem _ hm)), fun a ha b hb e => ?_⟩
    subst e
    obtain ⟨x, hx, rfl⟩ := List.mem_map.1 ha
    obtain ⟨⟨t, y⟩, hy, e⟩ := List.mem_map.1 hb
    have a1 := h1 (k, x) (List.mem_append_left _ (List.mem_map.2 ⟨x, hx, rfl⟩))
    have a2 := h1 (t, y) (List.mem_append_right _ hy)
    have a3 := (flatF_mem.1 hy).1
    simp only [Function.comp] at a1 a2 e
    rw [e] at a2
    omega
end Go.Proofs.YtecpjeililiafaaDoor

/-
  Plain: what is joined has each list as it stood, and keeps 'ahead of'.
-/
namespace Go.Proofs.YtecpjeililiafaaDoor
open Go.RowKit
set_option maxRecDepth 20000

/-! ### The least order, as a list -/
section
variable {n : Nat} {c : Nat → Nat}
theorem nth_lt (h : Strict n c) (hn : n ≤ 12) {k : Nat} (hk : k < n) : nth n c k < n :=
  (next_is h hn (lsD_lt (rev n c) n k) (by rw [(least_step h hn k (by omega)).1]; exact hk)).1
theorem nth_ne (h : Strict n c) (hn : n ≤ 12) {m k : Nat} (hmk : m < k) (hk : k < n) : nth n c m ≠ nth n c k := fun e => by
  have h1 := (next_is h hn (lsD_lt (rev n c) n k) (by rw [(least_step h hn k (by omega)).1]; exact hk)).2.1
  have h2 := ((least_step h hn k (by omega)).2 (nth n c k)).2 ⟨m, hmk, e⟩
  change (lsD (rev n c) n k).testBit (nth n c k) = false at h1
  rw [h1] at h2
  cases h2
theorem nth_calm (h : Strict n c) (hn : n ≤ 12) {m k : Nat} (hmk : m < k) (hk : k < n) : (c (nth n c k)).testBit (nth n c m) = false := by
  cases hb : (c (nth n c k)).testBit (nth n c m)
  · rfl
  · obtain ⟨q, hq, e⟩ := ((least_step h hn m (by omega)).2 (nth n c k)).1 (least_sub h hn (show m < n by omega) _ (rev_at.2 ⟨nth_lt h hn hk, nth_lt h hn (by omega), hb⟩))
    exact absurd e (nth_ne h hn (by omega) hk)
theorem lsL_mem (k : Nat) : ∀ u, u ∈ lsL (rev n c) n k ↔ ∃ m, m < k ∧ u = (nth n c m : Int) := by
  induction k with
  | zero => intro u; simp [lsL]
  | succ k ih =>
    intro u
    rw [lsL, List.mem_append, ih, List.mem_singleton]
    constructor
    · rintro (⟨m, hm, e⟩ | e)
      · exact ⟨m, by omega, e⟩
      · exact ⟨k, by omega, e⟩
    · rintro ⟨m, hm, e⟩
      rcases Nat.lt_or_ge m k with h' | h'
      · exact .inl ⟨m, h', e⟩
      · obtain rfl : m = k := by omega
        exact .inr e
theorem lsL_pw (h : Strict n c) (hn : n ≤ 12) : ∀ k, k ≤ n → (lsL (rev n c) n k).Pairwise fun u v => u ≠ v ∧ (c v.toNat).testBit u.toNat = false
  | 0, _ => by simp [lsL]
  | k + 1, hk => by
    rw [lsL, List.pairwise_append]
    refine ⟨lsL_pw h hn k (by omega), List.pairwise_singleton _ _, fun u hu v hv => ?_⟩
    obtain ⟨m, hm, rfl⟩ := (lsL_mem k u).1 hu
    rw [List.mem_singleton] at hv
    subst hv
    refine ⟨fun e => nth_ne h hn hm (by omega) (Int.ofNat_inj.1 e), ?_⟩
    rw [Int.toNat_natCast, Int.toNat_natCast]
    exact nth_calm h hn hm (by omega)
theorem lsL_all (h : Strict n c) (hn : n ≤ 12) (u : Int) : u ∈ lsL (rev n c) n n ↔ 0 ≤ u ∧ u < n := by
  rw [lsL_mem]
  constructor
  · rintro ⟨m, hm, rfl⟩
    have := nth_lt h hn hm
    omega
  · rintro ⟨h0, h1⟩
    obtain ⟨m, hm, e⟩ := least_all h hn (x := u.toNat) (by omega)
    exact ⟨m, hm, by rw [e]; omega⟩
end

/-! ### Two lists of the same -/
theorem same_lists {α : Type} {S T : α → α → Prop} (hST : ∀ u v, T u v → ¬ S v u) : ∀ {l m : List α}, l.Pairwise S → m.Pairwise T → l.Nodup → m.Nodup → (∀ u, u ∈ l ↔ u ∈ m) → l = m
  | [], m, _, _, _, _, h => (List.eq_nil_iff_forall_not_mem.2 fun u hu => by have := (h u).2 hu; simp at this).symm
  | a :: l, [], _, _, _, _, h => by have := (h a).1 (by simp); simp at this
  | a :: l, b :: m, h1, h2, h3, h4, h => by
    rw [List.pairwise_cons] at h1 h2
    rw [List.nodup_cons] at h3 h4
    have e : a = b := by
      apply Classical.byContradiction
      intro hne
      have ha : a ∈ m := ((List.mem_cons.1 ((h a).1 (by simp))).resolve_left hne)
      have hb : b ∈ l := ((List.mem_cons.1 ((h b).2 (by simp))).resolve_left (fun e => hne e.symm))
      exact hST b a (h2.1 a ha) (h1.1 b hb)
    subst e
    rw [same_lists hST h1.2 h2.2 h3.2 h4.2 fun u => ?_]
    constructor
    · intro hu
      exact (List.mem_cons.1 ((h u).1 (List.mem_cons_of_mem _ hu))).resolve_left (fun e => h3.1 (e ▸ hu))
    · intro hu
      exact (List.mem_cons.1 ((h u).2 (List.mem_cons_of_mem _ hu))).resolve_left (fun e => h4.1 (e ▸ hu))
theorem pw_adj {R : Nat → Nat → Prop} {n : Nat} (htr : ∀ i j k, i < n → j < n → R i j → R j k → R i k) : ∀ {l : List (Int × Int)}, (∀ x ∈ l, 0 ≤ x.1 ∧ x.1 < n) → (∀ i j, adjP l i j → R i j) → l.Pairwise fun x y => R x.1.toNat y.1.toNat
  | [], _, _ => List.Pairwise.nil
  | [x], _, _ => List.pairwise_singleton _ _
  | x :: y :: r, hr, ha => by
    have ih := pw_adj (R := R) htr (l := y :: r) (fun z hz => hr z (List.mem_cons_of_mem _ hz)) (fun i j h => ha i j (adjP_cons.2 (.inr h)))
    have h0 : R x.1.toNat y.1.toNat := ha _ _ (adjP_cons.2 (.inl ⟨rfl, rfl⟩))
    have hx := hr x (by simp)
    have hy := hr y (by simp)
    refine List.pairwise_cons.2 ⟨fun z hz => ?_, ih⟩
    rcases List.mem_cons.1 hz with rfl | hz
    · exact h0
    · exact htr _ _ _ (by omega) (by omega) h0 ((List.pairwise_cons.1 ih).1 z hz)

/-! ### What is joined -/
theorem pickF_mem {G : Int → Option Int} {xs : List Int} {u : Int × Int} : u ∈ pickF G xs ↔ u.1 ∈ xs ∧ G u.1 = some u.2 := by
  unfold pickF
  rw [List.mem_filterMap]
  constructor
  · rintro ⟨k, hk, e⟩
    cases hG : G k with
    | none => rw [hG] at e; cases e
    | some r =>
      rw [hG] at e
      injection e with e
      subst e
      exact ⟨hk, hG⟩
  · rintro ⟨h1, h2⟩
    exact ⟨u.1, h1, by rw [h2]; rfl⟩
theorem pickF_pw {G : Int → Option Int} {R : Int → Int → Prop} {xs : List Int} (h : xs.Pairwise R) : (pickF G xs).Pairwise fun u v => R u.1 v.1 := by
  unfold pickF
  refine List.Pairwise.filterMap _ (fun a b hab u hu v hv => ?_) h
  cases hG : G a with
  | none => rw [hG] at hu; cases hu
  | some r =>
    cases hH : G b with
    | none => rw [hH] at hv; cases hv
    | some s =>
      rw [hG] at hu
      rw [hH] at hv
      injection hu with hu
      injection hv with hv
      subst hu hv
      exact hab
section
variable {cs : List Cl} {ww : List (List (Int × Int))} {G : Int → Option Int}
/-- What is joined. -/
def joinL (cs : List Cl) (ww : List (List (Int × Int))) (G : Int → Option Int) : List (Int × Int) := pickF G (lsL (rev cs.length (clo cs.length (jnR cs ww))) cs.length cs.length)
theorem joinL_strict (hn : cs.length ≤ 12) (hy : cyc (clo cs.length (jnR cs ww)) cs.length = false) : Strict cs.length (clo cs.length (jnR cs ww)) := strict_clo (good_relP _ hn) hy
theorem joinL_pw (hn : cs.length ≤ 12) (hy : cyc (clo cs.length (jnR cs ww)) cs.length = false) : (joinL cs ww G).Pairwise fun u v => u.1 ≠ v.1 ∧ (clo cs.length (jnR cs ww) v.1.toNat).testBit u.1.toNat = false :=
  pickF_pw (lsL_pw (joinL_strict hn hy) hn _ (Nat.le_refl _))
theorem joinL_mem (hn : cs.length ≤ 12) (hy : cyc (clo cs.length (jnR cs ww)) cs.length = false) (hc : colF cs (flatF 0 ww) (fun _ => none) = some G) {u : Int × Int} : u ∈ joinL cs ww G ↔ ∃ (t : Nat) (l : List (Int × Int)), ww[t]? = some l ∧ u ∈ l := by
  unfold joinL
  rw [pickF_mem, lsL_all (joinL_strict hn hy) hn, colF_at hc]
  constructor
  · rintro ⟨_, h | ⟨t, h⟩⟩
    · cases h
    · obtain ⟨_, l, h1, h2⟩ := flatF_mem.1 h
      exact ⟨t, l, h1, h2⟩
  · rintro ⟨t, l, h1, h2⟩
    have h3 : (t, u) ∈ flatF 0 ww := flatF_mem.2 ⟨Nat.zero_le _, l, h1, h2⟩
    exact ⟨(colF_rng hc _ h3).1, .inr ⟨t, h3⟩⟩
theorem joinL_rng (hn : cs.length ≤ 12) (hy : cyc (clo cs.length (jnR cs ww)) cs.length = false) (hc : colF cs (flatF 0 ww) (fun _ => none) = some G) : ∀ x ∈ joinL cs ww G, 0 ≤ x.1 ∧ x.1 < cs.length := fun x hx => by
  obtain ⟨t, l, h1, h2⟩ := (joinL_mem hn hy hc).1 hx
  exact col_rng hc l (List.mem_of_getElem? h1) x h2
theorem col_list (hc : colF cs (flatF 0 ww) (fun _ => none) = some G) {t : Nat} {l : List (Int × Int)} (hl : ww[t]? = some l) : (∀ x ∈ l, (atC cs x).thing = (t : Int)) ∧ (l.map (·.1)).Nodup := by
  refine ⟨fun x hx => (colF_rng hc (t, x) (flatF_mem.2 ⟨Nat.zero_le _, l, hl, hx⟩)).2, ?_⟩
  have key : ∀ {ww : List (List (Int × Int))} {k t : Nat}, ((flatF k ww).map (·.2.1)).Nodup → ww[t]? = some l → (l.map (·.1)).Nodup := by
    intro ww
    induction ww with
    | nil => intro k t _ h; simp at h
    | cons a r ih =>
      intro k t h hl
      rw [flatF, List.map_append, List.map_map, List.nodup_append] at h
      match t, hl with
      | 0, hl =>
        injection hl with hl
        subst hl
        exact h.1
      | t + 1, hl => exact ih h.2.1 hl
  exact key (colF_once hc).1 hl
/-- Each list stands in what is joined as it stood. -/
theorem joinL_own (hn : cs.length ≤ 12) (hy : cyc (clo cs.length (jnR cs ww)) cs.length = false) (hc : colF cs (flatF 0 ww) (fun _ => none) = some G) {t : Nat} {l : List (Int × Int)} (hl : ww[t]? = some l) : ownW cs t (joinL cs ww G) = l := by
  obtain ⟨c1, c2⟩ := col_list hc hl
  have hs := joinL_strict hn hy
  have hp := joinL_pw (G := G) hn hy
  refine same_lists (S := fun u v => u.1 ≠ v.1 ∧ (clo cs.length (jnR cs ww) v.1.toNat).testBit u.1.toNat = false) (T := fun u v => (clo cs.length (jnR cs ww) u.1.toNat).testBit v.1.toNat = true) (fun u v h1 h2 => by rw [h1] at h2; cases h2.2)
    (hp.sublist List.filter_sublist) ?_ ((hp.imp (fun h e => h.1 (by rw [e]))).sublist List.filter_sublist) ?_ (fun u => ?_)
  · refine pw_adj (R := fun i j => (clo cs.length (jnR cs ww) i).testBit j = true) (n := cs.length) (fun i j k hi hj h1 h2 => hs.trans i hi j hj h1 k h2) (col_rng hc l (List.mem_of_getElem? hl)) (fun i j h => clo_has _ _ i j ?_)
    unfold jnR
    obtain ⟨u, x, y, v, rfl, rfl, rfl⟩ := h
    have hr := col_rng hc _ (List.mem_of_getElem? hl)
    have hx := hr x (by simp)
    have hy := hr y (by simp)
    rw [relP_bit]
    simp only [Bool.and_eq_true, decide_eq_true_eq]
    exact ⟨⟨by omega, by omega⟩, (relF_iff _ _ _ _).2 (.inr ⟨_, List.mem_of_getElem? hl, u, x, y, v, rfl, rfl, rfl⟩)⟩
  · exact List.Pairwise.imp (fun {a b} h e => h (by rw [e])) (List.pairwise_map.1 c2)
  · rw [ownW_mem, joinL_mem hn hy hc]
    constructor
    · rintro ⟨⟨t2, l2, h1, h2⟩, h3⟩
      have := (col_list hc h1).1 u h2
      obtain rfl : t2 = t := by omega
      rw [hl] at h1
      injection h1 with h1
      rw [h1]
      exact h2
    · intro h
      exact ⟨⟨t, l, hl, h⟩, by rw [c1 u h]; omega⟩
theorem joinL_ahead (hn : cs.length ≤ 12) (hy : cyc (clo cs.length (jnR cs ww)) cs.length = false) {i j : Nat} (hi : i < cs.length) (hj : j < cs.length) (ha : aheadB cs i j = true) (hin : (i : Int) ∈ (joinL cs ww G).map (·.1)) {a b : List (Int × Int)} {y : Int × Int} (e : joinL cs ww G = a ++ y :: b) (hyj : y.1 = (j : Int)) : (i : Int) ∈ a.map (·.1) := by
  have hs := joinL_strict hn hy
  have hp := joinL_pw (G := G) hn hy
  have hb : (clo cs.length (jnR cs ww) i).testBit j = true := clo_has _ _ i j (by
    unfold jnR
    rw [relP_bit]
    simp only [Bool.and_eq_true, decide_eq_true_eq]
    exact ⟨⟨hi, hj⟩, (relF_iff _ _ _ _).2 (.inl ha)⟩)
  obtain ⟨u, hu, eu⟩ := List.mem_map.1 hin
  rw [e] at hu hp
  rcases List.mem_append.1 hu with h | h
  · exact List.mem_map.2 ⟨u, h, eu⟩
  · exfalso
    rcases List.mem_cons.1 h with rfl | h
    · rw [hyj] at eu
      have : i = j := by omega
      subst this
      rw [hs.irr _ hi] at hb
      cases hb
    · have := ((List.pairwise_cons.1 (List.pairwise_append.1 hp).2.1).1 u h).2
      rw [eu, hyj, Int.toNat_natCast, Int.toNat_natCast, hb] at this
      cases this
end
/-- What is joined is right just if each list is. -/
theorem joinL_rite {ts : List Int} {cs : List Cl} (hth : ∀ c ∈ cs, 0 ≤ c.thing ∧ c.thing < ts.length) {ww : List (List (Int × Int))} {G : Int → Option Int} (hn : cs.length ≤ 12) (hm : ww.length = ts.length) (hy : cyc (clo cs.length (jnR cs ww)) cs.length = false) (hc : colF cs (flatF 0 ww) (fun _ => none) = some G) :
    Rite ts cs (joinL cs ww G) ↔ ∀ t, t < ts.length → RiteT ts cs t (ww.getD t []) :=
  local_any hth (joinL_rng hn hy hc) (fun t ht => by
    have h1 := List.getElem?_eq_getElem (show t < ww.length by omega)
    rw [List.getD_eq_getElem?_getD, h1]
    exact joinL_own hn hy hc h1) (fun i j hi hj ha hin a y b e hyj => joinL_ahead hn hy hi hj ha hin e hyj)
/-- Right orders of all parts can be joined. -/
theorem join_can {ts : List Int} {cs : List Cl} (hth : ∀ c ∈ cs, 0 ≤ c.thing ∧ c.thing < ts.length) (he : ∀ c ∈ cs, c.til = -1 ∨ c.frm < c.til) (h0 : ∀ c ∈ cs, 0 ≤ c.frm) {ww : List (List (Int × Int))} (hm : ww.length = ts.length) (hw : ∀ t, t < ts.length → RiteT ts cs t (ww.getD t [])) :
    cyc (clo cs.length (jnR cs ww)) cs.length = false ∧ ∃ G, colF cs (flatF 0 ww) (fun _ => none) = some G := by
  obtain ⟨ws, h1, h2⟩ := local_join hth he h0 hw
  have hat : ∀ {t : Nat} {l : List (Int × Int)}, ww[t]? = some l → t < ts.length ∧ ww.getD t [] = l := fun {t l} h => ⟨by rw [← hm]; exact (List.getElem?_eq_some_iff.1 h).1, by rw [List.getD_eq_getElem?_getD, h]; rfl⟩
  refine ⟨join_calm h1 fun l hl => ?_, ?_⟩
  · obtain ⟨t, ht⟩ := List.getElem?_of_mem hl
    obtain ⟨h3, h4⟩ := hat ht
    rw [← h4, ← h2 t h3]
    exact List.filter_sublist
  · have hth2 : ∀ q ∈ flatF 0 ww, (0 ≤ q.2.1 ∧ q.2.1 < cs.length) ∧ (cs.getD q.2.1.toNat default).thing = (q.1 : Int) := fun ⟨t, x⟩ hq => by
      obtain ⟨_, l, h3, h4⟩ := flatF_mem.1 hq
      rw [Nat.sub_zero] at h3
      obtain ⟨h5, h6⟩ := hat h3
      have hr := hw t h5
      rw [h6] at hr
      have a1 := hr.rng x h4
      have a2 : (cs.getD x.1.toNat default).thing.toNat = t := hr.own x h4
      have hmem : cs.getD x.1.toNat default ∈ cs := by rw [List.getD_eq_getElem?_getD, List.getElem?_eq_getElem (show x.1.toNat < cs.length by omega)]; exact List.getElem_mem _
      have := hth _ hmem
      exact ⟨a1, by show (cs.getD x.1.toNat default).thing = (t : Int); omega⟩
    refine colF_ok hth2 (flat_once (fun q hq => (hth2 q hq).2) fun l hl => ?_) (fun _ _ => rfl)
    obtain ⟨t, ht⟩ := List.getElem?_of_mem hl
    obtain ⟨h3, h4⟩ := hat ht
    rw [← h4]
    exact (hw t h3).once
end Go.Proofs.YtecpjeililiafaaDoor
