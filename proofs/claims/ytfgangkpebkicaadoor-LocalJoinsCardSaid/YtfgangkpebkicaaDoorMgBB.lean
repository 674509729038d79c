/-
  Joined by a program out of: LocalPure, LJoinLaw, LJoinOwn, EqInt, Bools.
-/
import Derived.Test.YtfgangkpebkicaaDoorMgAT
import Derived.Test.YtfgangkpebkicaaDoorMgAZ
import Derived.Test.YtfgangkpebkicaaDoorMgBA
import Derived.Test.YtfgangkpebkicaaDoorMgAA

/-
  Plain: locality. A right order of the whole is, thing by thing, a right order of each part; and right orders of the parts are joined to one of the whole (Herlihy, Wing).
-/
namespace Go.Proofs.YtfgangkpebkicaaDoor
open Go.RowKit
set_option maxRecDepth 20000
/-- A right order of what thing t was asked, with the numbers of the whole. -/
structure RiteT (ts : List Int) (cs : List Cl) (t : Nat) (w : List (Int × Int)) : Prop where
  rng : ∀ x ∈ w, 0 ≤ x.1 ∧ x.1 < cs.length
  own : ∀ x ∈ w, (atC cs x).thing.toNat = t
  once : (w.map (·.1)).Nodup
  res : ∀ x ∈ w, (atC cs x).til ≠ -1 → (atC cs x).res = x.2
  all : ∀ i, i < cs.length → (cs.getD i default).thing.toNat = t → (cs.getD i default).til ≠ -1 → (i : Int) ∈ w.map (·.1)
  ord : ∀ i j, i < cs.length → j < cs.length → (cs.getD i default).thing.toNat = t → aheadB cs i j = true → ∀ a y b, w = a ++ y :: b → y.1 = (j : Int) → (i : Int) ∈ a.map (·.1)
  goes : goesB (ts.getD t 0) (beginL (ts.getD t 0)) (w.map (ddC cs)) = true
/-- The steps of thing t. -/
def ownW (cs : List Cl) (t : Nat) (ws : List (Int × Int)) : List (Int × Int) := ws.filter fun x => (atC cs x).thing.toNat == t
theorem ownW_mem {cs : List Cl} {t : Nat} {ws : List (Int × Int)} {x : Int × Int} : x ∈ ownW cs t ws ↔ x ∈ ws ∧ (atC cs x).thing.toNat = t := by
  unfold ownW
  rw [List.mem_filter, beq_iff_eq]
theorem atC_of {cs : List Cl} {x : Int × Int} {i : Nat} (h : x.1 = (i : Int)) : atC cs x = cs.getD i default := by unfold atC; rw [h]; rfl
theorem filter_split {α : Type} {p : α → Bool} : ∀ {l a : List α} {y : α} {b : List α}, l.filter p = a ++ y :: b → ∃ a' b', l = a' ++ y :: b' ∧ a'.filter p = a
  | [], a, y, b, h => by
    cases a <;> cases h
  | z :: l, a, y, b, h => by
    rw [List.filter_cons] at h
    split at h
    · cases a with
      | nil =>
        injection h with h1 h2
        exact ⟨[], l, by rw [h1]; rfl, rfl⟩
      | cons c a =>
        injection h with h1 h2
        obtain ⟨a', b', e1, e2⟩ := filter_split h2
        subst h1
        refine ⟨z :: a', b', by rw [e1]; rfl, ?_⟩
        rename_i hz
        rw [List.filter_cons, if_pos hz, e2]
    · obtain ⟨a', b', e1, e2⟩ := filter_split h
      rename_i hz
      refine ⟨z :: a', b', by rw [e1]; rfl, ?_⟩
      rw [List.filter_cons, if_neg hz, e2]
/-- Thing by thing a right order is right. -/
theorem Rite.part {ts : List Int} {cs : List Cl} {ws : List (Int × Int)} (h : Rite ts cs ws) {t : Nat} (ht : t < ts.length) : RiteT ts cs t (ownW cs t ws) where
  rng x hx := h.rng x (ownW_mem.1 hx).1
  own x hx := (ownW_mem.1 hx).2
  once := h.once.sublist ((List.filter_sublist).map _)
  res x hx := h.res x (ownW_mem.1 hx).1
  all i hi hth hti := by
    obtain ⟨x, hx, e⟩ := List.mem_map.1 (h.all i hi hti)
    exact List.mem_map.2 ⟨x, ownW_mem.2 ⟨hx, by rw [atC_of e]; exact hth⟩, e⟩
  ord i j hi hj hth ha a y b hs hy := by
    obtain ⟨a', b', e1, e2⟩ := filter_split hs
    obtain ⟨x, hx, e⟩ := List.mem_map.1 (h.ord i j hi hj ha a' y b' e1 hy)
    refine List.mem_map.2 ⟨x, ?_, e⟩
    rw [← e2, List.mem_filter]
    exact ⟨hx, by rw [beq_iff_eq, atC_of e]; exact hth⟩
  goes := h.goes t ht
/-- What keeps 'ahead of' and is right thing by thing is right. -/
theorem rite_join {ts : List Int} {cs : List Cl} {ws : List (Int × Int)} (hth : ∀ c ∈ cs, 0 ≤ c.thing ∧ c.thing < ts.length) (hr : ∀ x ∈ ws, 0 ≤ x.1 ∧ x.1 < cs.length)
    (hp : ∀ t, t < ts.length → RiteT ts cs t (ownW cs t ws))
    (ho : ∀ i j, i < cs.length → j < cs.length → aheadB cs i j = true → ∀ a y b, ws = a ++ y :: b → y.1 = (j : Int) → (i : Int) ∈ a.map (·.1)) : Rite ts cs ws where
  rng := hr
  once := by
    have hpw : ∀ (l : List (Int × Int)), (∀ x ∈ l, x ∈ ws) → l.Sublist ws → (l.map (·.1)).Nodup := by
      intro l
      induction l with
      | nil => intro _ _; exact List.nodup_nil
      | cons x l ih =>
        intro hm hs
        rw [List.map_cons, List.nodup_cons]
        refine ⟨fun hx => ?_, ih (fun y hy => hm y (List.mem_cons_of_mem _ hy)) ((List.sublist_cons_self _ _).trans hs)⟩
        obtain ⟨y, hy, e⟩ := List.mem_map.1 hx
        have e2 : (atC cs y).thing.toNat = (atC cs x).thing.toNat := by unfold atC; rw [e]
        have ht := atC_thing hth (hr x (hm x (List.mem_cons_self ..)))
        have h1 := (hp (atC cs x).thing.toNat (by omega)).once
        have h2 : (ownW cs (atC cs x).thing.toNat (x :: l)).Sublist (ownW cs (atC cs x).thing.toNat ws) := hs.filter _
        have h3 := h1.sublist (h2.map (·.1))
        rw [show ownW cs (atC cs x).thing.toNat (x :: l) = x :: ownW cs (atC cs x).thing.toNat l by unfold ownW; rw [List.filter_cons, if_pos (by rw [beq_iff_eq])], List.map_cons, List.nodup_cons] at h3
        exact h3.1 (List.mem_map.2 ⟨y, ownW_mem.2 ⟨hy, e2⟩, e⟩)
    exact hpw ws (fun x h => h) (List.Sublist.refl _)
  res x hx := (hp _ (by have := atC_thing hth (hr x hx); omega)).res x (ownW_mem.2 ⟨hx, rfl⟩)
  all i hi hti := by
    have hm : cs.getD i default ∈ cs := by rw [List.getD_eq_getElem?_getD, List.getElem?_eq_getElem hi]; exact List.getElem_mem _
    have := hth _ hm
    obtain ⟨x, hx, e⟩ := List.mem_map.1 ((hp (cs.getD i default).thing.toNat (by omega)).all i hi rfl hti)
    exact List.mem_map.2 ⟨x, (ownW_mem.1 hx).1, e⟩
  ord := ho
  goes t ht := (hp t ht).goes
/-- Each step with the latest begin among it and those before it. -/
def tauF (cs : List Cl) : Int → List (Int × Int) → List (Int × (Int × Int))
  | _, [] => []
  | m, x :: r => (max m (atC cs x).frm, x) :: tauF cs (max m (atC cs x).frm) r
theorem tauF_map (cs : List Cl) : ∀ (w : List (Int × Int)) (m : Int), (tauF cs m w).map (·.2) = w
  | [], _ => rfl
  | x :: r, m => by rw [tauF, List.map_cons, tauF_map cs r]
theorem tauF_ge (cs : List Cl) : ∀ (w : List (Int × Int)) (m : Int), ∀ q ∈ tauF cs m w, m ≤ q.1
  | [], _, q, h => by cases h
  | x :: r, m, q, h => by
    rw [tauF, List.mem_cons] at h
    rcases h with rfl | h
    · simp only; omega
    · have := tauF_ge cs r _ q h
      omega
theorem tauF_up (cs : List Cl) : ∀ (w : List (Int × Int)) (m : Int), (tauF cs m w).Pairwise fun a b => decide (a.1 ≤ b.1) = true
  | [], _ => List.Pairwise.nil
  | x :: r, m => by
    rw [tauF, List.pairwise_cons]
    exact ⟨fun q hq => decide_eq_true (tauF_ge cs r _ q hq), tauF_up cs r _⟩
theorem tauF_at (cs : List Cl) : ∀ (w : List (Int × Int)) (m : Int), ∀ q ∈ tauF cs m w, ∃ a b, w = a ++ q.2 :: b ∧ (atC cs q.2).frm ≤ q.1 ∧ ∀ B, m ≤ B → (∀ y ∈ a, (atC cs y).frm ≤ B) → (atC cs q.2).frm ≤ B → q.1 ≤ B
  | [], _, q, h => by cases h
  | x :: r, m, q, h => by
    rw [tauF, List.mem_cons] at h
    rcases h with rfl | h
    · exact ⟨[], r, rfl, by simp only; omega, fun B h1 _ h3 => by simp only at h3 ⊢; omega⟩
    · obtain ⟨a, b, e, h1, h2⟩ := tauF_at cs r _ q h
      refine ⟨x :: a, b, by rw [e]; rfl, h1, fun B hB ha hq => h2 B ?_ (fun y hy => ha y (List.mem_cons_of_mem _ hy)) hq⟩
      have := ha x (List.mem_cons_self ..)
      omega
/-- The latest begin is no later than the step's own end. -/
theorem tauF_til {ts : List Int} {cs : List Cl} {t : Nat} {w : List (Int × Int)} (hw : RiteT ts cs t w) (he : ∀ c ∈ cs, c.til = -1 ∨ c.frm < c.til) (h0 : ∀ c ∈ cs, 0 ≤ c.frm) {q : Int × (Int × Int)} (hq : q ∈ tauF cs (-1) w) (hti : (atC cs q.2).til ≠ -1) : q.1 ≤ (atC cs q.2).til := by
  obtain ⟨a, b, e, _, h2⟩ := tauF_at cs w _ q hq
  have hm : q.2 ∈ w := by rw [e]; simp
  have hg : ∀ x ∈ w, atC cs x ∈ cs := fun x hx => by
    have := hw.rng x hx
    unfold atC
    rw [List.getD_eq_getElem?_getD, List.getElem?_eq_getElem (by omega : x.1.toNat < cs.length)]
    exact List.getElem_mem _
  have hend := he _ (hg _ hm)
  have hb := h0 _ (hg _ hm)
  refine h2 _ (by omega) (fun y hy => ?_) (by omega)
  refine Classical.byContradiction fun hlt => ?_
  have hyw : y ∈ w := by rw [e]; exact List.mem_append.2 (.inl hy)
  have r1 := hw.rng _ hm
  have r2 := hw.rng _ hyw
  obtain ⟨a1, b1, e1⟩ := List.append_of_mem hy
  have hah : aheadB cs q.2.1.toNat y.1.toNat = true := decide_eq_true ⟨hti, by unfold atC at hlt; omega⟩
  have h3 := hw.ord q.2.1.toNat y.1.toNat (by omega) (by omega) (hw.own _ hm) hah a1 y (b1 ++ q.2 :: b) (by rw [e, e1]; simp) (by omega)
  have hnd := hw.once
  rw [e, e1, List.map_append, List.map_append] at hnd
  obtain ⟨z, hz, ez⟩ := List.mem_map.1 h3
  have h4 := (List.nodup_append.1 hnd).2.2 z.1 (List.mem_append.2 (.inl (List.mem_map.2 ⟨z, hz, rfl⟩))) q.2.1 (by simp)
  exact h4 (by omega)
/-- All parts' steps, by time. -/
def joinT (cs : List Cl) (T : Nat) (w : Nat → List (Int × Int)) : List (Int × (Int × Int)) :=
  ((List.range T).flatMap fun t => tauF cs (-1) (w t)).mergeSort fun a b => decide (a.1 ≤ b.1)
theorem flat_one {α : Type} {f : Nat → List α} {t : Nat} (h : ∀ k, k ≠ t → f k = []) : ∀ T, (List.range T).flatMap f = if t < T then f t else []
  | 0 => by simp
  | T + 1 => by
    rw [List.range_succ, List.flatMap_append, flat_one h T, List.flatMap_cons, List.flatMap_nil, List.append_nil]
    by_cases e : T = t
    · subst e
      rw [if_neg (by omega), if_pos (by omega), List.nil_append]
    · rw [h T e, List.append_nil]
      by_cases h2 : t < T
      · rw [if_pos h2, if_pos (by omega)]
      · rw [if_neg h2, if_neg (by omega)]
theorem joinT_own {ts : List Int} {cs : List Cl} {w : Nat → List (Int × Int)} {T t : Nat} (hw : ∀ k, k < T → RiteT ts cs k (w k)) (ht : t < T) : ownW cs t ((joinT cs T w).map (·.2)) = w t := by
  have hin : ∀ k, k < T → ∀ q ∈ tauF cs (-1) (w k), (atC cs q.2).thing.toNat = k := fun k hk q hq => (hw k hk).own _ (by
    have : q.2 ∈ (tauF cs (-1) (w k)).map (·.2) := List.mem_map.2 ⟨q, hq, rfl⟩
    rwa [tauF_map] at this)
  have key : (joinT cs T w).filter (fun q => (atC cs q.2).thing.toNat == t) = tauF cs (-1) (w t) := by
    have hself : (tauF cs (-1) (w t)).filter (fun q => (atC cs q.2).thing.toNat == t) = tauF cs (-1) (w t) := List.filter_eq_self.2 fun q hq => by rw [beq_iff_eq]; exact hin t ht q hq
    have hflat : ((List.range T).flatMap fun k => tauF cs (-1) (w k)).filter (fun q => (atC cs q.2).thing.toNat == t) = tauF cs (-1) (w t) := by
      rw [List.filter_flatMap]
      have : (List.range T).flatMap (fun k => (tauF cs (-1) (w k)).filter (fun q => (atC cs q.2).thing.toNat == t)) = (List.range T).flatMap (fun k => if k = t then tauF cs (-1) (w t) else []) := by
        rw [List.flatMap_def, List.flatMap_def]
        refine congrArg List.flatten (List.map_congr_left fun k hk => ?_)
        have hk := List.mem_range.1 hk
        by_cases e : k = t
        · subst e; rw [if_pos rfl, hself]
        · rw [if_neg e, List.filter_eq_nil_iff]
          intro q hq
          rw [beq_iff_eq, hin k hk q hq]
          exact e
      rw [this, flat_one (t := t) (fun k hk => if_neg hk), if_pos ht, if_pos rfl]
    have hsub : (tauF cs (-1) (w t)).Sublist (joinT cs T w) := List.sublist_mergeSort (fun a b c h1 h2 => by simp only [decide_eq_true_eq] at *; omega) (fun a b => by simp only [Bool.or_eq_true, decide_eq_true_eq]; omega) (tauF_up cs _ _) (by
      refine List.sublist_flatten_of_mem ?_
      exact List.mem_map.2 ⟨t, List.mem_range.2 ht, rfl⟩)
    have h1 := hsub.filter (fun q => (atC cs q.2).thing.toNat == t)
    rw [hself] at h1
    refine (h1.eq_of_length ?_).symm
    have h2 := ((List.mergeSort_perm ((List.range T).flatMap fun k => tauF cs (-1) (w k)) (fun a b => decide (a.1 ≤ b.1))).filter (fun q => (atC cs q.2).thing.toNat == t)).length_eq
    rw [hflat] at h2
    exact h2.symm
  have h9 : ownW cs t ((joinT cs T w).map (·.2)) = ((joinT cs T w).filter (fun q => (atC cs q.2).thing.toNat == t)).map (·.2) := by
    unfold ownW
    rw [List.filter_map]
    rfl
  rw [h9, key, tauF_map]
theorem joinT_mem {cs : List Cl} {w : Nat → List (Int × Int)} {T : Nat} {q : Int × (Int × Int)} : q ∈ joinT cs T w ↔ ∃ t, t < T ∧ q ∈ tauF cs (-1) (w t) := by
  unfold joinT
  rw [(List.mergeSort_perm _ _).mem_iff, List.mem_flatMap]
  exact ⟨fun ⟨t, h1, h2⟩ => ⟨t, List.mem_range.1 h1, h2⟩, fun ⟨t, h1, h2⟩ => ⟨t, List.mem_range.2 h1, h2⟩⟩
/-- HERLIHY, WING: right orders of the parts can be joined to one of the whole, in which each part stands as it stood. -/
theorem local_join {ts : List Int} {cs : List Cl} (hth : ∀ c ∈ cs, 0 ≤ c.thing ∧ c.thing < ts.length) (he : ∀ c ∈ cs, c.til = -1 ∨ c.frm < c.til) (h0 : ∀ c ∈ cs, 0 ≤ c.frm)
    {w : Nat → List (Int × Int)} (hw : ∀ t, t < ts.length → RiteT ts cs t (w t)) : ∃ ws, Rite ts cs ws ∧ ∀ t, t < ts.length → ownW cs t ws = w t := by
  have hown := fun t ht => joinT_own hw (t := t) ht
  have hin : ∀ q ∈ joinT cs ts.length w, ∃ t, t < ts.length ∧ q ∈ tauF cs (-1) (w t) ∧ q.2 ∈ w t := fun q hq => by
    obtain ⟨t, ht, h1⟩ := joinT_mem.1 hq
    refine ⟨t, ht, h1, ?_⟩
    have : q.2 ∈ (tauF cs (-1) (w t)).map (·.2) := List.mem_map.2 ⟨q, h1, rfl⟩
    rwa [tauF_map] at this
  refine ⟨(joinT cs ts.length w).map (·.2), rite_join hth (fun x hx => ?_) (fun t ht => ?_) (fun i j hi hj ha a y b hs hy => ?_), hown⟩
  · obtain ⟨q, hq, rfl⟩ := List.mem_map.1 hx
    obtain ⟨t, ht, _, h2⟩ := hin q hq
    exact (hw t ht).rng _ h2
  · rw [hown t ht]
    exact hw t ht
  · obtain ⟨A, B, e1, e2, e3⟩ := List.map_eq_append_iff.1 hs
    obtain ⟨q, B', rfl, rfl, rfl⟩ := List.map_eq_cons_iff.1 e3
    have hah := of_decide_eq_true ha
    have hm : cs.getD i default ∈ cs := by rw [List.getD_eq_getElem?_getD, List.getElem?_eq_getElem hi]; exact List.getElem_mem _
    have hti := hth _ hm
    obtain ⟨x, hx, ex⟩ := List.mem_map.1 ((hw (cs.getD i default).thing.toNat (by omega)).all i hi rfl hah.1)
    have hx2 : x ∈ (tauF cs (-1) (w (cs.getD i default).thing.toNat)).map (·.2) := by rw [tauF_map]; exact hx
    obtain ⟨q1, hq1, rfl⟩ := List.mem_map.1 hx2
    have hj1 : q1 ∈ joinT cs ts.length w := joinT_mem.2 ⟨_, by omega, hq1⟩
    have hle := tauF_til (hw (cs.getD i default).thing.toNat (by omega)) he h0 hq1 (by rw [atC_of ex]; exact hah.1)
    rw [atC_of ex] at hle
    obtain ⟨t2, ht2, hq2, _⟩ := hin q (by rw [e1]; simp)
    obtain ⟨_, _, _, hge, _⟩ := tauF_at cs _ _ q hq2
    rw [atC_of hy] at hge
    have hlt : q1.1 < q.1 := by omega
    have hpw : (joinT cs ts.length w).Pairwise fun a b => decide (a.1 ≤ b.1) = true := List.pairwise_mergeSort (fun a b c h1 h2 => by simp only [decide_eq_true_eq] at *; omega) (fun a b => by simp only [Bool.or_eq_true, decide_eq_true_eq]; omega) _
    rw [e1] at hj1 hpw
    rcases List.mem_append.1 hj1 with h | h
    · rw [← e2]
      exact List.mem_map.2 ⟨q1.2, List.mem_map.2 ⟨q1, h, rfl⟩, ex⟩
    · exfalso
      rcases List.mem_cons.1 h with rfl | h
      · omega
      · have h5 := (List.pairwise_cons.1 (List.pairwise_append.1 hpw).2.1).1 q1 h
        have := of_decide_eq_true h5
        omega
/-- HERLIHY, WING: there is a right order of the whole just if there is one of each part. -/
theorem local_iff {ts : List Int} {cs : List Cl} (hth : ∀ c ∈ cs, 0 ≤ c.thing ∧ c.thing < ts.length) (he : ∀ c ∈ cs, c.til = -1 ∨ c.frm < c.til) (h0 : ∀ c ∈ cs, 0 ≤ c.frm) :
    (∃ ws, Rite ts cs ws) ↔ ∀ t, t < ts.length → ∃ w, RiteT ts cs t w := by
  constructor
  · rintro ⟨ws, h⟩ t ht
    exact ⟨_, h.part ht⟩
  · intro h
    have h2 : ∀ t, ∃ w, t < ts.length → RiteT ts cs t w := fun t => by
      by_cases ht : t < ts.length
      · obtain ⟨w, hw⟩ := h t ht
        exact ⟨w, fun _ => hw⟩
      · exact ⟨[], fun h => absurd h ht⟩
    obtain ⟨w, hw⟩ := Classical.axiomOfChoice h2
    obtain ⟨ws, h3, _⟩ := local_join hth he h0 hw
    exact ⟨ws, h3⟩
end Go.Proofs.YtfgangkpebkicaaDoor

/-
  Plain: what is joined. Lists of right orders are never round; and what they are joined to has each list as it stood.
-/
namespace Go.Proofs.YtfgangkpebkicaaDoor
open Go.RowKit
set_option maxRecDepth 20000
def adjP (l : List (Int × Int)) (i j : Nat) : Prop := ∃ u x y v, l = u ++ x :: y :: v ∧ x.1.toNat = i ∧ y.1.toNat = j
theorem adjP_cons {x y : Int × Int} {r : List (Int × Int)} {i j : Nat} : adjP (x :: y :: r) i j ↔ (i = x.1.toNat ∧ j = y.1.toNat) ∨ adjP (y :: r) i j := by
  constructor
  · rintro ⟨u, a, b, v, e, h1, h2⟩
    match u, e with
    | [], e =>
      injection e with e1 e2
      injection e2 with e2 _
      subst e1 e2
      exact .inl ⟨h1.symm, h2.symm⟩
    | c :: u, e =>
      injection e with _ e2
      exact .inr ⟨u, a, b, v, e2, h1, h2⟩
  · rintro (⟨rfl, rfl⟩ | ⟨u, a, b, v, e, h1, h2⟩)
    · exact ⟨[], x, y, r, rfl, rfl, rfl⟩
    · exact ⟨x :: u, a, b, v, by rw [e]; rfl, h1, h2⟩
theorem adjP_short {l : List (Int × Int)} (h : l.length ≤ 1) (i j : Nat) : ¬ adjP l i j := by
  rintro ⟨u, a, b, v, rfl, _⟩
  simp at h
  omega
theorem lnkP_iff : ∀ (l : List (Int × Int)) (p : Nat → Nat → Bool) (i j : Nat), lnkP p l i j = true ↔ p i j = true ∨ adjP l i j
  | [], p, i, j => ⟨.inl, fun h => h.resolve_right (adjP_short (by simp) i j)⟩
  | [x], p, i, j => ⟨.inl, fun h => h.resolve_right (adjP_short (by simp) i j)⟩
  | x :: y :: r, p, i, j => by
    rw [lnkP, lnkP_iff (y :: r), adjP_cons]
    unfold setP
    simp only [Bool.or_eq_true, Bool.and_eq_true, decide_eq_true_eq]
    exact or_assoc
theorem relF_iff : ∀ (ww : List (List (Int × Int))) (p : Nat → Nat → Bool) (i j : Nat), relF p ww i j = true ↔ p i j = true ∨ ∃ l ∈ ww, adjP l i j
  | [], p, i, j => by simp [relF]
  | l :: r, p, i, j => by
    rw [relF, relF_iff r, lnkP_iff]
    simp only [List.mem_cons, exists_eq_or_imp]
    exact or_assoc
theorem cyc_rank {n : Nat} {p : Nat → Nat → Bool} (f : Nat → Nat) (h : ∀ i j, i < n → j < n → p i j = true → f i < f j) : cyc (clo n (relP p n)) n = false := by
  have key : ∀ k, k ≤ n → ∀ x y, x < n → (warsh n (relP p n) k x).testBit y = true → f x < f y := by
    intro k
    induction k with
    | zero =>
      intro _ x y _ hb
      change (relP p n x).testBit y = true at hb
      rw [relP_bit] at hb
      simp only [Bool.and_eq_true, decide_eq_true_eq] at hb
      exact h x y hb.1.1 hb.1.2 hb.2
    | succ k ih =>
      intro hk x y hx hb
      change (stepV n (warsh n (relP p n) k) k x).testBit y = true at hb
      rw [stepV_bit n _ k _ _ hx] at hb
      simp only [Bool.or_eq_true, Bool.and_eq_true] at hb
      rcases hb with hb | ⟨h1, h2⟩
      · exact ih (by omega) x y hx hb
      · have a1 := ih (by omega) x k hx h1
        have a2 := ih (by omega) k y (by omega) h2
        omega
  cases hc : cyc (clo n (relP p n)) n with
  | false => rfl
  | true =>
    obtain ⟨v, hv, hb⟩ := (cyc_iff _ _).1 hc
    have := key n (Nat.le_refl _) v v hv hb
    omega
/-- The place of a call in a list. -/
def plcW (ws : List (Int × Int)) (k : Int) : Nat := match ws with
  | [] => 0
  | a :: r => if a.1 = k then 0 else plcW r k + 1
theorem plcW_lt : ∀ {ws : List (Int × Int)}, (ws.map (·.1)).Nodup → ∀ {x y : Int × Int}, [x, y].Sublist ws → plcW ws x.1 < plcW ws y.1
  | [], _, x, y, h => by simp at h
  | a :: r, hnd, x, y, h => by
    rw [List.map_cons, List.nodup_cons] at hnd
    have hne : ∀ z ∈ r, a.1 ≠ z.1 := fun z hz e => hnd.1 (List.mem_map.2 ⟨z, hz, e.symm⟩)
    unfold plcW
    cases h with
    | cons _ h =>
      rw [if_neg (hne x (h.subset (by simp))), if_neg (hne y (h.subset (by simp)))]
      have := plcW_lt hnd.2 h
      omega
    | cons_cons _ h =>
      rw [if_pos rfl, if_neg (hne y (h.subset (by simp)))]
      omega
end Go.Proofs.YtfgangkpebkicaaDoor

/-
  Plain: what is joined has each list as it stood, and keeps 'ahead of'.
-/
namespace Go.Proofs.YtfgangkpebkicaaDoor
open Go.RowKit
set_option maxRecDepth 20000
section
variable {n : Nat} {c : Nat → Nat}
theorem nth_lt (h : Strict n c) (hn : n ≤ 12) {k : Nat} (hk : k < n) : nth n c k < n :=
  (next_is h hn (lsD_lt (rev n c) n k) (by rw [(least_step h hn k (by omega)).1]; exact hk)).1
theorem nth_ne (h : Strict n c) (hn : n ≤ 12) {m k : Nat} (hmk : m < k) (hk : k < n) : nth n c m ≠ nth n c k := fun e => by
  have h1 := (next_is h hn (lsD_lt (rev n c) n k) (by rw [(least_step h hn k (by omega)).1]; exact hk)).2.1
  have h2 := ((least_step h hn k (by omega)).2 (nth n c k)).2 ⟨m, hmk, e⟩
  change (lsD (rev n c) n k).testBit (nth n c k) = false at h1
  rw [h1] at h2
  cases h2
end
theorem pw_adj {R : Nat → Nat → Prop} {n : Nat} (htr : ∀ i j k, i < n → j < n → R i j → R j k → R i k) : ∀ {l : List (Int × Int)}, (∀ x ∈ l, 0 ≤ x.1 ∧ x.1 < n) → (∀ i j, adjP l i j → R i j) → l.Pairwise fun x y => R x.1.toNat y.1.toNat
  | [], _, _ => List.Pairwise.nil
  | [x], _, _ => List.pairwise_singleton _ _
  | x :: y :: r, hr, ha => by
    have ih := pw_adj (R := R) htr (l := y :: r) (fun z hz => hr z (List.mem_cons_of_mem _ hz)) (fun i j h => ha i j (adjP_cons.2 (.inr h)))
    have h0 : R x.1.toNat y.1.toNat := ha _ _ (adjP_cons.2 (.inl ⟨rfl, rfl⟩))
    have hx := hr x (by simp)
    have hy := hr y (by simp)
    refine List.pairwise_cons.2 ⟨fun z hz => ?_, ih⟩
    rcases List.mem_cons.1 hz with rfl | hz
    · exact h0
    · exact htr _ _ _ (by omega) (by omega) h0 ((List.pairwise_cons.1 ih).1 z hz)
section
variable {cs : List Cl} {ww : List (List (Int × Int))} {G : Int → Option Int}
end
end Go.Proofs.YtfgangkpebkicaaDoor

/-
  slices.Equal of two lists of integers.
-/
namespace Go.Proofs.YtfgangkpebkicaaDoor
open Go.RowKit
set_option maxRecDepth 20000
theorem ext_eq {α : Type} {xs ys : List α} (hl : xs.length = ys.length) (h : ∀ (j : Nat) (x y : α), xs[j]? = some x → ys[j]? = some y → x = y) : xs = ys := by
  apply List.ext_getElem hl
  intro j h1 h2
  exact h j _ _ (List.getElem?_eq_getElem h1) (List.getElem?_eq_getElem h2)
set_option maxHeartbeats 2000000 in
theorem eqInt_any {B1 B2 : Nat} {v1 v2 : Value} {xs ys : List Int} {w : World} (h1 : NRd w B1 v1 xs) (h2 : NRd w B2 v2 ys) :
    Calls Tryd.prog 35 #[v1, v2] w fun e w' => e = .returned (.bool (decide (xs = ys))) ∧ Below w.heap.size w w' := by
  obtain ⟨A1, c1, rfl, m1, m2⟩ := h1.is
  obtain ⟨A2, c2, rfl, m3, m4⟩ := h2.is
  unfold maxLen at m2 m4
  have H1 := Lib.hid h1
  have H2 := Lib.hid h2
  clear h1 h2
  obtain ⟨n, hn⟩ : ∃ n, n = xs.length := ⟨_, rfl⟩
  obtain ⟨n', hn'⟩ : ∃ n, n = ys.length := ⟨_, rfl⟩
  rw [← hn, ← hn']
  rw [← hn] at m1
  rw [← hn'] at m3
  have HN := Lib.hid hn
  have HN' := Lib.hid hn'
  clear hn hn'
  by_cases hl : n = n'
  · subst hl
    go_enter Tryd.func35, Tryd.ntmps35
    go_wp2_with fail
    go_loopw [13] (fun i wr => ∃ k : Nat, k ≤ n ∧ i = .int .i64 k ∧ (∀ (j : Nat) (x y : Int), j < k → xs[j]? = some x → ys[j]? = some y → x = y) ∧ ∃ nq, wr = w.drewN nq) (fun i _ => n - (intOf i).toNat)
    case atStart => exact ⟨0, by omega, rfl, fun j x y hj => by omega, 0, rfl⟩
    case round =>
      obtain ⟨k, hk, rfl, ha, nq, rfl⟩ := hrel
      have HA := Lib.hid ha
      clear ha
      by_cases hkn : k < n
      · obtain ⟨x, hx⟩ : ∃ x, xs[k]? = some x := ⟨_, List.getElem?_eq_getElem (by rw [← HN.out]; exact hkn)⟩
        obtain ⟨y, hy⟩ : ∃ y, ys[k]? = some y := ⟨_, List.getElem?_eq_getElem (by rw [← HN'.out]; exact hkn)⟩
        have h1' := H1.out
        have h2' := H2.out
        rw [← HN.out] at h1'
        rw [← HN'.out] at h2'
        obtain ⟨g1, o1, rfl, -, b0⟩ := h1'.num hx
        obtain ⟨g2, o2, rfl, -, d0⟩ := h2'.num hy
        have HX := Lib.hid (And.intro hx hy)
        clear h1' h2' hx hy
        have i1 : (0 : Int) ≤ (k : Int) := by omega
        have i2 : (k : Int) < (n : Int) := by omega
        by_cases hxy : x = y
        · have HXY := Lib.hid hxy
          subst hxy
          go_wp2_with fail
          go_quiet (fail)
          go_wp2_with fail
          go_roundw
          case rel => exact ⟨k + 1, by omega, by go_num, fun j a b hj ha hb => by
            rcases Nat.lt_or_ge j k with h | h
            · exact HA.out j a b h ha hb
            · obtain rfl : j = k := by omega
              rw [HX.out.1] at ha
              rw [HX.out.2] at hb
              exact Option.some.inj (ha.symm.trans hb), _, rfl⟩
          case measure => simp [intOf]; omega
        · have hz : (x != y) = true := by rw [bne_iff_ne]; exact hxy
          have HXY := Lib.hid hxy
          clear hxy
          go_wp2_with fail
          go_quiet (fail)
          go_wp2_with fail
          go_ret
          exact ⟨ret_bool (decide_eq_false (fun e => HXY.out (by
              have h1 := HX.out.1
              rw [e, HX.out.2] at h1
              exact (Option.some.inj h1).symm))).symm, belowN (belowN (Below.refl _ _) _) _⟩
      · obtain rfl : k = n := by omega
        go_wp2_with fail
        go_ret
        exact ⟨ret_bool (decide_eq_true (ext_eq (HN.out.symm.trans HN'.out) (fun j x y hx hy => HA.out j x y (by rw [HN.out]; exact (List.getElem?_eq_some_iff.1 hx).1) hx hy))).symm, belowN (Below.refl _ _) _⟩
  · have hz : ((n : Int) != (n' : Int)) = true := by rw [bne_iff_ne]; omega
    have hne : decide (xs = ys) = false := decide_eq_false (fun e => hl (by rw [HN.out, HN'.out, e]))
    rw [hne]
    clear hne hl
    go_enter Tryd.func35, Tryd.ntmps35
    go_wp2_with fail
    go_ret
    exact ⟨rfl, Below.refl _ _⟩
theorem eqInt_same {B1 B2 : Nat} {v1 v2 : Value} {xs : List Int} {w : World} (h1 : NRd w B1 v1 xs) (h2 : NRd w B2 v2 xs) :
    Calls Tryd.prog 35 #[v1, v2] w fun e w' => e = .returned (.bool true) ∧ Below w.heap.size w w' := by
  have := eqInt_any h1 h2
  rwa [decide_eq_true rfl] at this
end Go.Proofs.YtfgangkpebkicaaDoor

/-
  Rows of truths: slices.Equal, slices.Contains.
-/
namespace Go.Proofs.YtfgangkpebkicaaDoor
open Go.RowKit
set_option maxRecDepth 20000
abbrev blCs (b : Bool) : List Value := [.bool b]
abbrev BlRd (w : World) (B : Nat) (v : Value) (l : List Bool) : Prop := LRd 1 blCs w B v l
theorem BTab.rd {w : World} {g N : Nat} {S : Nat → Bool} (h : BTab w g N S) (hN : N ≤ 1000) : BlRd w w.heap.size (.slice (some ⟨g, 0, none⟩) N N) ((List.range N).map S) := by
  refine ⟨some ⟨g, 0, none⟩, N, by rw [List.length_map, List.length_range], by simp, by unfold maxLen; omega, fun _ => ⟨g, 0, rfl, h.lt, fun k x hx j u hu => ?_⟩⟩
  have hk : k < N := by
    have := (List.getElem?_eq_some_iff.1 hx).1
    simpa using this
  rw [List.getElem?_map, List.getElem?_range hk] at hx
  injection hx with hx
  subst hx
  match j, hu with
  | 0, hu =>
    injection hu with hu
    subst hu
    have := h.cell hk
    simpa using this
end Go.Proofs.YtfgangkpebkicaaDoor
