/-
  Joined by a program out of: LocalPure, PartRite, LSaysP.
-/
import Derived.Test.YtfgangkpebkicaaDoorMgAR
import Derived.Test.YtfgangkpebkicaaDoorMgAT

/-
  Plain: locality. A right order of the whole is, thing by thing, a right order of each part; and right orders of the parts are joined to one of the whole (Herlihy, Wing).
-/
namespace Go.Proofs.YtfgangkpebkicaaDoor
open Go.RowKit
set_option maxRecDepth 20000
/-- A right order of what thing t was asked, with the numbers of the whole. -/
structure RiteT (ts : List Int) (cs : List Cl) (t : Nat) (w : List (Int × Int)) : Prop where
  rng : ∀ x ∈ w, 0 ≤ x.1 ∧ x.1 < cs.length
  own : ∀ x ∈ w, (atC cs x).thing.toNat = t
  once : (w.map (·.1)).Nodup
  res : ∀ x ∈ w, (atC cs x).til ≠ -1 → (atC cs x).res = x.2
  all : ∀ i, i < cs.length → (cs.getD i default).thing.toNat = t → (cs.getD i default).til ≠ -1 → (i : Int) ∈ w.map (·.1)
  ord : ∀ i j, i < cs.length → j < cs.length → (cs.getD i default).thing.toNat = t → aheadB cs i j = true → ∀ a y b, w = a ++ y :: b → y.1 = (j : Int) → (i : Int) ∈ a.map (·.1)
  goes : goesB (ts.getD t 0) (beginL (ts.getD t 0)) (w.map (ddC cs)) = true
/-- The steps of thing t. -/
def ownW (cs : List Cl) (t : Nat) (ws : List (Int × Int)) : List (Int × Int) := ws.filter fun x => (atC cs x).thing.toNat == t
theorem ownW_mem {cs : List Cl} {t : Nat} {ws : List (Int × Int)} {x : Int × Int} : x ∈ ownW cs t ws ↔ x ∈ ws ∧ (atC cs x).thing.toNat = t := by
  unfold ownW
  rw [List.mem_filter, beq_iff_eq]
theorem atC_of {cs : List Cl} {x : Int × Int} {i : Nat} (h : x.1 = (i : Int)) : atC cs x = cs.getD i default := by unfold atC; rw [h]; rfl
theorem filter_split {α : Type} {p : α → Bool} : ∀ {l a : List α} {y : α} {b : List α}, l.filter p = a ++ y :: b → ∃ a' b', l = a' ++ y :: b' ∧ a'.filter p = a
  | [], a, y, b, h => by
    cases a <;> cases h
  | z :: l, a, y, b, h => by
    rw [List.filter_cons] at h
    split at h
    · cases a with
      | nil =>
        injection h with h1 h2
        exact ⟨[], l, by rw [h1]; rfl, rfl⟩
      | cons c a =>
        injection h with h1 h2
        obtain ⟨a', b', e1, e2⟩ := filter_split h2
        subst h1
        refine ⟨z :: a', b', by rw [e1]; rfl, ?_⟩
        rename_i hz
        rw [List.filter_cons, if_pos hz, e2]
    · obtain ⟨a', b', e1, e2⟩ := filter_split h
      rename_i hz
      refine ⟨z :: a', b', by rw [e1]; rfl, ?_⟩
      rw [List.filter_cons, if_neg hz, e2]
/-- Thing by thing a right order is right. -/
theorem Rite.part {ts : List Int} {cs : List Cl} {ws : List (Int × Int)} (h : Rite ts cs ws) {t : Nat} (ht : t < ts.length) : RiteT ts cs t (ownW cs t ws) where
  rng x hx := h.rng x (ownW_mem.1 hx).1
  own x hx := (ownW_mem.1 hx).2
  once := h.once.sublist ((List.filter_sublist).map _)
  res x hx := h.res x (ownW_mem.1 hx).1
  all i hi hth hti := by
    obtain ⟨x, hx, e⟩ := List.mem_map.1 (h.all i hi hti)
    exact List.mem_map.2 ⟨x, ownW_mem.2 ⟨hx, by rw [atC_of e]; exact hth⟩, e⟩
  ord i j hi hj hth ha a y b hs hy := by
    obtain ⟨a', b', e1, e2⟩ := filter_split hs
    obtain ⟨x, hx, e⟩ := List.mem_map.1 (h.ord i j hi hj ha a' y b' e1 hy)
    refine List.mem_map.2 ⟨x, ?_, e⟩
    rw [← e2, List.mem_filter]
    exact ⟨hx, by rw [beq_iff_eq, atC_of e]; exact hth⟩
  goes := h.goes t ht
/-- What keeps 'ahead of' and is right thing by thing is right. -/
theorem rite_join {ts : List Int} {cs : List Cl} {ws : List (Int × Int)} (hth : ∀ c ∈ cs, 0 ≤ c.thing ∧ c.thing < ts.length) (hr : ∀ x ∈ ws, 0 ≤ x.1 ∧ x.1 < cs.length)
    (hp : ∀ t, t < ts.length → RiteT ts cs t (ownW cs t ws))
    (ho : ∀ i j, i < cs.length → j < cs.length → aheadB cs i j = true → ∀ a y b, ws = a ++ y :: b → y.1 = (j : Int) → (i : Int) ∈ a.map (·.1)) : Rite ts cs ws where
  rng := hr
  once := by
    have hpw : ∀ (l : List (Int × Int)), (∀ x ∈ l, x ∈ ws) → l.Sublist ws → (l.map (·.1)).Nodup := by
      intro l
      induction l with
      | nil => intro _ _; exact List.nodup_nil
      | cons x l ih =>
        intro hm hs
        rw [List.map_cons, List.nodup_cons]
        refine ⟨fun hx => ?_, ih (fun y hy => hm y (List.mem_cons_of_mem _ hy)) ((List.sublist_cons_self _ _).trans hs)⟩
        obtain ⟨y, hy, e⟩ := List.mem_map.1 hx
        have e2 : (atC cs y).thing.toNat = (atC cs x).thing.toNat := by unfold atC; rw [e]
        have ht := atC_thing hth (hr x (hm x (List.mem_cons_self ..)))
        have h1 := (hp (atC cs x).thing.toNat (by omega)).once
        have h2 : (ownW cs (atC cs x).thing.toNat (x :: l)).Sublist (ownW cs (atC cs x).thing.toNat ws) := hs.filter _
        have h3 := h1.sublist (h2.map (·.1))
        rw [show ownW cs (atC cs x).thing.toNat (x :: l) = x :: ownW cs (atC cs x).thing.toNat l by unfold ownW; rw [List.filter_cons, if_pos (by rw [beq_iff_eq])], List.map_cons, List.nodup_cons] at h3
        exact h3.1 (List.mem_map.2 ⟨y, ownW_mem.2 ⟨hy, e2⟩, e⟩)
    exact hpw ws (fun x h => h) (List.Sublist.refl _)
  res x hx := (hp _ (by have := atC_thing hth (hr x hx); omega)).res x (ownW_mem.2 ⟨hx, rfl⟩)
  all i hi hti := by
    have hm : cs.getD i default ∈ cs := by rw [List.getD_eq_getElem?_getD, List.getElem?_eq_getElem hi]; exact List.getElem_mem _
    have := hth _ hm
    obtain ⟨x, hx, e⟩ := List.mem_map.1 ((hp (cs.getD i default).thing.toNat (by omega)).all i hi rfl hti)
    exact List.mem_map.2 ⟨x, (ownW_mem.1 hx).1, e⟩
  ord := ho
  goes t ht := (hp t ht).goes
/-- Each step with the latest begin among it and those before it. -/
def tauF (cs : List Cl) : Int → List (Int × Int) → List (Int × (Int × Int))
  | _, [] => []
  | m, x :: r => (max m (atC cs x).frm, x) :: tauF cs (max m (atC cs x).frm) r
theorem tauF_map (cs : List Cl) : ∀ (w : List (Int × Int)) (m : Int), (tauF cs m w).map (·.2) = w
  | [], _ => rfl
  | x :: r, m => by rw [tauF, List.map_cons, tauF_map cs r]
theorem tauF_ge (cs : List Cl) : ∀ (w : List (Int × Int)) (m : Int), ∀ q ∈ tauF cs m w, m ≤ q.1
  | [], _, q, h => by cases h
  | x :: r, m, q, h => by
    rw [tauF, List.mem_cons] at h
    rcases h with rfl | h
    · simp only; omega
    · have := tauF_ge cs r _ q h
      omega
theorem tauF_up (cs : List Cl) : ∀ (w : List (Int × Int)) (m : Int), (tauF cs m w).Pairwise fun a b => decide (a.1 ≤ b.1) = true
  | [], _ => List.Pairwise.nil
  | x :: r, m => by
    rw [tauF, List.pairwise_cons]
    exact ⟨fun q hq => decide_eq_true (tauF_ge cs r _ q hq), tauF_up cs r _⟩
theorem tauF_at (cs : List Cl) : ∀ (w : List (Int × Int)) (m : Int), ∀ q ∈ tauF cs m w, ∃ a b, w = a ++ q.2 :: b ∧ (atC cs q.2).frm ≤ q.1 ∧ ∀ B, m ≤ B → (∀ y ∈ a, (atC cs y).frm ≤ B) → (atC cs q.2).frm ≤ B → q.1 ≤ B
  | [], _, q, h => by cases h
  | x :: r, m, q, h => by
    rw [tauF, List.mem_cons] at h
    rcases h with rfl | h
    · exact ⟨[], r, rfl, by simp only; omega, fun B h1 _ h3 => by simp only at h3 ⊢; omega⟩
    · obtain ⟨a, b, e, h1, h2⟩ := tauF_at cs r _ q h
      refine ⟨x :: a, b, by rw [e]; rfl, h1, fun B hB ha hq => h2 B ?_ (fun y hy => ha y (List.mem_cons_of_mem _ hy)) hq⟩
      have := ha x (List.mem_cons_self ..)
      omega
/-- The latest begin is no later than the step's own end. -/
theorem tauF_til {ts : List Int} {cs : List Cl} {t : Nat} {w : List (Int × Int)} (hw : RiteT ts cs t w) (he : ∀ c ∈ cs, c.til = -1 ∨ c.frm < c.til) (h0 : ∀ c ∈ cs, 0 ≤ c.frm) {q : Int × (Int × Int)} (hq : q ∈ tauF cs (-1) w) (hti : (atC cs q.2).til ≠ -1) : q.1 ≤ (atC cs q.2).til := by
  obtain ⟨a, b, e, _, h2⟩ := tauF_at cs w _ q hq
  have hm : q.2 ∈ w := by rw [e]; simp
  have hg : ∀ x ∈ w, atC cs x ∈ cs := fun x hx => by
    have := hw.rng x hx
    unfold atC
    rw [List.getD_eq_getElem?_getD, List.getElem?_eq_getElem (by omega : x.1.toNat < cs.length)]
    exact List.getElem_mem _
  have hend := he _ (hg _ hm)
  have hb := h0 _ (hg _ hm)
  refine h2 _ (by omega) (fun y hy => ?_) (by omega)
  refine Classical.byContradiction fun hlt => ?_
  have hyw : y ∈ w := by rw [e]; exact List.mem_append.2 (.inl hy)
  have r1 := hw.rng _ hm
  have r2 := hw.rng _ hyw
  obtain ⟨a1, b1, e1⟩ := List.append_of_mem hy
  have hah : aheadB cs q.2.1.toNat y.1.toNat = true := decide_eq_true ⟨hti, by unfold atC at hlt; omega⟩
  have h3 := hw.ord q.2.1.toNat y.1.toNat (by omega) (by omega) (hw.own _ hm) hah a1 y (b1 ++ q.2 :: b) (by rw [e, e1]; simp) (by omega)
  have hnd := hw.once
  rw [e, e1, List.map_append, List.map_append] at hnd
  obtain ⟨z, hz, ez⟩ := List.mem_map.1 h3
  have h4 := (List.nodup_append.1 hnd).2.2 z.1 (List.mem_append.2 (.inl (List.mem_map.2 ⟨z, hz, rfl⟩))) q.2.1 (by simp)
  exact h4 (by omega)
/-- All parts' steps, by time. -/
def joinT (cs : List Cl) (T : Nat) (w : Nat → List (Int × Int)) : List (Int × (Int × Int)) :=
  ((List.range T).flatMap fun t => tauF cs (-1) (w t)).mergeSort fun a b => decide (a.1 ≤ b.1)
theorem flat_one {α : Type} {f : Nat → List α} {t : Nat} (h : ∀ k, k ≠ t → f k = []) : ∀ T, (List.range T).flatMap f = if t < T then f t else []
  | 0 => by simp
  | T + 1 => by
    rw [List.range_succ, List.flatMap_append, flat_one h T, List.flatMap_cons, List.flatMap_nil, List.append_nil]
    by_cases e : T = t
    · subst e
      rw [if_neg (by omega), if_pos (by omega), List.nil_append]
    · rw [h T e, List.append_nil]
      by_cases h2 : t < T
      · rw [if_pos h2, if_pos (by omega)]
      · rw [if_neg h2, if_neg (by omega)]
theorem joinT_own {ts : List Int} {cs : List Cl} {w : Nat → List (Int × Int)} {T t : Nat} (hw : ∀ k, k < T → RiteT ts cs k (w k)) (ht : t < T) : ownW cs t ((joinT cs T w).map (·.2)) = w t := by
  have hin : ∀ k, k < T → ∀ q ∈ tauF cs (-1) (w k), (atC cs q.2).thing.toNat = k := fun k hk q hq => (hw k hk).own _ (by
    have : q.2 ∈ (tauF cs (-1) (w k)).map (·.2) := List.mem_map.2 ⟨q, hq, rfl⟩
    rwa [tauF_map] at this)
  have key : (joinT cs T w).filter (fun q => (atC cs q.2).thing.toNat == t) = tauF cs (-1) (w t) := by
    have hself : (tauF cs (-1) (w t)).filter (fun q => (atC cs q.2).thing.toNat == t) = tauF cs (-1) (w t) := List.filter_eq_self.2 fun q hq => by rw [beq_iff_eq]; exact hin t ht q hq
    have hflat : ((List.range T).flatMap fun k => tauF cs (-1) (w k)).filter (fun q => (atC cs q.2).thing.toNat == t) = tauF cs (-1) (w t) := by
      rw [List.filter_flatMap]
      have : (List.range T).flatMap (fun k => (tauF cs (-1) (w k)).filter (fun q => (atC cs q.2).thing.toNat == t)) = (List.range T).flatMap (fun k => if k = t then tauF cs (-1) (w t) else []) := by
        rw [List.flatMap_def, List.flatMap_def]
        refine congrArg List.flatten (List.map_congr_left fun k hk => ?_)
        have hk := List.mem_range.1 hk
        by_cases e : k = t
        · subst e; rw [if_pos rfl, hself]
        · rw [if_neg e, List.filter_eq_nil_iff]
          intro q hq
          rw [beq_iff_eq, hin k hk q hq]
          exact e
      rw [this, flat_one (t := t) (fun k hk => if_neg hk), if_pos ht, if_pos rfl]
    have hsub : (tauF cs (-1) (w t)).Sublist (joinT cs T w) := List.sublist_mergeSort (fun a b c h1 h2 => by simp only [decide_eq_true_eq] at *; omega) (fun a b => by simp only [Bool.or_eq_true, decide_eq_true_eq]; omega) (tauF_up cs _ _) (by
      refine List.sublist_flatten_of_mem ?_
      exact List.mem_map.2 ⟨t, List.mem_range.2 ht, rfl⟩)
    have h1 := hsub.filter (fun q => (atC cs q.2).thing.toNat == t)
    rw [hself] at h1
    refine (h1.eq_of_length ?_).symm
    have h2 := ((List.mergeSort_perm ((List.range T).flatMap fun k => tauF cs (-1) (w k)) (fun a b => decide (a.1 ≤ b.1))).filter (fun q => (atC cs q.2).thing.toNat == t)).length_eq
    rw [hflat] at h2
    exact h2.symm
  have h9 : ownW cs t ((joinT cs T w).map (·.2)) = ((joinT cs T w).filter (fun q => (atC cs q.2).thing.toNat == t)).map (·.2) := by
    unfold ownW
    rw [List.filter_map]
    rfl
  rw [h9, key, tauF_map]
theorem joinT_mem {cs : List Cl} {w : Nat → List (Int × Int)} {T : Nat} {q : Int × (Int × Int)} : q ∈ joinT cs T w ↔ ∃ t, t < T ∧ q ∈ tauF cs (-1) (w t) := by
  unfold joinT
  rw [(List.mergeSort_perm _ _).mem_iff, List.mem_flatMap]
  exact ⟨fun ⟨t, h1, h2⟩ => ⟨t, List.mem_range.1 h1, h2⟩, fun ⟨t, h1, h2⟩ => ⟨t, List.mem_range.2 h1, h2⟩⟩
/-- HERLIHY, WING: right orders of the parts can be joined to one of the whole, in which each part stands as it stood. -/
theorem local_join {ts : List Int} {cs : List Cl} (hth : ∀ c ∈ cs, 0 ≤ c.thing ∧ c.thing < ts.length) (he : ∀ c ∈ cs, c.til = -1 ∨ c.frm < c.til) (h0 : ∀ c ∈ cs, 0 ≤ c.frm)
    {w : Nat → List (Int × Int)} (hw : ∀ t, t < ts.length → RiteT ts cs t (w t)) : ∃ ws, Rite ts cs ws ∧ ∀ t, t < ts.length → ownW cs t ws = w t := by
  have hown := fun t ht => joinT_own hw (t := t) ht
  have hin : ∀ q ∈ joinT cs ts.length w, ∃ t, t < ts.length ∧ q ∈ tauF cs (-1) (w t) ∧ q.2 ∈ w t := fun q hq => by
    obtain ⟨t, ht, h1⟩ := joinT_mem.1 hq
    refine ⟨t, ht, h1, ?_⟩
    have : q.2 ∈ (tauF cs (-1) (w t)).map (·.2) := List.mem_map.2 ⟨q, h1, rfl⟩
    rwa [tauF_map] at this
  refine ⟨(joinT cs ts.length w).map (·.2), rite_join hth (fun x hx => ?_) (fun t ht => ?_) (fun i j hi hj ha a y b hs hy => ?_), hown⟩
  · obtain ⟨q, hq, rfl⟩ := List.mem_map.1 hx
    obtain ⟨t, ht, _, h2⟩ := hin q hq
    exact (hw t ht).rng _ h2
  · rw [hown t ht]
    exact hw t ht
  · obtain ⟨A, B, e1, e2, e3⟩ := List.map_eq_append_iff.1 hs
    obtain ⟨q, B', rfl, rfl, rfl⟩ := List.map_eq_cons_iff.1 e3
    have hah := of_decide_eq_true ha
    have hm : cs.getD i default ∈ cs := by rw [List.getD_eq_getElem?_getD, List.getElem?_eq_getElem hi]; exact List.getElem_mem _
    have hti := hth _ hm
    obtain ⟨x, hx, ex⟩ := List.mem_map.1 ((hw (cs.getD i default).thing.toNat (by omega)).all i hi rfl hah.1)
    have hx2 : x ∈ (tauF cs (-1) (w (cs.getD i default).thing.toNat)).map (·.2) := by rw [tauF_map]; exact hx
    obtain ⟨q1, hq1, rfl⟩ := List.mem_map.1 hx2
    have hj1 : q1 ∈ joinT cs ts.length w := joinT_mem.2 ⟨_, by omega, hq1⟩
    have hle := tauF_til (hw (cs.getD i default).thing.toNat (by omega)) he h0 hq1 (by rw [atC_of ex]; exact hah.1)
    rw [atC_of ex] at hle
    obtain ⟨t2, ht2, hq2, _⟩ := hin q (by rw [e1]; simp)
    obtain ⟨_, _, _, hge, _⟩ := tauF_at cs _ _ q hq2
    rw [atC_of hy] at hge
    have hlt : q1.1 < q.1 := by omega
    have hpw : (joinT cs ts.length w).Pairwise fun a b => decide (a.1 ≤ b.1) = true := List.pairwise_mergeSort (fun a b c h1 h2 => by simp only [decide_eq_true_eq] at *; omega) (fun a b => by simp only [Bool.or_eq_true, decide_eq_true_eq]; omega) _
    rw [e1] at hj1 hpw
    rcases List.mem_append.1 hj1 with h | h
    · rw [← e2]
      exact List.mem_map.2 ⟨q1.2, List.mem_map.2 ⟨q1, h, rfl⟩, ex⟩
    · exfalso
      rcases List.mem_cons.1 h with rfl | h
      · omega
      · have h5 := (List.pairwise_cons.1 (List.pairwise_append.1 hpw).2.1).1 q1 h
        have := of_decide_eq_true h5
        omega
/-- HERLIHY, WING: there is a right order of the whole just if there is one of each part. -/
theorem local_iff {ts : List Int} {cs : List Cl} (hth : ∀ c ∈ cs, 0 ≤ c.thing ∧ c.thing < ts.length) (he : ∀ c ∈ cs, c.til = -1 ∨ c.frm < c.til) (h0 : ∀ c ∈ cs, 0 ≤ c.frm) :
    (∃ ws, Rite ts cs ws) ↔ ∀ t, t < ts.length → ∃ w, RiteT ts cs t w := by
  constructor
  · rintro ⟨ws, h⟩ t ht
    exact ⟨_, h.part ht⟩
  · intro h
    have h2 : ∀ t, ∃ w, t < ts.length → RiteT ts cs t w := fun t => by
      by_cases ht : t < ts.length
      · obtain ⟨w, hw⟩ := h t ht
        exact ⟨w, fun _ => hw⟩
      · exact ⟨[], fun h => absurd h ht⟩
    obtain ⟨w, hw⟩ := Classical.axiomOfChoice h2
    obtain ⟨ws, h3, _⟩ := local_join hth he h0 hw
    exact ⟨ws, h3⟩
end Go.Proofs.YtfgangkpebkicaaDoor

/-
  Plain: a right order of a thing's part is a right order of what the thing was asked in the whole, with other numbers.
-/
namespace Go.Proofs.YtfgangkpebkicaaDoor
open Go.RowKit
set_option maxRecDepth 20000
/-- The numbers of thing q's calls. -/
def idxQ (cs : List Cl) (q : Int) : List Nat := (List.range cs.length).filter fun i => (cs.getD i default).thing == q
theorem range_getD (cs : List Cl) : (List.range cs.length).map (fun i => cs.getD i default) = cs := by
  refine List.ext_getElem (by simp) fun i h1 h2 => ?_
  rw [List.getElem_map, List.getElem_range, List.getD_eq_getElem?_getD, List.getElem?_eq_getElem h2]
  rfl
theorem prt_idx (r : Int → Int) (q : Int) (cs : List Cl) : prt r q cs = (idxQ cs q).map fun i => retC r (cs.getD i default) := by
  unfold prt idxQ
  have h : cs.filter (fun c => c.thing == q) = ((List.range cs.length).map (fun i => cs.getD i default)).filter (fun c => c.thing == q) := by rw [range_getD]
  rw [h, List.filter_map, List.map_map]
  rfl
theorem idxQ_mem {cs : List Cl} {q : Int} {i : Nat} : i ∈ idxQ cs q ↔ i < cs.length ∧ (cs.getD i default).thing = q := by
  unfold idxQ
  rw [List.mem_filter, List.mem_range, beq_iff_eq]
theorem idxQ_nodup (cs : List Cl) (q : Int) : (idxQ cs q).Nodup := List.nodup_range.sublist List.filter_sublist
/-- The number in the whole. -/
def upI (cs : List Cl) (q : Int) (k : Nat) : Nat := (idxQ cs q).getD k 0
def upS (cs : List Cl) (q : Int) (x : Int × Int) : Int × Int := ((upI cs q x.1.toNat : Nat), x.2)
section
variable {ts : List Int} {cs : List Cl} {q : Int} {r : Int → Int}
theorem prt_len : (prt r q cs).length = (idxQ cs q).length := by rw [prt_idx, List.length_map]
theorem upI_mem {k : Nat} (hk : k < (prt r q cs).length) : upI cs q k ∈ idxQ cs q := by
  rw [prt_len] at hk
  unfold upI
  rw [List.getD_eq_getElem?_getD, List.getElem?_eq_getElem hk]
  exact List.getElem_mem _
theorem upI_at {k : Nat} (hk : k < (prt r q cs).length) : (prt r q cs).getD k default = retC r (cs.getD (upI cs q k) default) := by
  have hk2 := hk
  rw [prt_len] at hk2
  unfold upI
  rw [List.getD_eq_getElem?_getD, prt_idx, List.getElem?_map, List.getElem?_eq_getElem hk2, List.getD_eq_getElem?_getD (l := idxQ cs q), List.getElem?_eq_getElem hk2]
  rfl
theorem upI_inj {k m : Nat} (hk : k < (prt r q cs).length) (hm : m < (prt r q cs).length) (h : upI cs q k = upI cs q m) : k = m := by
  rw [prt_len] at hk hm
  unfold upI at h
  rw [List.getD_eq_getElem?_getD, List.getD_eq_getElem?_getD, List.getElem?_eq_getElem hk, List.getElem?_eq_getElem hm] at h
  exact (List.getElem_inj (idxQ_nodup cs q)).1 h
theorem upI_onto (r : Int → Int) {i : Nat} (hi : i < cs.length) (hq : (cs.getD i default).thing = q) : ∃ k, k < (prt r q cs).length ∧ upI cs q k = i := by
  obtain ⟨k, hk, e⟩ := List.getElem_of_mem (idxQ_mem.2 ⟨hi, hq⟩)
  refine ⟨k, by rw [prt_len]; exact hk, ?_⟩
  unfold upI
  rw [List.getD_eq_getElem?_getD, List.getElem?_eq_getElem hk]
  exact e
theorem upS_atC (x : Int × Int) : atC cs (upS cs q x) = cs.getD (upI cs q x.1.toNat) default := by unfold atC upS; rw [Int.toNat_natCast]
theorem part_ahead (hup : ∀ y z, y ≤ z → r y ≤ r z) (hr : ∀ z, 0 ≤ r z) (ht : ∀ c ∈ cs, c.thing = q → c.til ≠ -1 → r (c.til + 1) = r c.til + 1) {k m : Nat} (hk : k < (prt r q cs).length) (hm : m < (prt r q cs).length) :
    aheadB (prt r q cs) k m = aheadB cs (upI cs q k) (upI cs q m) := by
  unfold aheadB
  rw [upI_at hk, upI_at hm, Bool.eq_iff_iff, decide_eq_true_iff, decide_eq_true_iff]
  obtain ⟨h1, h2⟩ := idxQ_mem.1 (upI_mem hk)
  have hmem : cs.getD (upI cs q k) default ∈ cs := by rw [List.getD_eq_getElem?_getD, List.getElem?_eq_getElem h1]; exact List.getElem_mem _
  have htil := ht _ hmem h2
  rw [show (retC r (cs.getD (upI cs q k) default)).til ≠ -1 ↔ (cs.getD (upI cs q k) default).til ≠ -1 from not_congr (retC_til hr _)]
  generalize cs.getD (upI cs q k) default = c at *
  generalize cs.getD (upI cs q m) default = d at *
  constructor
  · rintro ⟨h3, h4⟩
    refine ⟨h3, Classical.byContradiction fun h5 => ?_⟩
    unfold retC at h4
    simp only at h4
    rw [if_neg h3] at h4
    have := hup d.frm c.til (by omega)
    omega
  · rintro ⟨h3, h4⟩
    refine ⟨h3, ?_⟩
    unfold retC
    simp only
    rw [if_neg h3]
    have := hup (c.til + 1) d.frm (by omega)
    have := htil h3
    omega
/-- Right in the part just if right in the whole. -/
theorem rite_part_iff (hup : ∀ y z, y ≤ z → r y ≤ r z) (hr : ∀ z, 0 ≤ r z) (ht : ∀ c ∈ cs, c.thing = q → c.til ≠ -1 → r (c.til + 1) = r c.til + 1) (hth : ∀ c ∈ cs, 0 ≤ c.thing ∧ c.thing < ts.length) {t : Nat} (hq : q = (t : Int)) (htt : t < ts.length)
    {ws : List (Int × Int)} (hrng : ∀ x ∈ ws, 0 ≤ x.1 ∧ x.1 < (prt r q cs).length) : Rite ts (prt r q cs) ws ↔ RiteT ts cs t (ws.map (upS cs q)) := by
  have hfst : (ws.map (upS cs q)).map (·.1) = (ws.map (·.1)).map fun z => ((upI cs q z.toNat : Nat) : Int) := by rw [List.map_map, List.map_map]; rfl
  have hat : ∀ x ∈ ws, atC (prt r q cs) x = retC r (atC cs (upS cs q x)) := fun x hx => by
    have := hrng x hx
    rw [upS_atC]
    exact upI_at (by omega)
  have hin : ∀ k, k < (prt r q cs).length → ((k : Int) ∈ ws.map (·.1) ↔ ((upI cs q k : Nat) : Int) ∈ (ws.map (upS cs q)).map (·.1)) := fun k hk => by
    rw [hfst]
    constructor
    · intro h
      exact List.mem_map.2 ⟨_, h, by rw [Int.toNat_natCast]⟩
    · intro h
      obtain ⟨z, hz, e⟩ := List.mem_map.1 h
      obtain ⟨x, hx, rfl⟩ := List.mem_map.1 hz
      have := hrng x hx
      have := upI_inj (cs := cs) (r := r) (k := x.1.toNat) (m := k) (by omega) hk (by omega)
      rw [← this, Int.toNat_of_nonneg (by omega)]
      exact hz
  have hown : ownD (prt r q cs) t ws = (ws.map (upS cs q)).map (ddC cs) := by
    unfold ownD
    rw [List.filter_eq_self.2 (fun x hx => by
      have h1 := hrng x hx
      obtain ⟨_, h2⟩ := idxQ_mem.1 (upI_mem (cs := cs) (q := q) (r := r) (k := x.1.toNat) (by omega))
      rw [beq_iff_eq, hat x hx, upS_atC]
      show (cs.getD (upI cs q x.1.toNat) default).thing.toNat = t
      rw [h2, hq, Int.toNat_natCast]), List.map_map]
    refine List.map_congr_left fun x hx => ?_
    show ddC (prt r q cs) x = ddC cs (upS cs q x)
    unfold ddC
    rw [hat x hx]
    rfl
  have honce : (ws.map (·.1)).Nodup ↔ ((ws.map (upS cs q)).map (·.1)).Nodup := by
    rw [hfst]
    unfold List.Nodup
    rw [List.pairwise_map (f := fun z : Int => ((upI cs q z.toNat : Nat) : Int))]
    constructor
    · intro h
      refine h.imp_of_mem fun {a b} ha hb hab e => hab ?_
      obtain ⟨x, hx, rfl⟩ := List.mem_map.1 ha
      obtain ⟨y, hy, rfl⟩ := List.mem_map.1 hb
      have h1 := hrng x hx
      have h2 := hrng y hy
      have e2 : upI cs q x.1.toNat = upI cs q y.1.toNat := by exact Int.ofNat.inj e
      have := upI_inj (cs := cs) (r := r) (k := x.1.toNat) (m := y.1.toNat) (by omega) (by omega) e2
      omega
    · intro h
      exact h.imp fun {a b} hab e => hab (by rw [e])
  constructor
  · intro h
    refine ⟨fun y hy => ?_, fun y hy => ?_, honce.1 h.once, fun y hy hy2 => ?_, fun i hi hit hti => ?_, fun i j hi hj hit ha a y b hs hy => ?_, ?_⟩
    · obtain ⟨x, hx, rfl⟩ := List.mem_map.1 hy
      have h1 := hrng x hx
      obtain ⟨h2, _⟩ := idxQ_mem.1 (upI_mem (cs := cs) (q := q) (r := r) (k := x.1.toNat) (by omega))
      unfold upS
      exact ⟨by simp only; omega, by simp only; omega⟩
    · obtain ⟨x, hx, rfl⟩ := List.mem_map.1 hy
      have h1 := hrng x hx
      obtain ⟨_, h2⟩ := idxQ_mem.1 (upI_mem (cs := cs) (q := q) (r := r) (k := x.1.toNat) (by omega))
      rw [upS_atC, h2, hq, Int.toNat_natCast]
    · obtain ⟨x, hx, rfl⟩ := List.mem_map.1 hy
      have := h.res x hx (by rw [hat x hx]; exact fun h5 => hy2 ((retC_til hr _).1 h5))
      rw [hat x hx] at this
      exact this
    · have hm : cs.getD i default ∈ cs := by rw [List.getD_eq_getElem?_getD, List.getElem?_eq_getElem hi]; exact List.getElem_mem _
      have := hth _ hm
      obtain ⟨k, hk, rfl⟩ := upI_onto (cs := cs) (q := q) r hi (by omega)
      exact (hin k hk).1 (h.all k hk (by rw [upI_at hk]; exact fun h5 => hti ((retC_til hr _).1 h5)))
    · have hm : cs.getD i default ∈ cs := by rw [List.getD_eq_getElem?_getD, List.getElem?_eq_getElem hi]; exact List.getElem_mem _
      have := hth _ hm
      obtain ⟨k, hk, rfl⟩ := upI_onto (cs := cs) (q := q) r hi (by omega)
      obtain ⟨A, B, rfl, rfl, e3⟩ := List.map_eq_append_iff.1 hs
      obtain ⟨x, B', rfl, rfl, rfl⟩ := List.map_eq_cons_iff.1 e3
      have hx := hrng x (by simp)
      have ej : upI cs q x.1.toNat = j := by unfold upS at hy; simp only at hy; omega
      subst ej
      rw [← part_ahead hup hr ht hk (by omega)] at ha
      obtain ⟨z, hz, ez⟩ := List.mem_map.1 (h.ord k x.1.toNat hk (by omega) ha A x B' rfl (by omega))
      refine List.mem_map.2 ⟨upS cs q z, List.mem_map.2 ⟨z, hz, rfl⟩, ?_⟩
      unfold upS
      rw [ez, Int.toNat_natCast]
    · rw [← hown]
      exact h.goes t htt
  · intro h
    refine ⟨hrng, honce.2 h.once, fun x hx hx2 => ?_, fun k hk hti => ?_, fun k m hk hm ha a y b hs hy => ?_, fun t2 ht2 => ?_⟩
    · rw [hat x hx] at hx2 ⊢
      exact h.res _ (List.mem_map.2 ⟨x, hx, rfl⟩) (fun h5 => hx2 ((retC_til hr _).2 h5))
    · obtain ⟨h1, h2⟩ := idxQ_mem.1 (upI_mem hk)
      refine (hin k hk).2 (h.all _ h1 (by rw [h2, hq, Int.toNat_natCast]) ?_)
      rw [upI_at hk] at hti
      exact fun h5 => hti ((retC_til hr _).2 h5)
    · subst hs
      obtain ⟨h1, h2⟩ := idxQ_mem.1 (upI_mem hk)
      obtain ⟨h3, _⟩ := idxQ_mem.1 (upI_mem hm)
      rw [part_ahead hup hr ht hk hm] at ha
      have h5 := h.ord _ _ h1 h3 (by rw [h2, hq, Int.toNat_natCast]) ha (a.map (upS cs q)) (upS cs q y) (b.map (upS cs q)) (by rw [List.map_append, List.map_cons]) (by unfold upS; rw [hy, Int.toNat_natCast])
      obtain ⟨z, hz, ez⟩ := List.mem_map.1 h5
      obtain ⟨x, hx, rfl⟩ := List.mem_map.1 hz
      have hxr := hrng x (List.mem_append.2 (.inl hx))
      have e : upI cs q x.1.toNat = upI cs q k := by unfold upS at ez; simp only at ez; omega
      have := upI_inj (cs := cs) (r := r) (by omega) hk e
      exact List.mem_map.2 ⟨x, hx, by omega⟩
    · by_cases e : t2 = t
      · subst e
        rw [hown]
        exact h.goes
      · have : ownD (prt r q cs) t2 ws = [] := by
          unfold ownD
          rw [List.filter_eq_nil_iff.2 (fun x hx => by
            have h1 := hrng x hx
            obtain ⟨_, h2⟩ := idxQ_mem.1 (upI_mem (cs := cs) (q := q) (r := r) (k := x.1.toNat) (by omega))
            rw [beq_iff_eq, hat x hx, upS_atC]
            show ¬ (cs.getD (upI cs q x.1.toNat) default).thing.toNat = t2
            rw [h2, hq, Int.toNat_natCast]
            exact fun h => e h.symm)]
          rfl
        rw [this]
        rfl
/-- Each order of the thing's calls is one of the part, with other numbers. -/
theorem upS_onto (r : Int → Int) (hth : ∀ c ∈ cs, 0 ≤ c.thing) {t : Nat} (hq : q = (t : Int)) : ∀ {w : List (Int × Int)}, (∀ x ∈ w, 0 ≤ x.1 ∧ x.1 < cs.length) → (∀ x ∈ w, (atC cs x).thing.toNat = t) → ∃ ws : List (Int × Int), (∀ x ∈ ws, 0 ≤ x.1 ∧ x.1 < (prt r q cs).length) ∧ ws.map (upS cs q) = w
  | [], _, _ => ⟨[], (fun x h => by cases h), rfl⟩
  | x :: w, h1, h2 => by
    obtain ⟨ws, e1, e2⟩ := upS_onto r hth hq (w := w) (fun y hy => h1 y (List.mem_cons_of_mem _ hy)) (fun y hy => h2 y (List.mem_cons_of_mem _ hy))
    have hx := h1 x (List.mem_cons_self ..)
    have ho := h2 x (List.mem_cons_self ..)
    have hm : atC cs x ∈ cs := by unfold atC; rw [List.getD_eq_getElem?_getD, List.getElem?_eq_getElem (by omega : x.1.toNat < cs.length)]; exact List.getElem_mem _
    have := hth _ hm
    obtain ⟨k, hk, ek⟩ := upI_onto (cs := cs) (q := q) r (i := x.1.toNat) (by omega) (by unfold atC at ho this; omega)
    refine ⟨((k : Int), x.2) :: ws, fun y hy => ?_, ?_⟩
    · rcases List.mem_cons.1 hy with rfl | hy
      · exact ⟨by simp only; omega, by simp only; omega⟩
      · exact e1 y hy
    · rw [List.map_cons, e2]
      congr 1
      unfold upS
      simp only [Int.toNat_natCast]
      rw [ek]
      exact Prod.ext (by simp only; omega) rfl
end
/-- HERLIHY, WING: a history has a right order just if the part of each thing has one. -/
theorem local_parts {ts : List Int} {l : List Ev} (h : (callsOf ts l).2.2 = 0) :
    (∃ ws, Rite ts (callsOf ts l).1 ws) ↔ ∀ t : Nat, t < ts.length → ∃ ws, Rite ts (callsOf ts (partL l t)).1 ws := by
  have hth : ∀ c ∈ (callsOf ts l).1, 0 ≤ c.thing ∧ c.thing < ts.length := fun c hc => (calls_callOk h c hc).thing
  have hor := (calls_orderly h).1
  rw [local_iff hth hor.ends (fun c hc => (hor.tidy c hc).2.2.1)]
  have key : ∀ t : Nat, t < ts.length → ((∃ w, RiteT ts (callsOf ts l).1 t w) ↔ ∃ ws, Rite ts (callsOf ts (partL l t)).1 ws) := fun t ht => by
    obtain ⟨e1, e2⟩ := calls_part h (t : Int)
    rw [e1]
    constructor
    · rintro ⟨w, hw⟩
      obtain ⟨ws, h1, rfl⟩ := upS_onto (rankE l t) (fun c hc => (hth c hc).1) rfl hw.rng hw.own
      exact ⟨ws, (rite_part_iff (fun y z => rankE_up l t) (rankE_ge l t) e2 hth rfl ht h1).2 hw⟩
    · rintro ⟨ws, hw⟩
      exact ⟨_, (rite_part_iff (fun y z => rankE_up l t) (rankE_ge l t) e2 hth rfl ht hw.rng).1 hw⟩
  exact ⟨fun k t ht => (key t ht).1 (k t ht), fun k t ht => (key t ht).2 (k t ht)⟩
end Go.Proofs.YtfgangkpebkicaaDoor

/-
  Plain: with times counted anew the least order is the same; what package local tells of a thing, by the thing's calls as they are.
-/
namespace Go.Proofs.YtfgangkpebkicaaDoor
open Go.RowKit
set_option maxRecDepth 20000

section
variable {ts : List Int} {cs : List Cl} {r : Int → Int}
theorem ret_at (r : Int → Int) (cs : List Cl) (k : Nat) : ((cs.map (retC r)).getD k default).kind = (cs.getD k default).kind ∧ ((cs.map (retC r)).getD k default).arg = (cs.getD k default).arg ∧ ((cs.map (retC r)).getD k default).res = (cs.getD k default).res ∧ ((cs.map (retC r)).getD k default).thing = (cs.getD k default).thing := by
  rw [List.getD_eq_getElem?_getD, List.getElem?_map, List.getD_eq_getElem?_getD]
  cases cs[k]? with
  | none => exact ⟨rfl, rfl, rfl, rfl⟩
  | some c => exact ⟨rfl, rfl, rfl, rfl⟩
theorem ret_til (hr : ∀ z, 0 ≤ r z) (cs : List Cl) (k : Nat) : ((cs.map (retC r)).getD k default).til = -1 ↔ (cs.getD k default).til = -1 := by
  rw [List.getD_eq_getElem?_getD, List.getElem?_map, List.getD_eq_getElem?_getD]
  cases cs[k]? with
  | none => exact Iff.rfl
  | some c => exact retC_til hr c
theorem ret_ahead (hr : ∀ z, 0 ≤ r z) (ha : ∀ c ∈ cs, ∀ d ∈ cs, c.til ≠ -1 → (r c.til < r d.frm ↔ c.til < d.frm)) {i j : Nat} (hi : i < cs.length) (hj : j < cs.length) : aheadB (cs.map (retC r)) i j = aheadB cs i j := by
  unfold aheadB
  have hm : ∀ k, k < cs.length → (cs.map (retC r)).getD k default = retC r (cs.getD k default) ∧ cs.getD k default ∈ cs := fun k hk => by
    rw [List.getD_eq_getElem?_getD, List.getElem?_map, List.getD_eq_getElem?_getD, List.getElem?_eq_getElem hk]
    exact ⟨rfl, List.getElem_mem _⟩
  obtain ⟨e1, m1⟩ := hm i hi
  obtain ⟨e2, m2⟩ := hm j hj
  rw [e1, e2]
  refine decide_eq_decide.2 ?_
  have h1 := retC_til hr (cs.getD i default)
  constructor
  · rintro ⟨h2, h3⟩
    have h4 : (cs.getD i default).til ≠ -1 := fun e => h2 (h1.2 e)
    have h5 := ha _ m1 _ m2 h4
    unfold retC at h3
    simp only at h3
    rw [if_neg h4] at h3
    exact ⟨h4, h5.1 h3⟩
  · rintro ⟨h4, h3⟩
    refine ⟨fun e => h4 (h1.1 e), ?_⟩
    have h5 := ha _ m1 _ m2 h4
    unfold retC
    simp only
    rw [if_neg h4]
    exact h5.2 h3
theorem relP_same {p q : Nat → Nat → Bool} {m : Nat} (h : ∀ i j, i < m → j < m → p i j = q i j) : relP p m = relP q m := by
  funext i
  apply Nat.eq_of_testBit_eq
  intro j
  rw [relP_bit, relP_bit]
  by_cases hi : i < m
  · by_cases hj : j < m
    · rw [h i j hi hj]
    · rw [decide_eq_false hj, Bool.and_false, Bool.false_and, Bool.false_and]
  · rw [decide_eq_false hi, Bool.false_and, Bool.false_and, Bool.false_and]
theorem thing_ret (p : Pt) (k : Nat) : thingO ts (cs.map (retC r)) p k = thingO ts cs p k := by
  obtain ⟨e1, e2, _, e4⟩ := ret_at r cs k
  unfold thingO
  rw [e1, e2, e4]
theorem next_ret (p : Pt) (k : Nat) : nextP ts (cs.map (retC r)) p k = nextP ts cs p k := by
  obtain ⟨_, _, _, e4⟩ := ret_at r cs k
  unfold nextP
  rw [e4, thing_ret]
theorem bef_ret (hr : ∀ z, 0 ≤ r z) (ha : ∀ c ∈ cs, ∀ d ∈ cs, c.til ≠ -1 → (r c.til < r d.frm ↔ c.til < d.frm)) : befP (aheadB (cs.map (retC r))) (cs.map (retC r)) = befP (aheadB cs) cs := by
  unfold befP
  rw [List.length_map]
  exact relP_same fun i j hi hj => ret_ahead hr ha hj hi
theorem may_ret (hr : ∀ z, 0 ≤ r z) (ha : ∀ c ∈ cs, ∀ d ∈ cs, c.til ≠ -1 → (r c.til < r d.frm ↔ c.til < d.frm)) (p : Pt) (k : Nat) : mayB (aheadB (cs.map (retC r))) ts (cs.map (retC r)) p k = mayB (aheadB cs) ts cs p k := by
  obtain ⟨_, _, e3, _⟩ := ret_at r cs k
  have e5 : (((cs.map (retC r)).getD k default).til == -1) = ((cs.getD k default).til == -1) := by
    rw [Bool.eq_iff_iff, beq_iff_eq, beq_iff_eq]
    exact ret_til hr cs k
  unfold mayB
  rw [bef_ret hr ha, thing_ret, e3, e5]
theorem full_ret (hr : ∀ z, 0 ≤ r z) (p : Pt) : fullB (cs.map (retC r)) p = fullB cs p := by
  have e : ansP (cs.map (retC r)) = ansP cs := by
    unfold ansP
    rw [List.length_map]
    congr 1
    funext i
    exact decide_eq_decide.2 (not_congr (ret_til hr cs i))
  unfold fullB
  rw [e]
theorem try_ret (hr : ∀ z, 0 ≤ r z) (ha : ∀ c ∈ cs, ∀ d ∈ cs, c.til ≠ -1 → (r c.til < r d.frm ↔ c.til < d.frm)) {go go' : Pt → Option (List (Nat × Int))} (hg : ∀ q, go q = go' q) (p : Pt) : ∀ m k, tryO (aheadB (cs.map (retC r))) go ts (cs.map (retC r)) p m k = tryO (aheadB cs) go' ts cs p m k
  | 0, _ => rfl
  | m + 1, k => by
    rw [tryO, tryO, may_ret hr ha, next_ret, thing_ret, hg, try_ret hr ha hg p m (k + 1)]
theorem find_ret (hr : ∀ z, 0 ≤ r z) (ha : ∀ c ∈ cs, ∀ d ∈ cs, c.til ≠ -1 → (r c.til < r d.frm ↔ c.til < d.frm)) : ∀ (f : Nat) (p : Pt), findO (aheadB (cs.map (retC r))) ts (cs.map (retC r)) f p = findO (aheadB cs) ts cs f p
  | 0, p => by rw [findO, findO, full_ret hr]
  | f + 1, p => by rw [findO, findO, full_ret hr, List.length_map, try_ret hr ha (find_ret hr ha f)]
theorem found_ret (hr : ∀ z, 0 ≤ r z) (ha : ∀ c ∈ cs, ∀ d ∈ cs, c.til ≠ -1 → (r c.til < r d.frm ↔ c.til < d.frm)) : foundO (aheadB (cs.map (retC r))) ts (cs.map (retC r)) = foundO (aheadB cs) ts cs := by
  unfold foundO
  rw [List.length_map, find_ret hr ha]
end
/-- The calls of a thing, with times as they are. -/
def ownQ (cs : List Cl) (q : Int) : List Cl := cs.filter fun c => c.thing == q
theorem ownQ_mem {cs : List Cl} {q : Int} {c : Cl} : c ∈ ownQ cs q ↔ c ∈ cs ∧ c.thing = q := by
  unfold ownQ
  rw [List.mem_filter, beq_iff_eq]
/-- The least order of a thing's calls. -/
def ownO (ts : List Int) (cs : List Cl) (q : Int) : Option (List (Nat × Int)) := foundO (aheadB (ownQ cs q)) ts (ownQ cs q)
theorem part_own {ts : List Int} {l : List Ev} (h : (callsOf ts l).2.2 = 0) (q : Int) : foundO (aheadB (callsOf ts (partL l q)).1) ts (callsOf ts (partL l q)).1 = ownO ts (callsOf ts l).1 q := by
  obtain ⟨e1, e2⟩ := calls_part h q
  rw [e1]
  refine found_ret (rankE_ge l q) fun c hc d hd ht => ?_
  obtain ⟨hc1, hc2⟩ := ownQ_mem.1 hc
  have h1 := e2 c hc1 hc2 ht
  constructor
  · intro h3
    apply Classical.byContradiction
    intro h4
    have := rankE_up l q (y := d.frm) (z := c.til) (by omega)
    omega
  · intro h3
    have := rankE_up l q (y := c.til + 1) (z := d.frm) (by omega)
    omega
theorem pB_own {ts : List Int} {l : List Ev} (h : openE ts l = 0) (t : Nat) : pB ts l t = (ownO ts (callsOf ts l).1 (t : Int)).isSome := by
  have h1 := openE_part h (t : Int)
  unfold pB foundB
  rw [decide_eq_true h1, Bool.true_and, part_own (openE_zero h).1]
theorem ordL_own {ts : List Int} {l : List Ev} (h : openE ts l = 0) (t : Nat) : ordL ts l t = (asSteps ((ownO ts (callsOf ts l).1 (t : Int)).getD [])).map (renK ts l t) := by
  have h1 := openE_part h (t : Int)
  unfold ordL foundL
  rw [if_pos h1, part_own (openE_zero h).1]
end Go.Proofs.YtfgangkpebkicaaDoor
