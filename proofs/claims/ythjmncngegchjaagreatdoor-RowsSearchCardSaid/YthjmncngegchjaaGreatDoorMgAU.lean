/-
  Joined by a program out of: QueRite, LinPure, LinKey.
-/
import Derived.Test.YthjmncngegchjaaGreatDoorMgAT
import Derived.Test.YthjmncngegchjaaGreatDoorMgAR
import Derived.Lib.ItoaMem

/-
  Plain: HENZINGER, SEZGIN, VAFEIADIS: where nothing can't be the row of all, by their times, is a right order of a queue.
-/
namespace Go.Proofs.YthjmncngegchjaaGreatDoor
open Go.RowKit
set_option maxRecDepth 20000

/-- What is there behind some steps: of the values in their row those that were put and not taken. -/
def stQ (cs : List Cl) (W : List Int) (a : List Nat) : List Int := W.filter fun v => a.any (fun i => isE v (cs.getD i default)) && !a.any (fun i => isD v (cs.getD i default))
section
variable {n : Nat} {cs : List Cl}
theorem anyE_snoc (f : Nat → Bool) (a : List Nat) (i : Nat) : (a ++ [i]).any f = (a.any f || f i) := by
  rw [List.any_append]; simp
set_option maxHeartbeats 2000000 in
theorem QueH.rite (h : QueH n cs) (hl : cs.length ≤ 50) (hs : ¬ StrayQ cs) (ht : ¬ TwiceQ cs) (he : ¬ EarlyQ cs) (ho : ¬ OrdQ cs) (hm : ¬ EmptyQ cs) : ∃ ws, RiteP [2] cs (aheadB cs) ws := by
  obtain ⟨W, p, q, K, hW, hnd, hw, hE, hD, hN, hX⟩ := h.times ht he ho hm
  obtain ⟨r, hr1, hr2⟩ := rank_of W hnd
  have hWv : ∀ v ∈ W, 1 ≤ v ∧ v ≤ 1000 := by
    intro v hv
    obtain ⟨c, h1, h2, _⟩ := h.mem_valsC.1 ((hW v).1 hv)
    exact h.val h1 h2
  have hWl : W.length ≤ 1001 := nodup_lt 1001 hnd fun k hk => by have := hWv k hk; omega
  obtain ⟨key, hkey⟩ : ∃ f : Cl → Int, ∀ c, f c = if c.kind = 3 then (p c.arg * 2) * 2000 + r c.arg else if c.res = -1 then ((2 * K c + 1) * 2 + 1) * 2000 else (q c.res * 2 + 1) * 2000 + r c.res := ⟨_, fun _ => rfl⟩
  have kE : ∀ c v, isE v c = true → key c = (p v * 2) * 2000 + r v := by
    intro c v hv
    obtain ⟨h1, h2⟩ := isE_iff.1 hv
    rw [hkey, if_pos h1, h2]
  have kD : ∀ c v, v ≠ -1 → isD v c = true → key c = (q v * 2 + 1) * 2000 + r v := by
    intro c v hne hv
    obtain ⟨h1, h2⟩ := isD_iff.1 hv
    rw [hkey, if_neg (by omega), if_neg (by rw [h2]; exact hne), h2]
  have kX : ∀ c, c.kind = 4 → c.res = -1 → key c = ((2 * K c + 1) * 2 + 1) * 2000 := by
    intro c h1 h2
    rw [hkey, if_neg (by omega), if_pos h2]
  have hat : ∀ i, i < cs.length → cs.getD i default ∈ cs := fun i hi => List.mem_of_getElem? (getD_some hi)
  -- the row
  obtain ⟨cnt, hcnt⟩ : ∃ f : Nat → Bool, ∀ i, f i = ((cs.getD i default).til != -1 || cntE cs (cs.getD i default)) := ⟨_, fun _ => rfl⟩
  obtain ⟨O, hO⟩ : ∃ O, O = (List.range cs.length).filter cnt := ⟨_, rfl⟩
  obtain ⟨S, hS⟩ : ∃ S, S = O.mergeSort (fun i j => decide (key (cs.getD i default) ≤ key (cs.getD j default))) := ⟨_, rfl⟩
  have hperm : S.Perm O := by rw [hS]; exact List.mergeSort_perm _ _
  have hpair : S.Pairwise (fun i j => key (cs.getD i default) ≤ key (cs.getD j default)) := by
    have := List.pairwise_mergeSort (le := fun i j => decide (key (cs.getD i default) ≤ key (cs.getD j default))) (fun a b c h1 h2 => by rw [decide_eq_true_iff] at *; omega) (fun a b => by rw [Bool.or_eq_true, decide_eq_true_iff, decide_eq_true_iff]; omega) O
    rw [← hS] at this
    exact this.imp fun h => by rwa [decide_eq_true_iff] at h
  have hmem : ∀ i, i ∈ S ↔ i < cs.length ∧ cnt i = true := by
    intro i
    rw [hperm.mem_iff, hO, List.mem_filter, List.mem_range]
  have hnS : S.Nodup := by
    rw [hperm.nodup_iff, hO]
    exact List.nodup_range.filter _
  have hSl : S.length ≤ 50 := by
    rw [hperm.length_eq, hO]
    have := List.length_filter_le cnt (List.range cs.length)
    rw [List.length_range] at this
    omega
  -- strictly less stands ahead
  have hless : ∀ i j a b, S = a ++ j :: b → i ∈ S → key (cs.getD i default) < key (cs.getD j default) → i ∈ a := by
    intro i j a b e hi hlt
    rw [e] at hi hpair
    rcases List.mem_append.1 hi with h1 | h1
    · exact h1
    · rcases List.mem_cons.1 h1 with rfl | h1
      · omega
      · have := (List.pairwise_cons.1 (List.pairwise_append.1 hpair).2.1).1 i h1
        omega
  have hle : ∀ i j a b, S = a ++ j :: b → i ∈ a → key (cs.getD i default) ≤ key (cs.getD j default) := by
    intro i j a b e hi
    rw [e] at hpair
    exact (List.pairwise_append.1 hpair).2.2 i hi j List.mem_cons_self
  -- what a value's calls are
  have hEW : ∀ i ∈ S, ∀ v, isE v (cs.getD i default) = true → v ∈ W := by
    intro i hi v hv
    obtain ⟨h1, h2⟩ := (hmem i).1 hi
    rw [hcnt, Bool.or_eq_true, bne_iff_ne, cntE_iff] at h2
    rw [hW, h.mem_valsC]
    refine ⟨_, hat i h1, hv, ?_⟩
    rcases h2 with h2 | h2
    · exact .inl h2
    · rw [(isE_iff.1 hv).2] at h2
      exact h2.2
  have hDW : ∀ i, i < cs.length → ∀ v, v ≠ -1 → isD v (cs.getD i default) = true → v ∈ W := by
    intro i hi v hne hv
    obtain ⟨h1, h2⟩ := isD_iff.1 hv
    apply Classical.byContradiction
    intro hn
    refine hs ⟨_, hat i hi, h1, by rw [h2]; exact hne, fun d hd => Bool.eq_false_iff.2 fun hd2 => hn ?_⟩
    rw [hW, h.mem_valsC]
    exact ⟨d, hd, by rw [← h2]; exact hd2, .inr ⟨_, hat i hi, hv⟩⟩
  have hDS : ∀ i, i < cs.length → (cs.getD i default).kind = 4 → i ∈ S := by
    intro i hi h4
    rw [hmem, hcnt, Bool.or_eq_true, bne_iff_ne]
    exact ⟨hi, .inl (h.ans _ (hat i hi) h4)⟩
  have hge : ∀ c ∈ cs, ∃ i, i < cs.length ∧ cs.getD i default = c := fun c hc => by
    obtain ⟨i, hi, rfl⟩ := List.getElem_of_mem hc
    exact ⟨i, hi, by rw [List.getD_eq_getElem?_getD, List.getElem?_eq_getElem hi]; rfl⟩
  have hEi : ∀ v ∈ W, ∃ i ∈ S, isE v (cs.getD i default) = true := by
    intro v hv
    obtain ⟨c, h1, h2, h3⟩ := h.mem_valsC.1 ((hW v).1 hv)
    obtain ⟨i, hi, rfl⟩ := hge c h1
    refine ⟨i, (hmem i).2 ⟨hi, ?_⟩, h2⟩
    rw [hcnt, Bool.or_eq_true, bne_iff_ne, cntE_iff]
    rcases h3 with h3 | h3
    · exact .inl h3
    · refine .inr ⟨(isE_iff.1 h2).1, .inr ?_⟩
      rw [(isE_iff.1 h2).2]
      exact h3
  have hDi : ∀ v ∈ W, q v < 4000 → ∃ j ∈ S, isD v (cs.getD j default) = true := by
    intro v hv hq
    apply Classical.byContradiction
    intro hn
    have := hN v hv fun t ht' => Bool.eq_false_iff.2 fun hd => hn (by
      obtain ⟨j, hj, rfl⟩ := hge t ht'
      exact ⟨j, hDS j hj (isD_iff.1 hd).1, hd⟩)
    omega
  have uE : ∀ i j v, i < cs.length → j < cs.length → isE v (cs.getD i default) = true → isE v (cs.getD j default) = true → i = j := fun i j v hi hj h1 h2 =>
    h.once i j _ _ (getD_some hi) (getD_some hj) (isE_iff.1 h1).1 (isE_iff.1 h2).1 ((isE_iff.1 h1).2.trans (isE_iff.1 h2).2.symm)
  have uD : ∀ i j v, v ≠ -1 → i < cs.length → j < cs.length → isD v (cs.getD i default) = true → isD v (cs.getD j default) = true → i = j := by
    intro i j v hv hi hj h1 h2
    obtain ⟨a1, a2⟩ := isD_iff.1 h1
    obtain ⟨b1, b2⟩ := isD_iff.1 h2
    rcases Nat.lt_trichotomy i j with hlt | heq | hgt
    · exact absurd ⟨i, j, _, _, hlt, getD_some hi, getD_some hj, a1, b1, a2.trans b2.symm, by rw [b2]; exact hv⟩ ht
    · exact heq
    · exact absurd ⟨j, i, _, _, hgt, getD_some hj, getD_some hi, b1, a1, b2.trans a2.symm, by rw [a2]; exact hv⟩ ht
  have hlt : ∀ i ∈ S, i < cs.length := fun i hi => ((hmem i).1 hi).1
  -- the times of a call
  have hpt : ∀ i ∈ S, ∃ t : Int, 2 * (cs.getD i default).frm ≤ t ∧ ((cs.getD i default).til ≠ -1 → t ≤ 2 * (cs.getD i default).til) ∧ t * 4000 ≤ key (cs.getD i default) ∧ key (cs.getD i default) < (t + 1) * 4000 := by
    intro i hi
    have hc := hat i (hlt i hi)
    rcases h.kind hc with k | k
    · have hv : isE (cs.getD i default).arg (cs.getD i default) = true := isE_iff.2 ⟨k.1, rfl⟩
      have hvW := hEW i hi _ hv
      obtain ⟨b1, b2, b3⟩ := hE _ hc _ hvW hv
      have := hr2 _ hvW
      exact ⟨p (cs.getD i default).arg, b1, b2, by rw [kE _ _ hv]; omega, by rw [kE _ _ hv]; omega⟩
    · rcases k.2.2.2 with k4 | k4
      · obtain ⟨b1, b2, b3⟩ := hX _ hc k.1 k4
        exact ⟨2 * K (cs.getD i default) + 1, by omega, fun _ => by omega, by rw [kX _ k.1 k4]; omega, by rw [kX _ k.1 k4]; omega⟩
      · have hne : (cs.getD i default).res ≠ -1 := by omega
        have hv : isD (cs.getD i default).res (cs.getD i default) = true := isD_iff.2 ⟨k.1, rfl⟩
        have hvW := hDW i (hlt i hi) _ hne hv
        obtain ⟨b1, b2⟩ := hD _ hc _ hvW hv
        have := hr2 _ hvW
        exact ⟨q (cs.getD i default).res, b1, fun _ => b2, by rw [kD _ _ hne hv]; omega, by rw [kD _ _ hne hv]; omega⟩
  have hdd : ∀ (l : List Nat), (∀ i ∈ l, i < cs.length) → ownD cs 0 (l.map fun (i : Nat) => ((i : Int), (cs.getD i default).res)) = l.map fun i => ⟨(cs.getD i default).kind, (cs.getD i default).arg, (cs.getD i default).res⟩ := by
    intro l
    induction l with
    | nil => intro _; rfl
    | cons i l ih =>
      intro hl
      rw [List.map_cons, ownD_cons, List.map_cons, ih fun j hj => hl j (List.mem_cons_of_mem _ hj)]
      have e : atC cs ((i : Int), (cs.getD i default).res) = cs.getD i default := by unfold atC; simp
      rw [e, if_pos (by rw [h.thing (hat i (hl i List.mem_cons_self))]; rfl)]
      unfold ddC
      rw [e]
  -- it goes
  have hgo : ∀ (b a : List Nat), S = a ++ b → queB (stQ cs W a) (b.map fun i => (⟨(cs.getD i default).kind, (cs.getD i default).arg, (cs.getD i default).res⟩ : Dd)) = true := by
    intro b
    induction b with
    | nil => intro a _; rfl
    | cons i b ih =>
      intro a e
      have hiS : i ∈ S := by rw [e]; simp
      have hil := hlt i hiS
      have hci := hat i hil
      have ih' := ih (a ++ [i]) (by rw [e]; simp)
      have haS : ∀ k ∈ a, k ∈ S := fun k hk => by rw [e]; exact List.mem_append_left _ hk
      have hia : i ∉ a := by
        rw [e] at hnS
        exact fun hi2 => (List.nodup_append.1 hnS).2.2 i hi2 i List.mem_cons_self rfl
      have anyEq : ∀ (f : Nat → Bool), a.any f = true ↔ ∃ k ∈ a, f k = true := fun f => List.any_eq_true
      rw [List.map_cons, queB]
      rcases h.kind hci with k | k
      · -- one that puts
        rw [if_pos k.1, Bool.and_eq_true, beq_iff_eq]
        refine ⟨k.2.2.2, ?_⟩
        obtain ⟨v, hvv⟩ : ∃ v, v = (cs.getD i default).arg := ⟨_, rfl⟩
        simp only [← hvv]
        have hv : isE v (cs.getD i default) = true := isE_iff.2 ⟨k.1, hvv.symm⟩
        have hvW := hEW i hiS v hv
        have hvr := hWv v hvW
        have hki := kE _ v hv
        obtain ⟨_, _, hpq⟩ := hE _ hci v hvW hv
        obtain ⟨W1, W2, eW⟩ := List.append_of_mem hvW
        have hw' := hw
        have hr1' := hr1
        rw [eW] at hw' hr1'
        have hP1 : ∀ u ∈ W1, u ≠ v := fun u hu e2 => by
          have := (List.pairwise_append.1 hr1').2.2 u hu v List.mem_cons_self
          rw [e2] at this
          omega
        have hP2 : ∀ u ∈ W2, p v ≤ p u ∧ r v < r u := fun u hu => ⟨((List.pairwise_cons.1 (List.pairwise_append.1 hw').2.1).1 u hu).1, (List.pairwise_cons.1 (List.pairwise_append.1 hr1').2.1).1 u hu⟩
        have e2 : stQ cs W (a ++ [i]) = stQ cs W a ++ [v] := by
          unfold stQ
          have f1 : ∀ u ∈ W1, ((a ++ [i]).any (fun i => isE u (cs.getD i default)) && !(a ++ [i]).any (fun i => isD u (cs.getD i default))) = (a.any (fun i => isE u (cs.getD i default)) && !a.any (fun i => isD u (cs.getD i default))) := by
            intro u hu
            rw [anyE_snoc, anyE_snoc]
            have g1 : isE u (cs.getD i default) = false := Bool.eq_false_iff.2 fun h1 => hP1 u hu ((isE_iff.1 h1).2.symm.trans hvv.symm)
            have g2 : isD u (cs.getD i default) = false := Bool.eq_false_iff.2 fun h1 => by have := (isD_iff.1 h1).1; omega
            rw [g1, g2, Bool.or_false, Bool.or_false]
          have f2 : ∀ u ∈ W2, a.any (fun i => isE u (cs.getD i default)) = false := by
            intro u hu
            rw [Bool.eq_false_iff]
            intro h1
            obtain ⟨j, hj, hju⟩ := (anyEq _).1 h1
            have h2 := hle j i a b e hj
            rw [kE _ u hju, hki] at h2
            have := hP2 u hu
            omega
          have g3 : isD v (cs.getD i default) = false := Bool.eq_false_iff.2 fun h1 => by have := (isD_iff.1 h1).1; omega
          have f3 : a.any (fun i => isE v (cs.getD i default)) = false := by
            rw [Bool.eq_false_iff]
            intro h1
            obtain ⟨j, hj, hju⟩ := (anyEq _).1 h1
            have := uE j i v (hlt j (haS j hj)) hil hju hv
            subst this
            exact hia hj
          have f4 : a.any (fun i => isD v (cs.getD i default)) = false := by
            rw [Bool.eq_false_iff]
            intro h1
            obtain ⟨j, hj, hju⟩ := (anyEq _).1 h1
            have h2 := hle j i a b e hj
            rw [kD _ v (by omega) hju, hki] at h2
            omega
          rw [eW, List.filter_append, List.filter_append, List.filter_cons, List.filter_cons, List.filter_congr f1]
          rw [anyE_snoc, anyE_snoc, f3, f4, hv, g3]
          have z1 : W2.filter (fun u => a.any (fun i => isE u (cs.getD i default)) && !a.any (fun i => isD u (cs.getD i default))) = [] := by
            rw [List.filter_eq_nil_iff]
            intro u hu
            rw [f2 u hu]
            simp
          have z2 : W2.filter (fun u => (a ++ [i]).any (fun i => isE u (cs.getD i default)) && !(a ++ [i]).any (fun i => isD u (cs.getD i default))) = [] := by
            rw [List.filter_eq_nil_iff]
            intro u hu
            rw [anyE_snoc, f2 u hu]
            have g1 : isE u (cs.getD i default) = false := Bool.eq_false_iff.2 fun h1 => by
              have := (isE_iff.1 h1).2.symm.trans hvv.symm
              have h3 := hP2 u hu
              subst this
              omega
            rw [g1]
            simp
          rw [z1, z2]
          simp
        rw [← e2]
        exact ih'
      · have hk3 : ¬ (cs.getD i default).kind = 3 := by omega
        rw [if_neg hk3]
        rcases k.2.2.2 with k4 | k4
        · -- one that finds nothing
          have hki := kX _ k.1 k4
          obtain ⟨_, _, hbt⟩ := hX _ hci k.1 k4
          have hnil : stQ cs W a = [] := by
            unfold stQ
            rw [List.filter_eq_nil_iff]
            intro u hu hf
            rw [Bool.and_eq_true, Bool.not_eq_true'] at hf
            obtain ⟨j, hj, hju⟩ := (anyEq _).1 hf.1
            have h2 := hle j i a b e hj
            rw [kE _ u hju, hki] at h2
            have hru := hr2 u hu
            rcases hbt u hu with h3 | h3
            · omega
            · have hfi := h.frm hci
              obtain ⟨_, b2, _⟩ := hX _ hci k.1 k4
              obtain ⟨m, hm, hmu⟩ := hDi u hu (by omega)
              have hma := hless m i a b e hm (by rw [kD _ u (by have := hWv u hu; omega) hmu, hki]; omega)
              have h5 : a.any (fun i => isD u (cs.getD i default)) = true := (anyEq _).2 ⟨m, hma, hmu⟩
              rw [h5] at hf
              cases hf.2
          have e2 : stQ cs W (a ++ [i]) = stQ cs W a := by
            unfold stQ
            refine List.filter_congr fun u hu => ?_
            rw [anyE_snoc, anyE_snoc]
            have g1 : isE u (cs.getD i default) = false := Bool.eq_false_iff.2 fun h1 => by have := (isE_iff.1 h1).1; omega
            have g2 : isD u (cs.getD i default) = false := Bool.eq_false_iff.2 fun h1 => by have := (isD_iff.1 h1).2; have := hWv u hu; omega
            rw [g1, g2, Bool.or_false, Bool.or_false]
          rw [e2, hnil] at ih'
          rw [hnil]
          simp only [outB, Bool.and_eq_true, beq_iff_eq]
          exact ⟨k4, ih'⟩
        · -- one that takes
          obtain ⟨v, hvv⟩ : ∃ v, v = (cs.getD i default).res := ⟨_, rfl⟩
          have hne : v ≠ -1 := by omega
          simp only [← hvv]
          have hv : isD v (cs.getD i default) = true := isD_iff.2 ⟨k.1, hvv.symm⟩
          have hvW := hDW i hil v hne hv
          have hki := kD _ v hne hv
          obtain ⟨b1, b2⟩ := hD _ hci v hvW hv
          have hfi := h.frm hci
          obtain ⟨W1, W2, eW⟩ := List.append_of_mem hvW
          have hw' := hw
          have hr1' := hr1
          rw [eW] at hw' hr1'
          have hP1 : ∀ u ∈ W1, q u ≤ q v ∧ r u < r v := fun u hu => ⟨((List.pairwise_append.1 hw').2.2 u hu v List.mem_cons_self).2, (List.pairwise_append.1 hr1').2.2 u hu v List.mem_cons_self⟩
          have hP2 : ∀ u ∈ W2, r v < r u := fun u hu => (List.pairwise_cons.1 (List.pairwise_append.1 hr1').2.1).1 u hu
          have e2 : stQ cs W a = v :: stQ cs W (a ++ [i]) := by
            unfold stQ
            have f1 : ∀ u ∈ W1, a.any (fun i => isD u (cs.getD i default)) = true := by
              intro u hu
              have huW : u ∈ W := by rw [eW]; exact List.mem_append_left _ hu
              have h3 := hP1 u hu
              obtain ⟨m, hm, hmu⟩ := hDi u huW (by omega)
              have hma := hless m i a b e hm (by rw [kD _ u (by have := hWv u huW; omega) hmu, hki]; omega)
              exact (anyEq _).2 ⟨m, hma, hmu⟩
            have f3 : a.any (fun i => isE v (cs.getD i default)) = true := by
              obtain ⟨m, hm, hmv⟩ := hEi v hvW
              obtain ⟨_, _, hpq⟩ := hE _ (hat m (hlt m hm)) v hvW hmv
              have hma := hless m i a b e hm (by rw [kE _ v hmv, hki]; omega)
              exact (anyEq _).2 ⟨m, hma, hmv⟩
            have f4 : a.any (fun i => isD v (cs.getD i default)) = false := by
              rw [Bool.eq_false_iff]
              intro h1
              obtain ⟨j, hj, hju⟩ := (anyEq _).1 h1
              have := uD j i v hne (hlt j (haS j hj)) hil hju hv
              subst this
              exact hia hj
            have f5 : ∀ u ∈ W2, ((a ++ [i]).any (fun i => isE u (cs.getD i default)) && !(a ++ [i]).any (fun i => isD u (cs.getD i default))) = (a.any (fun i => isE u (cs.getD i default)) && !a.any (fun i => isD u (cs.getD i default))) := by
              intro u hu
              rw [anyE_snoc, anyE_snoc]
              have g1 : isE u (cs.getD i default) = false := Bool.eq_false_iff.2 fun h1 => by have := (isE_iff.1 h1).1; omega
              have g2 : isD u (cs.getD i default) = false := Bool.eq_false_iff.2 fun h1 => by
                have h4 := (isD_iff.1 h1).2.symm.trans hvv.symm
                have h3 := hP2 u hu
                rw [h4] at h3
                omega
              rw [g1, g2, Bool.or_false, Bool.or_false]
            rw [eW, List.filter_append, List.filter_append, List.filter_cons, List.filter_cons, List.filter_congr f5]
            rw [anyE_snoc, anyE_snoc, f3, f4, hv]
            have z1 : W1.filter (fun u => a.any (fun i => isE u (cs.getD i default)) && !a.any (fun i => isD u (cs.getD i default))) = [] := by
              rw [List.filter_eq_nil_iff]
              intro u hu
              rw [f1 u hu]
              simp
            have z2 : W1.filter (fun u => (a ++ [i]).any (fun i => isE u (cs.getD i default)) && !(a ++ [i]).any (fun i => isD u (cs.getD i default))) = [] := by
              rw [List.filter_eq_nil_iff]
              intro u hu
              rw [anyE_snoc, anyE_snoc, f1 u hu]
              simp
            rw [z1, z2]
            simp
          rw [e2]
          simp only [outB, Bool.and_eq_true, beq_iff_eq]
          exact ⟨trivial, ih'⟩
  refine ⟨S.map fun (i : Nat) => ((i : Int), (cs.getD i default).res), ?_, ?_, ?_, ?_, ?_, ?_⟩
  · intro x hx
    obtain ⟨i, hi, rfl⟩ := List.mem_map.1 hx
    have := hlt i hi
    exact ⟨by simp only; omega, by simp only; omega⟩
  · rw [List.map_map]
    unfold List.Nodup
    rw [List.pairwise_map]
    refine hnS.imp fun hne e => hne ?_
    simp only [Function.comp_apply] at e
    omega
  · intro x hx _
    obtain ⟨i, hi, rfl⟩ := List.mem_map.1 hx
    unfold atC
    simp
  · intro i hi hti
    rw [List.map_map, List.mem_map]
    exact ⟨i, (hmem i).2 ⟨hi, by rw [hcnt, Bool.or_eq_true, bne_iff_ne]; exact .inl hti⟩, rfl⟩
  · intro i j hi hj hah a y b e ey
    obtain ⟨a', r', e1, rfl, e2⟩ := List.map_eq_append_iff.1 e
    obtain ⟨j', b', rfl, rfl, rfl⟩ := List.map_eq_cons_iff.1 e2
    have hj' : j' = j := by simp only at ey; omega
    subst hj'
    obtain ⟨h1, h2⟩ := aheadQ_iff.1 hah
    have hjS : j' ∈ S := by rw [e1]; simp
    have hiS : i ∈ S := (hmem i).2 ⟨hi, by rw [hcnt, Bool.or_eq_true, bne_iff_ne]; exact .inl h1⟩
    obtain ⟨ti, a1, a2, a3, a4⟩ := hpt i hiS
    obtain ⟨tj, b1, b2, b3, b4⟩ := hpt j' hjS
    have := a2 h1
    have := hless i j' a' b' e1 hiS (by omega)
    rw [List.map_map, List.mem_map]
    exact ⟨i, this, rfl⟩
  · intro t ht0
    have ht0 : t = 0 := by simp at ht0; omega
    subst ht0
    rw [hdd S hlt]
    show goesB 2 [] _ = true
    rw [que_goes _ _ (by simp) (by simp; omega) ?_]
    · have h9 := hgo S [] rfl
      have e9 : stQ cs W [] = [] := by
        unfold stQ
        rw [List.filter_eq_nil_iff]
        intro u _
        simp
      rw [e9] at h9
      exact h9
    · intro d hd
      obtain ⟨i, hi, rfl⟩ := List.mem_map.1 hd
      rcases h.kind (hat i (hlt i hi)) with k | k
      · exact .inl ⟨k.1, k.2.1, k.2.2.1⟩
      · exact .inr ⟨k.1, k.2.1⟩
/-- Nothing can't be just if there is none of the five. -/
theorem QueH.bad_iffQ (h : QueH n cs) : (badQ cs).kind = 0 ↔ ¬ StrayQ cs ∧ ¬ TwiceQ cs ∧ ¬ EarlyQ cs ∧ ¬ OrdQ cs ∧ ¬ EmptyQ cs := by
  rcases h.bad with ⟨e, h1⟩ | ⟨i, c, h1, h2, h3, h4, e⟩ | ⟨_, i, j, c, d, h1, h2, h3, h4, h5, h6, h7, e⟩ | ⟨_, _, i, j, c, d, h1, h2, h3, h4, h5, e⟩ | ⟨_, _, _, a, b, h1, e⟩ | ⟨_, _, _, _, i, c, h1, h2, h3, h4, e⟩
  · rw [e]; exact ⟨fun _ => h1, fun _ => rfl⟩
  · rw [e]; exact ⟨fun h0 => (by cases h0), fun h0 => absurd ⟨c, List.mem_of_getElem? h1, h2, h3, h4⟩ h0.1⟩
  · rw [e]; exact ⟨fun h0 => (by cases h0), fun h0 => absurd ⟨j, i, d, c, h1, h3, h2, h5, h4, h6, h7⟩ h0.2.1⟩
  · rw [e]; exact ⟨fun h0 => (by cases h0), fun h0 => absurd ⟨c, List.mem_of_getElem? h1, h3, d, List.mem_of_getElem? h2, h4, h5⟩ h0.2.2.1⟩
  · rw [e]; exact ⟨fun h0 => (by cases h0), fun h0 => absurd ⟨a, b, h1⟩ h0.2.2.2.1⟩
  · rw [e]; exact ⟨fun h0 => (by cases h0), fun h0 => absurd ⟨c, List.mem_of_getElem? h1, h2, h3, h4⟩ h0.2.2.2.2⟩
/-- **HENZINGER, SEZGIN, VAFEIADIS.** -/
theorem QueH.hsv (h : QueH n cs) (hl : cs.length ≤ 50) : (badQ cs).kind = 0 ↔ ∃ ws, RiteP [2] cs (aheadB cs) ws := by
  rw [h.bad_iffQ]
  exact ⟨fun ⟨h1, h2, h3, h4, h5⟩ => h.rite hl h1 h2 h3 h4 h5, fun ⟨_, h1⟩ => h.fore hl h1⟩
end
end Go.Proofs.YthjmncngegchjaaGreatDoor

/-
  Plain mathematics for package search: points, what may come next, the least order from a point on.
-/
namespace Go.Proofs.YthjmncngegchjaaGreatDoor
open Go.RowKit
set_option maxRecDepth 20000
variable {Rl : Nat → Nat → Bool}
/-- Where some calls, one behind the other, have led to. -/
structure Pt where
  done : Nat
  st : Nat → List Int
/-- What must be done ahead of each call. -/
def befP (Rl : Nat → Nat → Bool) (cs : List Cl) : Nat → Nat := relP (fun j i => Rl i j) cs.length
/-- Who was answered. -/
def ansP (cs : List Cl) : Nat := pickS (fun i => decide ((cs.getD i default).til ≠ -1)) cs.length
/-- Does nothing have to follow? -/
def fullB (cs : List Cl) (p : Pt) : Bool := ansP cs &&& (65535 - p.done) == 0
/-- What the thing of a call makes of it. -/
def thingO (ts : List Int) (cs : List Cl) (p : Pt) (k : Nat) : List Int × Int × Int :=
  stepO (ts.getD (cs.getD k default).thing.toNat 0) (p.st (cs.getD k default).thing.toNat) (cs.getD k default).kind (cs.getD k default).arg
/-- The point behind call k. -/
def nextP (ts : List Int) (cs : List Cl) (p : Pt) (k : Nat) : Pt :=
  ⟨p.done ||| 2 ^ k, fun t => if t = (cs.getD k default).thing.toNat then (thingO ts cs p k).1 else p.st t⟩
/-- May call k come next? -/
def mayB (Rl : Nat → Nat → Bool) (ts : List Int) (cs : List Cl) (p : Pt) (k : Nat) : Bool :=
  !p.done.testBit k && (befP Rl cs k &&& (65535 - p.done) == 0) && ((thingO ts cs p k).2.2 == 0) && ((cs.getD k default).til == -1 || (thingO ts cs p k).2.1 == (cs.getD k default).res)
/-- Numbers from k on, m of them: the first that may come next, and from which the rest goes on. -/
def tryO (Rl : Nat → Nat → Bool) (go : Pt → Option (List (Nat × Int))) (ts : List Int) (cs : List Cl) (p : Pt) : Nat → Nat → Option (List (Nat × Int))
  | 0, _ => none
  | m + 1, k => if mayB Rl ts cs p k = true then (match go (nextP ts cs p k) with
    | some l => some ((k, (thingO ts cs p k).2.1) :: l)
    | none => tryO Rl go ts cs p m (k + 1)) else tryO Rl go ts cs p m (k + 1)
/-- The least order from a point on; at most f more calls. -/
def findO (Rl : Nat → Nat → Bool) (ts : List Int) (cs : List Cl) : Nat → Pt → Option (List (Nat × Int))
  | 0, p => if fullB cs p = true then some [] else none
  | f + 1, p => if fullB cs p = true then some [] else tryO Rl (findO Rl ts cs f) ts cs p cs.length 0
/-- How many calls are left. -/
def leftN (n : Nat) (p : Pt) : Nat := (List.range n).countP fun k => !p.done.testBit k
/-- The point ahead of all calls. -/
def startP (ts : List Int) : Pt := ⟨0, fun t => if t < ts.length then beginL (ts.getD t 0) else []⟩
theorem countP_less {n k : Nat} {p q : Nat → Bool} (hk : k < n) (hp : p k = true) (hq : q k = false) (h : ∀ j, j ≠ k → q j = p j) : (List.range n).countP p = (List.range n).countP q + 1 := by
  induction n with
  | zero => omega
  | succ n ih =>
    rw [List.range_succ, List.countP_append, List.countP_append]
    simp only [List.countP_cons, List.countP_nil]
    by_cases e : k = n
    · subst e
      rw [hp, hq]
      have : (List.range k).countP p = (List.range k).countP q := by
        apply List.countP_congr
        intro j hj
        rw [h j (by have := List.mem_range.1 hj; omega)]
      simp only [Bool.false_eq_true, if_false, if_true]
      omega
    · have := ih (by omega)
      rw [h n (by omega)]
      omega
theorem left_next {ts : List Int} {cs : List Cl} {p : Pt} {n k : Nat} (hk : k < n) (h : p.done.testBit k = false) : leftN n p = leftN n (nextP ts cs p k) + 1 := by
  unfold leftN nextP
  refine countP_less hk (by rw [h]; rfl) (by simp) (fun j hj => ?_)
  simp only [Nat.testBit_or, Nat.testBit_two_pow]
  rw [decide_eq_false (by omega), Bool.or_false]
theorem may_done {ts : List Int} {cs : List Cl} {p : Pt} {k : Nat} (h : mayB Rl ts cs p k = true) : p.done.testBit k = false := by
  unfold mayB at h
  simp only [Bool.and_eq_true, Bool.not_eq_true'] at h
  exact h.1.1.1
end Go.Proofs.YthjmncngegchjaaGreatDoor

/-
  Plain: a point's letters tell the point.
-/
namespace Go.Proofs.YthjmncngegchjaaGreatDoor
open Go.RowKit
set_option maxRecDepth 20000
/-- What a row of digits comes to. -/
def valL (l : List UInt8) : Nat := l.foldl (fun a d => a * 10 + (d.toNat - 48)) 0
theorem digit_nat {d : Nat} (h : d < 10) : (UInt8.ofNat (48 + d)).toNat = 48 + d := by
  rw [UInt8.toNat_ofNat']
  omega
theorem dec_val (u : Nat) : valL (Lib.decDigits u) = u := by
  induction u using Nat.strongRecOn with
  | ind u ih =>
    rw [Lib.decDigits]
    split
    · rename_i h
      unfold valL
      simp only [List.foldl_cons, List.foldl_nil]
      rw [digit_nat h]
      omega
    · rename_i h
      have := ih (u / 10) (by omega)
      unfold valL at this ⊢
      rw [List.foldl_append, this]
      simp only [List.foldl_cons, List.foldl_nil]
      rw [digit_nat (Nat.mod_lt _ (by omega))]
      omega
theorem dec_digit (u : Nat) : ∀ d, d ∈ Lib.decDigits u → 48 ≤ d.toNat ∧ d.toNat ≤ 57 := by
  induction u using Nat.strongRecOn with
  | ind u ih =>
    intro d hd
    rw [Lib.decDigits] at hd
    split at hd
    · rename_i h
      rw [List.mem_singleton] at hd
      subst hd
      rw [digit_nat h]
      omega
    · rename_i h
      rcases List.mem_append.1 hd with hd | hd
      · exact ih (u / 10) (by omega) d hd
      · rw [List.mem_singleton] at hd
        subst hd
        rw [digit_nat (Nat.mod_lt _ (by omega))]
        omega
theorem dec_ne (u : Nat) : Lib.decDigits u ≠ [] := by
  rw [Lib.decDigits]
  split
  · exact List.cons_ne_nil _ _
  · simp
theorem dec_inj {u v : Nat} (h : Lib.decDigits u = Lib.decDigits v) : u = v := by rw [← dec_val u, h, dec_val]
theorem itoa_inj {a b : Int} (h : Lib.itoa a = Lib.itoa b) : a = b := by
  unfold Lib.itoa at h
  have key : ∀ u v : Nat, (45 : UInt8) :: Lib.decDigits u ≠ Lib.decDigits v := fun u v e => by
    have := dec_digit v 45 (by rw [← e]; exact List.mem_cons_self ..)
    exact absurd this.1 (by decide)
  split at h
  · split at h
    · injection h with _ h
      have := dec_inj h
      omega
    · exact absurd h (key _ _)
  · split at h
    · exact absurd h.symm (key _ _)
    · have := dec_inj h
      omega
/-- Is it between two numbers? -/
def sepB (d : UInt8) : Bool := d == 32 || d == 59
theorem itoa_sep (a : Int) : ∀ d, d ∈ Lib.itoa a → sepB d = false := by
  intro d hd
  have key : ∀ u : Nat, d ∈ Lib.decDigits u → sepB d = false := fun u h => by
    have := dec_digit u d h
    unfold sepB
    rw [Bool.or_eq_false_iff]
    constructor
    · rw [beq_eq_false_iff_ne]; rintro rfl; exact absurd this.1 (by decide)
    · rw [beq_eq_false_iff_ne]; rintro rfl; exact absurd this.2 (by decide)
  unfold Lib.itoa at hd
  split at hd
  · rcases List.mem_cons.1 hd with rfl | hd
    · rfl
    · exact key _ hd
  · exact key _ hd
/-- Nothing, or what begins between two numbers. -/
def HeadS (l : List UInt8) : Prop := ∀ d r, l = d :: r → sepB d = true
theorem cut_same : ∀ {a b x y : List UInt8}, (∀ d, d ∈ a → sepB d = false) → (∀ d, d ∈ b → sepB d = false) → HeadS x → HeadS y → a ++ x = b ++ y → a = b ∧ x = y
  | [], [], x, y, _, _, _, _, h => ⟨rfl, h⟩
  | [], d :: b, x, y, _, hb, hx, _, h => by
    rw [List.nil_append, List.cons_append] at h
    have h1 := hx d _ h
    rw [hb d (List.mem_cons_self ..)] at h1
    cases h1
  | d :: a, [], x, y, ha, _, _, hy, h => by
    rw [List.nil_append, List.cons_append] at h
    have h1 := hy d _ h.symm
    rw [ha d (List.mem_cons_self ..)] at h1
    cases h1
  | d :: a, e :: b, x, y, ha, hb, hx, hy, h => by
    rw [List.cons_append, List.cons_append] at h
    injection h with h1 h2
    obtain ⟨h3, h4⟩ := cut_same (fun d hd => ha d (List.mem_cons_of_mem _ hd)) (fun d hd => hb d (List.mem_cons_of_mem _ hd)) hx hy h2
    exact ⟨by rw [h1, h3], h4⟩
/-- A state's letters. -/
def rowB8 : List Int → List UInt8
  | [] => []
  | x :: r => 32 :: (Lib.itoa x ++ rowB8 r)
theorem rowB8_snoc : ∀ (l : List Int) (x : Int), rowB8 (l ++ [x]) = rowB8 l ++ 32 :: Lib.itoa x
  | [], x => by simp [rowB8]
  | y :: r, x => by rw [List.cons_append, rowB8, rowB8, rowB8_snoc r x]; simp
/-- Nothing, or what begins behind a state. -/
def HeadE (l : List UInt8) : Prop := l = [] ∨ ∃ r, l = 59 :: r
theorem HeadE.sep {l : List UInt8} (h : HeadE l) : HeadS l := by
  intro d r e
  rcases h with rfl | ⟨r', rfl⟩
  · cases e
  · injection e with e _; subst e; rfl
theorem row_head {l : List Int} {x : List UInt8} (h : HeadE x) : HeadS (rowB8 l ++ x) := by
  cases l with
  | nil => exact h.sep
  | cons y r =>
    intro d r' e
    rw [rowB8, List.cons_append] at e
    injection e with e _
    subst e
    rfl
theorem row_same : ∀ {a b : List Int} {x y : List UInt8}, HeadE x → HeadE y → rowB8 a ++ x = rowB8 b ++ y → a = b ∧ x = y
  | [], [], x, y, _, _, h => ⟨rfl, h⟩
  | [], e :: b, x, y, hx, _, h => by
    rw [rowB8, rowB8, List.nil_append, List.cons_append] at h
    rcases hx with rfl | ⟨r, rfl⟩
    · cases h
    · injection h with h _; exact absurd h (by decide)
  | e :: a, [], x, y, _, hy, h => by
    rw [rowB8, rowB8, List.nil_append, List.cons_append] at h
    rcases hy with rfl | ⟨r, rfl⟩
    · cases h
    · injection h with h _; exact absurd h (by decide)
  | d :: a, e :: b, x, y, hx, hy, h => by
    rw [rowB8, rowB8, List.cons_append, List.cons_append, List.append_assoc, List.append_assoc] at h
    injection h with _ h
    obtain ⟨h1, h2⟩ := cut_same (itoa_sep d) (itoa_sep e) (row_head hx) (row_head hy) h
    obtain ⟨h3, h4⟩ := row_same hx hy h2
    exact ⟨by rw [itoa_inj h1, h3], h4⟩
/-- The letters of the first m states, each behind a 59. -/
def rowsB8 (st : Nat → List Int) : Nat → List UInt8
  | 0 => []
  | m + 1 => rowsB8 st m ++ 59 :: rowB8 (st m)
/-- A point's letters. -/
def keyB (p : Pt) : List UInt8 := Lib.decDigits p.done ++ rowsB8 p.st 4
theorem head_e (l : List UInt8) : HeadE (59 :: l) := .inr ⟨l, rfl⟩
theorem key_same {p q : Pt} (h : keyB p = keyB q) : p.done = q.done ∧ ∀ i, i < 4 → p.st i = q.st i := by
  unfold keyB at h
  simp only [rowsB8, List.nil_append, List.append_assoc, List.cons_append] at h
  have hd : ∀ u : Nat, ∀ d, d ∈ Lib.decDigits u → sepB d = false := fun u d hd => itoa_sep (u : Int) d (by rw [Lib.itoa_nonneg]; exact hd)
  obtain ⟨h0, h⟩ := cut_same (hd _) (hd _) (head_e _).sep (head_e _).sep h
  injection h with _ h
  obtain ⟨h1, h⟩ := row_same (head_e _) (head_e _) h
  injection h with _ h
  obtain ⟨h2, h⟩ := row_same (head_e _) (head_e _) h
  injection h with _ h
  obtain ⟨h3, h⟩ := row_same (head_e _) (head_e _) h
  injection h with _ h
  have h4 := row_same (x := []) (y := []) (.inl rfl) (.inl rfl) (by simpa using h)
  refine ⟨dec_inj h0, fun i hi => ?_⟩
  rcases i with _ | _ | _ | _ | i
  · exact h1
  · exact h2
  · exact h3
  · exact h4.1
  · omega
end Go.Proofs.YthjmncngegchjaaGreatDoor
