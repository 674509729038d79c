/-
  Joined by a program out of: QueBack.
-/
import Derived.Test.YthjmncngegchjaaGreatDoorMgAS

/-
  Plain: HENZINGER, SEZGIN, VAFEIADIS: of a queue whose values are unlike there is a right order just if nothing can't be.
-/
namespace Go.Proofs.YthjmncngegchjaaGreatDoor
open Go.RowKit
set_option maxRecDepth 20000

theorem rank_of : ∀ W : List Int, W.Nodup → ∃ r : Int → Nat, W.Pairwise (fun a b => r a < r b) ∧ ∀ v ∈ W, r v < W.length
  | [], _ => ⟨fun _ => 0, List.Pairwise.nil, fun v h => by cases h⟩
  | v :: W, hnd => by
    obtain ⟨hv, hnd⟩ := List.nodup_cons.1 hnd
    obtain ⟨r, h1, h2⟩ := rank_of W hnd
    have hne : ∀ u ∈ W, u ≠ v := fun u hu e => hv (e ▸ hu)
    obtain ⟨f, hf⟩ : ∃ f : Int → Nat, ∀ u, f u = if u = v then 0 else r u + 1 := ⟨_, fun _ => rfl⟩
    refine ⟨f, List.pairwise_cons.2 ⟨fun u hu => ?_, h1.imp_of_mem fun {a b} ha hb h => ?_⟩, fun u hu => ?_⟩
    · rw [hf, hf, if_pos rfl, if_neg (hne u hu)]; omega
    · rw [hf, hf, if_neg (hne _ ha), if_neg (hne _ hb)]; omega
    · rw [List.length_cons]
      rcases List.mem_cons.1 hu with rfl | hu
      · rw [hf, if_pos rfl]; omega
      · rw [hf, if_neg (hne u hu)]
        have := h2 u hu
        omega
section
variable {n : Nat} {cs : List Cl}
/-- Does a put stand in the order? -/
def cntE (cs : List Cl) (c : Cl) : Bool := c.kind == 3 && (c.til != -1 || cs.any (isD c.arg))
theorem cntE_iff {c : Cl} : cntE cs c = true ↔ c.kind = 3 ∧ (c.til ≠ -1 ∨ ∃ t ∈ cs, isD c.arg t = true) := by
  unfold cntE
  rw [Bool.and_eq_true, beq_iff_eq, Bool.or_eq_true, bne_iff_ne, List.any_eq_true]
def valsC (cs : List Cl) : List Int := (cs.filter (cntE cs)).map (·.arg)
theorem QueH.mem_valsC (_h : QueH n cs) {v : Int} : v ∈ valsC cs ↔ ∃ c ∈ cs, isE v c = true ∧ (c.til ≠ -1 ∨ ∃ t ∈ cs, isD v t = true) := by
  unfold valsC
  rw [List.mem_map]
  constructor
  · rintro ⟨c, h1, rfl⟩
    rw [List.mem_filter, cntE_iff] at h1
    exact ⟨c, h1.1, isE_iff.2 ⟨h1.2.1, rfl⟩, h1.2.2⟩
  · rintro ⟨c, h1, h2, h3⟩
    obtain ⟨h4, rfl⟩ := isE_iff.1 h2
    exact ⟨c, by rw [List.mem_filter, cntE_iff]; exact ⟨h1, h4, h3⟩, rfl⟩
theorem QueH.valsC_nodup (h : QueH n cs) : (valsC cs).Nodup := by
  unfold valsC List.Nodup
  rw [List.pairwise_map]
  have h1 : cs.Pairwise fun a b => a.kind = 3 → b.kind = 3 → a.arg ≠ b.arg := by
    rw [List.pairwise_iff_getElem]
    intro i j hi hj hij k1 k2 he
    have := h.once i j _ _ (List.getElem?_eq_getElem hi) (List.getElem?_eq_getElem hj) k1 k2 he
    omega
  refine (h1.filter _).imp_of_mem fun {a b} ha hb hh => ?_
  rw [List.mem_filter, cntE_iff] at ha hb
  exact hh ha.2.1 hb.2.1
/-- Times of calls. -/
def peT (c : Cl) : Int := if c.til = -1 then 4000 else 2 * c.til
set_option maxHeartbeats 1000000 in
theorem QueH.times (h : QueH n cs) (ht : ¬ TwiceQ cs) (he : ¬ EarlyQ cs) (ho : ¬ OrdQ cs) (hm : ¬ EmptyQ cs) :
    ∃ (W : List Int) (p q : Int → Int) (K : Cl → Int), (∀ v, v ∈ W ↔ v ∈ valsC cs) ∧ W.Nodup ∧ W.Pairwise (fun a b => p a ≤ p b ∧ q a ≤ q b) ∧
      (∀ e ∈ cs, ∀ v ∈ W, isE v e = true → 2 * e.frm ≤ p v ∧ (e.til ≠ -1 → p v ≤ 2 * e.til) ∧ p v ≤ q v) ∧
      (∀ t ∈ cs, ∀ v ∈ W, isD v t = true → 2 * t.frm ≤ q v ∧ q v ≤ 2 * t.til) ∧
      (∀ v ∈ W, (∀ t ∈ cs, isD v t = false) → 4000 ≤ q v) ∧
      (∀ x ∈ cs, x.kind = 4 → x.res = -1 → x.frm ≤ K x ∧ K x < x.til ∧ ∀ v ∈ W, 2 * K x + 1 < p v ∨ q v < 2 * K x + 1) := by
  have hK : ∀ x : Cl, ∃ k : Int, x ∈ cs → x.kind = 4 → x.res = -1 → x.frm ≤ k ∧ k < x.til ∧ ¬ FullQ cs k := by
    intro x
    by_cases hx : x ∈ cs ∧ x.kind = 4 ∧ x.res = -1
    · apply Classical.byContradiction
      intro hn
      refine hm ⟨x, hx.1, hx.2.1, hx.2.2, fun k h1 h2 => ?_⟩
      apply Classical.byContradiction
      intro h3
      exact hn ⟨k, fun _ _ _ => ⟨h1, h2, h3⟩⟩
    · exact ⟨0, fun h1 h2 h3 => absurd ⟨h1, h2, h3⟩ hx⟩
  obtain ⟨K, hK⟩ := Classical.axiomOfChoice hK
  -- facts of a value
  have hval : ∀ v ∈ valsC cs, ∃ e ∈ cs, isE v e = true ∧ pC cs v = e ∧ 1 ≤ v ∧ (e.til ≠ -1 ∨ ∃ t ∈ cs, isD v t = true) := by
    intro v hv
    obtain ⟨e, h1, h2, h3⟩ := h.mem_valsC.1 hv
    obtain ⟨i, hi, rfl⟩ := List.getElem_of_mem h1
    have h4 := (h.p_at (List.getElem?_eq_getElem hi) h2).2
    exact ⟨_, h1, h2, h4, (h.val h1 h2).1, h3⟩
  have htk : ∀ v, v ≠ -1 → ((tAt cs v).isSome = true ∧ ∃ t ∈ cs, isD v t = true ∧ tC cs v = t ∧ ∀ t' ∈ cs, isD v t' = true → t' = t) ∨ ((tAt cs v).isSome = false ∧ ∀ t ∈ cs, isD v t = false) := by
    intro v hv
    by_cases hsm : (tAt cs v).isSome = true
    · left
      obtain ⟨i, t, a1, a2, a3, a4, _⟩ := t_get hsm
      refine ⟨hsm, t, List.mem_of_getElem? a1, a2, a4, fun t' ht' hd => ?_⟩
      obtain ⟨j, hj, rfl⟩ := List.getElem_of_mem ht'
      have := (t_only ht hv (List.getElem?_eq_getElem hj) hd).2
      rw [← this, a4]
    · right
      have h1 : (tAt cs v).isSome = false := Bool.eq_false_iff.2 hsm
      exact ⟨h1, t_none hv h1⟩
  obtain ⟨el, hel⟩ : ∃ f : Int → Int, ∀ v, f v = 2 * (pC cs v).frm := ⟨_, fun _ => rfl⟩
  obtain ⟨dh, hdh⟩ : ∃ f : Int → Int, ∀ v, f v = if (tAt cs v).isSome = true then 2 * (tC cs v).til else 4000 := ⟨_, fun _ => rfl⟩
  obtain ⟨d0, hd0⟩ : ∃ f : Int → Int, ∀ v, f v = if (tAt cs v).isSome = true then 2 * (tC cs v).frm else 4000 := ⟨_, fun _ => rfl⟩
  obtain ⟨eh, heh⟩ : ∃ f : Int → Int, ∀ v, f v = min (peT (pC cs v)) (dh v) := ⟨_, fun _ => rfl⟩
  obtain ⟨dl, hdl⟩ : ∃ f : Int → Int, ∀ v, f v = max (d0 v) (el v) := ⟨_, fun _ => rfl⟩
  have hE : ∀ v ∈ valsC cs, ∃ e ∈ cs, isE v e = true ∧ 1 ≤ v ∧ (e.til ≠ -1 ∨ ∃ t ∈ cs, isD v t = true) ∧ el v = 2 * e.frm ∧ 0 ≤ e.frm ∧ e.frm < 200 ∧ ((e.til = -1 ∧ eh v = min 4000 (dh v)) ∨ (e.til ≠ -1 ∧ e.frm < e.til ∧ e.til < 200 ∧ eh v = min (2 * e.til) (dh v))) := by
    intro v hv
    obtain ⟨e, h1, h2, h3, h4, h5⟩ := hval v hv
    have hf := h.frm h1
    refine ⟨e, h1, h2, h4, h5, by rw [hel, h3], hf.1, hf.2.1, ?_⟩
    rw [heh, h3]
    unfold peT
    by_cases htl : e.til = -1
    · rw [if_pos htl]; exact .inl ⟨htl, rfl⟩
    · rw [if_neg htl]; exact .inr ⟨htl, by omega, hf.2.2.1, rfl⟩
  have hD : ∀ v, v ≠ -1 → (∃ t ∈ cs, isD v t = true ∧ (∀ t' ∈ cs, isD v t' = true → t' = t) ∧ d0 v = 2 * t.frm ∧ dh v = 2 * t.til ∧ 0 ≤ t.frm ∧ t.frm < t.til ∧ t.til < 200) ∨ ((∀ t ∈ cs, isD v t = false) ∧ d0 v = 4000 ∧ dh v = 4000) := by
    intro v hv
    rcases htk v hv with ⟨h1, t, h2, h3, h4, h5⟩ | ⟨h1, h2⟩
    · have hf := h.frm h2
      have ha := h.ans t h2 (isD_iff.1 h3).1
      exact .inl ⟨t, h2, h3, h5, by rw [hd0, if_pos h1, h4], by rw [hdh, if_pos h1, h4], hf.1, by omega, hf.2.2.1⟩
    · exact .inr ⟨h2, by rw [hd0, if_neg (by rw [h1]; decide)], by rw [hdh, if_neg (by rw [h1]; decide)]⟩
  -- nothing is taken ahead of its put
  have hel2 : ∀ v, ∀ e ∈ cs, isE v e = true → ∀ t ∈ cs, isD v t = true → e.frm ≤ t.til := by
    intro v e h1 h2 t h3 h4
    apply Classical.byContradiction
    intro hn
    refine he ⟨t, h3, (isD_iff.1 h4).1, e, h1, ?_, by omega⟩
    rw [(isD_iff.1 h4).2]
    exact h2
  obtain ⟨T, hT⟩ : ∃ T : List Int, ∀ t, t ∈ T ↔ ∃ x ∈ cs, x.kind = 4 ∧ x.res = -1 ∧ t = 2 * K x + 1 := by
    refine ⟨(cs.filter fun x => x.kind == 4 && x.res == -1).map fun x => 2 * K x + 1, fun t => ?_⟩
    rw [List.mem_map]
    constructor
    · rintro ⟨x, h1, rfl⟩
      rw [List.mem_filter, Bool.and_eq_true, beq_iff_eq, beq_iff_eq] at h1
      exact ⟨x, h1.1, h1.2.1, h1.2.2, rfl⟩
    · rintro ⟨x, h1, h2, h3, rfl⟩
      exact ⟨x, by rw [List.mem_filter, Bool.and_eq_true, beq_iff_eq, beq_iff_eq]; exact ⟨h1, h2, h3⟩, rfl⟩
  obtain ⟨W, p, q, hp, hb, hw, hT2⟩ := que_times (el := el) (eh := eh) (dl := dl) (dh := dh) (V := valsC cs) (T := T) (B := 0) (C := 4000) h.valsC_nodup
    (fun v hv => by
      obtain ⟨e, a1, a2, a3, a4, a5, a6, a7, a8⟩ := hE v hv
      have b1 := hdl v
      rcases hD v (by omega) with ⟨t, c1, c2, c3, c4, c5, c6, c7, c8⟩ | ⟨c1, c2, c3⟩
      · have := hel2 v e a1 a2 t c1 c2
        omega
      · have hne : e.til ≠ -1 := a4.resolve_right (fun ⟨t, h1, h2⟩ => by rw [c1 t h1] at h2; cases h2)
        omega)
    (fun a ha b hb ⟨g1, g2⟩ => by
      obtain ⟨ea, a1, a2, a3, a4, a5, a6, a7, a8⟩ := hE a ha
      obtain ⟨eb, b1, b2, b3, b4, b5, b6, b7, b8⟩ := hE b hb
      have da := hdl a
      rcases hD b (by omega) with ⟨tb, c1, c2, c3, c4, c5, c6, c7, c8⟩ | ⟨c1, c2, c3⟩
      · have hbb := hel2 b eb b1 b2 tb c1 c2
        rcases hD a (by omega) with ⟨ta, e1, e2, e3, e4, e5, e6, e7, e8⟩ | ⟨e1, e2, e3⟩
        · have haa := hel2 a ea a1 a2 ta e1 e2
          have hno : ¬ (ea.til ≠ -1 ∧ ea.til < eb.frm ∧ tb.til < ta.frm) := fun hh => ho ⟨a, b, ea, a1, eb, b1, tb, c1, a2, b2, c2, hh.1, hh.2.1, fun t' ht' hd' => by rw [e3 t' ht' hd']; exact hh.2.2⟩
          omega
        · have hno : ¬ (ea.til ≠ -1 ∧ ea.til < eb.frm) := fun hh => ho ⟨a, b, ea, a1, eb, b1, tb, c1, a2, b2, c2, hh.1, hh.2, fun t' ht' hd' => by rw [e1 t' ht'] at hd'; cases hd'⟩
          omega
      · rcases hD a (by omega) with ⟨ta, e1, e2, e3, e4, e5, e6, e7, e8⟩ | ⟨e1, e2, e3⟩ <;> omega)
    (fun v hv t ht' => by
      obtain ⟨x, x1, x2, x3, rfl⟩ := (hT t).1 ht'
      obtain ⟨k1, k2, k3⟩ := hK x x1 x2 x3
      have hfx := h.frm x1
      obtain ⟨e, a1, a2, a3, a4, a5, a6, a7, a8⟩ := hE v hv
      have b1 := hdl v
      rcases hD v (by omega) with ⟨t, c1, c2, c3, c4, c5, c6, c7, c8⟩ | ⟨c1, c2, c3⟩
      · have := hel2 v e a1 a2 t c1 c2
        have hno : ¬ (e.til ≠ -1 ∧ e.til ≤ K x ∧ K x < t.frm) := fun hh => k3 ⟨e, a1, (isE_iff.1 a2).1, hh.1, hh.2.1, fun t' ht' hd' => by
          rw [(isE_iff.1 a2).2] at hd'
          rw [c3 t' ht' hd']
          exact hh.2.2⟩
        omega
      · have hno : ¬ (e.til ≠ -1 ∧ e.til ≤ K x) := fun hh => k3 ⟨e, a1, (isE_iff.1 a2).1, hh.1, hh.2, fun t' ht' hd' => by
          rw [(isE_iff.1 a2).2, c1 t' ht'] at hd'
          cases hd'⟩
        omega)
  have hmem : ∀ v, v ∈ W ↔ v ∈ valsC cs := fun v => hp.mem_iff
  refine ⟨W, p, q, K, hmem, hp.nodup_iff.2 h.valsC_nodup, hw, fun e he' v hv h1 => ?_, fun t ht' v hv h1 => ?_, fun v hv h1 => ?_, fun x hx h4 hr => ?_⟩
  · obtain ⟨b1, b2, b3, b4, b5⟩ := hb v ((hmem v).1 hv)
    obtain ⟨e2, a1, a2, a3, a4, a5, a6, a7, a8⟩ := hE v ((hmem v).1 hv)
    obtain ⟨i, hi, rfl⟩ := List.getElem_of_mem he'
    obtain ⟨j, hj, rfl⟩ := List.getElem_of_mem a1
    have hij : i = j := h.once i j _ _ (List.getElem?_eq_getElem hi) (List.getElem?_eq_getElem hj) (isE_iff.1 h1).1 (isE_iff.1 a2).1 ((isE_iff.1 h1).2.trans (isE_iff.1 a2).2.symm)
    subst hij
    omega
  · obtain ⟨b1, b2, b3, b4, b5⟩ := hb v ((hmem v).1 hv)
    obtain ⟨e2, a1, a2, a3, a4, a5, a6, a7, a8⟩ := hE v ((hmem v).1 hv)
    have d1 := hdl v
    rcases hD v (by omega) with ⟨t2, c1, c2, c3, c4, c5, c6, c7, c8⟩ | ⟨c1, c2, c3⟩
    · have := c3 t ht' h1
      subst this
      omega
    · rw [c1 t ht'] at h1; cases h1
  · obtain ⟨b1, b2, b3, b4, b5⟩ := hb v ((hmem v).1 hv)
    obtain ⟨e2, a1, a2, a3, a4, a5, a6, a7, a8⟩ := hE v ((hmem v).1 hv)
    have d1 := hdl v
    rcases hD v (by omega) with ⟨t2, c1, c2, c3, c4, c5, c6, c7, c8⟩ | ⟨c1, c2, c3⟩
    · rw [h1 t2 c1] at c2; cases c2
    · omega
  · obtain ⟨k1, k2, _⟩ := hK x hx h4 hr
    exact ⟨k1, k2, fun v hv => hT2 v ((hmem v).1 hv) _ ((hT _).2 ⟨x, hx, h4, hr, rfl⟩)⟩
end
end Go.Proofs.YthjmncngegchjaaGreatDoor
