/-
  Joined by a program out of: SwapPure.
-/
import Derived.Test.YtecpjeililiafaaDoorMgAY
import Derived.Test.YtecpjeililiafaaDoorMgAK

/-
  Plain: two events that follow each other, of unlike people, exchanged: the calls are the same, but for their times and, of two calls, their places.
-/
namespace Go.Proofs.YtecpjeililiafaaDoor
open Go.RowKit
set_option maxRecDepth 20000

/-- Times k and k + 1 exchanged. -/
def sw (k : Nat) (t : Int) : Int := if t = (k : Int) then (k : Int) + 1 else if t = (k : Int) + 1 then (k : Int) else t
def ret (k : Nat) (c : Cl) : Cl := { c with frm := sw k c.frm, til := sw k c.til }
theorem sw_sw (k : Nat) (t : Int) : sw k (sw k t) = t := by unfold sw; (repeat' split) <;> omega
theorem sw_far {k : Nat} {t : Int} (h1 : t ≠ (k : Int)) (h2 : t ≠ (k : Int) + 1) : sw k t = t := by unfold sw; rw [if_neg h1, if_neg h2]
theorem sw_none {k : Nat} {t : Int} : sw k t = -1 ↔ t = -1 := by unfold sw; (repeat' split) <;> omega
theorem ret_ret (k : Nat) (c : Cl) : ret k (ret k c) = c := by unfold ret; rw [sw_sw, sw_sw]
theorem ret_old {k : Nat} {c : Cl} (h1 : c.frm < k) (h2 : c.til < k) : ret k c = c := by
  unfold ret
  rw [sw_far (by omega) (by omega), sw_far (by omega) (by omega)]
/-- The same calls, but for times k and k + 1, and for their places. -/
structure Tw (k : Nat) (σ : Nat → Nat) (cs ds : List Cl) : Prop where
  len : ds.length = cs.length
  inv : ∀ i, σ (σ i) = i
  fix : ∀ i, cs.length ≤ i → σ i = i
  at_ : ∀ i, i < cs.length → ds.getD (σ i) default = ret k (cs.getD i default)
theorem Tw.rng {k : Nat} {σ : Nat → Nat} {cs ds : List Cl} (h : Tw k σ cs ds) {i : Nat} (hi : i < cs.length) : σ i < cs.length := by
  apply Classical.byContradiction
  intro hn
  have h1 := h.fix (σ i) (by omega)
  rw [h.inv] at h1
  omega
theorem Tw.symm {k : Nat} {σ : Nat → Nat} {cs ds : List Cl} (h : Tw k σ cs ds) : Tw k σ ds cs := by
  refine ⟨h.len.symm, h.inv, fun i hi => h.fix i (by rw [← h.len]; exact hi), fun i hi => ?_⟩
  have h1 := h.at_ (σ i) (h.rng (by rw [← h.len]; exact hi))
  rw [h.inv] at h1
  rw [h1, ret_ret]
theorem OneOpen.tw {k : Nat} {σ : Nat → Nat} {cs ds : List Cl} (h : Tw k σ cs ds) (h1 : OneOpen cs) : OneOpen ds := by
  intro i j c d hc hd hw tc td
  have hi := (List.getElem?_eq_some_iff.1 hc).1
  have hj := (List.getElem?_eq_some_iff.1 hd).1
  have ei := h.symm.at_ i hi
  have ej := h.symm.at_ j hj
  have hic := h.symm.rng hi
  have hjc := h.symm.rng hj
  rw [h.len] at hi hj hic hjc
  rw [List.getD_eq_getElem?_getD (l := ds), hc] at ei
  rw [List.getD_eq_getElem?_getD (l := ds), hd] at ej
  have := h1 (σ i) (σ j) _ _ (getD_some hic) (getD_some hjc) (by rw [ei, ej]; exact hw) (by rw [ei]; exact sw_none.2 tc) (by rw [ej]; exact sw_none.2 td)
  have e := congrArg σ this
  rw [h.inv, h.inv] at e
  exact e
/-- Who has a call open has the same one open. -/
theorem Tw.open_ {k : Nat} {σ : Nat → Nat} {cs ds : List Cl} (h : Tw k σ cs ds) (h1 : OneOpen cs) (who : Int) : (openOf cs who < 0 ∧ openOf ds who < 0) ∨ ∃ i, i < cs.length ∧ openOf cs who = (i : Int) ∧ openOf ds who = (σ i : Nat) ∧ (cs.getD i default).til = -1 := by
  have h2 := OneOpen.tw h h1
  by_cases hc : openOf cs who < 0
  · left
    refine ⟨hc, ?_⟩
    apply Classical.byContradiction
    intro hd
    obtain ⟨d, e1, e2, e3, e4⟩ := openOf_at (cs := ds) (who := who) (by omega)
    have ei := h.symm.at_ _ e4
    rw [List.getD_eq_getElem?_getD (l := ds), e1] at ei
    have hlt := h.symm.rng e4
    rw [h.len] at hlt
    exact openOf_none hc (getD_some hlt) (by rw [ei]; exact e2) (by rw [ei]; exact sw_none.2 e3)
  · right
    obtain ⟨c, e1, e2, e3, e4⟩ := openOf_at (cs := cs) (who := who) (by omega)
    have ei := h.at_ _ e4
    have hg : cs.getD (openOf cs who).toNat default = c := by rw [List.getD_eq_getElem?_getD, e1]; rfl
    rw [hg] at ei
    refine ⟨(openOf cs who).toNat, e4, by omega, ?_, by rw [hg]; exact e3⟩
    exact (openOf_iff h2).2 ⟨_, getD_some (by rw [h.len]; exact h.rng e4), by rw [ei]; exact e2, by rw [ei]; exact sw_none.2 e3⟩
theorem getD_set {cs : List Cl} {i j : Nat} {c : Cl} (hi : i < cs.length) : (cs.set i c).getD j default = if i = j then c else cs.getD j default := by
  rw [List.getD_eq_getElem?_getD, List.getElem?_set]
  split
  · rfl
  · rw [List.getD_eq_getElem?_getD]
theorem getD_snoc {cs : List Cl} {j : Nat} {c : Cl} : (cs ++ [c]).getD j default = if j < cs.length then cs.getD j default else if j = cs.length then c else default := by
  rw [List.getD_eq_getElem?_getD, List.getElem?_append]
  split
  · rw [List.getD_eq_getElem?_getD]
  · split
    · rename_i h1 h2; subst h2; rw [Nat.sub_self]; rfl
    · rw [List.getElem?_eq_none (by simp; omega)]; rfl
theorem Tw.set {k : Nat} {σ : Nat → Nat} {cs ds : List Cl} (h : Tw k σ cs ds) {i : Nat} (hi : i < cs.length) {c d : Cl} (hd : d = ret k c) : Tw k σ (cs.set i c) (ds.set (σ i) d) := by
  have hr := h.rng hi
  refine ⟨by rw [List.length_set, List.length_set, h.len], h.inv, fun j hj => h.fix j (by rw [List.length_set] at hj; exact hj), fun j hj => ?_⟩
  rw [List.length_set] at hj
  rw [getD_set (by rw [h.len]; exact hr), getD_set hi]
  by_cases e : i = j
  · subst e
    rw [if_pos rfl, if_pos rfl, hd]
  · rw [if_neg e, if_neg (fun e2 => e (by have := congrArg σ e2; rw [h.inv, h.inv] at this; exact this))]
    exact h.at_ j hj
theorem Tw.snoc {k : Nat} {σ : Nat → Nat} {cs ds : List Cl} (h : Tw k σ cs ds) {c d : Cl} (hd : d = ret k c) : Tw k σ (cs ++ [c]) (ds ++ [d]) := by
  refine ⟨by rw [List.length_append, List.length_append, h.len]; rfl, h.inv, fun j hj => h.fix j (by rw [List.length_append] at hj; simp at hj; omega), fun j hj => ?_⟩
  rw [List.length_append] at hj
  simp at hj
  rw [getD_snoc, getD_snoc, h.len]
  by_cases e : j < cs.length
  · rw [if_pos e, if_pos (h.rng e)]
    exact h.at_ j e
  · have : j = cs.length := by omega
    subst this
    rw [h.fix _ (Nat.le_refl _), if_neg (Nat.lt_irrefl _), if_neg (Nat.lt_irrefl _), if_pos rfl, if_pos rfl, hd]
theorem Tw.step {ts : List Int} {k n : Nat} {σ : Nat → Nat} {cs ds cs' : List Cl} {x : Ev} (h : Tw k σ cs ds) (h1 : OneOpen cs) (hn : k + 2 ≤ n) (hs : step ts n cs x = .inr cs') : ∃ ds', Go.Proofs.YtecpjeililiafaaDoor.step ts n ds x = .inr ds' ∧ Tw k σ cs' ds' := by
  have hwf : sw k (n : Int) = (n : Int) := sw_far (by omega) (by omega)
  unfold Go.Proofs.YtecpjeililiafaaDoor.step at hs ⊢
  split at hs
  · cases hs
  · rename_i hr
    rw [if_neg hr]
    split at hs
    · rename_i hk
      rw [if_pos hk]
      unfold respS at hs ⊢
      rcases h.open_ h1 x.who with ⟨o1, o2⟩ | ⟨i, hi, o1, o2, o3⟩
      · rw [if_pos o1] at hs; cases hs
      · rw [if_neg (by omega), o1, Int.toNat_natCast] at hs
        rw [if_neg (by omega), o2, Int.toNat_natCast, h.at_ i hi]
        split at hs
        · cases hs
        · rename_i hg
          injection hs with hs
          subst hs
          rw [if_neg (show ¬ ((ret k (cs.getD i default)).thing ≠ x.thing ∨ givesB (ret k (cs.getD i default)).kind x.val = false) from hg)]
          refine ⟨_, rfl, h.set hi ?_⟩
          unfold ret
          simp only
          rw [hwf]
    · rename_i hk
      rw [if_neg hk]
      unfold invS at hs ⊢
      split at hs
      · cases hs
      · rename_i hg
        rw [if_neg hg]
        rcases h.open_ h1 x.who with ⟨o1, o2⟩ | ⟨i, hi, o1, o2, o3⟩
        · rw [if_neg (by omega)] at hs ⊢
          injection hs with hs
          subst hs
          refine ⟨_, rfl, h.snoc ?_⟩
          unfold ret
          simp only
          rw [hwf, sw_far (by omega) (by omega)]
        · rw [if_pos (by omega)] at hs; cases hs
theorem step_one {ts : List Int} {n : Nat} {cs cs' : List Cl} {x : Ev} (h1 : OneOpen cs) (hs : step ts n cs x = .inr cs') : OneOpen cs' := by
  rcases step_K (ts := ts) (n := n) (x := x) h1 with ⟨e, h2, _⟩ | ⟨d, h2, h3, _⟩
  · rw [h2] at hs; cases hs
  · rw [h2] at hs; injection hs with hs; subst hs; exact h3
theorem Tw.run {ts : List Int} {k : Nat} {σ : Nat → Nat} : ∀ (l : List Ev) (n : Nat) (cs ds : List Cl), Tw k σ cs ds → OneOpen cs → k + 2 ≤ n → (run ts n cs l).2.2 = 0 → (Go.Proofs.YtecpjeililiafaaDoor.run ts n ds l).2.2 = 0 ∧ Tw k σ (Go.Proofs.YtecpjeililiafaaDoor.run ts n cs l).1 (Go.Proofs.YtecpjeililiafaaDoor.run ts n ds l).1
  | [], _, _, _, h, _, _, _ => ⟨rfl, h⟩
  | x :: r, n, cs, ds, h, h1, hn, h0 => by
    rw [Go.Proofs.YtecpjeililiafaaDoor.run] at h0
    rw [Go.Proofs.YtecpjeililiafaaDoor.run, Go.Proofs.YtecpjeililiafaaDoor.run]
    cases hs : Go.Proofs.YtecpjeililiafaaDoor.step ts n cs x with
    | inl e => rw [hs] at h0; exact absurd h0 (step_err hs)
    | inr cs' =>
      rw [hs] at h0
      obtain ⟨ds', e1, e2⟩ := h.step h1 hn hs
      rw [e1]
      simp only at h0 ⊢
      exact Tw.run r (n + 1) cs' ds' e2 (step_one h1 hs) (by omega) h0
theorem run_one {ts : List Int} : ∀ (l : List Ev) (n : Nat) (cs : List Cl), OneOpen cs → (run ts n cs l).2.2 = 0 → OneOpen (run ts n cs l).1
  | [], _, _, h, _ => h
  | x :: r, n, cs, h, h0 => by
    rw [run] at h0 ⊢
    cases hs : step ts n cs x with
    | inl e => rw [hs] at h0; exact absurd h0 (step_err hs)
    | inr cs' =>
      rw [hs] at h0
      exact run_one r (n + 1) cs' (step_one h hs) h0

/-! ### The two events themselves -/
/-- What one event does, if it may be: an answer, or a call. -/
theorem step_ways {ts : List Int} {n : Nat} {cs cs' : List Cl} {x : Ev} (hs : step ts n cs x = .inr cs') :
    (x.kind = 0 ∧ ∃ i, i < cs.length ∧ openOf cs x.who = (i : Int) ∧ (cs.getD i default).who = x.who ∧ (cs.getD i default).til = -1 ∧ cs' = cs.set i { cs.getD i default with res := x.val, til := n } ∧
      (∀ (m : Nat) (ds : List Cl) (j : Nat) (d : Cl), openOf ds x.who = (j : Int) → ds.getD j default = d → d.thing = (cs.getD i default).thing → d.kind = (cs.getD i default).kind → step ts m ds x = .inr (ds.set j { d with res := x.val, til := m }))) ∨
    (x.kind ≠ 0 ∧ openOf cs x.who < 0 ∧ cs' = cs ++ [⟨x.who, x.thing, x.kind, x.val, 0, n, -1⟩] ∧
      (∀ (m : Nat) (ds : List Cl), openOf ds x.who < 0 → step ts m ds x = .inr (ds ++ [⟨x.who, x.thing, x.kind, x.val, 0, m, -1⟩]))) := by
  unfold step at hs
  split at hs
  · cases hs
  · rename_i hr
    split at hs
    · rename_i hk
      left
      unfold respS at hs
      split at hs
      · cases hs
      · rename_i ho
        split at hs
        · cases hs
        · rename_i hg
          injection hs with hs
          obtain ⟨c, e1, e2, e3, e4⟩ := openOf_at (cs := cs) (who := x.who) (by omega)
          have hgd : cs.getD (openOf cs x.who).toNat default = c := by rw [List.getD_eq_getElem?_getD, e1]; rfl
          refine ⟨hk, (openOf cs x.who).toNat, e4, by omega, by rw [hgd]; exact e2, by rw [hgd]; exact e3, hs.symm, fun m ds j d o1 o2 o3 o4 => ?_⟩
          unfold step
          rw [if_neg hr, if_pos hk]
          unfold respS
          rw [if_neg (by omega), o1, Int.toNat_natCast, o2, if_neg (by rw [o3, o4]; exact hg)]
    · rename_i hk
      right
      unfold invS at hs
      split at hs
      · cases hs
      · rename_i hg
        split at hs
        · cases hs
        · rename_i ho
          injection hs with hs
          refine ⟨hk, by omega, hs.symm, fun m ds o1 => ?_⟩
          unfold step
          rw [if_neg hr, if_neg hk]
          unfold invS
          rw [if_neg hg, if_neg (by omega)]
theorem Tw.refl {k : Nat} {cs : List Cl} (h : Tidy k cs) : Tw k id cs cs := by
  refine ⟨rfl, fun _ => rfl, fun _ _ => rfl, fun i hi => ?_⟩
  have := h _ (List.mem_of_getElem? (getD_some hi))
  exact (ret_old this.2.1 this.1).symm
/-- An answer and a call that follow each other. -/
theorem swap_ec {ts : List Int} {k : Nat} {cs c1 c2 : List Cl} {x y : Ev} (h1 : OneOpen cs) (ht : Tidy k cs) (hw : x.who ≠ y.who) (hx : x.kind = 0) (hy : y.kind ≠ 0) (s1 : step ts k cs x = .inr c1) (s2 : step ts (k + 1) c1 y = .inr c2) :
    ∃ d1 d2, step ts k cs y = .inr d1 ∧ step ts (k + 1) d1 x = .inr d2 ∧ Tw k id c2 d2 := by
  rcases step_ways s1 with ⟨_, i, hi, o1, o2, o3, rfl, go⟩ | ⟨h, _⟩
  · rcases step_ways s2 with ⟨h, _⟩ | ⟨_, p1, rfl, gy⟩
    · exact absurd h hy
    · have hti : ({ cs.getD i default with res := x.val, til := (k : Int) } : Cl).til ≠ -1 := by show (k : Int) ≠ -1; omega
      have q1 : openOf cs y.who < 0 := by
        have := openOf_set (c := { cs.getD i default with res := x.val, til := (k : Int) }) (who' := y.who) h1 (by rw [o1]; omega : 0 ≤ openOf cs x.who) hti
        rw [o1, Int.toNat_natCast] at this
        rw [this, if_neg (fun h => hw h.symm)] at p1
        exact p1
      refine ⟨_, _, gy k cs q1, go (k + 1) _ i (cs.getD i default) (by rw [openOf_snoc, if_neg (fun h => hw h.1.symm), o1]) (by rw [getD_snoc, if_pos hi]) rfl rfl, ?_⟩
      have e : (cs ++ [({ who := y.who, thing := y.thing, kind := y.kind, arg := y.val, res := 0, frm := (k : Int), til := -1 } : Cl)]).set i { cs.getD i default with res := x.val, til := ((k + 1 : Nat) : Int) } = cs.set i { cs.getD i default with res := x.val, til := ((k + 1 : Nat) : Int) } ++ [({ who := y.who, thing := y.thing, kind := y.kind, arg := y.val, res := 0, frm := (k : Int), til := -1 } : Cl)] := List.set_append_left i _ hi
      rw [e]
      have hold := ht _ (List.mem_of_getElem? (getD_some hi))
      refine Tw.snoc (Tw.set (Tw.refl ht) hi ?_) ?_
      · unfold ret
        simp only
        rw [sw_far (t := (cs.getD i default).frm) (by omega) (by omega)]
        unfold sw
        rw [if_pos rfl]
        rfl
      · unfold ret
        simp only
        rw [sw_far (t := -1) (by omega) (by omega)]
        unfold sw
        rw [if_neg (by omega), if_pos (by omega)]
  · exact absurd hx h
/-- Two answers that follow each other. -/
theorem swap_ee {ts : List Int} {k : Nat} {cs c1 c2 : List Cl} {x y : Ev} (h1 : OneOpen cs) (ht : Tidy k cs) (hw : x.who ≠ y.who) (hx : x.kind = 0) (hy : y.kind = 0) (s1 : step ts k cs x = .inr c1) (s2 : step ts (k + 1) c1 y = .inr c2) :
    ∃ d1 d2, step ts k cs y = .inr d1 ∧ step ts (k + 1) d1 x = .inr d2 ∧ Tw k id c2 d2 := by
  rcases step_ways s1 with ⟨_, i, hi, o1, o2, o3, rfl, go⟩ | ⟨h, _⟩
  · rcases step_ways s2 with ⟨_, j, hj, p1, p2, p3, rfl, gy⟩ | ⟨h, _⟩
    · have hti : ({ cs.getD i default with res := x.val, til := (k : Int) } : Cl).til ≠ -1 := by show (k : Int) ≠ -1; omega
      rw [List.length_set] at hj
      have hij : i ≠ j := by
        intro e
        rw [getD_set hi, if_pos e] at p3
        exact hti p3
      have hgj : (cs.set i { cs.getD i default with res := x.val, til := (k : Int) }).getD j default = cs.getD j default := by rw [getD_set hi, if_neg hij]
      rw [hgj] at p2 p3 gy ⊢
      have q1 : openOf cs y.who = (j : Int) := (openOf_iff h1).2 ⟨_, getD_some hj, p2, p3⟩
      have htj : ({ cs.getD j default with res := y.val, til := (k : Int) } : Cl).til ≠ -1 := by show (k : Int) ≠ -1; omega
      refine ⟨_, _, gy k cs j (cs.getD j default) q1 rfl rfl rfl, go (k + 1) _ i (cs.getD i default) ?_ (by rw [getD_set hj, if_neg (fun e => hij e.symm)]) rfl rfl, ?_⟩
      · have := openOf_set (c := { cs.getD j default with res := y.val, til := (k : Int) }) (who' := x.who) h1 (by rw [q1]; omega : 0 ≤ openOf cs y.who) htj
        rw [q1, Int.toNat_natCast] at this
        rw [this, if_neg hw, o1]
      · rw [List.set_comm _ _ (fun e => hij e.symm)]
        have hold := ht _ (List.mem_of_getElem? (getD_some hi))
        have hold2 := ht _ (List.mem_of_getElem? (getD_some hj))
        refine Tw.set (Tw.set (Tw.refl ht) hi ?_) (by rw [List.length_set]; exact hj) ?_
        · unfold ret
          simp only
          rw [sw_far (t := (cs.getD i default).frm) (by omega) (by omega)]
          unfold sw
          rw [if_pos rfl]
          rfl
        · unfold ret
          simp only
          rw [sw_far (t := (cs.getD j default).frm) (by omega) (by omega)]
          unfold sw
          rw [if_neg (by omega), if_pos (by omega)]
    · exact absurd hy h
  · exact absurd hx h
/-- The places m and m + 1 exchanged. -/
def swN (m i : Nat) : Nat := if i = m then m + 1 else if i = m + 1 then m else i
theorem swN_swN (m i : Nat) : swN m (swN m i) = i := by unfold swN; (repeat' split) <;> omega
/-- Two calls that follow each other. -/
theorem swap_cc {ts : List Int} {k : Nat} {cs c1 c2 : List Cl} {x y : Ev} (ht : Tidy k cs) (hw : x.who ≠ y.who) (hx : x.kind ≠ 0) (hy : y.kind ≠ 0) (s1 : step ts k cs x = .inr c1) (s2 : step ts (k + 1) c1 y = .inr c2) :
    ∃ d1 d2, step ts k cs y = .inr d1 ∧ step ts (k + 1) d1 x = .inr d2 ∧ Tw k (swN cs.length) c2 d2 := by
  rcases step_ways s1 with ⟨h, _⟩ | ⟨_, o1, rfl, go⟩
  · exact absurd h hx
  · rcases step_ways s2 with ⟨h, _⟩ | ⟨_, p1, rfl, gy⟩
    · exact absurd h hy
    · have q1 : openOf cs y.who < 0 := by
        rw [openOf_snoc, if_neg (fun h => hw h.1)] at p1
        exact p1
      refine ⟨_, _, gy k cs q1, go (k + 1) _ (by rw [openOf_snoc, if_neg (fun h => hw h.1.symm)]; exact o1), ?_⟩
      refine ⟨by simp, swN_swN _, fun i hi => ?_, fun i hi => ?_⟩
      · simp at hi
        unfold swN
        rw [if_neg (by omega), if_neg (by omega)]
      · simp at hi
        have hk1 : sw k ((k + 1 : Nat) : Int) = (k : Int) := by unfold sw; rw [if_neg (by omega), if_pos (by omega)]
        have hk0 : sw k (k : Int) = ((k + 1 : Nat) : Int) := by unfold sw; rw [if_pos rfl]; rfl
        have hkn : sw k (-1) = -1 := sw_far (by omega) (by omega)
        rw [getD_snoc, getD_snoc, getD_snoc, getD_snoc]
        simp only [List.length_append, List.length_singleton]
        unfold swN
        by_cases e1 : i = cs.length
        · rw [if_pos e1, if_neg (by omega), if_pos rfl, if_pos (by omega), if_neg (by omega), if_pos e1]
          unfold ret
          simp only
          rw [hk0, hkn]
        · rw [if_neg e1]
          by_cases e2 : i = cs.length + 1
          · rw [if_pos e2, if_pos (by omega), if_neg (by omega), if_pos rfl, if_neg (by omega), if_pos e2]
            unfold ret
            simp only
            rw [hk1, hkn]
          · rw [if_neg e2, if_pos (by omega), if_pos (by omega), if_pos (by omega), if_pos (by omega)]
            have := ht _ (List.mem_of_getElem? (getD_some (cs := cs) (i := i) (by omega)))
            exact (ret_old this.2.1 this.1).symm
/-- A call and an answer that follow each other. -/
theorem swap_ce {ts : List Int} {k : Nat} {cs c1 c2 : List Cl} {x y : Ev} (h1 : OneOpen cs) (ht : Tidy k cs) (hw : x.who ≠ y.who) (hx : x.kind ≠ 0) (hy : y.kind = 0) (s1 : step ts k cs x = .inr c1) (s2 : step ts (k + 1) c1 y = .inr c2) :
    ∃ d1 d2, step ts k cs y = .inr d1 ∧ step ts (k + 1) d1 x = .inr d2 ∧ Tw k id c2 d2 := by
  have hs := s1
  have hs2 := s2
  rcases step_ways s1 with ⟨h, _⟩ | ⟨_, o1, rfl, go⟩
  · exact absurd h hx
  · rcases step_ways s2 with ⟨_, j, hj, p1, p2, p3, rfl, gy⟩ | ⟨h, _⟩
    · have q1 : openOf cs y.who = (j : Int) := by
        rw [openOf_snoc, if_neg (fun h => hw h.1)] at p1
        exact p1
      have hjc : j < cs.length := by have := openOf_lt cs y.who; omega
      have hgj : (cs ++ [({ who := x.who, thing := x.thing, kind := x.kind, arg := x.val, res := 0, frm := (k : Int), til := -1 } : Cl)]).getD j default = cs.getD j default := by rw [getD_snoc, if_pos hjc]
      rw [hgj] at gy
      have t1 := gy k cs j (cs.getD j default) q1 rfl rfl rfl
      have htj : ({ cs.getD j default with res := y.val, til := (k : Int) } : Cl).til ≠ -1 := by show (k : Int) ≠ -1; omega
      have t2 := go (k + 1) (cs.set j { cs.getD j default with res := y.val, til := (k : Int) }) (by
        have := openOf_set (c := { cs.getD j default with res := y.val, til := (k : Int) }) (who' := x.who) h1 (by rw [q1]; omega : 0 ≤ openOf cs y.who) htj
        rw [q1, Int.toNat_natCast] at this
        rw [this, if_neg hw]
        exact o1)
      obtain ⟨e1, e2, f1, f2, f3⟩ := swap_ec h1 ht (fun e => hw e.symm) hy hx t1 t2
      rw [hs] at f1
      injection f1 with f1
      subst f1
      rw [hs2] at f2
      injection f2 with f2
      subst f2
      exact ⟨_, _, t1, t2, f3.symm⟩
    · exact absurd hy h
/-- No call begins at k; none is answered at k. -/
def NoFrm (k : Int) (cs : List Cl) : Prop := ∀ c ∈ cs, c.frm ≠ k
def NoTil (k : Int) (cs : List Cl) : Prop := ∀ c ∈ cs, c.til ≠ k
theorem NoFrm.step {ts : List Int} {n : Nat} {k : Int} {cs cs' : List Cl} {x : Ev} (h : NoFrm k cs) (hn : (n : Int) ≠ k ∨ x.kind = 0) (hs : step ts n cs x = .inr cs') : NoFrm k cs' := by
  intro c hc
  rcases step_ways hs with ⟨_, i, hi, _, _, _, rfl, _⟩ | ⟨hk, _, rfl, _⟩
  · rcases List.mem_or_eq_of_mem_set hc with hc | rfl
    · exact h c hc
    · exact (show (cs.getD i default).frm ≠ k from h _ (List.mem_of_getElem? (getD_some hi)))
  · rcases List.mem_append.1 hc with hc | hc
    · exact h c hc
    · rw [List.mem_singleton] at hc
      subst hc
      rcases hn with hn | hn
      · exact hn
      · exact absurd hn hk
theorem NoTil.step {ts : List Int} {n : Nat} {k : Int} {cs cs' : List Cl} {x : Ev} (h : NoTil k cs) (hk0 : k ≠ -1) (hn : (n : Int) ≠ k ∨ x.kind ≠ 0) (hs : step ts n cs x = .inr cs') : NoTil k cs' := by
  intro c hc
  rcases step_ways hs with ⟨hk, i, hi, _, _, _, rfl, _⟩ | ⟨hk, _, rfl, _⟩
  · rcases List.mem_or_eq_of_mem_set hc with hc | rfl
    · exact h c hc
    · rcases hn with hn | hn
      · exact hn
      · exact absurd hk hn
  · rcases List.mem_append.1 hc with hc | hc
    · exact h c hc
    · rw [List.mem_singleton] at hc
      subst hc
      exact fun e => hk0 e.symm
theorem run_noFrm {ts : List Int} {k : Int} : ∀ (l : List Ev) (n : Nat) (cs : List Cl), NoFrm k cs → k < n → (run ts n cs l).2.2 = 0 → NoFrm k (run ts n cs l).1
  | [], _, _, h, _, _ => h
  | x :: r, n, cs, h, hn, h0 => by
    rw [run] at h0 ⊢
    cases hs : step ts n cs x with
    | inl e => rw [hs] at h0; exact absurd h0 (step_err hs)
    | inr cs' =>
      rw [hs] at h0
      exact run_noFrm r (n + 1) cs' (h.step (.inl (by omega)) hs) (by omega) h0
theorem run_noTil {ts : List Int} {k : Int} (hk0 : k ≠ -1) : ∀ (l : List Ev) (n : Nat) (cs : List Cl), NoTil k cs → k < n → (run ts n cs l).2.2 = 0 → NoTil k (run ts n cs l).1
  | [], _, _, h, _, _ => h
  | x :: r, n, cs, h, hn, h0 => by
    rw [run] at h0 ⊢
    cases hs : step ts n cs x with
    | inl e => rw [hs] at h0; exact absurd h0 (step_err hs)
    | inr cs' =>
      rw [hs] at h0
      exact run_noTil hk0 r (n + 1) cs' (h.step hk0 (.inl (by omega)) hs) (by omega) h0
/-- Two events that follow each other, of unlike people, exchanged. -/
theorem swap_run {ts : List Int} {a b : List Ev} {x y : Ev} (hw : x.who ≠ y.who) (h : (run ts 0 [] (a ++ x :: y :: b)).2.2 = 0) :
    (run ts 0 [] (a ++ y :: x :: b)).2.2 = 0 ∧ ∃ σ, Tw a.length σ (run ts 0 [] (a ++ x :: y :: b)).1 (run ts 0 [] (a ++ y :: x :: b)).1 ∧
      (x.kind = 0 → NoFrm a.length (run ts 0 [] (a ++ x :: y :: b)).1) ∧ (y.kind ≠ 0 → NoTil (a.length + 1 : Nat) (run ts 0 [] (a ++ x :: y :: b)).1) := by
  rw [run_append] at h
  rw [run_append, run_append]
  by_cases h0 : (run ts 0 [] a).2.2 = 0
  · rw [if_pos h0, Nat.zero_add] at h
    rw [if_pos h0, if_pos h0, Nat.zero_add]
    have hone := run_one (ts := ts) a 0 [] OneOpen.nil h0
    have ht := run_tidy (ts := ts) a 0 [] (fun c hc => by simp at hc) h0
    rw [Nat.zero_add] at ht
    generalize (run ts 0 [] a).1 = cs at h hone ht ⊢
    generalize a.length = k at h ht ⊢
    rw [run] at h
    cases s1 : step ts k cs x with
    | inl e => rw [s1] at h; exact absurd h (step_err s1)
    | inr c1 =>
      rw [s1] at h
      simp only at h
      rw [run] at h
      cases s2 : step ts (k + 1) c1 y with
      | inl e => rw [s2] at h; exact absurd h (step_err s2)
      | inr c2 =>
        rw [s2] at h
        simp only at h
        have hone2 := step_one (step_one hone s1) s2
        have key : ∃ σ d1 d2, step ts k cs y = .inr d1 ∧ step ts (k + 1) d1 x = .inr d2 ∧ Tw k σ c2 d2 := by
          by_cases hx : x.kind = 0
          · by_cases hy : y.kind = 0
            · exact ⟨_, swap_ee hone ht hw hx hy s1 s2⟩
            · exact ⟨_, swap_ec hone ht hw hx hy s1 s2⟩
          · by_cases hy : y.kind = 0
            · exact ⟨_, swap_ce hone ht hw hx hy s1 s2⟩
            · exact ⟨_, swap_cc ht hw hx hy s1 s2⟩
        obtain ⟨σ, d1, d2, t1, t2, tw⟩ := key
        obtain ⟨r1, r2⟩ := Tw.run b (k + 1 + 1) c2 d2 tw hone2 (by omega) h
        have hX : run ts k cs (x :: y :: b) = run ts (k + 1 + 1) c2 b := by
          rw [run, s1]
          simp only
          rw [run, s2]
        have hY : run ts k cs (y :: x :: b) = run ts (k + 1 + 1) d2 b := by
          rw [run, t1]
          simp only
          rw [run, t2]
        rw [hX, hY]
        refine ⟨r1, σ, r2, fun hx => ?_, fun hy => ?_⟩
        · refine run_noFrm b _ _ ?_ (by omega) h
          refine NoFrm.step (NoFrm.step (fun c hc => ?_) (.inr hx) s1) (.inl (by omega)) s2
          have := (ht c hc).2.1
          omega
        · refine run_noTil (by omega) b _ _ ?_ (by omega) h
          refine NoTil.step (NoTil.step (fun c hc => ?_) (by omega) (.inl (by omega)) s1) (by omega) (.inr hy) s2
          have := (ht c hc).1
          omega
  · rw [if_neg h0] at h
    exact absurd h h0

/-! ### Right orders of both -/
/-- The same calls in other places: a right order is one, if no one is ahead who was not. -/
theorem Rite.ren {ts : List Int} {cs ds : List Cl} {σ : Nat → Nat} (hlen : ds.length = cs.length) (hinv : ∀ i, σ (σ i) = i) (hrng : ∀ i, i < cs.length → σ i < cs.length)
    (hat : ∀ i, i < cs.length → (ds.getD (σ i) default).thing = (cs.getD i default).thing ∧ (ds.getD (σ i) default).kind = (cs.getD i default).kind ∧ (ds.getD (σ i) default).arg = (cs.getD i default).arg ∧ (ds.getD (σ i) default).res = (cs.getD i default).res ∧ ((ds.getD (σ i) default).til = -1 ↔ (cs.getD i default).til = -1))
    (hah : ∀ i j, i < cs.length → j < cs.length → aheadB ds (σ i) (σ j) = true → aheadB cs i j = true) {ws : List (Int × Int)} (h : Rite ts cs ws) : Rite ts ds (ws.map fun x => ((σ x.1.toNat : Nat), x.2)) := by
  have hac : ∀ x ∈ ws, atC ds ((σ x.1.toNat : Nat), x.2) = ds.getD (σ x.1.toNat) default := fun x hx => by unfold atC; rw [Int.toNat_natCast]
  have hfst : (ws.map fun x => (((σ x.1.toNat : Nat) : Int), x.2)).map (·.1) = (ws.map (·.1)).map fun k => ((σ k.toNat : Nat) : Int) := by rw [List.map_map, List.map_map]; rfl
  have hmem : ∀ (i : Nat) (l : List (Int × Int)), ((σ i : Nat) : Int) ∈ l.map (·.1) → (i : Int) ∈ (l.map fun x => (((σ x.1.toNat : Nat) : Int), x.2)).map (·.1) := fun i l hm => by
    obtain ⟨x, hx, e⟩ := List.mem_map.1 hm
    refine List.mem_map.2 ⟨_, List.mem_map.2 ⟨x, hx, rfl⟩, ?_⟩
    show ((σ x.1.toNat : Nat) : Int) = i
    rw [e, Int.toNat_natCast, hinv]
  refine ⟨fun y hy => ?_, ?_, fun y hy ht => ?_, fun i hi ht => ?_, fun i j hi hj ha a y b e ey => ?_, fun t ht => ?_⟩
  · obtain ⟨x, hx, rfl⟩ := List.mem_map.1 hy
    have h1 := h.rng x hx
    have h2 := hrng x.1.toNat (by omega)
    exact ⟨by show (0 : Int) ≤ (σ x.1.toNat : Nat); omega, by show ((σ x.1.toNat : Nat) : Int) < _; omega⟩
  · rw [hfst]
    have h3 := h.once
    have : ∀ l : List Int, (∀ k ∈ l, 0 ≤ k) → l.Nodup → (l.map fun k => ((σ k.toNat : Nat) : Int)).Nodup := by
      intro l
      induction l with
      | nil => intro _ _; exact List.nodup_nil
      | cons k r ih =>
        intro hl hn
        rw [List.nodup_cons] at hn
        rw [List.map_cons, List.nodup_cons]
        refine ⟨fun hm => ?_, ih (fun z hz => hl z (List.mem_cons_of_mem _ hz)) hn.2⟩
        obtain ⟨z, hz, e⟩ := List.mem_map.1 hm
        have e2 : σ (σ z.toNat) = σ (σ k.toNat) := congrArg σ (by omega)
        rw [hinv, hinv] at e2
        have h4 := hl z (List.mem_cons_of_mem _ hz)
        have h5 := hl k List.mem_cons_self
        have : z = k := by omega
        subst this
        exact hn.1 hz
    refine this _ (fun k hk => ?_) h3
    obtain ⟨x, hx, rfl⟩ := List.mem_map.1 hk
    exact (h.rng x hx).1
  · obtain ⟨x, hx, rfl⟩ := List.mem_map.1 hy
    have h1 := h.rng x hx
    have h2 := hat x.1.toNat (by omega)
    rw [hac x hx] at ht ⊢
    rw [h2.2.2.2.1]
    exact h.res x hx (fun e => ht (h2.2.2.2.2.2 e))
  · have hi2 := hrng i (by omega)
    have h2 := hat (σ i) hi2
    rw [hinv] at h2
    exact hmem i ws (h.all (σ i) hi2 (fun e => ht (h2.2.2.2.2.2 e)))
  · obtain ⟨a', r, e1, e2, e3⟩ := List.map_eq_append_iff.1 e
    obtain ⟨x, b', e4, e5, e6⟩ := List.map_eq_cons_iff.1 e3
    subst e4
    have hx : x ∈ ws := by rw [e1]; simp
    have h1 := h.rng x hx
    have hxj : σ x.1.toNat = j := by rw [← e5] at ey; exact Int.ofNat.inj ey
    have hj2 : x.1.toNat = σ j := by rw [← hxj, hinv]
    have ha2 := hah (σ i) (σ j) (hrng i (by omega)) (hrng j (by omega)) (by rw [hinv, hinv]; exact ha)
    have := h.ord (σ i) (σ j) (hrng i (by omega)) (hrng j (by omega)) ha2 a' x b' e1 (by omega)
    rw [← e2]
    exact hmem i a' this
  · have h1 := h.goes t ht
    have : ∀ l : List (Int × Int), (∀ x ∈ l, 0 ≤ x.1 ∧ x.1 < cs.length) → ownD ds t (l.map fun x => (((σ x.1.toNat : Nat) : Int), x.2)) = ownD cs t l := by
      intro l
      induction l with
      | nil => intro _; rfl
      | cons x r ih =>
        intro hl
        have h2 := hl x List.mem_cons_self
        have h3 := hat x.1.toNat (by omega)
        rw [List.map_cons, ownD_cons, ownD_cons, ih (fun y hy => hl y (List.mem_cons_of_mem _ hy))]
        unfold ddC
        have e1 : atC ds (((σ x.1.toNat : Nat) : Int), x.2) = ds.getD (σ x.1.toNat) default := by unfold atC; rw [Int.toNat_natCast]
        have e2 : atC cs x = cs.getD x.1.toNat default := rfl
        rw [e1, e2, h3.1, h3.2.1, h3.2.2.1]
    rw [this ws h.rng]
    exact h1
theorem Tw.same {k : Nat} {σ : Nat → Nat} {cs ds : List Cl} (h : Tw k σ cs ds) {i : Nat} (hi : i < cs.length) : (ds.getD (σ i) default).thing = (cs.getD i default).thing ∧ (ds.getD (σ i) default).kind = (cs.getD i default).kind ∧ (ds.getD (σ i) default).arg = (cs.getD i default).arg ∧ (ds.getD (σ i) default).res = (cs.getD i default).res ∧ ((ds.getD (σ i) default).til = -1 ↔ (cs.getD i default).til = -1) := by
  rw [h.at_ i hi]
  exact ⟨rfl, rfl, rfl, rfl, sw_none⟩
/-- With an answer that comes later, or a call that comes sooner. -/
theorem later_rite {ts : List Int} {a b : List Ev} {x y : Ev} (hw : x.who ≠ y.who) (hxy : ¬ (x.kind ≠ 0 ∧ y.kind = 0)) (h0 : (callsOf ts (a ++ x :: y :: b)).2.2 = 0) {ws : List (Int × Int)} (h : Rite ts (callsOf ts (a ++ x :: y :: b)).1 ws) :
    (callsOf ts (a ++ y :: x :: b)).2.2 = 0 ∧ (callsOf ts (a ++ y :: x :: b)).1.length = (callsOf ts (a ++ x :: y :: b)).1.length ∧ ∃ ws', Rite ts (callsOf ts (a ++ y :: x :: b)).1 ws' := by
  obtain ⟨hb, hl, e⟩ := calls_zero h0
  have e2 : callsOf ts (a ++ y :: x :: b) = run ts 0 [] (a ++ y :: x :: b) := by
    unfold callsOf
    rw [hb, if_neg (by decide), if_neg (by simp at hl ⊢; omega)]
  rw [e] at h0 h ⊢
  rw [e2]
  obtain ⟨r1, σ, tw, r2, r3⟩ := swap_run hw h0
  refine ⟨r1, tw.len, _, Rite.ren tw.len tw.inv (fun i hi => tw.rng hi) (fun i hi => tw.same hi) (fun i j hi hj ha => ?_) h⟩
  unfold aheadB at ha ⊢
  rw [decide_eq_true_iff] at ha ⊢
  rw [tw.at_ i hi, tw.at_ j hj] at ha
  unfold ret at ha
  simp only at ha
  obtain ⟨a1, a2⟩ := ha
  refine ⟨fun e => a1 (sw_none.2 e), ?_⟩
  have mi := List.mem_of_getElem? (getD_some hi)
  have mj := List.mem_of_getElem? (getD_some hj)
  have key : ¬ (((run ts 0 [] (a ++ x :: y :: b)).1.getD i default).til = (a.length : Int) + 1 ∧ ((run ts 0 [] (a ++ x :: y :: b)).1.getD j default).frm = (a.length : Int)) := by
    rintro ⟨k1, k2⟩
    by_cases hx : x.kind = 0
    · exact r2 hx _ mj k2
    · by_cases hy : y.kind = 0
      · exact hxy ⟨hx, hy⟩
      · exact r3 hy _ mi (by rw [k1]; rfl)
  unfold sw at a2
  revert a2
  (repeat' split) <;> omega
end Go.Proofs.YtecpjeililiafaaDoor
