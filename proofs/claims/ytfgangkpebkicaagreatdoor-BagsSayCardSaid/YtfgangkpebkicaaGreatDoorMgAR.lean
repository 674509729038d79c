/-
  Joined by a program out of: SwapPure, NodupLt, NeverPure, LocalPure, PartCalls.
-/
import Derived.Test.YtfgangkpebkicaaGreatDoorMgAQ
import Derived.Test.YtfgangkpebkicaaGreatDoorProg
import Derived.WalkKit

/-
  Plain: two events that follow each other, of unlike people, exchanged: the calls are the same, but for their times and, of two calls, their places.
-/
namespace Go.Proofs.YtfgangkpebkicaaGreatDoor
open Go.RowKit
set_option maxRecDepth 20000
/-- Times k and k + 1 exchanged. -/
def sw (k : Nat) (t : Int) : Int := if t = (k : Int) then (k : Int) + 1 else if t = (k : Int) + 1 then (k : Int) else t
def ret (k : Nat) (c : Cl) : Cl := { c with frm := sw k c.frm, til := sw k c.til }
theorem sw_sw (k : Nat) (t : Int) : sw k (sw k t) = t := by unfold sw; (repeat' split) <;> omega
theorem sw_far {k : Nat} {t : Int} (h1 : t ≠ (k : Int)) (h2 : t ≠ (k : Int) + 1) : sw k t = t := by unfold sw; rw [if_neg h1, if_neg h2]
theorem sw_none {k : Nat} {t : Int} : sw k t = -1 ↔ t = -1 := by unfold sw; (repeat' split) <;> omega
theorem ret_ret (k : Nat) (c : Cl) : ret k (ret k c) = c := by unfold ret; rw [sw_sw, sw_sw]
theorem ret_old {k : Nat} {c : Cl} (h1 : c.frm < k) (h2 : c.til < k) : ret k c = c := by
  unfold ret
  rw [sw_far (by omega) (by omega), sw_far (by omega) (by omega)]
/-- The same calls, but for times k and k + 1, and for their places. -/
structure Tw (k : Nat) (σ : Nat → Nat) (cs ds : List Cl) : Prop where
  len : ds.length = cs.length
  inv : ∀ i, σ (σ i) = i
  fix : ∀ i, cs.length ≤ i → σ i = i
  at_ : ∀ i, i < cs.length → ds.getD (σ i) default = ret k (cs.getD i default)
theorem Tw.rng {k : Nat} {σ : Nat → Nat} {cs ds : List Cl} (h : Tw k σ cs ds) {i : Nat} (hi : i < cs.length) : σ i < cs.length := by
  apply Classical.byContradiction
  intro hn
  have h1 := h.fix (σ i) (by omega)
  rw [h.inv] at h1
  omega
theorem Tw.symm {k : Nat} {σ : Nat → Nat} {cs ds : List Cl} (h : Tw k σ cs ds) : Tw k σ ds cs := by
  refine ⟨h.len.symm, h.inv, fun i hi => h.fix i (by rw [← h.len]; exact hi), fun i hi => ?_⟩
  have h1 := h.at_ (σ i) (h.rng (by rw [← h.len]; exact hi))
  rw [h.inv] at h1
  rw [h1, ret_ret]
theorem OneOpen.tw {k : Nat} {σ : Nat → Nat} {cs ds : List Cl} (h : Tw k σ cs ds) (h1 : OneOpen cs) : OneOpen ds := by
  intro i j c d hc hd hw tc td
  have hi := (List.getElem?_eq_some_iff.1 hc).1
  have hj := (List.getElem?_eq_some_iff.1 hd).1
  have ei := h.symm.at_ i hi
  have ej := h.symm.at_ j hj
  have hic := h.symm.rng hi
  have hjc := h.symm.rng hj
  rw [h.len] at hi hj hic hjc
  rw [List.getD_eq_getElem?_getD (l := ds), hc] at ei
  rw [List.getD_eq_getElem?_getD (l := ds), hd] at ej
  have := h1 (σ i) (σ j) _ _ (getD_some hic) (getD_some hjc) (by rw [ei, ej]; exact hw) (by rw [ei]; exact sw_none.2 tc) (by rw [ej]; exact sw_none.2 td)
  have e := congrArg σ this
  rw [h.inv, h.inv] at e
  exact e
/-- Who has a call open has the same one open. -/
theorem Tw.open_ {k : Nat} {σ : Nat → Nat} {cs ds : List Cl} (h : Tw k σ cs ds) (h1 : OneOpen cs) (who : Int) : (openOf cs who < 0 ∧ openOf ds who < 0) ∨ ∃ i, i < cs.length ∧ openOf cs who = (i : Int) ∧ openOf ds who = (σ i : Nat) ∧ (cs.getD i default).til = -1 := by
  have h2 := OneOpen.tw h h1
  by_cases hc : openOf cs who < 0
  · left
    refine ⟨hc, ?_⟩
    apply Classical.byContradiction
    intro hd
    obtain ⟨d, e1, e2, e3, e4⟩ := openOf_at (cs := ds) (who := who) (by omega)
    have ei := h.symm.at_ _ e4
    rw [List.getD_eq_getElem?_getD (l := ds), e1] at ei
    have hlt := h.symm.rng e4
    rw [h.len] at hlt
    exact openOf_none hc (getD_some hlt) (by rw [ei]; exact e2) (by rw [ei]; exact sw_none.2 e3)
  · right
    obtain ⟨c, e1, e2, e3, e4⟩ := openOf_at (cs := cs) (who := who) (by omega)
    have ei := h.at_ _ e4
    have hg : cs.getD (openOf cs who).toNat default = c := by rw [List.getD_eq_getElem?_getD, e1]; rfl
    rw [hg] at ei
    refine ⟨(openOf cs who).toNat, e4, by omega, ?_, by rw [hg]; exact e3⟩
    exact (openOf_iff h2).2 ⟨_, getD_some (by rw [h.len]; exact h.rng e4), by rw [ei]; exact e2, by rw [ei]; exact sw_none.2 e3⟩
theorem getD_set {cs : List Cl} {i j : Nat} {c : Cl} (hi : i < cs.length) : (cs.set i c).getD j default = if i = j then c else cs.getD j default := by
  rw [List.getD_eq_getElem?_getD, List.getElem?_set]
  split
  · rfl
  · rw [List.getD_eq_getElem?_getD]
theorem getD_snoc {cs : List Cl} {j : Nat} {c : Cl} : (cs ++ [c]).getD j default = if j < cs.length then cs.getD j default else if j = cs.length then c else default := by
  rw [List.getD_eq_getElem?_getD, List.getElem?_append]
  split
  · rw [List.getD_eq_getElem?_getD]
  · split
    · rename_i h1 h2; subst h2; rw [Nat.sub_self]; rfl
    · rw [List.getElem?_eq_none (by simp; omega)]; rfl
theorem Tw.set {k : Nat} {σ : Nat → Nat} {cs ds : List Cl} (h : Tw k σ cs ds) {i : Nat} (hi : i < cs.length) {c d : Cl} (hd : d = ret k c) : Tw k σ (cs.set i c) (ds.set (σ i) d) := by
  have hr := h.rng hi
  refine ⟨by rw [List.length_set, List.length_set, h.len], h.inv, fun j hj => h.fix j (by rw [List.length_set] at hj; exact hj), fun j hj => ?_⟩
  rw [List.length_set] at hj
  rw [getD_set (by rw [h.len]; exact hr), getD_set hi]
  by_cases e : i = j
  · subst e
    rw [if_pos rfl, if_pos rfl, hd]
  · rw [if_neg e, if_neg (fun e2 => e (by have := congrArg σ e2; rw [h.inv, h.inv] at this; exact this))]
    exact h.at_ j hj
theorem Tw.snoc {k : Nat} {σ : Nat → Nat} {cs ds : List Cl} (h : Tw k σ cs ds) {c d : Cl} (hd : d = ret k c) : Tw k σ (cs ++ [c]) (ds ++ [d]) := by
  refine ⟨by rw [List.length_append, List.length_append, h.len]; rfl, h.inv, fun j hj => h.fix j (by rw [List.length_append] at hj; simp at hj; omega), fun j hj => ?_⟩
  rw [List.length_append] at hj
  simp at hj
  rw [getD_snoc, getD_snoc, h.len]
  by_cases e : j < cs.length
  · rw [if_pos e, if_pos (h.rng e)]
    exact h.at_ j e
  · have : j = cs.length := by omega
    subst this
    rw [h.fix _ (Nat.le_refl _), if_neg (Nat.lt_irrefl _), if_neg (Nat.lt_irrefl _), if_pos rfl, if_pos rfl, hd]
theorem Tw.step {ts : List Int} {k n : Nat} {σ : Nat → Nat} {cs ds cs' : List Cl} {x : Ev} (h : Tw k σ cs ds) (h1 : OneOpen cs) (hn : k + 2 ≤ n) (hs : step ts n cs x = .inr cs') : ∃ ds', Go.Proofs.YtfgangkpebkicaaGreatDoor.step ts n ds x = .inr ds' ∧ Tw k σ cs' ds' := by
  have hwf : sw k (n : Int) = (n : Int) := sw_far (by omega) (by omega)
  unfold Go.Proofs.YtfgangkpebkicaaGreatDoor.step at hs ⊢
  split at hs
  · cases hs
  · rename_i hr
    rw [if_neg hr]
    split at hs
    · rename_i hk
      rw [if_pos hk]
      unfold respS at hs ⊢
      rcases h.open_ h1 x.who with ⟨o1, o2⟩ | ⟨i, hi, o1, o2, o3⟩
      · rw [if_pos o1] at hs; cases hs
      · rw [if_neg (by omega), o1, Int.toNat_natCast] at hs
        rw [if_neg (by omega), o2, Int.toNat_natCast, h.at_ i hi]
        split at hs
        · cases hs
        · rename_i hg
          injection hs with hs
          subst hs
          rw [if_neg (show ¬ ((ret k (cs.getD i default)).thing ≠ x.thing ∨ givesB (ret k (cs.getD i default)).kind x.val = false) from hg)]
          refine ⟨_, rfl, h.set hi ?_⟩
          unfold ret
          simp only
          rw [hwf]
    · rename_i hk
      rw [if_neg hk]
      unfold invS at hs ⊢
      split at hs
      · cases hs
      · rename_i hg
        rw [if_neg hg]
        rcases h.open_ h1 x.who with ⟨o1, o2⟩ | ⟨i, hi, o1, o2, o3⟩
        · rw [if_neg (by omega)] at hs ⊢
          injection hs with hs
          subst hs
          refine ⟨_, rfl, h.snoc ?_⟩
          unfold ret
          simp only
          rw [hwf, sw_far (by omega) (by omega)]
        · rw [if_pos (by omega)] at hs; cases hs
theorem step_one {ts : List Int} {n : Nat} {cs cs' : List Cl} {x : Ev} (h1 : OneOpen cs) (hs : step ts n cs x = .inr cs') : OneOpen cs' := by
  rcases step_K (ts := ts) (n := n) (x := x) h1 with ⟨e, h2, _⟩ | ⟨d, h2, h3, _⟩
  · rw [h2] at hs; cases hs
  · rw [h2] at hs; injection hs with hs; subst hs; exact h3
theorem Tw.run {ts : List Int} {k : Nat} {σ : Nat → Nat} : ∀ (l : List Ev) (n : Nat) (cs ds : List Cl), Tw k σ cs ds → OneOpen cs → k + 2 ≤ n → (run ts n cs l).2.2 = 0 → (Go.Proofs.YtfgangkpebkicaaGreatDoor.run ts n ds l).2.2 = 0 ∧ Tw k σ (Go.Proofs.YtfgangkpebkicaaGreatDoor.run ts n cs l).1 (Go.Proofs.YtfgangkpebkicaaGreatDoor.run ts n ds l).1
  | [], _, _, _, h, _, _, _ => ⟨rfl, h⟩
  | x :: r, n, cs, ds, h, h1, hn, h0 => by
    rw [Go.Proofs.YtfgangkpebkicaaGreatDoor.run] at h0
    rw [Go.Proofs.YtfgangkpebkicaaGreatDoor.run, Go.Proofs.YtfgangkpebkicaaGreatDoor.run]
    cases hs : Go.Proofs.YtfgangkpebkicaaGreatDoor.step ts n cs x with
    | inl e => rw [hs] at h0; exact absurd h0 (step_err hs)
    | inr cs' =>
      rw [hs] at h0
      obtain ⟨ds', e1, e2⟩ := h.step h1 hn hs
      rw [e1]
      simp only at h0 ⊢
      exact Tw.run r (n + 1) cs' ds' e2 (step_one h1 hs) (by omega) h0
theorem Tw.refl {k : Nat} {cs : List Cl} (h : Tidy k cs) : Tw k id cs cs := by
  refine ⟨rfl, fun _ => rfl, fun _ _ => rfl, fun i hi => ?_⟩
  have := h _ (List.mem_of_getElem? (getD_some hi))
  exact (ret_old this.2.1 this.1).symm
/-- No call begins at k; none is answered at k. -/
def NoFrm (k : Int) (cs : List Cl) : Prop := ∀ c ∈ cs, c.frm ≠ k
def NoTil (k : Int) (cs : List Cl) : Prop := ∀ c ∈ cs, c.til ≠ k
theorem NoFrm.step {ts : List Int} {n : Nat} {k : Int} {cs cs' : List Cl} {x : Ev} (h : NoFrm k cs) (hn : (n : Int) ≠ k ∨ x.kind = 0) (hs : step ts n cs x = .inr cs') : NoFrm k cs' := by
  intro c hc
  rcases step_ways hs with ⟨_, i, hi, _, _, _, rfl, _⟩ | ⟨hk, _, rfl, _⟩
  · rcases List.mem_or_eq_of_mem_set hc with hc | rfl
    · exact h c hc
    · exact (show (cs.getD i default).frm ≠ k from h _ (List.mem_of_getElem? (getD_some hi)))
  · rcases List.mem_append.1 hc with hc | hc
    · exact h c hc
    · rw [List.mem_singleton] at hc
      subst hc
      rcases hn with hn | hn
      · exact hn
      · exact absurd hn hk
theorem NoTil.step {ts : List Int} {n : Nat} {k : Int} {cs cs' : List Cl} {x : Ev} (h : NoTil k cs) (hk0 : k ≠ -1) (hn : (n : Int) ≠ k ∨ x.kind ≠ 0) (hs : step ts n cs x = .inr cs') : NoTil k cs' := by
  intro c hc
  rcases step_ways hs with ⟨hk, i, hi, _, _, _, rfl, _⟩ | ⟨hk, _, rfl, _⟩
  · rcases List.mem_or_eq_of_mem_set hc with hc | rfl
    · exact h c hc
    · rcases hn with hn | hn
      · exact hn
      · exact absurd hk hn
  · rcases List.mem_append.1 hc with hc | hc
    · exact h c hc
    · rw [List.mem_singleton] at hc
      subst hc
      exact fun e => hk0 e.symm
theorem Tw.same {k : Nat} {σ : Nat → Nat} {cs ds : List Cl} (h : Tw k σ cs ds) {i : Nat} (hi : i < cs.length) : (ds.getD (σ i) default).thing = (cs.getD i default).thing ∧ (ds.getD (σ i) default).kind = (cs.getD i default).kind ∧ (ds.getD (σ i) default).arg = (cs.getD i default).arg ∧ (ds.getD (σ i) default).res = (cs.getD i default).res ∧ ((ds.getD (σ i) default).til = -1 ↔ (cs.getD i default).til = -1) := by
  rw [h.at_ i hi]
  exact ⟨rfl, rfl, rfl, rfl, sw_none⟩
end Go.Proofs.YtfgangkpebkicaaGreatDoor

/-
  Plain: unlike numbers below n are at most n.
-/
namespace Go.Proofs.YtfgangkpebkicaaGreatDoor
set_option maxRecDepth 20000
/-- Unlike numbers below n: at most n. -/
theorem nodup_lt : ∀ (n : Nat) {l : List Int}, l.Nodup → (∀ k ∈ l, 0 ≤ k ∧ k < (n : Int)) → l.length ≤ n
  | 0, l, _, h => by
    cases l with
    | nil => exact Nat.le_refl _
    | cons k r => have := h k List.mem_cons_self; omega
  | n + 1, l, hn, h => by
    by_cases hm : (n : Int) ∈ l
    · have h1 := nodup_lt n (l := l.erase (n : Int)) (hn.erase _) (fun k hk => by
        rw [hn.mem_erase_iff] at hk
        have := h k hk.2
        omega)
      rw [List.length_erase_of_mem hm] at h1
      omega
    · have h1 := nodup_lt n (l := l) hn (fun k hk => by
        have := h k hk
        have : k ≠ (n : Int) := fun e => hm (e ▸ hk)
        omega)
      omega
end Go.Proofs.YtfgangkpebkicaaGreatDoor

/-
  Plain: a call that was not answered can be answered so that there is a right order still; of one alone.
-/
namespace Go.Proofs.YtfgangkpebkicaaGreatDoor
open Go.RowKit
set_option maxRecDepth 20000
/-- A state after m steps: it has room. -/
structure Room (typ : Int) (m : Nat) (s : List Int) : Prop where
  ok : stateE typ s = 0
  len : s.length ≤ m + 1
  one : typ = 5 → s.getD 0 0 ≤ m
theorem Room.next {typ : Int} {m : Nat} {s : List Int} {kind arg : Int} (h : Room typ m s) (he : (stepO typ s kind arg).2.2 = 0) : Room typ (m + 1) (stepO typ s kind arg).1 := by
  obtain ⟨h1, h2, h3, h4⟩ := stepO_ok he
  refine ⟨h1, by have := h.len; omega, fun ht => ?_⟩
  obtain ⟨_, hi, e⟩ := stepO_of he
  obtain ⟨hf, _⟩ := Bool.and_eq_true_iff.1 hi
  have hk := (fits_ways hf).2.2.2.2 ht
  have h5 := h.one ht
  have e10 : stepped s 10 arg = if s.getD 0 0 = 1000 then ([], 0, 2) else ([s.getD 0 0 + 1], s.getD 0 0, 0) := rfl
  rw [hk] at e
  rw [hk, e, e10]
  split
  · show ([] : List Int).getD 0 0 ≤ _
    simp
    omega
  · show [s.getD 0 0 + 1].getD 0 0 ≤ _
    simp
    rw [List.getD_eq_getElem?_getD] at h5
    omega
theorem Room.run {typ : Int} : ∀ (l : List Dd) (m : Nat) (s : List Int), Room typ m s → goesB typ s l = true → Room typ (m + l.length) (stateFrom typ s l)
  | [], m, s, h, _ => h
  | d :: r, m, s, h, hg => by
    rw [goes_cons] at hg
    have := Room.run r (m + 1) _ (h.next hg.1) hg.2.2
    rw [List.length_cons, show m + (r.length + 1) = m + 1 + r.length by omega]
    exact this
theorem Room.step {typ : Int} {m : Nat} {s : List Int} (h : Room typ m s) (hm : m < 40) {kind arg : Int} (hf : fitsB typ kind = true) (hk : takesB kind arg = true) : (stepO typ s kind arg).2.2 = 0 := by
  unfold stepO
  rw [if_neg (by rw [h.ok]; decide), hf, hk, if_neg (by decide)]
  have hlen := h.len
  have hfit := fits_ways hf
  have hfk := fits_kind hf
  have h50 : s.length ≠ 50 := by omega
  have hone : kind = 10 → s.getD 0 0 ≠ 1000 := fun e => by
    have ht : typ = 5 := by
      obtain ⟨k1, k2, k3, k4, k5⟩ := hfit
      omega
    have := h.one ht
    omega
  unfold stepped
  (repeat' split) <;> first | rfl | (exfalso; rename_i hx; exact h50 hx) | (exfalso; rename_i hx _ hy; exact hone hx hy) | (exfalso; rename_i hx hy; exact hone hx hy)
end Go.Proofs.YtfgangkpebkicaaGreatDoor

/-
  Plain: locality. A right order of the whole is, thing by thing, a right order of each part; and right orders of the parts are joined to one of the whole (Herlihy, Wing).
-/
namespace Go.Proofs.YtfgangkpebkicaaGreatDoor
open Go.RowKit
set_option maxRecDepth 20000
/-- A right order of what thing t was asked, with the numbers of the whole. -/
structure RiteT (ts : List Int) (cs : List Cl) (t : Nat) (w : List (Int × Int)) : Prop where
  rng : ∀ x ∈ w, 0 ≤ x.1 ∧ x.1 < cs.length
  own : ∀ x ∈ w, (atC cs x).thing.toNat = t
  once : (w.map (·.1)).Nodup
  res : ∀ x ∈ w, (atC cs x).til ≠ -1 → (atC cs x).res = x.2
  all : ∀ i, i < cs.length → (cs.getD i default).thing.toNat = t → (cs.getD i default).til ≠ -1 → (i : Int) ∈ w.map (·.1)
  ord : ∀ i j, i < cs.length → j < cs.length → (cs.getD i default).thing.toNat = t → aheadB cs i j = true → ∀ a y b, w = a ++ y :: b → y.1 = (j : Int) → (i : Int) ∈ a.map (·.1)
  goes : goesB (ts.getD t 0) (beginL (ts.getD t 0)) (w.map (ddC cs)) = true
/-- The steps of thing t. -/
def ownW (cs : List Cl) (t : Nat) (ws : List (Int × Int)) : List (Int × Int) := ws.filter fun x => (atC cs x).thing.toNat == t
theorem ownW_mem {cs : List Cl} {t : Nat} {ws : List (Int × Int)} {x : Int × Int} : x ∈ ownW cs t ws ↔ x ∈ ws ∧ (atC cs x).thing.toNat = t := by
  unfold ownW
  rw [List.mem_filter, beq_iff_eq]
theorem atC_of {cs : List Cl} {x : Int × Int} {i : Nat} (h : x.1 = (i : Int)) : atC cs x = cs.getD i default := by unfold atC; rw [h]; rfl
theorem filter_split {α : Type} {p : α → Bool} : ∀ {l a : List α} {y : α} {b : List α}, l.filter p = a ++ y :: b → ∃ a' b', l = a' ++ y :: b' ∧ a'.filter p = a
  | [], a, y, b, h => by
    cases a <;> cases h
  | z :: l, a, y, b, h => by
    rw [List.filter_cons] at h
    split at h
    · cases a with
      | nil =>
        injection h with h1 h2
        exact ⟨[], l, by rw [h1]; rfl, rfl⟩
      | cons c a =>
        injection h with h1 h2
        obtain ⟨a', b', e1, e2⟩ := filter_split h2
        subst h1
        refine ⟨z :: a', b', by rw [e1]; rfl, ?_⟩
        rename_i hz
        rw [List.filter_cons, if_pos hz, e2]
    · obtain ⟨a', b', e1, e2⟩ := filter_split h
      rename_i hz
      refine ⟨z :: a', b', by rw [e1]; rfl, ?_⟩
      rw [List.filter_cons, if_neg hz, e2]
/-- Thing by thing a right order is right. -/
theorem Rite.part {ts : List Int} {cs : List Cl} {ws : List (Int × Int)} (h : Rite ts cs ws) {t : Nat} (ht : t < ts.length) : RiteT ts cs t (ownW cs t ws) where
  rng x hx := h.rng x (ownW_mem.1 hx).1
  own x hx := (ownW_mem.1 hx).2
  once := h.once.sublist ((List.filter_sublist).map _)
  res x hx := h.res x (ownW_mem.1 hx).1
  all i hi hth hti := by
    obtain ⟨x, hx, e⟩ := List.mem_map.1 (h.all i hi hti)
    exact List.mem_map.2 ⟨x, ownW_mem.2 ⟨hx, by rw [atC_of e]; exact hth⟩, e⟩
  ord i j hi hj hth ha a y b hs hy := by
    obtain ⟨a', b', e1, e2⟩ := filter_split hs
    obtain ⟨x, hx, e⟩ := List.mem_map.1 (h.ord i j hi hj ha a' y b' e1 hy)
    refine List.mem_map.2 ⟨x, ?_, e⟩
    rw [← e2, List.mem_filter]
    exact ⟨hx, by rw [beq_iff_eq, atC_of e]; exact hth⟩
  goes := h.goes t ht
/-- What keeps 'ahead of' and is right thing by thing is right. -/
theorem rite_join {ts : List Int} {cs : List Cl} {ws : List (Int × Int)} (hth : ∀ c ∈ cs, 0 ≤ c.thing ∧ c.thing < ts.length) (hr : ∀ x ∈ ws, 0 ≤ x.1 ∧ x.1 < cs.length)
    (hp : ∀ t, t < ts.length → RiteT ts cs t (ownW cs t ws))
    (ho : ∀ i j, i < cs.length → j < cs.length → aheadB cs i j = true → ∀ a y b, ws = a ++ y :: b → y.1 = (j : Int) → (i : Int) ∈ a.map (·.1)) : Rite ts cs ws where
  rng := hr
  once := by
    have hpw : ∀ (l : List (Int × Int)), (∀ x ∈ l, x ∈ ws) → l.Sublist ws → (l.map (·.1)).Nodup := by
      intro l
      induction l with
      | nil => intro _ _; exact List.nodup_nil
      | cons x l ih =>
        intro hm hs
        rw [List.map_cons, List.nodup_cons]
        refine ⟨fun hx => ?_, ih (fun y hy => hm y (List.mem_cons_of_mem _ hy)) ((List.sublist_cons_self _ _).trans hs)⟩
        obtain ⟨y, hy, e⟩ := List.mem_map.1 hx
        have e2 : (atC cs y).thing.toNat = (atC cs x).thing.toNat := by unfold atC; rw [e]
        have ht := atC_thing hth (hr x (hm x (List.mem_cons_self ..)))
        have h1 := (hp (atC cs x).thing.toNat (by omega)).once
        have h2 : (ownW cs (atC cs x).thing.toNat (x :: l)).Sublist (ownW cs (atC cs x).thing.toNat ws) := hs.filter _
        have h3 := h1.sublist (h2.map (·.1))
        rw [show ownW cs (atC cs x).thing.toNat (x :: l) = x :: ownW cs (atC cs x).thing.toNat l by unfold ownW; rw [List.filter_cons, if_pos (by rw [beq_iff_eq])], List.map_cons, List.nodup_cons] at h3
        exact h3.1 (List.mem_map.2 ⟨y, ownW_mem.2 ⟨hy, e2⟩, e⟩)
    exact hpw ws (fun x h => h) (List.Sublist.refl _)
  res x hx := (hp _ (by have := atC_thing hth (hr x hx); omega)).res x (ownW_mem.2 ⟨hx, rfl⟩)
  all i hi hti := by
    have hm : cs.getD i default ∈ cs := by rw [List.getD_eq_getElem?_getD, List.getElem?_eq_getElem hi]; exact List.getElem_mem _
    have := hth _ hm
    obtain ⟨x, hx, e⟩ := List.mem_map.1 ((hp (cs.getD i default).thing.toNat (by omega)).all i hi rfl hti)
    exact List.mem_map.2 ⟨x, (ownW_mem.1 hx).1, e⟩
  ord := ho
  goes t ht := (hp t ht).goes
/-- Each step with the latest begin among it and those before it. -/
def tauF (cs : List Cl) : Int → List (Int × Int) → List (Int × (Int × Int))
  | _, [] => []
  | m, x :: r => (max m (atC cs x).frm, x) :: tauF cs (max m (atC cs x).frm) r
theorem tauF_map (cs : List Cl) : ∀ (w : List (Int × Int)) (m : Int), (tauF cs m w).map (·.2) = w
  | [], _ => rfl
  | x :: r, m => by rw [tauF, List.map_cons, tauF_map cs r]
theorem tauF_ge (cs : List Cl) : ∀ (w : List (Int × Int)) (m : Int), ∀ q ∈ tauF cs m w, m ≤ q.1
  | [], _, q, h => by cases h
  | x :: r, m, q, h => by
    rw [tauF, List.mem_cons] at h
    rcases h with rfl | h
    · simp only; omega
    · have := tauF_ge cs r _ q h
      omega
theorem tauF_up (cs : List Cl) : ∀ (w : List (Int × Int)) (m : Int), (tauF cs m w).Pairwise fun a b => decide (a.1 ≤ b.1) = true
  | [], _ => List.Pairwise.nil
  | x :: r, m => by
    rw [tauF, List.pairwise_cons]
    exact ⟨fun q hq => decide_eq_true (tauF_ge cs r _ q hq), tauF_up cs r _⟩
theorem tauF_at (cs : List Cl) : ∀ (w : List (Int × Int)) (m : Int), ∀ q ∈ tauF cs m w, ∃ a b, w = a ++ q.2 :: b ∧ (atC cs q.2).frm ≤ q.1 ∧ ∀ B, m ≤ B → (∀ y ∈ a, (atC cs y).frm ≤ B) → (atC cs q.2).frm ≤ B → q.1 ≤ B
  | [], _, q, h => by cases h
  | x :: r, m, q, h => by
    rw [tauF, List.mem_cons] at h
    rcases h with rfl | h
    · exact ⟨[], r, rfl, by simp only; omega, fun B h1 _ h3 => by simp only at h3 ⊢; omega⟩
    · obtain ⟨a, b, e, h1, h2⟩ := tauF_at cs r _ q h
      refine ⟨x :: a, b, by rw [e]; rfl, h1, fun B hB ha hq => h2 B ?_ (fun y hy => ha y (List.mem_cons_of_mem _ hy)) hq⟩
      have := ha x (List.mem_cons_self ..)
      omega
/-- The latest begin is no later than the step's own end. -/
theorem tauF_til {ts : List Int} {cs : List Cl} {t : Nat} {w : List (Int × Int)} (hw : RiteT ts cs t w) (he : ∀ c ∈ cs, c.til = -1 ∨ c.frm < c.til) (h0 : ∀ c ∈ cs, 0 ≤ c.frm) {q : Int × (Int × Int)} (hq : q ∈ tauF cs (-1) w) (hti : (atC cs q.2).til ≠ -1) : q.1 ≤ (atC cs q.2).til := by
  obtain ⟨a, b, e, _, h2⟩ := tauF_at cs w _ q hq
  have hm : q.2 ∈ w := by rw [e]; simp
  have hg : ∀ x ∈ w, atC cs x ∈ cs := fun x hx => by
    have := hw.rng x hx
    unfold atC
    rw [List.getD_eq_getElem?_getD, List.getElem?_eq_getElem (by omega : x.1.toNat < cs.length)]
    exact List.getElem_mem _
  have hend := he _ (hg _ hm)
  have hb := h0 _ (hg _ hm)
  refine h2 _ (by omega) (fun y hy => ?_) (by omega)
  refine Classical.byContradiction fun hlt => ?_
  have hyw : y ∈ w := by rw [e]; exact List.mem_append.2 (.inl hy)
  have r1 := hw.rng _ hm
  have r2 := hw.rng _ hyw
  obtain ⟨a1, b1, e1⟩ := List.append_of_mem hy
  have hah : aheadB cs q.2.1.toNat y.1.toNat = true := decide_eq_true ⟨hti, by unfold atC at hlt; omega⟩
  have h3 := hw.ord q.2.1.toNat y.1.toNat (by omega) (by omega) (hw.own _ hm) hah a1 y (b1 ++ q.2 :: b) (by rw [e, e1]; simp) (by omega)
  have hnd := hw.once
  rw [e, e1, List.map_append, List.map_append] at hnd
  obtain ⟨z, hz, ez⟩ := List.mem_map.1 h3
  have h4 := (List.nodup_append.1 hnd).2.2 z.1 (List.mem_append.2 (.inl (List.mem_map.2 ⟨z, hz, rfl⟩))) q.2.1 (by simp)
  exact h4 (by omega)
/-- All parts' steps, by time. -/
def joinT (cs : List Cl) (T : Nat) (w : Nat → List (Int × Int)) : List (Int × (Int × Int)) :=
  ((List.range T).flatMap fun t => tauF cs (-1) (w t)).mergeSort fun a b => decide (a.1 ≤ b.1)
theorem flat_one {α : Type} {f : Nat → List α} {t : Nat} (h : ∀ k, k ≠ t → f k = []) : ∀ T, (List.range T).flatMap f = if t < T then f t else []
  | 0 => by simp
  | T + 1 => by
    rw [List.range_succ, List.flatMap_append, flat_one h T, List.flatMap_cons, List.flatMap_nil, List.append_nil]
    by_cases e : T = t
    · subst e
      rw [if_neg (by omega), if_pos (by omega), List.nil_append]
    · rw [h T e, List.append_nil]
      by_cases h2 : t < T
      · rw [if_pos h2, if_pos (by omega)]
      · rw [if_neg h2, if_neg (by omega)]
theorem joinT_own {ts : List Int} {cs : List Cl} {w : Nat → List (Int × Int)} {T t : Nat} (hw : ∀ k, k < T → RiteT ts cs k (w k)) (ht : t < T) : ownW cs t ((joinT cs T w).map (·.2)) = w t := by
  have hin : ∀ k, k < T → ∀ q ∈ tauF cs (-1) (w k), (atC cs q.2).thing.toNat = k := fun k hk q hq => (hw k hk).own _ (by
    have : q.2 ∈ (tauF cs (-1) (w k)).map (·.2) := List.mem_map.2 ⟨q, hq, rfl⟩
    rwa [tauF_map] at this)
  have key : (joinT cs T w).filter (fun q => (atC cs q.2).thing.toNat == t) = tauF cs (-1) (w t) := by
    have hself : (tauF cs (-1) (w t)).filter (fun q => (atC cs q.2).thing.toNat == t) = tauF cs (-1) (w t) := List.filter_eq_self.2 fun q hq => by rw [beq_iff_eq]; exact hin t ht q hq
    have hflat : ((List.range T).flatMap fun k => tauF cs (-1) (w k)).filter (fun q => (atC cs q.2).thing.toNat == t) = tauF cs (-1) (w t) := by
      rw [List.filter_flatMap]
      have : (List.range T).flatMap (fun k => (tauF cs (-1) (w k)).filter (fun q => (atC cs q.2).thing.toNat == t)) = (List.range T).flatMap (fun k => if k = t then tauF cs (-1) (w t) else []) := by
        rw [List.flatMap_def, List.flatMap_def]
        refine congrArg List.flatten (List.map_congr_left fun k hk => ?_)
        have hk := List.mem_range.1 hk
        by_cases e : k = t
        · subst e; rw [if_pos rfl, hself]
        · rw [if_neg e, List.filter_eq_nil_iff]
          intro q hq
          rw [beq_iff_eq, hin k hk q hq]
          exact e
      rw [this, flat_one (t := t) (fun k hk => if_neg hk), if_pos ht, if_pos rfl]
    have hsub : (tauF cs (-1) (w t)).Sublist (joinT cs T w) := List.sublist_mergeSort (fun a b c h1 h2 => by simp only [decide_eq_true_eq] at *; omega) (fun a b => by simp only [Bool.or_eq_true, decide_eq_true_eq]; omega) (tauF_up cs _ _) (by
      refine List.sublist_flatten_of_mem ?_
      exact List.mem_map.2 ⟨t, List.mem_range.2 ht, rfl⟩)
    have h1 := hsub.filter (fun q => (atC cs q.2).thing.toNat == t)
    rw [hself] at h1
    refine (h1.eq_of_length ?_).symm
    have h2 := ((List.mergeSort_perm ((List.range T).flatMap fun k => tauF cs (-1) (w k)) (fun a b => decide (a.1 ≤ b.1))).filter (fun q => (atC cs q.2).thing.toNat == t)).length_eq
    rw [hflat] at h2
    exact h2.symm
  have h9 : ownW cs t ((joinT cs T w).map (·.2)) = ((joinT cs T w).filter (fun q => (atC cs q.2).thing.toNat == t)).map (·.2) := by
    unfold ownW
    rw [List.filter_map]
    rfl
  rw [h9, key, tauF_map]
theorem joinT_mem {cs : List Cl} {w : Nat → List (Int × Int)} {T : Nat} {q : Int × (Int × Int)} : q ∈ joinT cs T w ↔ ∃ t, t < T ∧ q ∈ tauF cs (-1) (w t) := by
  unfold joinT
  rw [(List.mergeSort_perm _ _).mem_iff, List.mem_flatMap]
  exact ⟨fun ⟨t, h1, h2⟩ => ⟨t, List.mem_range.1 h1, h2⟩, fun ⟨t, h1, h2⟩ => ⟨t, List.mem_range.2 h1, h2⟩⟩
/-- HERLIHY, WING: right orders of the parts can be joined to one of the whole, in which each part stands as it stood. -/
theorem local_join {ts : List Int} {cs : List Cl} (hth : ∀ c ∈ cs, 0 ≤ c.thing ∧ c.thing < ts.length) (he : ∀ c ∈ cs, c.til = -1 ∨ c.frm < c.til) (h0 : ∀ c ∈ cs, 0 ≤ c.frm)
    {w : Nat → List (Int × Int)} (hw : ∀ t, t < ts.length → RiteT ts cs t (w t)) : ∃ ws, Rite ts cs ws ∧ ∀ t, t < ts.length → ownW cs t ws = w t := by
  have hown := fun t ht => joinT_own hw (t := t) ht
  have hin : ∀ q ∈ joinT cs ts.length w, ∃ t, t < ts.length ∧ q ∈ tauF cs (-1) (w t) ∧ q.2 ∈ w t := fun q hq => by
    obtain ⟨t, ht, h1⟩ := joinT_mem.1 hq
    refine ⟨t, ht, h1, ?_⟩
    have : q.2 ∈ (tauF cs (-1) (w t)).map (·.2) := List.mem_map.2 ⟨q, h1, rfl⟩
    rwa [tauF_map] at this
  refine ⟨(joinT cs ts.length w).map (·.2), rite_join hth (fun x hx => ?_) (fun t ht => ?_) (fun i j hi hj ha a y b hs hy => ?_), hown⟩
  · obtain ⟨q, hq, rfl⟩ := List.mem_map.1 hx
    obtain ⟨t, ht, _, h2⟩ := hin q hq
    exact (hw t ht).rng _ h2
  · rw [hown t ht]
    exact hw t ht
  · obtain ⟨A, B, e1, e2, e3⟩ := List.map_eq_append_iff.1 hs
    obtain ⟨q, B', rfl, rfl, rfl⟩ := List.map_eq_cons_iff.1 e3
    have hah := of_decide_eq_true ha
    have hm : cs.getD i default ∈ cs := by rw [List.getD_eq_getElem?_getD, List.getElem?_eq_getElem hi]; exact List.getElem_mem _
    have hti := hth _ hm
    obtain ⟨x, hx, ex⟩ := List.mem_map.1 ((hw (cs.getD i default).thing.toNat (by omega)).all i hi rfl hah.1)
    have hx2 : x ∈ (tauF cs (-1) (w (cs.getD i default).thing.toNat)).map (·.2) := by rw [tauF_map]; exact hx
    obtain ⟨q1, hq1, rfl⟩ := List.mem_map.1 hx2
    have hj1 : q1 ∈ joinT cs ts.length w := joinT_mem.2 ⟨_, by omega, hq1⟩
    have hle := tauF_til (hw (cs.getD i default).thing.toNat (by omega)) he h0 hq1 (by rw [atC_of ex]; exact hah.1)
    rw [atC_of ex] at hle
    obtain ⟨t2, ht2, hq2, _⟩ := hin q (by rw [e1]; simp)
    obtain ⟨_, _, _, hge, _⟩ := tauF_at cs _ _ q hq2
    rw [atC_of hy] at hge
    have hlt : q1.1 < q.1 := by omega
    have hpw : (joinT cs ts.length w).Pairwise fun a b => decide (a.1 ≤ b.1) = true := List.pairwise_mergeSort (fun a b c h1 h2 => by simp only [decide_eq_true_eq] at *; omega) (fun a b => by simp only [Bool.or_eq_true, decide_eq_true_eq]; omega) _
    rw [e1] at hj1 hpw
    rcases List.mem_append.1 hj1 with h | h
    · rw [← e2]
      exact List.mem_map.2 ⟨q1.2, List.mem_map.2 ⟨q1, h, rfl⟩, ex⟩
    · exfalso
      rcases List.mem_cons.1 h with rfl | h
      · omega
      · have h5 := (List.pairwise_cons.1 (List.pairwise_append.1 hpw).2.1).1 q1 h
        have := of_decide_eq_true h5
        omega
/-- HERLIHY, WING: there is a right order of the whole just if there is one of each part. -/
theorem local_iff {ts : List Int} {cs : List Cl} (hth : ∀ c ∈ cs, 0 ≤ c.thing ∧ c.thing < ts.length) (he : ∀ c ∈ cs, c.til = -1 ∨ c.frm < c.til) (h0 : ∀ c ∈ cs, 0 ≤ c.frm) :
    (∃ ws, Rite ts cs ws) ↔ ∀ t, t < ts.length → ∃ w, RiteT ts cs t w := by
  constructor
  · rintro ⟨ws, h⟩ t ht
    exact ⟨_, h.part ht⟩
  · intro h
    have h2 : ∀ t, ∃ w, t < ts.length → RiteT ts cs t w := fun t => by
      by_cases ht : t < ts.length
      · obtain ⟨w, hw⟩ := h t ht
        exact ⟨w, fun _ => hw⟩
      · exact ⟨[], fun h => absurd h ht⟩
    obtain ⟨w, hw⟩ := Classical.axiomOfChoice h2
    obtain ⟨ws, h3, _⟩ := local_join hth he h0 hw
    exact ⟨ws, h3⟩
end Go.Proofs.YtfgangkpebkicaaGreatDoor

/-
  Plain: the calls of a thing's part are the thing's calls of the whole, with their times counted anew.
-/
namespace Go.Proofs.YtfgangkpebkicaaGreatDoor
open Go.RowKit
set_option maxRecDepth 20000
/-- A call with other times. -/
def retC (r : Int → Int) (c : Cl) : Cl := { c with frm := r c.frm, til := if c.til = -1 then -1 else r c.til }
/-- The calls of thing q, with other times. -/
def prt (r : Int → Int) (q : Int) (cs : List Cl) : List Cl := (cs.filter fun c => c.thing == q).map (retC r)
theorem retC_til {r : Int → Int} (hr : ∀ z, 0 ≤ r z) (c : Cl) : (retC r c).til = -1 ↔ c.til = -1 := by
  unfold retC
  simp only
  by_cases h : c.til = -1
  · rw [if_pos h]; exact ⟨fun _ => h, fun _ => rfl⟩
  · rw [if_neg h]
    have := hr c.til
    exact ⟨fun h2 => by omega, fun h2 => absurd h2 h⟩
end Go.Proofs.YtfgangkpebkicaaGreatDoor
