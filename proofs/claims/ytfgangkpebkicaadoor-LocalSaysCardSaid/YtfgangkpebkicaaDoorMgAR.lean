/-
  Joined by a program out of: SwapPure, NodupLt, NeverPure, PartCalls, LParts, LOpen.
-/
import Derived.Test.YtfgangkpebkicaaDoorMgAQ
import Derived.Test.YtfgangkpebkicaaDoorMgAH
import Derived.Test.YtfgangkpebkicaaDoorProg
import Derived.WalkKit
import Derived.Test.YtfgangkpebkicaaDoorMgAA
import Derived.Maps.RangeWalk

/-
  Plain: two events that follow each other, of unlike people, exchanged: the calls are the same, but for their times and, of two calls, their places.
-/
namespace Go.Proofs.YtfgangkpebkicaaDoor
open Go.RowKit
set_option maxRecDepth 20000
/-- Times k and k + 1 exchanged. -/
def sw (k : Nat) (t : Int) : Int := if t = (k : Int) then (k : Int) + 1 else if t = (k : Int) + 1 then (k : Int) else t
def ret (k : Nat) (c : Cl) : Cl := { c with frm := sw k c.frm, til := sw k c.til }
theorem sw_sw (k : Nat) (t : Int) : sw k (sw k t) = t := by unfold sw; (repeat' split) <;> omega
theorem sw_far {k : Nat} {t : Int} (h1 : t ≠ (k : Int)) (h2 : t ≠ (k : Int) + 1) : sw k t = t := by unfold sw; rw [if_neg h1, if_neg h2]
theorem sw_none {k : Nat} {t : Int} : sw k t = -1 ↔ t = -1 := by unfold sw; (repeat' split) <;> omega
theorem ret_ret (k : Nat) (c : Cl) : ret k (ret k c) = c := by unfold ret; rw [sw_sw, sw_sw]
theorem ret_old {k : Nat} {c : Cl} (h1 : c.frm < k) (h2 : c.til < k) : ret k c = c := by
  unfold ret
  rw [sw_far (by omega) (by omega), sw_far (by omega) (by omega)]
/-- The same calls, but for times k and k + 1, and for their places. -/
structure Tw (k : Nat) (σ : Nat → Nat) (cs ds : List Cl) : Prop where
  len : ds.length = cs.length
  inv : ∀ i, σ (σ i) = i
  fix : ∀ i, cs.length ≤ i → σ i = i
  at_ : ∀ i, i < cs.length → ds.getD (σ i) default = ret k (cs.getD i default)
theorem Tw.rng {k : Nat} {σ : Nat → Nat} {cs ds : List Cl} (h : Tw k σ cs ds) {i : Nat} (hi : i < cs.length) : σ i < cs.length := by
  apply Classical.byContradiction
  intro hn
  have h1 := h.fix (σ i) (by omega)
  rw [h.inv] at h1
  omega
theorem Tw.symm {k : Nat} {σ : Nat → Nat} {cs ds : List Cl} (h : Tw k σ cs ds) : Tw k σ ds cs := by
  refine ⟨h.len.symm, h.inv, fun i hi => h.fix i (by rw [← h.len]; exact hi), fun i hi => ?_⟩
  have h1 := h.at_ (σ i) (h.rng (by rw [← h.len]; exact hi))
  rw [h.inv] at h1
  rw [h1, ret_ret]
theorem OneOpen.tw {k : Nat} {σ : Nat → Nat} {cs ds : List Cl} (h : Tw k σ cs ds) (h1 : OneOpen cs) : OneOpen ds := by
  intro i j c d hc hd hw tc td
  have hi := (List.getElem?_eq_some_iff.1 hc).1
  have hj := (List.getElem?_eq_some_iff.1 hd).1
  have ei := h.symm.at_ i hi
  have ej := h.symm.at_ j hj
  have hic := h.symm.rng hi
  have hjc := h.symm.rng hj
  rw [h.len] at hi hj hic hjc
  rw [List.getD_eq_getElem?_getD (l := ds), hc] at ei
  rw [List.getD_eq_getElem?_getD (l := ds), hd] at ej
  have := h1 (σ i) (σ j) _ _ (getD_some hic) (getD_some hjc) (by rw [ei, ej]; exact hw) (by rw [ei]; exact sw_none.2 tc) (by rw [ej]; exact sw_none.2 td)
  have e := congrArg σ this
  rw [h.inv, h.inv] at e
  exact e
/-- Who has a call open has the same one open. -/
theorem Tw.open_ {k : Nat} {σ : Nat → Nat} {cs ds : List Cl} (h : Tw k σ cs ds) (h1 : OneOpen cs) (who : Int) : (openOf cs who < 0 ∧ openOf ds who < 0) ∨ ∃ i, i < cs.length ∧ openOf cs who = (i : Int) ∧ openOf ds who = (σ i : Nat) ∧ (cs.getD i default).til = -1 := by
  have h2 := OneOpen.tw h h1
  by_cases hc : openOf cs who < 0
  · left
    refine ⟨hc, ?_⟩
    apply Classical.byContradiction
    intro hd
    obtain ⟨d, e1, e2, e3, e4⟩ := openOf_at (cs := ds) (who := who) (by omega)
    have ei := h.symm.at_ _ e4
    rw [List.getD_eq_getElem?_getD (l := ds), e1] at ei
    have hlt := h.symm.rng e4
    rw [h.len] at hlt
    exact openOf_none hc (getD_some hlt) (by rw [ei]; exact e2) (by rw [ei]; exact sw_none.2 e3)
  · right
    obtain ⟨c, e1, e2, e3, e4⟩ := openOf_at (cs := cs) (who := who) (by omega)
    have ei := h.at_ _ e4
    have hg : cs.getD (openOf cs who).toNat default = c := by rw [List.getD_eq_getElem?_getD, e1]; rfl
    rw [hg] at ei
    refine ⟨(openOf cs who).toNat, e4, by omega, ?_, by rw [hg]; exact e3⟩
    exact (openOf_iff h2).2 ⟨_, getD_some (by rw [h.len]; exact h.rng e4), by rw [ei]; exact e2, by rw [ei]; exact sw_none.2 e3⟩
theorem getD_set {cs : List Cl} {i j : Nat} {c : Cl} (hi : i < cs.length) : (cs.set i c).getD j default = if i = j then c else cs.getD j default := by
  rw [List.getD_eq_getElem?_getD, List.getElem?_set]
  split
  · rfl
  · rw [List.getD_eq_getElem?_getD]
theorem getD_snoc {cs : List Cl} {j : Nat} {c : Cl} : (cs ++ [c]).getD j default = if j < cs.length then cs.getD j default else if j = cs.length then c else default := by
  rw [List.getD_eq_getElem?_getD, List.getElem?_append]
  split
  · rw [List.getD_eq_getElem?_getD]
  · split
    · rename_i h1 h2; subst h2; rw [Nat.sub_self]; rfl
    · rw [List.getElem?_eq_none (by simp; omega)]; rfl
theorem Tw.set {k : Nat} {σ : Nat → Nat} {cs ds : List Cl} (h : Tw k σ cs ds) {i : Nat} (hi : i < cs.length) {c d : Cl} (hd : d = ret k c) : Tw k σ (cs.set i c) (ds.set (σ i) d) := by
  have hr := h.rng hi
  refine ⟨by rw [List.length_set, List.length_set, h.len], h.inv, fun j hj => h.fix j (by rw [List.length_set] at hj; exact hj), fun j hj => ?_⟩
  rw [List.length_set] at hj
  rw [getD_set (by rw [h.len]; exact hr), getD_set hi]
  by_cases e : i = j
  · subst e
    rw [if_pos rfl, if_pos rfl, hd]
  · rw [if_neg e, if_neg (fun e2 => e (by have := congrArg σ e2; rw [h.inv, h.inv] at this; exact this))]
    exact h.at_ j hj
theorem Tw.snoc {k : Nat} {σ : Nat → Nat} {cs ds : List Cl} (h : Tw k σ cs ds) {c d : Cl} (hd : d = ret k c) : Tw k σ (cs ++ [c]) (ds ++ [d]) := by
  refine ⟨by rw [List.length_append, List.length_append, h.len]; rfl, h.inv, fun j hj => h.fix j (by rw [List.length_append] at hj; simp at hj; omega), fun j hj => ?_⟩
  rw [List.length_append] at hj
  simp at hj
  rw [getD_snoc, getD_snoc, h.len]
  by_cases e : j < cs.length
  · rw [if_pos e, if_pos (h.rng e)]
    exact h.at_ j e
  · have : j = cs.length := by omega
    subst this
    rw [h.fix _ (Nat.le_refl _), if_neg (Nat.lt_irrefl _), if_neg (Nat.lt_irrefl _), if_pos rfl, if_pos rfl, hd]
theorem Tw.step {ts : List Int} {k n : Nat} {σ : Nat → Nat} {cs ds cs' : List Cl} {x : Ev} (h : Tw k σ cs ds) (h1 : OneOpen cs) (hn : k + 2 ≤ n) (hs : step ts n cs x = .inr cs') : ∃ ds', Go.Proofs.YtfgangkpebkicaaDoor.step ts n ds x = .inr ds' ∧ Tw k σ cs' ds' := by
  have hwf : sw k (n : Int) = (n : Int) := sw_far (by omega) (by omega)
  unfold Go.Proofs.YtfgangkpebkicaaDoor.step at hs ⊢
  split at hs
  · cases hs
  · rename_i hr
    rw [if_neg hr]
    split at hs
    · rename_i hk
      rw [if_pos hk]
      unfold respS at hs ⊢
      rcases h.open_ h1 x.who with ⟨o1, o2⟩ | ⟨i, hi, o1, o2, o3⟩
      · rw [if_pos o1] at hs; cases hs
      · rw [if_neg (by omega), o1, Int.toNat_natCast] at hs
        rw [if_neg (by omega), o2, Int.toNat_natCast, h.at_ i hi]
        split at hs
        · cases hs
        · rename_i hg
          injection hs with hs
          subst hs
          rw [if_neg (show ¬ ((ret k (cs.getD i default)).thing ≠ x.thing ∨ givesB (ret k (cs.getD i default)).kind x.val = false) from hg)]
          refine ⟨_, rfl, h.set hi ?_⟩
          unfold ret
          simp only
          rw [hwf]
    · rename_i hk
      rw [if_neg hk]
      unfold invS at hs ⊢
      split at hs
      · cases hs
      · rename_i hg
        rw [if_neg hg]
        rcases h.open_ h1 x.who with ⟨o1, o2⟩ | ⟨i, hi, o1, o2, o3⟩
        · rw [if_neg (by omega)] at hs ⊢
          injection hs with hs
          subst hs
          refine ⟨_, rfl, h.snoc ?_⟩
          unfold ret
          simp only
          rw [hwf, sw_far (by omega) (by omega)]
        · rw [if_pos (by omega)] at hs; cases hs
theorem step_one {ts : List Int} {n : Nat} {cs cs' : List Cl} {x : Ev} (h1 : OneOpen cs) (hs : step ts n cs x = .inr cs') : OneOpen cs' := by
  rcases step_K (ts := ts) (n := n) (x := x) h1 with ⟨e, h2, _⟩ | ⟨d, h2, h3, _⟩
  · rw [h2] at hs; cases hs
  · rw [h2] at hs; injection hs with hs; subst hs; exact h3
theorem Tw.run {ts : List Int} {k : Nat} {σ : Nat → Nat} : ∀ (l : List Ev) (n : Nat) (cs ds : List Cl), Tw k σ cs ds → OneOpen cs → k + 2 ≤ n → (run ts n cs l).2.2 = 0 → (Go.Proofs.YtfgangkpebkicaaDoor.run ts n ds l).2.2 = 0 ∧ Tw k σ (Go.Proofs.YtfgangkpebkicaaDoor.run ts n cs l).1 (Go.Proofs.YtfgangkpebkicaaDoor.run ts n ds l).1
  | [], _, _, _, h, _, _, _ => ⟨rfl, h⟩
  | x :: r, n, cs, ds, h, h1, hn, h0 => by
    rw [Go.Proofs.YtfgangkpebkicaaDoor.run] at h0
    rw [Go.Proofs.YtfgangkpebkicaaDoor.run, Go.Proofs.YtfgangkpebkicaaDoor.run]
    cases hs : Go.Proofs.YtfgangkpebkicaaDoor.step ts n cs x with
    | inl e => rw [hs] at h0; exact absurd h0 (step_err hs)
    | inr cs' =>
      rw [hs] at h0
      obtain ⟨ds', e1, e2⟩ := h.step h1 hn hs
      rw [e1]
      simp only at h0 ⊢
      exact Tw.run r (n + 1) cs' ds' e2 (step_one h1 hs) (by omega) h0
theorem Tw.refl {k : Nat} {cs : List Cl} (h : Tidy k cs) : Tw k id cs cs := by
  refine ⟨rfl, fun _ => rfl, fun _ _ => rfl, fun i hi => ?_⟩
  have := h _ (List.mem_of_getElem? (getD_some hi))
  exact (ret_old this.2.1 this.1).symm
/-- No call begins at k; none is answered at k. -/
def NoFrm (k : Int) (cs : List Cl) : Prop := ∀ c ∈ cs, c.frm ≠ k
def NoTil (k : Int) (cs : List Cl) : Prop := ∀ c ∈ cs, c.til ≠ k
theorem NoFrm.step {ts : List Int} {n : Nat} {k : Int} {cs cs' : List Cl} {x : Ev} (h : NoFrm k cs) (hn : (n : Int) ≠ k ∨ x.kind = 0) (hs : step ts n cs x = .inr cs') : NoFrm k cs' := by
  intro c hc
  rcases step_ways hs with ⟨_, i, hi, _, _, _, rfl, _⟩ | ⟨hk, _, rfl, _⟩
  · rcases List.mem_or_eq_of_mem_set hc with hc | rfl
    · exact h c hc
    · exact (show (cs.getD i default).frm ≠ k from h _ (List.mem_of_getElem? (getD_some hi)))
  · rcases List.mem_append.1 hc with hc | hc
    · exact h c hc
    · rw [List.mem_singleton] at hc
      subst hc
      rcases hn with hn | hn
      · exact hn
      · exact absurd hn hk
theorem NoTil.step {ts : List Int} {n : Nat} {k : Int} {cs cs' : List Cl} {x : Ev} (h : NoTil k cs) (hk0 : k ≠ -1) (hn : (n : Int) ≠ k ∨ x.kind ≠ 0) (hs : step ts n cs x = .inr cs') : NoTil k cs' := by
  intro c hc
  rcases step_ways hs with ⟨hk, i, hi, _, _, _, rfl, _⟩ | ⟨hk, _, rfl, _⟩
  · rcases List.mem_or_eq_of_mem_set hc with hc | rfl
    · exact h c hc
    · rcases hn with hn | hn
      · exact hn
      · exact absurd hk hn
  · rcases List.mem_append.1 hc with hc | hc
    · exact h c hc
    · rw [List.mem_singleton] at hc
      subst hc
      exact fun e => hk0 e.symm
theorem Tw.same {k : Nat} {σ : Nat → Nat} {cs ds : List Cl} (h : Tw k σ cs ds) {i : Nat} (hi : i < cs.length) : (ds.getD (σ i) default).thing = (cs.getD i default).thing ∧ (ds.getD (σ i) default).kind = (cs.getD i default).kind ∧ (ds.getD (σ i) default).arg = (cs.getD i default).arg ∧ (ds.getD (σ i) default).res = (cs.getD i default).res ∧ ((ds.getD (σ i) default).til = -1 ↔ (cs.getD i default).til = -1) := by
  rw [h.at_ i hi]
  exact ⟨rfl, rfl, rfl, rfl, sw_none⟩
end Go.Proofs.YtfgangkpebkicaaDoor

/-
  Plain: unlike numbers below n are at most n.
-/
namespace Go.Proofs.YtfgangkpebkicaaDoor
set_option maxRecDepth 20000
/-- Unlike numbers below n: at most n. -/
theorem nodup_lt : ∀ (n : Nat) {l : List Int}, l.Nodup → (∀ k ∈ l, 0 ≤ k ∧ k < (n : Int)) → l.length ≤ n
  | 0, l, _, h => by
    cases l with
    | nil => exact Nat.le_refl _
    | cons k r => have := h k List.mem_cons_self; omega
  | n + 1, l, hn, h => by
    by_cases hm : (n : Int) ∈ l
    · have h1 := nodup_lt n (l := l.erase (n : Int)) (hn.erase _) (fun k hk => by
        rw [hn.mem_erase_iff] at hk
        have := h k hk.2
        omega)
      rw [List.length_erase_of_mem hm] at h1
      omega
    · have h1 := nodup_lt n (l := l) hn (fun k hk => by
        have := h k hk
        have : k ≠ (n : Int) := fun e => hm (e ▸ hk)
        omega)
      omega
end Go.Proofs.YtfgangkpebkicaaDoor

/-
  Plain: a call that was not answered can be answered so that there is a right order still; of one alone.
-/
namespace Go.Proofs.YtfgangkpebkicaaDoor
open Go.RowKit
set_option maxRecDepth 20000
/-- A state after m steps: it has room. -/
structure Room (typ : Int) (m : Nat) (s : List Int) : Prop where
  ok : stateE typ s = 0
  len : s.length ≤ m + 1
  one : typ = 5 → s.getD 0 0 ≤ m
theorem Room.next {typ : Int} {m : Nat} {s : List Int} {kind arg : Int} (h : Room typ m s) (he : (stepO typ s kind arg).2.2 = 0) : Room typ (m + 1) (stepO typ s kind arg).1 := by
  obtain ⟨h1, h2, h3, h4⟩ := stepO_ok he
  refine ⟨h1, by have := h.len; omega, fun ht => ?_⟩
  obtain ⟨_, hi, e⟩ := stepO_of he
  obtain ⟨hf, _⟩ := Bool.and_eq_true_iff.1 hi
  have hk := (fits_ways hf).2.2.2.2 ht
  have h5 := h.one ht
  have e10 : stepped s 10 arg = if s.getD 0 0 = 1000 then ([], 0, 2) else ([s.getD 0 0 + 1], s.getD 0 0, 0) := rfl
  rw [hk] at e
  rw [hk, e, e10]
  split
  · show ([] : List Int).getD 0 0 ≤ _
    simp
    omega
  · show [s.getD 0 0 + 1].getD 0 0 ≤ _
    simp
    rw [List.getD_eq_getElem?_getD] at h5
    omega
theorem Room.run {typ : Int} : ∀ (l : List Dd) (m : Nat) (s : List Int), Room typ m s → goesB typ s l = true → Room typ (m + l.length) (stateFrom typ s l)
  | [], m, s, h, _ => h
  | d :: r, m, s, h, hg => by
    rw [goes_cons] at hg
    have := Room.run r (m + 1) _ (h.next hg.1) hg.2.2
    rw [List.length_cons, show m + (r.length + 1) = m + 1 + r.length by omega]
    exact this
theorem Room.step {typ : Int} {m : Nat} {s : List Int} (h : Room typ m s) (hm : m < 40) {kind arg : Int} (hf : fitsB typ kind = true) (hk : takesB kind arg = true) : (stepO typ s kind arg).2.2 = 0 := by
  unfold stepO
  rw [if_neg (by rw [h.ok]; decide), hf, hk, if_neg (by decide)]
  have hlen := h.len
  have hfit := fits_ways hf
  have hfk := fits_kind hf
  have h50 : s.length ≠ 50 := by omega
  have hone : kind = 10 → s.getD 0 0 ≠ 1000 := fun e => by
    have ht : typ = 5 := by
      obtain ⟨k1, k2, k3, k4, k5⟩ := hfit
      omega
    have := h.one ht
    omega
  unfold stepped
  (repeat' split) <;> first | rfl | (exfalso; rename_i hx; exact h50 hx) | (exfalso; rename_i hx _ hy; exact hone hx hy) | (exfalso; rename_i hx hy; exact hone hx hy)
end Go.Proofs.YtfgangkpebkicaaDoor

/-
  Plain: the calls of a thing's part are the thing's calls of the whole, with their times counted anew.
-/
namespace Go.Proofs.YtfgangkpebkicaaDoor
open Go.RowKit
set_option maxRecDepth 20000
/-- A call with other times. -/
def retC (r : Int → Int) (c : Cl) : Cl := { c with frm := r c.frm, til := if c.til = -1 then -1 else r c.til }
/-- The calls of thing q, with other times. -/
def prt (r : Int → Int) (q : Int) (cs : List Cl) : List Cl := (cs.filter fun c => c.thing == q).map (retC r)
theorem prt_append (r : Int → Int) (q : Int) (a b : List Cl) : prt r q (a ++ b) = prt r q a ++ prt r q b := by
  unfold prt
  rw [List.filter_append, List.map_append]
theorem prt_yes {r : Int → Int} {q : Int} {c : Cl} (h : c.thing = q) (l : List Cl) : prt r q (c :: l) = retC r c :: prt r q l := by
  unfold prt
  rw [List.filter_cons, if_pos (by rw [beq_iff_eq]; exact h), List.map_cons]
theorem prt_no {r : Int → Int} {q : Int} {c : Cl} (h : c.thing ≠ q) (l : List Cl) : prt r q (c :: l) = prt r q l := by
  unfold prt
  rw [List.filter_cons, if_neg (by rw [beq_iff_eq]; exact h)]
theorem prt_mem {r : Int → Int} {q : Int} {cs : List Cl} {d : Cl} : d ∈ prt r q cs ↔ ∃ c ∈ cs, c.thing = q ∧ retC r c = d := by
  unfold prt
  rw [List.mem_map]
  constructor
  · rintro ⟨c, h, e⟩
    rw [List.mem_filter, beq_iff_eq] at h
    exact ⟨c, h.1, h.2, e⟩
  · rintro ⟨c, h1, h2, e⟩
    exact ⟨c, by rw [List.mem_filter, beq_iff_eq]; exact ⟨h1, h2⟩, e⟩
theorem retC_til {r : Int → Int} (hr : ∀ z, 0 ≤ r z) (c : Cl) : (retC r c).til = -1 ↔ c.til = -1 := by
  unfold retC
  simp only
  by_cases h : c.til = -1
  · rw [if_pos h]; exact ⟨fun _ => h, fun _ => rfl⟩
  · rw [if_neg h]
    have := hr c.til
    exact ⟨fun h2 => by omega, fun h2 => absurd h2 h⟩
theorem oneOpen_pw {cs : List Cl} : OneOpen cs ↔ cs.Pairwise fun c d => ¬ (c.who = d.who ∧ c.til = -1 ∧ d.til = -1) := by
  rw [List.pairwise_iff_getElem]
  constructor
  · intro h i j hi hj hij hh
    have := h i j _ _ (List.getElem?_eq_getElem hi) (List.getElem?_eq_getElem hj) hh.1 hh.2.1 hh.2.2
    omega
  · intro h i j c d hc hd hw h1 h2
    obtain ⟨hi, rfl⟩ := List.getElem?_eq_some_iff.1 hc
    obtain ⟨hj, rfl⟩ := List.getElem?_eq_some_iff.1 hd
    rcases Nat.lt_trichotomy i j with hlt | heq | hgt
    · exact absurd ⟨hw, h1, h2⟩ (h i j hi hj hlt)
    · exact heq
    · exact absurd ⟨hw.symm, h2, h1⟩ (h j i hj hi hgt)
theorem OneOpen.prt {r : Int → Int} (hr : ∀ z, 0 ≤ r z) {cs : List Cl} (h : OneOpen cs) (q : Int) : OneOpen (prt r q cs) := by
  rw [oneOpen_pw] at h ⊢
  unfold Proofs.YtfgangkpebkicaaDoor.prt
  rw [List.pairwise_map]
  refine (h.filter _).imp fun {c d} hcd hh => hcd ⟨hh.1, (retC_til hr c).1 hh.2.1, (retC_til hr d).1 hh.2.2⟩
/-- One more event, seen by a thing. -/
theorem step_prt {ts : List Int} {n m : Nat} {cs cs' : List Cl} {x : Ev} {r : Int → Int} (hr : ∀ z, 0 ≤ r z) (h1 : OneOpen cs) (q : Int) (hs : step ts n cs x = .inr cs') :
    (x.thing = q → r n = m → step ts m (prt r q cs) x = .inr (prt r q cs')) ∧ (x.thing ≠ q → prt r q cs' = prt r q cs) := by
  unfold step at hs ⊢
  split at hs
  · cases hs
  rename_i hx
  rw [if_neg hx]
  split at hs
  · rename_i hk
    rw [if_pos hk]
    unfold respS at hs ⊢
    split at hs
    · cases hs
    rename_i ho
    split at hs
    · cases hs
    rename_i hg
    obtain ⟨c, e1, e2, e3, e4⟩ := openOf_at (cs := cs) (who := x.who) (by omega)
    generalize (openOf cs x.who).toNat = i at *
    have hgd : cs.getD i default = c := by rw [List.getD_eq_getElem?_getD, e1]; rfl
    rw [hgd] at hs hg
    injection hs with hs
    have hth : c.thing = x.thing := Classical.byContradiction fun h => hg (.inl h)
    have hgi : ¬ givesB c.kind x.val = false := fun h => hg (.inr h)
    have hsp : cs = cs.take i ++ c :: cs.drop (i + 1) := by
      have h2 : cs.drop i = c :: cs.drop (i + 1) := by rw [List.drop_eq_getElem_cons e4, (List.getElem?_eq_some_iff.1 e1).2]
      rw [← h2, List.take_append_drop]
    have hset : cs' = cs.take i ++ { c with res := x.val, til := (n : Int) } :: cs.drop (i + 1) := by
      rw [← hs, List.set_eq_take_append_cons_drop, if_pos e4]
    constructor
    · intro hq hrn
      have hp1 : prt r q cs = prt r q (cs.take i) ++ retC r c :: prt r q (cs.drop (i + 1)) := by
        conv => lhs; rw [hsp]
        rw [prt_append, prt_yes (by rw [hth]; exact hq)]
      have hp2 : prt r q cs' = prt r q (cs.take i) ++ retC r { c with res := x.val, til := (n : Int) } :: prt r q (cs.drop (i + 1)) := by
        rw [hset, prt_append, prt_yes (by show c.thing = q; rw [hth]; exact hq)]
      have hat : (prt r q cs)[(prt r q (cs.take i)).length]? = some (retC r c) := by rw [hp1]; simp
      have hoo := openOf_eq (h1.prt hr q) hat (who := x.who) e2 ((retC_til hr c).2 e3)
      rw [hoo, if_neg (by omega), Int.toNat_natCast, List.getD_eq_getElem?_getD, hat]
      simp only [Option.getD_some]
      rw [if_neg (by
        rintro (h | h)
        · exact h (by show c.thing = x.thing; exact hth)
        · exact hgi h)]
      rw [hp2, hp1]
      congr 1
      rw [List.set_append, if_neg (Nat.lt_irrefl _), Nat.sub_self, List.set_cons_zero]
      congr 2
      unfold retC
      simp only
      rw [if_neg (by omega : ¬ (n : Int) = -1), hrn]
    · intro hq
      rw [hset]
      conv => rhs; rw [hsp]
      rw [prt_append, prt_append, prt_no (by show c.thing ≠ q; rw [hth]; exact hq), prt_no (by rw [hth]; exact hq)]
  · rename_i hk
    rw [if_neg hk]
    unfold invS at hs ⊢
    split at hs
    · cases hs
    rename_i hf
    rw [if_neg hf]
    split at hs
    · cases hs
    rename_i ho
    injection hs with hs
    constructor
    · intro hq hrn
      rw [if_neg (fun h0 => by
        obtain ⟨d, d1, d2, d3, _⟩ := openOf_at h0
        obtain ⟨c, c1, c2, c3⟩ := prt_mem.1 (List.mem_of_getElem? d1)
        obtain ⟨j, c4⟩ := List.getElem?_of_mem c1
        exact openOf_none (by omega : openOf cs x.who < 0) c4 (by rw [← d2, ← c3]; rfl) ((retC_til hr c).1 (by rw [c3]; exact d3)))]
      rw [← hs, prt_append, prt_yes (by exact hq)]
      unfold retC prt
      simp only [if_true, List.filter_nil, List.map_nil]
      rw [hrn]
    · intro hq
      rw [← hs, prt_append, prt_no (by exact hq)]
      exact List.append_nil _
/-- All events, seen by a thing. -/
theorem run_prt {ts : List Int} {r : Int → Int} (hr : ∀ z, 0 ≤ r z) (q : Int) : ∀ (l : List Ev) (n m : Nat) (cs : List Cl), OneOpen cs → (∀ k, k ≤ l.length → r ((n + k : Nat) : Int) = ((m + (partL (l.take k) q).length : Nat) : Int)) →
    (∀ c ∈ cs, c.thing = q → c.til ≠ -1 → r (c.til + 1) = r c.til + 1) → (run ts n cs l).2.2 = 0 →
    (run ts m (prt r q cs) (partL l q)).1 = prt r q (run ts n cs l).1 ∧ ∀ c ∈ (run ts n cs l).1, c.thing = q → c.til ≠ -1 → r (c.til + 1) = r c.til + 1
  | [], n, m, cs, _, _, ht, _ => ⟨rfl, ht⟩
  | x :: l, n, m, cs, h1, hk, ht, h0 => by
    have hn := hk 0 (Nat.zero_le _)
    rw [List.take_zero] at hn
    have hn2 : r ((n + 1 : Nat) : Int) = ((m + (partL [x] q).length : Nat) : Int) := by
      have := hk 1 (by simp)
      rwa [List.take_succ_cons, List.take_zero] at this
    rw [run] at h0 ⊢
    rcases step_K (ts := ts) (n := n) (x := x) h1 with ⟨e, he, _⟩ | ⟨cs', he, h2, _⟩
    · rw [he] at h0
      exact absurd h0 (step_err he)
    · obtain ⟨s1, s2⟩ := step_prt (m := m) hr h1 q he
      have ht2 : x.thing = q → ∀ c ∈ cs', c.thing = q → c.til ≠ -1 → r (c.til + 1) = r c.til + 1 := fun hq => by
        have hpl : (partL [x] q).length = 1 := by
          unfold partL
          rw [List.filter_cons, if_pos (by rw [beq_iff_eq]; exact hq)]
          rfl
        rw [hpl] at hn2
        have hnn : r ((n : Int) + 1) = r n + 1 := by
          have e1 : ((n + 1 : Nat) : Int) = (n : Int) + 1 := by omega
          have e2 : r ((n : Nat) : Int) = (m : Int) := by simpa [partL] using hn
          rw [← e1, hn2, e2]
          omega
        have hs := he
        unfold step respS invS at hs
        repeat' split at hs
        all_goals (try cases hs)
        · intro c hc hcq hct
          rcases List.mem_or_eq_of_mem_set hc with hc | rfl
          · exact ht c hc hcq hct
          · exact hnn
        · intro c hc hcq hct
          rcases List.mem_append.1 hc with hc | hc
          · exact ht c hc hcq hct
          · rw [List.mem_singleton] at hc
            subst hc
            exact absurd rfl hct
      rw [he] at h0
      simp only [he]
      simp only at h0
      by_cases hq : x.thing = q
      · have hp : partL (x :: l) q = x :: partL l q := by
          unfold partL
          rw [List.filter_cons, if_pos (by rw [beq_iff_eq]; exact hq)]
        rw [hp, run, s1 hq (by simpa [partL] using hn)]
        simp only
        refine run_prt hr q l (n + 1) (m + 1) cs' h2 (fun k hk2 => ?_) (ht2 hq) h0
        have := hk (k + 1) (by simp; omega)
        rw [List.take_succ_cons] at this
        have hp2 : partL (x :: l.take k) q = x :: partL (l.take k) q := by
          unfold partL
          rw [List.filter_cons, if_pos (by rw [beq_iff_eq]; exact hq)]
        rw [hp2, List.length_cons] at this
        rw [show n + 1 + k = n + (k + 1) by omega, this]
        omega
      · have hp : ∀ l', partL (x :: l') q = partL l' q := fun l' => by
          unfold partL
          rw [List.filter_cons, if_neg (by rw [beq_iff_eq]; exact hq)]
        rw [hp, ← s2 hq]
        refine run_prt hr q l (n + 1) m cs' h2 (fun k hk2 => ?_) ?_ h0
        · have := hk (k + 1) (by simp; omega)
          rw [List.take_succ_cons, hp] at this
          rw [show n + 1 + k = n + (k + 1) by omega, this]
        · have hs := he
          unfold step respS invS at hs
          repeat' split at hs
          all_goals (try cases hs)
          · have hg : ¬ ((cs.getD (openOf cs x.who).toNat default).thing ≠ x.thing ∨ givesB (cs.getD (openOf cs x.who).toNat default).kind x.val = false) := by assumption
            obtain ⟨d, e1, _, _, _⟩ := openOf_at (cs := cs) (who := x.who) (by omega)
            have hgd : cs.getD (openOf cs x.who).toNat default = d := by rw [List.getD_eq_getElem?_getD, e1]; rfl
            intro c hc hcq hct
            rcases List.mem_or_eq_of_mem_set hc with hc | rfl
            · exact ht c hc hcq hct
            · exfalso
              refine hg (.inl fun h => hq ?_)
              rw [← h]
              exact hcq
          · intro c hc hcq hct
            rcases List.mem_append.1 hc with hc | hc
            · exact ht c hc hcq hct
            · rw [List.mem_singleton] at hc
              subst hc
              exact absurd rfl hct
/-- How many events at thing q come before time z. -/
def rankE (l : List Ev) (q : Int) (z : Int) : Int := (partL (l.take z.toNat) q).length
theorem rankE_ge (l : List Ev) (q z : Int) : 0 ≤ rankE l q z := by unfold rankE; omega
theorem rankE_up (l : List Ev) (q : Int) {y z : Int} (h : y ≤ z) : rankE l q y ≤ rankE l q z := by
  unfold rankE partL
  have h1 : (l.take y.toNat).Sublist (l.take z.toNat) := by
    rw [show l.take y.toNat = (l.take z.toNat).take y.toNat by rw [List.take_take]; congr 1; omega]
    exact List.take_sublist _ _
  have := (h1.filter (fun x => x.thing == q)).length_le
  omega
theorem calls_part {ts : List Int} {l : List Ev} (h : (callsOf ts l).2.2 = 0) (q : Int) : (callsOf ts (partL l q)).1 = prt (rankE l q) q (callsOf ts l).1 ∧ ∀ c ∈ (callsOf ts l).1, c.thing = q → c.til ≠ -1 → rankE l q (c.til + 1) = rankE l q c.til + 1 := by
  obtain ⟨_, _, e1⟩ := calls_zero h
  obtain ⟨_, _, e2⟩ := calls_zero (part_ok h q)
  rw [e1] at h
  rw [e2, e1]
  exact run_prt (rankE_ge l q) q l 0 0 [] OneOpen.nil (fun k hk => by unfold rankE; rw [Int.toNat_natCast, Nat.zero_add, Nat.zero_add]) (fun c hc => by cases hc) h
end Go.Proofs.YtfgangkpebkicaaDoor

/-
  Contract of local.Parts, over a contract of local.open.
-/
namespace Go.Proofs.YtfgangkpebkicaaDoor
open Go.RowKit
set_option maxRecDepth 20000
/-- How many calls a thing has. -/
def ownN (cs : List Cl) (q : Int) : Nat := (cs.filter fun c => c.thing == q).length
/-- The error of package local about a history, or 0. -/
def openE (ts : List Int) (l : List Ev) : Int := if (callsOf ts l).2.2 ≠ 0 then (callsOf ts l).2.2 else if 12 < (callsOf ts l).1.length then 2 else if ((callsOf ts l).1.any fun c => decide (9 < ownN (callsOf ts l).1 c.thing)) = true then 2 else 0
theorem openE_zero {ts : List Int} {l : List Ev} (h : openE ts l = 0) : (callsOf ts l).2.2 = 0 ∧ (callsOf ts l).1.length ≤ 12 ∧ ∀ q, ownN (callsOf ts l).1 q ≤ 9 := by
  unfold openE at h
  split at h
  · rename_i h1; exact absurd h h1
  rename_i h1
  split at h
  · cases h
  rename_i h2
  split at h
  · cases h
  rename_i h3
  refine ⟨Classical.byContradiction h1, by omega, fun q => Classical.byContradiction fun hq => h3 ?_⟩
  rw [List.any_eq_true]
  have hpos : 0 < (((callsOf ts l).1).filter fun c => c.thing == q).length := by unfold ownN at hq; omega
  obtain ⟨c, hc⟩ := List.exists_mem_of_length_pos hpos
  rw [List.mem_filter, beq_iff_eq] at hc
  exact ⟨c, hc.1, by rw [decide_eq_true_iff, hc.2]; omega⟩
theorem openE_part {ts : List Int} {l : List Ev} (h : openE ts l = 0) (q : Int) : searchE (callsOf ts (partL l q)) = 0 := by
  obtain ⟨h1, _, h3⟩ := openE_zero h
  refine search_ok.2 ⟨part_ok h1 q, ?_⟩
  rw [(calls_part h1 q).1]
  unfold prt
  rw [List.length_map]
  exact h3 q
/-- Has the part of thing k a right order? -/
def pB (ts : List Int) (l : List Ev) (k : Nat) : Bool := foundB ts (callsOf ts (partL l (k : Int)))
end Go.Proofs.YtfgangkpebkicaaDoor

/-
  Contract of local.open; package local's Parts, whole.
-/
namespace Go.Proofs.YtfgangkpebkicaaDoor
open Go.RowKit Go.Maps
set_option maxRecDepth 20000
def LOpenPost (w : World) (cs : List Cl) (X : Int) (e : Ending) (w' : World) : Prop :=
  Below w.heap.size w w' ∧ ∃ v, e = .returned (.tuple #[v, .int .i64 X]) ∧ (X = 0 → CRd w' w'.heap.size v cs) ∧ (X ≠ 0 → v = .slice none 0 0)
theorem idxK_len (cs : List Cl) (q : Int) : (idxK cs q cs.length).length = ownN cs q := by
  have key : ∀ k, k ≤ cs.length → (idxK cs q k).length = ((cs.take k).filter fun c => c.thing == q).length := fun k => by
    induction k with
    | zero => intro _; rfl
    | succ k ih =>
      intro hk
      rw [idxK_succ, List.take_add_one, getD_some (show k < cs.length by omega), List.filter_append, List.length_append, ← ih (by omega)]
      generalize cs.getD k default = y
      by_cases h : y.thing = q
      · rw [if_pos h]; simp [h]
      · rw [if_neg h]; simp [h]
  rw [key _ (Nat.le_refl _), List.take_length]
  rfl
theorem row_slice {w : World} {base : Nat} {e : TypeId} {v : Value} {zs : List Int} (h : w.ownsInts base e .i64 v zs) : ∃ c : Option Addr × Nat × Nat, v = .slice c.1 c.2.1 c.2.2 ∧ c.2.1 = zs.length := by
  rcases h.1.2 with ⟨rfl, h0⟩ | ⟨g, cap, cur, rfl, _⟩
  · exact ⟨(none, 0, 0), rfl, h0.symm⟩
  · exact ⟨(_, _, _), rfl, rfl⟩
theorem lit_ne {a b : Int} (h : a ≠ b) : (Lit.int .i64 a).sameKey (.int .i64 b) = false := sameKey_ne fun e => h (by injection e)
set_option maxHeartbeats 4000000 in
theorem lopen_any {tv lv : Value} {ts : List Int} {l : List Ev} {w : World} (ht : NRd w w.heap.size tv ts) (hl : ERd w w.heap.size lv l) :
    Calls Tryd.prog 18 #[tv, lv] w (LOpenPost w (callsOf ts l).1 (openE ts l)) := by
  have HCL := Lib.hid (calls_any ht hl)
  have hse : openE ts l = if (callsOf ts l).2.2 ≠ 0 then (callsOf ts l).2.2 else if 12 < (callsOf ts l).1.length then 2 else if ((callsOf ts l).1.any fun c => decide (9 < ownN (callsOf ts l).1 c.thing)) = true then 2 else 0 := rfl
  have hth := @calls_thing ts l
  have hty := @calls_types ts l
  generalize openE ts l = X at hse ⊢
  generalize callsOf ts l = o at HCL hse hth hty ⊢
  have HSE := Lib.hid (And.intro hse (And.intro hth hty))
  clear hse hth hty
  obtain ⟨At, capt, rfl, -, -⟩ := ht.is
  obtain ⟨Al, capl, rfl, -, -⟩ := hl.is
  clear ht hl
  obtain ⟨tl, htl⟩ : ∃ tl, tl = ts.length := ⟨_, rfl⟩
  rw [← htl] at HCL HSE ⊢
  clear htl
  generalize l.length = L at HCL ⊢
  go_enter Tryd.func18, Tryd.ntmps18
  go_wp2_with fail
  refine HCL.out.mono ?_
  rintro e w1 ⟨v, rfl, hb1, hcr⟩
  obtain ⟨cs, at1, E⟩ := o
  obtain ⟨hse, hth, hty⟩ := HSE.out
  obtain ⟨A, c, rfl, -, hc9⟩ := hcr.is
  unfold maxLen at hc9
  simp only at hcr hse hth hty ⊢
  have HR := Lib.hid (And.intro hb1 hcr)
  obtain ⟨n, hn⟩ : ∃ n, n = cs.length := ⟨_, rfl⟩
  by_cases hE : E = 0
  · rw [if_neg (fun h => h hE)] at hse
    have hg := lgroup_any hcr
    subst hE
    rw [← hn] at HR hse hg ⊢
    by_cases h12 : 12 < n
    · rw [if_pos h12] at hse
      subst hse
      have i12 : (12 : Int) < (n : Int) := by omega
      clear h12 hg HCL hb1 hcr HSE hth hty hn
      go_wp2_with fail
      go_ret2
      exact ⟨HR.out.1, _, rfl, fun h => by omega, fun _ => rfl⟩
    · rw [if_neg h12] at hse
      have i12 : ¬ (12 : Int) < (n : Int) := by omega
      have HSE2 := Lib.hid hse
      have HG := Lib.hid (hg (by omega) (fun c hc => by have := hth c hc; have := hty rfl; omega))
      have HN := Lib.hid hn
      clear h12 hg HCL hb1 hcr HSE hth hty hn hse
      go_wp2_with fail
      refine HG.out.mono ?_
      rintro e w2 ⟨rfl, hb2, D, hD, hO⟩
      have H2 := Lib.hid (And.intro (HR.out.1.trans (hb2.mono HR.out.1.size)) ((HR.out.2.below hb2).mono hb2.size))
      have hlt1 : w1.heap.size < w2.heap.size := by
        obtain ⟨es, clock, h1, _⟩ := hO
        exact (Array.getElem?_eq_some_iff.1 h1).1
      have hlt0 := HR.out.1.size
      have HD := Lib.hid hD
      have hown : w2.ownsMap Tryd.prog 3 (rowElem (H := Unit) w2 (w1.heap.size + 1) 3 .i64) w1.heap.size n D := by
        obtain ⟨es, clock, h1, h2, h3, h4, _⟩ := hO
        exact ⟨es, clock, h1, h2, h3, h4⟩
      clear hb2 hD HG hO
      go_wp2_with (at_range; refine wpList_range_own _ rfl _ 60 rfl 3 22 keyed_int Tryd.underlying60 _ w1.heap.size n _ rfl hown ?_; intro w3 hrg3 hg3 hs3)
      have hstart : ∀ q : Int, 9 < ownN cs q → has D (.int .i64 q) = true := fun q hq => by
        cases hh : has D (.int .i64 q)
        · have h1 := atKey_of_not_has hh .nil
          rw [HD.out.2 q, if_neg (fun e => by have := idxK_len cs q; rw [← HN.out, e] at this; simp at this; omega)] at h1
          cases h1
        · rfl
      have HST := Lib.hid hstart
      have H3 := Lib.hid (And.intro hrg3 (And.intro hg3 hlt1))
      clear hown hrg3 hg3 hstart hs3
      go_frame
      go_loopw [27] (fun _ wr => ∃ (left : Lit → Bool) (cnt : Nat), wr.ranges Tryd.prog 3 (rowElem (H := Unit) w2 (w1.heap.size + 1) 3 .i64) w1.heap.size w2.heap.size n D left cnt ∧ Below w2.heap.size w2 wr ∧ ∀ q : Int, 9 < ownN cs q → left (.int .i64 q) = true) (fun _ wr => wr.rangeLeft w1.heap.size w2.heap.size)
      case atStart => exact ⟨_, _, H3.out.1, ⟨H3.out.2.1.os, H3.out.2.1.tape, H3.out.2.1.output, H3.out.2.1.size, fun k hk => H3.out.2.1.block k hk (by simp)⟩, HST.out⟩
      case round =>
        obtain ⟨left, cnt, hrg, hb, hbig⟩ := hrel
        have HRG := Lib.hid hrg
        have HBG := Lib.hid (And.intro hb hbig)
        clear hb hbig H3 HST
        go_wp2_with (at_next; refine wpList_next_ranges _ rfl _ rfl 3 keyed_int (rowElem (H := Unit) w2 (w1.heap.size + 1) 3 .i64) (Value.int .i64) (fun c : Option Addr × Nat × Nat => .slice c.1 c.2.1 c.2.2) (fun key kl hkey => by obtain ⟨x, rfl, _⟩ := Maps.keyOf_int_inv Tryd.underlying3 hkey; exact ⟨x, rfl⟩) (fun v y hv => by obtain ⟨zs, hz, _⟩ := rowElem_inv hv; obtain ⟨c, hc, _⟩ := row_slice hz; exact ⟨c, hc⟩) w1.heap.size w2.heap.size n _ _ _ rfl hrg ?_ ?_)
        · intro _ hl0
          have hx : X = 0 := by
            rw [HSE2.out]
            refine if_neg fun h => ?_
            obtain ⟨c, hc, h9⟩ := List.any_eq_true.1 h
            rw [decide_eq_true_iff] at h9
            have := HBG.out.2 _ h9
            rw [hl0] at this
            cases this
          subst hx
          have HZ := Lib.hid (And.intro (H2.out.1.trans (HBG.out.1.mono H2.out.1.size)) ((H2.out.2.below HBG.out.1).mono HBG.out.1.size))
          clear hl0 hrg
          go_wp2_with fail
          go_ret2
          exact ⟨HZ.out.1, _, rfl, fun _ => HZ.out.2, fun h => absurd rfl h⟩
        · intro x ca cn ck kl y1 y2 w4 cnt4 hkey hlx hRy hat hrg4 hlt4 hg4 hs4 hen
          obtain ⟨x', hx', hkl, hwf⟩ := Maps.keyOf_int_inv Tryd.underlying3 hkey
          injection hx' with _ hx'
          subst hx'
          subst hkl
          obtain ⟨zs, hz, hyz⟩ := rowElem_inv hRy
          injection hyz with hy1 hy2
          subst hy1
          obtain ⟨c2, hc2, hcl⟩ := row_slice hz
          have hzs := HD.out.at_ (hat .nil) hz
          have hcn : cn = ownN cs x := by
            have e1 := idxK_len cs x
            rw [← HN.out, ← hzs] at e1
            injection hc2 with _ h2 _
            rw [h2, hcl, e1]
          have hb4 : Below w2.heap.size w2 w4 := HBG.out.1.trans ⟨hg4.os, hg4.tape, hg4.output, hg4.size, fun k hk => hg4.block k (Nat.lt_of_lt_of_le hk HBG.out.1.size) (fun e => by injection e with e; omega)⟩
          have HX := Lib.hid (And.intro hb4 (And.intro hrg4 (And.intro hlt4 hcn)))
          have hnm : cn ≤ 9223372036854775807 := by
            have h1 : zs.length ≤ n := by
              rw [hzs]
              unfold idxK
              rw [List.length_map]
              exact Nat.le_trans (List.length_filter_le _ _) (by simp)
            rw [hcn, ← idxK_len, ← HN.out, ← hzs]
            omega
          clear hRy hy2 hat hz hc2 hcl hzs hb4 hrg4 hlt4 hcn hg4 hs4 hkey hlx hwf hrg
          by_cases h9 : 9 < cn
          · have hx : X = 2 := by
              rw [HSE2.out]
              refine if_pos (List.any_eq_true.2 ?_)
              have hpos : 0 < ((cs.filter fun c => c.thing == x)).length := by
                have := HX.out.2.2.2
                unfold ownN at this
                omega
              obtain ⟨c, hc⟩ := List.exists_mem_of_length_pos hpos
              rw [List.mem_filter, beq_iff_eq] at hc
              exact ⟨c, hc.1, by rw [decide_eq_true_iff, hc.2, ← HX.out.2.2.2]; exact h9⟩
            subst hx
            have i9 : (9 : Int) < (cn : Int) := by omega
            have HZ := Lib.hid (H2.out.1.trans (HX.out.1.mono H2.out.1.size))
            clear h9
            go_wp2_with fail
            go_ret2
            exact ⟨HZ.out, _, rfl, fun h => by omega, fun _ => rfl⟩
          · have i9 : ¬ (9 : Int) < (cn : Int) := by omega
            have H9 := Lib.hid h9
            clear h9
            go_wp2_with fail
            go_roundw
            case rel =>
              refine ⟨_, cnt4, HX.out.2.1, HX.out.1, fun q hq => ?_⟩
              rw [HBG.out.2 q hq, lit_ne (fun e => H9.out (by rw [HX.out.2.2.2, ← e]; exact hq))]
              rfl
            case measure => rw [HX.out.2.1.left_eq, HRG.out.left_eq]; exact HX.out.2.2.1
  · rw [if_pos hE] at hse
    subst hse
    have hz : (X != 0) = true := by rw [bne_iff_ne]; exact hE
    have HE := Lib.hid hE
    clear hE HCL hb1 hcr HSE hth hty hn
    go_wp2_with fail
    go_ret2
    exact ⟨HR.out.1, _, rfl, fun h => absurd h HE.out, fun _ => rfl⟩
end Go.Proofs.YtfgangkpebkicaaDoor
