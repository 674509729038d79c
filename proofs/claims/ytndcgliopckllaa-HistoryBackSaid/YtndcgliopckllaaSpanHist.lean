/-
  Plain mathematics for the law HistorySpans: the calls of a history by spans of time.
-/
import Derived.Test.YtndcgliopckllaaFrontPure
import Derived.Test.YtndcgliopckllaaAheadPure
import Derived.Test.YtndcgliopckllaaGood
namespace Go.Proofs.Ytndcgliopckllaa
open Go.RowKit
set_option maxRecDepth 20000

/-- Calls of a history: each ends behind its begin; one's own stand one ahead of the next. -/
structure Orderly (n : Nat) (cs : List Cl) : Prop where
  tidy : Tidy n cs
  ends : ∀ c ∈ cs, c.til = -1 ∨ c.frm < c.til
  own : ∀ (i j : Nat) (c d : Cl), i < j → cs[i]? = some c → cs[j]? = some d → c.who = d.who → c.til ≠ -1 ∧ c.til < d.frm
theorem step_orderly {ts : List Int} {n : Nat} {cs cs' : List Cl} {x : Ev} (h : Orderly n cs) (hs : step ts n cs x = .inr cs') : Orderly (n + 1) cs' := by
  refine ⟨step_tidy h.tidy hs, ?_, ?_⟩
  · unfold step respS invS at hs
    repeat' split at hs
    all_goals (try cases hs)
    · obtain ⟨e, e1, _, _, e4⟩ := openOf_at (cs := cs) (who := x.who) (by omega)
      have hg : cs.getD (openOf cs x.who).toNat default = e := by rw [List.getD_eq_getElem?_getD, e1]; rfl
      intro c hc
      rcases List.mem_or_eq_of_mem_set hc with hc | rfl
      · exact h.ends c hc
      · rw [hg]
        right
        show e.frm < (n : Int)
        exact (h.tidy e (List.mem_of_getElem? e1)).2.1
    · intro c hc
      rcases List.mem_append.1 hc with hc | hc
      · exact h.ends c hc
      · rw [List.mem_singleton] at hc
        subst hc
        exact .inl rfl
  · unfold step respS invS at hs
    repeat' split at hs
    all_goals (try cases hs)
    · obtain ⟨e, e1, _, e3, e4⟩ := openOf_at (cs := cs) (who := x.who) (by omega)
      have hg : cs.getD (openOf cs x.who).toNat default = e := by rw [List.getD_eq_getElem?_getD, e1]; rfl
      rw [hg]
      intro i j c d hij hc hd hw
      rw [List.getElem?_set] at hc hd
      split at hc
      · rename_i hi
        subst hi
        injection hc with hc
        subst hc
        rw [if_neg (by omega)] at hd
        exact absurd e3 (h.own _ j e d hij e1 hd hw).1
      · split at hd
        · rename_i hj
          subst hj
          injection hd with hd
          subst hd
          exact h.own i _ c e hij hc e1 hw
        · exact h.own i j c d hij hc hd hw
    · intro i j c d hij hc hd hw
      have hjl := (List.getElem?_eq_some_iff.1 hd).1
      rw [List.length_append] at hjl
      simp only [List.length_cons, List.length_nil] at hjl
      rw [List.getElem?_append, if_pos (by omega)] at hc
      rw [List.getElem?_append] at hd
      split at hd
      · exact h.own i j c d hij hc hd hw
      · have : j - cs.length = 0 := by omega
        rw [this] at hd
        simp at hd
        subst hd
        have h1 := openOf_none (cs := cs) (who := x.who) (by omega) hc hw
        exact ⟨h1, (h.tidy c (List.mem_of_getElem? hc)).1⟩
theorem run_orderly {ts : List Int} : ∀ (l : List Ev) (n : Nat) (cs : List Cl), Orderly n cs → (run ts n cs l).2.2 = 0 → Orderly (n + l.length) (run ts n cs l).1
  | [], n, cs, h, _ => by simpa [run] using h
  | x :: r, n, cs, h, h0 => by
    rw [run] at h0 ⊢
    cases hs : step ts n cs x with
    | inl e => rw [hs] at h0; exact absurd h0 (step_err hs)
    | inr cs' =>
      rw [hs] at h0
      simp only at h0 ⊢
      have := run_orderly r (n + 1) cs' (step_orderly h hs) h0
      rwa [show n + 1 + r.length = n + (x :: r).length by simp only [List.length_cons]; omega] at this
theorem calls_orderly {ts : List Int} {l : List Ev} (h : (callsOf ts l).2.2 = 0) : Orderly l.length (callsOf ts l).1 ∧ l.length ≤ 200 := by
  unfold callsOf at h ⊢
  cases hb : typesB ts
  · rw [hb, if_pos rfl] at h; cases h
  · rw [hb, if_neg (by decide)] at h
    rw [if_neg (by decide)]
    split at h
    · cases h
    · rename_i hl
      rw [if_neg hl]
      have := run_orderly (ts := ts) l 0 [] ⟨fun c hc => by simp at hc, fun c hc => by simp at hc, fun i j c d _ hc => by simp at hc⟩ h
      rw [Nat.zero_add] at this
      exact ⟨this, by omega⟩

/-- Where a call's span ends. -/
def endOf (L : Nat) (c : Cl) : Int := if c.til = -1 then (L : Int) else c.til
def spansL (L : Nat) (cs : List Cl) : List (Int × Int) := cs.map fun c => (c.frm, endOf L c)
def frmF (s : List (Int × Int)) (i : Nat) : Int := (s.getD i (0, 0)).1
def tilF (s : List (Int × Int)) (i : Nat) : Int := (s.getD i (0, 0)).2
theorem spans_at {L : Nat} {cs : List Cl} {i : Nat} {c : Cl} (h : cs[i]? = some c) : frmF (spansL L cs) i = c.frm ∧ tilF (spansL L cs) i = endOf L c := by
  unfold frmF tilF spansL
  rw [List.getD_eq_getElem?_getD, List.getElem?_map, h]
  exact ⟨rfl, rfl⟩
theorem spans_ok {L : Nat} {cs : List Cl} (h : Orderly L cs) (hL : L ≤ 200) (hn : cs.length ≤ 12) : spErr cs.length (frmF (spansL L cs)) (tilF (spansL L cs)) = 0 := by
  refine spErr_zero.2 ⟨hn, fun i hi => ?_⟩
  obtain ⟨c, hc⟩ : ∃ c, cs[i]? = some c := ⟨_, List.getElem?_eq_getElem hi⟩
  obtain ⟨e1, e2⟩ := spans_at (L := L) hc
  unfold spOk
  rw [e1, e2, decide_eq_true_iff]
  obtain ⟨t1, t2, t3, t4⟩ := h.tidy c (List.mem_of_getElem? hc)
  have t5 := h.ends c (List.mem_of_getElem? hc)
  unfold endOf
  split <;> omega
theorem spans_rel {L : Nat} {cs : List Cl} (h : Orderly L cs) : spRel cs.length (frmF (spansL L cs)) (tilF (spansL L cs)) = relP (aheadB cs) cs.length := by
  funext i
  apply Nat.eq_of_testBit_eq
  intro j
  rw [spRel_bit, relP_bit]
  by_cases hi : i < cs.length
  · by_cases hj : j < cs.length
    · obtain ⟨c, hc⟩ : ∃ c, cs[i]? = some c := ⟨_, List.getElem?_eq_getElem hi⟩
      obtain ⟨d, hd⟩ : ∃ d, cs[j]? = some d := ⟨_, List.getElem?_eq_getElem hj⟩
      rw [(spans_at (L := L) hc).2, (spans_at (L := L) hd).1, aheadB_at hc hd]
      have t2 := (h.tidy d (List.mem_of_getElem? hd)).2.1
      congr 1
      rw [Bool.eq_iff_iff, decide_eq_true_iff, decide_eq_true_iff]
      unfold endOf
      split <;> omega
    · simp [hj]
  · simp [hi]
/-- It is an order, closed, and not round. -/
theorem rel_good {L : Nat} {cs : List Cl} (h : Orderly L cs) (hn : cs.length ≤ 12) :
    Good cs.length (relP (aheadB cs) cs.length) ∧ clo cs.length (relP (aheadB cs) cs.length) = relP (aheadB cs) cs.length ∧ cyc (clo cs.length (relP (aheadB cs) cs.length)) cs.length = false := by
  have hg : Good cs.length (relP (aheadB cs) cs.length) := good_of hn (fun i _ => relP_lt _ hn i) (fun i _ j hj => by
    rw [relP_bit] at hj
    simp only [Bool.and_eq_true, decide_eq_true_iff] at hj
    exact hj.1.2) (fun i _ hi => by unfold relP; rw [if_neg (by omega)])
  have ht : TransV cs.length (relP (aheadB cs) cs.length) := by
    intro i hi v hv hiv j hj
    rw [relP_bit] at hiv hj ⊢
    simp only [Bool.and_eq_true, decide_eq_true_iff] at hiv hj ⊢
    obtain ⟨c, hc⟩ : ∃ c, cs[i]? = some c := ⟨_, List.getElem?_eq_getElem hi⟩
    obtain ⟨d, hd⟩ : ∃ d, cs[v]? = some d := ⟨_, List.getElem?_eq_getElem hv⟩
    obtain ⟨e, he⟩ : ∃ e, cs[j]? = some e := ⟨_, List.getElem?_eq_getElem hj.1.2⟩
    rw [aheadB_at hc hd, decide_eq_true_iff] at hiv
    rw [aheadB_at hd he, decide_eq_true_iff] at hj
    rw [aheadB_at hc he, decide_eq_true_iff]
    have t5 := h.ends d (List.mem_of_getElem? hd)
    exact ⟨⟨hi, hj.1.2⟩, hiv.2.1, by omega⟩
  have hcl : clo cs.length (relP (aheadB cs) cs.length) = relP (aheadB cs) cs.length := warsh_still ht _ (Nat.le_refl _)
  refine ⟨hg, hcl, ?_⟩
  rw [hcl]
  cases hc : cyc (relP (aheadB cs) cs.length) cs.length
  · rfl
  · obtain ⟨v, hv, hb⟩ := (cyc_iff _ _).1 hc
    rw [relP_bit] at hb
    simp only [Bool.and_eq_true, decide_eq_true_iff] at hb
    obtain ⟨c, hc⟩ : ∃ c, cs[v]? = some c := ⟨_, List.getElem?_eq_getElem hv⟩
    rw [aheadB_at hc hc, decide_eq_true_iff] at hb
    have t5 := h.ends c (List.mem_of_getElem? hc)
    omega
/-- One's own calls: the bit is set. -/
theorem own_bit {L : Nat} {cs : List Cl} (h : Orderly L cs) {i j : Nat} {c d : Cl} (hij : i < j) (hc : cs[i]? = some c) (hd : cs[j]? = some d) (hw : c.who = d.who) : (relP (aheadB cs) cs.length i).testBit j = true := by
  rw [relP_bit, aheadB_at hc hd]
  have h1 := (List.getElem?_eq_some_iff.1 hc).1
  have h2 := (List.getElem?_eq_some_iff.1 hd).1
  have h3 := h.own i j c d hij hc hd hw
  simp [h1, h2, h3.1, h3.2]
theorem spansL_take {L : Nat} {cs : List Cl} {k : Nat} {c : Cl} (h : cs[k]? = some c) : spansL L (cs.take (k + 1)) = spansL L (cs.take k) ++ [(c.frm, endOf L c)] := by
  unfold spansL
  rw [List.take_add_one, h, List.map_append]
  rfl
end Go.Proofs.Ytndcgliopckllaa
