/-
  Plain mathematics: the calls of a history: each ends behind its begin; one's own stand one ahead of the next.
-/
import Derived.Test.YtphhbojdolhieaaFrontPure
namespace Go.Proofs.Ytphhbojdolhieaa
set_option maxRecDepth 20000
/-- Calls of a history: each ends behind its begin; one's own stand one ahead of the next. -/
structure Orderly (n : Nat) (cs : List Cl) : Prop where
  tidy : Tidy n cs
  ends : ∀ c ∈ cs, c.til = -1 ∨ c.frm < c.til
  own : ∀ (i j : Nat) (c d : Cl), i < j → cs[i]? = some c → cs[j]? = some d → c.who = d.who → c.til ≠ -1 ∧ c.til < d.frm
theorem step_orderly {ts : List Int} {n : Nat} {cs cs' : List Cl} {x : Ev} (h : Orderly n cs) (hs : step ts n cs x = .inr cs') : Orderly (n + 1) cs' := by
  refine ⟨step_tidy h.tidy hs, ?_, ?_⟩
  · unfold step respS invS at hs
    repeat' split at hs
    all_goals (try cases hs)
    · obtain ⟨e, e1, _, _, e4⟩ := openOf_at (cs := cs) (who := x.who) (by omega)
      have hg : cs.getD (openOf cs x.who).toNat default = e := by rw [List.getD_eq_getElem?_getD, e1]; rfl
      intro c hc
      rcases List.mem_or_eq_of_mem_set hc with hc | rfl
      · exact h.ends c hc
      · rw [hg]
        right
        show e.frm < (n : Int)
        exact (h.tidy e (List.mem_of_getElem? e1)).2.1
    · intro c hc
      rcases List.mem_append.1 hc with hc | hc
      · exact h.ends c hc
      · rw [List.mem_singleton] at hc
        subst hc
        exact .inl rfl
  · unfold step respS invS at hs
    repeat' split at hs
    all_goals (try cases hs)
    · obtain ⟨e, e1, _, e3, e4⟩ := openOf_at (cs := cs) (who := x.who) (by omega)
      have hg : cs.getD (openOf cs x.who).toNat default = e := by rw [List.getD_eq_getElem?_getD, e1]; rfl
      rw [hg]
      intro i j c d hij hc hd hw
      rw [List.getElem?_set] at hc hd
      split at hc
      · rename_i hi
        subst hi
        injection hc with hc
        subst hc
        rw [if_neg (by omega)] at hd
        exact absurd e3 (h.own _ j e d hij e1 hd hw).1
      · split at hd
        · rename_i hj
          subst hj
          injection hd with hd
          subst hd
          exact h.own i _ c e hij hc e1 hw
        · exact h.own i j c d hij hc hd hw
    · intro i j c d hij hc hd hw
      have hjl := (List.getElem?_eq_some_iff.1 hd).1
      rw [List.length_append] at hjl
      simp only [List.length_cons, List.length_nil] at hjl
      rw [List.getElem?_append, if_pos (by omega)] at hc
      rw [List.getElem?_append] at hd
      split at hd
      · exact h.own i j c d hij hc hd hw
      · have : j - cs.length = 0 := by omega
        rw [this] at hd
        simp at hd
        subst hd
        have h1 := openOf_none (cs := cs) (who := x.who) (by omega) hc hw
        exact ⟨h1, (h.tidy c (List.mem_of_getElem? hc)).1⟩
theorem run_orderly {ts : List Int} : ∀ (l : List Ev) (n : Nat) (cs : List Cl), Orderly n cs → (run ts n cs l).2.2 = 0 → Orderly (n + l.length) (run ts n cs l).1
  | [], n, cs, h, _ => by simpa [run] using h
  | x :: r, n, cs, h, h0 => by
    rw [run] at h0 ⊢
    cases hs : step ts n cs x with
    | inl e => rw [hs] at h0; exact absurd h0 (step_err hs)
    | inr cs' =>
      rw [hs] at h0
      simp only at h0 ⊢
      have := run_orderly r (n + 1) cs' (step_orderly h hs) h0
      rwa [show n + 1 + r.length = n + (x :: r).length by simp only [List.length_cons]; omega] at this
theorem calls_orderly {ts : List Int} {l : List Ev} (h : (callsOf ts l).2.2 = 0) : Orderly l.length (callsOf ts l).1 ∧ l.length ≤ 200 := by
  unfold callsOf at h ⊢
  cases hb : typesB ts
  · rw [hb, if_pos rfl] at h; cases h
  · rw [hb, if_neg (by decide)] at h
    rw [if_neg (by decide)]
    split at h
    · cases h
    · rename_i hl
      rw [if_neg hl]
      have := run_orderly (ts := ts) l 0 [] ⟨fun c hc => by simp at hc, fun c hc => by simp at hc, fun i j c d _ hc => by simp at hc⟩ h
      rw [Nat.zero_add] at this
      exact ⟨this, by omega⟩
end Go.Proofs.Ytphhbojdolhieaa
