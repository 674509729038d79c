/-
  Plain mathematics: what is put into a queue comes out in that order, and of a stack the other way round.
-/
import Derived.Test.YtebcnhnkpmbgdaaFrontDd
namespace Go.Proofs.Ytebcnhnkpmbgdaa
open Go.RowKit
set_option maxRecDepth 20000

def OkRow (s : List Int) : Prop := (∀ x ∈ s, 1 ≤ x ∧ x ≤ 1000) ∧ s.length ≤ 50
theorem okRow_state {typ : Int} (ht : typ = 2 ∨ typ = 3) {s : List Int} (h : OkRow s) : stateE typ s = 0 := by
  refine stateE_ok.2 ⟨by omega, h.2, (valid_row ?_).2 ⟨h.1, fun e => by omega⟩⟩
  rcases ht with rfl | rfl <;> rfl
theorem okRow_app {a b : List Int} (h : OkRow (a ++ b)) : OkRow a ∧ OkRow b :=
  ⟨⟨fun x hx => h.1 x (List.mem_append.2 (.inl hx)), by have := h.2; simp at this; omega⟩, ⟨fun x hx => h.1 x (List.mem_append.2 (.inr hx)), by have := h.2; simp at this; omega⟩⟩
abbrev enq (n : Int) : Dd := ⟨3, n, 0⟩
abbrev deq (n : Int) : Dd := ⟨4, 0, n⟩
abbrev push (n : Int) : Dd := ⟨5, n, 0⟩
abbrev pop (n : Int) : Dd := ⟨6, 0, n⟩
theorem step_put {typ kind : Int} (hk : (typ = 2 ∧ kind = 3) ∨ (typ = 3 ∧ kind = 5)) {s : List Int} {n : Int} (h : OkRow (s ++ [n])) : stepO typ s kind n = (s ++ [n], 0, 0) := by
  obtain ⟨h1, h2⟩ := okRow_app h
  have hn := h2.1 n (by simp)
  have hl : s.length < 50 := by have := h.2; simp at this; omega
  have hb : btw 1 n 1000 = true := btw_iff.2 hn
  unfold stepO
  rw [if_neg (by rw [okRow_state (by omega) h1]; decide)]
  rcases hk with ⟨rfl, rfl⟩ | ⟨rfl, rfl⟩
  · have hi : (fitsB 2 3 && takesB 3 n) = true := by
      rw [show fitsB 2 3 = true from rfl, Bool.true_and]
      exact hb
    rw [if_neg (by rw [hi]; decide)]
    show (if s.length = 50 then ([], 0, 2) else (insAt s s.length n, 0, 0)) = _
    rw [if_neg (by omega)]
    simp [insAt]
  · have hi : (fitsB 3 5 && takesB 5 n) = true := by
      rw [show fitsB 3 5 = true from rfl, Bool.true_and]
      exact hb
    rw [if_neg (by rw [hi]; decide)]
    show (if s.length = 50 then ([], 0, 2) else (insAt s s.length n, 0, 0)) = _
    rw [if_neg (by omega)]
    simp [insAt]
theorem step_deq {s : List Int} {n : Int} (h : OkRow (n :: s)) : stepO 2 (n :: s) 4 0 = (s, n, 0) := by
  unfold stepO
  rw [if_neg (by rw [okRow_state (by omega) h]; decide), if_neg (by decide)]
  show (if (n :: s).length = 0 then (n :: s, -1, 0) else (delAt (n :: s) 0, (n :: s).getD 0 0, (0 : Int))) = _
  rw [if_neg (by simp)]
  simp [delAt]
theorem step_pop {s : List Int} {n : Int} (h : OkRow (s ++ [n])) : stepO 3 (s ++ [n]) 6 0 = (s, n, 0) := by
  unfold stepO
  rw [if_neg (by rw [okRow_state (by omega) h]; decide), if_neg (by decide)]
  show (if (s ++ [n]).length = 0 then (s ++ [n], -1, 0) else (delAt (s ++ [n]) ((s ++ [n]).length - 1), (s ++ [n]).getD ((s ++ [n]).length - 1) 0, (0 : Int))) = _
  rw [if_neg (by simp)]
  simp [delAt, List.getD_eq_getElem?_getD]
theorem play_puts {typ kind : Int} (hk : (typ = 2 ∧ kind = 3) ∨ (typ = 3 ∧ kind = 5)) : ∀ (l s : List Int), OkRow (s ++ l) → playFrom typ s (l.map fun n => ⟨kind, n, 0⟩) = l.length ∧ stateFrom typ s (l.map fun n => ⟨kind, n, 0⟩) = s ++ l
  | [], s, _ => ⟨rfl, by simp [stateFrom]⟩
  | n :: l, s, h => by
    have e : s ++ n :: l = (s ++ [n]) ++ l := by simp
    rw [e] at h
    have hs := step_put hk (okRow_app h).1
    obtain ⟨h1, h2⟩ := play_puts hk l (s ++ [n]) h
    refine ⟨?_, ?_⟩
    · rw [List.map_cons, playFrom]
      simp only [hs]
      rw [if_neg (by simp), h1]
      rfl
    · rw [List.map_cons]
      show stateFrom typ (stepO typ s kind n).1 _ = _
      rw [hs, h2, e]
theorem play_deqs : ∀ (l : List Int), OkRow l → playFrom 2 l (l.map deq) = l.length ∧ stateFrom 2 l (l.map deq) = []
  | [], _ => ⟨rfl, rfl⟩
  | n :: l, h => by
    have hs := step_deq h
    have h' : OkRow l := ⟨fun x hx => h.1 x (List.mem_cons_of_mem _ hx), by have := h.2; simp at this; omega⟩
    obtain ⟨h1, h2⟩ := play_deqs l h'
    refine ⟨?_, ?_⟩
    · rw [List.map_cons, playFrom]
      simp only [hs]
      rw [if_neg (by simp), h1]
      rfl
    · rw [List.map_cons]
      show stateFrom 2 (stepO 2 (n :: l) 4 0).1 _ = _
      rw [hs, h2]
theorem play_pops : ∀ (r : List Int), OkRow r.reverse → playFrom 3 r.reverse (r.map pop) = r.length ∧ stateFrom 3 r.reverse (r.map pop) = []
  | [], _ => ⟨rfl, rfl⟩
  | n :: r, h => by
    rw [List.reverse_cons] at h ⊢
    have hs := step_pop h
    obtain ⟨h1, h2⟩ := play_pops r (okRow_app h).1
    refine ⟨?_, ?_⟩
    · rw [List.map_cons, playFrom]
      simp only [hs]
      rw [if_neg (by simp), h1]
      rfl
    · rw [List.map_cons]
      show stateFrom 3 (stepO 3 (r.reverse ++ [n]) 6 0).1 _ = _
      rw [hs, h2]
theorem play_seq {typ : Int} {s : List Int} {a : List Dd} (h : playFrom typ s a = a.length) (b : List Dd) : playFrom typ s (a ++ b) = a.length + playFrom typ (stateFrom typ s a) b := by
  rw [playFrom_app, if_neg (by omega)]
theorem stateFrom_app (typ : Int) (s : List Int) (a b : List Dd) : stateFrom typ s (a ++ b) = stateFrom typ (stateFrom typ s a) b := by
  unfold stateFrom
  rw [List.foldl_append]
/-- All of it. -/
def rowQ (l : List Int) : List Dd := l.map enq ++ l.map deq ++ [deq (-1)]
def rowS (l : List Int) : List Dd := l.map push ++ l.reverse.map pop ++ [pop (-1)]
theorem rowQ_plays {l : List Int} (h : OkRow l) : playR 2 (rowQ l) = (rowQ l).length := by
  obtain ⟨p1, s1⟩ := play_puts (typ := 2) (kind := 3) (by omega) l [] h
  obtain ⟨p2, s2⟩ := play_deqs l h
  show playFrom 2 [] _ = _
  unfold rowQ
  rw [List.append_assoc, play_seq (by simpa using p1), s1, List.nil_append, play_seq (by simpa using p2), s2]
  have : playFrom 2 [] [deq (-1)] = 1 := by decide
  rw [this]
  simp
theorem rowS_plays {l : List Int} (h : OkRow l) : playR 3 (rowS l) = (rowS l).length := by
  obtain ⟨p1, s1⟩ := play_puts (typ := 3) (kind := 5) (by omega) l [] h
  obtain ⟨p2, s2⟩ := play_pops l.reverse (by rw [List.reverse_reverse]; exact h)
  rw [List.reverse_reverse] at p2 s2
  show playFrom 3 [] _ = _
  unfold rowS
  rw [List.append_assoc, play_seq (by simpa using p1), s1, List.nil_append, play_seq (by simpa using p2), s2]
  have : playFrom 3 [] [pop (-1)] = 1 := by decide
  rw [this]
  simp
end Go.Proofs.Ytebcnhnkpmbgdaa
