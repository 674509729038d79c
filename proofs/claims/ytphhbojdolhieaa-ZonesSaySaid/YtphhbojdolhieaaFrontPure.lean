/-
  Plain mathematics for the law HistoryFront: a begin of a history.
-/
import Derived.Test.YtphhbojdolhieaaHistPure
namespace Go.Proofs.Ytphhbojdolhieaa
set_option maxRecDepth 20000
theorem step_errs {ts : List Int} {n : Nat} {cs : List Cl} {x : Ev} {r : Int} (h : step ts n cs x = .inl r) : r = 3 ∨ r = 4 ∨ r = 5 := by
  unfold step respS invS at h
  repeat' split at h
  all_goals (try cases h)
  all_goals decide
theorem run_errs {ts : List Int} : ∀ (l : List Ev) (n : Nat) (cs : List Cl), (run ts n cs l).2.2 = 0 ∨ (run ts n cs l).2.2 = 3 ∨ (run ts n cs l).2.2 = 4 ∨ (run ts n cs l).2.2 = 5
  | [], n, cs => .inl rfl
  | x :: r, n, cs => by
    rw [run]
    cases h : step ts n cs x with
    | inl e => exact .inr (step_errs h)
    | inr cs' => exact run_errs r (n + 1) cs'
theorem run_append {ts : List Int} : ∀ (l1 l2 : List Ev) (n : Nat) (cs : List Cl), run ts n cs (l1 ++ l2) = if (run ts n cs l1).2.2 = 0 then run ts (n + l1.length) (run ts n cs l1).1 l2 else run ts n cs l1
  | [], l2, n, cs => by simp [run]
  | x :: r, l2, n, cs => by
    rw [List.cons_append, run, run]
    cases h : step ts n cs x with
    | inl e =>
      have := step_err h
      simp [this]
    | inr cs' =>
      simp only
      rw [run_append r l2 (n + 1) cs', List.length_cons, show n + (r.length + 1) = n + 1 + r.length by omega]
/-- Where it falls it falls at one of these events; else there is no place. -/
theorem run_at {ts : List Int} : ∀ (l : List Ev) (n : Nat) (cs : List Cl), ((run ts n cs l).2.2 = 0 ∧ (run ts n cs l).2.1 = 0) ∨ ((run ts n cs l).2.2 ≠ 0 ∧ (run ts n cs l).1 = [] ∧ n ≤ (run ts n cs l).2.1 ∧ (run ts n cs l).2.1 < n + l.length)
  | [], n, cs => .inl ⟨rfl, rfl⟩
  | x :: r, n, cs => by
    rw [run]
    cases h : step ts n cs x with
    | inl e => exact .inr ⟨step_err h, rfl, Nat.le_refl _, by simp⟩
    | inr cs' =>
      simp only
      rcases run_at r (n + 1) cs' with h | ⟨h1, h2, h3, h4⟩
      · exact .inl h
      · exact .inr ⟨h1, h2, by omega, by simp only [List.length_cons]; omega⟩
/-- Each call begins and is answered ahead of n; what is not answered has no result. -/
def Tidy (n : Nat) (cs : List Cl) : Prop := ∀ c ∈ cs, c.til < n ∧ c.frm < n ∧ 0 ≤ c.frm ∧ (c.til = -1 → c.res = 0)
theorem step_tidy {ts : List Int} {n : Nat} {cs cs' : List Cl} {x : Ev} (h : Tidy n cs) (hs : step ts n cs x = .inr cs') : Tidy (n + 1) cs' := by
  unfold step respS invS at hs
  repeat' split at hs
  all_goals (try cases hs)
  · rename_i h1 h2 h3 h4
    intro c hc
    rcases List.mem_or_eq_of_mem_set hc with hc | rfl
    · obtain ⟨a, b, d, e⟩ := h c hc
      exact ⟨by omega, by omega, d, e⟩
    · obtain ⟨d, e1, _, _, e4⟩ := openOf_at (cs := cs) (who := x.who) (by omega)
      have : cs.getD (openOf cs x.who).toNat default = d := by rw [List.getD_eq_getElem?_getD, e1]; rfl
      simp only [this]
      obtain ⟨a, b, c', e⟩ := h d (List.mem_of_getElem? e1)
      exact ⟨by omega, by omega, c', by omega⟩
  · intro c hc
    rcases List.mem_append.1 hc with hc | hc
    · obtain ⟨a, b, d, e⟩ := h c hc
      exact ⟨by omega, by omega, d, e⟩
    · rw [List.mem_singleton] at hc
      subst hc
      simp only
      exact ⟨by omega, by omega, by omega, by simp⟩
theorem run_tidy {ts : List Int} : ∀ (l : List Ev) (n : Nat) (cs : List Cl), Tidy n cs → (run ts n cs l).2.2 = 0 → Tidy (n + l.length) (run ts n cs l).1
  | [], n, cs, h, _ => by simpa [run] using h
  | x :: r, n, cs, h, h0 => by
    rw [run] at h0 ⊢
    cases hs : step ts n cs x with
    | inl e => rw [hs] at h0; exact absurd h0 (step_err hs)
    | inr cs' =>
      rw [hs] at h0
      simp only at h0 ⊢
      have := run_tidy r (n + 1) cs' (step_tidy h hs) h0
      rwa [show n + 1 + r.length = n + (x :: r).length by simp only [List.length_cons]; omega] at this
/-- What was not answered ahead of m is not answered. -/
def before_ (m : Nat) (y : Cl) : Cl := if (m : Int) ≤ y.til then { y with res := 0, til := -1 } else y
/-- The calls c go on from the calls d as they stood at m. -/
structure Grow (m : Nat) (d c : List Cl) : Prop where
  len : d.length ≤ c.length
  same : ∀ (i : Nat) (x y : Cl), d[i]? = some x → c[i]? = some y → x = before_ m y
  new : ∀ (i : Nat) (y : Cl), d.length ≤ i → c[i]? = some y → (m : Int) ≤ y.frm
theorem Grow.refl {m : Nat} {d : List Cl} (h : Tidy m d) : Grow m d d := by
  refine ⟨Nat.le_refl _, fun i x y h1 h2 => ?_, fun i y h1 h2 => ?_⟩
  · rw [h1] at h2
    injection h2 with h2
    subst h2
    have := (h x (List.mem_of_getElem? h1)).1
    unfold before_
    rw [if_neg (by omega)]
  · have := (List.getElem?_eq_some_iff.1 h2).1
    omega
theorem Grow.step {ts : List Int} {m n : Nat} {d c c' : List Cl} {x : Ev} (h : Grow m d c) (hm : m ≤ n) (ht : Tidy n c) (hs : step ts n c x = .inr c') : Grow m d c' := by
  unfold Go.Proofs.Ytphhbojdolhieaa.step respS invS at hs
  repeat' split at hs
  all_goals (try cases hs)
  · obtain ⟨e, e1, _, e3, e4⟩ := openOf_at (cs := c) (who := x.who) (by omega)
    have hg : c.getD (openOf c x.who).toNat default = e := by rw [List.getD_eq_getElem?_getD, e1]; rfl
    rw [hg]
    refine ⟨by rw [List.length_set]; exact h.len, fun i a b h1 h2 => ?_, fun i b h1 h2 => ?_⟩
    · rw [List.getElem?_set] at h2
      split at h2
      · rename_i hi
        subst hi
        injection h2 with h2
        subst h2
        have h3 := h.same _ _ _ h1 e1
        unfold before_ at h3 ⊢
        rw [if_neg (by omega)] at h3
        rw [if_pos (by show (m : Int) ≤ (n : Int); omega)]
        have h4 := (ht e (List.mem_of_getElem? e1)).2.2.2 e3
        subst h3
        exact Cl.same rfl rfl rfl rfl h4 rfl e3
      · exact h.same i a b h1 h2
    · rw [List.getElem?_set] at h2
      split at h2
      · rename_i hi
        subst hi
        injection h2 with h2
        subst h2
        exact h.new _ e h1 e1
      · exact h.new i b h1 h2
  · refine ⟨by rw [List.length_append]; have := h.len; omega, fun i a b h1 h2 => ?_, fun i b h1 h2 => ?_⟩
    · have hi := (List.getElem?_eq_some_iff.1 h1).1
      have := h.len
      rw [List.getElem?_append, if_pos (by omega)] at h2
      exact h.same i a b h1 h2
    · rw [List.getElem?_append] at h2
      split at h2
      · exact h.new i b h1 h2
      · have hi := (List.getElem?_eq_some_iff.1 h2).1
        simp at hi
        rw [hi] at h2
        simp at h2
        subst h2
        show (m : Int) ≤ (n : Int)
        omega
theorem Grow.run {ts : List Int} {m : Nat} {d : List Cl} : ∀ (l : List Ev) (n : Nat) (c : List Cl), Grow m d c → m ≤ n → Tidy n c → (run ts n c l).2.2 = 0 → Grow m d (run ts n c l).1
  | [], _, _, h, _, _, _ => h
  | x :: r, n, c, h, hm, ht, h0 => by
    rw [Go.Proofs.Ytphhbojdolhieaa.run] at h0 ⊢
    cases hs : Go.Proofs.Ytphhbojdolhieaa.step ts n c x with
    | inl e => rw [hs] at h0; exact absurd h0 (step_err hs)
    | inr c' =>
      rw [hs] at h0
      simp only at h0 ⊢
      exact Grow.run r (n + 1) c' (h.step hm ht hs) (by omega) (step_tidy ht hs) h0
theorem calls_one {ts : List Int} {l : List Ev} (h : (callsOf ts l).2.2 = 1) : callsOf ts l = ([], 0, 1) ∧ ∀ l', callsOf ts l' = ([], 0, 1) := by
  unfold callsOf at h
  cases hb : typesB ts
  · constructor
    · unfold callsOf; rw [if_pos hb]
    · intro l'; unfold callsOf; rw [if_pos hb]
  · rw [hb, if_neg (by decide)] at h
    split at h
    · cases h
    · rcases run_errs (ts := ts) l 0 [] with e | e | e | e <;> rw [e] at h <;> cases h
/-- Neither 1 nor 2: it is the run, and of a begin, too. -/
theorem calls_run {ts : List Int} {l : List Ev} (h1 : (callsOf ts l).2.2 ≠ 1) (h2 : (callsOf ts l).2.2 ≠ 2) (n : Nat) : callsOf ts l = run ts 0 [] l ∧ callsOf ts (l.take n) = run ts 0 [] (l.take n) := by
  cases hb : typesB ts
  · exact absurd (by unfold callsOf; rw [if_pos hb]) h1
  · by_cases hl : 200 < l.length
    · refine absurd ?_ h2
      unfold callsOf
      rw [hb, if_neg (by decide), if_pos hl]
    · have : ¬ 200 < (l.take n).length := by rw [List.length_take]; omega
      constructor
      · unfold callsOf; rw [hb, if_neg (by decide), if_neg hl]
      · unfold callsOf; rw [hb, if_neg (by decide), if_neg this]
theorem run_cut {ts : List Int} (l : List Ev) {n : Nat} (hn : n ≤ l.length) : run ts 0 [] l = if (run ts 0 [] (l.take n)).2.2 = 0 then run ts n (run ts 0 [] (l.take n)).1 (l.drop n) else run ts 0 [] (l.take n) := by
  have h := run_append (ts := ts) (l.take n) (l.drop n) 0 []
  rw [List.take_append_drop, List.length_take, Nat.zero_add, Nat.min_eq_left hn] at h
  exact h
theorem front_late {ts : List Int} {l : List Ev} {n : Nat} (hn : n ≤ l.length) (h : (run ts 0 [] l).2.2 ≠ 0) (hl : (run ts 0 [] l).2.1 < n) : run ts 0 [] (l.take n) = run ts 0 [] l := by
  have hc := run_cut (ts := ts) l hn
  by_cases h0 : (run ts 0 [] (l.take n)).2.2 = 0
  · rw [if_pos h0] at hc
    rcases run_at (ts := ts) (l.drop n) n (run ts 0 [] (l.take n)).1 with ⟨e, _⟩ | ⟨_, _, e, _⟩
    · rw [← hc] at e; exact absurd e h
    · rw [← hc] at e; omega
  · rw [if_neg h0] at hc
    exact hc.symm
theorem front_soon {ts : List Int} {l : List Ev} {n : Nat} (hn : n ≤ l.length) (hl : n ≤ (run ts 0 [] l).2.1) : (run ts 0 [] (l.take n)).2.2 = 0 := by
  apply Classical.byContradiction
  intro h0
  have hc := run_cut (ts := ts) l hn
  rw [if_neg h0] at hc
  rcases run_at (ts := ts) (l.take n) 0 [] with ⟨e, _⟩ | ⟨_, _, _, e⟩
  · exact h0 e
  · rw [← hc, List.length_take] at e
    omega
theorem front_ok {ts : List Int} {l : List Ev} {n : Nat} (hn : n ≤ l.length) (h : (run ts 0 [] l).2.2 = 0) : (run ts 0 [] (l.take n)).2.2 = 0 ∧ Grow n (run ts 0 [] (l.take n)).1 (run ts 0 [] l).1 := by
  have hc := run_cut (ts := ts) l hn
  by_cases h0 : (run ts 0 [] (l.take n)).2.2 = 0
  · refine ⟨h0, ?_⟩
    rw [if_pos h0] at hc
    have ht := run_tidy (ts := ts) (l.take n) 0 [] (fun c hc => by simp at hc) h0
    rw [List.length_take, Nat.zero_add, Nat.min_eq_left hn] at ht
    have := Grow.run (ts := ts) (l.drop n) n _ (Grow.refl ht) (Nat.le_refl _) ht (by rw [← hc]; exact h)
    rwa [← hc] at this
  · rw [if_neg h0] at hc
    rw [hc] at h
    exact absurd h h0
end Go.Proofs.Ytphhbojdolhieaa
