/-
  Joined by a program out of: FrontPure, PartPure, Part.
-/
import Derived.Test.YtecpjeililiafaaDoorMgAA
import Derived.Test.YtecpjeililiafaaDoorMgAF
import Derived.Test.YtecpjeililiafaaDoorMgAJ

/-
  Plain mathematics for the law HistoryFront: a begin of a history.
-/
namespace Go.Proofs.YtecpjeililiafaaDoor
set_option maxRecDepth 20000

theorem step_errs {ts : List Int} {n : Nat} {cs : List Cl} {x : Ev} {r : Int} (h : step ts n cs x = .inl r) : r = 3 ∨ r = 4 ∨ r = 5 := by
  unfold step respS invS at h
  repeat' split at h
  all_goals (try cases h)
  all_goals decide
theorem run_errs {ts : List Int} : ∀ (l : List Ev) (n : Nat) (cs : List Cl), (run ts n cs l).2.2 = 0 ∨ (run ts n cs l).2.2 = 3 ∨ (run ts n cs l).2.2 = 4 ∨ (run ts n cs l).2.2 = 5
  | [], n, cs => .inl rfl
  | x :: r, n, cs => by
    rw [run]
    cases h : step ts n cs x with
    | inl e => exact .inr (step_errs h)
    | inr cs' => exact run_errs r (n + 1) cs'
theorem run_append {ts : List Int} : ∀ (l1 l2 : List Ev) (n : Nat) (cs : List Cl), run ts n cs (l1 ++ l2) = if (run ts n cs l1).2.2 = 0 then run ts (n + l1.length) (run ts n cs l1).1 l2 else run ts n cs l1
  | [], l2, n, cs => by simp [run]
  | x :: r, l2, n, cs => by
    rw [List.cons_append, run, run]
    cases h : step ts n cs x with
    | inl e =>
      have := step_err h
      simp [this]
    | inr cs' =>
      simp only
      rw [run_append r l2 (n + 1) cs', List.length_cons, show n + (r.length + 1) = n + 1 + r.length by omega]
/-- Where it falls it falls at one of these events; else there is no place. -/
theorem run_at {ts : List Int} : ∀ (l : List Ev) (n : Nat) (cs : List Cl), ((run ts n cs l).2.2 = 0 ∧ (run ts n cs l).2.1 = 0) ∨ ((run ts n cs l).2.2 ≠ 0 ∧ (run ts n cs l).1 = [] ∧ n ≤ (run ts n cs l).2.1 ∧ (run ts n cs l).2.1 < n + l.length)
  | [], n, cs => .inl ⟨rfl, rfl⟩
  | x :: r, n, cs => by
    rw [run]
    cases h : step ts n cs x with
    | inl e => exact .inr ⟨step_err h, rfl, Nat.le_refl _, by simp⟩
    | inr cs' =>
      simp only
      rcases run_at r (n + 1) cs' with h | ⟨h1, h2, h3, h4⟩
      · exact .inl h
      · exact .inr ⟨h1, h2, by omega, by simp only [List.length_cons]; omega⟩

/-- Each call begins and is answered ahead of n; what is not answered has no result. -/
def Tidy (n : Nat) (cs : List Cl) : Prop := ∀ c ∈ cs, c.til < n ∧ c.frm < n ∧ 0 ≤ c.frm ∧ (c.til = -1 → c.res = 0)
theorem step_tidy {ts : List Int} {n : Nat} {cs cs' : List Cl} {x : Ev} (h : Tidy n cs) (hs : step ts n cs x = .inr cs') : Tidy (n + 1) cs' := by
  unfold step respS invS at hs
  repeat' split at hs
  all_goals (try cases hs)
  · rename_i h1 h2 h3 h4
    intro c hc
    rcases List.mem_or_eq_of_mem_set hc with hc | rfl
    · obtain ⟨a, b, d, e⟩ := h c hc
      exact ⟨by omega, by omega, d, e⟩
    · obtain ⟨d, e1, _, _, e4⟩ := openOf_at (cs := cs) (who := x.who) (by omega)
      have : cs.getD (openOf cs x.who).toNat default = d := by rw [List.getD_eq_getElem?_getD, e1]; rfl
      simp only [this]
      obtain ⟨a, b, c', e⟩ := h d (List.mem_of_getElem? e1)
      exact ⟨by omega, by omega, c', by omega⟩
  · intro c hc
    rcases List.mem_append.1 hc with hc | hc
    · obtain ⟨a, b, d, e⟩ := h c hc
      exact ⟨by omega, by omega, d, e⟩
    · rw [List.mem_singleton] at hc
      subst hc
      simp only
      exact ⟨by omega, by omega, by omega, by simp⟩
theorem run_tidy {ts : List Int} : ∀ (l : List Ev) (n : Nat) (cs : List Cl), Tidy n cs → (run ts n cs l).2.2 = 0 → Tidy (n + l.length) (run ts n cs l).1
  | [], n, cs, h, _ => by simpa [run] using h
  | x :: r, n, cs, h, h0 => by
    rw [run] at h0 ⊢
    cases hs : step ts n cs x with
    | inl e => rw [hs] at h0; exact absurd h0 (step_err hs)
    | inr cs' =>
      rw [hs] at h0
      simp only at h0 ⊢
      have := run_tidy r (n + 1) cs' (step_tidy h hs) h0
      rwa [show n + 1 + r.length = n + (x :: r).length by simp only [List.length_cons]; omega] at this

/-- What was not answered ahead of m is not answered. -/
def before_ (m : Nat) (y : Cl) : Cl := if (m : Int) ≤ y.til then { y with res := 0, til := -1 } else y
/-- The calls c go on from the calls d as they stood at m. -/
structure Grow (m : Nat) (d c : List Cl) : Prop where
  len : d.length ≤ c.length
  same : ∀ (i : Nat) (x y : Cl), d[i]? = some x → c[i]? = some y → x = before_ m y
  new : ∀ (i : Nat) (y : Cl), d.length ≤ i → c[i]? = some y → (m : Int) ≤ y.frm
theorem Grow.refl {m : Nat} {d : List Cl} (h : Tidy m d) : Grow m d d := by
  refine ⟨Nat.le_refl _, fun i x y h1 h2 => ?_, fun i y h1 h2 => ?_⟩
  · rw [h1] at h2
    injection h2 with h2
    subst h2
    have := (h x (List.mem_of_getElem? h1)).1
    unfold before_
    rw [if_neg (by omega)]
  · have := (List.getElem?_eq_some_iff.1 h2).1
    omega
theorem Grow.step {ts : List Int} {m n : Nat} {d c c' : List Cl} {x : Ev} (h : Grow m d c) (hm : m ≤ n) (ht : Tidy n c) (hs : step ts n c x = .inr c') : Grow m d c' := by
  unfold Go.Proofs.YtecpjeililiafaaDoor.step respS invS at hs
  repeat' split at hs
  all_goals (try cases hs)
  · obtain ⟨e, e1, _, e3, e4⟩ := openOf_at (cs := c) (who := x.who) (by omega)
    have hg : c.getD (openOf c x.who).toNat default = e := by rw [List.getD_eq_getElem?_getD, e1]; rfl
    rw [hg]
    refine ⟨by rw [List.length_set]; exact h.len, fun i a b h1 h2 => ?_, fun i b h1 h2 => ?_⟩
    · rw [List.getElem?_set] at h2
      split at h2
      · rename_i hi
        subst hi
        injection h2 with h2
        subst h2
        have h3 := h.same _ _ _ h1 e1
        unfold before_ at h3 ⊢
        rw [if_neg (by omega)] at h3
        rw [if_pos (by show (m : Int) ≤ (n : Int); omega)]
        have h4 := (ht e (List.mem_of_getElem? e1)).2.2.2 e3
        subst h3
        exact Cl.same rfl rfl rfl rfl h4 rfl e3
      · exact h.same i a b h1 h2
    · rw [List.getElem?_set] at h2
      split at h2
      · rename_i hi
        subst hi
        injection h2 with h2
        subst h2
        exact h.new _ e h1 e1
      · exact h.new i b h1 h2
  · refine ⟨by rw [List.length_append]; have := h.len; omega, fun i a b h1 h2 => ?_, fun i b h1 h2 => ?_⟩
    · have hi := (List.getElem?_eq_some_iff.1 h1).1
      have := h.len
      rw [List.getElem?_append, if_pos (by omega)] at h2
      exact h.same i a b h1 h2
    · rw [List.getElem?_append] at h2
      split at h2
      · exact h.new i b h1 h2
      · have hi := (List.getElem?_eq_some_iff.1 h2).1
        simp at hi
        rw [hi] at h2
        simp at h2
        subst h2
        show (m : Int) ≤ (n : Int)
        omega
theorem Grow.run {ts : List Int} {m : Nat} {d : List Cl} : ∀ (l : List Ev) (n : Nat) (c : List Cl), Grow m d c → m ≤ n → Tidy n c → (run ts n c l).2.2 = 0 → Grow m d (run ts n c l).1
  | [], _, _, h, _, _, _ => h
  | x :: r, n, c, h, hm, ht, h0 => by
    rw [Go.Proofs.YtecpjeililiafaaDoor.run] at h0 ⊢
    cases hs : Go.Proofs.YtecpjeililiafaaDoor.step ts n c x with
    | inl e => rw [hs] at h0; exact absurd h0 (step_err hs)
    | inr c' =>
      rw [hs] at h0
      simp only at h0 ⊢
      exact Grow.run r (n + 1) c' (h.step hm ht hs) (by omega) (step_tidy ht hs) h0

/-! ### Of all calls and of those of a begin -/
theorem calls_one {ts : List Int} {l : List Ev} (h : (callsOf ts l).2.2 = 1) : callsOf ts l = ([], 0, 1) ∧ ∀ l', callsOf ts l' = ([], 0, 1) := by
  unfold callsOf at h
  cases hb : typesB ts
  · constructor
    · unfold callsOf; rw [if_pos hb]
    · intro l'; unfold callsOf; rw [if_pos hb]
  · rw [hb, if_neg (by decide)] at h
    split at h
    · cases h
    · rcases run_errs (ts := ts) l 0 [] with e | e | e | e <;> rw [e] at h <;> cases h
/-- Neither 1 nor 2: it is the run, and of a begin, too. -/
theorem calls_run {ts : List Int} {l : List Ev} (h1 : (callsOf ts l).2.2 ≠ 1) (h2 : (callsOf ts l).2.2 ≠ 2) (n : Nat) : callsOf ts l = run ts 0 [] l ∧ callsOf ts (l.take n) = run ts 0 [] (l.take n) := by
  cases hb : typesB ts
  · exact absurd (by unfold callsOf; rw [if_pos hb]) h1
  · by_cases hl : 200 < l.length
    · refine absurd ?_ h2
      unfold callsOf
      rw [hb, if_neg (by decide), if_pos hl]
    · have : ¬ 200 < (l.take n).length := by rw [List.length_take]; omega
      constructor
      · unfold callsOf; rw [hb, if_neg (by decide), if_neg hl]
      · unfold callsOf; rw [hb, if_neg (by decide), if_neg this]
theorem run_cut {ts : List Int} (l : List Ev) {n : Nat} (hn : n ≤ l.length) : run ts 0 [] l = if (run ts 0 [] (l.take n)).2.2 = 0 then run ts n (run ts 0 [] (l.take n)).1 (l.drop n) else run ts 0 [] (l.take n) := by
  have h := run_append (ts := ts) (l.take n) (l.drop n) 0 []
  rw [List.take_append_drop, List.length_take, Nat.zero_add, Nat.min_eq_left hn] at h
  exact h
theorem front_late {ts : List Int} {l : List Ev} {n : Nat} (hn : n ≤ l.length) (h : (run ts 0 [] l).2.2 ≠ 0) (hl : (run ts 0 [] l).2.1 < n) : run ts 0 [] (l.take n) = run ts 0 [] l := by
  have hc := run_cut (ts := ts) l hn
  by_cases h0 : (run ts 0 [] (l.take n)).2.2 = 0
  · rw [if_pos h0] at hc
    rcases run_at (ts := ts) (l.drop n) n (run ts 0 [] (l.take n)).1 with ⟨e, _⟩ | ⟨_, _, e, _⟩
    · rw [← hc] at e; exact absurd e h
    · rw [← hc] at e; omega
  · rw [if_neg h0] at hc
    exact hc.symm
theorem front_soon {ts : List Int} {l : List Ev} {n : Nat} (hn : n ≤ l.length) (hl : n ≤ (run ts 0 [] l).2.1) : (run ts 0 [] (l.take n)).2.2 = 0 := by
  apply Classical.byContradiction
  intro h0
  have hc := run_cut (ts := ts) l hn
  rw [if_neg h0] at hc
  rcases run_at (ts := ts) (l.take n) 0 [] with ⟨e, _⟩ | ⟨_, _, _, e⟩
  · exact h0 e
  · rw [← hc, List.length_take] at e
    omega
theorem front_ok {ts : List Int} {l : List Ev} {n : Nat} (hn : n ≤ l.length) (h : (run ts 0 [] l).2.2 = 0) : (run ts 0 [] (l.take n)).2.2 = 0 ∧ Grow n (run ts 0 [] (l.take n)).1 (run ts 0 [] l).1 := by
  have hc := run_cut (ts := ts) l hn
  by_cases h0 : (run ts 0 [] (l.take n)).2.2 = 0
  · refine ⟨h0, ?_⟩
    rw [if_pos h0] at hc
    have ht := run_tidy (ts := ts) (l.take n) 0 [] (fun c hc => by simp at hc) h0
    rw [List.length_take, Nat.zero_add, Nat.min_eq_left hn] at ht
    have := Grow.run (ts := ts) (l.drop n) n _ (Grow.refl ht) (Nat.le_refl _) ht (by rw [← hc]; exact h)
    rwa [← hc] at this
  · rw [if_neg h0] at hc
    rw [hc] at h
    exact absurd h h0
end Go.Proofs.YtecpjeililiafaaDoor

/-
  Plain mathematics for parts: the events of one thing of a history are one.
-/
namespace Go.Proofs.YtecpjeililiafaaDoor
set_option maxRecDepth 20000

/-- What somebody waits for: the thing and the kind. -/
def openK (cs : List Cl) (who : Int) : Option (Int × Int) := if 0 ≤ openOf cs who then some ((cs.getD (openOf cs who).toNat default).thing, (cs.getD (openOf cs who).toNat default).kind) else none
def updK (o : Int → Option (Int × Int)) (who : Int) (v : Option (Int × Int)) : Int → Option (Int × Int) := fun w => if w = who then v else o w
/-- One more event, by what all wait for. -/
def stepK (ts : List Int) (o : Int → Option (Int × Int)) (x : Ev) : Option (Int → Option (Int × Int)) :=
  if ¬ (0 ≤ x.who ∧ x.who ≤ 7) ∨ ¬ (0 ≤ x.thing ∧ x.thing < ts.length) then none
  else if x.kind = 0 then
    match o x.who with
    | none => none
    | some tk => if tk.1 = x.thing ∧ givesB tk.2 x.val = true then some (updK o x.who none) else none
  else if fitsB (ts.getD x.thing.toNat 0) x.kind = true ∧ takesB x.kind x.val = true ∧ o x.who = none then some (updK o x.who (some (x.thing, x.kind))) else none
def runK (ts : List Int) : (Int → Option (Int × Int)) → List Ev → Bool
  | _, [] => true
  | o, x :: r => match stepK ts o x with
    | none => false
    | some o' => runK ts o' r

theorem openK_at {cs : List Cl} (h1 : OneOpen cs) {i : Nat} {c : Cl} (hc : cs[i]? = some c) (ht : c.til = -1) : openK cs c.who = some (c.thing, c.kind) := by
  have := openOf_eq h1 hc rfl ht
  unfold openK
  rw [this, if_pos (by omega), Int.toNat_natCast, List.getD_eq_getElem?_getD, hc]
  rfl
theorem openK_none {cs : List Cl} {who : Int} (h : openOf cs who < 0) : openK cs who = none := by
  unfold openK
  rw [if_neg (by omega)]
theorem openK_ways (cs : List Cl) (who : Int) : (openOf cs who < 0 ∧ openK cs who = none) ∨ ∃ (i : Nat) (c : Cl), cs[i]? = some c ∧ c.who = who ∧ c.til = -1 ∧ openOf cs who = (i : Int) ∧ openK cs who = some (c.thing, c.kind) := by
  by_cases h : 0 ≤ openOf cs who
  · obtain ⟨c, e1, e2, e3, e4⟩ := openOf_at h
    refine .inr ⟨_, c, e1, e2, e3, by omega, ?_⟩
    unfold openK
    rw [if_pos h, List.getD_eq_getElem?_getD, e1]
    rfl
  · exact .inl ⟨by omega, openK_none (by omega)⟩

theorem openK_snoc (cs : List Cl) (c : Cl) (ht : c.til = -1) : openK (cs ++ [c]) = updK (openK cs) c.who (some (c.thing, c.kind)) := by
  funext w
  unfold openK updK
  by_cases e : w = c.who
  · subst e
    have h1 : openOf (cs ++ [c]) c.who = (cs.length : Int) := by rw [openOf_snoc, if_pos ⟨rfl, ht⟩]
    rw [h1, if_pos (by omega), if_pos rfl, Int.toNat_natCast]
    simp
  · have h1 : openOf (cs ++ [c]) w = openOf cs w := by rw [openOf_snoc, if_neg (fun h => e h.1.symm)]
    rw [h1, if_neg e]
    show _ = if 0 ≤ openOf cs w then _ else _
    split
    · have := openOf_lt cs w
      rw [List.getD_eq_getElem?_getD, List.getElem?_append, if_pos (by omega), ← List.getD_eq_getElem?_getD]
    · rfl
theorem openK_set {cs : List Cl} (h : OneOpen cs) {who : Int} (h0 : 0 ≤ openOf cs who) {c : Cl} (hc : c.til ≠ -1) : openK (cs.set (openOf cs who).toNat c) = updK (openK cs) who none := by
  funext w
  unfold openK updK
  rw [openOf_set h h0 hc]
  by_cases e : w = who
  · subst e
    simp
  · rw [if_neg e, if_neg e]
    show _ = if 0 ≤ openOf cs w then _ else _
    by_cases hw : 0 ≤ openOf cs w
    · rw [if_pos hw, if_pos hw]
      have hne : (openOf cs who).toNat ≠ (openOf cs w).toNat := by
        intro he
        obtain ⟨a, a1, a2, a3, a4⟩ := openOf_at h0
        obtain ⟨b, b1, b2, b3, b4⟩ := openOf_at hw
        rw [he, b1] at a1
        injection a1 with a1
        subst a1
        exact e (b2.symm.trans a2)
      rw [List.getD_eq_getElem?_getD, List.getElem?_set, if_neg hne, ← List.getD_eq_getElem?_getD]
    · rw [if_neg hw, if_neg hw]

theorem step_K {ts : List Int} {n : Nat} {cs : List Cl} {x : Ev} (h1 : OneOpen cs) :
    (∃ e, step ts n cs x = .inl e ∧ stepK ts (openK cs) x = none) ∨ (∃ cs', step ts n cs x = .inr cs' ∧ OneOpen cs' ∧ stepK ts (openK cs) x = some (openK cs')) := by
  unfold step stepK
  by_cases hr : ¬ (0 ≤ x.who ∧ x.who ≤ 7) ∨ ¬ (0 ≤ x.thing ∧ x.thing < ts.length)
  · rw [if_pos hr, if_pos hr]; exact .inl ⟨_, rfl, rfl⟩
  · rw [if_neg hr, if_neg hr]
    by_cases hk : x.kind = 0
    · rw [if_pos hk, if_pos hk]
      unfold respS
      rcases openK_ways cs x.who with ⟨a1, a2⟩ | ⟨i, c, b1, b2, b3, b4, b5⟩
      · rw [if_pos a1, a2]; exact .inl ⟨_, rfl, rfl⟩
      · have hg : cs.getD (openOf cs x.who).toNat default = c := by rw [b4, Int.toNat_natCast, List.getD_eq_getElem?_getD, b1]; rfl
        rw [if_neg (by omega), hg, b5]
        simp only
        by_cases hg2 : c.thing = x.thing ∧ givesB c.kind x.val = true
        · rw [if_neg (by rintro (h | h); exact h hg2.1; rw [hg2.2] at h; cases h), if_pos hg2]
          have ht : ({ c with res := x.val, til := (n : Int) } : Cl).til ≠ -1 := by show (n : Int) ≠ -1; omega
          exact .inr ⟨_, rfl, h1.set _ ht, by rw [openK_set h1 (by omega) ht]⟩
        · rw [if_pos (by
            by_cases hq : c.thing = x.thing
            · right
              cases hgv : givesB c.kind x.val
              · rfl
              · exact absurd ⟨hq, hgv⟩ hg2
            · exact .inl hq), if_neg hg2]
          exact .inl ⟨_, rfl, rfl⟩
    · rw [if_neg hk, if_neg hk]
      unfold invS
      by_cases hf : fitsB (ts.getD x.thing.toNat 0) x.kind = true ∧ takesB x.kind x.val = true
      · rw [if_neg (by rintro (h | h); rw [hf.1] at h; cases h; rw [hf.2] at h; cases h)]
        rcases openK_ways cs x.who with ⟨a1, a2⟩ | ⟨i, c, b1, b2, b3, b4, b5⟩
        · rw [if_neg (by omega), a2, if_pos ⟨hf.1, hf.2, rfl⟩]
          exact .inr ⟨_, rfl, h1.snoc a1, by rw [openK_snoc _ _ rfl]⟩
        · rw [if_pos (by omega), b5, if_neg (fun h => by cases h.2.2)]
          exact .inl ⟨_, rfl, rfl⟩
      · rw [if_pos (by
          cases h2 : fitsB (ts.getD x.thing.toNat 0) x.kind
          · exact .inl rfl
          · right
            cases h3 : takesB x.kind x.val
            · rfl
            · exact absurd ⟨h2, h3⟩ hf), if_neg (fun h => hf ⟨h.1, h.2.1⟩)]
        exact .inl ⟨_, rfl, rfl⟩
theorem run_K {ts : List Int} : ∀ (l : List Ev) (n : Nat) (cs : List Cl), OneOpen cs → decide ((run ts n cs l).2.2 = 0) = runK ts (openK cs) l
  | [], n, cs, _ => by simp [run, runK]
  | x :: r, n, cs, h => by
    rw [run, runK]
    rcases step_K (ts := ts) (n := n) (x := x) h with ⟨e, h1, h2⟩ | ⟨cs', h1, h2, h3⟩
    · rw [h1, h2]
      exact decide_eq_false (step_err h1)
    · rw [h1, h3]
      exact run_K r (n + 1) cs' h2
/-- What is waited for of thing q alone. -/
def only (q : Int) (o : Int → Option (Int × Int)) : Int → Option (Int × Int) := fun w => (o w).filter fun tk => tk.1 == q
theorem only_upd (q : Int) (o : Int → Option (Int × Int)) (who : Int) (v : Option (Int × Int)) : only q (updK o who v) = updK (only q o) who (v.filter fun tk => tk.1 == q) := by
  funext w
  unfold only updK
  split <;> rfl
theorem upd_same {o : Int → Option (Int × Int)} {who : Int} {v : Option (Int × Int)} (h : o who = v) : updK o who v = o := by
  funext w
  unfold updK
  split
  · next e => rw [e, h]
  · rfl
theorem stepK_only {ts : List Int} {o o' : Int → Option (Int × Int)} {x : Ev} (q : Int) (h : stepK ts o x = some o') : if x.thing = q then stepK ts (only q o) x = some (only q o') else only q o' = only q o := by
  unfold stepK at h
  split at h
  · cases h
  · rename_i hr
    split at h
    · rename_i hk
      split at h
      · cases h
      · rename_i tk ho
        split at h
        · rename_i hg
          injection h with h
          subst h
          by_cases hq : x.thing = q
          · rw [if_pos hq]
            unfold stepK
            have h2 : only q o x.who = some tk := by
              unfold only
              rw [ho, Option.filter_some, if_pos (by rw [beq_iff_eq, hg.1, hq])]
            rw [if_neg hr, if_pos hk, h2]
            simp only
            rw [if_pos hg, only_upd]
            rfl
          · rw [if_neg hq, only_upd]
            refine upd_same ?_
            unfold only
            rw [ho, Option.filter_some, if_neg (by rw [beq_iff_eq, hg.1]; exact hq)]
            rfl
        · cases h
    · rename_i hk
      split at h
      · rename_i hg
        injection h with h
        subst h
        have h2 : only q o x.who = none := by unfold only; rw [hg.2.2]; rfl
        by_cases hq : x.thing = q
        · rw [if_pos hq]
          unfold stepK
          rw [if_neg hr, if_neg hk, if_pos ⟨hg.1, hg.2.1, h2⟩, only_upd, Option.filter_some, if_pos (by rw [beq_iff_eq]; exact hq)]
        · rw [if_neg hq, only_upd, Option.filter_some, if_neg (by rw [beq_iff_eq]; exact hq)]
          exact upd_same h2
      · cases h
theorem runK_only {ts : List Int} (q : Int) : ∀ (l : List Ev) (o : Int → Option (Int × Int)), runK ts o l = true → runK ts (only q o) (l.filter fun x => x.thing == q) = true
  | [], _, _ => rfl
  | x :: r, o, h => by
    rw [runK] at h
    cases hs : stepK ts o x with
    | none => rw [hs] at h; cases h
    | some o' =>
      rw [hs] at h
      have h2 := stepK_only q hs
      by_cases hq : x.thing = q
      · rw [if_pos hq] at h2
        rw [List.filter_cons_of_pos (by rw [beq_iff_eq]; exact hq), runK, h2]
        exact runK_only q r o' h
      · rw [if_neg hq] at h2
        rw [List.filter_cons_of_neg (by rw [beq_iff_eq]; exact hq), ← h2]
        exact runK_only q r o' h
theorem runK_range {ts : List Int} : ∀ (l : List Ev) (o : Int → Option (Int × Int)), runK ts o l = true → ∀ x ∈ l, 0 ≤ x.thing ∧ x.thing < ts.length
  | [], _, _ => fun x hx => by simp at hx
  | y :: r, o, h => fun x hx => by
    rw [runK] at h
    cases hs : stepK ts o y with
    | none => rw [hs] at h; cases h
    | some o' =>
      rw [hs] at h
      rcases List.mem_cons.1 hx with rfl | hx
      · unfold stepK at hs
        split at hs
        · cases hs
        · rename_i hr
          omega
      · exact runK_range r o' h x hx

/-- The part of thing q of a history is one. -/
def partL (l : List Ev) (q : Int) : List Ev := l.filter fun x => x.thing == q
theorem calls_zero {ts : List Int} {l : List Ev} (h : (callsOf ts l).2.2 = 0) : typesB ts = true ∧ l.length ≤ 200 ∧ callsOf ts l = run ts 0 [] l := by
  unfold callsOf at h ⊢
  cases hb : typesB ts
  · rw [hb, if_pos rfl] at h; cases h
  · rw [hb, if_neg (by decide)] at h
    rw [if_neg (by decide)]
    split at h
    · cases h
    · rename_i hl
      exact ⟨rfl, by omega, if_neg hl⟩
theorem part_ok {ts : List Int} {l : List Ev} (h : (callsOf ts l).2.2 = 0) (q : Int) : (callsOf ts (partL l q)).2.2 = 0 := by
  obtain ⟨h1, h2, h3⟩ := calls_zero h
  have hl : (partL l q).length ≤ l.length := List.length_filter_le _ _
  rw [h3] at h
  unfold callsOf
  rw [h1, if_neg (by decide), if_neg (by omega)]
  have h4 := run_K (ts := ts) l 0 [] OneOpen.nil
  rw [decide_eq_true h] at h4
  have h5 := runK_only (ts := ts) q l _ h4.symm
  have e0 : only q (openK []) = openK [] := by
    funext w
    unfold only
    rw [openK_none (cs := []) (who := w) (by show (-1 : Int) < 0; decide)]
    rfl
  rw [e0] at h5
  have h6 := run_K (ts := ts) (partL l q) 0 [] OneOpen.nil
  unfold partL at h6 ⊢
  rw [h5] at h6
  exact of_decide_eq_true h6
theorem part_range {ts : List Int} {l : List Ev} (h : (callsOf ts l).2.2 = 0) : ∀ x ∈ l, 0 ≤ x.thing ∧ x.thing < ts.length := by
  obtain ⟨h1, h2, h3⟩ := calls_zero h
  rw [h3] at h
  have h4 := run_K (ts := ts) l 0 [] OneOpen.nil
  rw [decide_eq_true h] at h4
  exact runK_range l _ h4.symm
/-- How many events the first k parts have. -/
def partsUp (l : List Ev) : Nat → Nat
  | 0 => 0
  | k + 1 => partsUp l k + (partL l (k : Int)).length
theorem partsUp_cons (x : Ev) (r : List Ev) : ∀ k : Nat, 0 ≤ x.thing → partsUp (x :: r) k = partsUp r k + if x.thing < (k : Int) then 1 else 0
  | 0, h => by rw [if_neg (by omega)]; rfl
  | k + 1, h => by
    rw [partsUp, partsUp, partsUp_cons x r k h]
    unfold partL
    by_cases e : x.thing = (k : Int)
    · rw [List.filter_cons_of_pos (by rw [beq_iff_eq]; exact e), if_neg (by omega), if_pos (by omega), List.length_cons]
      omega
    · rw [List.filter_cons_of_neg (by rw [beq_iff_eq]; exact e)]
      by_cases e2 : x.thing < (k : Int)
      · rw [if_pos e2, if_pos (by omega)]; omega
      · rw [if_neg e2, if_neg (by omega)]; omega
theorem partsUp_all : ∀ (l : List Ev) (k : Nat), (∀ x ∈ l, 0 ≤ x.thing ∧ x.thing < (k : Int)) → partsUp l k = l.length
  | [], k, _ => by
    have : ∀ k, partsUp [] k = 0 := by
      intro k
      induction k with
      | zero => rfl
      | succ k ih => rw [partsUp, ih]; rfl
    exact this k
  | x :: r, k, h => by
    have h1 := h x List.mem_cons_self
    rw [partsUp_cons x r k h1.1, if_pos h1.2, partsUp_all r k (fun y hy => h y (List.mem_cons_of_mem _ hy)), List.length_cons]
end Go.Proofs.YtecpjeililiafaaDoor

/-
  Contract of history.Part.
-/
namespace Go.Proofs.YtecpjeililiafaaDoor
open Go.RowKit
set_option maxRecDepth 20000

/-- The events of one thing, or the error. -/
def partOf (ts : List Int) (l : List Ev) (q : Int) : List Ev × Int := if (callsOf ts l).2.2 ≠ 0 then ([], (callsOf ts l).2.2) else if ¬ (0 ≤ q ∧ q < ts.length) then ([], 4) else (partL l q, 0)
def PartPost (w : World) (o : List Ev × Int) (e : Ending) (w' : World) : Prop :=
  ∃ v, e = .returned (.tuple #[v, .int .i64 o.2]) ∧ Below w.heap.size w w' ∧ ERd w' w'.heap.size v o.1

theorem partL_take {l : List Ev} {k : Nat} {x : Ev} (hx : l[k]? = some x) (q : Int) : partL (l.take (k + 1)) q = if x.thing = q then partL (l.take k) q ++ [x] else partL (l.take k) q := by
  unfold partL
  rw [List.take_add_one, hx, List.filter_append]
  by_cases h : x.thing = q <;> simp [h]

set_option maxHeartbeats 4000000 in
theorem part_any {tv lv : Value} {ts : List Int} {l : List Ev} {w : World} (ht : NRd w w.heap.size tv ts) (hl : ERd w w.heap.size lv l) (q : Int) :
    Calls Tryd.prog 56 #[tv, lv, .int .i64 q] w (PartPost w (partOf ts l q)) := by
  have er : partOf ts l q = if (callsOf ts l).2.2 ≠ 0 then ([], (callsOf ts l).2.2) else if ¬ (0 ≤ q ∧ q < ts.length) then ([], 4) else (partL l q, 0) := rfl
  generalize partOf ts l q = o at er ⊢
  obtain ⟨At, capt, rfl, m1, m2⟩ := ht.is
  obtain ⟨Al, capl, rfl, m3, m4⟩ := hl.is
  unfold maxLen at m2 m4
  have HL := Lib.hid hl
  have HC := Lib.hid (calls_any ht hl)
  have HE := Lib.hid er
  clear ht hl er
  obtain ⟨L, hL⟩ : ∃ L, L = l.length := ⟨_, rfl⟩
  rw [← hL]
  rw [← hL] at m3 HC
  have HLL := Lib.hid hL
  clear hL
  have hw : IntKind.i64.wrap ((ts.length : Int) - 1) = (ts.length : Int) - 1 := by rw [IntKind.wrap_i64]; omega
  go_enter Tryd.func56, Tryd.ntmps56
  go_wp2_with fail
  refine HC.out.mono ?_
  rintro e w1 ⟨v1, rfl, hb1, -⟩
  have H1 := Lib.hid hb1
  clear HC hb1
  by_cases h0 : (callsOf ts l).2.2 = 0
  · have hlen := (calls_zero h0).2.1
    have HZ := Lib.hid h0
    have er := HE.out
    rw [if_neg (by rw [h0]; decide)] at er
    rw [h0]
    generalize (callsOf ts l).2.1 = a
    clear h0 HE
    cases c1 : btw 0 q ((ts.length : Int) - 1)
    · have hc1 := btw_not.1 c1
      rw [if_pos (by omega)] at er
      subst er
      go_wp2_with fail
      refine (within_any _ _ _ _).mono ?_
      rintro e w' ⟨rfl, rfl⟩
      go_wp2_with fail
      go_ret2
      exact ⟨_, rfl, H1.out, LRd.nil _ _⟩
    · have hc1 := btw_iff.1 c1
      rw [if_neg (by omega)] at er
      subst er
      have hL200 : L ≤ 200 := by rw [HLL.out]; exact hlen
      clear hc1
      go_wp2_with fail
      refine (within_any _ _ _ _).mono ?_
      rintro e w' ⟨rfl, rfl⟩
      go_wp2_with fail
      clear c1
      go_loopw [11, 32] (fun v i wr => ∃ (k : Nat) (v0 : Value), k ≤ L ∧ i = .int .i64 k ∧ v0 = v ∧ EOwn wr w.heap.size v0 (partL (l.take k) q) ∧ Below w.heap.size w wr) (fun _ i _ => L - (intOf i).toNat)
      case atStart => exact ⟨0, _, by omega, rfl, rfl, World.ownsRow_nil _ _ _ _, H1.out⟩
      case round =>
        clear H1
        obtain ⟨k, v0, hk, rfl, rfl, ho, hb⟩ := hrel
        by_cases hkL : k < L
        · obtain ⟨x, hx⟩ : ∃ x, l[k]? = some x := ⟨_, List.getElem?_eq_getElem (by rw [← HLL.out]; exact hkL)⟩
          have hst := partL_take hx q
          have hl' := HL.out.below hb
          rw [← HLL.out] at hl'
          obtain ⟨g, o, rfl, -, d0, d1, d2, d3⟩ := hl'.ev hx
          have i1 : (0 : Int) ≤ (k : Int) := by omega
          have i2 : (k : Int) < (L : Int) := by omega
          have hpl : (partL (l.take k) q).length ≤ 65536 := by
            have h1 : (partL (l.take k) q).length ≤ (l.take k).length := List.length_filter_le _ _
            have h2 : (l.take k).length ≤ k := List.length_take_le _ _
            omega
          have hbs := hb.size
          have HB := Lib.hid (And.intro ho (And.intro hb (And.intro hst hpl)))
          clear hl' hx ho hb hst hpl
          obtain ⟨xw, xt, xk, xv⟩ := x
          by_cases hq : xt = q
          · subst hq
            have HO := Lib.hid ((HB.out.1.alloc (.cells (evCs ⟨xw, xt, xk, xv⟩).toArray 77)).alloc (.cells (evCs ⟨xw, xt, xk, xv⟩).toArray 77))
            have HW := Lib.hid ((HB.out.2.1.alloc hbs (.cells (evCs ⟨xw, xt, xk, xv⟩).toArray 77)).alloc (by simp; omega) (.cells (evCs ⟨xw, xt, xk, xv⟩).toArray 77))
            have HNC := Lib.hid (new_cells (wr.alloc (.cells (evCs ⟨xw, xt, xk, xv⟩).toArray 77)) 77 (evCs ⟨xw, xt, xk, xv⟩))
            go_wp2_with (at_builtin; refine wpList_app_ev rfl (.tmp 40) (.tmp 42) rfl w.heap.size (wr.heap.size + 1) _ (partL (l.take k) xt) ⟨xw, xt, xk, xv⟩ rfl rfl HO.out (by simp) HB.out.2.2.2 HW.out.size ?_; intro v' w5 ho5 hb5 hg5; have HN := Lib.hid (And.intro ho5 hb5); clear ho5 hb5 hg5)
            go_roundw
            case rel =>
              refine ⟨k + 1, _, by omega, by go_num, rfl, ?_, HW.out.trans HN.out.2⟩
              rw [HB.out.2.2.1, if_pos rfl]
              exact HN.out.1
            case measure => simp [intOf]; omega
          · have hz : (xt == q) = false := by rw [beq_eq_false_iff_ne]; exact hq
            have HQ := Lib.hid hq
            clear hq
            go_wp2_with fail
            go_roundw
            case rel =>
              refine ⟨k + 1, _, by omega, by go_num, rfl, ?_, HB.out.2.1.alloc hbs _⟩
              rw [HB.out.2.2.1, if_neg HQ.out]
              exact HB.out.1.alloc _
            case measure => simp [intOf]; omega
        · obtain rfl : k = L := by omega
          have HB := Lib.hid (And.intro ho hb)
          have hbs := hb.size
          clear ho hb
          go_wp2_with fail
          go_ret2
          refine ⟨_, rfl, HB.out.2, ?_⟩
          have := HB.out.1.rd
          rw [HLL.out, List.take_length] at this
          exact this
  · have er := HE.out
    rw [if_pos h0] at er
    have hz : ((callsOf ts l).2.2 != 0) = true := by rw [bne_iff_ne]; exact h0
    generalize (callsOf ts l).2.2 = r at hz er ⊢
    generalize (callsOf ts l).2.1 = a
    have HE2 := Lib.hid er
    clear h0 HE er
    go_wp2_with fail
    go_ret2
    have e := HE2.out
    subst e
    exact ⟨_, rfl, H1.out, LRd.nil _ _⟩
end Go.Proofs.YtecpjeililiafaaDoor
