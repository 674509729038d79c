/-
  Joined by a program out of: HistPure, FrontPure.
-/
import Derived.Test.YthjmncngegchjaaProg
import Derived.WalkKit

/-
  Plain mathematics for package history: events, calls, which calls a list of events tells. No Go, no program.
-/
namespace Go.Proofs.Ythjmncngegchjaa
open Go.RowKit
set_option maxRecDepth 20000
/-- An event. -/
structure Ev where
  who : Int
  thing : Int
  kind : Int
  val : Int
/-- A call. -/
structure Cl where
  who : Int
  thing : Int
  kind : Int
  arg : Int
  res : Int
  frm : Int
  til : Int
theorem Ev.same {a b : Ev} (h1 : a.who = b.who) (h2 : a.thing = b.thing) (h3 : a.kind = b.kind) (h4 : a.val = b.val) : a = b := by
  cases a; cases b; simp at h1 h2 h3 h4; subst h1 h2 h3 h4; rfl
theorem Cl.same {a b : Cl} (h1 : a.who = b.who) (h2 : a.thing = b.thing) (h3 : a.kind = b.kind) (h4 : a.arg = b.arg) (h5 : a.res = b.res) (h6 : a.frm = b.frm) (h7 : a.til = b.til) : a = b := by
  cases a; cases b; simp at h1 h2 h3 h4 h5 h6 h7; subst h1 h2 h3 h4 h5 h6 h7; rfl
instance : DecidableEq Ev := fun a b =>
  if h : a.who = b.who ∧ a.thing = b.thing ∧ a.kind = b.kind ∧ a.val = b.val then isTrue (Ev.same h.1 h.2.1 h.2.2.1 h.2.2.2)
  else isFalse fun e => h (by subst e; exact ⟨rfl, rfl, rfl, rfl⟩)
instance : DecidableEq Cl := fun a b =>
  if h : a.who = b.who ∧ a.thing = b.thing ∧ a.kind = b.kind ∧ a.arg = b.arg ∧ a.res = b.res ∧ a.frm = b.frm ∧ a.til = b.til then isTrue (Cl.same h.1 h.2.1 h.2.2.1 h.2.2.2.1 h.2.2.2.2.1 h.2.2.2.2.2.1 h.2.2.2.2.2.2)
  else isFalse fun e => h (by subst e; exact ⟨rfl, rfl, rfl, rfl, rfl, rfl, rfl⟩)
instance : Inhabited Ev := ⟨⟨0, 0, 0, 0⟩⟩
instance : Inhabited Cl := ⟨⟨0, 0, 0, 0, 0, 0, 0⟩⟩
/-- Between two bounds, both let in. -/
def btw (a n b : Int) : Bool := decide (a ≤ n ∧ n ≤ b)
theorem btw_iff {a n b : Int} : btw a n b = true ↔ a ≤ n ∧ n ≤ b := decide_eq_true_iff
theorem btw_not {a n b : Int} : btw a n b = false ↔ ¬ (a ≤ n ∧ n ≤ b) := decide_eq_false_iff_not
/-- The type to which a kind belongs, or 0. -/
def kindType (k : Int) : Int := if k = 1 ∨ k = 2 then 1 else if k = 3 ∨ k = 4 then 2 else if k = 5 ∨ k = 6 then 3 else if k = 7 ∨ k = 8 ∨ k = 9 then 4 else if k = 10 then 5 else 0
def fitsB (t k : Int) : Bool := decide (t ≠ 0 ∧ t = kindType k)
/-- May a kind be called so? -/
def takesB (k v : Int) : Bool := if k = 1 ∨ k = 3 ∨ k = 5 ∨ k = 7 ∨ k = 8 ∨ k = 9 then btw 1 v 1000 else v == 0
/-- May a kind be answered so? -/
def givesB (k v : Int) : Bool := if k = 2 ∨ k = 10 then btw 0 v 1000 else if k = 4 ∨ k = 6 then v == -1 || btw 1 v 1000 else if k = 7 ∨ k = 8 ∨ k = 9 then btw 0 v 1 else v == 0
theorem kindType_le (k : Int) : 0 ≤ kindType k ∧ kindType k ≤ 5 := by unfold kindType; (repeat' split) <;> omega
theorem fits_kind {t k : Int} (h : fitsB t k = true) : 1 ≤ k ∧ k ≤ 10 ∧ 1 ≤ t ∧ t ≤ 5 := by
  unfold fitsB at h
  rw [decide_eq_true_iff] at h
  obtain ⟨h1, h2⟩ := h
  unfold kindType at h2
  repeat' split at h2
  all_goals omega
/-- The last of the calls (the first of which is number k) that is theirs and open; else what was found before. -/
def openFrom (who : Int) : Nat → Int → List Cl → Int
  | _, a, [] => a
  | k, a, c :: r => openFrom who (k + 1) (if c.who = who ∧ c.til = -1 then (k : Int) else a) r
def openOf (cs : List Cl) (who : Int) : Int := openFrom who 0 (-1) cs
/-- What an answer makes of the calls, or the error. -/
def respS (n : Nat) (cs : List Cl) (x : Ev) : Int ⊕ List Cl :=
  if openOf cs x.who < 0 then .inl 4
  else if (cs.getD (openOf cs x.who).toNat default).thing ≠ x.thing ∨ givesB (cs.getD (openOf cs x.who).toNat default).kind x.val = false then .inl 3
  else .inr (cs.set (openOf cs x.who).toNat { cs.getD (openOf cs x.who).toNat default with res := x.val, til := n })
/-- What a new call makes of the calls, or the error. -/
def invS (ts : List Int) (n : Nat) (cs : List Cl) (x : Ev) : Int ⊕ List Cl :=
  if fitsB (ts.getD x.thing.toNat 0) x.kind = false ∨ takesB x.kind x.val = false then .inl 3
  else if 0 ≤ openOf cs x.who then .inl 5
  else .inr (cs ++ [⟨x.who, x.thing, x.kind, x.val, 0, n, -1⟩])
/-- What one more event makes of the calls, or the error. -/
def step (ts : List Int) (n : Nat) (cs : List Cl) (x : Ev) : Int ⊕ List Cl :=
  if ¬ (0 ≤ x.who ∧ x.who ≤ 7) ∨ ¬ (0 ≤ x.thing ∧ x.thing < ts.length) then .inl 3
  else if x.kind = 0 then respS n cs x else invS ts n cs x
/-- The calls that the events tell, the first of which is number n, behind those of the events before. -/
def run (ts : List Int) : Nat → List Cl → List Ev → List Cl × Nat × Int
  | _, cs, [] => (cs, 0, 0)
  | n, cs, x :: r => match step ts n cs x with
    | .inl e => ([], n, e)
    | .inr cs' => run ts (n + 1) cs' r
def typesB (ts : List Int) : Bool := decide (1 ≤ ts.length ∧ ts.length ≤ 4) && ts.all fun t => decide (1 ≤ t ∧ t ≤ 5)
/-- The calls of a history, or the place of the first fault and the error. -/
def callsOf (ts : List Int) (l : List Ev) : List Cl × Nat × Int :=
  if typesB ts = false then ([], 0, 1) else if 200 < l.length then ([], 0, 2) else run ts 0 [] l
theorem openFrom_ge (who : Int) : ∀ (cs : List Cl) (k : Nat) (a : Int), (openFrom who k a cs = a) ∨ (∃ i c, cs[i]? = some c ∧ c.who = who ∧ c.til = -1 ∧ openFrom who k a cs = ((k + i : Nat) : Int))
  | [], k, a => .inl rfl
  | c :: r, k, a => by
    rw [openFrom]
    rcases openFrom_ge who r (k + 1) (if c.who = who ∧ c.til = -1 then (k : Int) else a) with h | ⟨i, d, h1, h2, h3, h4⟩
    · rw [h]
      by_cases hc : c.who = who ∧ c.til = -1
      · rw [if_pos hc]
        exact .inr ⟨0, c, rfl, hc.1, hc.2, rfl⟩
      · rw [if_neg hc]
        exact .inl rfl
    · exact .inr ⟨i + 1, d, by simpa using h1, h2, h3, by rw [h4]; congr 1; omega⟩
/-- Where something is open it is one's own call, not answered. -/
theorem openOf_at {cs : List Cl} {who : Int} (h : 0 ≤ openOf cs who) : ∃ c, cs[(openOf cs who).toNat]? = some c ∧ c.who = who ∧ c.til = -1 ∧ (openOf cs who).toNat < cs.length := by
  unfold openOf at h ⊢
  rcases openFrom_ge who cs 0 (-1) with h1 | ⟨i, c, h1, h2, h3, h4⟩
  · omega
  · rw [h4]
    have : ((0 + i : Nat) : Int).toNat = i := by omega
    rw [this]
    exact ⟨c, h1, h2, h3, (List.getElem?_eq_some_iff.1 h1).1⟩
theorem openOf_ge (cs : List Cl) (who : Int) : -1 ≤ openOf cs who := by
  unfold openOf
  rcases openFrom_ge who cs 0 (-1) with h1 | ⟨i, c, h1, h2, h3, h4⟩
  · omega
  · omega
theorem openOf_lt (cs : List Cl) (who : Int) : openOf cs who < cs.length := by
  by_cases h : 0 ≤ openOf cs who
  · obtain ⟨c, h1, h2, h3, h4⟩ := openOf_at h
    omega
  · have := openOf_ge cs who
    omega
theorem openFrom_append (who : Int) : ∀ (cs : List Cl) (k : Nat) (a : Int) (r : List Cl), openFrom who k a (cs ++ r) = openFrom who (k + cs.length) (openFrom who k a cs) r
  | [], k, a, r => by simp [openFrom]
  | c :: cs, k, a, r => by
    rw [List.cons_append, openFrom, openFrom_append who cs, openFrom]
    congr 1
    simp; omega
theorem openOf_snoc (cs : List Cl) (c : Cl) (who : Int) : openOf (cs ++ [c]) who = if c.who = who ∧ c.til = -1 then (cs.length : Int) else openOf cs who := by
  unfold openOf
  rw [openFrom_append, openFrom, openFrom]
  simp
/-- Each has at most one call that is open. -/
def OneOpen (cs : List Cl) : Prop := ∀ (i j : Nat) (c d : Cl), cs[i]? = some c → cs[j]? = some d → c.who = d.who → c.til = -1 → d.til = -1 → i = j
theorem openOf_none {cs : List Cl} {who : Int} (h : openOf cs who < 0) {i : Nat} {c : Cl} (hc : cs[i]? = some c) (hw : c.who = who) : c.til ≠ -1 := by
  intro ht
  have hlt : i < cs.length := (List.getElem?_eq_some_iff.1 hc).1
  have e : cs = cs.take i ++ (c :: cs.drop (i + 1)) := by
    have h1 : cs.drop i = c :: cs.drop (i + 1) := by
      rw [List.drop_eq_getElem_cons hlt, (List.getElem?_eq_some_iff.1 hc).2]
    rw [← h1, List.take_append_drop]
  have key : ∀ (r : List Cl) (k : Nat) (a : Int), 0 ≤ a → 0 ≤ openFrom who k a r := by
    intro r k a ha
    rcases openFrom_ge who r k a with h1 | ⟨i, c, h1, h2, h3, h4⟩
    · omega
    · omega
  unfold openOf at h
  rw [e, openFrom_append, openFrom, if_pos ⟨hw, ht⟩] at h
  have := key (cs.drop (i + 1)) (0 + (cs.take i).length + 1) (((0 + (cs.take i).length : Nat)) : Int) (by omega)
  omega
/-- With one at most, it is just that one. -/
theorem openOf_eq {cs : List Cl} {who : Int} (h1 : OneOpen cs) {i : Nat} {c : Cl} (hc : cs[i]? = some c) (hw : c.who = who) (ht : c.til = -1) : openOf cs who = (i : Int) := by
  have h0 : 0 ≤ openOf cs who := by
    apply Classical.byContradiction
    intro hn
    exact openOf_none (by omega) hc hw ht
  obtain ⟨d, e1, e2, e3, _⟩ := openOf_at h0
  have := h1 _ _ _ _ hc e1 (by rw [hw, e2]) ht e3
  omega
theorem openOf_iff {cs : List Cl} (h1 : OneOpen cs) {who : Int} {i : Nat} : openOf cs who = (i : Int) ↔ ∃ c, cs[i]? = some c ∧ c.who = who ∧ c.til = -1 := by
  constructor
  · intro h
    obtain ⟨c, e1, e2, e3, _⟩ := openOf_at (cs := cs) (who := who) (by omega)
    rw [h] at e1
    exact ⟨c, by simpa using e1, e2, e3⟩
  · rintro ⟨c, e1, e2, e3⟩
    exact openOf_eq h1 e1 e2 e3
theorem OneOpen.nil : OneOpen [] := fun i j c d h => by simp at h
theorem OneOpen.snoc {cs : List Cl} (h : OneOpen cs) {c : Cl} (hc : openOf cs c.who < 0) : OneOpen (cs ++ [c]) := by
  intro i j a b ha hb hw h1 h2
  rw [List.getElem?_append] at ha hb
  split at ha
  · split at hb
    · exact h i j a b ha hb hw h1 h2
    · have : j - cs.length = 0 := by
        apply Classical.byContradiction; intro hn
        rw [List.getElem?_eq_none (by simp; omega)] at hb; cases hb
      rw [this] at hb
      simp at hb
      subst hb
      exact absurd h1 (openOf_none hc ha hw)
  · have hi : i - cs.length = 0 := by
      apply Classical.byContradiction; intro hn
      rw [List.getElem?_eq_none (by simp; omega)] at ha; cases ha
    rw [hi] at ha
    simp at ha
    subst ha
    split at hb
    · exact absurd h2 (openOf_none hc hb hw.symm)
    · have : j - cs.length = 0 := by
        apply Classical.byContradiction; intro hn
        rw [List.getElem?_eq_none (by simp; omega)] at hb; cases hb
      omega
theorem OneOpen.set {cs : List Cl} (h : OneOpen cs) (k : Nat) {c : Cl} (hc : c.til ≠ -1) : OneOpen (cs.set k c) := by
  intro i j a b ha hb hw h1 h2
  rw [List.getElem?_set] at ha hb
  split at ha
  · split at ha
    · injection ha with ha; subst ha; exact absurd h1 hc
    · cases ha
  · split at hb
    · split at hb
      · injection hb with hb; subst hb; exact absurd h2 hc
      · cases hb
    · exact h i j a b ha hb hw h1 h2
theorem openOf_set {cs : List Cl} (h : OneOpen cs) {who who' : Int} (h0 : 0 ≤ openOf cs who) {c : Cl} (hc : c.til ≠ -1) :
    openOf (cs.set (openOf cs who).toNat c) who' = if who' = who then -1 else openOf cs who' := by
  have hone := h.set (openOf cs who).toNat hc
  obtain ⟨d, e1, e2, e3, e4⟩ := openOf_at h0
  by_cases e : who' = who
  · rw [if_pos e]
    have h2 := openOf_ge (cs.set (openOf cs who).toNat c) who'
    apply Classical.byContradiction
    intro hn
    obtain ⟨f, f1, f2, f3, f4⟩ := openOf_at (cs := cs.set (openOf cs who).toNat c) (who := who') (by omega)
    rw [List.getElem?_set] at f1
    split at f1
    · injection f1 with f1; subst f1; exact hc f3
    · rename_i hne
      have := h _ _ _ _ f1 e1 (by rw [f2, e2, e]) f3 e3
      exact hne this.symm
  · rw [if_neg e]
    by_cases h2 : 0 ≤ openOf cs who'
    · obtain ⟨f, f1, f2, f3, f4⟩ := openOf_at h2
      have := openOf_eq hone (i := (openOf cs who').toNat) (c := f) (who := who') (by
        rw [List.getElem?_set, if_neg, f1]
        intro hk
        rw [hk, f1] at e1
        injection e1 with e1
        subst e1
        exact e (f2.symm.trans e2)) f2 f3
      omega
    · have h3 := openOf_ge cs who'
      have h4 := openOf_ge (cs.set (openOf cs who).toNat c) who'
      apply Classical.byContradiction
      intro hn
      obtain ⟨f, f1, f2, f3, f4⟩ := openOf_at (cs := cs.set (openOf cs who).toNat c) (who := who') (by omega)
      rw [List.getElem?_set] at f1
      split at f1
      · injection f1 with f1; subst f1; exact hc f3
      · exact openOf_none (by omega) f1 f2 f3
theorem step_len {ts : List Int} {n : Nat} {cs cs' : List Cl} {x : Ev} (h : step ts n cs x = .inr cs') : cs'.length ≤ cs.length + 1 := by
  unfold step respS invS at h
  repeat' split at h
  all_goals (try cases h)
  · simp
  · simp
theorem step_err {ts : List Int} {n : Nat} {cs : List Cl} {x : Ev} {r : Int} (h : step ts n cs x = .inl r) : r ≠ 0 := by
  unfold step respS invS at h
  repeat' split at h
  all_goals (try cases h)
  all_goals decide
theorem run_len {ts : List Int} : ∀ (l : List Ev) (n : Nat) (cs : List Cl), (run ts n cs l).1.length ≤ cs.length + l.length
  | [], n, cs => by simp [run]
  | x :: r, n, cs => by
    rw [run]
    cases h : step ts n cs x with
    | inl e => simp
    | inr cs' =>
      have h1 := step_len h
      have h2 := run_len r (n + 1) cs' (ts := ts)
      simp only [List.length_cons]
      omega
theorem run_drop {ts : List Int} {l : List Ev} {k : Nat} (hk : k < l.length) (cs : List Cl) : run ts k cs (l.drop k) = match step ts k cs l[k] with
    | .inl e => ([], k, e)
    | .inr cs' => run ts (k + 1) cs' (l.drop (k + 1)) := by
  rw [List.drop_eq_getElem_cons hk, run]
end Go.Proofs.Ythjmncngegchjaa

/-
  Plain mathematics for the law HistoryFront: a begin of a history.
-/
namespace Go.Proofs.Ythjmncngegchjaa
set_option maxRecDepth 20000
theorem step_errs {ts : List Int} {n : Nat} {cs : List Cl} {x : Ev} {r : Int} (h : step ts n cs x = .inl r) : r = 3 ∨ r = 4 ∨ r = 5 := by
  unfold step respS invS at h
  repeat' split at h
  all_goals (try cases h)
  all_goals decide
theorem run_errs {ts : List Int} : ∀ (l : List Ev) (n : Nat) (cs : List Cl), (run ts n cs l).2.2 = 0 ∨ (run ts n cs l).2.2 = 3 ∨ (run ts n cs l).2.2 = 4 ∨ (run ts n cs l).2.2 = 5
  | [], n, cs => .inl rfl
  | x :: r, n, cs => by
    rw [run]
    cases h : step ts n cs x with
    | inl e => exact .inr (step_errs h)
    | inr cs' => exact run_errs r (n + 1) cs'
theorem run_append {ts : List Int} : ∀ (l1 l2 : List Ev) (n : Nat) (cs : List Cl), run ts n cs (l1 ++ l2) = if (run ts n cs l1).2.2 = 0 then run ts (n + l1.length) (run ts n cs l1).1 l2 else run ts n cs l1
  | [], l2, n, cs => by simp [run]
  | x :: r, l2, n, cs => by
    rw [List.cons_append, run, run]
    cases h : step ts n cs x with
    | inl e =>
      have := step_err h
      simp [this]
    | inr cs' =>
      simp only
      rw [run_append r l2 (n + 1) cs', List.length_cons, show n + (r.length + 1) = n + 1 + r.length by omega]
/-- Where it falls it falls at one of these events; else there is no place. -/
theorem run_at {ts : List Int} : ∀ (l : List Ev) (n : Nat) (cs : List Cl), ((run ts n cs l).2.2 = 0 ∧ (run ts n cs l).2.1 = 0) ∨ ((run ts n cs l).2.2 ≠ 0 ∧ (run ts n cs l).1 = [] ∧ n ≤ (run ts n cs l).2.1 ∧ (run ts n cs l).2.1 < n + l.length)
  | [], n, cs => .inl ⟨rfl, rfl⟩
  | x :: r, n, cs => by
    rw [run]
    cases h : step ts n cs x with
    | inl e => exact .inr ⟨step_err h, rfl, Nat.le_refl _, by simp⟩
    | inr cs' =>
      simp only
      rcases run_at r (n + 1) cs' with h | ⟨h1, h2, h3, h4⟩
      · exact .inl h
      · exact .inr ⟨h1, h2, by omega, by simp only [List.length_cons]; omega⟩
/-- Each call begins and is answered ahead of n; what is not answered has no result. -/
def Tidy (n : Nat) (cs : List Cl) : Prop := ∀ c ∈ cs, c.til < n ∧ c.frm < n ∧ 0 ≤ c.frm ∧ (c.til = -1 → c.res = 0)
theorem step_tidy {ts : List Int} {n : Nat} {cs cs' : List Cl} {x : Ev} (h : Tidy n cs) (hs : step ts n cs x = .inr cs') : Tidy (n + 1) cs' := by
  unfold step respS invS at hs
  repeat' split at hs
  all_goals (try cases hs)
  · rename_i h1 h2 h3 h4
    intro c hc
    rcases List.mem_or_eq_of_mem_set hc with hc | rfl
    · obtain ⟨a, b, d, e⟩ := h c hc
      exact ⟨by omega, by omega, d, e⟩
    · obtain ⟨d, e1, _, _, e4⟩ := openOf_at (cs := cs) (who := x.who) (by omega)
      have : cs.getD (openOf cs x.who).toNat default = d := by rw [List.getD_eq_getElem?_getD, e1]; rfl
      simp only [this]
      obtain ⟨a, b, c', e⟩ := h d (List.mem_of_getElem? e1)
      exact ⟨by omega, by omega, c', by omega⟩
  · intro c hc
    rcases List.mem_append.1 hc with hc | hc
    · obtain ⟨a, b, d, e⟩ := h c hc
      exact ⟨by omega, by omega, d, e⟩
    · rw [List.mem_singleton] at hc
      subst hc
      simp only
      exact ⟨by omega, by omega, by omega, by simp⟩
theorem run_tidy {ts : List Int} : ∀ (l : List Ev) (n : Nat) (cs : List Cl), Tidy n cs → (run ts n cs l).2.2 = 0 → Tidy (n + l.length) (run ts n cs l).1
  | [], n, cs, h, _ => by simpa [run] using h
  | x :: r, n, cs, h, h0 => by
    rw [run] at h0 ⊢
    cases hs : step ts n cs x with
    | inl e => rw [hs] at h0; exact absurd h0 (step_err hs)
    | inr cs' =>
      rw [hs] at h0
      simp only at h0 ⊢
      have := run_tidy r (n + 1) cs' (step_tidy h hs) h0
      rwa [show n + 1 + r.length = n + (x :: r).length by simp only [List.length_cons]; omega] at this
/-- What was not answered ahead of m is not answered. -/
def before_ (m : Nat) (y : Cl) : Cl := if (m : Int) ≤ y.til then { y with res := 0, til := -1 } else y
/-- The calls c go on from the calls d as they stood at m. -/
structure Grow (m : Nat) (d c : List Cl) : Prop where
  len : d.length ≤ c.length
  same : ∀ (i : Nat) (x y : Cl), d[i]? = some x → c[i]? = some y → x = before_ m y
  new : ∀ (i : Nat) (y : Cl), d.length ≤ i → c[i]? = some y → (m : Int) ≤ y.frm
theorem Grow.refl {m : Nat} {d : List Cl} (h : Tidy m d) : Grow m d d := by
  refine ⟨Nat.le_refl _, fun i x y h1 h2 => ?_, fun i y h1 h2 => ?_⟩
  · rw [h1] at h2
    injection h2 with h2
    subst h2
    have := (h x (List.mem_of_getElem? h1)).1
    unfold before_
    rw [if_neg (by omega)]
  · have := (List.getElem?_eq_some_iff.1 h2).1
    omega
theorem Grow.step {ts : List Int} {m n : Nat} {d c c' : List Cl} {x : Ev} (h : Grow m d c) (hm : m ≤ n) (ht : Tidy n c) (hs : step ts n c x = .inr c') : Grow m d c' := by
  unfold Go.Proofs.Ythjmncngegchjaa.step respS invS at hs
  repeat' split at hs
  all_goals (try cases hs)
  · obtain ⟨e, e1, _, e3, e4⟩ := openOf_at (cs := c) (who := x.who) (by omega)
    have hg : c.getD (openOf c x.who).toNat default = e := by rw [List.getD_eq_getElem?_getD, e1]; rfl
    rw [hg]
    refine ⟨by rw [List.length_set]; exact h.len, fun i a b h1 h2 => ?_, fun i b h1 h2 => ?_⟩
    · rw [List.getElem?_set] at h2
      split at h2
      · rename_i hi
        subst hi
        injection h2 with h2
        subst h2
        have h3 := h.same _ _ _ h1 e1
        unfold before_ at h3 ⊢
        rw [if_neg (by omega)] at h3
        rw [if_pos (by show (m : Int) ≤ (n : Int); omega)]
        have h4 := (ht e (List.mem_of_getElem? e1)).2.2.2 e3
        subst h3
        exact Cl.same rfl rfl rfl rfl h4 rfl e3
      · exact h.same i a b h1 h2
    · rw [List.getElem?_set] at h2
      split at h2
      · rename_i hi
        subst hi
        injection h2 with h2
        subst h2
        exact h.new _ e h1 e1
      · exact h.new i b h1 h2
  · refine ⟨by rw [List.length_append]; have := h.len; omega, fun i a b h1 h2 => ?_, fun i b h1 h2 => ?_⟩
    · have hi := (List.getElem?_eq_some_iff.1 h1).1
      have := h.len
      rw [List.getElem?_append, if_pos (by omega)] at h2
      exact h.same i a b h1 h2
    · rw [List.getElem?_append] at h2
      split at h2
      · exact h.new i b h1 h2
      · have hi := (List.getElem?_eq_some_iff.1 h2).1
        simp at hi
        rw [hi] at h2
        simp at h2
        subst h2
        show (m : Int) ≤ (n : Int)
        omega
theorem Grow.run {ts : List Int} {m : Nat} {d : List Cl} : ∀ (l : List Ev) (n : Nat) (c : List Cl), Grow m d c → m ≤ n → Tidy n c → (run ts n c l).2.2 = 0 → Grow m d (run ts n c l).1
  | [], _, _, h, _, _, _ => h
  | x :: r, n, c, h, hm, ht, h0 => by
    rw [Go.Proofs.Ythjmncngegchjaa.run] at h0 ⊢
    cases hs : Go.Proofs.Ythjmncngegchjaa.step ts n c x with
    | inl e => rw [hs] at h0; exact absurd h0 (step_err hs)
    | inr c' =>
      rw [hs] at h0
      simp only at h0 ⊢
      exact Grow.run r (n + 1) c' (h.step hm ht hs) (by omega) (step_tidy ht hs) h0
theorem calls_one {ts : List Int} {l : List Ev} (h : (callsOf ts l).2.2 = 1) : callsOf ts l = ([], 0, 1) ∧ ∀ l', callsOf ts l' = ([], 0, 1) := by
  unfold callsOf at h
  cases hb : typesB ts
  · constructor
    · unfold callsOf; rw [if_pos hb]
    · intro l'; unfold callsOf; rw [if_pos hb]
  · rw [hb, if_neg (by decide)] at h
    split at h
    · cases h
    · rcases run_errs (ts := ts) l 0 [] with e | e | e | e <;> rw [e] at h <;> cases h
/-- Neither 1 nor 2: it is the run, and of a begin, too. -/
theorem calls_run {ts : List Int} {l : List Ev} (h1 : (callsOf ts l).2.2 ≠ 1) (h2 : (callsOf ts l).2.2 ≠ 2) (n : Nat) : callsOf ts l = run ts 0 [] l ∧ callsOf ts (l.take n) = run ts 0 [] (l.take n) := by
  cases hb : typesB ts
  · exact absurd (by unfold callsOf; rw [if_pos hb]) h1
  · by_cases hl : 200 < l.length
    · refine absurd ?_ h2
      unfold callsOf
      rw [hb, if_neg (by decide), if_pos hl]
    · have : ¬ 200 < (l.take n).length := by rw [List.length_take]; omega
      constructor
      · unfold callsOf; rw [hb, if_neg (by decide), if_neg hl]
      · unfold callsOf; rw [hb, if_neg (by decide), if_neg this]
theorem run_cut {ts : List Int} (l : List Ev) {n : Nat} (hn : n ≤ l.length) : run ts 0 [] l = if (run ts 0 [] (l.take n)).2.2 = 0 then run ts n (run ts 0 [] (l.take n)).1 (l.drop n) else run ts 0 [] (l.take n) := by
  have h := run_append (ts := ts) (l.take n) (l.drop n) 0 []
  rw [List.take_append_drop, List.length_take, Nat.zero_add, Nat.min_eq_left hn] at h
  exact h
theorem front_late {ts : List Int} {l : List Ev} {n : Nat} (hn : n ≤ l.length) (h : (run ts 0 [] l).2.2 ≠ 0) (hl : (run ts 0 [] l).2.1 < n) : run ts 0 [] (l.take n) = run ts 0 [] l := by
  have hc := run_cut (ts := ts) l hn
  by_cases h0 : (run ts 0 [] (l.take n)).2.2 = 0
  · rw [if_pos h0] at hc
    rcases run_at (ts := ts) (l.drop n) n (run ts 0 [] (l.take n)).1 with ⟨e, _⟩ | ⟨_, _, e, _⟩
    · rw [← hc] at e; exact absurd e h
    · rw [← hc] at e; omega
  · rw [if_neg h0] at hc
    exact hc.symm
theorem front_soon {ts : List Int} {l : List Ev} {n : Nat} (hn : n ≤ l.length) (hl : n ≤ (run ts 0 [] l).2.1) : (run ts 0 [] (l.take n)).2.2 = 0 := by
  apply Classical.byContradiction
  intro h0
  have hc := run_cut (ts := ts) l hn
  rw [if_neg h0] at hc
  rcases run_at (ts := ts) (l.take n) 0 [] with ⟨e, _⟩ | ⟨_, _, _, e⟩
  · exact h0 e
  · rw [← hc, List.length_take] at e
    omega
theorem front_ok {ts : List Int} {l : List Ev} {n : Nat} (hn : n ≤ l.length) (h : (run ts 0 [] l).2.2 = 0) : (run ts 0 [] (l.take n)).2.2 = 0 ∧ Grow n (run ts 0 [] (l.take n)).1 (run ts 0 [] l).1 := by
  have hc := run_cut (ts := ts) l hn
  by_cases h0 : (run ts 0 [] (l.take n)).2.2 = 0
  · refine ⟨h0, ?_⟩
    rw [if_pos h0] at hc
    have ht := run_tidy (ts := ts) (l.take n) 0 [] (fun c hc => by simp at hc) h0
    rw [List.length_take, Nat.zero_add, Nat.min_eq_left hn] at ht
    have := Grow.run (ts := ts) (l.drop n) n _ (Grow.refl ht) (Nat.le_refl _) ht (by rw [← hc]; exact h)
    rwa [← hc] at this
  · rw [if_neg h0] at hc
    rw [hc] at h
    exact absurd h h0
end Go.Proofs.Ythjmncngegchjaa
