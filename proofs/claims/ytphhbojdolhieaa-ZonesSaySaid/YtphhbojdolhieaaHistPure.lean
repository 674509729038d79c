/-
  Plain mathematics for package history: events, calls, which calls a list of events tells. No Go, no program.
-/
import Derived.Test.YtphhbojdolhieaaProg
import Derived.WalkKit
namespace Go.Proofs.Ytphhbojdolhieaa
open Go.RowKit
set_option maxRecDepth 20000
/-- An event. -/
structure Ev where
  who : Int
  thing : Int
  kind : Int
  val : Int
/-- A call. -/
structure Cl where
  who : Int
  thing : Int
  kind : Int
  arg : Int
  res : Int
  frm : Int
  til : Int
theorem Ev.same {a b : Ev} (h1 : a.who = b.who) (h2 : a.thing = b.thing) (h3 : a.kind = b.kind) (h4 : a.val = b.val) : a = b := by
  cases a; cases b; simp at h1 h2 h3 h4; subst h1 h2 h3 h4; rfl
theorem Cl.same {a b : Cl} (h1 : a.who = b.who) (h2 : a.thing = b.thing) (h3 : a.kind = b.kind) (h4 : a.arg = b.arg) (h5 : a.res = b.res) (h6 : a.frm = b.frm) (h7 : a.til = b.til) : a = b := by
  cases a; cases b; simp at h1 h2 h3 h4 h5 h6 h7; subst h1 h2 h3 h4 h5 h6 h7; rfl
instance : DecidableEq Ev := fun a b =>
  if h : a.who = b.who ∧ a.thing = b.thing ∧ a.kind = b.kind ∧ a.val = b.val then isTrue (Ev.same h.1 h.2.1 h.2.2.1 h.2.2.2)
  else isFalse fun e => h (by subst e; exact ⟨rfl, rfl, rfl, rfl⟩)
instance : DecidableEq Cl := fun a b =>
  if h : a.who = b.who ∧ a.thing = b.thing ∧ a.kind = b.kind ∧ a.arg = b.arg ∧ a.res = b.res ∧ a.frm = b.frm ∧ a.til = b.til then isTrue (Cl.same h.1 h.2.1 h.2.2.1 h.2.2.2.1 h.2.2.2.2.1 h.2.2.2.2.2.1 h.2.2.2.2.2.2)
  else isFalse fun e => h (by subst e; exact ⟨rfl, rfl, rfl, rfl, rfl, rfl, rfl⟩)
instance : Inhabited Ev := ⟨⟨0, 0, 0, 0⟩⟩
instance : Inhabited Cl := ⟨⟨0, 0, 0, 0, 0, 0, 0⟩⟩
/-- Between two bounds, both let in. -/
def btw (a n b : Int) : Bool := decide (a ≤ n ∧ n ≤ b)
theorem btw_iff {a n b : Int} : btw a n b = true ↔ a ≤ n ∧ n ≤ b := decide_eq_true_iff
theorem btw_not {a n b : Int} : btw a n b = false ↔ ¬ (a ≤ n ∧ n ≤ b) := decide_eq_false_iff_not
/-- The type to which a kind belongs, or 0. -/
def kindType (k : Int) : Int := if k = 1 ∨ k = 2 then 1 else if k = 3 ∨ k = 4 then 2 else if k = 5 ∨ k = 6 then 3 else if k = 7 ∨ k = 8 ∨ k = 9 then 4 else if k = 10 then 5 else 0
def fitsB (t k : Int) : Bool := decide (t ≠ 0 ∧ t = kindType k)
/-- May a kind be called so? -/
def takesB (k v : Int) : Bool := if k = 1 ∨ k = 3 ∨ k = 5 ∨ k = 7 ∨ k = 8 ∨ k = 9 then btw 1 v 1000 else v == 0
/-- May a kind be answered so? -/
def givesB (k v : Int) : Bool := if k = 2 ∨ k = 10 then btw 0 v 1000 else if k = 4 ∨ k = 6 then v == -1 || btw 1 v 1000 else if k = 7 ∨ k = 8 ∨ k = 9 then btw 0 v 1 else v == 0
theorem fits_kind {t k : Int} (h : fitsB t k = true) : 1 ≤ k ∧ k ≤ 10 ∧ 1 ≤ t ∧ t ≤ 5 := by
  unfold fitsB at h
  rw [decide_eq_true_iff] at h
  obtain ⟨h1, h2⟩ := h
  unfold kindType at h2
  repeat' split at h2
  all_goals omega
/-- The last of the calls (the first of which is number k) that is theirs and open; else what was found before. -/
def openFrom (who : Int) : Nat → Int → List Cl → Int
  | _, a, [] => a
  | k, a, c :: r => openFrom who (k + 1) (if c.who = who ∧ c.til = -1 then (k : Int) else a) r
def openOf (cs : List Cl) (who : Int) : Int := openFrom who 0 (-1) cs
/-- What an answer makes of the calls, or the error. -/
def respS (n : Nat) (cs : List Cl) (x : Ev) : Int ⊕ List Cl :=
  if openOf cs x.who < 0 then .inl 4
  else if (cs.getD (openOf cs x.who).toNat default).thing ≠ x.thing ∨ givesB (cs.getD (openOf cs x.who).toNat default).kind x.val = false then .inl 3
  else .inr (cs.set (openOf cs x.who).toNat { cs.getD (openOf cs x.who).toNat default with res := x.val, til := n })
/-- What a new call makes of the calls, or the error. -/
def invS (ts : List Int) (n : Nat) (cs : List Cl) (x : Ev) : Int ⊕ List Cl :=
  if fitsB (ts.getD x.thing.toNat 0) x.kind = false ∨ takesB x.kind x.val = false then .inl 3
  else if 0 ≤ openOf cs x.who then .inl 5
  else .inr (cs ++ [⟨x.who, x.thing, x.kind, x.val, 0, n, -1⟩])
/-- What one more event makes of the calls, or the error. -/
def step (ts : List Int) (n : Nat) (cs : List Cl) (x : Ev) : Int ⊕ List Cl :=
  if ¬ (0 ≤ x.who ∧ x.who ≤ 7) ∨ ¬ (0 ≤ x.thing ∧ x.thing < ts.length) then .inl 3
  else if x.kind = 0 then respS n cs x else invS ts n cs x
/-- The calls that the events tell, the first of which is number n, behind those of the events before. -/
def run (ts : List Int) : Nat → List Cl → List Ev → List Cl × Nat × Int
  | _, cs, [] => (cs, 0, 0)
  | n, cs, x :: r => match step ts n cs x with
    | .inl e => ([], n, e)
    | .inr cs' => run ts (n + 1) cs' r
def typesB (ts : List Int) : Bool := decide (1 ≤ ts.length ∧ ts.length ≤ 4) && ts.all fun t => decide (1 ≤ t ∧ t ≤ 5)
/-- The calls of a history, or the place of the first fault and the error. -/
def callsOf (ts : List Int) (l : List Ev) : List Cl × Nat × Int :=
  if typesB ts = false then ([], 0, 1) else if 200 < l.length then ([], 0, 2) else run ts 0 [] l
theorem openFrom_ge (who : Int) : ∀ (cs : List Cl) (k : Nat) (a : Int), (openFrom who k a cs = a) ∨ (∃ i c, cs[i]? = some c ∧ c.who = who ∧ c.til = -1 ∧ openFrom who k a cs = ((k + i : Nat) : Int))
  | [], k, a => .inl rfl
  | c :: r, k, a => by
    rw [openFrom]
    rcases openFrom_ge who r (k + 1) (if c.who = who ∧ c.til = -1 then (k : Int) else a) with h | ⟨i, d, h1, h2, h3, h4⟩
    · rw [h]
      by_cases hc : c.who = who ∧ c.til = -1
      · rw [if_pos hc]
        exact .inr ⟨0, c, rfl, hc.1, hc.2, rfl⟩
      · rw [if_neg hc]
        exact .inl rfl
    · exact .inr ⟨i + 1, d, by simpa using h1, h2, h3, by rw [h4]; congr 1; omega⟩
/-- Where something is open it is one's own call, not answered. -/
theorem openOf_at {cs : List Cl} {who : Int} (h : 0 ≤ openOf cs who) : ∃ c, cs[(openOf cs who).toNat]? = some c ∧ c.who = who ∧ c.til = -1 ∧ (openOf cs who).toNat < cs.length := by
  unfold openOf at h ⊢
  rcases openFrom_ge who cs 0 (-1) with h1 | ⟨i, c, h1, h2, h3, h4⟩
  · omega
  · rw [h4]
    have : ((0 + i : Nat) : Int).toNat = i := by omega
    rw [this]
    exact ⟨c, h1, h2, h3, (List.getElem?_eq_some_iff.1 h1).1⟩
theorem openOf_ge (cs : List Cl) (who : Int) : -1 ≤ openOf cs who := by
  unfold openOf
  rcases openFrom_ge who cs 0 (-1) with h1 | ⟨i, c, h1, h2, h3, h4⟩
  · omega
  · omega
theorem openOf_lt (cs : List Cl) (who : Int) : openOf cs who < cs.length := by
  by_cases h : 0 ≤ openOf cs who
  · obtain ⟨c, h1, h2, h3, h4⟩ := openOf_at h
    omega
  · have := openOf_ge cs who
    omega
theorem openFrom_append (who : Int) : ∀ (cs : List Cl) (k : Nat) (a : Int) (r : List Cl), openFrom who k a (cs ++ r) = openFrom who (k + cs.length) (openFrom who k a cs) r
  | [], k, a, r => by simp [openFrom]
  | c :: cs, k, a, r => by
    rw [List.cons_append, openFrom, openFrom_append who cs, openFrom]
    congr 1
    simp; omega
theorem openOf_snoc (cs : List Cl) (c : Cl) (who : Int) : openOf (cs ++ [c]) who = if c.who = who ∧ c.til = -1 then (cs.length : Int) else openOf cs who := by
  unfold openOf
  rw [openFrom_append, openFrom, openFrom]
  simp
/-- Each has at most one call that is open. -/
def OneOpen (cs : List Cl) : Prop := ∀ (i j : Nat) (c d : Cl), cs[i]? = some c → cs[j]? = some d → c.who = d.who → c.til = -1 → d.til = -1 → i = j
theorem openOf_none {cs : List Cl} {who : Int} (h : openOf cs who < 0) {i : Nat} {c : Cl} (hc : cs[i]? = some c) (hw : c.who = who) : c.til ≠ -1 := by
  intro ht
  have hlt : i < cs.length := (List.getElem?_eq_some_iff.1 hc).1
  have e : cs = cs.take i ++ (c :: cs.drop (i + 1)) := by
    have h1 : cs.drop i = c :: cs.drop (i + 1) := by
      rw [List.drop_eq_getElem_cons hlt, (List.getElem?_eq_some_iff.1 hc).2]
    rw [← h1, List.take_append_drop]
  have key : ∀ (r : List Cl) (k : Nat) (a : Int), 0 ≤ a → 0 ≤ openFrom who k a r := by
    intro r k a ha
    rcases openFrom_ge who r k a with h1 | ⟨i, c, h1, h2, h3, h4⟩
    · omega
    · omega
  unfold openOf at h
  rw [e, openFrom_append, openFrom, if_pos ⟨hw, ht⟩] at h
  have := key (cs.drop (i + 1)) (0 + (cs.take i).length + 1) (((0 + (cs.take i).length : Nat)) : Int) (by omega)
  omega
/-- With one at most, it is just that one. -/
theorem openOf_eq {cs : List Cl} {who : Int} (h1 : OneOpen cs) {i : Nat} {c : Cl} (hc : cs[i]? = some c) (hw : c.who = who) (ht : c.til = -1) : openOf cs who = (i : Int) := by
  have h0 : 0 ≤ openOf cs who := by
    apply Classical.byContradiction
    intro hn
    exact openOf_none (by omega) hc hw ht
  obtain ⟨d, e1, e2, e3, _⟩ := openOf_at h0
  have := h1 _ _ _ _ hc e1 (by rw [hw, e2]) ht e3
  omega
theorem OneOpen.nil : OneOpen [] := fun i j c d h => by simp at h
theorem OneOpen.snoc {cs : List Cl} (h : OneOpen cs) {c : Cl} (hc : openOf cs c.who < 0) : OneOpen (cs ++ [c]) := by
  intro i j a b ha hb hw h1 h2
  rw [List.getElem?_append] at ha hb
  split at ha
  · split at hb
    · exact h i j a b ha hb hw h1 h2
    · have : j - cs.length = 0 := by
        apply Classical.byContradiction; intro hn
        rw [List.getElem?_eq_none (by simp; omega)] at hb; cases hb
      rw [this] at hb
      simp at hb
      subst hb
      exact absurd h1 (openOf_none hc ha hw)
  · have hi : i - cs.length = 0 := by
      apply Classical.byContradiction; intro hn
      rw [List.getElem?_eq_none (by simp; omega)] at ha; cases ha
    rw [hi] at ha
    simp at ha
    subst ha
    split at hb
    · exact absurd h2 (openOf_none hc hb hw.symm)
    · have : j - cs.length = 0 := by
        apply Classical.byContradiction; intro hn
        rw [List.getElem?_eq_none (by simp; omega)] at hb; cases hb
      omega
theorem OneOpen.set {cs : List Cl} (h : OneOpen cs) (k : Nat) {c : Cl} (hc : c.til ≠ -1) : OneOpen (cs.set k c) := by
  intro i j a b ha hb hw h1 h2
  rw [List.getElem?_set] at ha hb
  split at ha
  · split at ha
    · injection ha with ha; subst ha; exact absurd h1 hc
    · cases ha
  · split at hb
    · split at hb
      · injection hb with hb; subst hb; exact absurd h2 hc
      · cases hb
    · exact h i j a b ha hb hw h1 h2
theorem openOf_set {cs : List Cl} (h : OneOpen cs) {who who' : Int} (h0 : 0 ≤ openOf cs who) {c : Cl} (hc : c.til ≠ -1) :
    openOf (cs.set (openOf cs who).toNat c) who' = if who' = who then -1 else openOf cs who' := by
  have hone := h.set (openOf cs who).toNat hc
  obtain ⟨d, e1, e2, e3, e4⟩ := openOf_at h0
  by_cases e : who' = who
  · rw [if_pos e]
    have h2 := openOf_ge (cs.set (openOf cs who).toNat c) who'
    apply Classical.byContradiction
    intro hn
    obtain ⟨f, f1, f2, f3, f4⟩ := openOf_at (cs := cs.set (openOf cs who).toNat c) (who := who') (by omega)
    rw [List.getElem?_set] at f1
    split at f1
    · injection f1 with f1; subst f1; exact hc f3
    · rename_i hne
      have := h _ _ _ _ f1 e1 (by rw [f2, e2, e]) f3 e3
      exact hne this.symm
  · rw [if_neg e]
    by_cases h2 : 0 ≤ openOf cs who'
    · obtain ⟨f, f1, f2, f3, f4⟩ := openOf_at h2
      have := openOf_eq hone (i := (openOf cs who').toNat) (c := f) (who := who') (by
        rw [List.getElem?_set, if_neg, f1]
        intro hk
        rw [hk, f1] at e1
        injection e1 with e1
        subst e1
        exact e (f2.symm.trans e2)) f2 f3
      omega
    · have h3 := openOf_ge cs who'
      have h4 := openOf_ge (cs.set (openOf cs who).toNat c) who'
      apply Classical.byContradiction
      intro hn
      obtain ⟨f, f1, f2, f3, f4⟩ := openOf_at (cs := cs.set (openOf cs who).toNat c) (who := who') (by omega)
      rw [List.getElem?_set] at f1
      split at f1
      · injection f1 with f1; subst f1; exact hc f3
      · exact openOf_none (by omega) f1 f2 f3
theorem step_len {ts : List Int} {n : Nat} {cs cs' : List Cl} {x : Ev} (h : step ts n cs x = .inr cs') : cs'.length ≤ cs.length + 1 := by
  unfold step respS invS at h
  repeat' split at h
  all_goals (try cases h)
  · simp
  · simp
theorem step_err {ts : List Int} {n : Nat} {cs : List Cl} {x : Ev} {r : Int} (h : step ts n cs x = .inl r) : r ≠ 0 := by
  unfold step respS invS at h
  repeat' split at h
  all_goals (try cases h)
  all_goals decide
theorem run_drop {ts : List Int} {l : List Ev} {k : Nat} (hk : k < l.length) (cs : List Cl) : run ts k cs (l.drop k) = match step ts k cs l[k] with
    | .inl e => ([], k, e)
    | .inr cs' => run ts (k + 1) cs' (l.drop (k + 1)) := by
  rw [List.drop_eq_getElem_cons hk, run]
end Go.Proofs.Ytphhbojdolhieaa
