/-
  Plain mathematics for package object: states, steps, plays. No Go, no program.
-/
import Derived.Test.YtebcnhnkpmbgdaaHistPure
namespace Go.Proofs.Ytebcnhnkpmbgdaa
open Go.RowKit
set_option maxRecDepth 20000

/-- What is done at a thing, and what comes of it. -/
structure Dd where
  kind : Int
  arg : Int
  res : Int
instance : Inhabited Dd := ⟨⟨0, 0, 0⟩⟩

/-- Is one number all there is of a state of this type? -/
def oneB (typ : Int) : Bool := decide (typ = 1 ∨ typ = 5)
/-- Each less than the next one. -/
def incrB (s : List Int) : Bool := decide (s.Pairwise (· < ·))
/-- A state that is not too long: may it be? -/
def validB (typ : Int) (s : List Int) : Bool :=
  if oneB typ = true then decide (s.length = 1) && btw 0 (s.getD 0 0) 1000 else (s.all fun x => btw 1 x 1000) && (typ != 4 || incrB s)
/-- The error of Check. -/
def stateE (typ : Int) (s : List Int) : Int :=
  if btw 1 typ 5 = false then 1 else if 50 < s.length then 2 else if validB typ s = false then 3 else 0
/-- How many are less. -/
def lessN (s : List Int) (x : Int) : Nat := s.countP (· < x)
/-- One more, in its place. -/
def insAt (s : List Int) (p : Nat) (x : Int) : List Int := s.take p ++ x :: s.drop p
/-- One less. -/
def delAt (s : List Int) (p : Nat) : List Int := s.take p ++ s.drop (p + 1)

/-- What comes of a kind that belongs to the type, at a state that may be. -/
def stepped (s : List Int) (kind arg : Int) : List Int × Int × Int :=
  if kind = 1 then ([arg], 0, 0)
  else if kind = 2 then (s, s.getD 0 0, 0)
  else if kind = 3 ∨ kind = 5 then (if s.length = 50 then ([], 0, 2) else (insAt s s.length arg, 0, 0))
  else if kind = 4 then (if s.length = 0 then (s, -1, 0) else (delAt s 0, s.getD 0 0, 0))
  else if kind = 6 then (if s.length = 0 then (s, -1, 0) else (delAt s (s.length - 1), s.getD (s.length - 1) 0, 0))
  else if kind = 10 then (if s.getD 0 0 = 1000 then ([], 0, 2) else ([s.getD 0 0 + 1], s.getD 0 0, 0))
  else if kind = 7 then (if arg ∈ s then (s, 0, 0) else if s.length = 50 then ([], 0, 2) else (insAt s (lessN s arg) arg, 1, 0))
  else if kind = 8 then (if arg ∈ s then (delAt s (lessN s arg), 1, 0) else (s, 0, 0))
  else (s, if arg ∈ s then 1 else 0, 0)
/-- Step: the new state, the answer, the error. -/
def stepO (typ : Int) (s : List Int) (kind arg : Int) : List Int × Int × Int :=
  if stateE typ s ≠ 0 then ([], 0, stateE typ s)
  else if (fitsB typ kind && takesB kind arg) = false then ([], 0, 3)
  else stepped s kind arg
def beginL (typ : Int) : List Int := if oneB typ = true then [0] else []
/-- How many of what is done may be, from a state on. -/
def playFrom (typ : Int) (s : List Int) : List Dd → Nat
  | [] => 0
  | d :: r => if (stepO typ s d.kind d.arg).2.2 ≠ 0 ∨ (stepO typ s d.kind d.arg).2.1 ≠ d.res then 0 else playFrom typ (stepO typ s d.kind d.arg).1 r + 1
def playN (typ : Int) (l : List Dd) : Nat := playFrom typ (beginL typ) l
/-- The state behind. -/
def stateFrom (typ : Int) (s : List Int) (l : List Dd) : List Int := l.foldl (fun s d => (stepO typ s d.kind d.arg).1) s

/-! ### States -/
theorem valid_one {typ : Int} {s : List Int} (h : oneB typ = true) : validB typ s = true ↔ s.length = 1 ∧ 0 ≤ s.getD 0 0 ∧ s.getD 0 0 ≤ 1000 := by
  unfold validB
  rw [if_pos h, Bool.and_eq_true, decide_eq_true_iff, btw_iff]
theorem valid_row {typ : Int} {s : List Int} (h : oneB typ = false) : validB typ s = true ↔ (∀ x ∈ s, 1 ≤ x ∧ x ≤ 1000) ∧ (typ = 4 → s.Pairwise (· < ·)) := by
  unfold validB
  rw [if_neg (by rw [h]; decide), Bool.and_eq_true, List.all_eq_true, Bool.or_eq_true, bne_iff_ne, incrB, decide_eq_true_iff]
  constructor
  · rintro ⟨h1, h2⟩
    exact ⟨fun x hx => btw_iff.1 (h1 x hx), fun e => h2.elim (fun hn => absurd e hn) id⟩
  · rintro ⟨h1, h2⟩
    refine ⟨fun x hx => btw_iff.2 (h1 x hx), ?_⟩
    by_cases e : typ = 4
    · exact .inr (h2 e)
    · exact .inl e
theorem stateE_ok {typ : Int} {s : List Int} : stateE typ s = 0 ↔ (1 ≤ typ ∧ typ ≤ 5) ∧ s.length ≤ 50 ∧ validB typ s = true := by
  unfold stateE
  by_cases h1 : btw 1 typ 5 = false
  · rw [if_pos h1]
    exact ⟨fun h => absurd h (by decide), fun h => absurd (btw_iff.2 h.1) (by rw [h1]; decide)⟩
  · rw [if_neg h1]
    have h1' : 1 ≤ typ ∧ typ ≤ 5 := btw_iff.1 (by cases h : btw 1 typ 5 <;> simp_all)
    by_cases h2 : 50 < s.length
    · rw [if_pos h2]
      exact ⟨fun h => absurd h (by decide), fun h => by omega⟩
    · rw [if_neg h2]
      by_cases h3 : validB typ s = false
      · rw [if_pos h3]
        exact ⟨fun h => absurd h (by decide), fun h => by rw [h3] at h; exact absurd h.2.2 (by decide)⟩
      · rw [if_neg h3]
        exact ⟨fun _ => ⟨h1', by omega, by cases h : validB typ s <;> simp_all⟩, fun _ => rfl⟩
theorem stateE_range (typ : Int) (s : List Int) : 0 ≤ stateE typ s ∧ stateE typ s ≤ 3 := by unfold stateE; (repeat' split) <;> omega

theorem adj_sorted : ∀ {s : List Int}, (∀ i, i + 1 < s.length → s.getD i 0 < s.getD (i + 1) 0) → s.Pairwise (· < ·)
  | [], _ => .nil
  | [x], _ => by simp
  | x :: y :: r, h => by
    have h1 : (y :: r).Pairwise (· < ·) := adj_sorted (s := y :: r) fun i hi => by
      have := h (i + 1) (by simp at hi ⊢; omega)
      simpa using this
    have h0 : x < y := by simpa using h 0 (by simp)
    refine List.pairwise_cons.2 ⟨fun z hz => ?_, h1⟩
    rcases List.mem_cons.1 hz with rfl | hz
    · exact h0
    · exact Int.lt_trans h0 ((List.pairwise_cons.1 h1).1 z hz)
theorem sorted_at {s : List Int} (h : s.Pairwise (· < ·)) {i j : Nat} (hij : i < j) (hj : j < s.length) : s.getD i 0 < s.getD j 0 := by
  have := List.pairwise_iff_getElem.1 h i j (by omega) hj hij
  simpa [List.getD_eq_getElem?_getD, List.getElem?_eq_getElem hj, List.getElem?_eq_getElem (show i < s.length by omega)] using this
theorem not_sorted {s : List Int} {i : Nat} (hi : i + 1 < s.length) (h : s.getD (i + 1) 0 ≤ s.getD i 0) : incrB s = false := by
  unfold incrB
  rw [decide_eq_false_iff_not]
  intro hp
  have := sorted_at hp (show i < i + 1 by omega) hi
  omega
theorem sorted_yes {s : List Int} (h : ∀ i, i + 1 < s.length → s.getD i 0 < s.getD (i + 1) 0) : incrB s = true := by
  unfold incrB
  rw [decide_eq_true_iff]
  exact adj_sorted h

/-! ### One more, one less -/
theorem insAt_len (s : List Int) {p : Nat} (x : Int) (h : p ≤ s.length) : (insAt s p x).length = s.length + 1 := by
  unfold insAt
  simp
  omega
theorem delAt_len (s : List Int) {p : Nat} (h : p < s.length) : (delAt s p).length = s.length - 1 := by
  unfold delAt
  simp
  omega
theorem insAt_mem {s : List Int} {p : Nat} {x y : Int} : y ∈ insAt s p x ↔ y = x ∨ y ∈ s := by
  unfold insAt
  rw [List.mem_append, List.mem_cons]
  constructor
  · rintro (h | h | h)
    · exact .inr (List.mem_of_mem_take h)
    · exact .inl h
    · exact .inr (List.mem_of_mem_drop h)
  · rintro (h | h)
    · exact .inr (.inl h)
    · have : y ∈ s.take p ++ s.drop p := by rw [List.take_append_drop]; exact h
      rcases List.mem_append.1 this with h | h
      · exact .inl h
      · exact .inr (.inr h)
theorem delAt_sub {s : List Int} {p : Nat} {y : Int} (h : y ∈ delAt s p) : y ∈ s := by
  unfold delAt at h
  rcases List.mem_append.1 h with h | h
  · exact List.mem_of_mem_take h
  · exact List.mem_of_mem_drop h
theorem lessN_le (s : List Int) (x : Int) : lessN s x ≤ s.length := List.countP_le_length
theorem lessN_cons (y : Int) (r : List Int) (x : Int) : lessN (y :: r) x = lessN r x + (if y < x then 1 else 0) := by
  unfold lessN
  rw [List.countP_cons]
  simp
/-- Of a row that increases just the first lessN are less. -/
theorem lessN_zero : ∀ {s : List Int} {x : Int}, (∀ y ∈ s, x ≤ y) → lessN s x = 0
  | [], _, _ => rfl
  | y :: r, x, h => by
    rw [lessN_cons, lessN_zero (s := r) fun z hz => h z (List.mem_cons_of_mem _ hz), if_neg (by have := h y (List.mem_cons_self); omega)]
theorem less_take : ∀ {s : List Int} (x : Int), s.Pairwise (· < ·) → (∀ y ∈ s.take (lessN s x), y < x) ∧ (∀ y ∈ s.drop (lessN s x), x ≤ y)
  | [], x, _ => ⟨fun y h => by simp at h, fun y h => by simp at h⟩
  | y :: r, x, h => by
    obtain ⟨h1, h2⟩ := List.pairwise_cons.1 h
    by_cases hy : y < x
    · have e : lessN (y :: r) x = lessN r x + 1 := by rw [lessN_cons, if_pos hy]
      rw [e, List.take_succ_cons, List.drop_succ_cons]
      obtain ⟨k1, k2⟩ := less_take (s := r) x h2
      refine ⟨fun z hz => ?_, k2⟩
      rcases List.mem_cons.1 hz with rfl | hz
      · exact hy
      · exact k1 z hz
    · have e : lessN (y :: r) x = 0 := lessN_zero fun z hz => by
        rcases List.mem_cons.1 hz with rfl | hz
        · omega
        · have := h1 z hz; omega
      rw [e]
      refine ⟨fun z hz => by simp at hz, fun z hz => ?_⟩
      rw [List.drop_zero] at hz
      rcases List.mem_cons.1 hz with rfl | hz
      · omega
      · have := h1 z hz; omega
theorem ins_sorted {s : List Int} (h : s.Pairwise (· < ·)) {x : Int} (hx : x ∉ s) : (insAt s (lessN s x) x).Pairwise (· < ·) := by
  obtain ⟨h1, h2⟩ := less_take x h
  unfold insAt
  rw [List.pairwise_append]
  refine ⟨h.take, List.pairwise_cons.2 ⟨fun z hz => ?_, h.drop⟩, fun a ha b hb => ?_⟩
  · have h3 := h2 z hz
    have h4 : z ≠ x := fun e => hx (e ▸ List.mem_of_mem_drop hz)
    omega
  · rcases List.mem_cons.1 hb with rfl | hb
    · exact h1 a ha
    · have := h1 a ha; have := h2 b hb; omega
theorem del_sorted {s : List Int} (h : s.Pairwise (· < ·)) (p : Nat) : (delAt s p).Pairwise (· < ·) := by
  unfold delAt
  have : (s.take p ++ s.drop p).Pairwise (· < ·) := by rw [List.take_append_drop]; exact h
  rw [List.pairwise_append] at this ⊢
  have e : s.drop (p + 1) = (s.drop p).drop 1 := by rw [List.drop_drop]
  refine ⟨h.take, h.drop, fun a ha b hb => this.2.2 a ha b ?_⟩
  rw [e] at hb
  exact List.mem_of_mem_drop hb
/-- Where it is in a row that increases. -/
theorem less_at {s : List Int} (h : s.Pairwise (· < ·)) {x : Int} (hx : x ∈ s) : ∃ hp : lessN s x < s.length, s[lessN s x] = x := by
  obtain ⟨h1, h2⟩ := less_take x h
  have hm : x ∈ s.drop (lessN s x) := by
    have : x ∈ s.take (lessN s x) ++ s.drop (lessN s x) := by rw [List.take_append_drop]; exact hx
    rcases List.mem_append.1 this with h | h
    · have := h1 x h; omega
    · exact h
  have hp : lessN s x < s.length := by
    apply Classical.byContradiction
    intro hn
    rw [List.drop_eq_nil_of_le (by omega)] at hm
    cases hm
  refine ⟨hp, ?_⟩
  rw [List.drop_eq_getElem_cons hp] at hm h2
  have hd : (s.drop (lessN s x)).Pairwise (· < ·) := h.drop
  rw [List.drop_eq_getElem_cons hp] at hd
  rcases List.mem_cons.1 hm with e | hm
  · exact e.symm
  · have k1 := (List.pairwise_cons.1 hd).1 x hm
    have k2 := h2 _ (List.mem_cons_self)
    omega
theorem del_mem {s : List Int} (h : s.Pairwise (· < ·)) {x y : Int} (hx : x ∈ s) : y ∈ delAt s (lessN s x) ↔ y ≠ x ∧ y ∈ s := by
  obtain ⟨hp, e⟩ := less_at h hx
  obtain ⟨h1, h2⟩ := less_take x h
  have hd : (s.drop (lessN s x)).Pairwise (· < ·) := h.drop
  rw [List.drop_eq_getElem_cons hp, e] at hd
  constructor
  · intro hy
    refine ⟨fun hyx => ?_, delAt_sub hy⟩
    unfold delAt at hy
    rcases List.mem_append.1 hy with hy | hy
    · have := h1 y hy; omega
    · have := (List.pairwise_cons.1 hd).1 y hy; omega
  · rintro ⟨hne, hy⟩
    unfold delAt
    have : y ∈ s.take (lessN s x) ++ s.drop (lessN s x) := by rw [List.take_append_drop]; exact hy
    rw [List.drop_eq_getElem_cons hp, e] at this
    rcases List.mem_append.1 this with h | h
    · exact List.mem_append.2 (.inl h)
    · rcases List.mem_cons.1 h with h | h
      · exact absurd h hne
      · exact List.mem_append.2 (.inr h)
/-- Rows that increase are the same if they have the same numbers. -/
theorem sorted_ext : ∀ {a b : List Int}, a.Pairwise (· < ·) → b.Pairwise (· < ·) → (∀ x, x ∈ a ↔ x ∈ b) → a = b
  | [], [], _, _, _ => rfl
  | [], y :: s, _, _, h => by have := (h y).2 (List.mem_cons_self); cases this
  | x :: r, [], _, _, h => by have := (h x).1 (List.mem_cons_self); cases this
  | x :: r, y :: s, ha, hb, h => by
    obtain ⟨a1, a2⟩ := List.pairwise_cons.1 ha
    obtain ⟨b1, b2⟩ := List.pairwise_cons.1 hb
    have hxy : x = y := by
      rcases List.mem_cons.1 ((h x).1 List.mem_cons_self) with e | e
      · exact e
      · rcases List.mem_cons.1 ((h y).2 List.mem_cons_self) with e' | e'
        · exact e'.symm
        · have := a1 y e'; have := b1 x e; omega
    subst hxy
    congr 1
    refine sorted_ext a2 b2 fun z => ?_
    constructor
    · intro hz
      rcases List.mem_cons.1 ((h z).1 (List.mem_cons_of_mem _ hz)) with e | e
      · have := a1 z hz; omega
      · exact e
    · intro hz
      rcases List.mem_cons.1 ((h z).2 (List.mem_cons_of_mem _ hz)) with e | e
      · have := b1 z hz; omega
      · exact e
end Go.Proofs.Ytebcnhnkpmbgdaa
