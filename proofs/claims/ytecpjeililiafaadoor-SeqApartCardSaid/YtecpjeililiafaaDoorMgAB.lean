/-
  Joined by a program out of: LRd, AheadPure, ObjPure.
-/
import Derived.Test.YtecpjeililiafaaDoorMgAA
import Derived.Deep.AppendLies

/-
  Slices that read as a list of things of s cells each: events, calls, numbers.
-/
namespace Go.Proofs.YtecpjeililiafaaDoor
open Go.RowKit
set_option maxRecDepth 20000

abbrev intCs (x : Int) : List Value := [.int .i64 x]
abbrev evCs (x : Ev) : List Value := [.int .i64 x.who, .int .i64 x.thing, .int .i64 x.kind, .int .i64 x.val]
abbrev clCs (c : Cl) : List Value := [.int .i64 c.who, .int .i64 c.thing, .int .i64 c.kind, .int .i64 c.arg, .int .i64 c.res, .int .i64 c.frm, .int .i64 c.til]
abbrev evV (x : Ev) : Value := .agg #[.int .i64 x.who, .int .i64 x.thing, .int .i64 x.kind, .int .i64 x.val]
abbrev clV (c : Cl) : Value := .agg #[.int .i64 c.who, .int .i64 c.thing, .int .i64 c.kind, .int .i64 c.arg, .int .i64 c.res, .int .i64 c.frm, .int .i64 c.til]

/-- The value v is a slice that reads as the list l, each of s cells, in a block below B. -/
def LRd {α : Type} (s : Nat) (f : α → List Value) (w : World) (B : Nat) (v : Value) (l : List α) : Prop :=
  ∃ A cap, v = .slice A l.length cap ∧ l.length ≤ cap ∧ cap ≤ maxLen ∧ (0 < l.length → ∃ g o, A = some ⟨g, o, none⟩ ∧ g < B ∧ ∀ k x, l[k]? = some x → ∀ j u, (f x)[j]? = some u → w.cell? ⟨g, o + k * s + j, none⟩ = some u)

section
variable {α : Type} {s : Nat} {f : α → List Value} {w w' : World} {B B' : Nat} {v : Value} {l : List α}
theorem LRd.below (h : LRd s f w B v l) (hb : Below B w w') : LRd s f w' B v l := by
  obtain ⟨A, cap, hv, h0, h1, h2⟩ := h
  refine ⟨A, cap, hv, h0, h1, fun h0 => ?_⟩
  obtain ⟨g, o, hA, hg, hc⟩ := h2 h0
  exact ⟨g, o, hA, hg, fun k x hk j u hu => (hb.cell (p := ⟨g, o + k * s + j, none⟩) hg).trans (hc k x hk j u hu)⟩
theorem LRd.mono (h : LRd s f w B v l) (hB : B ≤ B') : LRd s f w B' v l := by
  obtain ⟨A, cap, hv, h0, h1, h2⟩ := h
  refine ⟨A, cap, hv, h0, h1, fun h0 => ?_⟩
  obtain ⟨g, o, hA, hg, hc⟩ := h2 h0
  exact ⟨g, o, hA, by omega, hc⟩
theorem LRd.is (h : LRd s f w B v l) : ∃ A cap, v = .slice A l.length cap ∧ l.length ≤ cap ∧ cap ≤ maxLen := by
  obtain ⟨A, cap, hv, h0, h1, h2⟩ := h
  exact ⟨A, cap, hv, h0, h1⟩
theorem LRd.at_ {A : Option Addr} {n cap : Nat} (h : LRd s f w B (.slice A n cap) l) {k : Nat} {x : α} (hk : l[k]? = some x) :
    ∃ g o, A = some ⟨g, o, none⟩ ∧ g < B ∧ ∀ j u, (f x)[j]? = some u → w.cell? ⟨g, o + k * s + j, none⟩ = some u := by
  obtain ⟨A', cap', hv, h0, h1, h2⟩ := h
  injection hv with hv1 hv2 hv3
  subst hv1
  obtain ⟨g, o, hA, hg, hc⟩ := h2 (by have := (List.getElem?_eq_some_iff.1 hk).1; omega)
  exact ⟨g, o, hA, hg, hc k x hk⟩
theorem LRd.nil (w : World) (B : Nat) : LRd s f w B (.slice none 0 0) ([] : List α) := ⟨none, 0, rfl, Nat.le_refl _, Nat.zero_le _, fun h => by simp at h⟩
theorem LRd.take_ {A : Option Addr} {m cap : Nat} (h : LRd s f w B (.slice A m cap) l) {n : Nat} (hn : n ≤ l.length) : LRd s f w B (.slice A n cap) (l.take n) := by
  obtain ⟨A', cap', hv, h0, h1, h2⟩ := h
  injection hv with hv1 hv2 hv3
  subst hv1
  subst hv3
  have e : (l.take n).length = n := by rw [List.length_take]; omega
  refine ⟨A, cap, by rw [e], by omega, h1, fun hp => ?_⟩
  obtain ⟨g, o, hA, hg, hc⟩ := h2 (by omega)
  refine ⟨g, o, hA, hg, fun k x hk => hc k x ?_⟩
  rw [List.getElem?_take] at hk
  split at hk
  · exact hk
  · cases hk

theorem flat_at (hf : ∀ x, (f x).length = s) : ∀ {l : List α} {k : Nat} {x : α}, l[k]? = some x → ∀ {j : Nat} {u : Value}, (f x)[j]? = some u → (l.flatMap f)[k * s + j]? = some u
  | [], k, x, h, _, _, _ => by simp at h
  | y :: r, 0, x, h, j, u, hu => by
    simp at h
    subst h
    rw [List.flatMap_cons, List.getElem?_append, if_pos (by have := (List.getElem?_eq_some_iff.1 hu).1; omega), Nat.zero_mul, Nat.zero_add]
    exact hu
  | y :: r, k + 1, x, h, j, u, hu => by
    have h' : r[k]? = some x := by simpa using h
    have hj := (List.getElem?_eq_some_iff.1 hu).1
    have e : (k + 1) * s + j - (f y).length = k * s + j := by rw [hf y, Nat.add_mul]; omega
    rw [List.flatMap_cons, List.getElem?_append, if_neg (by rw [hf y, Nat.add_mul]; omega), e]
    exact flat_at (l := r) hf h' hu
theorem flat_len (hf : ∀ x, (f x).length = s) : ∀ l : List α, (l.flatMap f).length = l.length * s
  | [] => by simp
  | y :: r => by rw [List.flatMap_cons, List.length_append, flat_len hf r, hf y, List.length_cons, Nat.add_mul]; omega

/-- What is left behind the first k of it. -/
theorem LRd.drop_ {g o n cap : Nat} (h : LRd s f w B (.slice (some ⟨g, o, none⟩) n cap) l) {k : Nat} (hk : k ≤ n) : LRd s f w B (.slice (some ⟨g, o + k * s, none⟩) (n - k) (cap - k)) (l.drop k) := by
  obtain ⟨A', cap', hv, h0, h1, h2⟩ := h
  injection hv with hv1 hv2 hv3
  subst hv2
  subst hv3
  have e : (l.drop k).length = l.length - k := List.length_drop
  refine ⟨_, _, by rw [e], by omega, by unfold maxLen at *; omega, fun hp => ?_⟩
  obtain ⟨g', o', hA, hg, hc⟩ := h2 (by omega)
  rw [← hv1] at hA
  injection hA with hA
  injection hA with hA1 hA2
  subst hA1
  subst hA2
  refine ⟨g, _, rfl, hg, fun i x hi j u hu => ?_⟩
  rw [List.getElem?_drop] at hi
  have := hc _ _ hi j u hu
  rw [Nat.add_mul, ← Nat.add_assoc] at this
  exact this
/-- A row of the call's own reads as its list. -/
theorem LRd.of_own {base : Nat} {t : TypeId} (hf : ∀ x, (f x).length = s) (h : w.ownsRow base t s v l.length (l.flatMap f)) : LRd s f w w.heap.size v l := by
  rcases h.2 with ⟨rfl, h0⟩ | ⟨g, cap, cur, rfl, h1, h2, h3, h4, h5, h6⟩
  · exact ⟨none, 0, by rw [h0], by omega, Nat.zero_le _, fun h => by omega⟩
  · refine ⟨_, cap, rfl, h3, h4, fun _ => ⟨g, 0, rfl, ?_, fun k x hk j u hu => ?_⟩⟩
    · exact (Array.getElem?_eq_some_iff.1 h2).1
    · have hkl := (List.getElem?_eq_some_iff.1 hk).1
      have hjl : j < s := by have := (List.getElem?_eq_some_iff.1 hu).1; rw [hf x] at this; exact this
      have hlt : k * s + j < l.length * s := by
        have : (k + 1) * s ≤ l.length * s := Nat.mul_le_mul_right s hkl
        rw [Nat.add_mul] at this
        omega
      rw [Nat.zero_add, World.ownsRow.cellAt h (k * s + j) hlt]
      exact flat_at (l := l) hf hk hu
/-- A block of exactly these cells reads as the list. -/
theorem LRd.of_lit (hf : ∀ x, (f x).length = s) (t : TypeId) {cs : Array Value} (hcs : cs.toList = l.flatMap f) {n : Nat} (hn : n = l.length) (hm : n ≤ maxLen) :
    LRd s f (w.alloc (.cells cs t)) (w.heap.size + 1) (.slice (some ⟨w.heap.size, 0, none⟩) n n) l := by
  subst hn
  refine ⟨_, _, rfl, Nat.le_refl _, hm, fun _ => ⟨_, 0, rfl, by omega, fun k x hk j u hu => ?_⟩⟩
  rw [Nat.zero_add, cell_of_row _ _ _ cs t (0, 0) (heap_alloc_new w _)]
  have h1 := flat_at (l := l) hf hk hu
  rw [← hcs] at h1
  simpa using h1
end

abbrev ERd (w : World) (B : Nat) (v : Value) (l : List Ev) : Prop := LRd 4 evCs w B v l
abbrev CRd (w : World) (B : Nat) (v : Value) (l : List Cl) : Prop := LRd 7 clCs w B v l
abbrev NRd (w : World) (B : Nat) (v : Value) (l : List Int) : Prop := LRd 1 intCs w B v l

/-- A slice of the call's own (in blocks from B on) that holds these calls; these events. -/
def COwn (w : World) (B : Nat) (v : Value) (l : List Cl) : Prop := w.ownsRow B 57 7 v l.length (l.flatMap clCs)
def EOwn (w : World) (B : Nat) (v : Value) (l : List Ev) : Prop := w.ownsRow B 77 4 v l.length (l.flatMap evCs)
theorem COwn.rd {w : World} {B : Nat} {v : Value} {l : List Cl} (h : COwn w B v l) : CRd w w.heap.size v l := LRd.of_own (fun _ => rfl) h
theorem EOwn.rd {w : World} {B : Nat} {v : Value} {l : List Ev} (h : EOwn w B v l) : ERd w w.heap.size v l := LRd.of_own (fun _ => rfl) h

section
variable {w : World} {B : Nat} {A : Option Addr} {n cap k : Nat}
theorem LRd.ev {l : List Ev} (h : ERd w B (.slice A n cap) l) {x : Ev} (hk : l[k]? = some x) : ∃ g o, A = some ⟨g, o, none⟩ ∧ g < B ∧ w.cell? ⟨g, o + k * 4, none⟩ = some (.int .i64 x.who) ∧ w.cell? ⟨g, o + k * 4 + 1, none⟩ = some (.int .i64 x.thing) ∧ w.cell? ⟨g, o + k * 4 + 2, none⟩ = some (.int .i64 x.kind) ∧ w.cell? ⟨g, o + k * 4 + 3, none⟩ = some (.int .i64 x.val) := by
  obtain ⟨g, o, hA, hg, hc⟩ := LRd.at_ h hk
  exact ⟨g, o, hA, hg, hc 0 _ rfl, hc 1 _ rfl, hc 2 _ rfl, hc 3 _ rfl⟩
theorem LRd.cl {l : List Cl} (h : CRd w B (.slice A n cap) l) {x : Cl} (hk : l[k]? = some x) : ∃ g o, A = some ⟨g, o, none⟩ ∧ g < B ∧ w.cell? ⟨g, o + k * 7, none⟩ = some (.int .i64 x.who) ∧ w.cell? ⟨g, o + k * 7 + 1, none⟩ = some (.int .i64 x.thing) ∧ w.cell? ⟨g, o + k * 7 + 2, none⟩ = some (.int .i64 x.kind) ∧ w.cell? ⟨g, o + k * 7 + 3, none⟩ = some (.int .i64 x.arg) ∧ w.cell? ⟨g, o + k * 7 + 4, none⟩ = some (.int .i64 x.res) ∧ w.cell? ⟨g, o + k * 7 + 5, none⟩ = some (.int .i64 x.frm) ∧ w.cell? ⟨g, o + k * 7 + 6, none⟩ = some (.int .i64 x.til) := by
  obtain ⟨g, o, hA, hg, hc⟩ := LRd.at_ h hk
  exact ⟨g, o, hA, hg, hc 0 _ rfl, hc 1 _ rfl, hc 2 _ rfl, hc 3 _ rfl, hc 4 _ rfl, hc 5 _ rfl, hc 6 _ rfl⟩
theorem LRd.num {l : List Int} (h : NRd w B (.slice A n cap) l) {x : Int} (hk : l[k]? = some x) : ∃ g o, A = some ⟨g, o, none⟩ ∧ g < B ∧ w.cell? ⟨g, o + k, none⟩ = some (.int .i64 x) := by
  obtain ⟨g, o, hA, hg, hc⟩ := LRd.at_ h hk
  have := hc 0 _ rfl
  rw [Nat.mul_one] at this
  exact ⟨g, o, hA, hg, this⟩
end
end Go.Proofs.YtecpjeililiafaaDoor

/-
  A relation given by a test of two items, row by row; who is ahead of whom among calls.
-/
namespace Go.Proofs.YtecpjeililiafaaDoor
open Go.RowKit
set_option maxRecDepth 20000

def relP (p : Nat → Nat → Bool) (m : Nat) : Nat → Nat := fun i => if i < m then pickS (p i) m else 0
theorem relP_bit (p : Nat → Nat → Bool) (m i j : Nat) : (relP p m i).testBit j = (decide (i < m) && decide (j < m) && p i j) := by
  unfold relP
  by_cases h : i < m
  · rw [if_pos h, pickS_bit]; simp [h]
  · rw [if_neg h]; simp [h]
theorem relP_lt (p : Nat → Nat → Bool) {m : Nat} (hm : m ≤ 12) (i : Nat) : relP p m i < 65536 := by
  unfold relP
  split
  · exact pickS_lt16 _ hm
  · omega
/-- The relation behind k whole rows and the first j of row k. -/
def upP (p : Nat → Nat → Bool) (m k j : Nat) : Nat → Nat := fun i => if i < k then pickS (p i) m else if i = k then pickS (p k) j else 0
theorem upP_end (p : Nat → Nat → Bool) (m k : Nat) : upP p m k m = upP p m (k + 1) 0 := by
  funext i
  unfold upP
  by_cases h1 : i < k
  · rw [if_pos h1, if_pos (by omega)]
  · rw [if_neg h1]
    by_cases h2 : i = k
    · subst h2; rw [if_pos rfl, if_pos (by omega)]
    · rw [if_neg h2, if_neg (by omega)]
      by_cases h3 : i = k + 1
      · rw [if_pos h3]; rfl
      · rw [if_neg h3]
theorem upP_step (p : Nat → Nat → Bool) (m k j : Nat) : upP p m k (j + 1) = if p k j = true then (fun i => if i = k then upP p m k j k ||| 2 ^ j else upP p m k j i) else upP p m k j := by
  have hs : pickS (p k) (j + 1) = if p k j = true then pickS (p k) j ||| 2 ^ j else pickS (p k) j := by
    apply Nat.eq_of_testBit_eq
    intro i
    rw [pickS_bit]
    by_cases h : p k j = true
    · rw [if_pos h, Nat.testBit_or, pickS_bit, Nat.testBit_two_pow]
      by_cases e : j = i
      · subst e; simp [h]
      · simp [e, show i < j + 1 ↔ i < j by omega]
    · rw [if_neg h, pickS_bit]
      by_cases e : i = j
      · subst e; simp [h]
      · simp [show i < j + 1 ↔ i < j by omega]
  by_cases h : p k j = true
  · rw [if_pos h] at hs ⊢
    funext i
    unfold upP
    by_cases h1 : i = k
    · subst h1; simp [hs]
    · simp [h1]
  · rw [if_neg h] at hs ⊢
    funext i
    unfold upP
    rw [hs]
theorem upP_lt (p : Nat → Nat → Bool) (m k j : Nat) (hm : m ≤ 12) (hj : j ≤ 12) (i : Nat) : upP p m k j i < 65536 := by
  unfold upP
  split
  · exact pickS_lt16 _ hm
  · split
    · exact pickS_lt16 _ hj
    · omega
theorem upP_all (p : Nat → Nat → Bool) (m : Nat) : upP p m m 0 = relP p m := by
  funext i
  unfold upP relP
  by_cases h : i < m
  · rw [if_pos h, if_pos h]
  · rw [if_neg h, if_neg h]
    split <;> rfl
theorem upP_none (p : Nat → Nat → Bool) (m : Nat) : upP p m 0 0 = fun _ => 0 := by
  funext i
  unfold upP
  rw [if_neg (by omega)]
  split <;> rfl

/-- Is call i answered ahead of call j? -/
def aheadB (l : List Cl) (i j : Nat) : Bool := decide ((l.getD i default).til ≠ -1 ∧ (l.getD i default).til < (l.getD j default).frm)
theorem aheadB_at {l : List Cl} {i j : Nat} {x y : Cl} (hx : l[i]? = some x) (hy : l[j]? = some y) : aheadB l i j = decide (x.til ≠ -1 ∧ x.til < y.frm) := by
  unfold aheadB
  rw [List.getD_eq_getElem?_getD, hx, List.getD_eq_getElem?_getD, hy]
  rfl
end Go.Proofs.YtecpjeililiafaaDoor

/-
  Plain mathematics for package object: states, steps, plays. No Go, no program.
-/
namespace Go.Proofs.YtecpjeililiafaaDoor
open Go.RowKit
set_option maxRecDepth 20000

/-- What is done at a thing, and what comes of it. -/
structure Dd where
  kind : Int
  arg : Int
  res : Int
instance : Inhabited Dd := ⟨⟨0, 0, 0⟩⟩

/-- Is one number all there is of a state of this type? -/
def oneB (typ : Int) : Bool := decide (typ = 1 ∨ typ = 5)
/-- Each less than the next one. -/
def incrB (s : List Int) : Bool := decide (s.Pairwise (· < ·))
/-- A state that is not too long: may it be? -/
def validB (typ : Int) (s : List Int) : Bool :=
  if oneB typ = true then decide (s.length = 1) && btw 0 (s.getD 0 0) 1000 else (s.all fun x => btw 1 x 1000) && (typ != 4 || incrB s)
/-- The error of Check. -/
def stateE (typ : Int) (s : List Int) : Int :=
  if btw 1 typ 5 = false then 1 else if 50 < s.length then 2 else if validB typ s = false then 3 else 0
/-- How many are less. -/
def lessN (s : List Int) (x : Int) : Nat := s.countP (· < x)
/-- One more, in its place. -/
def insAt (s : List Int) (p : Nat) (x : Int) : List Int := s.take p ++ x :: s.drop p
/-- One less. -/
def delAt (s : List Int) (p : Nat) : List Int := s.take p ++ s.drop (p + 1)

/-- What comes of a kind that belongs to the type, at a state that may be. -/
def stepped (s : List Int) (kind arg : Int) : List Int × Int × Int :=
  if kind = 1 then ([arg], 0, 0)
  else if kind = 2 then (s, s.getD 0 0, 0)
  else if kind = 3 ∨ kind = 5 then (if s.length = 50 then ([], 0, 2) else (insAt s s.length arg, 0, 0))
  else if kind = 4 then (if s.length = 0 then (s, -1, 0) else (delAt s 0, s.getD 0 0, 0))
  else if kind = 6 then (if s.length = 0 then (s, -1, 0) else (delAt s (s.length - 1), s.getD (s.length - 1) 0, 0))
  else if kind = 10 then (if s.getD 0 0 = 1000 then ([], 0, 2) else ([s.getD 0 0 + 1], s.getD 0 0, 0))
  else if kind = 7 then (if arg ∈ s then (s, 0, 0) else if s.length = 50 then ([], 0, 2) else (insAt s (lessN s arg) arg, 1, 0))
  else if kind = 8 then (if arg ∈ s then (delAt s (lessN s arg), 1, 0) else (s, 0, 0))
  else (s, if arg ∈ s then 1 else 0, 0)
/-- Step: the new state, the answer, the error. -/
def stepO (typ : Int) (s : List Int) (kind arg : Int) : List Int × Int × Int :=
  if stateE typ s ≠ 0 then ([], 0, stateE typ s)
  else if (fitsB typ kind && takesB kind arg) = false then ([], 0, 3)
  else stepped s kind arg
def beginL (typ : Int) : List Int := if oneB typ = true then [0] else []
/-- How many of what is done may be, from a state on. -/
def playFrom (typ : Int) (s : List Int) : List Dd → Nat
  | [] => 0
  | d :: r => if (stepO typ s d.kind d.arg).2.2 ≠ 0 ∨ (stepO typ s d.kind d.arg).2.1 ≠ d.res then 0 else playFrom typ (stepO typ s d.kind d.arg).1 r + 1
def playN (typ : Int) (l : List Dd) : Nat := playFrom typ (beginL typ) l
/-- The state behind. -/
def stateFrom (typ : Int) (s : List Int) (l : List Dd) : List Int := l.foldl (fun s d => (stepO typ s d.kind d.arg).1) s

/-! ### States -/
theorem valid_one {typ : Int} {s : List Int} (h : oneB typ = true) : validB typ s = true ↔ s.length = 1 ∧ 0 ≤ s.getD 0 0 ∧ s.getD 0 0 ≤ 1000 := by
  unfold validB
  rw [if_pos h, Bool.and_eq_true, decide_eq_true_iff, btw_iff]
theorem valid_row {typ : Int} {s : List Int} (h : oneB typ = false) : validB typ s = true ↔ (∀ x ∈ s, 1 ≤ x ∧ x ≤ 1000) ∧ (typ = 4 → s.Pairwise (· < ·)) := by
  unfold validB
  rw [if_neg (by rw [h]; decide), Bool.and_eq_true, List.all_eq_true, Bool.or_eq_true, bne_iff_ne, incrB, decide_eq_true_iff]
  constructor
  · rintro ⟨h1, h2⟩
    exact ⟨fun x hx => btw_iff.1 (h1 x hx), fun e => h2.elim (fun hn => absurd e hn) id⟩
  · rintro ⟨h1, h2⟩
    refine ⟨fun x hx => btw_iff.2 (h1 x hx), ?_⟩
    by_cases e : typ = 4
    · exact .inr (h2 e)
    · exact .inl e
theorem stateE_ok {typ : Int} {s : List Int} : stateE typ s = 0 ↔ (1 ≤ typ ∧ typ ≤ 5) ∧ s.length ≤ 50 ∧ validB typ s = true := by
  unfold stateE
  by_cases h1 : btw 1 typ 5 = false
  · rw [if_pos h1]
    exact ⟨fun h => absurd h (by decide), fun h => absurd (btw_iff.2 h.1) (by rw [h1]; decide)⟩
  · rw [if_neg h1]
    have h1' : 1 ≤ typ ∧ typ ≤ 5 := btw_iff.1 (by cases h : btw 1 typ 5 <;> simp_all)
    by_cases h2 : 50 < s.length
    · rw [if_pos h2]
      exact ⟨fun h => absurd h (by decide), fun h => by omega⟩
    · rw [if_neg h2]
      by_cases h3 : validB typ s = false
      · rw [if_pos h3]
        exact ⟨fun h => absurd h (by decide), fun h => by rw [h3] at h; exact absurd h.2.2 (by decide)⟩
      · rw [if_neg h3]
        exact ⟨fun _ => ⟨h1', by omega, by cases h : validB typ s <;> simp_all⟩, fun _ => rfl⟩
theorem stateE_range (typ : Int) (s : List Int) : 0 ≤ stateE typ s ∧ stateE typ s ≤ 3 := by unfold stateE; (repeat' split) <;> omega

theorem adj_sorted : ∀ {s : List Int}, (∀ i, i + 1 < s.length → s.getD i 0 < s.getD (i + 1) 0) → s.Pairwise (· < ·)
  | [], _ => .nil
  | [x], _ => by simp
  | x :: y :: r, h => by
    have h1 : (y :: r).Pairwise (· < ·) := adj_sorted (s := y :: r) fun i hi => by
      have := h (i + 1) (by simp at hi ⊢; omega)
      simpa using this
    have h0 : x < y := by simpa using h 0 (by simp)
    refine List.pairwise_cons.2 ⟨fun z hz => ?_, h1⟩
    rcases List.mem_cons.1 hz with rfl | hz
    · exact h0
    · exact Int.lt_trans h0 ((List.pairwise_cons.1 h1).1 z hz)
theorem sorted_at {s : List Int} (h : s.Pairwise (· < ·)) {i j : Nat} (hij : i < j) (hj : j < s.length) : s.getD i 0 < s.getD j 0 := by
  have := List.pairwise_iff_getElem.1 h i j (by omega) hj hij
  simpa [List.getD_eq_getElem?_getD, List.getElem?_eq_getElem hj, List.getElem?_eq_getElem (show i < s.length by omega)] using this
theorem not_sorted {s : List Int} {i : Nat} (hi : i + 1 < s.length) (h : s.getD (i + 1) 0 ≤ s.getD i 0) : incrB s = false := by
  unfold incrB
  rw [decide_eq_false_iff_not]
  intro hp
  have := sorted_at hp (show i < i + 1 by omega) hi
  omega
theorem sorted_yes {s : List Int} (h : ∀ i, i + 1 < s.length → s.getD i 0 < s.getD (i + 1) 0) : incrB s = true := by
  unfold incrB
  rw [decide_eq_true_iff]
  exact adj_sorted h

/-! ### One more, one less -/
theorem insAt_len (s : List Int) {p : Nat} (x : Int) (h : p ≤ s.length) : (insAt s p x).length = s.length + 1 := by
  unfold insAt
  simp
  omega
theorem delAt_len (s : List Int) {p : Nat} (h : p < s.length) : (delAt s p).length = s.length - 1 := by
  unfold delAt
  simp
  omega
theorem insAt_mem {s : List Int} {p : Nat} {x y : Int} : y ∈ insAt s p x ↔ y = x ∨ y ∈ s := by
  unfold insAt
  rw [List.mem_append, List.mem_cons]
  constructor
  · rintro (h | h | h)
    · exact .inr (List.mem_of_mem_take h)
    · exact .inl h
    · exact .inr (List.mem_of_mem_drop h)
  · rintro (h | h)
    · exact .inr (.inl h)
    · have : y ∈ s.take p ++ s.drop p := by rw [List.take_append_drop]; exact h
      rcases List.mem_append.1 this with h | h
      · exact .inl h
      · exact .inr (.inr h)
theorem delAt_sub {s : List Int} {p : Nat} {y : Int} (h : y ∈ delAt s p) : y ∈ s := by
  unfold delAt at h
  rcases List.mem_append.1 h with h | h
  · exact List.mem_of_mem_take h
  · exact List.mem_of_mem_drop h
theorem lessN_le (s : List Int) (x : Int) : lessN s x ≤ s.length := List.countP_le_length
theorem lessN_cons (y : Int) (r : List Int) (x : Int) : lessN (y :: r) x = lessN r x + (if y < x then 1 else 0) := by
  unfold lessN
  rw [List.countP_cons]
  simp
/-- Of a row that increases just the first lessN are less. -/
theorem lessN_zero : ∀ {s : List Int} {x : Int}, (∀ y ∈ s, x ≤ y) → lessN s x = 0
  | [], _, _ => rfl
  | y :: r, x, h => by
    rw [lessN_cons, lessN_zero (s := r) fun z hz => h z (List.mem_cons_of_mem _ hz), if_neg (by have := h y (List.mem_cons_self); omega)]
theorem less_take : ∀ {s : List Int} (x : Int), s.Pairwise (· < ·) → (∀ y ∈ s.take (lessN s x), y < x) ∧ (∀ y ∈ s.drop (lessN s x), x ≤ y)
  | [], x, _ => ⟨fun y h => by simp at h, fun y h => by simp at h⟩
  | y :: r, x, h => by
    obtain ⟨h1, h2⟩ := List.pairwise_cons.1 h
    by_cases hy : y < x
    · have e : lessN (y :: r) x = lessN r x + 1 := by rw [lessN_cons, if_pos hy]
      rw [e, List.take_succ_cons, List.drop_succ_cons]
      obtain ⟨k1, k2⟩ := less_take (s := r) x h2
      refine ⟨fun z hz => ?_, k2⟩
      rcases List.mem_cons.1 hz with rfl | hz
      · exact hy
      · exact k1 z hz
    · have e : lessN (y :: r) x = 0 := lessN_zero fun z hz => by
        rcases List.mem_cons.1 hz with rfl | hz
        · omega
        · have := h1 z hz; omega
      rw [e]
      refine ⟨fun z hz => by simp at hz, fun z hz => ?_⟩
      rw [List.drop_zero] at hz
      rcases List.mem_cons.1 hz with rfl | hz
      · omega
      · have := h1 z hz; omega
theorem ins_sorted {s : List Int} (h : s.Pairwise (· < ·)) {x : Int} (hx : x ∉ s) : (insAt s (lessN s x) x).Pairwise (· < ·) := by
  obtain ⟨h1, h2⟩ := less_take x h
  unfold insAt
  rw [List.pairwise_append]
  refine ⟨h.take, List.pairwise_cons.2 ⟨fun z hz => ?_, h.drop⟩, fun a ha b hb => ?_⟩
  · have h3 := h2 z hz
    have h4 : z ≠ x := fun e => hx (e ▸ List.mem_of_mem_drop hz)
    omega
  · rcases List.mem_cons.1 hb with rfl | hb
    · exact h1 a ha
    · have := h1 a ha; have := h2 b hb; omega
theorem del_sorted {s : List Int} (h : s.Pairwise (· < ·)) (p : Nat) : (delAt s p).Pairwise (· < ·) := by
  unfold delAt
  have : (s.take p ++ s.drop p).Pairwise (· < ·) := by rw [List.take_append_drop]; exact h
  rw [List.pairwise_append] at this ⊢
  have e : s.drop (p + 1) = (s.drop p).drop 1 := by rw [List.drop_drop]
  refine ⟨h.take, h.drop, fun a ha b hb => this.2.2 a ha b ?_⟩
  rw [e] at hb
  exact List.mem_of_mem_drop hb
/-- Where it is in a row that increases. -/
theorem less_at {s : List Int} (h : s.Pairwise (· < ·)) {x : Int} (hx : x ∈ s) : ∃ hp : lessN s x < s.length, s[lessN s x] = x := by
  obtain ⟨h1, h2⟩ := less_take x h
  have hm : x ∈ s.drop (lessN s x) := by
    have : x ∈ s.take (lessN s x) ++ s.drop (lessN s x) := by rw [List.take_append_drop]; exact hx
    rcases List.mem_append.1 this with h | h
    · have := h1 x h; omega
    · exact h
  have hp : lessN s x < s.length := by
    apply Classical.byContradiction
    intro hn
    rw [List.drop_eq_nil_of_le (by omega)] at hm
    cases hm
  refine ⟨hp, ?_⟩
  rw [List.drop_eq_getElem_cons hp] at hm h2
  have hd : (s.drop (lessN s x)).Pairwise (· < ·) := h.drop
  rw [List.drop_eq_getElem_cons hp] at hd
  rcases List.mem_cons.1 hm with e | hm
  · exact e.symm
  · have k1 := (List.pairwise_cons.1 hd).1 x hm
    have k2 := h2 _ (List.mem_cons_self)
    omega
theorem del_mem {s : List Int} (h : s.Pairwise (· < ·)) {x y : Int} (hx : x ∈ s) : y ∈ delAt s (lessN s x) ↔ y ≠ x ∧ y ∈ s := by
  obtain ⟨hp, e⟩ := less_at h hx
  obtain ⟨h1, h2⟩ := less_take x h
  have hd : (s.drop (lessN s x)).Pairwise (· < ·) := h.drop
  rw [List.drop_eq_getElem_cons hp, e] at hd
  constructor
  · intro hy
    refine ⟨fun hyx => ?_, delAt_sub hy⟩
    unfold delAt at hy
    rcases List.mem_append.1 hy with hy | hy
    · have := h1 y hy; omega
    · have := (List.pairwise_cons.1 hd).1 y hy; omega
  · rintro ⟨hne, hy⟩
    unfold delAt
    have : y ∈ s.take (lessN s x) ++ s.drop (lessN s x) := by rw [List.take_append_drop]; exact hy
    rw [List.drop_eq_getElem_cons hp, e] at this
    rcases List.mem_append.1 this with h | h
    · exact List.mem_append.2 (.inl h)
    · rcases List.mem_cons.1 h with h | h
      · exact absurd h hne
      · exact List.mem_append.2 (.inr h)
/-- Rows that increase are the same if they have the same numbers. -/
theorem sorted_ext : ∀ {a b : List Int}, a.Pairwise (· < ·) → b.Pairwise (· < ·) → (∀ x, x ∈ a ↔ x ∈ b) → a = b
  | [], [], _, _, _ => rfl
  | [], y :: s, _, _, h => by have := (h y).2 (List.mem_cons_self); cases this
  | x :: r, [], _, _, h => by have := (h x).1 (List.mem_cons_self); cases this
  | x :: r, y :: s, ha, hb, h => by
    obtain ⟨a1, a2⟩ := List.pairwise_cons.1 ha
    obtain ⟨b1, b2⟩ := List.pairwise_cons.1 hb
    have hxy : x = y := by
      rcases List.mem_cons.1 ((h x).1 List.mem_cons_self) with e | e
      · exact e
      · rcases List.mem_cons.1 ((h y).2 List.mem_cons_self) with e' | e'
        · exact e'.symm
        · have := a1 y e'; have := b1 x e; omega
    subst hxy
    congr 1
    refine sorted_ext a2 b2 fun z => ?_
    constructor
    · intro hz
      rcases List.mem_cons.1 ((h z).1 (List.mem_cons_of_mem _ hz)) with e | e
      · have := a1 z hz; omega
      · exact e
    · intro hz
      rcases List.mem_cons.1 ((h z).2 (List.mem_cons_of_mem _ hz)) with e | e
      · have := b1 z hz; omega
      · exact e
end Go.Proofs.YtecpjeililiafaaDoor
