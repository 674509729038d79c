/-
  Joined by a program out of: ObjPure, SpanPure, AheadPure, RiteDef, QueRun, NodupLt.
-/
import Derived.Test.YthjmncngegchjaaGreatDoorMgAA
import Derived.Test.YthjmncngegchjaaGreatDoorProg
import Derived.WalkKit
import Derived.Test.YthjmncngegchjaaGreatDoorMgAD
import Derived.Test.YthjmncngegchjaaGreatDoorMgAC

/-
  Plain mathematics for package object: states, steps, plays. No Go, no program.
-/
namespace Go.Proofs.YthjmncngegchjaaGreatDoor
open Go.RowKit
set_option maxRecDepth 20000
/-- What is done at a thing, and what comes of it. -/
structure Dd where
  kind : Int
  arg : Int
  res : Int
instance : Inhabited Dd := ⟨⟨0, 0, 0⟩⟩
/-- Is one number all there is of a state of this type? -/
def oneB (typ : Int) : Bool := decide (typ = 1 ∨ typ = 5)
/-- Each less than the next one. -/
def incrB (s : List Int) : Bool := decide (s.Pairwise (· < ·))
/-- A state that is not too long: may it be? -/
def validB (typ : Int) (s : List Int) : Bool :=
  if oneB typ = true then decide (s.length = 1) && btw 0 (s.getD 0 0) 1000 else (s.all fun x => btw 1 x 1000) && (typ != 4 || incrB s)
/-- The error of Check. -/
def stateE (typ : Int) (s : List Int) : Int :=
  if btw 1 typ 5 = false then 1 else if 50 < s.length then 2 else if validB typ s = false then 3 else 0
/-- How many are less. -/
def lessN (s : List Int) (x : Int) : Nat := s.countP (· < x)
/-- One more, in its place. -/
def insAt (s : List Int) (p : Nat) (x : Int) : List Int := s.take p ++ x :: s.drop p
/-- One less. -/
def delAt (s : List Int) (p : Nat) : List Int := s.take p ++ s.drop (p + 1)
/-- What comes of a kind that belongs to the type, at a state that may be. -/
def stepped (s : List Int) (kind arg : Int) : List Int × Int × Int :=
  if kind = 1 then ([arg], 0, 0)
  else if kind = 2 then (s, s.getD 0 0, 0)
  else if kind = 3 ∨ kind = 5 then (if s.length = 50 then ([], 0, 2) else (insAt s s.length arg, 0, 0))
  else if kind = 4 then (if s.length = 0 then (s, -1, 0) else (delAt s 0, s.getD 0 0, 0))
  else if kind = 6 then (if s.length = 0 then (s, -1, 0) else (delAt s (s.length - 1), s.getD (s.length - 1) 0, 0))
  else if kind = 10 then (if s.getD 0 0 = 1000 then ([], 0, 2) else ([s.getD 0 0 + 1], s.getD 0 0, 0))
  else if kind = 7 then (if arg ∈ s then (s, 0, 0) else if s.length = 50 then ([], 0, 2) else (insAt s (lessN s arg) arg, 1, 0))
  else if kind = 8 then (if arg ∈ s then (delAt s (lessN s arg), 1, 0) else (s, 0, 0))
  else (s, if arg ∈ s then 1 else 0, 0)
/-- Step: the new state, the answer, the error. -/
def stepO (typ : Int) (s : List Int) (kind arg : Int) : List Int × Int × Int :=
  if stateE typ s ≠ 0 then ([], 0, stateE typ s)
  else if (fitsB typ kind && takesB kind arg) = false then ([], 0, 3)
  else stepped s kind arg
def beginL (typ : Int) : List Int := if oneB typ = true then [0] else []
theorem valid_one {typ : Int} {s : List Int} (h : oneB typ = true) : validB typ s = true ↔ s.length = 1 ∧ 0 ≤ s.getD 0 0 ∧ s.getD 0 0 ≤ 1000 := by
  unfold validB
  rw [if_pos h, Bool.and_eq_true, decide_eq_true_iff, btw_iff]
theorem valid_row {typ : Int} {s : List Int} (h : oneB typ = false) : validB typ s = true ↔ (∀ x ∈ s, 1 ≤ x ∧ x ≤ 1000) ∧ (typ = 4 → s.Pairwise (· < ·)) := by
  unfold validB
  rw [if_neg (by rw [h]; decide), Bool.and_eq_true, List.all_eq_true, Bool.or_eq_true, bne_iff_ne, incrB, decide_eq_true_iff]
  constructor
  · rintro ⟨h1, h2⟩
    exact ⟨fun x hx => btw_iff.1 (h1 x hx), fun e => h2.elim (fun hn => absurd e hn) id⟩
  · rintro ⟨h1, h2⟩
    refine ⟨fun x hx => btw_iff.2 (h1 x hx), ?_⟩
    by_cases e : typ = 4
    · exact .inr (h2 e)
    · exact .inl e
theorem stateE_ok {typ : Int} {s : List Int} : stateE typ s = 0 ↔ (1 ≤ typ ∧ typ ≤ 5) ∧ s.length ≤ 50 ∧ validB typ s = true := by
  unfold stateE
  by_cases h1 : btw 1 typ 5 = false
  · rw [if_pos h1]
    exact ⟨fun h => absurd h (by decide), fun h => absurd (btw_iff.2 h.1) (by rw [h1]; decide)⟩
  · rw [if_neg h1]
    have h1' : 1 ≤ typ ∧ typ ≤ 5 := btw_iff.1 (by cases h : btw 1 typ 5 <;> simp_all)
    by_cases h2 : 50 < s.length
    · rw [if_pos h2]
      exact ⟨fun h => absurd h (by decide), fun h => by omega⟩
    · rw [if_neg h2]
      by_cases h3 : validB typ s = false
      · rw [if_pos h3]
        exact ⟨fun h => absurd h (by decide), fun h => by rw [h3] at h; exact absurd h.2.2 (by decide)⟩
      · rw [if_neg h3]
        exact ⟨fun _ => ⟨h1', by omega, by cases h : validB typ s <;> simp_all⟩, fun _ => rfl⟩
theorem adj_sorted : ∀ {s : List Int}, (∀ i, i + 1 < s.length → s.getD i 0 < s.getD (i + 1) 0) → s.Pairwise (· < ·)
  | [], _ => .nil
  | [x], _ => by simp
  | x :: y :: r, h => by
    have h1 : (y :: r).Pairwise (· < ·) := adj_sorted (s := y :: r) fun i hi => by
      have := h (i + 1) (by simp at hi ⊢; omega)
      simpa using this
    have h0 : x < y := by simpa using h 0 (by simp)
    refine List.pairwise_cons.2 ⟨fun z hz => ?_, h1⟩
    rcases List.mem_cons.1 hz with rfl | hz
    · exact h0
    · exact Int.lt_trans h0 ((List.pairwise_cons.1 h1).1 z hz)
theorem sorted_at {s : List Int} (h : s.Pairwise (· < ·)) {i j : Nat} (hij : i < j) (hj : j < s.length) : s.getD i 0 < s.getD j 0 := by
  have := List.pairwise_iff_getElem.1 h i j (by omega) hj hij
  simpa [List.getD_eq_getElem?_getD, List.getElem?_eq_getElem hj, List.getElem?_eq_getElem (show i < s.length by omega)] using this
theorem not_sorted {s : List Int} {i : Nat} (hi : i + 1 < s.length) (h : s.getD (i + 1) 0 ≤ s.getD i 0) : incrB s = false := by
  unfold incrB
  rw [decide_eq_false_iff_not]
  intro hp
  have := sorted_at hp (show i < i + 1 by omega) hi
  omega
theorem sorted_yes {s : List Int} (h : ∀ i, i + 1 < s.length → s.getD i 0 < s.getD (i + 1) 0) : incrB s = true := by
  unfold incrB
  rw [decide_eq_true_iff]
  exact adj_sorted h
theorem insAt_len (s : List Int) {p : Nat} (x : Int) (h : p ≤ s.length) : (insAt s p x).length = s.length + 1 := by
  unfold insAt
  simp
  omega
theorem delAt_len (s : List Int) {p : Nat} (h : p < s.length) : (delAt s p).length = s.length - 1 := by
  unfold delAt
  simp
  omega
theorem insAt_mem {s : List Int} {p : Nat} {x y : Int} : y ∈ insAt s p x ↔ y = x ∨ y ∈ s := by
  unfold insAt
  rw [List.mem_append, List.mem_cons]
  constructor
  · rintro (h | h | h)
    · exact .inr (List.mem_of_mem_take h)
    · exact .inl h
    · exact .inr (List.mem_of_mem_drop h)
  · rintro (h | h)
    · exact .inr (.inl h)
    · have : y ∈ s.take p ++ s.drop p := by rw [List.take_append_drop]; exact h
      rcases List.mem_append.1 this with h | h
      · exact .inl h
      · exact .inr (.inr h)
theorem delAt_sub {s : List Int} {p : Nat} {y : Int} (h : y ∈ delAt s p) : y ∈ s := by
  unfold delAt at h
  rcases List.mem_append.1 h with h | h
  · exact List.mem_of_mem_take h
  · exact List.mem_of_mem_drop h
theorem lessN_le (s : List Int) (x : Int) : lessN s x ≤ s.length := List.countP_le_length
theorem lessN_cons (y : Int) (r : List Int) (x : Int) : lessN (y :: r) x = lessN r x + (if y < x then 1 else 0) := by
  unfold lessN
  rw [List.countP_cons]
  simp
/-- Of a row that increases just the first lessN are less. -/
theorem lessN_zero : ∀ {s : List Int} {x : Int}, (∀ y ∈ s, x ≤ y) → lessN s x = 0
  | [], _, _ => rfl
  | y :: r, x, h => by
    rw [lessN_cons, lessN_zero (s := r) fun z hz => h z (List.mem_cons_of_mem _ hz), if_neg (by have := h y (List.mem_cons_self); omega)]
theorem less_take : ∀ {s : List Int} (x : Int), s.Pairwise (· < ·) → (∀ y ∈ s.take (lessN s x), y < x) ∧ (∀ y ∈ s.drop (lessN s x), x ≤ y)
  | [], x, _ => ⟨fun y h => by simp at h, fun y h => by simp at h⟩
  | y :: r, x, h => by
    obtain ⟨h1, h2⟩ := List.pairwise_cons.1 h
    by_cases hy : y < x
    · have e : lessN (y :: r) x = lessN r x + 1 := by rw [lessN_cons, if_pos hy]
      rw [e, List.take_succ_cons, List.drop_succ_cons]
      obtain ⟨k1, k2⟩ := less_take (s := r) x h2
      refine ⟨fun z hz => ?_, k2⟩
      rcases List.mem_cons.1 hz with rfl | hz
      · exact hy
      · exact k1 z hz
    · have e : lessN (y :: r) x = 0 := lessN_zero fun z hz => by
        rcases List.mem_cons.1 hz with rfl | hz
        · omega
        · have := h1 z hz; omega
      rw [e]
      refine ⟨fun z hz => by simp at hz, fun z hz => ?_⟩
      rw [List.drop_zero] at hz
      rcases List.mem_cons.1 hz with rfl | hz
      · omega
      · have := h1 z hz; omega
theorem ins_sorted {s : List Int} (h : s.Pairwise (· < ·)) {x : Int} (hx : x ∉ s) : (insAt s (lessN s x) x).Pairwise (· < ·) := by
  obtain ⟨h1, h2⟩ := less_take x h
  unfold insAt
  rw [List.pairwise_append]
  refine ⟨h.take, List.pairwise_cons.2 ⟨fun z hz => ?_, h.drop⟩, fun a ha b hb => ?_⟩
  · have h3 := h2 z hz
    have h4 : z ≠ x := fun e => hx (e ▸ List.mem_of_mem_drop hz)
    omega
  · rcases List.mem_cons.1 hb with rfl | hb
    · exact h1 a ha
    · have := h1 a ha; have := h2 b hb; omega
theorem del_sorted {s : List Int} (h : s.Pairwise (· < ·)) (p : Nat) : (delAt s p).Pairwise (· < ·) := by
  unfold delAt
  have : (s.take p ++ s.drop p).Pairwise (· < ·) := by rw [List.take_append_drop]; exact h
  rw [List.pairwise_append] at this ⊢
  have e : s.drop (p + 1) = (s.drop p).drop 1 := by rw [List.drop_drop]
  refine ⟨h.take, h.drop, fun a ha b hb => this.2.2 a ha b ?_⟩
  rw [e] at hb
  exact List.mem_of_mem_drop hb
/-- Where it is in a row that increases. -/
theorem less_at {s : List Int} (h : s.Pairwise (· < ·)) {x : Int} (hx : x ∈ s) : ∃ hp : lessN s x < s.length, s[lessN s x] = x := by
  obtain ⟨h1, h2⟩ := less_take x h
  have hm : x ∈ s.drop (lessN s x) := by
    have : x ∈ s.take (lessN s x) ++ s.drop (lessN s x) := by rw [List.take_append_drop]; exact hx
    rcases List.mem_append.1 this with h | h
    · have := h1 x h; omega
    · exact h
  have hp : lessN s x < s.length := by
    apply Classical.byContradiction
    intro hn
    rw [List.drop_eq_nil_of_le (by omega)] at hm
    cases hm
  refine ⟨hp, ?_⟩
  rw [List.drop_eq_getElem_cons hp] at hm h2
  have hd : (s.drop (lessN s x)).Pairwise (· < ·) := h.drop
  rw [List.drop_eq_getElem_cons hp] at hd
  rcases List.mem_cons.1 hm with e | hm
  · exact e.symm
  · have k1 := (List.pairwise_cons.1 hd).1 x hm
    have k2 := h2 _ (List.mem_cons_self)
    omega
end Go.Proofs.YthjmncngegchjaaGreatDoor

/-
  Plain mathematics for package spans: m spans, from F i to T i. No Go, no program.
-/
namespace Go.Proofs.YthjmncngegchjaaGreatDoor
open Go.RowKit
set_option maxRecDepth 20000
/-- The set of the items below m of which p holds. -/
def pickS (p : Nat → Bool) : Nat → Nat
  | 0 => 0
  | m + 1 => if p m = true then pickS p m ||| 2 ^ m else pickS p m
theorem pickS_bit (p : Nat → Bool) (i : Nat) : ∀ m, (pickS p m).testBit i = (decide (i < m) && p i)
  | 0 => by simp [pickS]
  | m + 1 => by
    rw [pickS]
    have ih := pickS_bit p i m
    by_cases e : m = i
    · subst e
      cases hp : p m
      · simp [ih, hp]
      · simp
    · have : decide (i < m + 1) = decide (i < m) := by simp; omega
      rw [this, ← ih]
      split
      · rw [Nat.testBit_or, Nat.testBit_two_pow]; simp [e]
      · rfl
theorem pickS_lt (p : Nat → Bool) : ∀ m, pickS p m < 2 ^ m
  | 0 => by simp [pickS]
  | m + 1 => by
    have ih := pickS_lt p m
    rw [pickS]
    split
    · exact Nat.or_lt_two_pow (Nat.lt_trans ih (Nat.pow_lt_pow_right (by omega) (by omega))) (Nat.pow_lt_pow_right (by omega) (by omega))
    · exact Nat.lt_trans ih (Nat.pow_lt_pow_right (by omega) (by omega))
theorem pickS_lt16 (p : Nat → Bool) {m : Nat} (hm : m ≤ 12) : pickS p m < 65536 :=
  Nat.lt_of_lt_of_le (pickS_lt p m) (Nat.le_trans (Nat.pow_le_pow_right (by omega) hm) (by decide))
end Go.Proofs.YthjmncngegchjaaGreatDoor

/-
  A relation given by a test of two items, row by row; who is ahead of whom among calls.
-/
namespace Go.Proofs.YthjmncngegchjaaGreatDoor
open Go.RowKit
set_option maxRecDepth 20000
def relP (p : Nat → Nat → Bool) (m : Nat) : Nat → Nat := fun i => if i < m then pickS (p i) m else 0
theorem relP_bit (p : Nat → Nat → Bool) (m i j : Nat) : (relP p m i).testBit j = (decide (i < m) && decide (j < m) && p i j) := by
  unfold relP
  by_cases h : i < m
  · rw [if_pos h, pickS_bit]; simp [h]
  · rw [if_neg h]; simp [h]
theorem relP_lt (p : Nat → Nat → Bool) {m : Nat} (hm : m ≤ 12) (i : Nat) : relP p m i < 65536 := by
  unfold relP
  split
  · exact pickS_lt16 _ hm
  · omega
/-- The relation behind k whole rows and the first j of row k. -/
def upP (p : Nat → Nat → Bool) (m k j : Nat) : Nat → Nat := fun i => if i < k then pickS (p i) m else if i = k then pickS (p k) j else 0
theorem upP_end (p : Nat → Nat → Bool) (m k : Nat) : upP p m k m = upP p m (k + 1) 0 := by
  funext i
  unfold upP
  by_cases h1 : i < k
  · rw [if_pos h1, if_pos (by omega)]
  · rw [if_neg h1]
    by_cases h2 : i = k
    · subst h2; rw [if_pos rfl, if_pos (by omega)]
    · rw [if_neg h2, if_neg (by omega)]
      by_cases h3 : i = k + 1
      · rw [if_pos h3]; rfl
      · rw [if_neg h3]
theorem upP_step (p : Nat → Nat → Bool) (m k j : Nat) : upP p m k (j + 1) = if p k j = true then (fun i => if i = k then upP p m k j k ||| 2 ^ j else upP p m k j i) else upP p m k j := by
  have hs : pickS (p k) (j + 1) = if p k j = true then pickS (p k) j ||| 2 ^ j else pickS (p k) j := by
    apply Nat.eq_of_testBit_eq
    intro i
    rw [pickS_bit]
    by_cases h : p k j = true
    · rw [if_pos h, Nat.testBit_or, pickS_bit, Nat.testBit_two_pow]
      by_cases e : j = i
      · subst e; simp [h]
      · simp [e, show i < j + 1 ↔ i < j by omega]
    · rw [if_neg h, pickS_bit]
      by_cases e : i = j
      · subst e; simp [h]
      · simp [show i < j + 1 ↔ i < j by omega]
  by_cases h : p k j = true
  · rw [if_pos h] at hs ⊢
    funext i
    unfold upP
    by_cases h1 : i = k
    · subst h1; simp [hs]
    · simp [h1]
  · rw [if_neg h] at hs ⊢
    funext i
    unfold upP
    rw [hs]
theorem upP_lt (p : Nat → Nat → Bool) (m k j : Nat) (hm : m ≤ 12) (hj : j ≤ 12) (i : Nat) : upP p m k j i < 65536 := by
  unfold upP
  split
  · exact pickS_lt16 _ hm
  · split
    · exact pickS_lt16 _ hj
    · omega
theorem upP_all (p : Nat → Nat → Bool) (m : Nat) : upP p m m 0 = relP p m := by
  funext i
  unfold upP relP
  by_cases h : i < m
  · rw [if_pos h, if_pos h]
  · rw [if_neg h, if_neg h]
    split <;> rfl
theorem upP_none (p : Nat → Nat → Bool) (m : Nat) : upP p m 0 0 = fun _ => 0 := by
  funext i
  unfold upP
  rw [if_neg (by omega)]
  split <;> rfl
/-- Is call i answered ahead of call j? -/
def aheadB (l : List Cl) (i j : Nat) : Bool := decide ((l.getD i default).til ≠ -1 ∧ (l.getD i default).til < (l.getD j default).frm)
theorem aheadB_at {l : List Cl} {i j : Nat} {x y : Cl} (hx : l[i]? = some x) (hy : l[j]? = some y) : aheadB l i j = decide (x.til ≠ -1 ∧ x.til < y.frm) := by
  unfold aheadB
  rw [List.getD_eq_getElem?_getD, hx, List.getD_eq_getElem?_getD, hy]
  rfl
end Go.Proofs.YthjmncngegchjaaGreatDoor

/-
  Plain: what a right order is.
-/
namespace Go.Proofs.YthjmncngegchjaaGreatDoor
open Go.RowKit
set_option maxRecDepth 20000
/-- The call that a step names. -/
def atC (cs : List Cl) (x : Int × Int) : Cl := cs.getD x.1.toNat default
/-- What a step does at its thing. -/
def ddC (cs : List Cl) (x : Int × Int) : Dd := ⟨(atC cs x).kind, (atC cs x).arg, x.2⟩
/-- What is done at thing t. -/
def ownD (cs : List Cl) (t : Nat) (ws : List (Int × Int)) : List Dd := (ws.filter fun x => (atC cs x).thing.toNat == t).map (ddC cs)
/-- May all of it be, one behind the other? -/
def goesB (typ : Int) : List Int → List Dd → Bool
  | _, [] => true
  | s, d :: r => (stepO typ s d.kind d.arg).2.2 == 0 && ((stepO typ s d.kind d.arg).2.1 == d.res && goesB typ (stepO typ s d.kind d.arg).1 r)
theorem goes_cons {typ : Int} {s : List Int} {d : Dd} {r : List Dd} : goesB typ s (d :: r) = true ↔ (stepO typ s d.kind d.arg).2.2 = 0 ∧ (stepO typ s d.kind d.arg).2.1 = d.res ∧ goesB typ (stepO typ s d.kind d.arg).1 r = true := by
  rw [goesB, Bool.and_eq_true, Bool.and_eq_true, beq_iff_eq, beq_iff_eq]
theorem ownD_cons (cs : List Cl) (t : Nat) (x : Int × Int) (r : List (Int × Int)) : ownD cs t (x :: r) = if (atC cs x).thing.toNat = t then ddC cs x :: ownD cs t r else ownD cs t r := by
  unfold ownD
  by_cases h : (atC cs x).thing.toNat = t
  · rw [if_pos h, List.filter_cons_of_pos (by rw [beq_iff_eq]; exact h)]; rfl
  · rw [if_neg h, List.filter_cons_of_neg (by rw [beq_iff_eq]; exact h)]
/-- A right order, where p says who must stand ahead of whom. -/
structure RiteP (ts : List Int) (cs : List Cl) (p : Nat → Nat → Bool) (ws : List (Int × Int)) : Prop where
  rng : ∀ x ∈ ws, 0 ≤ x.1 ∧ x.1 < cs.length
  once : (ws.map (·.1)).Nodup
  res : ∀ x ∈ ws, (atC cs x).til ≠ -1 → (atC cs x).res = x.2
  all : ∀ i, i < cs.length → (cs.getD i default).til ≠ -1 → (i : Int) ∈ ws.map (·.1)
  ord : ∀ i j, i < cs.length → j < cs.length → p i j = true → ∀ a y b, ws = a ++ y :: b → y.1 = (j : Int) → (i : Int) ∈ a.map (·.1)
  goes : ∀ t, t < ts.length → goesB (ts.getD t 0) (beginL (ts.getD t 0)) (ownD cs t ws) = true
theorem atC_thing {ts : List Int} {cs : List Cl} (hth : ∀ c, c ∈ cs → 0 ≤ c.thing ∧ c.thing < ts.length) {x : Int × Int} (h : 0 ≤ x.1 ∧ x.1 < cs.length) : 0 ≤ (atC cs x).thing ∧ (atC cs x).thing < ts.length := by
  unfold atC
  rw [List.getD_eq_getElem?_getD, List.getElem?_eq_getElem (by omega : x.1.toNat < cs.length)]
  exact hth _ (List.getElem_mem _)
theorem ownD_none {ts : List Int} {cs : List Cl} (hth : ∀ c, c ∈ cs → 0 ≤ c.thing ∧ c.thing < ts.length) {ws : List (Int × Int)} (h : ∀ x ∈ ws, 0 ≤ x.1 ∧ x.1 < cs.length) {t : Nat} (ht : ts.length ≤ t) : ownD cs t ws = [] := by
  unfold ownD
  rw [List.filter_eq_nil_iff.2 fun x hx => ?_]
  · rfl
  · have := atC_thing hth (h x hx)
    rw [beq_iff_eq]
    omega
end Go.Proofs.YthjmncngegchjaaGreatDoor

/-
  Plain: a queue, one behind the other.
-/
namespace Go.Proofs.YthjmncngegchjaaGreatDoor
open Go.RowKit
set_option maxRecDepth 20000

def outB : List Int → Int → Bool × List Int
  | [], r => (r == -1, [])
  | x :: t, r => (r == x, t)
def queB : List Int → List Dd → Bool
  | _, [] => true
  | s, d :: r => if d.kind = 3 then d.res == 0 && queB (s ++ [d.arg]) r else (outB s d.res).1 && queB (outB s d.res).2 r
def QueD (d : Dd) : Prop := (d.kind = 3 ∧ 1 ≤ d.arg ∧ d.arg ≤ 1000) ∨ (d.kind = 4 ∧ d.arg = 0)
theorem que_state {s : List Int} (hs : ∀ x ∈ s, 1 ≤ x ∧ x ≤ 1000) (hl : s.length ≤ 50) : stateE 2 s = 0 :=
  stateE_ok.2 ⟨by omega, hl, (valid_row (by decide)).2 ⟨hs, fun h => by omega⟩⟩
theorem que_goes : ∀ (l : List Dd) (s : List Int), (∀ x ∈ s, 1 ≤ x ∧ x ≤ 1000) → s.length + l.length ≤ 50 → (∀ d ∈ l, QueD d) → goesB 2 s l = queB s l
  | [], s, _, _, _ => rfl
  | d :: r, s, hs, hl, hd => by
    rw [List.length_cons] at hl
    have hst := que_state hs (by omega)
    rw [goesB, queB]
    have ht : takesB d.kind d.arg = true := by
      unfold takesB
      rcases hd d List.mem_cons_self with h2 | h2
      · rw [if_pos (by omega), btw_iff]; exact h2.2
      · rw [if_neg (by omega), beq_iff_eq]; exact h2.2
    have hf : fitsB 2 d.kind = true := by
      unfold fitsB kindType
      rw [decide_eq_true_iff]
      rcases hd d List.mem_cons_self with h2 | h2
      · rw [if_neg (by omega), if_pos (.inl h2.1)]; decide
      · rw [if_neg (by omega), if_pos (.inr h2.1)]; decide
    have he : stepO 2 s d.kind d.arg = stepped s d.kind d.arg := by
      unfold stepO
      rw [if_neg (by rw [hst]; simp), ht, hf, if_neg (by decide)]
    rw [he]
    unfold stepped
    rcases hd d List.mem_cons_self with h2 | h2
    · rw [if_neg (by omega), if_neg (by omega), if_pos (.inl h2.1), if_pos h2.1, if_neg (by omega)]
      simp only
      have hi : insAt s s.length d.arg = s ++ [d.arg] := by unfold insAt; simp
      rw [hi, que_goes r (s ++ [d.arg]) (fun x hx => ?_) (by rw [List.length_append]; simp; omega) (fun x hx => hd x (List.mem_cons_of_mem _ hx))]
      · have e : ((0 : Int) == d.res) = (d.res == 0) := by
          rw [Bool.eq_iff_iff, beq_iff_eq, beq_iff_eq]
          exact eq_comm
        rw [e]
        simp
      · rcases List.mem_append.1 hx with hx | hx
        · exact hs x hx
        · rw [List.mem_singleton] at hx
          rw [hx]
          exact h2.2
    · rw [if_neg (by omega), if_neg (by omega), if_neg (by omega), if_pos h2.1, if_neg (by omega : ¬ d.kind = 3)]
      cases s with
      | nil =>
        rw [if_pos (show ([] : List Int).length = 0 from rfl)]
        simp only [outB]
        rw [que_goes r [] hs (by simp; simp at hl; omega) (fun x hx => hd x (List.mem_cons_of_mem _ hx))]
        have e : ((-1 : Int) == d.res) = (d.res == -1) := by
          rw [Bool.eq_iff_iff, beq_iff_eq, beq_iff_eq]
          exact eq_comm
        rw [e]
        simp
      | cons x t =>
        rw [if_neg (by simp)]
        simp only [outB]
        have hdl : delAt (x :: t) 0 = t := by unfold delAt; simp
        rw [hdl, que_goes r t (fun y hy => hs y (List.mem_cons_of_mem _ hy)) (by simp at hl; omega) (fun x hx => hd x (List.mem_cons_of_mem _ hx))]
        have e : (((x :: t).getD 0 0 : Int) == d.res) = (d.res == x) := by
          rw [Bool.eq_iff_iff, beq_iff_eq, beq_iff_eq]
          exact eq_comm
        rw [e]
        simp
/-- What is put, and what is taken, in that order. -/
def enqs (l : List Dd) : List Int := (l.filter fun d => d.kind == 3).map (·.arg)
def deqs (l : List Dd) : List Int := (l.filter fun d => d.kind != 3 && d.res != -1).map (·.res)
theorem enqs_append (a b : List Dd) : enqs (a ++ b) = enqs a ++ enqs b := by unfold enqs; rw [List.filter_append, List.map_append]
theorem deqs_append (a b : List Dd) : deqs (a ++ b) = deqs a ++ deqs b := by unfold deqs; rw [List.filter_append, List.map_append]
theorem mem_enqs {l : List Dd} {v : Int} : v ∈ enqs l ↔ ∃ d ∈ l, d.kind = 3 ∧ d.arg = v := by
  unfold enqs
  rw [List.mem_map]
  constructor
  · rintro ⟨d, h1, h2⟩
    rw [List.mem_filter, beq_iff_eq] at h1
    exact ⟨d, h1.1, h1.2, h2⟩
  · rintro ⟨d, h1, h2, h3⟩
    exact ⟨d, by rw [List.mem_filter, beq_iff_eq]; exact ⟨h1, h2⟩, h3⟩
theorem mem_deqs {l : List Dd} {v : Int} : v ∈ deqs l ↔ ∃ d ∈ l, d.kind ≠ 3 ∧ d.res ≠ -1 ∧ d.res = v := by
  unfold deqs
  rw [List.mem_map]
  constructor
  · rintro ⟨d, h1, h2⟩
    rw [List.mem_filter, Bool.and_eq_true, bne_iff_ne, bne_iff_ne] at h1
    exact ⟨d, h1.1, h1.2.1, h1.2.2, h2⟩
  · rintro ⟨d, h1, h2, h3, h4⟩
    exact ⟨d, by rw [List.mem_filter, Bool.and_eq_true, bne_iff_ne, bne_iff_ne]; exact ⟨h1, h2, h3⟩, h4⟩
/-- What is there where something is asked. -/
theorem que_at : ∀ (a : List Dd) (d : Dd) (b : List Dd) (s : List Int), queB s (a ++ d :: b) = true → (∀ x ∈ s, 1 ≤ x) → (∀ x ∈ a, QueD x) → ∃ st, s ++ enqs a = deqs a ++ st ∧ (∀ x ∈ st, 1 ≤ x) ∧ (d.kind ≠ 3 → (d.res = -1 ∧ st = []) ∨ (d.res ≠ -1 ∧ ∃ t, st = d.res :: t))
  | [], d, b, s, h, hs, _ => by
    refine ⟨s, by simp [enqs, deqs], hs, fun hk => ?_⟩
    rw [List.nil_append, queB, if_neg hk] at h
    cases s with
    | nil =>
      simp only [outB, Bool.and_eq_true, beq_iff_eq] at h
      exact .inl ⟨h.1, rfl⟩
    | cons x t =>
      simp only [outB, Bool.and_eq_true, beq_iff_eq] at h
      have := hs x List.mem_cons_self
      exact .inr ⟨by omega, t, by rw [h.1]⟩
  | x :: a, d, b, s, h, hs, hq => by
    rw [List.cons_append, queB] at h
    have hqa := fun y hy => hq y (List.mem_cons_of_mem x hy)
    by_cases hk : x.kind = 3
    · rw [if_pos hk, Bool.and_eq_true] at h
      have hx1 : 1 ≤ x.arg := by
        rcases hq x List.mem_cons_self with h2 | h2
        · exact h2.2.1
        · omega
      obtain ⟨st, h1, h2, h3⟩ := que_at a d b (s ++ [x.arg]) h.2 (fun y hy => by
        rcases List.mem_append.1 hy with hy | hy
        · exact hs y hy
        · rw [List.mem_singleton] at hy; rw [hy]; exact hx1) hqa
      refine ⟨st, ?_, h2, h3⟩
      have e1 : enqs (x :: a) = x.arg :: enqs a := by unfold enqs; rw [List.filter_cons, if_pos (by rw [beq_iff_eq]; exact hk)]; rfl
      have e2 : deqs (x :: a) = deqs a := by unfold deqs; rw [List.filter_cons, if_neg (by simp [hk])]
      rw [e1, e2, ← h1, List.append_assoc]
      rfl
    · rw [if_neg hk] at h
      have e1 : enqs (x :: a) = enqs a := by unfold enqs; rw [List.filter_cons, if_neg (by rw [beq_iff_eq]; exact hk)]
      cases s with
      | nil =>
        simp only [outB, Bool.and_eq_true, beq_iff_eq] at h
        obtain ⟨st, h1, h2, h3⟩ := que_at a d b [] h.2 hs hqa
        refine ⟨st, ?_, h2, h3⟩
        have e2 : deqs (x :: a) = deqs a := by unfold deqs; rw [List.filter_cons, if_neg (by simp [h.1])]
        rw [e1, e2]
        exact h1
      | cons y t =>
        simp only [outB, Bool.and_eq_true, beq_iff_eq] at h
        have hy := hs y List.mem_cons_self
        obtain ⟨st, h1, h2, h3⟩ := que_at a d b t h.2 (fun z hz => hs z (List.mem_cons_of_mem _ hz)) hqa
        refine ⟨st, ?_, h2, h3⟩
        have e2 : deqs (x :: a) = y :: deqs a := by
          unfold deqs
          rw [List.filter_cons, if_pos (by rw [Bool.and_eq_true, bne_iff_ne, bne_iff_ne]; exact ⟨hk, by omega⟩), List.map_cons, h.1]
        rw [e1, e2, List.cons_append, List.cons_append, h1]
theorem split_uniq : ∀ {l1 l2 l3 l4 : List Int} {b : Int}, l1 ++ b :: l2 = l3 ++ b :: l4 → (l1 ++ b :: l2).Nodup → l1 = l3
  | [], l2, [], l4, b, _, _ => rfl
  | [], l2, x :: l3, l4, b, h, hn => by
    rw [List.nil_append, List.cons_append] at h
    injection h with h1 h2
    subst h1
    rw [List.nil_append, List.nodup_cons] at hn
    exact absurd (by rw [h2]; simp) hn.1
  | x :: l1, l2, [], l4, b, h, hn => by
    rw [List.nil_append, List.cons_append] at h
    injection h with h1 h2
    subst h1
    rw [List.cons_append, List.nodup_cons] at hn
    exact absurd (by simp) hn.1
  | x :: l1, l2, y :: l3, l4, b, h, hn => by
    rw [List.cons_append, List.cons_append] at h
    injection h with h1 h2
    rw [List.cons_append, List.nodup_cons] at hn
    rw [h1, split_uniq h2 hn.2]
end Go.Proofs.YthjmncngegchjaaGreatDoor

/-
  Plain: unlike numbers below n are at most n.
-/
namespace Go.Proofs.YthjmncngegchjaaGreatDoor
set_option maxRecDepth 20000

/-- Unlike numbers below n: at most n. -/
theorem nodup_lt : ∀ (n : Nat) {l : List Int}, l.Nodup → (∀ k ∈ l, 0 ≤ k ∧ k < (n : Int)) → l.length ≤ n
  | 0, l, _, h => by
    cases l with
    | nil => exact Nat.le_refl _
    | cons k r => have := h k List.mem_cons_self; omega
  | n + 1, l, hn, h => by
    by_cases hm : (n : Int) ∈ l
    · have h1 := nodup_lt n (l := l.erase (n : Int)) (hn.erase _) (fun k hk => by
        rw [hn.mem_erase_iff] at hk
        have := h k hk.2
        omega)
      rw [List.length_erase_of_mem hm] at h1
      omega
    · have h1 := nodup_lt n (l := l) hn (fun k hk => by
        have := h k hk
        have : k ≠ (n : Int) := fun e => hm (e ▸ hk)
        omega)
      omega
end Go.Proofs.YthjmncngegchjaaGreatDoor
