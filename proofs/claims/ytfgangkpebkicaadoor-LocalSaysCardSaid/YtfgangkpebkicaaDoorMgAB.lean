/-
  Joined by a program out of: RegionLast, ObjPure, ObjMem.
-/
import Derived.Test.YtfgangkpebkicaaDoorProg
import Derived.StillTail
import Derived.Deep.RegionHeld3
import Derived.Test.YtfgangkpebkicaaDoorMgAA
import Derived.Lib.SliceRun
import Derived.Lib.JoinLaws
import Derived.Lib.AppendZeros
import Derived.Deep.AppendSrc

/-
  A rule for a region that draws its order and whose last operations, in one forced order, wait for all others (mostly a store): the others are walked as a region of their own, with one condition S on the world; the last ones come behind them.
-/
namespace Go.Proofs.YtfgangkpebkicaaDoor
set_option maxRecDepth 20000
section
variable {P : Program} {md : Region.Mode} {Q : Exit → Act → World → Prop}
/-- What is to hold behind all operations but the last ones, o. -/
def LastQ (P : Program) (ops : Array Oper) (o : List Oper) (Q : Exit → Act → World → Prop) : Exit → Act → World → Prop
  | .normal, a, w => wpList P ops Q o a w
  | e, a, w => Q e a w
/-- Each operation waits for earlier ones alone, and its guard is an earlier one. -/
def ordB (ops : Array Oper) : Bool := (List.range ops.size).all fun j => match ops[j]? with
  | some o => (o.after.all fun e => decide (e.on < j)) && (match o.guard with | some (g, _) => decide (g < j) | none => true)
  | none => true
theorem ordB_spec {ops : Array Oper} (h : ordB ops = true) {j : Nat} {o : Oper} (hj : ops[j]? = some o) : (∀ e ∈ o.after, e.on < j) ∧ ∀ g b, o.guard = some (g, b) → g < j := by
  have hlt : j < ops.size := (Array.getElem?_eq_some_iff.1 hj).1
  have h1 := List.all_eq_true.1 h j (List.mem_range.2 hlt)
  rw [hj] at h1
  simp only [Bool.and_eq_true] at h1
  refine ⟨fun e he => ?_, fun g b hg => ?_⟩
  · have := Array.all_eq_true'.1 h1.1 e he
    simpa using this
  · rw [hg] at h1
    simpa using h1.2
theorem upon_less {o : Oper} {a : Act} {ops : Array Oper} {ol : List Oper} {K K' : Act → World → Prop} (h : ∀ a w, K a w → K' a w) : ∀ r : Result Next, o.upon P a K (LastQ P ops ol Q) r → o.upon P a K' Q r := by
  intro r hh
  cases r with
  | ok n w' =>
    cases n <;> simp only [Oper.upon] at hh ⊢ <;>
      first
        | exact h _ _ hh
        | exact Calls.mono hh (fun e w'' he => by cases e <;> first | exact h _ _ he | exact he)
        | exact Rows.mono hh (fun _ _ he => h _ _ he)
  | halt x w' => cases x <;> simp only [Oper.upon] at hh ⊢ <;> exact hh
theorem wpOp_less {ops' ops : Array Oper} {n : Nat} {ol : List Oper} (hlt : ∀ j, j < n → ops'[j]? = ops[j]?) (hord : ordB ops = true) {i : Nat} (hi : i < n) {K K' : Act → World → Prop} (h : ∀ a w, K a w → K' a w) {a : Act} {w : World}
    (hh : wpOp P ops' (LastQ P ops ol Q) i K a w) : wpOp P ops Q i K' a w := by
  unfold wpOp at *
  rw [hlt i hi] at hh
  cases ho : ops[i]? with
  | none => rw [ho] at hh; exact h _ _ hh
  | some o =>
    rw [ho] at hh
    simp only at hh ⊢
    have hw : Region.wanted o (yielded ops' a.tmps) = Region.wanted o (yielded ops a.tmps) := by
      unfold Region.wanted
      cases hg : o.guard with
      | none => rfl
      | some gb =>
        obtain ⟨g, b⟩ := gb
        have := (ordB_spec hord ho).2 g b hg
        simp only [yielded]
        rw [hlt g (by omega)]
    rw [hw] at hh
    split
    · rename_i hw'
      simp only [hw', if_true] at hh
      refine hh.imp (fun h1 => upon_less h _ h1) (fun h1 => h1)
    · rename_i hw'
      simp only [hw'] at hh
      exact h _ _ hh
/-- The least that has not come up may come up. -/
theorem some_ready {ops : Array Oper} (hord : ordB ops = true) {listed : Array Bool} (hs : listed.size = ops.size) : ∀ (k i : Nat), i ≤ k → i < ops.size → listed.getD i false = false → ∃ j, j ≤ i ∧ j ∈ Region.ready md ops listed
  | k, i, hk, hi, hl => by
    by_cases hall : ∀ j, j < i → listed.getD j false = true
    · refine ⟨i, Nat.le_refl _, mem_ready.2 ⟨getD_in (by omega) hl, ops[i], Array.getElem?_eq_getElem hi, fun e he _ => ?_⟩⟩
      exact hall _ ((ordB_spec hord (Array.getElem?_eq_getElem hi)).1 e he)
    · obtain ⟨j, hj⟩ := Classical.not_forall.1 hall
      obtain ⟨hji, hjl⟩ := Classical.not_imp.1 hj
      match k with
      | 0 => omega
      | k + 1 =>
        obtain ⟨m, hm, hr⟩ := some_ready hord hs k j (by omega) (by omega) (by simpa using hjl)
        exact ⟨m, by omega, hr⟩
theorem ready_less {ops' ops : Array Oper} {n : Nat} (hlt : ∀ j, j < n → ops'[j]? = ops[j]?) (hord : ordB ops = true) {listed' listed : Array Bool}
    (hl : ∀ j, j < n → listed'.getD j false = listed.getD j false) (hs : n < listed.size) (hs' : listed'.size = n) {i : Nat} (hi : i < n) : i ∈ Region.ready md ops' listed' ↔ i ∈ Region.ready md ops listed := by
  have hl' : listed'.getD i true = listed.getD i true := by
    have := hl i hi
    simp [show i < listed'.size by omega, show i < listed.size by omega] at this ⊢
    exact this
  rw [mem_ready, mem_ready, hlt i hi, hl']
  refine and_congr Iff.rfl ⟨fun ⟨o, ho, h⟩ => ⟨o, ho, fun e he hb => ?_⟩, fun ⟨o, ho, h⟩ => ⟨o, ho, fun e he hb => ?_⟩⟩
  · rw [← hl _ (Nat.lt_trans ((ordB_spec hord ho).1 e he) hi)]; exact h e he hb
  · rw [hl _ (Nat.lt_trans ((ordB_spec hord ho).1 e he) hi)]; exact h e he hb
theorem wpAny_more {ops : Array Oper} : ∀ (g : Nat) (listed : Array Bool) (a : Act) (w : World), wpAny P md ops Q g listed a w → wpAny P md ops Q (g + 1) listed a w
  | 0, listed, a, w, h => ⟨fun _ => h.2, fun i hi => by rw [h.1] at hi; cases hi⟩
  | g + 1, listed, a, w, h => ⟨h.1, fun i hi => wpOp_mono (fun a' w' h' => wpAny_more g _ a' w' h') (h.2 i hi)⟩
theorem wpAny_add {ops : Array Oper} (g : Nat) (listed : Array Bool) (a : Act) (w : World) (h : wpAny P md ops Q g listed a w) : ∀ f, wpAny P md ops Q (f + g) listed a w
  | 0 => by rw [Nat.zero_add]; exact h
  | f + 1 => by rw [show f + 1 + g = (f + g) + 1 by omega]; exact wpAny_more _ _ _ _ (wpAny_add g listed a w h f)
/-- All the first n have come up, none of the others. -/
def upTo (n m : Nat) : Array Bool := (List.replicate n true ++ List.replicate m false).toArray
theorem wpAny_last {ops' ops : Array Oper} {n m : Nat} {ol : List Oper} (hn : ops.size = n + m) (hm : 0 < m) (hn' : ops'.size = n) (hlt : ∀ j, j < n → ops'[j]? = ops[j]?) (hol : ol.length = m) (hol2 : ∀ j, ol[j]? = ops[n + j]?) (hord : ordB ops = true) (hsink : Region.sinkB md ops n = true)
    (hchain : Region.chainB md ops n = true) (hseq : Region.seqB md ops m n (upTo n m) = true) :
    ∀ (f : Nat) (listed' listed : Array Bool) (a : Act) (w : World), (∀ j, j < n → listed'.getD j false = listed.getD j false) → listed'.size = n → HeadInv md ops n listed →
      wpAny P md ops' (LastQ P ops ol Q) f listed' a w → wpAny P md ops Q (f + m) listed a w := by
  -- what comes behind all
  have fin : ∀ (f : Nat) (listed' listed : Array Bool) (a : Act) (w : World), (∀ j, j < n → listed'.getD j false = listed.getD j false) → listed'.size = n → HeadInv md ops n listed →
      Region.ready md ops' listed' = [] → LastQ P ops ol Q .normal a w → wpAny P md ops Q (f + m) listed a w := by
    intro f listed' listed a w hl hs' inv hr hq
    have hs : listed.size = n + m := by rw [inv.size, hn]
    have hall : ∀ i, i < n → listed.getD i false = true := by
      intro i hi
      apply Classical.byContradiction
      intro hne
      obtain ⟨j, hj, hjr⟩ := some_ready (md := md) hord (by rw [hs, hn]) i i (Nat.le_refl _) (by omega) (by simpa using hne)
      have := (ready_less hlt hord hl (by omega) hs' (show j < n by omega)).2 hjr
      rw [hr] at this
      cases this
    have e : listed = upTo n m := by
      apply Array.ext
      · simp [upTo, hs]
      · intro i h1 h2
        by_cases hi : i < n
        · have := hall i hi
          simp [h1] at this
          simp [upTo, hi, this]
        · have := inv.tail i (by omega) (by omega)
          simp [h1] at this
          simp [upTo, List.getElem_append, hi, this]
    rw [← hol] at hseq ⊢
    rw [e, hol]
    rw [hol] at hseq
    have h1 := wpAny_of_seq (md := md) (Q' := Q) ol n (upTo n m) a w hol2 (by rw [hol]; exact hseq) hq
    rw [hol] at h1
    exact wpAny_add m _ a w h1 f
  intro f
  induction f with
  | zero => intro listed' listed a w hl hs' inv h; exact fin 0 listed' listed a w hl hs' inv h.1 h.2
  | succ f ih =>
    intro listed' listed a w hl hs' inv h
    by_cases hr : Region.ready md ops' listed' = []
    · exact fin (f + 1) listed' listed a w hl hs' inv hr (h.1 hr)
    · have hs : listed.size = n + m := by rw [inv.size, hn]
      have hlow : ∃ i, i < n ∧ i ∈ Region.ready md ops' listed' := by
        cases hrr : Region.ready md ops' listed' with
        | nil => exact absurd hrr hr
        | cons i r =>
          have hi : i ∈ Region.ready md ops' listed' := by rw [hrr]; exact List.mem_cons_self
          obtain ⟨_, o, ho, _⟩ := mem_ready.1 hi
          have := (Array.getElem?_eq_some_iff.1 ho).1
          exact ⟨i, by omega, by rw [← hrr]; exact hi⟩
      obtain ⟨i0, hi0, hr0⟩ := hlow
      have hr0' := (ready_less hlt hord hl (by omega) hs' hi0).1 hr0
      rw [show f + 1 + m = (f + m) + 1 by omega]
      refine ⟨fun h0 => (by rw [h0] at hr0'; cases hr0'), fun i hi => ?_⟩
      have hin : i < n := by
        rcases Nat.lt_or_ge i n with h1 | h1
        · exact h1
        · exact absurd hi (tail_waits hsink hchain (by omega) inv (n - i0) i0 rfl hi0 (mem_ready.1 hr0').1 i h1)
      refine wpOp_less hlt hord hin (fun a' w' h' => ?_) (h.2 i ((ready_less hlt hord hl (by omega) hs' hin).2 hi))
      refine ih _ _ a' w' (fun j hj => ?_) (by simpa using hs') (inv.set hi hin) h'
      by_cases e : i = j
      · subst e
        simp [hs, hs', hin]
        omega
      · rw [getD_set_ne false e, getD_set_ne false e]
        exact hl j hj
/-- The last operations wait for all others, each for the one before; the others are walked with a condition S; then these come. -/
theorem wp_region_last {l : List Oper} {id : Nat} {a : Act} {w : World} (S : World → Prop) (n m : Nat) (hm : P.follows .mixedOrders = true) (hn : l.length = n + m) (hmp : 0 < m)
    (hord : ordB l.toArray = true) (hsink : Region.sinkB .any l.toArray n = true) (hchain : Region.chainB .any l.toArray n = true) (hseq : Region.seqB .any l.toArray m n (upTo n m) = true)
    (h : wpAnyH P .any (l.take n).toArray (LastQ P l.toArray (l.drop n) Q) S n (Array.replicate n false) a w.drew) : (Code.region id l.toArray true).wp P Q a w := by
  refine wp_region_any hm ?_
  have h1 : (l.toArray).size = n + m := by simpa using hn
  rw [h1]
  refine wpAny_last (ops' := (l.take n).toArray) (n := n) (ol := l.drop n) h1 hmp (by simp; omega) (fun j hj => by simp [hj]) (by simp; omega) (fun j => by simp [List.getElem?_drop]) hord hsink hchain hseq n (Array.replicate n false) _ a _ (fun j hj => ?_) (by simp) ?_ (wpAny_of_held _ _ _ _ h)
  · rw [getD_replicate_false, getD_replicate_false]
  · refine ⟨by simpa using hn.symm, fun j oj _ hl => ?_, fun t ht ht' => ?_⟩
    · rw [getD_replicate_false] at hl; cases hl
    · exact getD_in (by simp at ht' ⊢; omega) (getD_replicate_false _ _)
/-- Operation i, which writes slot d, is taken first. -/
theorem takeAt (i d : Nat) {ops : Array Oper} {S : World → Prop} {oi : Oper} {v : Value} {fuel : Nat} {listed : Array Bool} {a : Act} {w : World} (hi : ops[i]? = some oi) (hd : oi.dst = some d)
    (hs : Region.noSelect ops = true) (hf : Region.free md ops listed i = true) (hr : (Region.ready md ops listed).contains i = true)
    (hQ : ∀ c a w, Q (.panic c) (a.put (some d) v) w → Q (.panic c) a w) (hw : Region.wanted oi (yielded ops a.tmps) = true) (hy : ∀ w, S w → (execOp a.eval oi).run P w = .ok (.value v) w) (hS : S w)
    (h : wpAnyH P md ops Q S fuel (listed.setIfInBounds i true) (a.put (some d) v) w) : wpAnyH P md ops Q S (fuel + 1) listed a w := by
  rw [← hd] at hQ h
  exact wpAnyH_take hi hs hf hr hQ (.inl ⟨hw, hy⟩) hS h
/-- Of N operations the next in the text's order is taken first; they write the slots from b on. -/
theorem takeNext (N b : Nat) {ops : Array Oper} {S : World → Prop} {oi : Oper} {v : Value} {fuel : Nat} {listed : Array Bool} {a : Act} {w : World} (hi : ops[N - (fuel + 1)]? = some oi) (hd : oi.dst = some (b + (N - (fuel + 1))))
    (hs : Region.noSelect ops = true) (hf : Region.free md ops listed (N - (fuel + 1)) = true) (hr : (Region.ready md ops listed).contains (N - (fuel + 1)) = true)
    (hQ : ∀ c a w, Q (.panic c) (a.put (some (b + (N - (fuel + 1)))) v) w → Q (.panic c) a w) (hw : Region.wanted oi (yielded ops a.tmps) = true) (hy : ∀ w, S w → (execOp a.eval oi).run P w = .ok (.value v) w) (hS : S w)
    (h : wpAnyH P md ops Q S fuel (listed.setIfInBounds (N - (fuel + 1)) true) (a.put (some (b + (N - (fuel + 1)))) v) w) : wpAnyH P md ops Q S (fuel + 1) listed a w :=
  takeAt _ _ hi hd hs hf hr hQ hw hy hS h
/-- Of N operations the next in the text's order is passed by: its guard says so. -/
theorem skipNext (N b : Nat) {ops : Array Oper} {S : World → Prop} {oi : Oper} {fuel : Nat} {listed : Array Bool} {a : Act} {w : World} (hi : ops[N - (fuel + 1)]? = some oi) (hd : oi.dst = some (b + (N - (fuel + 1))))
    (hs : Region.noSelect ops = true) (hf : Region.free md ops listed (N - (fuel + 1)) = true) (hr : (Region.ready md ops listed).contains (N - (fuel + 1)) = true)
    (hQ : ∀ c a w, Q (.panic c) (a.put (some (b + (N - (fuel + 1)))) undef) w → Q (.panic c) a w) (hy : Region.wanted oi (yielded ops a.tmps) = false) (hS : S w)
    (h : wpAnyH P md ops Q S fuel (listed.setIfInBounds (N - (fuel + 1)) true) (a.put (some (b + (N - (fuel + 1)))) undef) w) : wpAnyH P md ops Q S (fuel + 1) listed a w := by
  rw [← hd] at hQ h
  exact wpAnyH_take hi hs hf hr hQ (.inr ⟨hy, rfl⟩) hS h
end
end Go.Proofs.YtfgangkpebkicaaDoor

/-
  Plain mathematics for package object: states, steps, plays. No Go, no program.
-/
namespace Go.Proofs.YtfgangkpebkicaaDoor
open Go.RowKit
set_option maxRecDepth 20000
/-- What is done at a thing, and what comes of it. -/
structure Dd where
  kind : Int
  arg : Int
  res : Int
instance : Inhabited Dd := ⟨⟨0, 0, 0⟩⟩
/-- Is one number all there is of a state of this type? -/
def oneB (typ : Int) : Bool := decide (typ = 1 ∨ typ = 5)
/-- Each less than the next one. -/
def incrB (s : List Int) : Bool := decide (s.Pairwise (· < ·))
/-- A state that is not too long: may it be? -/
def validB (typ : Int) (s : List Int) : Bool :=
  if oneB typ = true then decide (s.length = 1) && btw 0 (s.getD 0 0) 1000 else (s.all fun x => btw 1 x 1000) && (typ != 4 || incrB s)
/-- The error of Check. -/
def stateE (typ : Int) (s : List Int) : Int :=
  if btw 1 typ 5 = false then 1 else if 50 < s.length then 2 else if validB typ s = false then 3 else 0
/-- How many are less. -/
def lessN (s : List Int) (x : Int) : Nat := s.countP (· < x)
/-- One more, in its place. -/
def insAt (s : List Int) (p : Nat) (x : Int) : List Int := s.take p ++ x :: s.drop p
/-- One less. -/
def delAt (s : List Int) (p : Nat) : List Int := s.take p ++ s.drop (p + 1)
/-- What comes of a kind that belongs to the type, at a state that may be. -/
def stepped (s : List Int) (kind arg : Int) : List Int × Int × Int :=
  if kind = 1 then ([arg], 0, 0)
  else if kind = 2 then (s, s.getD 0 0, 0)
  else if kind = 3 ∨ kind = 5 then (if s.length = 50 then ([], 0, 2) else (insAt s s.length arg, 0, 0))
  else if kind = 4 then (if s.length = 0 then (s, -1, 0) else (delAt s 0, s.getD 0 0, 0))
  else if kind = 6 then (if s.length = 0 then (s, -1, 0) else (delAt s (s.length - 1), s.getD (s.length - 1) 0, 0))
  else if kind = 10 then (if s.getD 0 0 = 1000 then ([], 0, 2) else ([s.getD 0 0 + 1], s.getD 0 0, 0))
  else if kind = 7 then (if arg ∈ s then (s, 0, 0) else if s.length = 50 then ([], 0, 2) else (insAt s (lessN s arg) arg, 1, 0))
  else if kind = 8 then (if arg ∈ s then (delAt s (lessN s arg), 1, 0) else (s, 0, 0))
  else (s, if arg ∈ s then 1 else 0, 0)
/-- Step: the new state, the answer, the error. -/
def stepO (typ : Int) (s : List Int) (kind arg : Int) : List Int × Int × Int :=
  if stateE typ s ≠ 0 then ([], 0, stateE typ s)
  else if (fitsB typ kind && takesB kind arg) = false then ([], 0, 3)
  else stepped s kind arg
def beginL (typ : Int) : List Int := if oneB typ = true then [0] else []
/-- How many of what is done may be, from a state on. -/
def playFrom (typ : Int) (s : List Int) : List Dd → Nat
  | [] => 0
  | d :: r => if (stepO typ s d.kind d.arg).2.2 ≠ 0 ∨ (stepO typ s d.kind d.arg).2.1 ≠ d.res then 0 else playFrom typ (stepO typ s d.kind d.arg).1 r + 1
def playN (typ : Int) (l : List Dd) : Nat := playFrom typ (beginL typ) l
/-- The state behind. -/
def stateFrom (typ : Int) (s : List Int) (l : List Dd) : List Int := l.foldl (fun s d => (stepO typ s d.kind d.arg).1) s
theorem valid_one {typ : Int} {s : List Int} (h : oneB typ = true) : validB typ s = true ↔ s.length = 1 ∧ 0 ≤ s.getD 0 0 ∧ s.getD 0 0 ≤ 1000 := by
  unfold validB
  rw [if_pos h, Bool.and_eq_true, decide_eq_true_iff, btw_iff]
theorem valid_row {typ : Int} {s : List Int} (h : oneB typ = false) : validB typ s = true ↔ (∀ x ∈ s, 1 ≤ x ∧ x ≤ 1000) ∧ (typ = 4 → s.Pairwise (· < ·)) := by
  unfold validB
  rw [if_neg (by rw [h]; decide), Bool.and_eq_true, List.all_eq_true, Bool.or_eq_true, bne_iff_ne, incrB, decide_eq_true_iff]
  constructor
  · rintro ⟨h1, h2⟩
    exact ⟨fun x hx => btw_iff.1 (h1 x hx), fun e => h2.elim (fun hn => absurd e hn) id⟩
  · rintro ⟨h1, h2⟩
    refine ⟨fun x hx => btw_iff.2 (h1 x hx), ?_⟩
    by_cases e : typ = 4
    · exact .inr (h2 e)
    · exact .inl e
theorem stateE_ok {typ : Int} {s : List Int} : stateE typ s = 0 ↔ (1 ≤ typ ∧ typ ≤ 5) ∧ s.length ≤ 50 ∧ validB typ s = true := by
  unfold stateE
  by_cases h1 : btw 1 typ 5 = false
  · rw [if_pos h1]
    exact ⟨fun h => absurd h (by decide), fun h => absurd (btw_iff.2 h.1) (by rw [h1]; decide)⟩
  · rw [if_neg h1]
    have h1' : 1 ≤ typ ∧ typ ≤ 5 := btw_iff.1 (by cases h : btw 1 typ 5 <;> simp_all)
    by_cases h2 : 50 < s.length
    · rw [if_pos h2]
      exact ⟨fun h => absurd h (by decide), fun h => by omega⟩
    · rw [if_neg h2]
      by_cases h3 : validB typ s = false
      · rw [if_pos h3]
        exact ⟨fun h => absurd h (by decide), fun h => by rw [h3] at h; exact absurd h.2.2 (by decide)⟩
      · rw [if_neg h3]
        exact ⟨fun _ => ⟨h1', by omega, by cases h : validB typ s <;> simp_all⟩, fun _ => rfl⟩
theorem adj_sorted : ∀ {s : List Int}, (∀ i, i + 1 < s.length → s.getD i 0 < s.getD (i + 1) 0) → s.Pairwise (· < ·)
  | [], _ => .nil
  | [x], _ => by simp
  | x :: y :: r, h => by
    have h1 : (y :: r).Pairwise (· < ·) := adj_sorted (s := y :: r) fun i hi => by
      have := h (i + 1) (by simp at hi ⊢; omega)
      simpa using this
    have h0 : x < y := by simpa using h 0 (by simp)
    refine List.pairwise_cons.2 ⟨fun z hz => ?_, h1⟩
    rcases List.mem_cons.1 hz with rfl | hz
    · exact h0
    · exact Int.lt_trans h0 ((List.pairwise_cons.1 h1).1 z hz)
theorem sorted_at {s : List Int} (h : s.Pairwise (· < ·)) {i j : Nat} (hij : i < j) (hj : j < s.length) : s.getD i 0 < s.getD j 0 := by
  have := List.pairwise_iff_getElem.1 h i j (by omega) hj hij
  simpa [List.getD_eq_getElem?_getD, List.getElem?_eq_getElem hj, List.getElem?_eq_getElem (show i < s.length by omega)] using this
theorem not_sorted {s : List Int} {i : Nat} (hi : i + 1 < s.length) (h : s.getD (i + 1) 0 ≤ s.getD i 0) : incrB s = false := by
  unfold incrB
  rw [decide_eq_false_iff_not]
  intro hp
  have := sorted_at hp (show i < i + 1 by omega) hi
  omega
theorem sorted_yes {s : List Int} (h : ∀ i, i + 1 < s.length → s.getD i 0 < s.getD (i + 1) 0) : incrB s = true := by
  unfold incrB
  rw [decide_eq_true_iff]
  exact adj_sorted h
theorem insAt_len (s : List Int) {p : Nat} (x : Int) (h : p ≤ s.length) : (insAt s p x).length = s.length + 1 := by
  unfold insAt
  simp
  omega
theorem delAt_len (s : List Int) {p : Nat} (h : p < s.length) : (delAt s p).length = s.length - 1 := by
  unfold delAt
  simp
  omega
theorem insAt_mem {s : List Int} {p : Nat} {x y : Int} : y ∈ insAt s p x ↔ y = x ∨ y ∈ s := by
  unfold insAt
  rw [List.mem_append, List.mem_cons]
  constructor
  · rintro (h | h | h)
    · exact .inr (List.mem_of_mem_take h)
    · exact .inl h
    · exact .inr (List.mem_of_mem_drop h)
  · rintro (h | h)
    · exact .inr (.inl h)
    · have : y ∈ s.take p ++ s.drop p := by rw [List.take_append_drop]; exact h
      rcases List.mem_append.1 this with h | h
      · exact .inl h
      · exact .inr (.inr h)
theorem delAt_sub {s : List Int} {p : Nat} {y : Int} (h : y ∈ delAt s p) : y ∈ s := by
  unfold delAt at h
  rcases List.mem_append.1 h with h | h
  · exact List.mem_of_mem_take h
  · exact List.mem_of_mem_drop h
theorem lessN_le (s : List Int) (x : Int) : lessN s x ≤ s.length := List.countP_le_length
theorem lessN_cons (y : Int) (r : List Int) (x : Int) : lessN (y :: r) x = lessN r x + (if y < x then 1 else 0) := by
  unfold lessN
  rw [List.countP_cons]
  simp
/-- Of a row that increases just the first lessN are less. -/
theorem lessN_zero : ∀ {s : List Int} {x : Int}, (∀ y ∈ s, x ≤ y) → lessN s x = 0
  | [], _, _ => rfl
  | y :: r, x, h => by
    rw [lessN_cons, lessN_zero (s := r) fun z hz => h z (List.mem_cons_of_mem _ hz), if_neg (by have := h y (List.mem_cons_self); omega)]
theorem less_take : ∀ {s : List Int} (x : Int), s.Pairwise (· < ·) → (∀ y ∈ s.take (lessN s x), y < x) ∧ (∀ y ∈ s.drop (lessN s x), x ≤ y)
  | [], x, _ => ⟨fun y h => by simp at h, fun y h => by simp at h⟩
  | y :: r, x, h => by
    obtain ⟨h1, h2⟩ := List.pairwise_cons.1 h
    by_cases hy : y < x
    · have e : lessN (y :: r) x = lessN r x + 1 := by rw [lessN_cons, if_pos hy]
      rw [e, List.take_succ_cons, List.drop_succ_cons]
      obtain ⟨k1, k2⟩ := less_take (s := r) x h2
      refine ⟨fun z hz => ?_, k2⟩
      rcases List.mem_cons.1 hz with rfl | hz
      · exact hy
      · exact k1 z hz
    · have e : lessN (y :: r) x = 0 := lessN_zero fun z hz => by
        rcases List.mem_cons.1 hz with rfl | hz
        · omega
        · have := h1 z hz; omega
      rw [e]
      refine ⟨fun z hz => by simp at hz, fun z hz => ?_⟩
      rw [List.drop_zero] at hz
      rcases List.mem_cons.1 hz with rfl | hz
      · omega
      · have := h1 z hz; omega
theorem ins_sorted {s : List Int} (h : s.Pairwise (· < ·)) {x : Int} (hx : x ∉ s) : (insAt s (lessN s x) x).Pairwise (· < ·) := by
  obtain ⟨h1, h2⟩ := less_take x h
  unfold insAt
  rw [List.pairwise_append]
  refine ⟨h.take, List.pairwise_cons.2 ⟨fun z hz => ?_, h.drop⟩, fun a ha b hb => ?_⟩
  · have h3 := h2 z hz
    have h4 : z ≠ x := fun e => hx (e ▸ List.mem_of_mem_drop hz)
    omega
  · rcases List.mem_cons.1 hb with rfl | hb
    · exact h1 a ha
    · have := h1 a ha; have := h2 b hb; omega
theorem del_sorted {s : List Int} (h : s.Pairwise (· < ·)) (p : Nat) : (delAt s p).Pairwise (· < ·) := by
  unfold delAt
  have : (s.take p ++ s.drop p).Pairwise (· < ·) := by rw [List.take_append_drop]; exact h
  rw [List.pairwise_append] at this ⊢
  have e : s.drop (p + 1) = (s.drop p).drop 1 := by rw [List.drop_drop]
  refine ⟨h.take, h.drop, fun a ha b hb => this.2.2 a ha b ?_⟩
  rw [e] at hb
  exact List.mem_of_mem_drop hb
/-- Where it is in a row that increases. -/
theorem less_at {s : List Int} (h : s.Pairwise (· < ·)) {x : Int} (hx : x ∈ s) : ∃ hp : lessN s x < s.length, s[lessN s x] = x := by
  obtain ⟨h1, h2⟩ := less_take x h
  have hm : x ∈ s.drop (lessN s x) := by
    have : x ∈ s.take (lessN s x) ++ s.drop (lessN s x) := by rw [List.take_append_drop]; exact hx
    rcases List.mem_append.1 this with h | h
    · have := h1 x h; omega
    · exact h
  have hp : lessN s x < s.length := by
    apply Classical.byContradiction
    intro hn
    rw [List.drop_eq_nil_of_le (by omega)] at hm
    cases hm
  refine ⟨hp, ?_⟩
  rw [List.drop_eq_getElem_cons hp] at hm h2
  have hd : (s.drop (lessN s x)).Pairwise (· < ·) := h.drop
  rw [List.drop_eq_getElem_cons hp] at hd
  rcases List.mem_cons.1 hm with e | hm
  · exact e.symm
  · have k1 := (List.pairwise_cons.1 hd).1 x hm
    have k2 := h2 _ (List.mem_cons_self)
    omega
theorem del_mem {s : List Int} (h : s.Pairwise (· < ·)) {x y : Int} (hx : x ∈ s) : y ∈ delAt s (lessN s x) ↔ y ≠ x ∧ y ∈ s := by
  obtain ⟨hp, e⟩ := less_at h hx
  obtain ⟨h1, h2⟩ := less_take x h
  have hd : (s.drop (lessN s x)).Pairwise (· < ·) := h.drop
  rw [List.drop_eq_getElem_cons hp, e] at hd
  constructor
  · intro hy
    refine ⟨fun hyx => ?_, delAt_sub hy⟩
    unfold delAt at hy
    rcases List.mem_append.1 hy with hy | hy
    · have := h1 y hy; omega
    · have := (List.pairwise_cons.1 hd).1 y hy; omega
  · rintro ⟨hne, hy⟩
    unfold delAt
    have : y ∈ s.take (lessN s x) ++ s.drop (lessN s x) := by rw [List.take_append_drop]; exact hy
    rw [List.drop_eq_getElem_cons hp, e] at this
    rcases List.mem_append.1 this with h | h
    · exact List.mem_append.2 (.inl h)
    · rcases List.mem_cons.1 h with h | h
      · exact absurd h hne
      · exact List.mem_append.2 (.inr h)
/-- Rows that increase are the same if they have the same numbers. -/
theorem sorted_ext : ∀ {a b : List Int}, a.Pairwise (· < ·) → b.Pairwise (· < ·) → (∀ x, x ∈ a ↔ x ∈ b) → a = b
  | [], [], _, _, _ => rfl
  | [], y :: s, _, _, h => by have := (h y).2 (List.mem_cons_self); cases this
  | x :: r, [], _, _, h => by have := (h x).1 (List.mem_cons_self); cases this
  | x :: r, y :: s, ha, hb, h => by
    obtain ⟨a1, a2⟩ := List.pairwise_cons.1 ha
    obtain ⟨b1, b2⟩ := List.pairwise_cons.1 hb
    have hxy : x = y := by
      rcases List.mem_cons.1 ((h x).1 List.mem_cons_self) with e | e
      · exact e
      · rcases List.mem_cons.1 ((h y).2 List.mem_cons_self) with e' | e'
        · exact e'.symm
        · have := a1 y e'; have := b1 x e; omega
    subst hxy
    congr 1
    refine sorted_ext a2 b2 fun z => ?_
    constructor
    · intro hz
      rcases List.mem_cons.1 ((h z).1 (List.mem_cons_of_mem _ hz)) with e | e
      · have := a1 z hz; omega
      · exact e
    · intro hz
      rcases List.mem_cons.1 ((h z).2 (List.mem_cons_of_mem _ hz)) with e | e
      · have := b1 z hz; omega
      · exact e
end Go.Proofs.YtfgangkpebkicaaDoor

/-
  Rows of integers of the call's own, every cell of them known to be an integer; slices.Clone over integers.
-/
namespace Go.Proofs.YtfgangkpebkicaaDoor
open Go.RowKit
set_option maxRecDepth 20000
/-- A row of integers in a block of the call's own (from B on): the list l, and integers up to the capacity. -/
def IOwn (w : World) (B : Nat) (v : Value) (l : List Int) : Prop :=
  (v = .slice none 0 0 ∧ l = []) ∨ ∃ (g cap : Nat) (zs : List Int), v = .slice (some ⟨g, 0, none⟩) l.length cap ∧ B ≤ g ∧ Lies w g 3 (zs.map (Value.int .i64)).toArray ∧ zs.length = cap ∧ l.length ≤ cap ∧ cap ≤ maxLen ∧ zs.take l.length = l
section
variable {w w' : World} {B : Nat} {v : Value} {l : List Int}
theorem int_cell {g : Nat} {t : TypeId} {zs : List Int} (h : Lies w g t (zs.map (Value.int .i64)).toArray) {j : Nat} {x : Int} (hx : zs[j]? = some x) : w.cell? ⟨g, j, none⟩ = some (.int .i64 x) := by
  rw [h.cell]
  simp [hx]
theorem take_at {zs l : List Int} (h : zs.take l.length = l) {j : Nat} {x : Int} (hx : l[j]? = some x) : zs[j]? = some x := by
  rw [← h, List.getElem?_take] at hx
  split at hx
  · exact hx
  · cases hx
theorem IOwn.rd (h : IOwn w B v l) : NRd w w.heap.size v l := by
  rcases h with ⟨rfl, rfl⟩ | ⟨g, cap, zs, rfl, hB, hL, hz, hc, hm, ht⟩
  · exact LRd.nil _ _
  · refine ⟨_, _, rfl, hc, hm, fun _ => ⟨g, 0, rfl, hL.lt, fun k x hk j u hu => ?_⟩⟩
    have hj : j = 0 := by
      have := (List.getElem?_eq_some_iff.1 hu).1
      simp at this
      omega
    subst hj
    simp only [List.getElem?_cons_zero, Option.some.injEq] at hu
    subst hu
    have := int_cell hL (take_at ht hk)
    simpa using this
theorem IOwn.keep (h : IOwn w B v l) (e : ∀ g, B ≤ g → g < w.heap.size → w'.heap[g]? = w.heap[g]?) : IOwn w' B v l := by
  rcases h with ⟨rfl, rfl⟩ | ⟨g, cap, zs, rfl, hB, hL, hz, hc, hm, ht⟩
  · exact Or.inl ⟨rfl, rfl⟩
  · exact Or.inr ⟨g, cap, zs, rfl, hB, hL.keep (e g hB hL.lt), hz, hc, hm, ht⟩
theorem IOwn.drew (h : IOwn w B v l) : IOwn w.drew B v l := h.keep fun _ _ _ => rfl
theorem IOwn.drewN (h : IOwn w B v l) (n : Nat) : IOwn (w.drewN n) B v l := h.keep fun _ _ _ => rfl
theorem IOwn.below (h : IOwn w B v l) (hb : Below w.heap.size w w') : IOwn w' B v l := h.keep fun g _ hg => hb.block g hg
theorem IOwn.lt (h : IOwn w B v l) {g o n cap : Nat} (e : v = .slice (some ⟨g, o, none⟩) n cap) : B ≤ g ∧ g < w.heap.size := by
  rcases h with ⟨rfl, rfl⟩ | ⟨g', cap, zs, rfl, hB, hL, hz, hc, hm, ht⟩
  · cases e
  · injection e with e
    injection e with e
    injection e with e
    subst e
    exact ⟨hB, hL.lt⟩
/-- The block of a row of one's own takes no store elsewhere amiss. -/
theorem IOwn.far (h : IOwn w B v l) {p : Addr} (hp : p.block < B) (u : Value) : IOwn (w.setCell p u) B v l :=
  h.keep fun g hg _ => Below.heap_setCell w p u g (by omega)
theorem IOwn.off (h : IOwn w B v l) {p : Addr} (hp : v.ownBlock ≠ some p.block) (u : Value) : IOwn (w.setCell p u) B v l := by
  rcases h with ⟨rfl, rfl⟩ | ⟨g, cap, zs, rfl, hB, hL, hz, hc, hm, ht⟩
  · exact Or.inl ⟨rfl, rfl⟩
  · exact Or.inr ⟨g, cap, zs, rfl, hB, hL.far (fun e => hp (by rw [← e]; rfl)) u, hz, hc, hm, ht⟩
end
theorem rdB0 (w : World) (q : Nat) : Below w.heap.size w (w.drewN q) := belowN (Below.refl _ _) q
theorem info_int : (Tryd.prog.info? 3).map (fun i => (i.zero, i.size, i.bytes)) = some (some (.int .i64 0), 1, 8) := by kernel_rfl
theorem zeros_int (k : Nat) : Builtin.zeroCells (Value.int .i64 0).cells k = ((List.replicate k (0 : Int)).map (Value.int .i64)).toArray := by
  apply Array.ext
  · simp [Builtin.zeroCells, Value.cells]
  · intro i h1 h2
    simp [Builtin.zeroCells, Value.cells, Nat.mod_one]
theorem ints_src (w : World) {g o n c : Nat} {l : List Int} (hn : l.length = n) (h : ∀ j x, l[j]? = some x → w.cell? ⟨g, o + j, none⟩ = some (.int .i64 x)) :
    Src Tryd.prog 1 22 (.slice (some ⟨g, o, none⟩) n c) n (l.map (Value.int .i64)) w :=
  Src.ofSlice w Tryd.underlying22 ⟨g, o, none⟩ n c (l.map (Value.int .i64)) (by simp [hn]) (fun j u hj => by
    rw [Addr.add_lit]
    rw [List.getElem?_map] at hj
    cases hx : l[j]? with
    | none => rw [hx] at hj; cases hj
    | some x =>
      rw [hx] at hj
      simp only [Option.map_some, Option.some.injEq] at hj
      subst hj
      exact h j x hx) (fun u hu => by
    obtain ⟨x, _, rfl⟩ := List.mem_map.1 hu
    rfl)
theorem LRd.ints {w : World} {B : Nat} {A : Option Addr} {n cap : Nat} {l : List Int} (h : NRd w B (.slice A n cap) l) (h0 : 0 < n) : ∃ g o, A = some ⟨g, o, none⟩ ∧ g < B ∧ ∀ j x, l[j]? = some x → w.cell? ⟨g, o + j, none⟩ = some (.int .i64 x) := by
  obtain ⟨A', cap', hv, h1, h2, h3⟩ := h
  injection hv with e1 e2 e3
  subst e1 e2 e3
  obtain ⟨g, o, rfl, hg, hc⟩ := h3 h0
  exact ⟨g, o, rfl, hg, fun j x hx => by simpa using hc j x hx 0 _ rfl⟩
/-- A row of integers that was just made, with zeros behind. -/
theorem own_made (w : World) (B : Nat) (l : List Int) {c : Nat} (hc : l.length ≤ c) (hm : c ≤ maxLen) (hB : B ≤ w.heap.size) :
    IOwn (w.alloc (.cells ((l.map (Value.int .i64)).toArray ++ Builtin.zeroCells (Value.int .i64 0).cells (c - l.length)) 3)) B (.slice (some ⟨w.heap.size, 0, none⟩) l.length c) l := by
  refine Or.inr ⟨_, c, l ++ List.replicate (c - l.length) 0, rfl, hB, ?_, by simp; omega, hc, hm, by simp⟩
  have := Lies.new w 3 ((l.map (Value.int .i64)).toArray ++ Builtin.zeroCells (Value.int .i64 0).cells (c - l.length))
  refine this.cast ?_
  rw [zeros_int]
  simp
set_option maxHeartbeats 1000000 in
theorem cloneI_any {v : Value} {l : List Int} {w : World} (h : NRd w w.heap.size v l) (hbig : l.length * 8 ≤ 140737488355328) :
    Calls Tryd.prog 110 #[v] w fun e w' => ∃ v', e = .returned v' ∧ IOwn w' w.heap.size v' l ∧ Below w.heap.size w w' := by
  obtain ⟨A, cap, rfl, m1, m2⟩ := h.is
  have hq := fun (W : World) (a : Option Addr) (n cap : Nat) => Lib.run_eql_slice_nil (P := Tryd.prog) W 22 3 a n cap 0 0 Tryd.underlying22
  obtain ⟨n, hn⟩ : ∃ n, n = l.length := ⟨_, rfl⟩
  cases A with
  | none =>
    have h0 : l.length = 0 := by
      apply Classical.byContradiction
      intro hp
      obtain ⟨g, o, hA, _⟩ := h.ints (by omega)
      cases hA
    have hl : l = [] := List.length_eq_zero_iff.1 h0
    subst hl
    go_enter Tryd.func110, Tryd.ntmps110
    go_wp2
    go_ret
    exact ⟨_, rfl, Or.inl ⟨rfl, rfl⟩, Below.refl _ _⟩
  | some a =>
    by_cases h0 : l.length = 0
    · have hl : l = [] := List.length_eq_zero_iff.1 h0
      subst hl
      have hsrc : Src Tryd.prog 1 22 (.slice (some a) 0 cap) 0 [] (w.alloc (.cells #[] 3)) :=
        Src.ofSlice _ Tryd.underlying22 a 0 cap [] rfl (fun j u hj => by simp at hj) (fun u hu => by cases hu)
      go_enter Tryd.func110, Tryd.ntmps110
      go_wp2_with (at_builtin; refine wpList_append_room1 _ rfl _ _ 22 22 rfl 3 _ _ Tryd.underlying22 info_int w.heap.size 0 0 0 rfl _ rfl 0 [] hsrc (by omega) (fun j hj => by simp at hj) (fun j hj => by simp at hj) ?_)
      go_ret
      refine ⟨_, rfl, ?_, (Below.refl _ _).alloc (Nat.le_refl _) _⟩
      exact Or.inr ⟨_, 0, [], rfl, Nat.le_refl _, Lies.new w 3 #[], rfl, by simp, by simp [maxLen], rfl⟩
    · obtain ⟨g, o, ha, hg, hc⟩ := h.ints (by omega)
      injection ha with ha
      subst ha
      obtain ⟨i0, hi0, hz0, hzs, hzb⟩ := info_parts info_int
      have hsrc : Src Tryd.prog i0.size 22 (.slice (some ⟨g, o, none⟩) l.length cap) l.length (l.map (Value.int .i64)) (w.alloc (.cells #[] 3)) := by
        rw [hzs]
        exact ints_src _ rfl fun j x hx => Lib.cell?_alloc_some _ (hc j x hx)
      have hold : (Builtin.firstCells i0.size 0 (.slice (some ⟨w.heap.size, 0, none⟩) 0 0)).run Tryd.prog (w.alloc (.cells #[] 3)).drew = .ok ([] : List Value).toArray (w.alloc (.cells #[] 3)).drew := by
        rw [hzs]
        exact run_firstCells_some _ 1 0 ⟨w.heap.size, 0, none⟩ 0 0 [] rfl (fun j v hj => by simp at hj)
      have hrun : ∀ ty, (Builtin.append_ #[22, 22] ty #[.slice (some ⟨w.heap.size, 0, none⟩) 0 0, .slice (some ⟨g, o, none⟩) l.length cap]).run Tryd.prog (w.alloc (.cells #[] 3)) = _ := fun ty =>
        run_append_grow_src (w.alloc (.cells #[] 3)) 22 22 ty 3 i0 _ Tryd.underlying22 hi0 hz0 (some ⟨w.heap.size, 0, none⟩) 0 0 [] hold _ l.length _ hsrc (by omega) (by omega) (by rw [hzb]; exact growslice_fits (by omega) (by omega))
      clear hsrc hold
      have HR := Lib.hid hrun
      clear hrun hc
      go_enter Tryd.func110, Tryd.ntmps110
      go_wp2_with (at_builtin; refine Lib.wpList_append_run _ rfl _ _ _ _ rfl _ _ rfl rfl _ _ (HR.out _) ?_)
      go_ret
      refine ⟨_, rfl, ?_, (((Below.refl _ _).alloc (Nat.le_refl _) _).drew).alloc (by simp) _⟩
      have := own_made (w.alloc (.cells #[] 3)) w.heap.size l (c := grownCap (w.alloc (.cells #[] 3)) (0 + l.length) 0 3) (by have := grownCap_ge (w.alloc (.cells #[] 3)) (0 + l.length) 0 3; omega) (grownCap_le_maxLen _ _ _ _ (by unfold maxLen; omega)) (by simp)
      have := this.drew
      simpa [Value.cells] using this
end Go.Proofs.YtfgangkpebkicaaDoor
