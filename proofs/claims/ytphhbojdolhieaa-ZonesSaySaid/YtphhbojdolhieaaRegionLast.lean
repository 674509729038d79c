/-
  A rule for a region that draws its order and whose last operations, in one forced order, wait for all others (mostly a store): the others are walked as a region of their own, with one condition S on the world; the last ones come behind them.
-/
import Derived.Test.YtphhbojdolhieaaProg
import Derived.StillTail
import Derived.Deep.RegionHeld3
namespace Go.Proofs.Ytphhbojdolhieaa
set_option maxRecDepth 20000
section
variable {P : Program} {md : Region.Mode} {Q : Exit → Act → World → Prop}
/-- What is to hold behind all operations but the last ones, o. -/
def LastQ (P : Program) (ops : Array Oper) (o : List Oper) (Q : Exit → Act → World → Prop) : Exit → Act → World → Prop
  | .normal, a, w => wpList P ops Q o a w
  | e, a, w => Q e a w
/-- Each operation waits for earlier ones alone, and its guard is an earlier one. -/
def ordB (ops : Array Oper) : Bool := (List.range ops.size).all fun j => match ops[j]? with
  | some o => (o.after.all fun e => decide (e.on < j)) && (match o.guard with | some (g, _) => decide (g < j) | none => true)
  | none => true
theorem ordB_spec {ops : Array Oper} (h : ordB ops = true) {j : Nat} {o : Oper} (hj : ops[j]? = some o) : (∀ e ∈ o.after, e.on < j) ∧ ∀ g b, o.guard = some (g, b) → g < j := by
  have hlt : j < ops.size := (Array.getElem?_eq_some_iff.1 hj).1
  have h1 := List.all_eq_true.1 h j (List.mem_range.2 hlt)
  rw [hj] at h1
  simp only [Bool.and_eq_true] at h1
  refine ⟨fun e he => ?_, fun g b hg => ?_⟩
  · have := Array.all_eq_true'.1 h1.1 e he
    simpa using this
  · rw [hg] at h1
    simpa using h1.2
theorem upon_less {o : Oper} {a : Act} {ops : Array Oper} {ol : List Oper} {K K' : Act → World → Prop} (h : ∀ a w, K a w → K' a w) : ∀ r : Result Next, o.upon P a K (LastQ P ops ol Q) r → o.upon P a K' Q r := by
  intro r hh
  cases r with
  | ok n w' =>
    cases n <;> simp only [Oper.upon] at hh ⊢ <;>
      first
        | exact h _ _ hh
        | exact Calls.mono hh (fun e w'' he => by cases e <;> first | exact h _ _ he | exact he)
        | exact Rows.mono hh (fun _ _ he => h _ _ he)
  | halt x w' => cases x <;> simp only [Oper.upon] at hh ⊢ <;> exact hh
theorem wpOp_less {ops' ops : Array Oper} {n : Nat} {ol : List Oper} (hlt : ∀ j, j < n → ops'[j]? = ops[j]?) (hord : ordB ops = true) {i : Nat} (hi : i < n) {K K' : Act → World → Prop} (h : ∀ a w, K a w → K' a w) {a : Act} {w : World}
    (hh : wpOp P ops' (LastQ P ops ol Q) i K a w) : wpOp P ops Q i K' a w := by
  unfold wpOp at *
  rw [hlt i hi] at hh
  cases ho : ops[i]? with
  | none => rw [ho] at hh; exact h _ _ hh
  | some o =>
    rw [ho] at hh
    simp only at hh ⊢
    have hw : Region.wanted o (yielded ops' a.tmps) = Region.wanted o (yielded ops a.tmps) := by
      unfold Region.wanted
      cases hg : o.guard with
      | none => rfl
      | some gb =>
        obtain ⟨g, b⟩ := gb
        have := (ordB_spec hord ho).2 g b hg
        simp only [yielded]
        rw [hlt g (by omega)]
    rw [hw] at hh
    split
    · rename_i hw'
      simp only [hw', if_true] at hh
      refine hh.imp (fun h1 => upon_less h _ h1) (fun h1 => h1)
    · rename_i hw'
      simp only [hw'] at hh
      exact h _ _ hh
/-- The least that has not come up may come up. -/
theorem some_ready {ops : Array Oper} (hord : ordB ops = true) {listed : Array Bool} (hs : listed.size = ops.size) : ∀ (k i : Nat), i ≤ k → i < ops.size → listed.getD i false = false → ∃ j, j ≤ i ∧ j ∈ Region.ready md ops listed
  | k, i, hk, hi, hl => by
    by_cases hall : ∀ j, j < i → listed.getD j false = true
    · refine ⟨i, Nat.le_refl _, mem_ready.2 ⟨getD_in (by omega) hl, ops[i], Array.getElem?_eq_getElem hi, fun e he _ => ?_⟩⟩
      exact hall _ ((ordB_spec hord (Array.getElem?_eq_getElem hi)).1 e he)
    · obtain ⟨j, hj⟩ := Classical.not_forall.1 hall
      obtain ⟨hji, hjl⟩ := Classical.not_imp.1 hj
      match k with
      | 0 => omega
      | k + 1 =>
        obtain ⟨m, hm, hr⟩ := some_ready hord hs k j (by omega) (by omega) (by simpa using hjl)
        exact ⟨m, by omega, hr⟩
theorem ready_less {ops' ops : Array Oper} {n : Nat} (hlt : ∀ j, j < n → ops'[j]? = ops[j]?) (hord : ordB ops = true) {listed' listed : Array Bool}
    (hl : ∀ j, j < n → listed'.getD j false = listed.getD j false) (hs : n < listed.size) (hs' : listed'.size = n) {i : Nat} (hi : i < n) : i ∈ Region.ready md ops' listed' ↔ i ∈ Region.ready md ops listed := by
  have hl' : listed'.getD i true = listed.getD i true := by
    have := hl i hi
    simp [show i < listed'.size by omega, show i < listed.size by omega] at this ⊢
    exact this
  rw [mem_ready, mem_ready, hlt i hi, hl']
  refine and_congr Iff.rfl ⟨fun ⟨o, ho, h⟩ => ⟨o, ho, fun e he hb => ?_⟩, fun ⟨o, ho, h⟩ => ⟨o, ho, fun e he hb => ?_⟩⟩
  · rw [← hl _ (Nat.lt_trans ((ordB_spec hord ho).1 e he) hi)]; exact h e he hb
  · rw [hl _ (Nat.lt_trans ((ordB_spec hord ho).1 e he) hi)]; exact h e he hb
theorem wpAny_more {ops : Array Oper} : ∀ (g : Nat) (listed : Array Bool) (a : Act) (w : World), wpAny P md ops Q g listed a w → wpAny P md ops Q (g + 1) listed a w
  | 0, listed, a, w, h => ⟨fun _ => h.2, fun i hi => by rw [h.1] at hi; cases hi⟩
  | g + 1, listed, a, w, h => ⟨h.1, fun i hi => wpOp_mono (fun a' w' h' => wpAny_more g _ a' w' h') (h.2 i hi)⟩
theorem wpAny_add {ops : Array Oper} (g : Nat) (listed : Array Bool) (a : Act) (w : World) (h : wpAny P md ops Q g listed a w) : ∀ f, wpAny P md ops Q (f + g) listed a w
  | 0 => by rw [Nat.zero_add]; exact h
  | f + 1 => by rw [show f + 1 + g = (f + g) + 1 by omega]; exact wpAny_more _ _ _ _ (wpAny_add g listed a w h f)
/-- All the first n have come up, none of the others. -/
def upTo (n m : Nat) : Array Bool := (List.replicate n true ++ List.replicate m false).toArray
theorem wpAny_last {ops' ops : Array Oper} {n m : Nat} {ol : List Oper} (hn : ops.size = n + m) (hm : 0 < m) (hn' : ops'.size = n) (hlt : ∀ j, j < n → ops'[j]? = ops[j]?) (hol : ol.length = m) (hol2 : ∀ j, ol[j]? = ops[n + j]?) (hord : ordB ops = true) (hsink : Region.sinkB md ops n = true)
    (hchain : Region.chainB md ops n = true) (hseq : Region.seqB md ops m n (upTo n m) = true) :
    ∀ (f : Nat) (listed' listed : Array Bool) (a : Act) (w : World), (∀ j, j < n → listed'.getD j false = listed.getD j false) → listed'.size = n → HeadInv md ops n listed →
      wpAny P md ops' (LastQ P ops ol Q) f listed' a w → wpAny P md ops Q (f + m) listed a w := by
  -- what comes behind all
  have fin : ∀ (f : Nat) (listed' listed : Array Bool) (a : Act) (w : World), (∀ j, j < n → listed'.getD j false = listed.getD j false) → listed'.size = n → HeadInv md ops n listed →
      Region.ready md ops' listed' = [] → LastQ P ops ol Q .normal a w → wpAny P md ops Q (f + m) listed a w := by
    intro f listed' listed a w hl hs' inv hr hq
    have hs : listed.size = n + m := by rw [inv.size, hn]
    have hall : ∀ i, i < n → listed.getD i false = true := by
      intro i hi
      apply Classical.byContradiction
      intro hne
      obtain ⟨j, hj, hjr⟩ := some_ready (md := md) hord (by rw [hs, hn]) i i (Nat.le_refl _) (by omega) (by simpa using hne)
      have := (ready_less hlt hord hl (by omega) hs' (show j < n by omega)).2 hjr
      rw [hr] at this
      cases this
    have e : listed = upTo n m := by
      apply Array.ext
      · simp [upTo, hs]
      · intro i h1 h2
        by_cases hi : i < n
        · have := hall i hi
          simp [h1] at this
          simp [upTo, hi, this]
        · have := inv.tail i (by omega) (by omega)
          simp [h1] at this
          simp [upTo, List.getElem_append, hi, this]
    rw [← hol] at hseq ⊢
    rw [e, hol]
    rw [hol] at hseq
    have h1 := wpAny_of_seq (md := md) (Q' := Q) ol n (upTo n m) a w hol2 (by rw [hol]; exact hseq) hq
    rw [hol] at h1
    exact wpAny_add m _ a w h1 f
  intro f
  induction f with
  | zero => intro listed' listed a w hl hs' inv h; exact fin 0 listed' listed a w hl hs' inv h.1 h.2
  | succ f ih =>
    intro listed' listed a w hl hs' inv h
    by_cases hr : Region.ready md ops' listed' = []
    · exact fin (f + 1) listed' listed a w hl hs' inv hr (h.1 hr)
    · have hs : listed.size = n + m := by rw [inv.size, hn]
      have hlow : ∃ i, i < n ∧ i ∈ Region.ready md ops' listed' := by
        cases hrr : Region.ready md ops' listed' with
        | nil => exact absurd hrr hr
        | cons i r =>
          have hi : i ∈ Region.ready md ops' listed' := by rw [hrr]; exact List.mem_cons_self
          obtain ⟨_, o, ho, _⟩ := mem_ready.1 hi
          have := (Array.getElem?_eq_some_iff.1 ho).1
          exact ⟨i, by omega, by rw [← hrr]; exact hi⟩
      obtain ⟨i0, hi0, hr0⟩ := hlow
      have hr0' := (ready_less hlt hord hl (by omega) hs' hi0).1 hr0
      rw [show f + 1 + m = (f + m) + 1 by omega]
      refine ⟨fun h0 => (by rw [h0] at hr0'; cases hr0'), fun i hi => ?_⟩
      have hin : i < n := by
        rcases Nat.lt_or_ge i n with h1 | h1
        · exact h1
        · exact absurd hi (tail_waits hsink hchain (by omega) inv (n - i0) i0 rfl hi0 (mem_ready.1 hr0').1 i h1)
      refine wpOp_less hlt hord hin (fun a' w' h' => ?_) (h.2 i ((ready_less hlt hord hl (by omega) hs' hin).2 hi))
      refine ih _ _ a' w' (fun j hj => ?_) (by simpa using hs') (inv.set hi hin) h'
      by_cases e : i = j
      · subst e
        simp [hs, hs', hin]
        omega
      · rw [getD_set_ne false e, getD_set_ne false e]
        exact hl j hj
/-- The last operations wait for all others, each for the one before; the others are walked with a condition S; then these come. -/
theorem wp_region_last {l : List Oper} {id : Nat} {a : Act} {w : World} (S : World → Prop) (n m : Nat) (hm : P.follows .mixedOrders = true) (hn : l.length = n + m) (hmp : 0 < m)
    (hord : ordB l.toArray = true) (hsink : Region.sinkB .any l.toArray n = true) (hchain : Region.chainB .any l.toArray n = true) (hseq : Region.seqB .any l.toArray m n (upTo n m) = true)
    (h : wpAnyH P .any (l.take n).toArray (LastQ P l.toArray (l.drop n) Q) S n (Array.replicate n false) a w.drew) : (Code.region id l.toArray true).wp P Q a w := by
  refine wp_region_any hm ?_
  have h1 : (l.toArray).size = n + m := by simpa using hn
  rw [h1]
  refine wpAny_last (ops' := (l.take n).toArray) (n := n) (ol := l.drop n) h1 hmp (by simp; omega) (fun j hj => by simp [hj]) (by simp; omega) (fun j => by simp [List.getElem?_drop]) hord hsink hchain hseq n (Array.replicate n false) _ a _ (fun j hj => ?_) (by simp) ?_ (wpAny_of_held _ _ _ _ h)
  · rw [getD_replicate_false, getD_replicate_false]
  · refine ⟨by simpa using hn.symm, fun j oj _ hl => ?_, fun t ht ht' => ?_⟩
    · rw [getD_replicate_false] at hl; cases hl
    · exact getD_in (by simp at ht' ⊢; omega) (getD_replicate_false _ _)
/-- Operation i, which writes slot d, is taken first. -/
theorem takeAt (i d : Nat) {ops : Array Oper} {S : World → Prop} {oi : Oper} {v : Value} {fuel : Nat} {listed : Array Bool} {a : Act} {w : World} (hi : ops[i]? = some oi) (hd : oi.dst = some d)
    (hs : Region.noSelect ops = true) (hf : Region.free md ops listed i = true) (hr : (Region.ready md ops listed).contains i = true)
    (hQ : ∀ c a w, Q (.panic c) (a.put (some d) v) w → Q (.panic c) a w) (hw : Region.wanted oi (yielded ops a.tmps) = true) (hy : ∀ w, S w → (execOp a.eval oi).run P w = .ok (.value v) w) (hS : S w)
    (h : wpAnyH P md ops Q S fuel (listed.setIfInBounds i true) (a.put (some d) v) w) : wpAnyH P md ops Q S (fuel + 1) listed a w := by
  rw [← hd] at hQ h
  exact wpAnyH_take hi hs hf hr hQ (.inl ⟨hw, hy⟩) hS h
/-- Of N operations the next in the text's order is taken first; they write the slots from b on. -/
theorem takeNext (N b : Nat) {ops : Array Oper} {S : World → Prop} {oi : Oper} {v : Value} {fuel : Nat} {listed : Array Bool} {a : Act} {w : World} (hi : ops[N - (fuel + 1)]? = some oi) (hd : oi.dst = some (b + (N - (fuel + 1))))
    (hs : Region.noSelect ops = true) (hf : Region.free md ops listed (N - (fuel + 1)) = true) (hr : (Region.ready md ops listed).contains (N - (fuel + 1)) = true)
    (hQ : ∀ c a w, Q (.panic c) (a.put (some (b + (N - (fuel + 1)))) v) w → Q (.panic c) a w) (hw : Region.wanted oi (yielded ops a.tmps) = true) (hy : ∀ w, S w → (execOp a.eval oi).run P w = .ok (.value v) w) (hS : S w)
    (h : wpAnyH P md ops Q S fuel (listed.setIfInBounds (N - (fuel + 1)) true) (a.put (some (b + (N - (fuel + 1)))) v) w) : wpAnyH P md ops Q S (fuel + 1) listed a w :=
  takeAt _ _ hi hd hs hf hr hQ hw hy hS h
/-- Of N operations the next in the text's order is passed by: its guard says so. -/
theorem skipNext (N b : Nat) {ops : Array Oper} {S : World → Prop} {oi : Oper} {fuel : Nat} {listed : Array Bool} {a : Act} {w : World} (hi : ops[N - (fuel + 1)]? = some oi) (hd : oi.dst = some (b + (N - (fuel + 1))))
    (hs : Region.noSelect ops = true) (hf : Region.free md ops listed (N - (fuel + 1)) = true) (hr : (Region.ready md ops listed).contains (N - (fuel + 1)) = true)
    (hQ : ∀ c a w, Q (.panic c) (a.put (some (b + (N - (fuel + 1)))) undef) w → Q (.panic c) a w) (hy : Region.wanted oi (yielded ops a.tmps) = false) (hS : S w)
    (h : wpAnyH P md ops Q S fuel (listed.setIfInBounds (N - (fuel + 1)) true) (a.put (some (b + (N - (fuel + 1)))) undef) w) : wpAnyH P md ops Q S (fuel + 1) listed a w := by
  rw [← hd] at hQ h
  exact wpAnyH_take hi hs hf hr hQ (.inr ⟨hy, rfl⟩) hS h
end
end Go.Proofs.Ytphhbojdolhieaa
