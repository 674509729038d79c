/-
  Joined by a program out of: RegionLast, Invoke, Add.
-/
import Derived.Test.YtfgangkpebkicaaGreatDoorProg
import Derived.StillTail
import Derived.Deep.RegionHeld3
import Derived.Test.YtfgangkpebkicaaGreatDoorMgAB

/-
  A rule for a region that draws its order and whose last operations, in one forced order, wait for all others (mostly a store): the others are walked as a region of their own, with one condition S on the world; the last ones come behind them.
-/
namespace Go.Proofs.YtfgangkpebkicaaGreatDoor
set_option maxRecDepth 20000
section
variable {P : Program} {md : Region.Mode} {Q : Exit → Act → World → Prop}
/-- What is to hold behind all operations but the last ones, o. -/
def LastQ (P : Program) (ops : Array Oper) (o : List Oper) (Q : Exit → Act → World → Prop) : Exit → Act → World → Prop
  | .normal, a, w => wpList P ops Q o a w
  | e, a, w => Q e a w
/-- Each operation waits for earlier ones alone, and its guard is an earlier one. -/
def ordB (ops : Array Oper) : Bool := (List.range ops.size).all fun j => match ops[j]? with
  | some o => (o.after.all fun e => decide (e.on < j)) && (match o.guard with | some (g, _) => decide (g < j) | none => true)
  | none => true
theorem ordB_spec {ops : Array Oper} (h : ordB ops = true) {j : Nat} {o : Oper} (hj : ops[j]? = some o) : (∀ e ∈ o.after, e.on < j) ∧ ∀ g b, o.guard = some (g, b) → g < j := by
  have hlt : j < ops.size := (Array.getElem?_eq_some_iff.1 hj).1
  have h1 := List.all_eq_true.1 h j (List.mem_range.2 hlt)
  rw [hj] at h1
  simp only [Bool.and_eq_true] at h1
  refine ⟨fun e he => ?_, fun g b hg => ?_⟩
  · have := Array.all_eq_true'.1 h1.1 e he
    simpa using this
  · rw [hg] at h1
    simpa using h1.2
theorem upon_less {o : Oper} {a : Act} {ops : Array Oper} {ol : List Oper} {K K' : Act → World → Prop} (h : ∀ a w, K a w → K' a w) : ∀ r : Result Next, o.upon P a K (LastQ P ops ol Q) r → o.upon P a K' Q r := by
  intro r hh
  cases r with
  | ok n w' =>
    cases n <;> simp only [Oper.upon] at hh ⊢ <;>
      first
        | exact h _ _ hh
        | exact Calls.mono hh (fun e w'' he => by cases e <;> first | exact h _ _ he | exact he)
        | exact Rows.mono hh (fun _ _ he => h _ _ he)
  | halt x w' => cases x <;> simp only [Oper.upon] at hh ⊢ <;> exact hh
theorem wpOp_less {ops' ops : Array Oper} {n : Nat} {ol : List Oper} (hlt : ∀ j, j < n → ops'[j]? = ops[j]?) (hord : ordB ops = true) {i : Nat} (hi : i < n) {K K' : Act → World → Prop} (h : ∀ a w, K a w → K' a w) {a : Act} {w : World}
    (hh : wpOp P ops' (LastQ P ops ol Q) i K a w) : wpOp P ops Q i K' a w := by
  unfold wpOp at *
  rw [hlt i hi] at hh
  cases ho : ops[i]? with
  | none => rw [ho] at hh; exact h _ _ hh
  | some o =>
    rw [ho] at hh
    simp only at hh ⊢
    have hw : Region.wanted o (yielded ops' a.tmps) = Region.wanted o (yielded ops a.tmps) := by
      unfold Region.wanted
      cases hg : o.guard with
      | none => rfl
      | some gb =>
        obtain ⟨g, b⟩ := gb
        have := (ordB_spec hord ho).2 g b hg
        simp only [yielded]
        rw [hlt g (by omega)]
    rw [hw] at hh
    split
    · rename_i hw'
      simp only [hw', if_true] at hh
      refine hh.imp (fun h1 => upon_less h _ h1) (fun h1 => h1)
    · rename_i hw'
      simp only [hw'] at hh
      exact h _ _ hh
/-- The least that has not come up may come up. -/
theorem some_ready {ops : Array Oper} (hord : ordB ops = true) {listed : Array Bool} (hs : listed.size = ops.size) : ∀ (k i : Nat), i ≤ k → i < ops.size → listed.getD i false = false → ∃ j, j ≤ i ∧ j ∈ Region.ready md ops listed
  | k, i, hk, hi, hl => by
    by_cases hall : ∀ j, j < i → listed.getD j false = true
    · refine ⟨i, Nat.le_refl _, mem_ready.2 ⟨getD_in (by omega) hl, ops[i], Array.getElem?_eq_getElem hi, fun e he _ => ?_⟩⟩
      exact hall _ ((ordB_spec hord (Array.getElem?_eq_getElem hi)).1 e he)
    · obtain ⟨j, hj⟩ := Classical.not_forall.1 hall
      obtain ⟨hji, hjl⟩ := Classical.not_imp.1 hj
      match k with
      | 0 => omega
      | k + 1 =>
        obtain ⟨m, hm, hr⟩ := some_ready hord hs k j (by omega) (by omega) (by simpa using hjl)
        exact ⟨m, by omega, hr⟩
theorem ready_less {ops' ops : Array Oper} {n : Nat} (hlt : ∀ j, j < n → ops'[j]? = ops[j]?) (hord : ordB ops = true) {listed' listed : Array Bool}
    (hl : ∀ j, j < n → listed'.getD j false = listed.getD j false) (hs : n < listed.size) (hs' : listed'.size = n) {i : Nat} (hi : i < n) : i ∈ Region.ready md ops' listed' ↔ i ∈ Region.ready md ops listed := by
  have hl' : listed'.getD i true = listed.getD i true := by
    have := hl i hi
    simp [show i < listed'.size by omega, show i < listed.size by omega] at this ⊢
    exact this
  rw [mem_ready, mem_ready, hlt i hi, hl']
  refine and_congr Iff.rfl ⟨fun ⟨o, ho, h⟩ => ⟨o, ho, fun e he hb => ?_⟩, fun ⟨o, ho, h⟩ => ⟨o, ho, fun e he hb => ?_⟩⟩
  · rw [← hl _ (Nat.lt_trans ((ordB_spec hord ho).1 e he) hi)]; exact h e he hb
  · rw [hl _ (Nat.lt_trans ((ordB_spec hord ho).1 e he) hi)]; exact h e he hb
theorem wpAny_more {ops : Array Oper} : ∀ (g : Nat) (listed : Array Bool) (a : Act) (w : World), wpAny P md ops Q g listed a w → wpAny P md ops Q (g + 1) listed a w
  | 0, listed, a, w, h => ⟨fun _ => h.2, fun i hi => by rw [h.1] at hi; cases hi⟩
  | g + 1, listed, a, w, h => ⟨h.1, fun i hi => wpOp_mono (fun a' w' h' => wpAny_more g _ a' w' h') (h.2 i hi)⟩
theorem wpAny_add {ops : Array Oper} (g : Nat) (listed : Array Bool) (a : Act) (w : World) (h : wpAny P md ops Q g listed a w) : ∀ f, wpAny P md ops Q (f + g) listed a w
  | 0 => by rw [Nat.zero_add]; exact h
  | f + 1 => by rw [show f + 1 + g = (f + g) + 1 by omega]; exact wpAny_more _ _ _ _ (wpAny_add g listed a w h f)
/-- All the first n have come up, none of the others. -/
def upTo (n m : Nat) : Array Bool := (List.replicate n true ++ List.replicate m false).toArray
theorem wpAny_last {ops' ops : Array Oper} {n m : Nat} {ol : List Oper} (hn : ops.size = n + m) (hm : 0 < m) (hn' : ops'.size = n) (hlt : ∀ j, j < n → ops'[j]? = ops[j]?) (hol : ol.length = m) (hol2 : ∀ j, ol[j]? = ops[n + j]?) (hord : ordB ops = true) (hsink : Region.sinkB md ops n = true)
    (hchain : Region.chainB md ops n = true) (hseq : Region.seqB md ops m n (upTo n m) = true) :
    ∀ (f : Nat) (listed' listed : Array Bool) (a : Act) (w : World), (∀ j, j < n → listed'.getD j false = listed.getD j false) → listed'.size = n → HeadInv md ops n listed →
      wpAny P md ops' (LastQ P ops ol Q) f listed' a w → wpAny P md ops Q (f + m) listed a w := by
  -- what comes behind all
  have fin : ∀ (f : Nat) (listed' listed : Array Bool) (a : Act) (w : World), (∀ j, j < n → listed'.getD j false = listed.getD j false) → listed'.size = n → HeadInv md ops n listed →
      Region.ready md ops' listed' = [] → LastQ P ops ol Q .normal a w → wpAny P md ops Q (f + m) listed a w := by
    intro f listed' listed a w hl hs' inv hr hq
    have hs : listed.size = n + m := by rw [inv.size, hn]
    have hall : ∀ i, i < n → listed.getD i false = true := by
      intro i hi
      apply Classical.byContradiction
      intro hne
      obtain ⟨j, hj, hjr⟩ := some_ready (md := md) hord (by rw [hs, hn]) i i (Nat.le_refl _) (by omega) (by simpa using hne)
      have := (ready_less hlt hord hl (by omega) hs' (show j < n by omega)).2 hjr
      rw [hr] at this
      cases this
    have e : listed = upTo n m := by
      apply Array.ext
      · simp [upTo, hs]
      · intro i h1 h2
        by_cases hi : i < n
        · have := hall i hi
          simp [h1] at this
          simp [upTo, hi, this]
        · have := inv.tail i (by omega) (by omega)
          simp [h1] at this
          simp [upTo, List.getElem_append, hi, this]
    rw [← hol] at hseq ⊢
    rw [e, hol]
    rw [hol] at hseq
    have h1 := wpAny_of_seq (md := md) (Q' := Q) ol n (upTo n m) a w hol2 (by rw [hol]; exact hseq) hq
    rw [hol] at h1
    exact wpAny_add m _ a w h1 f
  intro f
  induction f with
  | zero => intro listed' listed a w hl hs' inv h; exact fin 0 listed' listed a w hl hs' inv h.1 h.2
  | succ f ih =>
    intro listed' listed a w hl hs' inv h
    by_cases hr : Region.ready md ops' listed' = []
    · exact fin (f + 1) listed' listed a w hl hs' inv hr (h.1 hr)
    · have hs : listed.size = n + m := by rw [inv.size, hn]
      have hlow : ∃ i, i < n ∧ i ∈ Region.ready md ops' listed' := by
        cases hrr : Region.ready md ops' listed' with
        | nil => exact absurd hrr hr
        | cons i r =>
          have hi : i ∈ Region.ready md ops' listed' := by rw [hrr]; exact List.mem_cons_self
          obtain ⟨_, o, ho, _⟩ := mem_ready.1 hi
          have := (Array.getElem?_eq_some_iff.1 ho).1
          exact ⟨i, by omega, by rw [← hrr]; exact hi⟩
      obtain ⟨i0, hi0, hr0⟩ := hlow
      have hr0' := (ready_less hlt hord hl (by omega) hs' hi0).1 hr0
      rw [show f + 1 + m = (f + m) + 1 by omega]
      refine ⟨fun h0 => (by rw [h0] at hr0'; cases hr0'), fun i hi => ?_⟩
      have hin : i < n := by
        rcases Nat.lt_or_ge i n with h1 | h1
        · exact h1
        · exact absurd hi (tail_waits hsink hchain (by omega) inv (n - i0) i0 rfl hi0 (mem_ready.1 hr0').1 i h1)
      refine wpOp_less hlt hord hin (fun a' w' h' => ?_) (h.2 i ((ready_less hlt hord hl (by omega) hs' hin).2 hi))
      refine ih _ _ a' w' (fun j hj => ?_) (by simpa using hs') (inv.set hi hin) h'
      by_cases e : i = j
      · subst e
        simp [hs, hs', hin]
        omega
      · rw [getD_set_ne false e, getD_set_ne false e]
        exact hl j hj
/-- The last operations wait for all others, each for the one before; the others are walked with a condition S; then these come. -/
theorem wp_region_last {l : List Oper} {id : Nat} {a : Act} {w : World} (S : World → Prop) (n m : Nat) (hm : P.follows .mixedOrders = true) (hn : l.length = n + m) (hmp : 0 < m)
    (hord : ordB l.toArray = true) (hsink : Region.sinkB .any l.toArray n = true) (hchain : Region.chainB .any l.toArray n = true) (hseq : Region.seqB .any l.toArray m n (upTo n m) = true)
    (h : wpAnyH P .any (l.take n).toArray (LastQ P l.toArray (l.drop n) Q) S n (Array.replicate n false) a w.drew) : (Code.region id l.toArray true).wp P Q a w := by
  refine wp_region_any hm ?_
  have h1 : (l.toArray).size = n + m := by simpa using hn
  rw [h1]
  refine wpAny_last (ops' := (l.take n).toArray) (n := n) (ol := l.drop n) h1 hmp (by simp; omega) (fun j hj => by simp [hj]) (by simp; omega) (fun j => by simp [List.getElem?_drop]) hord hsink hchain hseq n (Array.replicate n false) _ a _ (fun j hj => ?_) (by simp) ?_ (wpAny_of_held _ _ _ _ h)
  · rw [getD_replicate_false, getD_replicate_false]
  · refine ⟨by simpa using hn.symm, fun j oj _ hl => ?_, fun t ht ht' => ?_⟩
    · rw [getD_replicate_false] at hl; cases hl
    · exact getD_in (by simp at ht' ⊢; omega) (getD_replicate_false _ _)
/-- Operation i, which writes slot d, is taken first. -/
theorem takeAt (i d : Nat) {ops : Array Oper} {S : World → Prop} {oi : Oper} {v : Value} {fuel : Nat} {listed : Array Bool} {a : Act} {w : World} (hi : ops[i]? = some oi) (hd : oi.dst = some d)
    (hs : Region.noSelect ops = true) (hf : Region.free md ops listed i = true) (hr : (Region.ready md ops listed).contains i = true)
    (hQ : ∀ c a w, Q (.panic c) (a.put (some d) v) w → Q (.panic c) a w) (hw : Region.wanted oi (yielded ops a.tmps) = true) (hy : ∀ w, S w → (execOp a.eval oi).run P w = .ok (.value v) w) (hS : S w)
    (h : wpAnyH P md ops Q S fuel (listed.setIfInBounds i true) (a.put (some d) v) w) : wpAnyH P md ops Q S (fuel + 1) listed a w := by
  rw [← hd] at hQ h
  exact wpAnyH_take hi hs hf hr hQ (.inl ⟨hw, hy⟩) hS h
/-- Of N operations the next in the text's order is taken first; they write the slots from b on. -/
theorem takeNext (N b : Nat) {ops : Array Oper} {S : World → Prop} {oi : Oper} {v : Value} {fuel : Nat} {listed : Array Bool} {a : Act} {w : World} (hi : ops[N - (fuel + 1)]? = some oi) (hd : oi.dst = some (b + (N - (fuel + 1))))
    (hs : Region.noSelect ops = true) (hf : Region.free md ops listed (N - (fuel + 1)) = true) (hr : (Region.ready md ops listed).contains (N - (fuel + 1)) = true)
    (hQ : ∀ c a w, Q (.panic c) (a.put (some (b + (N - (fuel + 1)))) v) w → Q (.panic c) a w) (hw : Region.wanted oi (yielded ops a.tmps) = true) (hy : ∀ w, S w → (execOp a.eval oi).run P w = .ok (.value v) w) (hS : S w)
    (h : wpAnyH P md ops Q S fuel (listed.setIfInBounds (N - (fuel + 1)) true) (a.put (some (b + (N - (fuel + 1)))) v) w) : wpAnyH P md ops Q S (fuel + 1) listed a w :=
  takeAt _ _ hi hd hs hf hr hQ hw hy hS h
/-- Of N operations the next in the text's order is passed by: its guard says so. -/
theorem skipNext (N b : Nat) {ops : Array Oper} {S : World → Prop} {oi : Oper} {fuel : Nat} {listed : Array Bool} {a : Act} {w : World} (hi : ops[N - (fuel + 1)]? = some oi) (hd : oi.dst = some (b + (N - (fuel + 1))))
    (hs : Region.noSelect ops = true) (hf : Region.free md ops listed (N - (fuel + 1)) = true) (hr : (Region.ready md ops listed).contains (N - (fuel + 1)) = true)
    (hQ : ∀ c a w, Q (.panic c) (a.put (some (b + (N - (fuel + 1)))) undef) w → Q (.panic c) a w) (hy : Region.wanted oi (yielded ops a.tmps) = false) (hS : S w)
    (h : wpAnyH P md ops Q S fuel (listed.setIfInBounds (N - (fuel + 1)) true) (a.put (some (b + (N - (fuel + 1)))) undef) w) : wpAnyH P md ops Q S (fuel + 1) listed a w := by
  rw [← hd] at hQ h
  exact wpAnyH_take hi hs hf hr hQ (.inr ⟨hy, rfl⟩) hS h
end
end Go.Proofs.YtfgangkpebkicaaGreatDoor

/-
  Contract of (*history.record).invoke.
-/
namespace Go.Proofs.YtfgangkpebkicaaGreatDoor
open Go.RowKit
set_option maxRecDepth 20000
set_option maxHeartbeats 4000000 in
theorem invoke_any {g : Nat} {tv : Value} {ts : List Int} {cs : List Cl} {w : World} (h : RecS g tv ts cs w) (n : Nat) (x : Ev) (p q : Nat) (hp : p < 8) (hx : x.who = (p : Int)) (hq : q < ts.length) (hy : x.thing = (q : Int)) (hlen : cs.length ≤ 200) :
    Calls Tryz.prog 50 #[.pointer (some ⟨g, 0, none⟩), .int .i64 n, evV x] w (Did g tv ts w (invS ts n cs x)) := by
  obtain ⟨who, thing, kind, val⟩ := x
  simp only at hx hy
  subst hx
  subst hy
  obtain ⟨⟨cv, b, c, h1, h2, h3⟩, h4⟩ := h
  have hb1 := h3.busy p hp
  have HI := Lib.hid (EvSt.start (x := ⟨p, q, kind, val⟩) h1 h2 h4)
  have H3 := Lib.hid h3
  have p1 : (0 : Int) ≤ (p : Int) := by omega
  have p2 : (p : Int) < 8 := by omega
  have q1 : (0 : Int) ≤ (q : Int) := by omega
  have q2 : (q : Int) < (ts.length : Int) := by omega
  obtain ⟨t, ht⟩ : ∃ t, ts[q]? = some t := ⟨_, List.getElem?_eq_getElem hq⟩
  have hget : ts.getD q 0 = t := by rw [List.getD_eq_getElem?_getD, ht]; rfl
  have er : invS ts n cs ⟨p, q, kind, val⟩ = if fitsB t kind = false ∨ takesB kind val = false then .inl 3 else if 0 ≤ openOf cs (p : Int) then .inl 5 else .inr (cs ++ [⟨p, q, kind, val, 0, n, -1⟩]) := by
    unfold invS
    simp only
    rw [Int.toNat_natCast, hget]
  generalize invS ts n cs ⟨p, q, kind, val⟩ = s at er ⊢
  have HS := Lib.hid er
  have HT := Lib.hid ht
  obtain ⟨At, capt, rfl, m1, m2⟩ := h4.is
  obtain ⟨Ac, capc, rfl, m3, m4⟩ := h2.rd.is
  obtain ⟨gt, o, rfl, -, -⟩ := h4.num ht
  clear h1 h2 h3 h4 er hget ht
  unfold maxLen at m2 m4
  go_enter Tryz.func50, Tryz.ntmps50
  go_wp2_with fail
  have HI' := HI.out
  clear HI
  generalize w.heap.size = P at HI' ⊢
  change Code.wp _ _ _ _ (w.alloc (.cells #[.int .i64 p, .int .i64 q, .int .i64 kind, .int .i64 val] 37))
  generalize w.alloc (.cells #[.int .i64 p, .int .i64 q, .int .i64 kind, .int .i64 val] 37) = W at HI' ⊢
  obtain ⟨d0, d1, d2, d3⟩ := HI'.cells
  have r0 := HI'.rc.types
  obtain ⟨gt', o', hv, -, rt⟩ := HI'.types.num HT.out
  injection hv with hv
  injection hv with hv1 hv2 hv3
  subst hv1
  subst hv2
  have HB := Lib.hid HI'
  clear HI'
  have HF := Lib.hid (fun W => fits_any t kind W)
  have HK := Lib.hid (fun W => takes_any kind val W)
  cases hf : fitsB t kind
  · have HG := Lib.hid hf
    rw [hf] at HF
    clear hf
    go_quiet ((go_at_call 68; exact quiet_left (HF.out _)))
    go_wp2_with fail
    go_ret
    have e := HS.out
    rw [if_pos (Or.inl HG.out)] at e
    rw [e]
    exact ⟨belowN HB.out.below _, rfl⟩
  · have HG := Lib.hid hf
    rw [hf] at HF
    clear hf
    cases ht : takesB kind val
    · have HT := Lib.hid ht
      rw [ht] at HK
      clear ht
      go_quiet (first | (go_at_call 68; exact quiet_left (HF.out _)) | (go_at_call 69; exact quiet_left (HK.out _)))
      go_wp2_with fail
      go_ret
      have e := HS.out
      rw [if_pos (Or.inr HT.out)] at e
      rw [e]
      exact ⟨belowN HB.out.below _, rfl⟩
    · have HT := Lib.hid ht
      rw [ht] at HK
      clear ht
      go_quiet (first | (go_at_call 68; exact quiet_left (HF.out _)) | (go_at_call 69; exact quiet_left (HK.out _)))
      go_wp2_with fail
      have HI' := HB.out.drewN nq
      clear d0 d1 d2 d3 r0 rt HB HF HK
      generalize W.drewN nq = W1 at HI' ⊢
      clear W
      obtain ⟨d0, d1, d2, d3⟩ := HI'.cells
      have r2 := HI'.rc.busy hp
      have HB := Lib.hid HI'
      clear HI'
      cases hbp : b p
      · rw [hbp] at r2
        have HO : openOf cs (p : Int) < 0 := by
          apply Classical.byContradiction; intro hn
          have := hb1.2 (by omega)
          rw [hbp] at this; cases this
        have e := HS.out
        rw [if_neg (fun h => h.elim (fun h => by rw [HG.out] at h; cases h) (fun h => by rw [HT.out] at h; cases h)), if_neg (by omega)] at e
        subst e
        have HO := Lib.hid HO
        clear hb1 hbp HS HG HT
        go_quiet (fail)
        go_wp2_with fail
        have HI' := HB.out.drewN nq
        clear d0 d1 d2 d3 r2 HB
        generalize W1.drewN nq = W2 at HI' ⊢
        clear W1
        have d0 := HI'.cells.1
        have r2 := HI'.rc.busy hp
        have rf := HI'.rc.free (2 + p)
        have HB := Lib.hid HI'
        clear HI'
        go_still_tail 6, (by kernel_rfl)
        change wpList _ _ _ _ _ W2.drew
        have HI' := HB.out.drew
        clear d0 r2 rf HB
        generalize W2.drew = W3 at HI' ⊢
        clear W2
        have r2 := HI'.rc.busy hp
        have rf := HI'.rc.free (2 + p)
        have HB := Lib.hid (HI'.busyPut hp true)
        clear HI'
        go_wp2_with fail
        generalize W3.setCell ⟨g, 2 + p, none⟩ (.bool true) = W4 at HB ⊢
        clear r2 rf W3
        have d0 := HB.out.cells.1
        have r1 := HB.out.rc.calls
        have r3 := HB.out.rc.cur hp
        have rf := HB.out.rc.free (10 + p)
        go_still_tail 11, (by kernel_rfl)
        change wpList _ _ _ _ _ W4.drew
        have HI' := HB.out.drew
        clear d0 r1 r3 rf HB
        generalize W4.drew = W5 at HI' ⊢
        clear W4
        have r3 := HI'.rc.cur hp
        have rf := HI'.rc.free (10 + p)
        have HB := Lib.hid (HI'.curPut hp (cs.length : Int))
        clear HI'
        go_wp2_with fail
        generalize W5.setCell ⟨g, 10 + p, none⟩ (.int .i64 (cs.length : Int)) = W6 at HB ⊢
        clear r3 rf W5
        obtain ⟨d0, d1, d2, d3⟩ := HB.out.cells
        have r1 := HB.out.rc.calls
        have rf := HB.out.rc.free 1
        have HD := Lib.hid HB.out.drew
        have hG6 : g < W6.heap.size := Lies.lt HB.out.rc
        have hS0 : InvC g P (.slice Ac cs.length capc) ⟨p, q, kind, val⟩ W6.drew := HD.out.held
        clear d0 d1 d2 d3 r1 rf
        refine wp_region_last (InvC g P (.slice Ac cs.length capc) ⟨p, q, kind, val⟩) 17 3 (by kernel_rfl) (by rfl) (by decide) (by kernel_rfl) (by kernel_rfl) (by kernel_rfl) (by kernel_rfl) ?_
        simp only [List.take_succ_cons, List.take_zero]
        iterate 15 (
          refine takeNext 17 51 (oi := _) (v := ?_) rfl rfl (by kernel_rfl) (by kernel_rfl) (by kernel_rfl) (fun _ _ _ h => h) (by rfl) ?_ (by assumption) ?_
          rotate_left
          · (intro w hSw; obtain ⟨s0, s1, s2, s3, s4, s5⟩ := hSw; go_simp; try with_reducible rfl)
          simp only [Act.put, List.setIfInBounds_toArray, List.set_cons_zero, List.set_cons_succ, Nat.reduceAdd, Nat.reduceSub])
        refine wpAnyH_ready (rs := [15]) (by kernel_rfl) (by simp) ?_
        refine AllReadyH.cons (o := _) rfl (fun K hK => ?_) AllReadyH.nil
        go_simp
        refine hK.out _ _ (HD.out.alloc (.cells (clCs ⟨p, q, kind, val, 0, n, -1⟩).toArray 58)).held (fun _ => ?_)
        clear hK K
        refine wpAnyH_ready (rs := [16]) (by kernel_rfl) (by simp) ?_
        refine AllReadyH.cons (o := _) rfl (fun K hK => ?_) AllReadyH.nil
        refine step_app_cl (by rfl) (.tmp 55) (.tmp 66) (by rfl) (g + 1) W6.heap.size _ cs ⟨p, q, kind, val, 0, n, -1⟩ (by rfl) (by rfl) (HD.out.own.alloc (.cells (clCs ⟨p, q, kind, val, 0, n, -1⟩).toArray 58)) (new_cells W6.drew 58 (clCs ⟨p, q, kind, val, 0, n, -1⟩)) (by omega) (by simp; omega) ?_
        intro v' w5 ho5 hb5 hg5
        obtain ⟨A', c', rfl⟩ := own_slice ho5
        have HN := Lib.hid (And.intro ho5 ((HD.out.alloc (.cells (clCs ⟨p, q, kind, val, 0, n, -1⟩).toArray 58)).grown hb5 hg5))
        clear ho5 hb5 hg5
        refine hK.out _ _ HN.out.2.1 (fun _ => ?_)
        clear hK K
        refine wpAnyH_done (by kernel_rfl) ?_ _
        have rn := HN.out.2.2.1.calls
        have rm := HN.out.2.2.1.free 1
        simp only [LastQ, List.drop_succ_cons, List.drop_zero]
        go_wp2_with fail
        go_ret
        have ho : COwn w5 (g + 1) (.slice A' (cs.length + 1) c') (cs ++ [⟨p, q, kind, val, 0, n, -1⟩]) := by
          have := HN.out.1
          rw [List.length_append] at this
          exact this
        have hb : Below g w5 (w5.setCell ⟨g, 1, none⟩ (.slice A' (cs.length + 1) c')) := (Below.refl _ _).setCell (Nat.le_refl g) _
        exact ⟨HN.out.2.2.2.1.trans hb, rfl, ⟨_, _, _, HN.out.2.2.1.setCalls _, ho.far (by show g < g + 1; omega) _, H3.out.called HO.out rfl rfl⟩, HN.out.2.2.2.2.1.below hb⟩
      · have h0 : 0 ≤ openOf cs (p : Int) := hb1.1 hbp
        rw [hbp] at r2
        have e := HS.out
        rw [if_neg (fun h => h.elim (fun h => by rw [HG.out] at h; cases h) (fun h => by rw [HT.out] at h; cases h)), if_pos h0] at e
        subst e
        clear hb1 hbp h0 HS
        go_quiet (fail)
        go_wp2_with fail
        go_ret
        exact ⟨belowN HB.out.below _, rfl⟩
end Go.Proofs.YtfgangkpebkicaaGreatDoor

/-
  Contract of (*history.record).add.
-/
namespace Go.Proofs.YtfgangkpebkicaaGreatDoor
open Go.RowKit
set_option maxRecDepth 20000
set_option maxHeartbeats 4000000 in
theorem add_any {g : Nat} {tv : Value} {ts : List Int} {cs : List Cl} {w : World} (h : RecS g tv ts cs w) (n : Nat) (x : Ev) (hlen : cs.length ≤ 200) :
    Calls Tryz.prog 42 #[.pointer (some ⟨g, 0, none⟩), .int .i64 n, evV x] w (Did g tv ts w (step ts n cs x)) := by
  obtain ⟨who, thing, kind, val⟩ := x
  have HR := Lib.hid h
  obtain ⟨⟨cv, b, c, h1, h2, h3⟩, h4⟩ := h
  have HI := Lib.hid (EvSt.start (x := ⟨who, thing, kind, val⟩) h1 h2 h4)
  obtain ⟨At, capt, rfl, m1, m2⟩ := h4.is
  obtain ⟨Ac, capc, rfl, m3, m4⟩ := h2.rd.is
  clear h1 h2 h3 h4
  unfold maxLen at m2 m4
  have hgl := HR.out.lt
  have er : step ts n cs ⟨who, thing, kind, val⟩ = if ¬ (0 ≤ who ∧ who ≤ 7) ∨ ¬ (0 ≤ thing ∧ thing < ts.length) then .inl 3 else if kind = 0 then respS n cs ⟨who, thing, kind, val⟩ else invS ts n cs ⟨who, thing, kind, val⟩ := rfl
  generalize step ts n cs ⟨who, thing, kind, val⟩ = s at er ⊢
  have HS := Lib.hid er
  have hw : IntKind.i64.wrap ((ts.length : Int) - 1) = (ts.length : Int) - 1 := by rw [IntKind.wrap_i64]; omega
  have HRA := Lib.hid (HR.out.next ((Below.refl _ _).alloc (Nat.le_refl _) (.cells (evCs ⟨who, thing, kind, val⟩).toArray 37)))
  clear er HR
  go_enter Tryz.func42, Tryz.ntmps42
  go_wp2_with fail
  have HI' := HI.out
  have HRA' := HRA.out
  clear HI HRA
  generalize w.heap.size = P at HI' ⊢
  change Code.wp _ _ _ _ (w.alloc (.cells #[.int .i64 who, .int .i64 thing, .int .i64 kind, .int .i64 val] 37))
  generalize w.alloc (.cells #[.int .i64 who, .int .i64 thing, .int .i64 kind, .int .i64 val] 37) = W at HI' HRA' ⊢
  obtain ⟨d0, d1, d2, d3⟩ := HI'.cells
  have r0 := HI'.rc.types
  have HB := Lib.hid HI'
  have HR := Lib.hid HRA'
  clear HI' HRA'
  cases c1 : btw 0 who 7
  · have C1 := Lib.hid c1
    go_quiet ((go_at_call 48; exact quiet_left (within_any _ _ _ _)))
    go_wp2_with fail
    go_ret
    have e := HS.out
    rw [if_pos (Or.inl (btw_not.1 C1.out))] at e
    rw [e]
    exact ⟨belowN HB.out.below _, rfl⟩
  · have C1 := Lib.hid c1
    cases c2 : btw 0 thing ((ts.length : Int) - 1)
    · have C2 := Lib.hid c2
      go_quiet ((go_at_call 48; exact quiet_left (within_any _ _ _ _)))
      go_wp2_with fail
      go_ret
      have e := HS.out
      have hn := btw_not.1 C2.out
      rw [if_pos (Or.inr (by omega))] at e
      rw [e]
      exact ⟨belowN HB.out.below _, rfl⟩
    · have C2 := Lib.hid c2
      go_quiet ((go_at_call 48; exact quiet_left (within_any _ _ _ _)))
      have e := HS.out
      have hn1 := btw_iff.1 C1.out
      have hn2 := btw_iff.1 C2.out
      rw [if_neg (by omega)] at e
      obtain ⟨p, rfl⟩ : ∃ p : Nat, who = (p : Int) := ⟨who.toNat, by omega⟩
      obtain ⟨q, rfl⟩ : ∃ q : Nat, thing = (q : Int) := ⟨thing.toNat, by omega⟩
      have hp : p < 8 := by omega
      have hq : q < ts.length := by omega
      clear HS hn1 hn2 C1 C2 c1 c2
      have hpl : Below W.heap.size W (W.drewN nq) := belowN (Below.refl _ _) _
      by_cases hk : kind = 0
      · subst hk
        rw [if_pos rfl] at e
        have hc := respond_any (HR.out.next hpl) n ⟨p, q, 0, val⟩ p hp rfl
        rw [← e] at hc
        have HC := Lib.hid hc
        clear hc e
        have HL := Lib.hid hpl
        clear hpl
        go_wp2_with fail
        refine HC.out.mono ?_
        rintro e w' ⟨hb, hd⟩
        have hb' : Below g w w' := HB.out.below.trans ((belowN (Below.refl _ _) _).trans hb)
        cases s with
        | inl r =>
          simp only at hd
          subst hd
          have HX := Lib.hid hb'
          clear hb hb'
          go_wp2_with fail
          go_ret
          exact ⟨HX.out, rfl⟩
        | inr cs' =>
          obtain ⟨rfl, hd⟩ := hd
          have HX := Lib.hid (And.intro hb' hd)
          clear hb hb' hd
          go_wp2_with fail
          go_ret
          exact ⟨HX.out.1, rfl, HX.out.2⟩
      · rw [if_neg hk] at e
        have hz : (kind == 0) = false := by rw [beq_eq_false_iff_ne]; exact hk
        have hc := invoke_any (HR.out.next hpl) n ⟨p, q, kind, val⟩ p q hp rfl hq rfl hlen
        rw [← e] at hc
        have HC := Lib.hid hc
        clear hc e
        have HL := Lib.hid hpl
        clear hpl hk
        go_wp2_with fail
        refine HC.out.mono ?_
        rintro e w' ⟨hb, hd⟩
        have hb' : Below g w w' := HB.out.below.trans ((belowN (Below.refl _ _) _).trans hb)
        cases s with
        | inl r =>
          simp only at hd
          subst hd
          have HX := Lib.hid hb'
          clear hb hb'
          go_wp2_with fail
          go_ret
          exact ⟨HX.out, rfl⟩
        | inr cs' =>
          obtain ⟨rfl, hd⟩ := hd
          have HX := Lib.hid (And.intro hb' hd)
          clear hb hb' hd
          go_wp2_with fail
          go_ret
          exact ⟨HX.out.1, rfl, HX.out.2⟩
end Go.Proofs.YtfgangkpebkicaaGreatDoor
