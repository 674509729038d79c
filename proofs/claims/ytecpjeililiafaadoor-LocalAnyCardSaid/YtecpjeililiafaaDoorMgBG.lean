/-
  Joined by a program out of: SeqPure.
-/
import Derived.Test.YtecpjeililiafaaDoorMgBC
import Derived.Test.YtecpjeililiafaaDoorMgBA

/-
  Plain: right orders by each one's own order: two events exchanged; all calls one behind the other.
-/
namespace Go.Proofs.YtecpjeililiafaaDoor
open Go.RowKit
set_option maxRecDepth 20000

/-- The same calls in other places: a right order is one, if no one is ahead who was not. -/
theorem RiteP.ren {ts : List Int} {cs ds : List Cl} {σ : Nat → Nat} {p q : Nat → Nat → Bool} (hlen : ds.length = cs.length) (hinv : ∀ i, σ (σ i) = i) (hrng : ∀ i, i < cs.length → σ i < cs.length)
    (hat : ∀ i, i < cs.length → (ds.getD (σ i) default).thing = (cs.getD i default).thing ∧ (ds.getD (σ i) default).kind = (cs.getD i default).kind ∧ (ds.getD (σ i) default).arg = (cs.getD i default).arg ∧ (ds.getD (σ i) default).res = (cs.getD i default).res ∧ ((ds.getD (σ i) default).til = -1 ↔ (cs.getD i default).til = -1))
    (hah : ∀ i j, i < cs.length → j < cs.length → q (σ i) (σ j) = true → p i j = true) {ws : List (Int × Int)} (h : RiteP ts cs p ws) : RiteP ts ds q (ws.map fun x => ((σ x.1.toNat : Nat), x.2)) := by
  have hac : ∀ x ∈ ws, atC ds ((σ x.1.toNat : Nat), x.2) = ds.getD (σ x.1.toNat) default := fun x hx => by unfold atC; rw [Int.toNat_natCast]
  have hfst : (ws.map fun x => (((σ x.1.toNat : Nat) : Int), x.2)).map (·.1) = (ws.map (·.1)).map fun k => ((σ k.toNat : Nat) : Int) := by rw [List.map_map, List.map_map]; rfl
  have hmem : ∀ (i : Nat) (l : List (Int × Int)), ((σ i : Nat) : Int) ∈ l.map (·.1) → (i : Int) ∈ (l.map fun x => (((σ x.1.toNat : Nat) : Int), x.2)).map (·.1) := fun i l hm => by
    obtain ⟨x, hx, e⟩ := List.mem_map.1 hm
    refine List.mem_map.2 ⟨_, List.mem_map.2 ⟨x, hx, rfl⟩, ?_⟩
    show ((σ x.1.toNat : Nat) : Int) = i
    rw [e, Int.toNat_natCast, hinv]
  refine ⟨fun y hy => ?_, ?_, fun y hy ht => ?_, fun i hi ht => ?_, fun i j hi hj ha a y b e ey => ?_, fun t ht => ?_⟩
  · obtain ⟨x, hx, rfl⟩ := List.mem_map.1 hy
    have h1 := h.rng x hx
    have h2 := hrng x.1.toNat (by omega)
    exact ⟨by show (0 : Int) ≤ (σ x.1.toNat : Nat); omega, by show ((σ x.1.toNat : Nat) : Int) < _; omega⟩
  · rw [hfst]
    have h3 := h.once
    have : ∀ l : List Int, (∀ k ∈ l, 0 ≤ k) → l.Nodup → (l.map fun k => ((σ k.toNat : Nat) : Int)).Nodup := by
      intro l
      induction l with
      | nil => intro _ _; exact List.nodup_nil
      | cons k r ih =>
        intro hl hn
        rw [List.nodup_cons] at hn
        rw [List.map_cons, List.nodup_cons]
        refine ⟨fun hm => ?_, ih (fun z hz => hl z (List.mem_cons_of_mem _ hz)) hn.2⟩
        obtain ⟨z, hz, e⟩ := List.mem_map.1 hm
        have e2 : σ (σ z.toNat) = σ (σ k.toNat) := congrArg σ (by omega)
        rw [hinv, hinv] at e2
        have h4 := hl z (List.mem_cons_of_mem _ hz)
        have h5 := hl k List.mem_cons_self
        have : z = k := by omega
        subst this
        exact hn.1 hz
    refine this _ (fun k hk => ?_) h3
    obtain ⟨x, hx, rfl⟩ := List.mem_map.1 hk
    exact (h.rng x hx).1
  · obtain ⟨x, hx, rfl⟩ := List.mem_map.1 hy
    have h1 := h.rng x hx
    have h2 := hat x.1.toNat (by omega)
    rw [hac x hx] at ht ⊢
    rw [h2.2.2.2.1]
    exact h.res x hx (fun e => ht (h2.2.2.2.2.2 e))
  · have hi2 := hrng i (by omega)
    have h2 := hat (σ i) hi2
    rw [hinv] at h2
    exact hmem i ws (h.all (σ i) hi2 (fun e => ht (h2.2.2.2.2.2 e)))
  · obtain ⟨a', r, e1, e2, e3⟩ := List.map_eq_append_iff.1 e
    obtain ⟨x, b', e4, e5, e6⟩ := List.map_eq_cons_iff.1 e3
    subst e4
    have hx : x ∈ ws := by rw [e1]; simp
    have h1 := h.rng x hx
    have hxj : σ x.1.toNat = j := by rw [← e5] at ey; exact Int.ofNat.inj ey
    have hj2 : x.1.toNat = σ j := by rw [← hxj, hinv]
    have ha2 := hah (σ i) (σ j) (hrng i (by omega)) (hrng j (by omega)) (by rw [hinv, hinv]; exact ha)
    have := h.ord (σ i) (σ j) (hrng i (by omega)) (hrng j (by omega)) ha2 a' x b' e1 (by omega)
    rw [← e2]
    exact hmem i a' this
  · have h1 := h.goes t ht
    have : ∀ l : List (Int × Int), (∀ x ∈ l, 0 ≤ x.1 ∧ x.1 < cs.length) → ownD ds t (l.map fun x => (((σ x.1.toNat : Nat) : Int), x.2)) = ownD cs t l := by
      intro l
      induction l with
      | nil => intro _; rfl
      | cons x r ih =>
        intro hl
        have h2 := hl x List.mem_cons_self
        have h3 := hat x.1.toNat (by omega)
        rw [List.map_cons, ownD_cons, ownD_cons, ih (fun y hy => hl y (List.mem_cons_of_mem _ hy))]
        unfold ddC
        have e1 : atC ds (((σ x.1.toNat : Nat) : Int), x.2) = ds.getD (σ x.1.toNat) default := by unfold atC; rw [Int.toNat_natCast]
        have e2 : atC cs x = cs.getD x.1.toNat default := rfl
        rw [e1, e2, h3.1, h3.2.1, h3.2.2.1]
    rw [this ws h.rng]
    exact h1
theorem own_tw {k n n' : Nat} {σ : Nat → Nat} {cs ds : List Cl} (tw : Tw k σ cs ds) (ho : Orderly n cs) (ho' : Orderly n' ds) {i j : Nat} (hi : i < cs.length) (hj : j < cs.length) (h : ownB ds (σ i) (σ j) = true) : ownB cs i j = true := by
  unfold ownB at h ⊢
  rw [decide_eq_true_iff] at h ⊢
  obtain ⟨h1, h2⟩ := h
  have hw : (cs.getD i default).who = (cs.getD j default).who := by
    rw [tw.at_ i hi, tw.at_ j hj] at h2
    exact h2
  refine ⟨?_, hw⟩
  apply Classical.byContradiction
  intro hn
  by_cases e : i = j
  · subst e; omega
  · have b1 := ho.own j i _ _ (by omega) (getD_some hj) (getD_some hi) hw.symm
    have di : σ i < ds.length := by rw [tw.len]; exact tw.rng hi
    have dj : σ j < ds.length := by rw [tw.len]; exact tw.rng hj
    have b2 := ho'.own (σ i) (σ j) _ _ h1 (getD_some di) (getD_some dj) h2
    rw [tw.at_ i hi, tw.at_ j hj] at b2
    have b3 := ho.ends _ (List.mem_of_getElem? (getD_some hi))
    have b4 := ho.ends _ (List.mem_of_getElem? (getD_some hj))
    obtain ⟨b5, b6⟩ := b2
    have b7 : (cs.getD i default).til ≠ -1 := fun e => b5 (sw_none.2 e)
    unfold ret at b6
    simp only at b6
    unfold sw at b6
    revert b6
    (repeat' split) <;> omega
/-- Two events that follow each other, of unlike people, exchanged. -/
theorem swap_own {ts : List Int} {a b : List Ev} {x y : Ev} (hw : x.who ≠ y.who) (h0 : (callsOf ts (a ++ x :: y :: b)).2.2 = 0) :
    (callsOf ts (a ++ y :: x :: b)).2.2 = 0 ∧ (callsOf ts (a ++ y :: x :: b)).1.length = (callsOf ts (a ++ x :: y :: b)).1.length ∧
      ((∃ ws, RiteP ts (callsOf ts (a ++ x :: y :: b)).1 (ownB (callsOf ts (a ++ x :: y :: b)).1) ws) → ∃ ws, RiteP ts (callsOf ts (a ++ y :: x :: b)).1 (ownB (callsOf ts (a ++ y :: x :: b)).1) ws) := by
  have hord := (calls_orderly h0).1
  obtain ⟨hb, hl, e⟩ := calls_zero h0
  have e2 : callsOf ts (a ++ y :: x :: b) = run ts 0 [] (a ++ y :: x :: b) := by
    unfold callsOf
    rw [hb, if_neg (by decide), if_neg (by simp at hl ⊢; omega)]
  have h0' := h0
  rw [e] at h0'
  obtain ⟨r1, σ, tw, _, _⟩ := swap_run hw h0'
  rw [← e2] at r1
  have hord2 := (calls_orderly r1).1
  rw [← e, ← e2] at tw
  exact ⟨r1, tw.len, fun ⟨ws, h⟩ => ⟨_, RiteP.ren tw.len tw.inv (fun i hi => tw.rng hi) (fun i hi => tw.same hi) (fun i j hi hj ha => own_tw tw hord hord2 hi hj ha) h⟩⟩
theorem moves_iff {ts : List Int} {a b : List Ev} {x y : Ev} (hw : x.who ≠ y.who) (h0 : (callsOf ts (a ++ x :: y :: b)).2.2 = 0) :
    (callsOf ts (a ++ y :: x :: b)).2.2 = 0 ∧ (callsOf ts (a ++ y :: x :: b)).1.length = (callsOf ts (a ++ x :: y :: b)).1.length ∧
      ((∃ ws, RiteP ts (callsOf ts (a ++ x :: y :: b)).1 (ownB (callsOf ts (a ++ x :: y :: b)).1) ws) ↔ ∃ ws, RiteP ts (callsOf ts (a ++ y :: x :: b)).1 (ownB (callsOf ts (a ++ y :: x :: b)).1) ws) := by
  obtain ⟨h1, h2, h3⟩ := swap_own hw h0
  exact ⟨h1, h2, h3, (swap_own (fun e => hw e.symm) h1).2.2⟩

/-! ### All calls, one behind the other -/
/-- The call of a step, answered at once. -/
def doneOf (cs : List Cl) (m : Nat) (x : Int × Int) : Cl := ⟨(atC cs x).who, (atC cs x).thing, (atC cs x).kind, (atC cs x).arg, x.2, m, (m : Int) + 1⟩
def doneC (cs : List Cl) : Nat → List (Int × Int) → List Cl
  | _, [] => []
  | m, x :: r => doneOf cs m x :: doneC cs (m + 2) r
def doneE (cs : List Cl) : List (Int × Int) → List Ev
  | [] => []
  | x :: r => ⟨(atC cs x).who, (atC cs x).thing, (atC cs x).kind, (atC cs x).arg⟩ :: ⟨(atC cs x).who, (atC cs x).thing, 0, x.2⟩ :: doneE cs r
theorem doneC_len (cs : List Cl) : ∀ (ws : List (Int × Int)) (m : Nat), (doneC cs m ws).length = ws.length
  | [], _ => rfl
  | x :: r, m => by rw [doneC, List.length_cons, List.length_cons, doneC_len cs r]
theorem doneE_len (cs : List Cl) : ∀ (ws : List (Int × Int)), (doneE cs ws).length = 2 * ws.length
  | [] => rfl
  | x :: r => by rw [doneE, List.length_cons, List.length_cons, List.length_cons, doneE_len cs r]; omega
theorem doneE_snoc (cs : List Cl) (x : Int × Int) : ∀ (ws : List (Int × Int)), doneE cs (ws ++ [x]) = doneE cs ws ++ [⟨(atC cs x).who, (atC cs x).thing, (atC cs x).kind, (atC cs x).arg⟩, ⟨(atC cs x).who, (atC cs x).thing, 0, x.2⟩]
  | [] => rfl
  | y :: r => by rw [List.cons_append, doneE, doneE, doneE_snoc cs x r]; rfl
theorem doneC_at (cs : List Cl) : ∀ (ws : List (Int × Int)) (m i : Nat), i < ws.length → (doneC cs m ws).getD i default = doneOf cs (m + 2 * i) (ws.getD i default)
  | [], m, i, h => by simp at h
  | x :: r, m, 0, h => rfl
  | x :: r, m, i + 1, h => by
    rw [doneC, List.getD_cons_succ, doneC_at cs r (m + 2) i (by simpa using h), List.getD_cons_succ]
    congr 1
    omega
theorem run_done {ts : List Int} {cs : List Cl} : ∀ (ws : List (Int × Int)) (m : Nat) (ds : List Cl), (∀ x ∈ ws, CallOk ts (atC cs x)) → (∀ x ∈ ws, givesB (atC cs x).kind x.2 = true) → (∀ c ∈ ds, c.til ≠ -1) →
    run ts m ds (doneE cs ws) = (ds ++ doneC cs m ws, 0, 0)
  | [], m, ds, _, _, _ => by rw [doneE, run, doneC, List.append_nil]
  | x :: r, m, ds, h1, h2, h3 => by
    have c1 := h1 x List.mem_cons_self
    have c2 := h2 x List.mem_cons_self
    have hk := (fits_kind c1.fits).1
    have hno : openOf ds (atC cs x).who < 0 := by
      apply Classical.byContradiction
      intro hn
      obtain ⟨c, e1, _, e3, _⟩ := openOf_at (cs := ds) (who := (atC cs x).who) (by omega)
      exact h3 c (List.mem_of_getElem? e1) e3
    have s1 : step ts m ds ⟨(atC cs x).who, (atC cs x).thing, (atC cs x).kind, (atC cs x).arg⟩ = .inr (ds ++ [⟨(atC cs x).who, (atC cs x).thing, (atC cs x).kind, (atC cs x).arg, 0, m, -1⟩]) := by
      unfold step
      rw [if_neg (by have := c1.who; have := c1.thing; simp only; omega), if_neg (by simp only; omega)]
      unfold invS
      rw [if_neg (by rw [c1.fits, c1.takes]; simp), if_neg (by simp only; omega)]
    have s2 : step ts (m + 1) (ds ++ [⟨(atC cs x).who, (atC cs x).thing, (atC cs x).kind, (atC cs x).arg, 0, m, -1⟩]) ⟨(atC cs x).who, (atC cs x).thing, 0, x.2⟩ = .inr (ds ++ [doneOf cs m x]) := by
      unfold step
      rw [if_neg (by have := c1.who; have := c1.thing; simp only; omega), if_pos rfl]
      unfold respS
      simp only [openOf_snoc, and_self, if_true, Int.toNat_natCast]
      have hg : (ds ++ [(⟨(atC cs x).who, (atC cs x).thing, (atC cs x).kind, (atC cs x).arg, 0, m, -1⟩ : Cl)]).getD ds.length default = ⟨(atC cs x).who, (atC cs x).thing, (atC cs x).kind, (atC cs x).arg, 0, m, -1⟩ := by
        rw [getD_snoc, if_neg (Nat.lt_irrefl _), if_pos rfl]
      rw [hg]
      simp only [c2]
      rw [if_neg (by omega), if_neg (by simp)]
      congr 1
      rw [List.set_append_right _ _ (Nat.le_refl _), Nat.sub_self]
      rfl
    rw [doneE, run, s1]
    simp only
    rw [run, s2]
    simp only
    rw [run_done r (m + 1 + 1) (ds ++ [doneOf cs m x]) (fun y hy => h1 y (List.mem_cons_of_mem _ hy)) (fun y hy => h2 y (List.mem_cons_of_mem _ hy)) (fun c hc => by
      rcases List.mem_append.1 hc with hc | hc
      · exact h3 c hc
      · rw [List.mem_singleton] at hc
        subst hc
        show (m : Int) + 1 ≠ -1
        omega), doneC, List.append_assoc]
    rfl
/-- Steps numbered anew. -/
def numL (ws : List (Int × Int)) : List (Int × Int) := (List.range ws.length).map fun (i : Nat) => ((i : Int), (ws.getD i default).2)
theorem range_self (ws : List (Int × Int)) : ws = (List.range ws.length).map fun i => ws.getD i default := by
  apply List.ext_getElem
  · simp
  · intro i h1 h2
    rw [List.getElem_map, List.getElem_range, List.getD_eq_getElem?_getD, List.getElem?_eq_getElem h1]
    rfl
theorem goes_gives {ts : List Int} {cs : List Cl} {p : Nat → Nat → Bool} {ws : List (Int × Int)} (h : RiteP ts cs p ws) (hth : ∀ x ∈ ws, 0 ≤ (atC cs x).thing ∧ (atC cs x).thing < ts.length) : ∀ x ∈ ws, givesB (atC cs x).kind x.2 = true := by
  intro x hx
  obtain ⟨a, b, rfl⟩ := List.append_of_mem hx
  have ht := hth x hx
  have hg := h.goes (atC cs x).thing.toNat (by omega)
  rw [ownD_append, goes_append] at hg
  rw [ownD_cons, if_pos rfl, goes_cons] at hg
  obtain ⟨_, g1, g2, _⟩ := hg
  have := step_gives g1
  rw [g2] at this
  exact this
/-- One behind the other they are right. -/
theorem done_rite {ts : List Int} {cs : List Cl} {p : Nat → Nat → Bool} {ws : List (Int × Int)} (h : RiteP ts cs p ws) : Rite ts (doneC cs 0 ws) (numL ws) := by
  have hat : ∀ i, i < ws.length → atC (doneC cs 0 ws) ((i : Int), (ws.getD i default).2) = doneOf cs (2 * i) (ws.getD i default) := fun i hi => by
    unfold atC
    rw [Int.toNat_natCast, doneC_at cs ws 0 i hi, Nat.zero_add]
  have hfst : (numL ws).map (·.1) = (List.range ws.length).map fun (i : Nat) => (i : Int) := by unfold numL; rw [List.map_map]; rfl
  have hln : (numL ws).length = ws.length := by unfold numL; simp
  have hget : ∀ i (hi : i < (numL ws).length), ((numL ws)[i]).1 = (i : Int) := fun i hi => by simp [numL]
  refine ⟨fun x hx => ?_, ?_, fun x hx _ => ?_, fun i hi _ => ?_, fun i j hi hj ha a y b e ey => ?_, fun t ht => ?_⟩
  · obtain ⟨i, hi, rfl⟩ := List.mem_map.1 hx
    have := List.mem_range.1 hi
    rw [doneC_len]
    exact ⟨by simp only; omega, by simp only; omega⟩
  · rw [hfst]
    refine List.pairwise_map.2 (List.Pairwise.imp ?_ (List.nodup_range (n := ws.length)))
    intro a b hab e
    exact hab (Int.ofNat_inj.1 e)
  · obtain ⟨i, hi, rfl⟩ := List.mem_map.1 hx
    rw [hat i (List.mem_range.1 hi)]
    rfl
  · rw [doneC_len] at hi
    rw [hfst]
    exact List.mem_map.2 ⟨i, List.mem_range.2 hi, rfl⟩
  · rw [doneC_len] at hi hj
    unfold aheadB at ha
    rw [decide_eq_true_iff, doneC_at cs ws 0 i hi, doneC_at cs ws 0 j hj] at ha
    unfold doneOf at ha
    simp only at ha
    have hal : a.length < (numL ws).length := by rw [e]; simp
    have h1 := hget a.length hal
    have h2 : (numL ws)[a.length] = y := by simp [e]
    rw [h2, ey] at h1
    have hia : i < a.length := by omega
    refine List.mem_map.2 ⟨a[i], List.getElem_mem _, ?_⟩
    have h3 := hget i (by omega)
    have h4 : (numL ws)[i]'(by omega) = a[i] := by simp [e, List.getElem_append_left, hia]
    rw [h4] at h3
    exact h3
  · have h1 := h.goes t ht
    have key : ownD (doneC cs 0 ws) t (numL ws) = ownD cs t ws := by
      conv => rhs; rw [range_self ws]
      unfold ownD numL
      rw [List.filter_map, List.filter_map, List.map_map, List.map_map]
      have hf : (List.range ws.length).filter ((fun x => (atC (doneC cs 0 ws) x).thing.toNat == t) ∘ fun (i : Nat) => ((i : Int), (ws.getD i default).2)) = (List.range ws.length).filter ((fun x => (atC cs x).thing.toNat == t) ∘ fun i => ws.getD i default) := by
        apply List.filter_congr
        intro i hi
        simp only [Function.comp_apply]
        rw [hat i (List.mem_range.1 hi)]
        rfl
      rw [hf]
      apply List.map_congr_left
      intro i hi
      have := List.mem_range.1 (List.mem_filter.1 hi).1
      simp only [Function.comp_apply]
      unfold ddC
      rw [hat i this]
      rfl
    rw [key]
    exact h1
theorem done_calls {ts : List Int} {l : List Ev} {p : Nat → Nat → Bool} {ws : List (Int × Int)} (h0 : (callsOf ts l).2.2 = 0) (h9 : (callsOf ts l).1.length ≤ 9) (h : RiteP ts (callsOf ts l).1 p ws) :
    ws.length ≤ 9 ∧ callsOf ts (doneE (callsOf ts l).1 ws) = (doneC (callsOf ts l).1 0 ws, 0, 0) ∧ ∃ ws', Rite ts (callsOf ts (doneE (callsOf ts l).1 ws)).1 ws' := by
  have hok := calls_callOk h0
  have hty := (calls_zero h0).1
  have hlen : ws.length ≤ 9 := by
    have h1 := nodup_lt (callsOf ts l).1.length h.once (fun k hk => by
      obtain ⟨x, hx, rfl⟩ := List.mem_map.1 hk
      exact h.rng x hx)
    rw [List.length_map] at h1
    omega
  have hca : ∀ x ∈ ws, CallOk ts (atC (callsOf ts l).1 x) := fun x hx => by
    have hr := h.rng x hx
    exact hok _ (List.mem_of_getElem? (getD_some (by omega)))
  have hrun := run_done (ts := ts) (cs := (callsOf ts l).1) ws 0 [] hca (goes_gives h (fun x hx => (hca x hx).thing)) (fun c hc => by simp at hc)
  have e : callsOf ts (doneE (callsOf ts l).1 ws) = (doneC (callsOf ts l).1 0 ws, 0, 0) := by
    have e1 : callsOf ts (doneE (callsOf ts l).1 ws) = run ts 0 [] (doneE (callsOf ts l).1 ws) := by
      show (if typesB ts = false then _ else if 200 < _ then _ else _) = _
      rw [hty, if_neg (by decide), if_neg (by rw [doneE_len]; omega)]
    rw [e1, hrun, List.nil_append]
  exact ⟨hlen, e, _, by rw [e]; exact done_rite h⟩
end Go.Proofs.YtecpjeililiafaaDoor
