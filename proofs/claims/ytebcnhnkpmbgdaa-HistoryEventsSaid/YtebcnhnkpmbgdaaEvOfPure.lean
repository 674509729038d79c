/-
  Plain mathematics for the reference's EventsOf: events put place by place; the same as history.Events.
-/
import Derived.Test.YtebcnhnkpmbgdaaBackPure
namespace Go.Proofs.Ytebcnhnkpmbgdaa
open Go.RowKit
set_option maxRecDepth 20000

/-- What one more call makes of the types, where its kind is known. -/
def tyStepR (ts : List Int) (c : Cl) : List Int := if (0 ≤ c.thing ∧ c.thing ≤ 3) ∧ kindType c.kind ≠ 0 then ts.set c.thing.toNat (kindType c.kind) else ts
/-- The same behind the types below t. -/
def tyIn (ts : List Int) (c : Cl) (t : Int) : List Int := if (0 ≤ c.thing ∧ c.thing ≤ 3) ∧ kindType c.kind ≠ 0 ∧ kindType c.kind < t then ts.set c.thing.toNat (kindType c.kind) else ts
theorem tyIn_one (ts : List Int) (c : Cl) : tyIn ts c 1 = ts := by
  unfold tyIn
  have := kindType_le c.kind
  rw [if_neg (by omega)]
theorem tyIn_six (ts : List Int) (c : Cl) : tyIn ts c 6 = tyStepR ts c := by
  unfold tyIn tyStepR
  have := kindType_le c.kind
  by_cases h : (0 ≤ c.thing ∧ c.thing ≤ 3) ∧ kindType c.kind ≠ 0
  · rw [if_pos h, if_pos ⟨h.1, h.2, by omega⟩]
  · rw [if_neg h, if_neg (fun h' => h ⟨h'.1, h'.2.1⟩)]
theorem tyIn_set {ts : List Int} {c : Cl} {t : Int} (h1 : 0 ≤ c.thing ∧ c.thing ≤ 3) (ht : 1 ≤ t) (hf : fitsB t c.kind = true) : tyIn ts c (t + 1) = (tyIn ts c t).set c.thing.toNat t := by
  unfold fitsB at hf
  rw [decide_eq_true_iff] at hf
  unfold tyIn
  rw [if_pos ⟨h1, by omega, by omega⟩, if_neg (by omega), hf.2]
theorem tyIn_skip {ts : List Int} {c : Cl} {t : Int} (ht : 1 ≤ t) (h : ¬ (0 ≤ c.thing ∧ c.thing ≤ 3) ∨ fitsB t c.kind = false) : tyIn ts c (t + 1) = tyIn ts c t := by
  unfold tyIn
  by_cases h1 : 0 ≤ c.thing ∧ c.thing ≤ 3
  · have hf : fitsB t c.kind = false := by
      rcases h with h | h
      · exact absurd h1 h
      · exact h
    unfold fitsB at hf
    rw [decide_eq_false_iff_not] at hf
    by_cases h2 : kindType c.kind ≠ 0 ∧ kindType c.kind < t
    · rw [if_pos ⟨h1, h2.1, by omega⟩, if_pos ⟨h1, h2⟩]
    · rw [if_neg (by omega), if_neg (by omega)]
  · rw [if_neg (fun h => h1 h.1), if_neg (fun h => h1 h.1)]
theorem tyStepR_len (ts : List Int) (c : Cl) : (tyStepR ts c).length = ts.length := by unfold tyStepR; split <;> simp
theorem tyIn_len (ts : List Int) (c : Cl) (t : Int) : (tyIn ts c t).length = ts.length := by unfold tyIn; split <;> simp
def typesRL (l : List Cl) : List Int := l.foldl tyStepR [1, 1, 1, 1]
theorem foldR_len : ∀ (l : List Cl) (ts : List Int), (l.foldl tyStepR ts).length = ts.length
  | [], _ => rfl
  | c :: r, ts => by rw [List.foldl_cons, foldR_len r, tyStepR_len]
theorem typesRL_len (l : List Cl) : (typesRL l).length = 4 := foldR_len l _
theorem typesRL_take {l : List Cl} {k : Nat} {c : Cl} (h : l[k]? = some c) : typesRL (l.take (k + 1)) = tyStepR (typesRL (l.take k)) c := by
  unfold typesRL
  rw [List.take_add_one, h, List.foldl_append]
  rfl
theorem foldR_same : ∀ (l : List Cl) (ts : List Int), KindsOk l → l.foldl tyStepR ts = l.foldl tyStep ts
  | [], _, _ => rfl
  | c :: r, ts, h => by
    rw [List.foldl_cons, List.foldl_cons, foldR_same r _ (fun d hd => h d (List.mem_cons_of_mem _ hd))]
    congr 1
    have hc := h c List.mem_cons_self
    have hk : kindType c.kind ≠ 0 := by unfold kindType; (repeat' split) <;> omega
    unfold tyStepR tyStep
    by_cases h1 : 0 ≤ c.thing ∧ c.thing ≤ 3
    · rw [if_pos ⟨h1, hk⟩, if_pos h1]
    · rw [if_neg (fun h => h1 h.1), if_neg h1]

/-- What a call, what calls put at a place. -/
def hitOne (c : Cl) (p : Nat) : List Ev := (if c.frm = (p : Int) then [evInv c] else []) ++ (if c.til = (p : Int) then [evRes c] else [])
def hits (l : List Cl) (p : Nat) : List Ev := l.flatMap fun c => hitOne c p
/-- All that is put at the first places. -/
def gath (l : List Cl) : Nat → List Ev
  | 0 => []
  | m + 1 => gath l m ++ hits l m
def oneUp (l : List Cl) : Nat → Bool
  | 0 => true
  | m + 1 => oneUp l m && decide ((hits l m).length = 1)
/-- What the reference answers: the events and whether they are a history's. -/
def evOfL (l : List Cl) : List Ev × Bool := if oneUp l (placeN l) = true then (gath l (placeN l), decide ((callsOf (typesRL l) (gath l (placeN l))).2.2 = 0 ∧ (callsOf (typesRL l) (gath l (placeN l))).1 = l)) else ([], false)
theorem oneUp_bad {l : List Cl} {p : Nat} (h : (hits l p).length ≠ 1) : ∀ n, p < n → oneUp l n = false
  | 0, hp => by omega
  | n + 1, hp => by
    rw [oneUp]
    by_cases e : p = n
    · subst e
      rw [decide_eq_false h, Bool.and_false]
    · rw [oneUp_bad h n (by omega), Bool.false_and]
theorem hits_append (a b : List Cl) (p : Nat) : hits (a ++ b) p = hits a p ++ hits b p := by unfold hits; rw [List.flatMap_append]
theorem hits_take {l : List Cl} {k : Nat} {c : Cl} (h : l[k]? = some c) (p : Nat) : hits (l.take (k + 1)) p = hits (l.take k) p ++ hitOne c p := by
  rw [List.take_add_one, h, hits_append]
  simp [hits]
/-! ### How many -/
def cntUp (c : Cl) : Nat → Nat
  | 0 => 0
  | m + 1 => cntUp c m + (hitOne c m).length
theorem cntUp_le (c : Cl) : ∀ m : Nat, cntUp c m ≤ (if 0 ≤ c.frm ∧ c.frm < m then 1 else 0) + (if 0 ≤ c.til ∧ c.til < m then 1 else 0)
  | 0 => by simp [cntUp]
  | m + 1 => by
    have ih := cntUp_le c m
    rw [cntUp, hitOne, List.length_append]
    repeat' split at ih
    all_goals repeat' split
    all_goals simp only [List.length_cons, List.length_nil]
    all_goals omega
theorem gath_nil : ∀ m : Nat, gath [] m = []
  | 0 => rfl
  | m + 1 => by rw [gath, gath_nil m]; rfl
theorem gath_cons (c : Cl) (r : List Cl) : ∀ m : Nat, (gath (c :: r) m).length = (gath r m).length + cntUp c m
  | 0 => rfl
  | m + 1 => by
    rw [gath, gath, cntUp, List.length_append, List.length_append, gath_cons c r m, show hits (c :: r) m = hitOne c m ++ hits r m from rfl, List.length_append]
    omega
theorem gath_len : ∀ (l : List Cl) (m : Nat), (gath l m).length ≤ 2 * l.length
  | [], m => by rw [gath_nil]; simp
  | c :: r, m => by
    have h1 := gath_len r m
    have h2 := cntUp_le c m
    rw [gath_cons, List.length_cons]
    repeat' split at h2
    all_goals omega
theorem part_len (l : List Cl) (m k : Nat) : (gath l m ++ hits (l.take k) m).length ≤ 2 * l.length := by
  have h := gath_len l (m + 1)
  have e : hits l m = hits (l.take k) m ++ hits (l.drop k) m := by rw [← hits_append, List.take_append_drop]
  rw [gath, e, List.length_append, List.length_append] at h
  rw [List.length_append]
  omega
theorem gath_one {l : List Cl} : ∀ m : Nat, oneUp l m = true → (gath l m).length = m
  | 0, _ => rfl
  | m + 1, h => by
    rw [oneUp, Bool.and_eq_true, decide_eq_true_iff] at h
    rw [gath, List.length_append, gath_one m h.1, h.2]
/-! ### A history's calls put one event at each place -/
structure Hit (l : List Ev) (n : Nat) (cs : List Cl) : Prop where
  at_ : ∀ (p : Nat) (x : Ev), p < n → l[p]? = some x → hits cs p = [x]
  none : ∀ p : Nat, n ≤ p → hits cs p = []
theorem hit_one_no {c : Cl} {p : Nat} (h1 : c.frm ≠ (p : Int)) (h2 : c.til ≠ (p : Int)) : hitOne c p = [] := by unfold hitOne; rw [if_neg h1, if_neg h2]; rfl
theorem step_hit {ts : List Int} {l : List Ev} {n : Nat} {cs cs' : List Cl} {x : Ev} (ht : Told l n cs) (h : Hit l n cs) (hx : l[n]? = some x) (hs : step ts n cs x = .inr cs') : Hit l (n + 1) cs' := by
  unfold step respS invS at hs
  repeat' split at hs
  all_goals (try cases hs)
  · rename_i h1 h2 h3 h4
    obtain ⟨e, e1, e2, e3, e4⟩ := openOf_at (cs := cs) (who := x.who) (by omega)
    have hg : cs.getD (openOf cs x.who).toNat default = e := by rw [List.getD_eq_getElem?_getD, e1]; rfl
    rw [hg] at h4 ⊢
    have hth : e.thing = x.thing := by
      apply Classical.byContradiction
      intro hne
      exact h4 (.inl hne)
    have hr : evRes { e with res := x.val, til := (n : Int) } = x := Ev.same e2 hth h2.symm rfl
    have hold := ht.inv e (List.mem_of_getElem? e1)
    generalize (openOf cs x.who).toNat = k at e1 e4 ⊢
    have hsp : cs = cs.take k ++ (e :: cs.drop (k + 1)) := by
      have h1 : cs.drop k = e :: cs.drop (k + 1) := by
        rw [List.drop_eq_getElem_cons e4, (List.getElem?_eq_some_iff.1 e1).2]
      rw [← h1, List.take_append_drop]
    have hset : cs.set k { e with res := x.val, til := (n : Int) } = cs.take k ++ ({ e with res := x.val, til := (n : Int) } :: cs.drop (k + 1)) := by
      rw [List.set_eq_take_append_cons_drop, if_pos e4]
    have ha : ∀ p, hits cs p = hits (cs.take k) p ++ (hitOne e p ++ hits (cs.drop (k + 1)) p) := fun p => by
      conv => lhs; rw [hsp]
      rw [hits_append]
      rfl
    have hb : ∀ p, hits (cs.set k { e with res := x.val, til := (n : Int) }) p = hits (cs.take k) p ++ (hitOne { e with res := x.val, til := (n : Int) } p ++ hits (cs.drop (k + 1)) p) := fun p => by
      rw [hset, hits_append]
      rfl
    have hne : ∀ p : Nat, p ≠ n → hitOne { e with res := x.val, til := (n : Int) } p = hitOne e p := fun p hp => by
      unfold hitOne
      simp only
      rw [if_neg (show ¬ (n : Int) = (p : Int) by omega), if_neg (show ¬ e.til = (p : Int) by omega)]
      rfl
    refine ⟨fun p y hp hy => ?_, fun p hp => ?_⟩
    · by_cases e : p = n
      · subst e
        rw [hx] at hy
        injection hy with hy
        subst hy
        have h0 := h.none p (Nat.le_refl _)
        rw [ha, List.append_eq_nil_iff, List.append_eq_nil_iff] at h0
        rw [hb, h0.1, h0.2.2, List.nil_append, List.append_nil]
        unfold hitOne
        simp only
        rw [if_neg (show ¬ e.frm = (p : Int) by omega), if_pos (by trivial), hr]
        rfl
      · rw [hb, hne p e, ← ha]
        exact h.at_ p y (by omega) hy
    · rw [hb, hne p (by omega), ← ha]
      exact h.none p (by omega)
  · rename_i h1 h2 h3 h4
    have hb : ∀ p, hits (cs ++ [⟨x.who, x.thing, x.kind, x.val, 0, (n : Int), -1⟩]) p = hits cs p ++ hitOne ⟨x.who, x.thing, x.kind, x.val, 0, (n : Int), -1⟩ p := fun p => by
      rw [hits_append]
      simp [hits]
    refine ⟨fun p y hp hy => ?_, fun p hp => ?_⟩
    · rw [hb]
      by_cases e : p = n
      · subst e
        rw [hx] at hy
        injection hy with hy
        subst hy
        rw [h.none p (Nat.le_refl _)]
        unfold hitOne
        simp only
        rw [if_pos (by trivial), if_neg (by omega)]
        rfl
      · rw [hit_one_no (by simp only; omega) (by simp only; omega), List.append_nil]
        exact h.at_ p y (by omega) hy
    · rw [hb, h.none p (by omega), hit_one_no (by simp only; omega) (by simp only; omega)]
      rfl
theorem run_hit {ts : List Int} {l : List Ev} : ∀ (r : List Ev) (n : Nat) (cs : List Cl), Told l n cs → Hit l n cs → l.drop n = r → (run ts n cs r).2.2 = 0 → Hit l (n + r.length) (run ts n cs r).1
  | [], n, cs, _, h, _, _ => by simpa [run] using h
  | x :: r, n, cs, ht, h, hd, h0 => by
    have hn : n < l.length := by
      apply Classical.byContradiction
      intro hn
      rw [List.drop_eq_nil_of_le (by omega)] at hd
      cases hd
    rw [List.drop_eq_getElem_cons hn] at hd
    injection hd with hd1 hd2
    rw [run] at h0 ⊢
    cases hs : step ts n cs x with
    | inl e => rw [hs] at h0; exact absurd h0 (step_err hs)
    | inr cs' =>
      rw [hs] at h0
      simp only at h0 ⊢
      have hx : l[n]? = some x := by rw [List.getElem?_eq_getElem hn, hd1]
      have := run_hit r (n + 1) cs' (step_told ht hx hs) (step_hit ht h hx hs) hd2 h0
      rwa [show n + 1 + r.length = n + (x :: r).length by simp only [List.length_cons]; omega] at this
theorem calls_hit {ts : List Int} {l : List Ev} (h : (callsOf ts l).2.2 = 0) : Hit l l.length (callsOf ts l).1 ∧ placeN (callsOf ts l).1 = l.length := by
  obtain ⟨h1, h2, h3⟩ := calls_zero h
  rw [h3] at h ⊢
  have t0 : Told l 0 [] := ⟨rfl, fun c hc => by simp at hc, fun c hc => by simp at hc, fun p hp => by omega⟩
  have ht := run_told (ts := ts) (l := l) l 0 [] t0 (by simp) h
  have hh := run_hit (ts := ts) (l := l) l 0 [] t0 ⟨fun p x hp => by omega, fun p _ => rfl⟩ (by simp) h
  rw [Nat.zero_add] at ht hh
  exact ⟨hh, ht.many⟩
theorem hit_gath {l : List Ev} {cs : List Cl} (h : Hit l l.length cs) : ∀ m, m ≤ l.length → gath cs m = l.take m ∧ oneUp cs m = true
  | 0, _ => ⟨by simp [gath], rfl⟩
  | m + 1, hm => by
    obtain ⟨ih1, ih2⟩ := hit_gath h m (by omega)
    have hx := List.getElem?_eq_getElem (show m < l.length by omega)
    have := h.at_ m _ (by omega) hx
    refine ⟨?_, ?_⟩
    · rw [gath, ih1, this, List.take_add_one, hx]
      rfl
    · rw [oneUp, ih2, this]
      rfl
/-- The reference's answer is history.Events's. -/
theorem evOf_events {l : List Cl} (hl : ¬ 200 < l.length) : ((evOfL l).2 = true ∧ eventsL l = ((evOfL l).1, 0)) ∨ ((evOfL l).2 = false ∧ eventsL l = ([], 3)) := by
  by_cases h : (eventsL l).2 = 0
  · left
    obtain ⟨h1, h2⟩ := calls_events h
    obtain ⟨hh, hn⟩ := calls_hit h1
    rw [h2] at hh hn
    obtain ⟨g1, g2⟩ := hit_gath hh _ (Nat.le_refl _)
    rw [List.take_length] at g1
    have hk := calls_kinds h1
    rw [h2] at hk
    have ht : typesRL l = typesForL l := foldR_same l _ hk
    unfold evOfL
    rw [hn, if_pos g2, g1, ht]
    exact ⟨decide_eq_true ⟨h1, h2⟩, Prod.ext rfl h⟩
  · right
    constructor
    · cases hv : (evOfL l).2
      · rfl
      · exfalso
        unfold evOfL at hv
        split at hv
        · simp only [decide_eq_true_iff] at hv
          have := events_calls hv.1
          rw [hv.2] at this
          rw [this] at h
          exact h rfl
        · cases hv
    · unfold eventsL at h ⊢
      rw [if_neg hl] at h ⊢
      cases hp : placeL l with
      | none => rfl
      | some es =>
        rw [hp] at h
        simp only at h ⊢
        split
        · rename_i hh
          rw [if_pos hh] at h
          exact absurd rfl h
        · rfl
end Go.Proofs.Ytebcnhnkpmbgdaa
