/-
  Joined by a program out of: PartPure, Orderly, CallOk.
-/
import Derived.Test.YthjmncngegchjaaMgAA

/-
  Plain mathematics for parts: the events of one thing of a history are one.
-/
namespace Go.Proofs.Ythjmncngegchjaa
set_option maxRecDepth 20000
/-- What somebody waits for: the thing and the kind. -/
def openK (cs : List Cl) (who : Int) : Option (Int × Int) := if 0 ≤ openOf cs who then some ((cs.getD (openOf cs who).toNat default).thing, (cs.getD (openOf cs who).toNat default).kind) else none
def updK (o : Int → Option (Int × Int)) (who : Int) (v : Option (Int × Int)) : Int → Option (Int × Int) := fun w => if w = who then v else o w
/-- One more event, by what all wait for. -/
def stepK (ts : List Int) (o : Int → Option (Int × Int)) (x : Ev) : Option (Int → Option (Int × Int)) :=
  if ¬ (0 ≤ x.who ∧ x.who ≤ 7) ∨ ¬ (0 ≤ x.thing ∧ x.thing < ts.length) then none
  else if x.kind = 0 then
    match o x.who with
    | none => none
    | some tk => if tk.1 = x.thing ∧ givesB tk.2 x.val = true then some (updK o x.who none) else none
  else if fitsB (ts.getD x.thing.toNat 0) x.kind = true ∧ takesB x.kind x.val = true ∧ o x.who = none then some (updK o x.who (some (x.thing, x.kind))) else none
def runK (ts : List Int) : (Int → Option (Int × Int)) → List Ev → Bool
  | _, [] => true
  | o, x :: r => match stepK ts o x with
    | none => false
    | some o' => runK ts o' r
theorem openK_at {cs : List Cl} (h1 : OneOpen cs) {i : Nat} {c : Cl} (hc : cs[i]? = some c) (ht : c.til = -1) : openK cs c.who = some (c.thing, c.kind) := by
  have := openOf_eq h1 hc rfl ht
  unfold openK
  rw [this, if_pos (by omega), Int.toNat_natCast, List.getD_eq_getElem?_getD, hc]
  rfl
theorem openK_none {cs : List Cl} {who : Int} (h : openOf cs who < 0) : openK cs who = none := by
  unfold openK
  rw [if_neg (by omega)]
theorem openK_ways (cs : List Cl) (who : Int) : (openOf cs who < 0 ∧ openK cs who = none) ∨ ∃ (i : Nat) (c : Cl), cs[i]? = some c ∧ c.who = who ∧ c.til = -1 ∧ openOf cs who = (i : Int) ∧ openK cs who = some (c.thing, c.kind) := by
  by_cases h : 0 ≤ openOf cs who
  · obtain ⟨c, e1, e2, e3, e4⟩ := openOf_at h
    refine .inr ⟨_, c, e1, e2, e3, by omega, ?_⟩
    unfold openK
    rw [if_pos h, List.getD_eq_getElem?_getD, e1]
    rfl
  · exact .inl ⟨by omega, openK_none (by omega)⟩
theorem openK_snoc (cs : List Cl) (c : Cl) (ht : c.til = -1) : openK (cs ++ [c]) = updK (openK cs) c.who (some (c.thing, c.kind)) := by
  funext w
  unfold openK updK
  by_cases e : w = c.who
  · subst e
    have h1 : openOf (cs ++ [c]) c.who = (cs.length : Int) := by rw [openOf_snoc, if_pos ⟨rfl, ht⟩]
    rw [h1, if_pos (by omega), if_pos rfl, Int.toNat_natCast]
    simp
  · have h1 : openOf (cs ++ [c]) w = openOf cs w := by rw [openOf_snoc, if_neg (fun h => e h.1.symm)]
    rw [h1, if_neg e]
    show _ = if 0 ≤ openOf cs w then _ else _
    split
    · have := openOf_lt cs w
      rw [List.getD_eq_getElem?_getD, List.getElem?_append, if_pos (by omega), ← List.getD_eq_getElem?_getD]
    · rfl
theorem openK_set {cs : List Cl} (h : OneOpen cs) {who : Int} (h0 : 0 ≤ openOf cs who) {c : Cl} (hc : c.til ≠ -1) : openK (cs.set (openOf cs who).toNat c) = updK (openK cs) who none := by
  funext w
  unfold openK updK
  rw [openOf_set h h0 hc]
  by_cases e : w = who
  · subst e
    simp
  · rw [if_neg e, if_neg e]
    show _ = if 0 ≤ openOf cs w then _ else _
    by_cases hw : 0 ≤ openOf cs w
    · rw [if_pos hw, if_pos hw]
      have hne : (openOf cs who).toNat ≠ (openOf cs w).toNat := by
        intro he
        obtain ⟨a, a1, a2, a3, a4⟩ := openOf_at h0
        obtain ⟨b, b1, b2, b3, b4⟩ := openOf_at hw
        rw [he, b1] at a1
        injection a1 with a1
        subst a1
        exact e (b2.symm.trans a2)
      rw [List.getD_eq_getElem?_getD, List.getElem?_set, if_neg hne, ← List.getD_eq_getElem?_getD]
    · rw [if_neg hw, if_neg hw]
theorem step_K {ts : List Int} {n : Nat} {cs : List Cl} {x : Ev} (h1 : OneOpen cs) :
    (∃ e, step ts n cs x = .inl e ∧ stepK ts (openK cs) x = none) ∨ (∃ cs', step ts n cs x = .inr cs' ∧ OneOpen cs' ∧ stepK ts (openK cs) x = some (openK cs')) := by
  unfold step stepK
  by_cases hr : ¬ (0 ≤ x.who ∧ x.who ≤ 7) ∨ ¬ (0 ≤ x.thing ∧ x.thing < ts.length)
  · rw [if_pos hr, if_pos hr]; exact .inl ⟨_, rfl, rfl⟩
  · rw [if_neg hr, if_neg hr]
    by_cases hk : x.kind = 0
    · rw [if_pos hk, if_pos hk]
      unfold respS
      rcases openK_ways cs x.who with ⟨a1, a2⟩ | ⟨i, c, b1, b2, b3, b4, b5⟩
      · rw [if_pos a1, a2]; exact .inl ⟨_, rfl, rfl⟩
      · have hg : cs.getD (openOf cs x.who).toNat default = c := by rw [b4, Int.toNat_natCast, List.getD_eq_getElem?_getD, b1]; rfl
        rw [if_neg (by omega), hg, b5]
        simp only
        by_cases hg2 : c.thing = x.thing ∧ givesB c.kind x.val = true
        · rw [if_neg (by rintro (h | h); exact h hg2.1; rw [hg2.2] at h; cases h), if_pos hg2]
          have ht : ({ c with res := x.val, til := (n : Int) } : Cl).til ≠ -1 := by show (n : Int) ≠ -1; omega
          exact .inr ⟨_, rfl, h1.set _ ht, by rw [openK_set h1 (by omega) ht]⟩
        · rw [if_pos (by
            by_cases hq : c.thing = x.thing
            · right
              cases hgv : givesB c.kind x.val
              · rfl
              · exact absurd ⟨hq, hgv⟩ hg2
            · exact .inl hq), if_neg hg2]
          exact .inl ⟨_, rfl, rfl⟩
    · rw [if_neg hk, if_neg hk]
      unfold invS
      by_cases hf : fitsB (ts.getD x.thing.toNat 0) x.kind = true ∧ takesB x.kind x.val = true
      · rw [if_neg (by rintro (h | h); rw [hf.1] at h; cases h; rw [hf.2] at h; cases h)]
        rcases openK_ways cs x.who with ⟨a1, a2⟩ | ⟨i, c, b1, b2, b3, b4, b5⟩
        · rw [if_neg (by omega), a2, if_pos ⟨hf.1, hf.2, rfl⟩]
          exact .inr ⟨_, rfl, h1.snoc a1, by rw [openK_snoc _ _ rfl]⟩
        · rw [if_pos (by omega), b5, if_neg (fun h => by cases h.2.2)]
          exact .inl ⟨_, rfl, rfl⟩
      · rw [if_pos (by
          cases h2 : fitsB (ts.getD x.thing.toNat 0) x.kind
          · exact .inl rfl
          · right
            cases h3 : takesB x.kind x.val
            · rfl
            · exact absurd ⟨h2, h3⟩ hf), if_neg (fun h => hf ⟨h.1, h.2.1⟩)]
        exact .inl ⟨_, rfl, rfl⟩
theorem run_K {ts : List Int} : ∀ (l : List Ev) (n : Nat) (cs : List Cl), OneOpen cs → decide ((run ts n cs l).2.2 = 0) = runK ts (openK cs) l
  | [], n, cs, _ => by simp [run, runK]
  | x :: r, n, cs, h => by
    rw [run, runK]
    rcases step_K (ts := ts) (n := n) (x := x) h with ⟨e, h1, h2⟩ | ⟨cs', h1, h2, h3⟩
    · rw [h1, h2]
      exact decide_eq_false (step_err h1)
    · rw [h1, h3]
      exact run_K r (n + 1) cs' h2
/-- What is waited for of thing q alone. -/
def only (q : Int) (o : Int → Option (Int × Int)) : Int → Option (Int × Int) := fun w => (o w).filter fun tk => tk.1 == q
theorem only_upd (q : Int) (o : Int → Option (Int × Int)) (who : Int) (v : Option (Int × Int)) : only q (updK o who v) = updK (only q o) who (v.filter fun tk => tk.1 == q) := by
  funext w
  unfold only updK
  split <;> rfl
theorem upd_same {o : Int → Option (Int × Int)} {who : Int} {v : Option (Int × Int)} (h : o who = v) : updK o who v = o := by
  funext w
  unfold updK
  split
  · next e => rw [e, h]
  · rfl
theorem stepK_only {ts : List Int} {o o' : Int → Option (Int × Int)} {x : Ev} (q : Int) (h : stepK ts o x = some o') : if x.thing = q then stepK ts (only q o) x = some (only q o') else only q o' = only q o := by
  unfold stepK at h
  split at h
  · cases h
  · rename_i hr
    split at h
    · rename_i hk
      split at h
      · cases h
      · rename_i tk ho
        split at h
        · rename_i hg
          injection h with h
          subst h
          by_cases hq : x.thing = q
          · rw [if_pos hq]
            unfold stepK
            have h2 : only q o x.who = some tk := by
              unfold only
              rw [ho, Option.filter_some, if_pos (by rw [beq_iff_eq, hg.1, hq])]
            rw [if_neg hr, if_pos hk, h2]
            simp only
            rw [if_pos hg, only_upd]
            rfl
          · rw [if_neg hq, only_upd]
            refine upd_same ?_
            unfold only
            rw [ho, Option.filter_some, if_neg (by rw [beq_iff_eq, hg.1]; exact hq)]
            rfl
        · cases h
    · rename_i hk
      split at h
      · rename_i hg
        injection h with h
        subst h
        have h2 : only q o x.who = none := by unfold only; rw [hg.2.2]; rfl
        by_cases hq : x.thing = q
        · rw [if_pos hq]
          unfold stepK
          rw [if_neg hr, if_neg hk, if_pos ⟨hg.1, hg.2.1, h2⟩, only_upd, Option.filter_some, if_pos (by rw [beq_iff_eq]; exact hq)]
        · rw [if_neg hq, only_upd, Option.filter_some, if_neg (by rw [beq_iff_eq]; exact hq)]
          exact upd_same h2
      · cases h
theorem runK_only {ts : List Int} (q : Int) : ∀ (l : List Ev) (o : Int → Option (Int × Int)), runK ts o l = true → runK ts (only q o) (l.filter fun x => x.thing == q) = true
  | [], _, _ => rfl
  | x :: r, o, h => by
    rw [runK] at h
    cases hs : stepK ts o x with
    | none => rw [hs] at h; cases h
    | some o' =>
      rw [hs] at h
      have h2 := stepK_only q hs
      by_cases hq : x.thing = q
      · rw [if_pos hq] at h2
        rw [List.filter_cons_of_pos (by rw [beq_iff_eq]; exact hq), runK, h2]
        exact runK_only q r o' h
      · rw [if_neg hq] at h2
        rw [List.filter_cons_of_neg (by rw [beq_iff_eq]; exact hq), ← h2]
        exact runK_only q r o' h
theorem runK_range {ts : List Int} : ∀ (l : List Ev) (o : Int → Option (Int × Int)), runK ts o l = true → ∀ x ∈ l, 0 ≤ x.thing ∧ x.thing < ts.length
  | [], _, _ => fun x hx => by simp at hx
  | y :: r, o, h => fun x hx => by
    rw [runK] at h
    cases hs : stepK ts o y with
    | none => rw [hs] at h; cases h
    | some o' =>
      rw [hs] at h
      rcases List.mem_cons.1 hx with rfl | hx
      · unfold stepK at hs
        split at hs
        · cases hs
        · rename_i hr
          omega
      · exact runK_range r o' h x hx
/-- The part of thing q of a history is one. -/
def partL (l : List Ev) (q : Int) : List Ev := l.filter fun x => x.thing == q
theorem calls_zero {ts : List Int} {l : List Ev} (h : (callsOf ts l).2.2 = 0) : typesB ts = true ∧ l.length ≤ 200 ∧ callsOf ts l = run ts 0 [] l := by
  unfold callsOf at h ⊢
  cases hb : typesB ts
  · rw [hb, if_pos rfl] at h; cases h
  · rw [hb, if_neg (by decide)] at h
    rw [if_neg (by decide)]
    split at h
    · cases h
    · rename_i hl
      exact ⟨rfl, by omega, if_neg hl⟩
theorem part_ok {ts : List Int} {l : List Ev} (h : (callsOf ts l).2.2 = 0) (q : Int) : (callsOf ts (partL l q)).2.2 = 0 := by
  obtain ⟨h1, h2, h3⟩ := calls_zero h
  have hl : (partL l q).length ≤ l.length := List.length_filter_le _ _
  rw [h3] at h
  unfold callsOf
  rw [h1, if_neg (by decide), if_neg (by omega)]
  have h4 := run_K (ts := ts) l 0 [] OneOpen.nil
  rw [decide_eq_true h] at h4
  have h5 := runK_only (ts := ts) q l _ h4.symm
  have e0 : only q (openK []) = openK [] := by
    funext w
    unfold only
    rw [openK_none (cs := []) (who := w) (by show (-1 : Int) < 0; decide)]
    rfl
  rw [e0] at h5
  have h6 := run_K (ts := ts) (partL l q) 0 [] OneOpen.nil
  unfold partL at h6 ⊢
  rw [h5] at h6
  exact of_decide_eq_true h6
theorem part_range {ts : List Int} {l : List Ev} (h : (callsOf ts l).2.2 = 0) : ∀ x ∈ l, 0 ≤ x.thing ∧ x.thing < ts.length := by
  obtain ⟨h1, h2, h3⟩ := calls_zero h
  rw [h3] at h
  have h4 := run_K (ts := ts) l 0 [] OneOpen.nil
  rw [decide_eq_true h] at h4
  exact runK_range l _ h4.symm
/-- How many events the first k parts have. -/
def partsUp (l : List Ev) : Nat → Nat
  | 0 => 0
  | k + 1 => partsUp l k + (partL l (k : Int)).length
theorem partsUp_cons (x : Ev) (r : List Ev) : ∀ k : Nat, 0 ≤ x.thing → partsUp (x :: r) k = partsUp r k + if x.thing < (k : Int) then 1 else 0
  | 0, h => by rw [if_neg (by omega)]; rfl
  | k + 1, h => by
    rw [partsUp, partsUp, partsUp_cons x r k h]
    unfold partL
    by_cases e : x.thing = (k : Int)
    · rw [List.filter_cons_of_pos (by rw [beq_iff_eq]; exact e), if_neg (by omega), if_pos (by omega), List.length_cons]
      omega
    · rw [List.filter_cons_of_neg (by rw [beq_iff_eq]; exact e)]
      by_cases e2 : x.thing < (k : Int)
      · rw [if_pos e2, if_pos (by omega)]; omega
      · rw [if_neg e2, if_neg (by omega)]; omega
theorem partsUp_all : ∀ (l : List Ev) (k : Nat), (∀ x ∈ l, 0 ≤ x.thing ∧ x.thing < (k : Int)) → partsUp l k = l.length
  | [], k, _ => by
    have : ∀ k, partsUp [] k = 0 := by
      intro k
      induction k with
      | zero => rfl
      | succ k ih => rw [partsUp, ih]; rfl
    exact this k
  | x :: r, k, h => by
    have h1 := h x List.mem_cons_self
    rw [partsUp_cons x r k h1.1, if_pos h1.2, partsUp_all r k (fun y hy => h y (List.mem_cons_of_mem _ hy)), List.length_cons]
end Go.Proofs.Ythjmncngegchjaa

/-
  Plain mathematics: the calls of a history: each ends behind its begin; one's own stand one ahead of the next.
-/
namespace Go.Proofs.Ythjmncngegchjaa
set_option maxRecDepth 20000
/-- Calls of a history: each ends behind its begin; one's own stand one ahead of the next. -/
structure Orderly (n : Nat) (cs : List Cl) : Prop where
  tidy : Tidy n cs
  ends : ∀ c ∈ cs, c.til = -1 ∨ c.frm < c.til
  own : ∀ (i j : Nat) (c d : Cl), i < j → cs[i]? = some c → cs[j]? = some d → c.who = d.who → c.til ≠ -1 ∧ c.til < d.frm
theorem step_orderly {ts : List Int} {n : Nat} {cs cs' : List Cl} {x : Ev} (h : Orderly n cs) (hs : step ts n cs x = .inr cs') : Orderly (n + 1) cs' := by
  refine ⟨step_tidy h.tidy hs, ?_, ?_⟩
  · unfold step respS invS at hs
    repeat' split at hs
    all_goals (try cases hs)
    · obtain ⟨e, e1, _, _, e4⟩ := openOf_at (cs := cs) (who := x.who) (by omega)
      have hg : cs.getD (openOf cs x.who).toNat default = e := by rw [List.getD_eq_getElem?_getD, e1]; rfl
      intro c hc
      rcases List.mem_or_eq_of_mem_set hc with hc | rfl
      · exact h.ends c hc
      · rw [hg]
        right
        show e.frm < (n : Int)
        exact (h.tidy e (List.mem_of_getElem? e1)).2.1
    · intro c hc
      rcases List.mem_append.1 hc with hc | hc
      · exact h.ends c hc
      · rw [List.mem_singleton] at hc
        subst hc
        exact .inl rfl
  · unfold step respS invS at hs
    repeat' split at hs
    all_goals (try cases hs)
    · obtain ⟨e, e1, _, e3, e4⟩ := openOf_at (cs := cs) (who := x.who) (by omega)
      have hg : cs.getD (openOf cs x.who).toNat default = e := by rw [List.getD_eq_getElem?_getD, e1]; rfl
      rw [hg]
      intro i j c d hij hc hd hw
      rw [List.getElem?_set] at hc hd
      split at hc
      · rename_i hi
        subst hi
        injection hc with hc
        subst hc
        rw [if_neg (by omega)] at hd
        exact absurd e3 (h.own _ j e d hij e1 hd hw).1
      · split at hd
        · rename_i hj
          subst hj
          injection hd with hd
          subst hd
          exact h.own i _ c e hij hc e1 hw
        · exact h.own i j c d hij hc hd hw
    · intro i j c d hij hc hd hw
      have hjl := (List.getElem?_eq_some_iff.1 hd).1
      rw [List.length_append] at hjl
      simp only [List.length_cons, List.length_nil] at hjl
      rw [List.getElem?_append, if_pos (by omega)] at hc
      rw [List.getElem?_append] at hd
      split at hd
      · exact h.own i j c d hij hc hd hw
      · have : j - cs.length = 0 := by omega
        rw [this] at hd
        simp at hd
        subst hd
        have h1 := openOf_none (cs := cs) (who := x.who) (by omega) hc hw
        exact ⟨h1, (h.tidy c (List.mem_of_getElem? hc)).1⟩
theorem run_orderly {ts : List Int} : ∀ (l : List Ev) (n : Nat) (cs : List Cl), Orderly n cs → (run ts n cs l).2.2 = 0 → Orderly (n + l.length) (run ts n cs l).1
  | [], n, cs, h, _ => by simpa [run] using h
  | x :: r, n, cs, h, h0 => by
    rw [run] at h0 ⊢
    cases hs : step ts n cs x with
    | inl e => rw [hs] at h0; exact absurd h0 (step_err hs)
    | inr cs' =>
      rw [hs] at h0
      simp only at h0 ⊢
      have := run_orderly r (n + 1) cs' (step_orderly h hs) h0
      rwa [show n + 1 + r.length = n + (x :: r).length by simp only [List.length_cons]; omega] at this
theorem calls_orderly {ts : List Int} {l : List Ev} (h : (callsOf ts l).2.2 = 0) : Orderly l.length (callsOf ts l).1 ∧ l.length ≤ 200 := by
  unfold callsOf at h ⊢
  cases hb : typesB ts
  · rw [hb, if_pos rfl] at h; cases h
  · rw [hb, if_neg (by decide)] at h
    rw [if_neg (by decide)]
    split at h
    · cases h
    · rename_i hl
      rw [if_neg hl]
      have := run_orderly (ts := ts) l 0 [] ⟨fun c hc => by simp at hc, fun c hc => by simp at hc, fun i j c d _ hc => by simp at hc⟩ h
      rw [Nat.zero_add] at this
      exact ⟨this, by omega⟩
end Go.Proofs.Ythjmncngegchjaa

/-
  Plain: what is known of each call of a history.
-/
namespace Go.Proofs.Ythjmncngegchjaa
open Go.RowKit
set_option maxRecDepth 20000
theorem getD_some {cs : List Cl} {i : Nat} (h : i < cs.length) : cs[i]? = some (cs.getD i default) := by
  rw [List.getD_eq_getElem?_getD, List.getElem?_eq_getElem h]
  rfl
structure CallOk (ts : List Int) (c : Cl) : Prop where
  who : 0 ≤ c.who ∧ c.who ≤ 7
  thing : 0 ≤ c.thing ∧ c.thing < ts.length
  fits : fitsB (ts.getD c.thing.toNat 0) c.kind = true
  takes : takesB c.kind c.arg = true
theorem step_callOk {ts : List Int} {n : Nat} {cs cs' : List Cl} {x : Ev} (h : ∀ c ∈ cs, CallOk ts c) (hs : step ts n cs x = .inr cs') : ∀ c ∈ cs', CallOk ts c := by
  unfold step at hs
  split at hs
  · cases hs
  · rename_i hr
    split at hs
    · unfold respS at hs
      split at hs
      · cases hs
      · rename_i ho
        split at hs
        · cases hs
        · injection hs with hs
          subst hs
          intro c hc
          rcases List.mem_or_eq_of_mem_set hc with hc | rfl
          · exact h c hc
          · obtain ⟨d, e1, e2, e3, e4⟩ := openOf_at (cs := cs) (who := x.who) (by omega)
            have := h _ (List.mem_of_getElem? (getD_some e4))
            exact ⟨this.who, this.thing, this.fits, this.takes⟩
    · unfold invS at hs
      split at hs
      · cases hs
      · rename_i hg
        split at hs
        · cases hs
        · injection hs with hs
          subst hs
          intro c hc
          rcases List.mem_append.1 hc with hc | hc
          · exact h c hc
          · rw [List.mem_singleton] at hc
            subst hc
            refine ⟨?_, ?_, ?_, ?_⟩
            · exact Classical.byContradiction fun hn => hr (.inl hn)
            · exact Classical.byContradiction fun hn => hr (.inr hn)
            · exact Classical.byContradiction fun hn => hg (.inl (by simpa using hn))
            · exact Classical.byContradiction fun hn => hg (.inr (by simpa using hn))
theorem run_callOk {ts : List Int} : ∀ (l : List Ev) (n : Nat) (cs : List Cl), (∀ c ∈ cs, CallOk ts c) → (run ts n cs l).2.2 = 0 → ∀ c ∈ (run ts n cs l).1, CallOk ts c
  | [], _, _, h, _ => h
  | x :: r, n, cs, h, h0 => by
    rw [run] at h0 ⊢
    cases hs : step ts n cs x with
    | inl e => rw [hs] at h0; exact absurd h0 (step_err hs)
    | inr cs' =>
      rw [hs] at h0
      exact run_callOk r (n + 1) cs' (step_callOk h hs) h0
theorem calls_callOk {ts : List Int} {l : List Ev} (h : (callsOf ts l).2.2 = 0) : ∀ c ∈ (callsOf ts l).1, CallOk ts c := by
  obtain ⟨_, _, e⟩ := calls_zero h
  rw [e] at h ⊢
  exact run_callOk l 0 [] (fun c hc => by simp at hc) h
/-- What one event does, if it may be: an answer, or a call. -/
theorem step_ways {ts : List Int} {n : Nat} {cs cs' : List Cl} {x : Ev} (hs : step ts n cs x = .inr cs') :
    (x.kind = 0 ∧ ∃ i, i < cs.length ∧ openOf cs x.who = (i : Int) ∧ (cs.getD i default).who = x.who ∧ (cs.getD i default).til = -1 ∧ cs' = cs.set i { cs.getD i default with res := x.val, til := n } ∧
      (∀ (m : Nat) (ds : List Cl) (j : Nat) (d : Cl), openOf ds x.who = (j : Int) → ds.getD j default = d → d.thing = (cs.getD i default).thing → d.kind = (cs.getD i default).kind → step ts m ds x = .inr (ds.set j { d with res := x.val, til := m }))) ∨
    (x.kind ≠ 0 ∧ openOf cs x.who < 0 ∧ cs' = cs ++ [⟨x.who, x.thing, x.kind, x.val, 0, n, -1⟩] ∧
      (∀ (m : Nat) (ds : List Cl), openOf ds x.who < 0 → step ts m ds x = .inr (ds ++ [⟨x.who, x.thing, x.kind, x.val, 0, m, -1⟩]))) := by
  unfold step at hs
  split at hs
  · cases hs
  · rename_i hr
    split at hs
    · rename_i hk
      left
      unfold respS at hs
      split at hs
      · cases hs
      · rename_i ho
        split at hs
        · cases hs
        · rename_i hg
          injection hs with hs
          obtain ⟨c, e1, e2, e3, e4⟩ := openOf_at (cs := cs) (who := x.who) (by omega)
          have hgd : cs.getD (openOf cs x.who).toNat default = c := by rw [List.getD_eq_getElem?_getD, e1]; rfl
          refine ⟨hk, (openOf cs x.who).toNat, e4, by omega, by rw [hgd]; exact e2, by rw [hgd]; exact e3, hs.symm, fun m ds j d o1 o2 o3 o4 => ?_⟩
          unfold step
          rw [if_neg hr, if_pos hk]
          unfold respS
          rw [if_neg (by omega), o1, Int.toNat_natCast, o2, if_neg (by rw [o3, o4]; exact hg)]
    · rename_i hk
      right
      unfold invS at hs
      split at hs
      · cases hs
      · rename_i hg
        split at hs
        · cases hs
        · rename_i ho
          injection hs with hs
          refine ⟨hk, by omega, hs.symm, fun m ds o1 => ?_⟩
          unfold step
          rw [if_neg hr, if_neg hk]
          unfold invS
          rw [if_neg hg, if_neg (by omega)]
end Go.Proofs.Ythjmncngegchjaa
