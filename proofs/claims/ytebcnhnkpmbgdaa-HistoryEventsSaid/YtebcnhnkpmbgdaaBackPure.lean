/-
  Plain mathematics for the law HistoryBack: the events of the calls of a history are these.
-/
import Derived.Test.YtebcnhnkpmbgdaaEvents
import Derived.Test.YtebcnhnkpmbgdaaFrontPure
import Derived.Test.YtebcnhnkpmbgdaaPartPure
import Derived.Test.YtebcnhnkpmbgdaaCallsOf
namespace Go.Proofs.Ytebcnhnkpmbgdaa
set_option maxRecDepth 20000

/-- The calls so far say just what the first n events are. -/
structure Told (l : List Ev) (n : Nat) (cs : List Cl) : Prop where
  many : placeN cs = n
  inv : ∀ c ∈ cs, 0 ≤ c.frm ∧ c.frm < n ∧ l[c.frm.toNat]? = some (evInv c)
  res : ∀ c ∈ cs, c.til = -1 ∨ (0 ≤ c.til ∧ c.til < n ∧ l[c.til.toNat]? = some (evRes c))
  all : ∀ p, p < n → ∃ c ∈ cs, c.frm = (p : Int) ∨ c.til = (p : Int)
theorem ansUp_set : ∀ (cs : List Cl) (k : Nat) (c d : Cl), cs[k]? = some c → c.til = -1 → d.til ≠ -1 → ansUp (cs.set k d) = ansUp cs + 1
  | [], k, c, d, h, _, _ => by simp at h
  | z :: r, 0, c, d, h, h1, h2 => by
    simp at h
    subst h
    rw [List.set_cons_zero, ansUp, ansUp, if_pos h2, if_neg (fun h => h h1)]
    omega
  | z :: r, k + 1, c, d, h, h1, h2 => by
    have h' : r[k]? = some c := by simpa using h
    rw [List.set_cons_succ, ansUp, ansUp, ansUp_set r k c d h' h1 h2]
    omega
theorem step_told {ts : List Int} {l : List Ev} {n : Nat} {cs cs' : List Cl} {x : Ev} (h : Told l n cs) (hx : l[n]? = some x) (hs : step ts n cs x = .inr cs') : Told l (n + 1) cs' := by
  unfold step respS invS at hs
  repeat' split at hs
  all_goals (try cases hs)
  · rename_i h1 h2 h3 h4
    obtain ⟨e, e1, e2, e3, e4⟩ := openOf_at (cs := cs) (who := x.who) (by omega)
    have hg : cs.getD (openOf cs x.who).toNat default = e := by rw [List.getD_eq_getElem?_getD, e1]; rfl
    rw [hg] at h4 ⊢
    have hth : e.thing = x.thing := by
      apply Classical.byContradiction
      intro hne
      exact h4 (.inl hne)
    have hr : evRes { e with res := x.val, til := (n : Int) } = x := Ev.same e2 hth h2.symm rfl
    have hold := h.inv e (List.mem_of_getElem? e1)
    refine ⟨?_, fun c hc => ?_, fun c hc => ?_, fun p hp => ?_⟩
    · have := h.many
      unfold placeN at this ⊢
      rw [List.length_set, ansUp_set cs _ e _ e1 e3 (by show (n : Int) ≠ -1; omega)]
      omega
    · rcases List.mem_or_eq_of_mem_set hc with hc | rfl
      · have := h.inv c hc
        exact ⟨this.1, by omega, this.2.2⟩
      · exact ⟨hold.1, by show e.frm < _; omega, hold.2.2⟩
    · rcases List.mem_or_eq_of_mem_set hc with hc | rfl
      · rcases h.res c hc with hh | hh
        · exact .inl hh
        · exact .inr ⟨hh.1, by omega, hh.2.2⟩
      · right
        refine ⟨by show (0 : Int) ≤ n; omega, by show (n : Int) < _; omega, ?_⟩
        rw [hr]
        show l[(n : Int).toNat]? = _
        rw [Int.toNat_natCast]
        exact hx
    · by_cases hpn : p = n
      · subst hpn
        exact ⟨_, List.mem_set e4 _, .inr rfl⟩
      · obtain ⟨c, hc, hpc⟩ := h.all p (by omega)
        obtain ⟨i, hi, rfl⟩ := List.getElem_of_mem hc
        by_cases hio : i = (openOf cs x.who).toNat
        · refine ⟨_, List.mem_set e4 _, .inl ?_⟩
          have he : cs[i] = e := by
            rw [List.getElem?_eq_getElem e4] at e1
            injection e1 with e1
            rw [← e1]
            congr 1
          rw [he] at hpc
          rcases hpc with hpc | hpc
          · exact hpc
          · omega
        · refine ⟨cs[i], ?_, hpc⟩
          have : (cs.set (openOf cs x.who).toNat { e with res := x.val, til := (n : Int) })[i]? = some cs[i] := by
            rw [List.getElem?_set, if_neg (fun h => hio h.symm), List.getElem?_eq_getElem hi]
          exact List.mem_of_getElem? this
  · rename_i h1 h2 h3 h4
    refine ⟨?_, fun c hc => ?_, fun c hc => ?_, fun p hp => ?_⟩
    · have := h.many
      unfold placeN at this ⊢
      rw [ansUp_append]
      simp [ansUp]
      omega
    · rcases List.mem_append.1 hc with hc | hc
      · have := h.inv c hc
        exact ⟨this.1, by omega, this.2.2⟩
      · rw [List.mem_singleton] at hc
        subst hc
        refine ⟨by show (0 : Int) ≤ n; omega, by show (n : Int) < _; omega, ?_⟩
        show l[(n : Int).toNat]? = _
        rw [Int.toNat_natCast, hx]
        rfl
    · rcases List.mem_append.1 hc with hc | hc
      · rcases h.res c hc with hh | hh
        · exact .inl hh
        · exact .inr ⟨hh.1, by omega, hh.2.2⟩
      · rw [List.mem_singleton] at hc
        subst hc
        exact .inl rfl
    · by_cases hpn : p = n
      · subst hpn
        exact ⟨_, List.mem_append.2 (.inr (List.mem_singleton.2 rfl)), .inl rfl⟩
      · obtain ⟨c, hc, hpc⟩ := h.all p (by omega)
        exact ⟨c, List.mem_append.2 (.inl hc), hpc⟩
theorem run_told {ts : List Int} {l : List Ev} : ∀ (r : List Ev) (n : Nat) (cs : List Cl), Told l n cs → l.drop n = r → (run ts n cs r).2.2 = 0 → Told l (n + r.length) (run ts n cs r).1
  | [], n, cs, h, _, _ => by simpa [run] using h
  | x :: r, n, cs, h, hd, h0 => by
    have hn : n < l.length := by
      apply Classical.byContradiction
      intro hn
      rw [List.drop_eq_nil_of_le (by omega)] at hd
      cases hd
    rw [List.drop_eq_getElem_cons hn] at hd
    injection hd with hd1 hd2
    rw [run] at h0 ⊢
    cases hs : step ts n cs x with
    | inl e => rw [hs] at h0; exact absurd h0 (step_err hs)
    | inr cs' =>
      rw [hs] at h0
      simp only at h0 ⊢
      have := run_told r (n + 1) cs' (step_told h (by rw [List.getElem?_eq_getElem hn, hd1]) hs) hd2 h0
      rwa [show n + 1 + r.length = n + (x :: r).length by simp only [List.length_cons]; omega] at this

/-- Writing what is there already, or is to be there. -/
theorem placeUp_told {n : Nat} (l : List Ev) : ∀ (cs : List Cl) (es : List Ev), es.length = n → l.length = n →
    (∀ c ∈ cs, 0 ≤ c.frm ∧ c.frm < n ∧ l[c.frm.toNat]? = some (evInv c)) → (∀ c ∈ cs, c.til = -1 ∨ (0 ≤ c.til ∧ c.til < n ∧ l[c.til.toNat]? = some (evRes c))) →
    ∃ es', placeUp n es cs = some es' ∧ es'.length = n ∧ ∀ p, p < n → (es[p]? = l[p]? ∨ ∃ c ∈ cs, c.frm = (p : Int) ∨ c.til = (p : Int)) → es'[p]? = l[p]?
  | [], es, h1, _, _, _ => ⟨es, rfl, h1, fun p _ hp => by
      rcases hp with hp | ⟨c, hc, _⟩
      · exact hp
      · simp at hc⟩
  | c :: r, es, h1, h2, h3, h4 => by
    have hc3 := h3 c List.mem_cons_self
    have hc4 := h4 c List.mem_cons_self
    have g1 : btw 0 c.frm ((n : Int) - 1) = true := btw_iff.2 (by omega)
    have g2 : btw (-1) c.til ((n : Int) - 1) = true := btw_iff.2 (by omega)
    obtain ⟨es', e1, e2, e3⟩ := placeUp_told l r (putOne es c) (by rw [putOne_len]; exact h1) h2 (fun d hd => h3 d (List.mem_cons_of_mem _ hd)) (fun d hd => h4 d (List.mem_cons_of_mem _ hd))
    refine ⟨es', ?_, e2, fun p hp hpp => e3 p hp ?_⟩
    · rw [placeUp, g1, g2, if_neg (by simp)]
      exact e1
    · -- behind the one step position p is right, or it is one of the rest's
      have key : ∀ q : Nat, q < n → (es[q]? = l[q]? ∨ c.frm = (q : Int) ∨ c.til = (q : Int)) → (putOne es c)[q]? = l[q]? := by
        intro q hq hor
        unfold putOne
        have hset : (es.set c.frm.toNat (evInv c))[q]? = l[q]? ∨ (¬ c.frm = (q : Int) ∧ (es.set c.frm.toNat (evInv c))[q]? = es[q]?) := by
          by_cases e : c.frm = (q : Int)
          · left
            have hq2 : c.frm.toNat = q := by omega
            rw [hq2, List.getElem?_set_self (by omega), ← hc3.2.2, hq2]
          · right
            exact ⟨e, by rw [List.getElem?_set, if_neg (by omega)]⟩
        split
        · rename_i ht
          rcases hc4 with hc4 | hc4
          · exact absurd hc4 ht
          · by_cases e : c.til = (q : Int)
            · have hq2 : c.til.toNat = q := by omega
              rw [hq2, List.getElem?_set_self (by rw [List.length_set]; omega), ← hc4.2.2, hq2]
            · rw [List.getElem?_set, if_neg (by omega)]
              rcases hset with hset | ⟨hne, hset⟩
              · exact hset
              · rw [hset]
                rcases hor with hor | hor | hor
                · exact hor
                · exact absurd hor hne
                · exact absurd hor e
        · rename_i ht
          rcases hset with hset | ⟨hne, hset⟩
          · exact hset
          · rw [hset]
            rcases hor with hor | hor | hor
            · exact hor
            · exact absurd hor hne
            · omega
      rcases hpp with hpp | ⟨d, hd, hpp⟩
      · exact .inl (key p hp (.inl hpp))
      · rcases List.mem_cons.1 hd with rfl | hd
        · exact .inl (key p hp (.inr hpp))
        · exact .inr ⟨d, hd, hpp⟩
theorem place_told {ts : List Int} {l : List Ev} (h : (callsOf ts l).2.2 = 0) : placeL (callsOf ts l).1 = some l := by
  obtain ⟨h1, h2, h3⟩ := calls_zero h
  rw [h3] at h ⊢
  have ht := run_told (ts := ts) (l := l) l 0 [] ⟨rfl, fun c hc => by simp at hc, fun c hc => by simp at hc, fun p hp => by omega⟩ (by simp) h
  rw [Nat.zero_add] at ht
  unfold placeL
  rw [ht.many]
  obtain ⟨es', e1, e2, e3⟩ := placeUp_told l (run ts 0 [] l).1 (List.replicate l.length default) (by simp) rfl ht.inv ht.res
  rw [e1]
  congr 1
  apply List.ext_getElem? 
  intro p
  by_cases hp : p < l.length
  · exact e3 p hp (.inr (ht.all p hp))
  · rw [List.getElem?_eq_none (by omega), List.getElem?_eq_none (by omega)]
/-! ### With the types that the calls ask for -/
/-- Each call's kind is of the type of its thing. -/
def TyOk (ts : List Int) (cs : List Cl) : Prop := ∀ c ∈ cs, 0 ≤ c.thing ∧ c.thing < ts.length ∧ kindType c.kind = ts.getD c.thing.toNat 0
/-- The calls stand yet, answered or not. -/
def Kept (cs ds : List Cl) : Prop := ∀ c ∈ cs, ∃ d ∈ ds, d.thing = c.thing ∧ d.kind = c.kind
theorem Kept.refl (cs : List Cl) : Kept cs cs := fun c hc => ⟨c, hc, rfl, rfl⟩
theorem Kept.trans {a b c : List Cl} (h1 : Kept a b) (h2 : Kept b c) : Kept a c := fun x hx => by
  obtain ⟨y, hy, e1, e2⟩ := h1 x hx
  obtain ⟨z, hz, f1, f2⟩ := h2 y hy
  exact ⟨z, hz, f1.trans e1, f2.trans e2⟩
theorem step_kept {ts : List Int} {n : Nat} {cs cs' : List Cl} {x : Ev} (h : TyOk ts cs) (hs : step ts n cs x = .inr cs') : Kept cs cs' ∧ TyOk ts cs' := by
  unfold step respS invS at hs
  repeat' split at hs
  all_goals (try cases hs)
  · rename_i h1 h2 h3 h4
    obtain ⟨e, e1, _, _, e4⟩ := openOf_at (cs := cs) (who := x.who) (by omega)
    have hg : cs.getD (openOf cs x.who).toNat default = e := by rw [List.getD_eq_getElem?_getD, e1]; rfl
    rw [hg]
    have hem := List.mem_of_getElem? e1
    refine ⟨fun c hc => ?_, fun c hc => ?_⟩
    · obtain ⟨i, hi, rfl⟩ := List.getElem_of_mem hc
      by_cases hio : i = (openOf cs x.who).toNat
      · refine ⟨_, List.mem_set e4 _, ?_⟩
        have he : cs[i] = e := by
          rw [List.getElem?_eq_getElem e4] at e1
          injection e1 with e1
          rw [← e1]
          congr 1
        rw [he]
        exact ⟨rfl, rfl⟩
      · refine ⟨cs[i], ?_, rfl, rfl⟩
        have : (cs.set (openOf cs x.who).toNat { e with res := x.val, til := (n : Int) })[i]? = some cs[i] := by
          rw [List.getElem?_set, if_neg (fun h => hio h.symm), List.getElem?_eq_getElem hi]
        exact List.mem_of_getElem? this
    · rcases List.mem_or_eq_of_mem_set hc with hc | rfl
      · exact h c hc
      · exact h e hem
  · rename_i h1 h2 h3 h4
    have hf : fitsB (ts.getD x.thing.toNat 0) x.kind = true := by
      cases hf : fitsB (ts.getD x.thing.toNat 0) x.kind
      · exact absurd (Or.inl hf) h3
      · rfl
    refine ⟨fun c hc => ⟨c, List.mem_append.2 (.inl hc), rfl, rfl⟩, fun c hc => ?_⟩
    rcases List.mem_append.1 hc with hc | hc
    · exact h c hc
    · rw [List.mem_singleton] at hc
      subst hc
      unfold fitsB at hf
      rw [decide_eq_true_iff] at hf
      refine ⟨?_, ?_, hf.2.symm⟩
      · show 0 ≤ x.thing; omega
      · show x.thing < _; omega
theorem run_kept {ts : List Int} : ∀ (l : List Ev) (n : Nat) (cs : List Cl), TyOk ts cs → (run ts n cs l).2.2 = 0 → Kept cs (run ts n cs l).1 ∧ TyOk ts (run ts n cs l).1
  | [], n, cs, h, _ => by rw [run]; exact ⟨Kept.refl _, h⟩
  | x :: r, n, cs, h, h0 => by
    rw [run] at h0 ⊢
    cases hs : step ts n cs x with
    | inl e => rw [hs] at h0; exact absurd h0 (step_err hs)
    | inr cs' =>
      rw [hs] at h0
      simp only at h0 ⊢
      obtain ⟨k1, k2⟩ := step_kept h hs
      obtain ⟨k3, k4⟩ := run_kept r (n + 1) cs' k2 h0
      exact ⟨k1.trans k3, k4⟩
theorem step_types {ts T : List Int} {n : Nat} {cs cs' : List Cl} {x : Ev} (hl : ts.length ≤ T.length) (hT : ∀ d ∈ cs', T.getD d.thing.toNat 0 = ts.getD d.thing.toNat 0) (hs : step ts n cs x = .inr cs') : step T n cs x = .inr cs' := by
  rw [← hs]
  unfold step at hs ⊢
  by_cases h1 : ¬ (0 ≤ x.who ∧ x.who ≤ 7) ∨ ¬ (0 ≤ x.thing ∧ x.thing < ts.length)
  · rw [if_pos h1] at hs; cases hs
  · rw [if_neg h1] at hs ⊢
    rw [if_neg (by omega)]
    by_cases h2 : x.kind = 0
    · rw [if_pos h2, if_pos h2]
    · rw [if_neg h2] at hs ⊢
      rw [if_neg h2]
      have : T.getD x.thing.toNat 0 = ts.getD x.thing.toNat 0 := by
        unfold invS at hs
        repeat' split at hs
        all_goals (try cases hs)
        exact hT ⟨x.who, x.thing, x.kind, x.val, 0, n, -1⟩ (List.mem_append.2 (.inr (List.mem_singleton.2 rfl)))
      unfold invS
      rw [this]
theorem run_types {ts T : List Int} (hl : ts.length ≤ T.length) : ∀ (l : List Ev) (n : Nat) (cs : List Cl), TyOk ts cs → (run ts n cs l).2.2 = 0 →
    (∀ d ∈ (run ts n cs l).1, T.getD d.thing.toNat 0 = ts.getD d.thing.toNat 0) → run T n cs l = run ts n cs l
  | [], n, cs, _, _, _ => by rw [run, run]
  | x :: r, n, cs, h, h0, hT => by
    rw [run, run]
    rw [run] at h0 hT
    cases hs : step ts n cs x with
    | inl e => rw [hs] at h0; exact absurd h0 (step_err hs)
    | inr cs' =>
      rw [hs] at h0 hT
      simp only at h0 hT ⊢
      obtain ⟨k1, k2⟩ := step_kept h hs
      obtain ⟨k3, k4⟩ := run_kept r (n + 1) cs' k2 h0
      have : step T n cs x = .inr cs' := step_types hl (fun d hd => by
        obtain ⟨e, he, e1, e2⟩ := k3 d hd
        rw [← e1]
        exact hT e he) hs
      rw [this]
      exact run_types hl r (n + 1) cs' k2 h0 hT
theorem foldl_types {ts : List Int} : ∀ (F : List Cl) (A : List Int), A.length = 4 → (∀ c ∈ F, 0 ≤ c.thing ∧ c.thing ≤ 3 ∧ kindType c.kind = ts.getD c.thing.toNat 0) →
    ∀ q : Nat, ((A.getD q 0 = ts.getD q 0) ∨ ∃ c ∈ F, c.thing = (q : Int)) → (F.foldl tyStep A).getD q 0 = ts.getD q 0
  | [], A, _, _, q, hq => by
    rcases hq with hq | ⟨c, hc, _⟩
    · exact hq
    · simp at hc
  | c :: r, A, hA, h, q, hq => by
    rw [List.foldl_cons]
    have hc := h c List.mem_cons_self
    refine foldl_types r _ (by rw [tyStep_len, hA]) (fun d hd => h d (List.mem_cons_of_mem _ hd)) q ?_
    by_cases e : c.thing = (q : Int)
    · left
      unfold tyStep
      rw [if_pos (by omega), hc.2.2]
      have hq2 : c.thing.toNat = q := by omega
      rw [hq2, List.getD_eq_getElem?_getD, List.getElem?_set_self (by omega)]
      rfl
    · rcases hq with hq | ⟨d, hd, hdq⟩
      · left
        unfold tyStep
        rw [if_pos (by omega), List.getD_eq_getElem?_getD, List.getElem?_set, if_neg (by omega), ← List.getD_eq_getElem?_getD]
        exact hq
      · rcases List.mem_cons.1 hd with rfl | hd
        · exact absurd hdq e
        · exact .inr ⟨d, hd, hdq⟩
theorem types_len {ts : List Int} (h : typesB ts = true) : 1 ≤ ts.length ∧ ts.length ≤ 4 := by
  unfold typesB at h
  rw [Bool.and_eq_true, decide_eq_true_iff] at h
  exact h.1
theorem run_kinds {ts : List Int} : ∀ (l : List Ev) (n : Nat) (cs : List Cl), KindsOk cs → (run ts n cs l).2.2 = 0 → KindsOk (run ts n cs l).1
  | [], n, cs, h, _ => by rw [run]; exact h
  | x :: r, n, cs, h, h0 => by
    rw [run] at h0 ⊢
    cases hs : step ts n cs x with
    | inl e => rw [hs] at h0; exact absurd h0 (step_err hs)
    | inr cs' =>
      rw [hs] at h0
      simp only at h0 ⊢
      exact run_kinds r (n + 1) cs' (step_kinds h hs) h0
theorem calls_kinds {ts : List Int} {l : List Ev} (h : (callsOf ts l).2.2 = 0) : KindsOk (callsOf ts l).1 := by
  obtain ⟨h1, h2, h3⟩ := calls_zero h
  rw [h3] at h ⊢
  exact run_kinds l 0 [] (fun c hc => by simp at hc) h
theorem typesB_four {T : List Int} (h4 : T.length = 4) (h : ∀ t ∈ T, 1 ≤ t ∧ t ≤ 5) : typesB T = true := by
  unfold typesB
  rw [h4, Bool.and_eq_true, List.all_eq_true]
  exact ⟨rfl, fun t ht => decide_eq_true (h t ht)⟩
theorem foldl_range : ∀ (F : List Cl) (A : List Int), KindsOk F → (∀ t ∈ A, 1 ≤ t ∧ t ≤ 5) → ∀ t ∈ F.foldl tyStep A, 1 ≤ t ∧ t ≤ 5
  | [], A, _, h => h
  | c :: r, A, hk, h => by
    rw [List.foldl_cons]
    refine foldl_range r _ (fun d hd => hk d (List.mem_cons_of_mem _ hd)) ?_
    intro t ht
    unfold tyStep at ht
    split at ht
    · rcases List.mem_or_eq_of_mem_set ht with ht | rfl
      · exact h t ht
      · have := hk c List.mem_cons_self
        unfold kindType
        repeat' split
        all_goals omega
    · exact h t ht
theorem typesFor_ok {F : List Cl} (h : KindsOk F) : typesB (typesForL F) = true :=
  typesB_four (typesForL_len F) (foldl_range F _ h (by intro t ht; simp at ht; omega))
/-- The types of a history that has these calls tell the same. -/
theorem callsOf_types {ts : List Int} {l : List Ev} (h : (callsOf ts l).2.2 = 0) : callsOf (typesForL (callsOf ts l).1) l = callsOf ts l := by
  have hk := calls_kinds h
  obtain ⟨h1, h2, h3⟩ := calls_zero h
  have hlen := types_len h1
  have key : run (typesForL (callsOf ts l).1) 0 [] l = run ts 0 [] l := by
    have h0 := h
    rw [h3] at h0 ⊢
    have ht := (run_kept l 0 [] (fun c hc => by simp at hc) h0).2
    refine run_types (by rw [typesForL_len]; omega) l 0 [] (fun c hc => by simp at hc) h0 (fun d hd => ?_)
    refine foldl_types _ _ rfl (fun c hc => ?_) _ (.inr ⟨d, hd, ?_⟩)
    · have := ht c hc; exact ⟨this.1, by omega, this.2.2⟩
    · have := ht d hd; omega
  have e : callsOf (typesForL (callsOf ts l).1) l = run (typesForL (callsOf ts l).1) 0 [] l := by
    have := typesFor_ok hk
    generalize typesForL (callsOf ts l).1 = T at this ⊢
    unfold callsOf
    rw [if_neg (by rw [this]; decide), if_neg (by omega)]
  rw [e, key, ← h3]
theorem step_many {ts : List Int} {n : Nat} {cs cs' : List Cl} {x : Ev} (hs : step ts n cs x = .inr cs') : cs'.length ≤ cs.length + 1 := by
  unfold step respS invS at hs
  repeat' split at hs
  all_goals (try cases hs)
  · rw [List.length_set]; omega
  · rw [List.length_append, List.length_singleton]; omega
theorem run_many {ts : List Int} : ∀ (l : List Ev) (n : Nat) (cs : List Cl), (run ts n cs l).1.length ≤ cs.length + l.length
  | [], n, cs => by rw [run]; simp
  | x :: r, n, cs => by
    rw [run]
    cases hs : step ts n cs x with
    | inl e => simp
    | inr cs' =>
      have := run_many (ts := ts) r (n + 1) cs'
      have := step_many hs
      simp only [List.length_cons]
      omega
/-- The events of the calls of a history are the history. -/
theorem events_calls {ts : List Int} {l : List Ev} (h : (callsOf ts l).2.2 = 0) : eventsL (callsOf ts l).1 = (l, 0) := by
  obtain ⟨h1, h2, h3⟩ := calls_zero h
  have hm : (callsOf ts l).1.length ≤ 200 := by
    rw [h3]
    have := run_many (ts := ts) l 0 []
    simp at this
    omega
  unfold eventsL
  rw [if_neg (by omega), place_told h]
  simp only
  rw [callsOf_types h, if_pos ⟨h, rfl⟩]
/-- What events were told for calls tells these calls. -/
theorem calls_events {l : List Cl} (h : (eventsL l).2 = 0) : (callsOf (typesForL l) (eventsL l).1).2.2 = 0 ∧ (callsOf (typesForL l) (eventsL l).1).1 = l := by
  unfold eventsL at h ⊢
  by_cases h1 : 200 < l.length
  · rw [if_pos h1] at h; cases h
  · rw [if_neg h1] at h ⊢
    cases hp : placeL l with
    | none => rw [hp] at h; cases h
    | some es =>
      rw [hp] at h
      simp only at h ⊢
      split at h
      · rename_i hh
        rw [if_pos hh]
        exact hh
      · cases h
end Go.Proofs.Ytebcnhnkpmbgdaa
