/-
  Joined by a program out of: PartPure, Part, SpanPure, AheadPure, LinPure, LinKey.
-/
import Derived.Test.YtfgangkpebkicaaDoorMgAI
import Derived.Test.YtfgangkpebkicaaDoorMgAE
import Derived.Test.YtfgangkpebkicaaDoorProg
import Derived.WalkKit
import Derived.Test.YtfgangkpebkicaaDoorMgAA
import Derived.Test.YtfgangkpebkicaaDoorMgAB
import Derived.Lib.ItoaMem

/-
  Plain mathematics for parts: the events of one thing of a history are one.
-/
namespace Go.Proofs.YtfgangkpebkicaaDoor
set_option maxRecDepth 20000
/-- What somebody waits for: the thing and the kind. -/
def openK (cs : List Cl) (who : Int) : Option (Int × Int) := if 0 ≤ openOf cs who then some ((cs.getD (openOf cs who).toNat default).thing, (cs.getD (openOf cs who).toNat default).kind) else none
def updK (o : Int → Option (Int × Int)) (who : Int) (v : Option (Int × Int)) : Int → Option (Int × Int) := fun w => if w = who then v else o w
/-- One more event, by what all wait for. -/
def stepK (ts : List Int) (o : Int → Option (Int × Int)) (x : Ev) : Option (Int → Option (Int × Int)) :=
  if ¬ (0 ≤ x.who ∧ x.who ≤ 7) ∨ ¬ (0 ≤ x.thing ∧ x.thing < ts.length) then none
  else if x.kind = 0 then
    match o x.who with
    | none => none
    | some tk => if tk.1 = x.thing ∧ givesB tk.2 x.val = true then some (updK o x.who none) else none
  else if fitsB (ts.getD x.thing.toNat 0) x.kind = true ∧ takesB x.kind x.val = true ∧ o x.who = none then some (updK o x.who (some (x.thing, x.kind))) else none
def runK (ts : List Int) : (Int → Option (Int × Int)) → List Ev → Bool
  | _, [] => true
  | o, x :: r => match stepK ts o x with
    | none => false
    | some o' => runK ts o' r
theorem openK_none {cs : List Cl} {who : Int} (h : openOf cs who < 0) : openK cs who = none := by
  unfold openK
  rw [if_neg (by omega)]
theorem openK_ways (cs : List Cl) (who : Int) : (openOf cs who < 0 ∧ openK cs who = none) ∨ ∃ (i : Nat) (c : Cl), cs[i]? = some c ∧ c.who = who ∧ c.til = -1 ∧ openOf cs who = (i : Int) ∧ openK cs who = some (c.thing, c.kind) := by
  by_cases h : 0 ≤ openOf cs who
  · obtain ⟨c, e1, e2, e3, e4⟩ := openOf_at h
    refine .inr ⟨_, c, e1, e2, e3, by omega, ?_⟩
    unfold openK
    rw [if_pos h, List.getD_eq_getElem?_getD, e1]
    rfl
  · exact .inl ⟨by omega, openK_none (by omega)⟩
theorem openK_snoc (cs : List Cl) (c : Cl) (ht : c.til = -1) : openK (cs ++ [c]) = updK (openK cs) c.who (some (c.thing, c.kind)) := by
  funext w
  unfold openK updK
  by_cases e : w = c.who
  · subst e
    have h1 : openOf (cs ++ [c]) c.who = (cs.length : Int) := by rw [openOf_snoc, if_pos ⟨rfl, ht⟩]
    rw [h1, if_pos (by omega), if_pos rfl, Int.toNat_natCast]
    simp
  · have h1 : openOf (cs ++ [c]) w = openOf cs w := by rw [openOf_snoc, if_neg (fun h => e h.1.symm)]
    rw [h1, if_neg e]
    show _ = if 0 ≤ openOf cs w then _ else _
    split
    · have := openOf_lt cs w
      rw [List.getD_eq_getElem?_getD, List.getElem?_append, if_pos (by omega), ← List.getD_eq_getElem?_getD]
    · rfl
theorem openK_set {cs : List Cl} (h : OneOpen cs) {who : Int} (h0 : 0 ≤ openOf cs who) {c : Cl} (hc : c.til ≠ -1) : openK (cs.set (openOf cs who).toNat c) = updK (openK cs) who none := by
  funext w
  unfold openK updK
  rw [openOf_set h h0 hc]
  by_cases e : w = who
  · subst e
    simp
  · rw [if_neg e, if_neg e]
    show _ = if 0 ≤ openOf cs w then _ else _
    by_cases hw : 0 ≤ openOf cs w
    · rw [if_pos hw, if_pos hw]
      have hne : (openOf cs who).toNat ≠ (openOf cs w).toNat := by
        intro he
        obtain ⟨a, a1, a2, a3, a4⟩ := openOf_at h0
        obtain ⟨b, b1, b2, b3, b4⟩ := openOf_at hw
        rw [he, b1] at a1
        injection a1 with a1
        subst a1
        exact e (b2.symm.trans a2)
      rw [List.getD_eq_getElem?_getD, List.getElem?_set, if_neg hne, ← List.getD_eq_getElem?_getD]
    · rw [if_neg hw, if_neg hw]
theorem step_K {ts : List Int} {n : Nat} {cs : List Cl} {x : Ev} (h1 : OneOpen cs) :
    (∃ e, step ts n cs x = .inl e ∧ stepK ts (openK cs) x = none) ∨ (∃ cs', step ts n cs x = .inr cs' ∧ OneOpen cs' ∧ stepK ts (openK cs) x = some (openK cs')) := by
  unfold step stepK
  by_cases hr : ¬ (0 ≤ x.who ∧ x.who ≤ 7) ∨ ¬ (0 ≤ x.thing ∧ x.thing < ts.length)
  · rw [if_pos hr, if_pos hr]; exact .inl ⟨_, rfl, rfl⟩
  · rw [if_neg hr, if_neg hr]
    by_cases hk : x.kind = 0
    · rw [if_pos hk, if_pos hk]
      unfold respS
      rcases openK_ways cs x.who with ⟨a1, a2⟩ | ⟨i, c, b1, b2, b3, b4, b5⟩
      · rw [if_pos a1, a2]; exact .inl ⟨_, rfl, rfl⟩
      · have hg : cs.getD (openOf cs x.who).toNat default = c := by rw [b4, Int.toNat_natCast, List.getD_eq_getElem?_getD, b1]; rfl
        rw [if_neg (by omega), hg, b5]
        simp only
        by_cases hg2 : c.thing = x.thing ∧ givesB c.kind x.val = true
        · rw [if_neg (by rintro (h | h); exact h hg2.1; rw [hg2.2] at h; cases h), if_pos hg2]
          have ht : ({ c with res := x.val, til := (n : Int) } : Cl).til ≠ -1 := by show (n : Int) ≠ -1; omega
          exact .inr ⟨_, rfl, h1.set _ ht, by rw [openK_set h1 (by omega) ht]⟩
        · rw [if_pos (by
            by_cases hq : c.thing = x.thing
            · right
              cases hgv : givesB c.kind x.val
              · rfl
              · exact absurd ⟨hq, hgv⟩ hg2
            · exact .inl hq), if_neg hg2]
          exact .inl ⟨_, rfl, rfl⟩
    · rw [if_neg hk, if_neg hk]
      unfold invS
      by_cases hf : fitsB (ts.getD x.thing.toNat 0) x.kind = true ∧ takesB x.kind x.val = true
      · rw [if_neg (by rintro (h | h); rw [hf.1] at h; cases h; rw [hf.2] at h; cases h)]
        rcases openK_ways cs x.who with ⟨a1, a2⟩ | ⟨i, c, b1, b2, b3, b4, b5⟩
        · rw [if_neg (by omega), a2, if_pos ⟨hf.1, hf.2, rfl⟩]
          exact .inr ⟨_, rfl, h1.snoc a1, by rw [openK_snoc _ _ rfl]⟩
        · rw [if_pos (by omega), b5, if_neg (fun h => by cases h.2.2)]
          exact .inl ⟨_, rfl, rfl⟩
      · rw [if_pos (by
          cases h2 : fitsB (ts.getD x.thing.toNat 0) x.kind
          · exact .inl rfl
          · right
            cases h3 : takesB x.kind x.val
            · rfl
            · exact absurd ⟨h2, h3⟩ hf), if_neg (fun h => hf ⟨h.1, h.2.1⟩)]
        exact .inl ⟨_, rfl, rfl⟩
theorem run_K {ts : List Int} : ∀ (l : List Ev) (n : Nat) (cs : List Cl), OneOpen cs → decide ((run ts n cs l).2.2 = 0) = runK ts (openK cs) l
  | [], n, cs, _ => by simp [run, runK]
  | x :: r, n, cs, h => by
    rw [run, runK]
    rcases step_K (ts := ts) (n := n) (x := x) h with ⟨e, h1, h2⟩ | ⟨cs', h1, h2, h3⟩
    · rw [h1, h2]
      exact decide_eq_false (step_err h1)
    · rw [h1, h3]
      exact run_K r (n + 1) cs' h2
/-- What is waited for of thing q alone. -/
def only (q : Int) (o : Int → Option (Int × Int)) : Int → Option (Int × Int) := fun w => (o w).filter fun tk => tk.1 == q
theorem only_upd (q : Int) (o : Int → Option (Int × Int)) (who : Int) (v : Option (Int × Int)) : only q (updK o who v) = updK (only q o) who (v.filter fun tk => tk.1 == q) := by
  funext w
  unfold only updK
  split <;> rfl
theorem upd_same {o : Int → Option (Int × Int)} {who : Int} {v : Option (Int × Int)} (h : o who = v) : updK o who v = o := by
  funext w
  unfold updK
  split
  · next e => rw [e, h]
  · rfl
theorem stepK_only {ts : List Int} {o o' : Int → Option (Int × Int)} {x : Ev} (q : Int) (h : stepK ts o x = some o') : if x.thing = q then stepK ts (only q o) x = some (only q o') else only q o' = only q o := by
  unfold stepK at h
  split at h
  · cases h
  · rename_i hr
    split at h
    · rename_i hk
      split at h
      · cases h
      · rename_i tk ho
        split at h
        · rename_i hg
          injection h with h
          subst h
          by_cases hq : x.thing = q
          · rw [if_pos hq]
            unfold stepK
            have h2 : only q o x.who = some tk := by
              unfold only
              rw [ho, Option.filter_some, if_pos (by rw [beq_iff_eq, hg.1, hq])]
            rw [if_neg hr, if_pos hk, h2]
            simp only
            rw [if_pos hg, only_upd]
            rfl
          · rw [if_neg hq, only_upd]
            refine upd_same ?_
            unfold only
            rw [ho, Option.filter_some, if_neg (by rw [beq_iff_eq, hg.1]; exact hq)]
            rfl
        · cases h
    · rename_i hk
      split at h
      · rename_i hg
        injection h with h
        subst h
        have h2 : only q o x.who = none := by unfold only; rw [hg.2.2]; rfl
        by_cases hq : x.thing = q
        · rw [if_pos hq]
          unfold stepK
          rw [if_neg hr, if_neg hk, if_pos ⟨hg.1, hg.2.1, h2⟩, only_upd, Option.filter_some, if_pos (by rw [beq_iff_eq]; exact hq)]
        · rw [if_neg hq, only_upd, Option.filter_some, if_neg (by rw [beq_iff_eq]; exact hq)]
          exact upd_same h2
      · cases h
theorem runK_only {ts : List Int} (q : Int) : ∀ (l : List Ev) (o : Int → Option (Int × Int)), runK ts o l = true → runK ts (only q o) (l.filter fun x => x.thing == q) = true
  | [], _, _ => rfl
  | x :: r, o, h => by
    rw [runK] at h
    cases hs : stepK ts o x with
    | none => rw [hs] at h; cases h
    | some o' =>
      rw [hs] at h
      have h2 := stepK_only q hs
      by_cases hq : x.thing = q
      · rw [if_pos hq] at h2
        rw [List.filter_cons_of_pos (by rw [beq_iff_eq]; exact hq), runK, h2]
        exact runK_only q r o' h
      · rw [if_neg hq] at h2
        rw [List.filter_cons_of_neg (by rw [beq_iff_eq]; exact hq), ← h2]
        exact runK_only q r o' h
/-- The part of thing q of a history is one. -/
def partL (l : List Ev) (q : Int) : List Ev := l.filter fun x => x.thing == q
theorem calls_zero {ts : List Int} {l : List Ev} (h : (callsOf ts l).2.2 = 0) : typesB ts = true ∧ l.length ≤ 200 ∧ callsOf ts l = run ts 0 [] l := by
  unfold callsOf at h ⊢
  cases hb : typesB ts
  · rw [hb, if_pos rfl] at h; cases h
  · rw [hb, if_neg (by decide)] at h
    rw [if_neg (by decide)]
    split at h
    · cases h
    · rename_i hl
      exact ⟨rfl, by omega, if_neg hl⟩
theorem part_ok {ts : List Int} {l : List Ev} (h : (callsOf ts l).2.2 = 0) (q : Int) : (callsOf ts (partL l q)).2.2 = 0 := by
  obtain ⟨h1, h2, h3⟩ := calls_zero h
  have hl : (partL l q).length ≤ l.length := List.length_filter_le _ _
  rw [h3] at h
  unfold callsOf
  rw [h1, if_neg (by decide), if_neg (by omega)]
  have h4 := run_K (ts := ts) l 0 [] OneOpen.nil
  rw [decide_eq_true h] at h4
  have h5 := runK_only (ts := ts) q l _ h4.symm
  have e0 : only q (openK []) = openK [] := by
    funext w
    unfold only
    rw [openK_none (cs := []) (who := w) (by show (-1 : Int) < 0; decide)]
    rfl
  rw [e0] at h5
  have h6 := run_K (ts := ts) (partL l q) 0 [] OneOpen.nil
  unfold partL at h6 ⊢
  rw [h5] at h6
  exact of_decide_eq_true h6
end Go.Proofs.YtfgangkpebkicaaDoor

/-
  Contract of history.Part.
-/
namespace Go.Proofs.YtfgangkpebkicaaDoor
open Go.RowKit
set_option maxRecDepth 20000
/-- The events of one thing, or the error. -/
def partOf (ts : List Int) (l : List Ev) (q : Int) : List Ev × Int := if (callsOf ts l).2.2 ≠ 0 then ([], (callsOf ts l).2.2) else if ¬ (0 ≤ q ∧ q < ts.length) then ([], 4) else (partL l q, 0)
def PartPost (w : World) (o : List Ev × Int) (e : Ending) (w' : World) : Prop :=
  ∃ v, e = .returned (.tuple #[v, .int .i64 o.2]) ∧ Below w.heap.size w w' ∧ ERd w' w'.heap.size v o.1
theorem partL_take {l : List Ev} {k : Nat} {x : Ev} (hx : l[k]? = some x) (q : Int) : partL (l.take (k + 1)) q = if x.thing = q then partL (l.take k) q ++ [x] else partL (l.take k) q := by
  unfold partL
  rw [List.take_add_one, hx, List.filter_append]
  by_cases h : x.thing = q <;> simp [h]
set_option maxHeartbeats 4000000 in
theorem part_any {tv lv : Value} {ts : List Int} {l : List Ev} {w : World} (ht : NRd w w.heap.size tv ts) (hl : ERd w w.heap.size lv l) (q : Int) :
    Calls Tryd.prog 38 #[tv, lv, .int .i64 q] w (PartPost w (partOf ts l q)) := by
  have er : partOf ts l q = if (callsOf ts l).2.2 ≠ 0 then ([], (callsOf ts l).2.2) else if ¬ (0 ≤ q ∧ q < ts.length) then ([], 4) else (partL l q, 0) := rfl
  generalize partOf ts l q = o at er ⊢
  obtain ⟨At, capt, rfl, m1, m2⟩ := ht.is
  obtain ⟨Al, capl, rfl, m3, m4⟩ := hl.is
  unfold maxLen at m2 m4
  have HL := Lib.hid hl
  have HC := Lib.hid (calls_any ht hl)
  have HE := Lib.hid er
  clear ht hl er
  obtain ⟨L, hL⟩ : ∃ L, L = l.length := ⟨_, rfl⟩
  rw [← hL]
  rw [← hL] at m3 HC
  have HLL := Lib.hid hL
  clear hL
  have hw : IntKind.i64.wrap ((ts.length : Int) - 1) = (ts.length : Int) - 1 := by rw [IntKind.wrap_i64]; omega
  go_enter Tryd.func38, Tryd.ntmps38
  go_wp2_with fail
  refine HC.out.mono ?_
  rintro e w1 ⟨v1, rfl, hb1, -⟩
  have H1 := Lib.hid hb1
  clear HC hb1
  by_cases h0 : (callsOf ts l).2.2 = 0
  · have hlen := (calls_zero h0).2.1
    have HZ := Lib.hid h0
    have er := HE.out
    rw [if_neg (by rw [h0]; decide)] at er
    rw [h0]
    generalize (callsOf ts l).2.1 = a
    clear h0 HE
    cases c1 : btw 0 q ((ts.length : Int) - 1)
    · have hc1 := btw_not.1 c1
      rw [if_pos (by omega)] at er
      subst er
      go_wp2_with fail
      refine (within_any _ _ _ _).mono ?_
      rintro e w' ⟨rfl, rfl⟩
      go_wp2_with fail
      go_ret2
      exact ⟨_, rfl, H1.out, LRd.nil _ _⟩
    · have hc1 := btw_iff.1 c1
      rw [if_neg (by omega)] at er
      subst er
      have hL200 : L ≤ 200 := by rw [HLL.out]; exact hlen
      clear hc1
      go_wp2_with fail
      refine (within_any _ _ _ _).mono ?_
      rintro e w' ⟨rfl, rfl⟩
      go_wp2_with fail
      clear c1
      go_loopw [11, 32] (fun v i wr => ∃ (k : Nat) (v0 : Value), k ≤ L ∧ i = .int .i64 k ∧ v0 = v ∧ EOwn wr w.heap.size v0 (partL (l.take k) q) ∧ Below w.heap.size w wr) (fun _ i _ => L - (intOf i).toNat)
      case atStart => exact ⟨0, _, by omega, rfl, rfl, World.ownsRow_nil _ _ _ _, H1.out⟩
      case round =>
        clear H1
        obtain ⟨k, v0, hk, rfl, rfl, ho, hb⟩ := hrel
        by_cases hkL : k < L
        · obtain ⟨x, hx⟩ : ∃ x, l[k]? = some x := ⟨_, List.getElem?_eq_getElem (by rw [← HLL.out]; exact hkL)⟩
          have hst := partL_take hx q
          have hl' := HL.out.below hb
          rw [← HLL.out] at hl'
          obtain ⟨g, o, rfl, -, d0, d1, d2, d3⟩ := hl'.ev hx
          have i1 : (0 : Int) ≤ (k : Int) := by omega
          have i2 : (k : Int) < (L : Int) := by omega
          have hpl : (partL (l.take k) q).length ≤ 65536 := by
            have h1 : (partL (l.take k) q).length ≤ (l.take k).length := List.length_filter_le _ _
            have h2 : (l.take k).length ≤ k := List.length_take_le _ _
            omega
          have hbs := hb.size
          have HB := Lib.hid (And.intro ho (And.intro hb (And.intro hst hpl)))
          clear hl' hx ho hb hst hpl
          obtain ⟨xw, xt, xk, xv⟩ := x
          by_cases hq : xt = q
          · subst hq
            have HO := Lib.hid ((HB.out.1.alloc (.cells (evCs ⟨xw, xt, xk, xv⟩).toArray 84)).alloc (.cells (evCs ⟨xw, xt, xk, xv⟩).toArray 84))
            have HW := Lib.hid ((HB.out.2.1.alloc hbs (.cells (evCs ⟨xw, xt, xk, xv⟩).toArray 84)).alloc (by simp; omega) (.cells (evCs ⟨xw, xt, xk, xv⟩).toArray 84))
            have HNC := Lib.hid (new_cells (wr.alloc (.cells (evCs ⟨xw, xt, xk, xv⟩).toArray 84)) 84 (evCs ⟨xw, xt, xk, xv⟩))
            go_wp2_with (at_builtin; refine wpList_app_ev rfl (.tmp 40) (.tmp 42) rfl w.heap.size (wr.heap.size + 1) _ (partL (l.take k) xt) ⟨xw, xt, xk, xv⟩ rfl rfl HO.out (by simp) HB.out.2.2.2 HW.out.size ?_; intro v' w5 ho5 hb5 hg5; have HN := Lib.hid (And.intro ho5 hb5); clear ho5 hb5 hg5)
            go_roundw
            case rel =>
              refine ⟨k + 1, _, by omega, by go_num, rfl, ?_, HW.out.trans HN.out.2⟩
              rw [HB.out.2.2.1, if_pos rfl]
              exact HN.out.1
            case measure => simp [intOf]; omega
          · have hz : (xt == q) = false := by rw [beq_eq_false_iff_ne]; exact hq
            have HQ := Lib.hid hq
            clear hq
            go_wp2_with fail
            go_roundw
            case rel =>
              refine ⟨k + 1, _, by omega, by go_num, rfl, ?_, HB.out.2.1.alloc hbs _⟩
              rw [HB.out.2.2.1, if_neg HQ.out]
              exact HB.out.1.alloc _
            case measure => simp [intOf]; omega
        · obtain rfl : k = L := by omega
          have HB := Lib.hid (And.intro ho hb)
          have hbs := hb.size
          clear ho hb
          go_wp2_with fail
          go_ret2
          refine ⟨_, rfl, HB.out.2, ?_⟩
          have := HB.out.1.rd
          rw [HLL.out, List.take_length] at this
          exact this
  · have er := HE.out
    rw [if_pos h0] at er
    have hz : ((callsOf ts l).2.2 != 0) = true := by rw [bne_iff_ne]; exact h0
    generalize (callsOf ts l).2.2 = r at hz er ⊢
    generalize (callsOf ts l).2.1 = a
    have HE2 := Lib.hid er
    clear h0 HE er
    go_wp2_with fail
    go_ret2
    have e := HE2.out
    subst e
    exact ⟨_, rfl, H1.out, LRd.nil _ _⟩
end Go.Proofs.YtfgangkpebkicaaDoor

/-
  Plain mathematics for package spans: m spans, from F i to T i. No Go, no program.
-/
namespace Go.Proofs.YtfgangkpebkicaaDoor
open Go.RowKit
set_option maxRecDepth 20000
/-- The set of the items below m of which p holds. -/
def pickS (p : Nat → Bool) : Nat → Nat
  | 0 => 0
  | m + 1 => if p m = true then pickS p m ||| 2 ^ m else pickS p m
theorem pickS_bit (p : Nat → Bool) (i : Nat) : ∀ m, (pickS p m).testBit i = (decide (i < m) && p i)
  | 0 => by simp [pickS]
  | m + 1 => by
    rw [pickS]
    have ih := pickS_bit p i m
    by_cases e : m = i
    · subst e
      cases hp : p m
      · simp [ih, hp]
      · simp
    · have : decide (i < m + 1) = decide (i < m) := by simp; omega
      rw [this, ← ih]
      split
      · rw [Nat.testBit_or, Nat.testBit_two_pow]; simp [e]
      · rfl
theorem pickS_lt (p : Nat → Bool) : ∀ m, pickS p m < 2 ^ m
  | 0 => by simp [pickS]
  | m + 1 => by
    have ih := pickS_lt p m
    rw [pickS]
    split
    · exact Nat.or_lt_two_pow (Nat.lt_trans ih (Nat.pow_lt_pow_right (by omega) (by omega))) (Nat.pow_lt_pow_right (by omega) (by omega))
    · exact Nat.lt_trans ih (Nat.pow_lt_pow_right (by omega) (by omega))
theorem pickS_lt16 (p : Nat → Bool) {m : Nat} (hm : m ≤ 12) : pickS p m < 65536 :=
  Nat.lt_of_lt_of_le (pickS_lt p m) (Nat.le_trans (Nat.pow_le_pow_right (by omega) hm) (by decide))
end Go.Proofs.YtfgangkpebkicaaDoor

/-
  A relation given by a test of two items, row by row; who is ahead of whom among calls.
-/
namespace Go.Proofs.YtfgangkpebkicaaDoor
open Go.RowKit
set_option maxRecDepth 20000
def relP (p : Nat → Nat → Bool) (m : Nat) : Nat → Nat := fun i => if i < m then pickS (p i) m else 0
theorem relP_bit (p : Nat → Nat → Bool) (m i j : Nat) : (relP p m i).testBit j = (decide (i < m) && decide (j < m) && p i j) := by
  unfold relP
  by_cases h : i < m
  · rw [if_pos h, pickS_bit]; simp [h]
  · rw [if_neg h]; simp [h]
theorem relP_lt (p : Nat → Nat → Bool) {m : Nat} (hm : m ≤ 12) (i : Nat) : relP p m i < 65536 := by
  unfold relP
  split
  · exact pickS_lt16 _ hm
  · omega
/-- The relation behind k whole rows and the first j of row k. -/
def upP (p : Nat → Nat → Bool) (m k j : Nat) : Nat → Nat := fun i => if i < k then pickS (p i) m else if i = k then pickS (p k) j else 0
theorem upP_end (p : Nat → Nat → Bool) (m k : Nat) : upP p m k m = upP p m (k + 1) 0 := by
  funext i
  unfold upP
  by_cases h1 : i < k
  · rw [if_pos h1, if_pos (by omega)]
  · rw [if_neg h1]
    by_cases h2 : i = k
    · subst h2; rw [if_pos rfl, if_pos (by omega)]
    · rw [if_neg h2, if_neg (by omega)]
      by_cases h3 : i = k + 1
      · rw [if_pos h3]; rfl
      · rw [if_neg h3]
theorem upP_step (p : Nat → Nat → Bool) (m k j : Nat) : upP p m k (j + 1) = if p k j = true then (fun i => if i = k then upP p m k j k ||| 2 ^ j else upP p m k j i) else upP p m k j := by
  have hs : pickS (p k) (j + 1) = if p k j = true then pickS (p k) j ||| 2 ^ j else pickS (p k) j := by
    apply Nat.eq_of_testBit_eq
    intro i
    rw [pickS_bit]
    by_cases h : p k j = true
    · rw [if_pos h, Nat.testBit_or, pickS_bit, Nat.testBit_two_pow]
      by_cases e : j = i
      · subst e; simp [h]
      · simp [e, show i < j + 1 ↔ i < j by omega]
    · rw [if_neg h, pickS_bit]
      by_cases e : i = j
      · subst e; simp [h]
      · simp [show i < j + 1 ↔ i < j by omega]
  by_cases h : p k j = true
  · rw [if_pos h] at hs ⊢
    funext i
    unfold upP
    by_cases h1 : i = k
    · subst h1; simp [hs]
    · simp [h1]
  · rw [if_neg h] at hs ⊢
    funext i
    unfold upP
    rw [hs]
theorem upP_lt (p : Nat → Nat → Bool) (m k j : Nat) (hm : m ≤ 12) (hj : j ≤ 12) (i : Nat) : upP p m k j i < 65536 := by
  unfold upP
  split
  · exact pickS_lt16 _ hm
  · split
    · exact pickS_lt16 _ hj
    · omega
theorem upP_all (p : Nat → Nat → Bool) (m : Nat) : upP p m m 0 = relP p m := by
  funext i
  unfold upP relP
  by_cases h : i < m
  · rw [if_pos h, if_pos h]
  · rw [if_neg h, if_neg h]
    split <;> rfl
theorem upP_none (p : Nat → Nat → Bool) (m : Nat) : upP p m 0 0 = fun _ => 0 := by
  funext i
  unfold upP
  rw [if_neg (by omega)]
  split <;> rfl
/-- Is call i answered ahead of call j? -/
def aheadB (l : List Cl) (i j : Nat) : Bool := decide ((l.getD i default).til ≠ -1 ∧ (l.getD i default).til < (l.getD j default).frm)
theorem aheadB_at {l : List Cl} {i j : Nat} {x y : Cl} (hx : l[i]? = some x) (hy : l[j]? = some y) : aheadB l i j = decide (x.til ≠ -1 ∧ x.til < y.frm) := by
  unfold aheadB
  rw [List.getD_eq_getElem?_getD, hx, List.getD_eq_getElem?_getD, hy]
  rfl
end Go.Proofs.YtfgangkpebkicaaDoor

/-
  Plain mathematics for package search: points, what may come next, the least order from a point on.
-/
namespace Go.Proofs.YtfgangkpebkicaaDoor
open Go.RowKit
set_option maxRecDepth 20000
variable {Rl : Nat → Nat → Bool}
/-- Where some calls, one behind the other, have led to. -/
structure Pt where
  done : Nat
  st : Nat → List Int
/-- What must be done ahead of each call. -/
def befP (Rl : Nat → Nat → Bool) (cs : List Cl) : Nat → Nat := relP (fun j i => Rl i j) cs.length
/-- Who was answered. -/
def ansP (cs : List Cl) : Nat := pickS (fun i => decide ((cs.getD i default).til ≠ -1)) cs.length
/-- Does nothing have to follow? -/
def fullB (cs : List Cl) (p : Pt) : Bool := ansP cs &&& (65535 - p.done) == 0
/-- What the thing of a call makes of it. -/
def thingO (ts : List Int) (cs : List Cl) (p : Pt) (k : Nat) : List Int × Int × Int :=
  stepO (ts.getD (cs.getD k default).thing.toNat 0) (p.st (cs.getD k default).thing.toNat) (cs.getD k default).kind (cs.getD k default).arg
/-- The point behind call k. -/
def nextP (ts : List Int) (cs : List Cl) (p : Pt) (k : Nat) : Pt :=
  ⟨p.done ||| 2 ^ k, fun t => if t = (cs.getD k default).thing.toNat then (thingO ts cs p k).1 else p.st t⟩
/-- May call k come next? -/
def mayB (Rl : Nat → Nat → Bool) (ts : List Int) (cs : List Cl) (p : Pt) (k : Nat) : Bool :=
  !p.done.testBit k && (befP Rl cs k &&& (65535 - p.done) == 0) && ((thingO ts cs p k).2.2 == 0) && ((cs.getD k default).til == -1 || (thingO ts cs p k).2.1 == (cs.getD k default).res)
/-- Numbers from k on, m of them: the first that may come next, and from which the rest goes on. -/
def tryO (Rl : Nat → Nat → Bool) (go : Pt → Option (List (Nat × Int))) (ts : List Int) (cs : List Cl) (p : Pt) : Nat → Nat → Option (List (Nat × Int))
  | 0, _ => none
  | m + 1, k => if mayB Rl ts cs p k = true then (match go (nextP ts cs p k) with
    | some l => some ((k, (thingO ts cs p k).2.1) :: l)
    | none => tryO Rl go ts cs p m (k + 1)) else tryO Rl go ts cs p m (k + 1)
/-- The least order from a point on; at most f more calls. -/
def findO (Rl : Nat → Nat → Bool) (ts : List Int) (cs : List Cl) : Nat → Pt → Option (List (Nat × Int))
  | 0, p => if fullB cs p = true then some [] else none
  | f + 1, p => if fullB cs p = true then some [] else tryO Rl (findO Rl ts cs f) ts cs p cs.length 0
/-- How many calls are left. -/
def leftN (n : Nat) (p : Pt) : Nat := (List.range n).countP fun k => !p.done.testBit k
/-- The point ahead of all calls. -/
def startP (ts : List Int) : Pt := ⟨0, fun t => if t < ts.length then beginL (ts.getD t 0) else []⟩
theorem countP_less {n k : Nat} {p q : Nat → Bool} (hk : k < n) (hp : p k = true) (hq : q k = false) (h : ∀ j, j ≠ k → q j = p j) : (List.range n).countP p = (List.range n).countP q + 1 := by
  induction n with
  | zero => omega
  | succ n ih =>
    rw [List.range_succ, List.countP_append, List.countP_append]
    simp only [List.countP_cons, List.countP_nil]
    by_cases e : k = n
    · subst e
      rw [hp, hq]
      have : (List.range k).countP p = (List.range k).countP q := by
        apply List.countP_congr
        intro j hj
        rw [h j (by have := List.mem_range.1 hj; omega)]
      simp only [Bool.false_eq_true, if_false, if_true]
      omega
    · have := ih (by omega)
      rw [h n (by omega)]
      omega
theorem left_next {ts : List Int} {cs : List Cl} {p : Pt} {n k : Nat} (hk : k < n) (h : p.done.testBit k = false) : leftN n p = leftN n (nextP ts cs p k) + 1 := by
  unfold leftN nextP
  refine countP_less hk (by rw [h]; rfl) (by simp) (fun j hj => ?_)
  simp only [Nat.testBit_or, Nat.testBit_two_pow]
  rw [decide_eq_false (by omega), Bool.or_false]
theorem may_done {ts : List Int} {cs : List Cl} {p : Pt} {k : Nat} (h : mayB Rl ts cs p k = true) : p.done.testBit k = false := by
  unfold mayB at h
  simp only [Bool.and_eq_true, Bool.not_eq_true'] at h
  exact h.1.1.1
end Go.Proofs.YtfgangkpebkicaaDoor

/-
  Plain: a point's letters tell the point.
-/
namespace Go.Proofs.YtfgangkpebkicaaDoor
open Go.RowKit
set_option maxRecDepth 20000
/-- What a row of digits comes to. -/
def valL (l : List UInt8) : Nat := l.foldl (fun a d => a * 10 + (d.toNat - 48)) 0
theorem digit_nat {d : Nat} (h : d < 10) : (UInt8.ofNat (48 + d)).toNat = 48 + d := by
  rw [UInt8.toNat_ofNat']
  omega
theorem dec_val (u : Nat) : valL (Lib.decDigits u) = u := by
  induction u using Nat.strongRecOn with
  | ind u ih =>
    rw [Lib.decDigits]
    split
    · rename_i h
      unfold valL
      simp only [List.foldl_cons, List.foldl_nil]
      rw [digit_nat h]
      omega
    · rename_i h
      have := ih (u / 10) (by omega)
      unfold valL at this ⊢
      rw [List.foldl_append, this]
      simp only [List.foldl_cons, List.foldl_nil]
      rw [digit_nat (Nat.mod_lt _ (by omega))]
      omega
theorem dec_digit (u : Nat) : ∀ d, d ∈ Lib.decDigits u → 48 ≤ d.toNat ∧ d.toNat ≤ 57 := by
  induction u using Nat.strongRecOn with
  | ind u ih =>
    intro d hd
    rw [Lib.decDigits] at hd
    split at hd
    · rename_i h
      rw [List.mem_singleton] at hd
      subst hd
      rw [digit_nat h]
      omega
    · rename_i h
      rcases List.mem_append.1 hd with hd | hd
      · exact ih (u / 10) (by omega) d hd
      · rw [List.mem_singleton] at hd
        subst hd
        rw [digit_nat (Nat.mod_lt _ (by omega))]
        omega
theorem dec_ne (u : Nat) : Lib.decDigits u ≠ [] := by
  rw [Lib.decDigits]
  split
  · exact List.cons_ne_nil _ _
  · simp
theorem dec_inj {u v : Nat} (h : Lib.decDigits u = Lib.decDigits v) : u = v := by rw [← dec_val u, h, dec_val]
theorem itoa_inj {a b : Int} (h : Lib.itoa a = Lib.itoa b) : a = b := by
  unfold Lib.itoa at h
  have key : ∀ u v : Nat, (45 : UInt8) :: Lib.decDigits u ≠ Lib.decDigits v := fun u v e => by
    have := dec_digit v 45 (by rw [← e]; exact List.mem_cons_self ..)
    exact absurd this.1 (by decide)
  split at h
  · split at h
    · injection h with _ h
      have := dec_inj h
      omega
    · exact absurd h (key _ _)
  · split at h
    · exact absurd h.symm (key _ _)
    · have := dec_inj h
      omega
/-- Is it between two numbers? -/
def sepB (d : UInt8) : Bool := d == 32 || d == 59
theorem itoa_sep (a : Int) : ∀ d, d ∈ Lib.itoa a → sepB d = false := by
  intro d hd
  have key : ∀ u : Nat, d ∈ Lib.decDigits u → sepB d = false := fun u h => by
    have := dec_digit u d h
    unfold sepB
    rw [Bool.or_eq_false_iff]
    constructor
    · rw [beq_eq_false_iff_ne]; rintro rfl; exact absurd this.1 (by decide)
    · rw [beq_eq_false_iff_ne]; rintro rfl; exact absurd this.2 (by decide)
  unfold Lib.itoa at hd
  split at hd
  · rcases List.mem_cons.1 hd with rfl | hd
    · rfl
    · exact key _ hd
  · exact key _ hd
/-- Nothing, or what begins between two numbers. -/
def HeadS (l : List UInt8) : Prop := ∀ d r, l = d :: r → sepB d = true
theorem cut_same : ∀ {a b x y : List UInt8}, (∀ d, d ∈ a → sepB d = false) → (∀ d, d ∈ b → sepB d = false) → HeadS x → HeadS y → a ++ x = b ++ y → a = b ∧ x = y
  | [], [], x, y, _, _, _, _, h => ⟨rfl, h⟩
  | [], d :: b, x, y, _, hb, hx, _, h => by
    rw [List.nil_append, List.cons_append] at h
    have h1 := hx d _ h
    rw [hb d (List.mem_cons_self ..)] at h1
    cases h1
  | d :: a, [], x, y, ha, _, _, hy, h => by
    rw [List.nil_append, List.cons_append] at h
    have h1 := hy d _ h.symm
    rw [ha d (List.mem_cons_self ..)] at h1
    cases h1
  | d :: a, e :: b, x, y, ha, hb, hx, hy, h => by
    rw [List.cons_append, List.cons_append] at h
    injection h with h1 h2
    obtain ⟨h3, h4⟩ := cut_same (fun d hd => ha d (List.mem_cons_of_mem _ hd)) (fun d hd => hb d (List.mem_cons_of_mem _ hd)) hx hy h2
    exact ⟨by rw [h1, h3], h4⟩
/-- A state's letters. -/
def rowB8 : List Int → List UInt8
  | [] => []
  | x :: r => 32 :: (Lib.itoa x ++ rowB8 r)
theorem rowB8_snoc : ∀ (l : List Int) (x : Int), rowB8 (l ++ [x]) = rowB8 l ++ 32 :: Lib.itoa x
  | [], x => by simp [rowB8]
  | y :: r, x => by rw [List.cons_append, rowB8, rowB8, rowB8_snoc r x]; simp
/-- Nothing, or what begins behind a state. -/
def HeadE (l : List UInt8) : Prop := l = [] ∨ ∃ r, l = 59 :: r
theorem HeadE.sep {l : List UInt8} (h : HeadE l) : HeadS l := by
  intro d r e
  rcases h with rfl | ⟨r', rfl⟩
  · cases e
  · injection e with e _; subst e; rfl
theorem row_head {l : List Int} {x : List UInt8} (h : HeadE x) : HeadS (rowB8 l ++ x) := by
  cases l with
  | nil => exact h.sep
  | cons y r =>
    intro d r' e
    rw [rowB8, List.cons_append] at e
    injection e with e _
    subst e
    rfl
theorem row_same : ∀ {a b : List Int} {x y : List UInt8}, HeadE x → HeadE y → rowB8 a ++ x = rowB8 b ++ y → a = b ∧ x = y
  | [], [], x, y, _, _, h => ⟨rfl, h⟩
  | [], e :: b, x, y, hx, _, h => by
    rw [rowB8, rowB8, List.nil_append, List.cons_append] at h
    rcases hx with rfl | ⟨r, rfl⟩
    · cases h
    · injection h with h _; exact absurd h (by decide)
  | e :: a, [], x, y, _, hy, h => by
    rw [rowB8, rowB8, List.nil_append, List.cons_append] at h
    rcases hy with rfl | ⟨r, rfl⟩
    · cases h
    · injection h with h _; exact absurd h (by decide)
  | d :: a, e :: b, x, y, hx, hy, h => by
    rw [rowB8, rowB8, List.cons_append, List.cons_append, List.append_assoc, List.append_assoc] at h
    injection h with _ h
    obtain ⟨h1, h2⟩ := cut_same (itoa_sep d) (itoa_sep e) (row_head hx) (row_head hy) h
    obtain ⟨h3, h4⟩ := row_same hx hy h2
    exact ⟨by rw [itoa_inj h1, h3], h4⟩
/-- The letters of the first m states, each behind a 59. -/
def rowsB8 (st : Nat → List Int) : Nat → List UInt8
  | 0 => []
  | m + 1 => rowsB8 st m ++ 59 :: rowB8 (st m)
/-- A point's letters. -/
def keyB (p : Pt) : List UInt8 := Lib.decDigits p.done ++ rowsB8 p.st 4
theorem head_e (l : List UInt8) : HeadE (59 :: l) := .inr ⟨l, rfl⟩
theorem key_same {p q : Pt} (h : keyB p = keyB q) : p.done = q.done ∧ ∀ i, i < 4 → p.st i = q.st i := by
  unfold keyB at h
  simp only [rowsB8, List.nil_append, List.append_assoc, List.cons_append] at h
  have hd : ∀ u : Nat, ∀ d, d ∈ Lib.decDigits u → sepB d = false := fun u d hd => itoa_sep (u : Int) d (by rw [Lib.itoa_nonneg]; exact hd)
  obtain ⟨h0, h⟩ := cut_same (hd _) (hd _) (head_e _).sep (head_e _).sep h
  injection h with _ h
  obtain ⟨h1, h⟩ := row_same (head_e _) (head_e _) h
  injection h with _ h
  obtain ⟨h2, h⟩ := row_same (head_e _) (head_e _) h
  injection h with _ h
  obtain ⟨h3, h⟩ := row_same (head_e _) (head_e _) h
  injection h with _ h
  have h4 := row_same (x := []) (y := []) (.inl rfl) (.inl rfl) (by simpa using h)
  refine ⟨dec_inj h0, fun i hi => ?_⟩
  rcases i with _ | _ | _ | _ | i
  · exact h1
  · exact h2
  · exact h3
  · exact h4.1
  · omega
end Go.Proofs.YtfgangkpebkicaaDoor
