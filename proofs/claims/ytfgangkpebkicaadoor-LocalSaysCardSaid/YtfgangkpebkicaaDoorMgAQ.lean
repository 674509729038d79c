/-
  Joined by a program out of: RiteDef, RightPure, LinSay, LLeast, CallOk.
-/
import Derived.Test.YtfgangkpebkicaaDoorMgAB
import Derived.Test.YtfgangkpebkicaaDoorMgAI
import Derived.Test.YtfgangkpebkicaaDoorMgAP
import Derived.Test.YtfgangkpebkicaaDoorMgAH

/-
  Plain: what a right order is.
-/
namespace Go.Proofs.YtfgangkpebkicaaDoor
open Go.RowKit
set_option maxRecDepth 20000
/-- The call that a step names. -/
def atC (cs : List Cl) (x : Int × Int) : Cl := cs.getD x.1.toNat default
/-- What a step does at its thing. -/
def ddC (cs : List Cl) (x : Int × Int) : Dd := ⟨(atC cs x).kind, (atC cs x).arg, x.2⟩
/-- What is done at thing t. -/
def ownD (cs : List Cl) (t : Nat) (ws : List (Int × Int)) : List Dd := (ws.filter fun x => (atC cs x).thing.toNat == t).map (ddC cs)
/-- May all of it be, one behind the other? -/
def goesB (typ : Int) : List Int → List Dd → Bool
  | _, [] => true
  | s, d :: r => (stepO typ s d.kind d.arg).2.2 == 0 && ((stepO typ s d.kind d.arg).2.1 == d.res && goesB typ (stepO typ s d.kind d.arg).1 r)
theorem goes_cons {typ : Int} {s : List Int} {d : Dd} {r : List Dd} : goesB typ s (d :: r) = true ↔ (stepO typ s d.kind d.arg).2.2 = 0 ∧ (stepO typ s d.kind d.arg).2.1 = d.res ∧ goesB typ (stepO typ s d.kind d.arg).1 r = true := by
  rw [goesB, Bool.and_eq_true, Bool.and_eq_true, beq_iff_eq, beq_iff_eq]
theorem goes_play {typ : Int} : ∀ (l : List Dd) (s : List Int), goesB typ s l = true ↔ playFrom typ s l = l.length
  | [], s => by simp [goesB, playFrom]
  | d :: r, s => by
    rw [goes_cons, playFrom, List.length_cons]
    have ih := goes_play (typ := typ) r (stepO typ s d.kind d.arg).1
    split
    · rename_i h
      constructor
      · rintro ⟨h1, h2, _⟩; rcases h with h | h; exact absurd h1 h; exact absurd h2 h
      · intro h; omega
    · rename_i h
      rw [ih]
      constructor
      · rintro ⟨_, _, h3⟩; omega
      · intro h3
        exact ⟨Classical.byContradiction fun h4 => h (.inl h4), Classical.byContradiction fun h4 => h (.inr h4), by omega⟩
theorem goes_append {typ : Int} : ∀ (a b : List Dd) (s : List Int), goesB typ s (a ++ b) = true ↔ goesB typ s a = true ∧ goesB typ (stateFrom typ s a) b = true
  | [], b, s => by simp [goesB, stateFrom]
  | d :: r, b, s => by
    rw [List.cons_append, goes_cons, goes_cons, goes_append (typ := typ) r b]
    constructor
    · rintro ⟨h1, h2, h3, h4⟩; exact ⟨⟨h1, h2, h3⟩, h4⟩
    · rintro ⟨⟨h1, h2, h3⟩, h4⟩; exact ⟨h1, h2, h3, h4⟩
theorem ownD_cons (cs : List Cl) (t : Nat) (x : Int × Int) (r : List (Int × Int)) : ownD cs t (x :: r) = if (atC cs x).thing.toNat = t then ddC cs x :: ownD cs t r else ownD cs t r := by
  unfold ownD
  by_cases h : (atC cs x).thing.toNat = t
  · rw [if_pos h, List.filter_cons_of_pos (by rw [beq_iff_eq]; exact h)]; rfl
  · rw [if_neg h, List.filter_cons_of_neg (by rw [beq_iff_eq]; exact h)]
theorem ownD_append (cs : List Cl) (t : Nat) (a b : List (Int × Int)) : ownD cs t (a ++ b) = ownD cs t a ++ ownD cs t b := by
  unfold ownD
  rw [List.filter_append, List.map_append]
/-- A right order, where p says who must stand ahead of whom. -/
structure RiteP (ts : List Int) (cs : List Cl) (p : Nat → Nat → Bool) (ws : List (Int × Int)) : Prop where
  rng : ∀ x ∈ ws, 0 ≤ x.1 ∧ x.1 < cs.length
  once : (ws.map (·.1)).Nodup
  res : ∀ x ∈ ws, (atC cs x).til ≠ -1 → (atC cs x).res = x.2
  all : ∀ i, i < cs.length → (cs.getD i default).til ≠ -1 → (i : Int) ∈ ws.map (·.1)
  ord : ∀ i j, i < cs.length → j < cs.length → p i j = true → ∀ a y b, ws = a ++ y :: b → y.1 = (j : Int) → (i : Int) ∈ a.map (·.1)
  goes : ∀ t, t < ts.length → goesB (ts.getD t 0) (beginL (ts.getD t 0)) (ownD cs t ws) = true
/-- A right order of all. -/
structure Rite (ts : List Int) (cs : List Cl) (ws : List (Int × Int)) : Prop where
  rng : ∀ x ∈ ws, 0 ≤ x.1 ∧ x.1 < cs.length
  once : (ws.map (·.1)).Nodup
  res : ∀ x ∈ ws, (atC cs x).til ≠ -1 → (atC cs x).res = x.2
  all : ∀ i, i < cs.length → (cs.getD i default).til ≠ -1 → (i : Int) ∈ ws.map (·.1)
  ord : ∀ i j, i < cs.length → j < cs.length → aheadB cs i j = true → ∀ a y b, ws = a ++ y :: b → y.1 = (j : Int) → (i : Int) ∈ a.map (·.1)
  goes : ∀ t, t < ts.length → goesB (ts.getD t 0) (beginL (ts.getD t 0)) (ownD cs t ws) = true
theorem riteP_iff {ts : List Int} {cs : List Cl} {ws : List (Int × Int)} : RiteP ts cs (aheadB cs) ws ↔ Rite ts cs ws :=
  ⟨fun h => ⟨h.rng, h.once, h.res, h.all, h.ord, h.goes⟩, fun h => ⟨h.rng, h.once, h.res, h.all, h.ord, h.goes⟩⟩
theorem atC_thing {ts : List Int} {cs : List Cl} (hth : ∀ c, c ∈ cs → 0 ≤ c.thing ∧ c.thing < ts.length) {x : Int × Int} (h : 0 ≤ x.1 ∧ x.1 < cs.length) : 0 ≤ (atC cs x).thing ∧ (atC cs x).thing < ts.length := by
  unfold atC
  rw [List.getD_eq_getElem?_getD, List.getElem?_eq_getElem (by omega : x.1.toNat < cs.length)]
  exact hth _ (List.getElem_mem _)
theorem ownD_none {ts : List Int} {cs : List Cl} (hth : ∀ c, c ∈ cs → 0 ≤ c.thing ∧ c.thing < ts.length) {ws : List (Int × Int)} (h : ∀ x ∈ ws, 0 ≤ x.1 ∧ x.1 < cs.length) {t : Nat} (ht : ts.length ≤ t) : ownD cs t ws = [] := by
  unfold ownD
  rw [List.filter_eq_nil_iff.2 fun x hx => ?_]
  · rfl
  · have := atC_thing hth (h x hx)
    rw [beq_iff_eq]
    omega
theorem once_at {ws : List (Int × Int)} (h : (ws.map (·.1)).Nodup) {i j : Nat} {x y : Int × Int} (hx : ws[i]? = some x) (hy : ws[j]? = some y) (e : x.1 = y.1) : i = j := by
  have h1 : (ws.map (·.1))[i]? = some x.1 := by rw [List.getElem?_map, hx]; rfl
  have h2 : (ws.map (·.1))[j]? = some y.1 := by rw [List.getElem?_map, hy]; rfl
  obtain ⟨i1, e1⟩ := List.getElem?_eq_some_iff.1 h1
  obtain ⟨i2, e2⟩ := List.getElem?_eq_some_iff.1 h2
  rcases Nat.lt_trichotomy i j with hlt | heq | hgt
  · exact absurd (by rw [e1, e2, e]) (List.pairwise_iff_getElem.1 h i j i1 i2 hlt)
  · exact heq
  · exact absurd (by rw [e1, e2, e]) (List.pairwise_iff_getElem.1 h j i i2 i1 hgt)
end Go.Proofs.YtfgangkpebkicaaDoor

/-
  Plain: what a right order is, told without points.
-/
namespace Go.Proofs.YtfgangkpebkicaaDoor
open Go.RowKit
set_option maxRecDepth 20000
variable {Rl : Nat → Nat → Bool}
/-- A right order from a point on. -/
structure Rt (Rl : Nat → Nat → Bool) (ts : List Int) (cs : List Cl) (p : Pt) (ws : List (Int × Int)) : Prop where
  rng : ∀ x ∈ ws, 0 ≤ x.1 ∧ x.1 < cs.length
  fresh : ∀ x ∈ ws, p.done.testBit x.1.toNat = false
  once : (ws.map (·.1)).Nodup
  res : ∀ x ∈ ws, (atC cs x).til ≠ -1 → (atC cs x).res = x.2
  all : ∀ i, i < cs.length → (cs.getD i default).til ≠ -1 → p.done.testBit i = true ∨ (i : Int) ∈ ws.map (·.1)
  ord : ∀ i j, i < cs.length → j < cs.length → Rl i j = true → ∀ a y b, ws = a ++ y :: b → y.1 = (j : Int) → p.done.testBit i = true ∨ (i : Int) ∈ a.map (·.1)
  goes : ∀ t, goesB (ts.getD t 0) (p.st t) (ownD cs t ws) = true
theorem inv_bit {d j : Nat} (hd : d < 65536) (hj : j < 16) : (65535 - d).testBit j = !d.testBit j := by
  rw [show (65535 - d) = 2 ^ 16 - (d + 1) by omega, Nat.testBit_two_pow_sub_succ (by omega : d < 2 ^ 16)]
  simp [hj]
theorem full_iff {cs : List Cl} {p : Pt} (hd : p.done < 65536) (hn : cs.length ≤ 16) : fullB cs p = true ↔ ∀ i, i < cs.length → (cs.getD i default).til ≠ -1 → p.done.testBit i = true := by
  unfold fullB
  rw [beq_iff_eq]
  constructor
  · intro h i hi ht
    have h1 : (ansP cs &&& (65535 - p.done)).testBit i = false := by rw [h]; exact Nat.zero_testBit i
    rw [Nat.testBit_and, inv_bit hd (by omega)] at h1
    unfold ansP at h1
    rw [pickS_bit, decide_eq_true hi, decide_eq_true ht] at h1
    simpa using h1
  · intro h
    apply Nat.eq_of_testBit_eq
    intro j
    rw [Nat.testBit_and, Nat.zero_testBit]
    unfold ansP
    rw [pickS_bit]
    by_cases hj : j < cs.length
    · rw [inv_bit hd (by omega)]
      by_cases ht : (cs.getD j default).til ≠ -1
      · rw [h j hj ht]; simp
      · rw [decide_eq_false ht]; simp
    · rw [decide_eq_false hj]; simp
theorem may_iff {ts : List Int} {cs : List Cl} {p : Pt} {k : Nat} (hd : p.done < 65536) (hn : cs.length ≤ 16) (hk : k < cs.length) : mayB Rl ts cs p k = true ↔
    p.done.testBit k = false ∧ (∀ i, i < cs.length → Rl i k = true → p.done.testBit i = true) ∧ (thingO ts cs p k).2.2 = 0 ∧ ((cs.getD k default).til ≠ -1 → (cs.getD k default).res = (thingO ts cs p k).2.1) := by
  unfold mayB
  simp only [Bool.and_eq_true, Bool.not_eq_true', beq_iff_eq, Bool.or_eq_true]
  have h1 : befP Rl cs k &&& (65535 - p.done) = 0 ↔ ∀ i, i < cs.length → Rl i k = true → p.done.testBit i = true := by
    constructor
    · intro h i hi ha
      have h1 : (befP Rl cs k &&& (65535 - p.done)).testBit i = false := by rw [h]; exact Nat.zero_testBit i
      rw [Nat.testBit_and, inv_bit hd (by omega)] at h1
      unfold befP at h1
      rw [relP_bit, decide_eq_true hi, decide_eq_true hk, ha] at h1
      simpa using h1
    · intro h
      apply Nat.eq_of_testBit_eq
      intro j
      rw [Nat.testBit_and, Nat.zero_testBit]
      unfold befP
      rw [relP_bit]
      by_cases hj : j < cs.length
      · rw [inv_bit hd (by omega)]
        cases ha : Rl j k
        · simp
        · rw [h j hj ha]; simp
      · rw [decide_eq_false hj]; simp
  rw [h1]
  constructor
  · rintro ⟨⟨⟨a, b⟩, c⟩, d⟩
    exact ⟨a, b, c, fun ht => by rcases d with d | d; exact absurd d ht; exact d.symm⟩
  · rintro ⟨a, b, c, d⟩
    refine ⟨⟨⟨a, b⟩, c⟩, ?_⟩
    by_cases ht : (cs.getD k default).til = -1
    · exact .inl ht
    · exact .inr (d ht).symm
theorem next_lt {ts : List Int} {cs : List Cl} {p : Pt} {k : Nat} (hd : p.done < 65536) (hk : k < 16) : (nextP ts cs p k).done < 65536 := by
  show p.done ||| 2 ^ k < 2 ^ 16
  exact Nat.or_lt_two_pow hd (Nat.pow_lt_pow_right (by omega) hk)
theorem next_bit {ts : List Int} {cs : List Cl} {p : Pt} {k i : Nat} : (nextP ts cs p k).done.testBit i = true ↔ p.done.testBit i = true ∨ k = i := by
  show (p.done ||| 2 ^ k).testBit i = true ↔ _
  rw [Nat.testBit_or, Nat.testBit_two_pow, Bool.or_eq_true, decide_eq_true_iff]
theorem rt_iff {ts : List Int} {cs : List Cl} (hn : cs.length ≤ 16) : ∀ (ws : List (Int × Int)) (p : Pt), p.done < 65536 → (rightO Rl ts cs p ws = true ↔ Rt Rl ts cs p ws)
  | [], p, hd => by
    rw [rightO, full_iff hd hn]
    constructor
    · intro h
      exact ⟨fun x hx => by simp at hx, fun x hx => by simp at hx, by simp, fun x hx => by simp at hx, fun i hi ht => .inl (h i hi ht), fun i j _ _ _ a y b e => by simp at e, fun t => rfl⟩
    · intro h i hi ht
      rcases h.all i hi ht with h1 | h1
      · exact h1
      · simp at h1
  | x :: r, p, hd => by
    rw [rightO]
    have hrw : ∀ {c : Prop} [Decidable c] {b : Bool}, ((if c then b else false) = true) ↔ (c ∧ b = true) := by
      intro c _ b
      split <;> simp_all
    rw [hrw]
    unfold nextB
    rw [Bool.and_eq_true, decide_eq_true_iff]
    constructor
    · rintro ⟨⟨⟨⟨h0, h1⟩, hm⟩, hr⟩, h⟩
      obtain ⟨k, hk⟩ : ∃ k : Nat, x.1 = (k : Int) := ⟨x.1.toNat, by omega⟩
      have hk2 : x.1.toNat = k := by omega
      rw [hk2] at hm hr h
      have hkn : k < cs.length := by omega
      have ih := (rt_iff hn r _ (next_lt (ts := ts) (cs := cs) hd (by omega : k < 16))).1 h
      obtain ⟨m1, m2, m3, m4⟩ := (may_iff hd hn hkn).1 hm
      have hat : atC cs x = cs.getD k default := by unfold atC; rw [hk2]
      refine ⟨fun y hy => ?_, fun y hy => ?_, ?_, fun y hy ht => ?_, fun i hi ht => ?_, fun i j hi hj ha a y b e ey => ?_, fun t => ?_⟩
      · rcases List.mem_cons.1 hy with rfl | hy
        · exact ⟨h0, h1⟩
        · exact ih.rng y hy
      · rcases List.mem_cons.1 hy with rfl | hy
        · rw [hk2]; exact m1
        · cases hb : p.done.testBit y.1.toNat
          · rfl
          · have := ih.fresh y hy
            rw [(next_bit (ts := ts) (cs := cs) (p := p) (k := k)).2 (.inl hb)] at this
            cases this
      · rw [List.map_cons, List.nodup_cons]
        refine ⟨fun hc => ?_, ih.once⟩
        obtain ⟨y, hy, e⟩ := List.mem_map.1 hc
        have := ih.fresh y hy
        rw [(next_bit (ts := ts) (cs := cs) (p := p) (k := k)).2 (.inr (by omega))] at this
        cases this
      · rcases List.mem_cons.1 hy with rfl | hy
        · rw [hat] at ht ⊢
          rw [m4 ht, hr]
        · exact ih.res y hy ht
      · rcases ih.all i hi ht with h2 | h2
        · rcases next_bit.1 h2 with h3 | h3
          · exact .inl h3
          · exact .inr (by rw [List.map_cons, List.mem_cons]; left; omega)
        · exact .inr (by rw [List.map_cons, List.mem_cons]; exact .inr h2)
      · cases a with
        | nil =>
          rw [List.nil_append] at e
          injection e with e1 e2
          subst e1
          have : j = k := by omega
          subst this
          exact .inl (m2 i hi ha)
        | cons z a =>
          rw [List.cons_append] at e
          injection e with e1 e2
          rcases ih.ord i j hi hj ha a y b e2 ey with h2 | h2
          · rcases next_bit.1 h2 with h3 | h3
            · exact .inl h3
            · exact .inr (by rw [List.map_cons, List.mem_cons]; left; rw [← e1]; omega)
          · exact .inr (by rw [List.map_cons, List.mem_cons]; exact .inr h2)
      · have hg := ih.goes t
        rw [ownD_cons, hat]
        by_cases ht : (cs.getD k default).thing.toNat = t
        · rw [if_pos ht, goes_cons]
          unfold ddC
          rw [hat]
          subst ht
          refine ⟨m3, hr, ?_⟩
          have e : (nextP ts cs p k).st (cs.getD k default).thing.toNat = (thingO ts cs p k).1 := if_pos rfl
          rw [e] at hg
          exact hg
        · rw [if_neg ht]
          have e : (nextP ts cs p k).st t = p.st t := if_neg (fun h => ht h.symm)
          rw [e] at hg
          exact hg
    · intro h
      have h01 := h.rng x List.mem_cons_self
      obtain ⟨k, hk⟩ : ∃ k : Nat, x.1 = (k : Int) := ⟨x.1.toNat, by omega⟩
      have hk2 : x.1.toNat = k := by omega
      have hkn : k < cs.length := by omega
      have hat : atC cs x = cs.getD k default := by unfold atC; rw [hk2]
      rw [hk2]
      have hg := h.goes (cs.getD k default).thing.toNat
      rw [ownD_cons, hat, if_pos rfl, goes_cons] at hg
      unfold ddC at hg
      rw [hat] at hg
      obtain ⟨g1, g2, g3⟩ := hg
      have hf := h.fresh x List.mem_cons_self
      rw [hk2] at hf
      refine ⟨⟨⟨h01, (may_iff hd hn hkn).2 ⟨hf, fun i hi ha => ?_, g1, fun ht => ?_⟩⟩, g2⟩, (rt_iff hn r _ (next_lt hd (by omega : k < 16))).2 ⟨fun y hy => h.rng y (List.mem_cons_of_mem _ hy), fun y hy => ?_, ?_, fun y hy => h.res y (List.mem_cons_of_mem _ hy), fun i hi ht => ?_, fun i j hi hj ha a y b e ey => ?_, fun t => ?_⟩⟩
      · rcases h.ord i k hi hkn ha [] x r rfl hk with h2 | h2
        · exact h2
        · simp at h2
      · have := h.res x List.mem_cons_self
        rw [hat] at this
        rw [this ht]
        exact g2.symm
      · have h2 := h.fresh y (List.mem_cons_of_mem _ hy)
        have h3 := h.once
        rw [List.map_cons, List.nodup_cons] at h3
        cases hb : (nextP ts cs p k).done.testBit y.1.toNat
        · rfl
        · rcases next_bit.1 hb with h4 | h4
          · rw [h2] at h4; cases h4
          · have h5 := h.rng y (List.mem_cons_of_mem _ hy)
            exact absurd (List.mem_map.2 ⟨y, hy, by omega⟩) h3.1
      · have h3 := h.once
        rw [List.map_cons, List.nodup_cons] at h3
        exact h3.2
      · rcases h.all i hi ht with h2 | h2
        · exact .inl (next_bit.2 (.inl h2))
        · rw [List.map_cons, List.mem_cons] at h2
          rcases h2 with h2 | h2
          · exact .inl (next_bit.2 (.inr (by omega)))
          · exact .inr h2
      · rcases h.ord i j hi hj ha (x :: a) y b (by rw [e]; rfl) ey with h2 | h2
        · exact .inl (next_bit.2 (.inl h2))
        · rw [List.map_cons, List.mem_cons] at h2
          rcases h2 with h2 | h2
          · exact .inl (next_bit.2 (.inr (by omega)))
          · exact .inr h2
      · have hg := h.goes t
        rw [ownD_cons, hat] at hg
        by_cases ht : (cs.getD k default).thing.toNat = t
        · subst ht
          have e : (nextP ts cs p k).st (cs.getD k default).thing.toNat = (thingO ts cs p k).1 := if_pos rfl
          rw [e]
          exact g3
        · rw [if_neg ht] at hg
          have e : (nextP ts cs p k).st t = p.st t := if_neg (fun h => ht h.symm)
          rw [e]
          exact hg
/-- What Right answers. -/
theorem rite_iff {ts : List Int} {cs : List Cl} (hn : cs.length ≤ 16) (hth : ∀ c, c ∈ cs → 0 ≤ c.thing ∧ c.thing < ts.length) {ws : List (Int × Int)} : rightO Rl ts cs (startP ts) ws = true ↔ RiteP ts cs Rl ws := by
  rw [rt_iff hn ws (startP ts) (by show 0 < 65536; decide)]
  have h0 : ∀ i, (startP ts).done.testBit i = false := fun i => Nat.zero_testBit i
  constructor
  · intro h
    refine ⟨h.rng, h.once, h.res, fun i hi ht => (h.all i hi ht).resolve_left (by rw [h0]; decide), fun i j hi hj ha a y b e ey => (h.ord i j hi hj ha a y b e ey).resolve_left (by rw [h0]; decide), fun t ht => ?_⟩
    have := h.goes t
    unfold startP at this
    simpa [ht] using this
  · intro h
    refine ⟨h.rng, fun x _ => h0 _, h.once, h.res, fun i hi ht => .inr (h.all i hi ht), fun i j hi hj ha a y b e ey => .inr (h.ord i j hi hj ha a y b e ey), fun t => ?_⟩
    by_cases ht : t < ts.length
    · have := h.goes t ht
      unfold startP
      simpa [ht] using this
    · rw [ownD_none hth h.rng (by omega)]
      rfl
/-- One is found just if there is a right one. -/
theorem found_rite {ts : List Int} {cs : List Cl} (hn : cs.length ≤ 16) (hth : ∀ c, c ∈ cs → 0 ≤ c.thing ∧ c.thing < ts.length) : foundO Rl ts cs ≠ none ↔ ∃ ws, RiteP ts cs Rl ws := by
  constructor
  · intro h
    cases hf : foundO Rl ts cs with
    | none => exact absurd hf h
    | some S => exact ⟨_, (rite_iff hn hth).1 (found_right hf)⟩
  · rintro ⟨ws, h⟩
    obtain ⟨S, hS, _⟩ := found_iff ((rite_iff hn hth).2 h)
    rw [hS]
    exact Option.some_ne_none S
end Go.Proofs.YtfgangkpebkicaaDoor

/-
  What Find and Right answer, in one word each; what that means.
-/
namespace Go.Proofs.YtfgangkpebkicaaDoor
open Go.RowKit
set_option maxRecDepth 20000
/-- Is one found, by a relation? -/
def fndB (p : Nat → Nat → Bool) (ts : List Int) (o : List Cl × Nat × Int) : Bool := decide (searchE o = 0) && (foundO p ts o.1).isSome
/-- What is found. -/
def fndL (p : Nat → Nat → Bool) (ts : List Int) (o : List Cl × Nat × Int) : List (Int × Int) := if searchE o = 0 then asSteps ((foundO p ts o.1).getD []) else []
/-- Is one found? -/
def foundB (ts : List Int) (o : List Cl × Nat × Int) : Bool := decide (searchE o = 0) && (foundO (aheadB o.1) ts o.1).isSome
/-- What is found. -/
def foundL (ts : List Int) (o : List Cl × Nat × Int) : List (Int × Int) := if searchE o = 0 then asSteps ((foundO (aheadB o.1) ts o.1).getD []) else []
theorem SOwn.t {w : World} {B : Nat} {v : Value} {S : List (Nat × Int)} (h : SOwn w B v S) : TOwn w B v (asSteps S) := by
  have h1 : (asSteps S).length = S.length := by unfold asSteps; exact List.length_map _
  have h2 : (asSteps S).flatMap spCs = S.flatMap stCs := by unfold asSteps; rw [List.flatMap_map]
  unfold TOwn
  rw [h1, h2]
  exact h
theorem fnd_of {p : Nat → Nat → Bool} {ts : List Int} {o : List Cl × Nat × Int} {w w' : World} {e : Ending} (h0 : FindPost p w ts o e w') :
    Below w.heap.size w w' ∧ ∃ v, e = .returned (.tuple #[v, .bool (fndB p ts o), .int .i64 (searchE o)]) ∧ TOwn w' w.heap.size v (fndL p ts o) := by
  obtain ⟨hb, h⟩ := h0
  refine ⟨hb, ?_⟩
  rcases h with ⟨h1, rfl⟩ | ⟨h1, ⟨h2, rfl⟩ | ⟨S, v, h2, rfl, h3⟩⟩
  · refine ⟨.slice none 0 0, ?_, ?_⟩
    · unfold fndB; rw [decide_eq_false h1]; rfl
    · unfold fndL; rw [if_neg h1]; exact TOwn.nil _ _
  · refine ⟨.slice none 0 0, ?_, ?_⟩
    · unfold fndB; rw [decide_eq_true h1, h2, h1]; rfl
    · unfold fndL; rw [if_pos h1, h2]; exact TOwn.nil _ _
  · refine ⟨v, ?_, ?_⟩
    · unfold fndB; rw [decide_eq_true h1, h2, h1]; rfl
    · unfold fndL; rw [if_pos h1, h2]; exact h3.t
theorem find_say {tv lv : Value} {ts : List Int} {l : List Ev} {w : World} (ht : NRd w w.heap.size tv ts) (hl : ERd w w.heap.size lv l) (hp : Pow10 w.heap.size w) :
    Calls Tryd.prog 16 #[tv, lv] w fun e w' => Below w.heap.size w w' ∧ ∃ v, e = .returned (.tuple #[v, .bool (foundB ts (callsOf ts l)), .int .i64 (searchE (callsOf ts l))]) ∧ TOwn w' w.heap.size v (foundL ts (callsOf ts l)) := by
  refine (find_any ht hl hp).mono ?_
  rintro e w' h
  exact fnd_of h
theorem search_ok {ts : List Int} {l : List Ev} : searchE (callsOf ts l) = 0 ↔ (callsOf ts l).2.2 = 0 ∧ (callsOf ts l).1.length ≤ 9 := by
  unfold searchE
  by_cases h : (callsOf ts l).2.2 = 0
  · rw [if_neg (fun h2 => h2 h)]
    by_cases h2 : 9 < (callsOf ts l).1.length
    · rw [if_pos h2]
      exact ⟨fun h3 => absurd h3 (by decide), fun h3 => by omega⟩
    · rw [if_neg h2]
      exact ⟨fun _ => ⟨h, by omega⟩, fun _ => rfl⟩
  · rw [if_pos h]
    exact ⟨fun h3 => absurd h3 h, fun h3 => absurd h3.1 h⟩
theorem fndB_iff {p : Nat → Nat → Bool} {ts : List Int} {l : List Ev} : fndB p ts (callsOf ts l) = true ↔ searchE (callsOf ts l) = 0 ∧ ∃ ws, RiteP ts (callsOf ts l).1 p ws := by
  unfold fndB
  rw [Bool.and_eq_true, decide_eq_true_iff]
  constructor
  · rintro ⟨h1, h2⟩
    have := (search_ok.1 h1).2
    exact ⟨h1, (found_rite (by omega) calls_thing).1 (fun e => by rw [e] at h2; cases h2)⟩
  · rintro ⟨h1, h2⟩
    have := (search_ok.1 h1).2
    have h3 := (found_rite (by omega) calls_thing).2 h2
    refine ⟨h1, ?_⟩
    cases hf : foundO p ts (callsOf ts l).1 with
    | none => exact absurd hf h3
    | some S => rfl
theorem fndL_rite {p : Nat → Nat → Bool} {ts : List Int} {l : List Ev} (h : fndB p ts (callsOf ts l) = true) : RiteP ts (callsOf ts l).1 p (fndL p ts (callsOf ts l)) := by
  unfold fndB at h
  rw [Bool.and_eq_true, decide_eq_true_iff] at h
  obtain ⟨h1, h2⟩ := h
  have := (search_ok.1 h1).2
  unfold fndL
  rw [if_pos h1]
  cases hf : foundO p ts (callsOf ts l).1 with
  | none => rw [hf] at h2; cases h2
  | some S => exact (rite_iff (by omega) calls_thing).1 (found_right hf)
theorem fndL_none {p : Nat → Nat → Bool} {ts : List Int} {o : List Cl × Nat × Int} (h : fndB p ts o = false) : fndL p ts o = [] := by
  unfold fndB at h
  unfold fndL
  split
  · rename_i h1
    rw [decide_eq_true h1, Bool.true_and] at h
    cases hf : foundO p ts o.1 with
    | none => rfl
    | some S => rw [hf] at h; cases h
  · rfl
theorem foundB_eq (ts : List Int) (o : List Cl × Nat × Int) : foundB ts o = fndB (aheadB o.1) ts o := rfl
theorem foundL_eq (ts : List Int) (o : List Cl × Nat × Int) : foundL ts o = fndL (aheadB o.1) ts o := rfl
/-- One is found just if there is a right order. -/
theorem foundB_iff {ts : List Int} {l : List Ev} : foundB ts (callsOf ts l) = true ↔ searchE (callsOf ts l) = 0 ∧ ∃ ws, Rite ts (callsOf ts l).1 ws := by
  rw [foundB_eq, fndB_iff]
  exact ⟨fun h => ⟨h.1, h.2.imp fun _ => riteP_iff.1⟩, fun h => ⟨h.1, h.2.imp fun _ => riteP_iff.2⟩⟩
theorem foundL_rite {ts : List Int} {l : List Ev} (h : foundB ts (callsOf ts l) = true) : Rite ts (callsOf ts l).1 (foundL ts (callsOf ts l)) := riteP_iff.1 (fndL_rite h)
theorem foundL_none {ts : List Int} {o : List Cl × Nat × Int} (h : foundB ts o = false) : foundL ts o = [] := fndL_none h
end Go.Proofs.YtfgangkpebkicaaDoor

/-
  Contract of local.least, where the history is told and the thing is there.
-/
namespace Go.Proofs.YtfgangkpebkicaaDoor
open Go.RowKit
set_option maxRecDepth 20000
theorem lleast_any {tv lv : Value} {ts : List Int} {l : List Ev} {w : World} (ht : NRd w w.heap.size tv ts) (hl : ERd w w.heap.size lv l) (hp : Pow10 w.heap.size w) (h0 : (callsOf ts l).2.2 = 0) {q : Int} (hq : 0 ≤ q ∧ q < ts.length) :
    Calls Tryd.prog 19 #[tv, lv, .int .i64 q] w fun e w' => Below w.heap.size w w' ∧ ∃ v B, e = .returned (.tuple #[v, .bool (foundB ts (callsOf ts (partL l q))), .int .i64 (searchE (callsOf ts (partL l q)))]) ∧ w.heap.size ≤ B ∧ B ≤ w'.heap.size ∧ TOwn w' B v (foundL ts (callsOf ts (partL l q))) := by
  have HP := part_any ht hl q
  rw [show partOf ts l q = (partL l q, 0) by unfold partOf; rw [if_neg (fun h => h h0), if_neg (fun h => h hq)]] at HP
  have HP := Lib.hid HP
  obtain ⟨At, capt, rfl, -, -⟩ := ht.is
  obtain ⟨Al, capl, rfl, -, -⟩ := hl.is
  have HT := Lib.hid (And.intro ht hp)
  obtain ⟨tl, htl⟩ : ∃ tl, tl = ts.length := ⟨_, rfl⟩
  obtain ⟨L, hL⟩ : ∃ L, L = l.length := ⟨_, rfl⟩
  rw [← htl] at HP HT
  rw [← hL] at HP
  rw [← htl, ← hL]
  obtain ⟨pl, hpl⟩ : ∃ pl, pl = partL l q := ⟨_, rfl⟩
  rw [← hpl] at HP ⊢
  clear ht hl hp htl hL h0 hq hpl
  go_enter Tryd.func19, Tryd.ntmps19
  go_wp2_with fail
  refine HP.out.mono ?_
  rintro e w1 ⟨v, rfl, hb1, hv⟩
  have H1 := Lib.hid hb1
  have HF := find_say ((HT.out.1.below H1.out).mono H1.out.size) hv ((HT.out.2.on H1.out).mono H1.out.size)
  obtain ⟨Ap, capp, rfl, -, -⟩ := hv.is
  obtain ⟨P, hP⟩ : ∃ P, P = pl.length := ⟨_, rfl⟩
  rw [← hP] at HF ⊢
  have HF := Lib.hid HF
  clear hb1 hv HP hP
  go_wp2_with fail
  refine HF.out.mono ?_
  rintro e w2 ⟨hb2, u, rfl, hu⟩
  have H2 := Lib.hid (H1.out.trans (hb2.mono H1.out.size))
  have HU := Lib.hid (And.intro hb2.size hu)
  clear hb2 hu HF
  go_wp2_with fail
  go_ret3
  exact ⟨H2.out, u, w1.heap.size, rfl, H1.out.size, HU.out.1, HU.out.2⟩
end Go.Proofs.YtfgangkpebkicaaDoor

/-
  Plain: what is known of each call of a history.
-/
namespace Go.Proofs.YtfgangkpebkicaaDoor
open Go.RowKit
set_option maxRecDepth 20000
theorem getD_some {cs : List Cl} {i : Nat} (h : i < cs.length) : cs[i]? = some (cs.getD i default) := by
  rw [List.getD_eq_getElem?_getD, List.getElem?_eq_getElem h]
  rfl
structure CallOk (ts : List Int) (c : Cl) : Prop where
  who : 0 ≤ c.who ∧ c.who ≤ 7
  thing : 0 ≤ c.thing ∧ c.thing < ts.length
  fits : fitsB (ts.getD c.thing.toNat 0) c.kind = true
  takes : takesB c.kind c.arg = true
theorem step_callOk {ts : List Int} {n : Nat} {cs cs' : List Cl} {x : Ev} (h : ∀ c ∈ cs, CallOk ts c) (hs : step ts n cs x = .inr cs') : ∀ c ∈ cs', CallOk ts c := by
  unfold step at hs
  split at hs
  · cases hs
  · rename_i hr
    split at hs
    · unfold respS at hs
      split at hs
      · cases hs
      · rename_i ho
        split at hs
        · cases hs
        · injection hs with hs
          subst hs
          intro c hc
          rcases List.mem_or_eq_of_mem_set hc with hc | rfl
          · exact h c hc
          · obtain ⟨d, e1, e2, e3, e4⟩ := openOf_at (cs := cs) (who := x.who) (by omega)
            have := h _ (List.mem_of_getElem? (getD_some e4))
            exact ⟨this.who, this.thing, this.fits, this.takes⟩
    · unfold invS at hs
      split at hs
      · cases hs
      · rename_i hg
        split at hs
        · cases hs
        · injection hs with hs
          subst hs
          intro c hc
          rcases List.mem_append.1 hc with hc | hc
          · exact h c hc
          · rw [List.mem_singleton] at hc
            subst hc
            refine ⟨?_, ?_, ?_, ?_⟩
            · exact Classical.byContradiction fun hn => hr (.inl hn)
            · exact Classical.byContradiction fun hn => hr (.inr hn)
            · exact Classical.byContradiction fun hn => hg (.inl (by simpa using hn))
            · exact Classical.byContradiction fun hn => hg (.inr (by simpa using hn))
theorem run_callOk {ts : List Int} : ∀ (l : List Ev) (n : Nat) (cs : List Cl), (∀ c ∈ cs, CallOk ts c) → (run ts n cs l).2.2 = 0 → ∀ c ∈ (run ts n cs l).1, CallOk ts c
  | [], _, _, h, _ => h
  | x :: r, n, cs, h, h0 => by
    rw [run] at h0 ⊢
    cases hs : step ts n cs x with
    | inl e => rw [hs] at h0; exact absurd h0 (step_err hs)
    | inr cs' =>
      rw [hs] at h0
      exact run_callOk r (n + 1) cs' (step_callOk h hs) h0
theorem calls_callOk {ts : List Int} {l : List Ev} (h : (callsOf ts l).2.2 = 0) : ∀ c ∈ (callsOf ts l).1, CallOk ts c := by
  obtain ⟨_, _, e⟩ := calls_zero h
  rw [e] at h ⊢
  exact run_callOk l 0 [] (fun c hc => by simp at hc) h
/-- What one event does, if it may be: an answer, or a call. -/
theorem step_ways {ts : List Int} {n : Nat} {cs cs' : List Cl} {x : Ev} (hs : step ts n cs x = .inr cs') :
    (x.kind = 0 ∧ ∃ i, i < cs.length ∧ openOf cs x.who = (i : Int) ∧ (cs.getD i default).who = x.who ∧ (cs.getD i default).til = -1 ∧ cs' = cs.set i { cs.getD i default with res := x.val, til := n } ∧
      (∀ (m : Nat) (ds : List Cl) (j : Nat) (d : Cl), openOf ds x.who = (j : Int) → ds.getD j default = d → d.thing = (cs.getD i default).thing → d.kind = (cs.getD i default).kind → step ts m ds x = .inr (ds.set j { d with res := x.val, til := m }))) ∨
    (x.kind ≠ 0 ∧ openOf cs x.who < 0 ∧ cs' = cs ++ [⟨x.who, x.thing, x.kind, x.val, 0, n, -1⟩] ∧
      (∀ (m : Nat) (ds : List Cl), openOf ds x.who < 0 → step ts m ds x = .inr (ds ++ [⟨x.who, x.thing, x.kind, x.val, 0, m, -1⟩]))) := by
  unfold step at hs
  split at hs
  · cases hs
  · rename_i hr
    split at hs
    · rename_i hk
      left
      unfold respS at hs
      split at hs
      · cases hs
      · rename_i ho
        split at hs
        · cases hs
        · rename_i hg
          injection hs with hs
          obtain ⟨c, e1, e2, e3, e4⟩ := openOf_at (cs := cs) (who := x.who) (by omega)
          have hgd : cs.getD (openOf cs x.who).toNat default = c := by rw [List.getD_eq_getElem?_getD, e1]; rfl
          refine ⟨hk, (openOf cs x.who).toNat, e4, by omega, by rw [hgd]; exact e2, by rw [hgd]; exact e3, hs.symm, fun m ds j d o1 o2 o3 o4 => ?_⟩
          unfold step
          rw [if_neg hr, if_pos hk]
          unfold respS
          rw [if_neg (by omega), o1, Int.toNat_natCast, o2, if_neg (by rw [o3, o4]; exact hg)]
    · rename_i hk
      right
      unfold invS at hs
      split at hs
      · cases hs
      · rename_i hg
        split at hs
        · cases hs
        · rename_i ho
          injection hs with hs
          refine ⟨hk, by omega, hs.symm, fun m ds o1 => ?_⟩
          unfold step
          rw [if_neg hr, if_neg hk]
          unfold invS
          rw [if_neg hg, if_neg (by omega)]
end Go.Proofs.YtfgangkpebkicaaDoor
