/-
  Joined by a program out of: RiteDef, RightPure, PartPure, CallOk.
-/
import Derived.Test.YtfgangkpebkicaaGreatDoorMgAD
import Derived.Test.YtfgangkpebkicaaGreatDoorMgAP

/-
  Plain: what a right order is.
-/
namespace Go.Proofs.YtfgangkpebkicaaGreatDoor
open Go.RowKit
set_option maxRecDepth 20000
/-- The call that a step names. -/
def atC (cs : List Cl) (x : Int × Int) : Cl := cs.getD x.1.toNat default
/-- What a step does at its thing. -/
def ddC (cs : List Cl) (x : Int × Int) : Dd := ⟨(atC cs x).kind, (atC cs x).arg, x.2⟩
/-- What is done at thing t. -/
def ownD (cs : List Cl) (t : Nat) (ws : List (Int × Int)) : List Dd := (ws.filter fun x => (atC cs x).thing.toNat == t).map (ddC cs)
/-- May all of it be, one behind the other? -/
def goesB (typ : Int) : List Int → List Dd → Bool
  | _, [] => true
  | s, d :: r => (stepO typ s d.kind d.arg).2.2 == 0 && ((stepO typ s d.kind d.arg).2.1 == d.res && goesB typ (stepO typ s d.kind d.arg).1 r)
theorem goes_cons {typ : Int} {s : List Int} {d : Dd} {r : List Dd} : goesB typ s (d :: r) = true ↔ (stepO typ s d.kind d.arg).2.2 = 0 ∧ (stepO typ s d.kind d.arg).2.1 = d.res ∧ goesB typ (stepO typ s d.kind d.arg).1 r = true := by
  rw [goesB, Bool.and_eq_true, Bool.and_eq_true, beq_iff_eq, beq_iff_eq]
theorem goes_play {typ : Int} : ∀ (l : List Dd) (s : List Int), goesB typ s l = true ↔ playFrom typ s l = l.length
  | [], s => by simp [goesB, playFrom]
  | d :: r, s => by
    rw [goes_cons, playFrom, List.length_cons]
    have ih := goes_play (typ := typ) r (stepO typ s d.kind d.arg).1
    split
    · rename_i h
      constructor
      · rintro ⟨h1, h2, _⟩; rcases h with h | h; exact absurd h1 h; exact absurd h2 h
      · intro h; omega
    · rename_i h
      rw [ih]
      constructor
      · rintro ⟨_, _, h3⟩; omega
      · intro h3
        exact ⟨Classical.byContradiction fun h4 => h (.inl h4), Classical.byContradiction fun h4 => h (.inr h4), by omega⟩
theorem goes_append {typ : Int} : ∀ (a b : List Dd) (s : List Int), goesB typ s (a ++ b) = true ↔ goesB typ s a = true ∧ goesB typ (stateFrom typ s a) b = true
  | [], b, s => by simp [goesB, stateFrom]
  | d :: r, b, s => by
    rw [List.cons_append, goes_cons, goes_cons, goes_append (typ := typ) r b]
    constructor
    · rintro ⟨h1, h2, h3, h4⟩; exact ⟨⟨h1, h2, h3⟩, h4⟩
    · rintro ⟨⟨h1, h2, h3⟩, h4⟩; exact ⟨h1, h2, h3, h4⟩
theorem ownD_cons (cs : List Cl) (t : Nat) (x : Int × Int) (r : List (Int × Int)) : ownD cs t (x :: r) = if (atC cs x).thing.toNat = t then ddC cs x :: ownD cs t r else ownD cs t r := by
  unfold ownD
  by_cases h : (atC cs x).thing.toNat = t
  · rw [if_pos h, List.filter_cons_of_pos (by rw [beq_iff_eq]; exact h)]; rfl
  · rw [if_neg h, List.filter_cons_of_neg (by rw [beq_iff_eq]; exact h)]
theorem ownD_append (cs : List Cl) (t : Nat) (a b : List (Int × Int)) : ownD cs t (a ++ b) = ownD cs t a ++ ownD cs t b := by
  unfold ownD
  rw [List.filter_append, List.map_append]
/-- A right order, where p says who must stand ahead of whom. -/
structure RiteP (ts : List Int) (cs : List Cl) (p : Nat → Nat → Bool) (ws : List (Int × Int)) : Prop where
  rng : ∀ x ∈ ws, 0 ≤ x.1 ∧ x.1 < cs.length
  once : (ws.map (·.1)).Nodup
  res : ∀ x ∈ ws, (atC cs x).til ≠ -1 → (atC cs x).res = x.2
  all : ∀ i, i < cs.length → (cs.getD i default).til ≠ -1 → (i : Int) ∈ ws.map (·.1)
  ord : ∀ i j, i < cs.length → j < cs.length → p i j = true → ∀ a y b, ws = a ++ y :: b → y.1 = (j : Int) → (i : Int) ∈ a.map (·.1)
  goes : ∀ t, t < ts.length → goesB (ts.getD t 0) (beginL (ts.getD t 0)) (ownD cs t ws) = true
/-- A right order of all. -/
structure Rite (ts : List Int) (cs : List Cl) (ws : List (Int × Int)) : Prop where
  rng : ∀ x ∈ ws, 0 ≤ x.1 ∧ x.1 < cs.length
  once : (ws.map (·.1)).Nodup
  res : ∀ x ∈ ws, (atC cs x).til ≠ -1 → (atC cs x).res = x.2
  all : ∀ i, i < cs.length → (cs.getD i default).til ≠ -1 → (i : Int) ∈ ws.map (·.1)
  ord : ∀ i j, i < cs.length → j < cs.length → aheadB cs i j = true → ∀ a y b, ws = a ++ y :: b → y.1 = (j : Int) → (i : Int) ∈ a.map (·.1)
  goes : ∀ t, t < ts.length → goesB (ts.getD t 0) (beginL (ts.getD t 0)) (ownD cs t ws) = true
theorem riteP_iff {ts : List Int} {cs : List Cl} {ws : List (Int × Int)} : RiteP ts cs (aheadB cs) ws ↔ Rite ts cs ws :=
  ⟨fun h => ⟨h.rng, h.once, h.res, h.all, h.ord, h.goes⟩, fun h => ⟨h.rng, h.once, h.res, h.all, h.ord, h.goes⟩⟩
theorem atC_thing {ts : List Int} {cs : List Cl} (hth : ∀ c, c ∈ cs → 0 ≤ c.thing ∧ c.thing < ts.length) {x : Int × Int} (h : 0 ≤ x.1 ∧ x.1 < cs.length) : 0 ≤ (atC cs x).thing ∧ (atC cs x).thing < ts.length := by
  unfold atC
  rw [List.getD_eq_getElem?_getD, List.getElem?_eq_getElem (by omega : x.1.toNat < cs.length)]
  exact hth _ (List.getElem_mem _)
theorem ownD_none {ts : List Int} {cs : List Cl} (hth : ∀ c, c ∈ cs → 0 ≤ c.thing ∧ c.thing < ts.length) {ws : List (Int × Int)} (h : ∀ x ∈ ws, 0 ≤ x.1 ∧ x.1 < cs.length) {t : Nat} (ht : ts.length ≤ t) : ownD cs t ws = [] := by
  unfold ownD
  rw [List.filter_eq_nil_iff.2 fun x hx => ?_]
  · rfl
  · have := atC_thing hth (h x hx)
    rw [beq_iff_eq]
    omega
theorem once_at {ws : List (Int × Int)} (h : (ws.map (·.1)).Nodup) {i j : Nat} {x y : Int × Int} (hx : ws[i]? = some x) (hy : ws[j]? = some y) (e : x.1 = y.1) : i = j := by
  have h1 : (ws.map (·.1))[i]? = some x.1 := by rw [List.getElem?_map, hx]; rfl
  have h2 : (ws.map (·.1))[j]? = some y.1 := by rw [List.getElem?_map, hy]; rfl
  obtain ⟨i1, e1⟩ := List.getElem?_eq_some_iff.1 h1
  obtain ⟨i2, e2⟩ := List.getElem?_eq_some_iff.1 h2
  rcases Nat.lt_trichotomy i j with hlt | heq | hgt
  · exact absurd (by rw [e1, e2, e]) (List.pairwise_iff_getElem.1 h i j i1 i2 hlt)
  · exact heq
  · exact absurd (by rw [e1, e2, e]) (List.pairwise_iff_getElem.1 h j i i2 i1 hgt)
end Go.Proofs.YtfgangkpebkicaaGreatDoor

/-
  Plain: what a right order is, told without points.
-/
namespace Go.Proofs.YtfgangkpebkicaaGreatDoor
open Go.RowKit
set_option maxRecDepth 20000
variable {Rl : Nat → Nat → Bool}
/-- A right order from a point on. -/
structure Rt (Rl : Nat → Nat → Bool) (ts : List Int) (cs : List Cl) (p : Pt) (ws : List (Int × Int)) : Prop where
  rng : ∀ x ∈ ws, 0 ≤ x.1 ∧ x.1 < cs.length
  fresh : ∀ x ∈ ws, p.done.testBit x.1.toNat = false
  once : (ws.map (·.1)).Nodup
  res : ∀ x ∈ ws, (atC cs x).til ≠ -1 → (atC cs x).res = x.2
  all : ∀ i, i < cs.length → (cs.getD i default).til ≠ -1 → p.done.testBit i = true ∨ (i : Int) ∈ ws.map (·.1)
  ord : ∀ i j, i < cs.length → j < cs.length → Rl i j = true → ∀ a y b, ws = a ++ y :: b → y.1 = (j : Int) → p.done.testBit i = true ∨ (i : Int) ∈ a.map (·.1)
  goes : ∀ t, goesB (ts.getD t 0) (p.st t) (ownD cs t ws) = true
theorem inv_bit {d j : Nat} (hd : d < 65536) (hj : j < 16) : (65535 - d).testBit j = !d.testBit j := by
  rw [show (65535 - d) = 2 ^ 16 - (d + 1) by omega, Nat.testBit_two_pow_sub_succ (by omega : d < 2 ^ 16)]
  simp [hj]
theorem full_iff {cs : List Cl} {p : Pt} (hd : p.done < 65536) (hn : cs.length ≤ 16) : fullB cs p = true ↔ ∀ i, i < cs.length → (cs.getD i default).til ≠ -1 → p.done.testBit i = true := by
  unfold fullB
  rw [beq_iff_eq]
  constructor
  · intro h i hi ht
    have h1 : (ansP cs &&& (65535 - p.done)).testBit i = false := by rw [h]; exact Nat.zero_testBit i
    rw [Nat.testBit_and, inv_bit hd (by omega)] at h1
    unfold ansP at h1
    rw [pickS_bit, decide_eq_true hi, decide_eq_true ht] at h1
    simpa using h1
  · intro h
    apply Nat.eq_of_testBit_eq
    intro j
    rw [Nat.testBit_and, Nat.zero_testBit]
    unfold ansP
    rw [pickS_bit]
    by_cases hj : j < cs.length
    · rw [inv_bit hd (by omega)]
      by_cases ht : (cs.getD j default).til ≠ -1
      · rw [h j hj ht]; simp
      · rw [decide_eq_false ht]; simp
    · rw [decide_eq_false hj]; simp
theorem may_iff {ts : List Int} {cs : List Cl} {p : Pt} {k : Nat} (hd : p.done < 65536) (hn : cs.length ≤ 16) (hk : k < cs.length) : mayB Rl ts cs p k = true ↔
    p.done.testBit k = false ∧ (∀ i, i < cs.length → Rl i k = true → p.done.testBit i = true) ∧ (thingO ts cs p k).2.2 = 0 ∧ ((cs.getD k default).til ≠ -1 → (cs.getD k default).res = (thingO ts cs p k).2.1) := by
  unfold mayB
  simp only [Bool.and_eq_true, Bool.not_eq_true', beq_iff_eq, Bool.or_eq_true]
  have h1 : befP Rl cs k &&& (65535 - p.done) = 0 ↔ ∀ i, i < cs.length → Rl i k = true → p.done.testBit i = true := by
    constructor
    · intro h i hi ha
      have h1 : (befP Rl cs k &&& (65535 - p.done)).testBit i = false := by rw [h]; exact Nat.zero_testBit i
      rw [Nat.testBit_and, inv_bit hd (by omega)] at h1
      unfold befP at h1
      rw [relP_bit, decide_eq_true hi, decide_eq_true hk, ha] at h1
      simpa using h1
    · intro h
      apply Nat.eq_of_testBit_eq
      intro j
      rw [Nat.testBit_and, Nat.zero_testBit]
      unfold befP
      rw [relP_bit]
      by_cases hj : j < cs.length
      · rw [inv_bit hd (by omega)]
        cases ha : Rl j k
        · simp
        · rw [h j hj ha]; simp
      · rw [decide_eq_false hj]; simp
  rw [h1]
  constructor
  · rintro ⟨⟨⟨a, b⟩, c⟩, d⟩
    exact ⟨a, b, c, fun ht => by rcases d with d | d; exact absurd d ht; exact d.symm⟩
  · rintro ⟨a, b, c, d⟩
    refine ⟨⟨⟨a, b⟩, c⟩, ?_⟩
    by_cases ht : (cs.getD k default).til = -1
    · exact .inl ht
    · exact .inr (d ht).symm
theorem next_lt {ts : List Int} {cs : List Cl} {p : Pt} {k : Nat} (hd : p.done < 65536) (hk : k < 16) : (nextP ts cs p k).done < 65536 := by
  show p.done ||| 2 ^ k < 2 ^ 16
  exact Nat.or_lt_two_pow hd (Nat.pow_lt_pow_right (by omega) hk)
theorem next_bit {ts : List Int} {cs : List Cl} {p : Pt} {k i : Nat} : (nextP ts cs p k).done.testBit i = true ↔ p.done.testBit i = true ∨ k = i := by
  show (p.done ||| 2 ^ k).testBit i = true ↔ _
  rw [Nat.testBit_or, Nat.testBit_two_pow, Bool.or_eq_true, decide_eq_true_iff]
theorem rt_iff {ts : List Int} {cs : List Cl} (hn : cs.length ≤ 16) : ∀ (ws : List (Int × Int)) (p : Pt), p.done < 65536 → (rightO Rl ts cs p ws = true ↔ Rt Rl ts cs p ws)
  | [], p, hd => by
    rw [rightO, full_iff hd hn]
    constructor
    · intro h
      exact ⟨fun x hx => by simp at hx, fun x hx => by simp at hx, by simp, fun x hx => by simp at hx, fun i hi ht => .inl (h i hi ht), fun i j _ _ _ a y b e => by simp at e, fun t => rfl⟩
    · intro h i hi ht
      rcases h.all i hi ht with h1 | h1
      · exact h1
      · simp at h1
  | x :: r, p, hd => by
    rw [rightO]
    have hrw : ∀ {c : Prop} [Decidable c] {b : Bool}, ((if c then b else false) = true) ↔ (c ∧ b = true) := by
      intro c _ b
      split <;> simp_all
    rw [hrw]
    unfold nextB
    rw [Bool.and_eq_true, decide_eq_true_iff]
    constructor
    · rintro ⟨⟨⟨⟨h0, h1⟩, hm⟩, hr⟩, h⟩
      obtain ⟨k, hk⟩ : ∃ k : Nat, x.1 = (k : Int) := ⟨x.1.toNat, by omega⟩
      have hk2 : x.1.toNat = k := by omega
      rw [hk2] at hm hr h
      have hkn : k < cs.length := by omega
      have ih := (rt_iff hn r _ (next_lt (ts := ts) (cs := cs) hd (by omega : k < 16))).1 h
      obtain ⟨m1, m2, m3, m4⟩ := (may_iff hd hn hkn).1 hm
      have hat : atC cs x = cs.getD k default := by unfold atC; rw [hk2]
      refine ⟨fun y hy => ?_, fun y hy => ?_, ?_, fun y hy ht => ?_, fun i hi ht => ?_, fun i j hi hj ha a y b e ey => ?_, fun t => ?_⟩
      · rcases List.mem_cons.1 hy with rfl | hy
        · exact ⟨h0, h1⟩
        · exact ih.rng y hy
      · rcases List.mem_cons.1 hy with rfl | hy
        · rw [hk2]; exact m1
        · cases hb : p.done.testBit y.1.toNat
          · rfl
          · have := ih.fresh y hy
            rw [(next_bit (ts := ts) (cs := cs) (p := p) (k := k)).2 (.inl hb)] at this
            cases this
      · rw [List.map_cons, List.nodup_cons]
        refine ⟨fun hc => ?_, ih.once⟩
        obtain ⟨y, hy, e⟩ := List.mem_map.1 hc
        have := ih.fresh y hy
        rw [(next_bit (ts := ts) (cs := cs) (p := p) (k := k)).2 (.inr (by omega))] at this
        cases this
      · rcases List.mem_cons.1 hy with rfl | hy
        · rw [hat] at ht ⊢
          rw [m4 ht, hr]
        · exact ih.res y hy ht
      · rcases ih.all i hi ht with h2 | h2
        · rcases next_bit.1 h2 with h3 | h3
          · exact .inl h3
          · exact .inr (by rw [List.map_cons, List.mem_cons]; left; omega)
        · exact .inr (by rw [List.map_cons, List.mem_cons]; exact .inr h2)
      · cases a with
        | nil =>
          rw [List.nil_append] at e
          injection e with e1 e2
          subst e1
          have : j = k := by omega
          subst this
          exact .inl (m2 i hi ha)
        | cons z a =>
          rw [List.cons_append] at e
          injection e with e1 e2
          rcases ih.ord i j hi hj ha a y b e2 ey with h2 | h2
          · rcases next_bit.1 h2 with h3 | h3
            · exact .inl h3
            · exact .inr (by rw [List.map_cons, List.mem_cons]; left; rw [← e1]; omega)
          · exact .inr (by rw [List.map_cons, List.mem_cons]; exact .inr h2)
      · have hg := ih.goes t
        rw [ownD_cons, hat]
        by_cases ht : (cs.getD k default).thing.toNat = t
        · rw [if_pos ht, goes_cons]
          unfold ddC
          rw [hat]
          subst ht
          refine ⟨m3, hr, ?_⟩
          have e : (nextP ts cs p k).st (cs.getD k default).thing.toNat = (thingO ts cs p k).1 := if_pos rfl
          rw [e] at hg
          exact hg
        · rw [if_neg ht]
          have e : (nextP ts cs p k).st t = p.st t := if_neg (fun h => ht h.symm)
          rw [e] at hg
          exact hg
    · intro h
      have h01 := h.rng x List.mem_cons_self
      obtain ⟨k, hk⟩ : ∃ k : Nat, x.1 = (k : Int) := ⟨x.1.toNat, by omega⟩
      have hk2 : x.1.toNat = k := by omega
      have hkn : k < cs.length := by omega
      have hat : atC cs x = cs.getD k default := by unfold atC; rw [hk2]
      rw [hk2]
      have hg := h.goes (cs.getD k default).thing.toNat
      rw [ownD_cons, hat, if_pos rfl, goes_cons] at hg
      unfold ddC at hg
      rw [hat] at hg
      obtain ⟨g1, g2, g3⟩ := hg
      have hf := h.fresh x List.mem_cons_self
      rw [hk2] at hf
      refine ⟨⟨⟨h01, (may_iff hd hn hkn).2 ⟨hf, fun i hi ha => ?_, g1, fun ht => ?_⟩⟩, g2⟩, (rt_iff hn r _ (next_lt hd (by omega : k < 16))).2 ⟨fun y hy => h.rng y (List.mem_cons_of_mem _ hy), fun y hy => ?_, ?_, fun y hy => h.res y (List.mem_cons_of_mem _ hy), fun i hi ht => ?_, fun i j hi hj ha a y b e ey => ?_, fun t => ?_⟩⟩
      · rcases h.ord i k hi hkn ha [] x r rfl hk with h2 | h2
        · exact h2
        · simp at h2
      · have := h.res x List.mem_cons_self
        rw [hat] at this
        rw [this ht]
        exact g2.symm
      · have h2 := h.fresh y (List.mem_cons_of_mem _ hy)
        have h3 := h.once
        rw [List.map_cons, List.nodup_cons] at h3
        cases hb : (nextP ts cs p k).done.testBit y.1.toNat
        · rfl
        · rcases next_bit.1 hb with h4 | h4
          · rw [h2] at h4; cases h4
          · have h5 := h.rng y (List.mem_cons_of_mem _ hy)
            exact absurd (List.mem_map.2 ⟨y, hy, by omega⟩) h3.1
      · have h3 := h.once
        rw [List.map_cons, List.nodup_cons] at h3
        exact h3.2
      · rcases h.all i hi ht with h2 | h2
        · exact .inl (next_bit.2 (.inl h2))
        · rw [List.map_cons, List.mem_cons] at h2
          rcases h2 with h2 | h2
          · exact .inl (next_bit.2 (.inr (by omega)))
          · exact .inr h2
      · rcases h.ord i j hi hj ha (x :: a) y b (by rw [e]; rfl) ey with h2 | h2
        · exact .inl (next_bit.2 (.inl h2))
        · rw [List.map_cons, List.mem_cons] at h2
          rcases h2 with h2 | h2
          · exact .inl (next_bit.2 (.inr (by omega)))
          · exact .inr h2
      · have hg := h.goes t
        rw [ownD_cons, hat] at hg
        by_cases ht : (cs.getD k default).thing.toNat = t
        · subst ht
          have e : (nextP ts cs p k).st (cs.getD k default).thing.toNat = (thingO ts cs p k).1 := if_pos rfl
          rw [e]
          exact g3
        · rw [if_neg ht] at hg
          have e : (nextP ts cs p k).st t = p.st t := if_neg (fun h => ht h.symm)
          rw [e]
          exact hg
/-- What Right answers. -/
theorem rite_iff {ts : List Int} {cs : List Cl} (hn : cs.length ≤ 16) (hth : ∀ c, c ∈ cs → 0 ≤ c.thing ∧ c.thing < ts.length) {ws : List (Int × Int)} : rightO Rl ts cs (startP ts) ws = true ↔ RiteP ts cs Rl ws := by
  rw [rt_iff hn ws (startP ts) (by show 0 < 65536; decide)]
  have h0 : ∀ i, (startP ts).done.testBit i = false := fun i => Nat.zero_testBit i
  constructor
  · intro h
    refine ⟨h.rng, h.once, h.res, fun i hi ht => (h.all i hi ht).resolve_left (by rw [h0]; decide), fun i j hi hj ha a y b e ey => (h.ord i j hi hj ha a y b e ey).resolve_left (by rw [h0]; decide), fun t ht => ?_⟩
    have := h.goes t
    unfold startP at this
    simpa [ht] using this
  · intro h
    refine ⟨h.rng, fun x _ => h0 _, h.once, h.res, fun i hi ht => .inr (h.all i hi ht), fun i j hi hj ha a y b e ey => .inr (h.ord i j hi hj ha a y b e ey), fun t => ?_⟩
    by_cases ht : t < ts.length
    · have := h.goes t ht
      unfold startP
      simpa [ht] using this
    · rw [ownD_none hth h.rng (by omega)]
      rfl
/-- One is found just if there is a right one. -/
theorem found_rite {ts : List Int} {cs : List Cl} (hn : cs.length ≤ 16) (hth : ∀ c, c ∈ cs → 0 ≤ c.thing ∧ c.thing < ts.length) : foundO Rl ts cs ≠ none ↔ ∃ ws, RiteP ts cs Rl ws := by
  constructor
  · intro h
    cases hf : foundO Rl ts cs with
    | none => exact absurd hf h
    | some S => exact ⟨_, (rite_iff hn hth).1 (found_right hf)⟩
  · rintro ⟨ws, h⟩
    obtain ⟨S, hS, _⟩ := found_iff ((rite_iff hn hth).2 h)
    rw [hS]
    exact Option.some_ne_none S
end Go.Proofs.YtfgangkpebkicaaGreatDoor

/-
  Plain mathematics for parts: the events of one thing of a history are one.
-/
namespace Go.Proofs.YtfgangkpebkicaaGreatDoor
set_option maxRecDepth 20000
/-- What somebody waits for: the thing and the kind. -/
def openK (cs : List Cl) (who : Int) : Option (Int × Int) := if 0 ≤ openOf cs who then some ((cs.getD (openOf cs who).toNat default).thing, (cs.getD (openOf cs who).toNat default).kind) else none
def updK (o : Int → Option (Int × Int)) (who : Int) (v : Option (Int × Int)) : Int → Option (Int × Int) := fun w => if w = who then v else o w
/-- One more event, by what all wait for. -/
def stepK (ts : List Int) (o : Int → Option (Int × Int)) (x : Ev) : Option (Int → Option (Int × Int)) :=
  if ¬ (0 ≤ x.who ∧ x.who ≤ 7) ∨ ¬ (0 ≤ x.thing ∧ x.thing < ts.length) then none
  else if x.kind = 0 then
    match o x.who with
    | none => none
    | some tk => if tk.1 = x.thing ∧ givesB tk.2 x.val = true then some (updK o x.who none) else none
  else if fitsB (ts.getD x.thing.toNat 0) x.kind = true ∧ takesB x.kind x.val = true ∧ o x.who = none then some (updK o x.who (some (x.thing, x.kind))) else none
theorem openK_none {cs : List Cl} {who : Int} (h : openOf cs who < 0) : openK cs who = none := by
  unfold openK
  rw [if_neg (by omega)]
theorem openK_ways (cs : List Cl) (who : Int) : (openOf cs who < 0 ∧ openK cs who = none) ∨ ∃ (i : Nat) (c : Cl), cs[i]? = some c ∧ c.who = who ∧ c.til = -1 ∧ openOf cs who = (i : Int) ∧ openK cs who = some (c.thing, c.kind) := by
  by_cases h : 0 ≤ openOf cs who
  · obtain ⟨c, e1, e2, e3, e4⟩ := openOf_at h
    refine .inr ⟨_, c, e1, e2, e3, by omega, ?_⟩
    unfold openK
    rw [if_pos h, List.getD_eq_getElem?_getD, e1]
    rfl
  · exact .inl ⟨by omega, openK_none (by omega)⟩
theorem openK_snoc (cs : List Cl) (c : Cl) (ht : c.til = -1) : openK (cs ++ [c]) = updK (openK cs) c.who (some (c.thing, c.kind)) := by
  funext w
  unfold openK updK
  by_cases e : w = c.who
  · subst e
    have h1 : openOf (cs ++ [c]) c.who = (cs.length : Int) := by rw [openOf_snoc, if_pos ⟨rfl, ht⟩]
    rw [h1, if_pos (by omega), if_pos rfl, Int.toNat_natCast]
    simp
  · have h1 : openOf (cs ++ [c]) w = openOf cs w := by rw [openOf_snoc, if_neg (fun h => e h.1.symm)]
    rw [h1, if_neg e]
    show _ = if 0 ≤ openOf cs w then _ else _
    split
    · have := openOf_lt cs w
      rw [List.getD_eq_getElem?_getD, List.getElem?_append, if_pos (by omega), ← List.getD_eq_getElem?_getD]
    · rfl
theorem openK_set {cs : List Cl} (h : OneOpen cs) {who : Int} (h0 : 0 ≤ openOf cs who) {c : Cl} (hc : c.til ≠ -1) : openK (cs.set (openOf cs who).toNat c) = updK (openK cs) who none := by
  funext w
  unfold openK updK
  rw [openOf_set h h0 hc]
  by_cases e : w = who
  · subst e
    simp
  · rw [if_neg e, if_neg e]
    show _ = if 0 ≤ openOf cs w then _ else _
    by_cases hw : 0 ≤ openOf cs w
    · rw [if_pos hw, if_pos hw]
      have hne : (openOf cs who).toNat ≠ (openOf cs w).toNat := by
        intro he
        obtain ⟨a, a1, a2, a3, a4⟩ := openOf_at h0
        obtain ⟨b, b1, b2, b3, b4⟩ := openOf_at hw
        rw [he, b1] at a1
        injection a1 with a1
        subst a1
        exact e (b2.symm.trans a2)
      rw [List.getD_eq_getElem?_getD, List.getElem?_set, if_neg hne, ← List.getD_eq_getElem?_getD]
    · rw [if_neg hw, if_neg hw]
theorem step_K {ts : List Int} {n : Nat} {cs : List Cl} {x : Ev} (h1 : OneOpen cs) :
    (∃ e, step ts n cs x = .inl e ∧ stepK ts (openK cs) x = none) ∨ (∃ cs', step ts n cs x = .inr cs' ∧ OneOpen cs' ∧ stepK ts (openK cs) x = some (openK cs')) := by
  unfold step stepK
  by_cases hr : ¬ (0 ≤ x.who ∧ x.who ≤ 7) ∨ ¬ (0 ≤ x.thing ∧ x.thing < ts.length)
  · rw [if_pos hr, if_pos hr]; exact .inl ⟨_, rfl, rfl⟩
  · rw [if_neg hr, if_neg hr]
    by_cases hk : x.kind = 0
    · rw [if_pos hk, if_pos hk]
      unfold respS
      rcases openK_ways cs x.who with ⟨a1, a2⟩ | ⟨i, c, b1, b2, b3, b4, b5⟩
      · rw [if_pos a1, a2]; exact .inl ⟨_, rfl, rfl⟩
      · have hg : cs.getD (openOf cs x.who).toNat default = c := by rw [b4, Int.toNat_natCast, List.getD_eq_getElem?_getD, b1]; rfl
        rw [if_neg (by omega), hg, b5]
        simp only
        by_cases hg2 : c.thing = x.thing ∧ givesB c.kind x.val = true
        · rw [if_neg (by rintro (h | h); exact h hg2.1; rw [hg2.2] at h; cases h), if_pos hg2]
          have ht : ({ c with res := x.val, til := (n : Int) } : Cl).til ≠ -1 := by show (n : Int) ≠ -1; omega
          exact .inr ⟨_, rfl, h1.set _ ht, by rw [openK_set h1 (by omega) ht]⟩
        · rw [if_pos (by
            by_cases hq : c.thing = x.thing
            · right
              cases hgv : givesB c.kind x.val
              · rfl
              · exact absurd ⟨hq, hgv⟩ hg2
            · exact .inl hq), if_neg hg2]
          exact .inl ⟨_, rfl, rfl⟩
    · rw [if_neg hk, if_neg hk]
      unfold invS
      by_cases hf : fitsB (ts.getD x.thing.toNat 0) x.kind = true ∧ takesB x.kind x.val = true
      · rw [if_neg (by rintro (h | h); rw [hf.1] at h; cases h; rw [hf.2] at h; cases h)]
        rcases openK_ways cs x.who with ⟨a1, a2⟩ | ⟨i, c, b1, b2, b3, b4, b5⟩
        · rw [if_neg (by omega), a2, if_pos ⟨hf.1, hf.2, rfl⟩]
          exact .inr ⟨_, rfl, h1.snoc a1, by rw [openK_snoc _ _ rfl]⟩
        · rw [if_pos (by omega), b5, if_neg (fun h => by cases h.2.2)]
          exact .inl ⟨_, rfl, rfl⟩
      · rw [if_pos (by
          cases h2 : fitsB (ts.getD x.thing.toNat 0) x.kind
          · exact .inl rfl
          · right
            cases h3 : takesB x.kind x.val
            · rfl
            · exact absurd ⟨h2, h3⟩ hf), if_neg (fun h => hf ⟨h.1, h.2.1⟩)]
        exact .inl ⟨_, rfl, rfl⟩
/-- What is waited for of thing q alone. -/
def only (q : Int) (o : Int → Option (Int × Int)) : Int → Option (Int × Int) := fun w => (o w).filter fun tk => tk.1 == q
theorem calls_zero {ts : List Int} {l : List Ev} (h : (callsOf ts l).2.2 = 0) : typesB ts = true ∧ l.length ≤ 200 ∧ callsOf ts l = run ts 0 [] l := by
  unfold callsOf at h ⊢
  cases hb : typesB ts
  · rw [hb, if_pos rfl] at h; cases h
  · rw [hb, if_neg (by decide)] at h
    rw [if_neg (by decide)]
    split at h
    · cases h
    · rename_i hl
      exact ⟨rfl, by omega, if_neg hl⟩
end Go.Proofs.YtfgangkpebkicaaGreatDoor

/-
  Plain: what is known of each call of a history.
-/
namespace Go.Proofs.YtfgangkpebkicaaGreatDoor
open Go.RowKit
set_option maxRecDepth 20000
theorem getD_some {cs : List Cl} {i : Nat} (h : i < cs.length) : cs[i]? = some (cs.getD i default) := by
  rw [List.getD_eq_getElem?_getD, List.getElem?_eq_getElem h]
  rfl
structure CallOk (ts : List Int) (c : Cl) : Prop where
  who : 0 ≤ c.who ∧ c.who ≤ 7
  thing : 0 ≤ c.thing ∧ c.thing < ts.length
  fits : fitsB (ts.getD c.thing.toNat 0) c.kind = true
  takes : takesB c.kind c.arg = true
theorem step_callOk {ts : List Int} {n : Nat} {cs cs' : List Cl} {x : Ev} (h : ∀ c ∈ cs, CallOk ts c) (hs : step ts n cs x = .inr cs') : ∀ c ∈ cs', CallOk ts c := by
  unfold step at hs
  split at hs
  · cases hs
  · rename_i hr
    split at hs
    · unfold respS at hs
      split at hs
      · cases hs
      · rename_i ho
        split at hs
        · cases hs
        · injection hs with hs
          subst hs
          intro c hc
          rcases List.mem_or_eq_of_mem_set hc with hc | rfl
          · exact h c hc
          · obtain ⟨d, e1, e2, e3, e4⟩ := openOf_at (cs := cs) (who := x.who) (by omega)
            have := h _ (List.mem_of_getElem? (getD_some e4))
            exact ⟨this.who, this.thing, this.fits, this.takes⟩
    · unfold invS at hs
      split at hs
      · cases hs
      · rename_i hg
        split at hs
        · cases hs
        · injection hs with hs
          subst hs
          intro c hc
          rcases List.mem_append.1 hc with hc | hc
          · exact h c hc
          · rw [List.mem_singleton] at hc
            subst hc
            refine ⟨?_, ?_, ?_, ?_⟩
            · exact Classical.byContradiction fun hn => hr (.inl hn)
            · exact Classical.byContradiction fun hn => hr (.inr hn)
            · exact Classical.byContradiction fun hn => hg (.inl (by simpa using hn))
            · exact Classical.byContradiction fun hn => hg (.inr (by simpa using hn))
theorem run_callOk {ts : List Int} : ∀ (l : List Ev) (n : Nat) (cs : List Cl), (∀ c ∈ cs, CallOk ts c) → (run ts n cs l).2.2 = 0 → ∀ c ∈ (run ts n cs l).1, CallOk ts c
  | [], _, _, h, _ => h
  | x :: r, n, cs, h, h0 => by
    rw [run] at h0 ⊢
    cases hs : step ts n cs x with
    | inl e => rw [hs] at h0; exact absurd h0 (step_err hs)
    | inr cs' =>
      rw [hs] at h0
      exact run_callOk r (n + 1) cs' (step_callOk h hs) h0
theorem calls_callOk {ts : List Int} {l : List Ev} (h : (callsOf ts l).2.2 = 0) : ∀ c ∈ (callsOf ts l).1, CallOk ts c := by
  obtain ⟨_, _, e⟩ := calls_zero h
  rw [e] at h ⊢
  exact run_callOk l 0 [] (fun c hc => by simp at hc) h
/-- What one event does, if it may be: an answer, or a call. -/
theorem step_ways {ts : List Int} {n : Nat} {cs cs' : List Cl} {x : Ev} (hs : step ts n cs x = .inr cs') :
    (x.kind = 0 ∧ ∃ i, i < cs.length ∧ openOf cs x.who = (i : Int) ∧ (cs.getD i default).who = x.who ∧ (cs.getD i default).til = -1 ∧ cs' = cs.set i { cs.getD i default with res := x.val, til := n } ∧
      (∀ (m : Nat) (ds : List Cl) (j : Nat) (d : Cl), openOf ds x.who = (j : Int) → ds.getD j default = d → d.thing = (cs.getD i default).thing → d.kind = (cs.getD i default).kind → step ts m ds x = .inr (ds.set j { d with res := x.val, til := m }))) ∨
    (x.kind ≠ 0 ∧ openOf cs x.who < 0 ∧ cs' = cs ++ [⟨x.who, x.thing, x.kind, x.val, 0, n, -1⟩] ∧
      (∀ (m : Nat) (ds : List Cl), openOf ds x.who < 0 → step ts m ds x = .inr (ds ++ [⟨x.who, x.thing, x.kind, x.val, 0, m, -1⟩]))) := by
  unfold step at hs
  split at hs
  · cases hs
  · rename_i hr
    split at hs
    · rename_i hk
      left
      unfold respS at hs
      split at hs
      · cases hs
      · rename_i ho
        split at hs
        · cases hs
        · rename_i hg
          injection hs with hs
          obtain ⟨c, e1, e2, e3, e4⟩ := openOf_at (cs := cs) (who := x.who) (by omega)
          have hgd : cs.getD (openOf cs x.who).toNat default = c := by rw [List.getD_eq_getElem?_getD, e1]; rfl
          refine ⟨hk, (openOf cs x.who).toNat, e4, by omega, by rw [hgd]; exact e2, by rw [hgd]; exact e3, hs.symm, fun m ds j d o1 o2 o3 o4 => ?_⟩
          unfold step
          rw [if_neg hr, if_pos hk]
          unfold respS
          rw [if_neg (by omega), o1, Int.toNat_natCast, o2, if_neg (by rw [o3, o4]; exact hg)]
    · rename_i hk
      right
      unfold invS at hs
      split at hs
      · cases hs
      · rename_i hg
        split at hs
        · cases hs
        · rename_i ho
          injection hs with hs
          refine ⟨hk, by omega, hs.symm, fun m ds o1 => ?_⟩
          unfold step
          rw [if_neg hr, if_neg hk]
          unfold invS
          rw [if_neg hg, if_neg (by omega)]
end Go.Proofs.YtfgangkpebkicaaGreatDoor
