/-
  Joined by a program out of: RightPure, LinSay, RSearchW, HistArg, PowArg, End.
-/
import Derived.Test.YthjmncngegchjaaGreatDoorMgBG
import Derived.Test.YthjmncngegchjaaGreatDoorMgAR
import Derived.Test.YthjmncngegchjaaGreatDoorMgAA
import Derived.Test.YthjmncngegchjaaGreatDoorMgAD
import Derived.Test.YthjmncngegchjaaGreatDoorMgAQ
import Derived.Laws.StructEq
import Derived.Deep.QuietTactic
import Derived.BigQuiet
import Derived.Test.YthjmncngegchjaaGreatDoorMgAP
import Derived.Test.YthjmncngegchjaaGreatDoorMgAU
import Derived.Test.YthjmncngegchjaaGreatDoorRows
import Derived.Carry
import Derived.Deep.Slices
import Derived.OpenShut
import Derived.ProofKit
import Derived.Lib.LaidTab
import Derived.LaidMore
import Derived.Lay
import Derived.Below

/-
  Plain: what a right order is, told without points.
-/
namespace Go.Proofs.YthjmncngegchjaaGreatDoor
open Go.RowKit
set_option maxRecDepth 20000
variable {Rl : Nat → Nat → Bool}
/-- A right order from a point on. -/
structure Rt (Rl : Nat → Nat → Bool) (ts : List Int) (cs : List Cl) (p : Pt) (ws : List (Int × Int)) : Prop where
  rng : ∀ x ∈ ws, 0 ≤ x.1 ∧ x.1 < cs.length
  fresh : ∀ x ∈ ws, p.done.testBit x.1.toNat = false
  once : (ws.map (·.1)).Nodup
  res : ∀ x ∈ ws, (atC cs x).til ≠ -1 → (atC cs x).res = x.2
  all : ∀ i, i < cs.length → (cs.getD i default).til ≠ -1 → p.done.testBit i = true ∨ (i : Int) ∈ ws.map (·.1)
  ord : ∀ i j, i < cs.length → j < cs.length → Rl i j = true → ∀ a y b, ws = a ++ y :: b → y.1 = (j : Int) → p.done.testBit i = true ∨ (i : Int) ∈ a.map (·.1)
  goes : ∀ t, goesB (ts.getD t 0) (p.st t) (ownD cs t ws) = true
theorem inv_bit {d j : Nat} (hd : d < 65536) (hj : j < 16) : (65535 - d).testBit j = !d.testBit j := by
  rw [show (65535 - d) = 2 ^ 16 - (d + 1) by omega, Nat.testBit_two_pow_sub_succ (by omega : d < 2 ^ 16)]
  simp [hj]
theorem full_iff {cs : List Cl} {p : Pt} (hd : p.done < 65536) (hn : cs.length ≤ 16) : fullB cs p = true ↔ ∀ i, i < cs.length → (cs.getD i default).til ≠ -1 → p.done.testBit i = true := by
  unfold fullB
  rw [beq_iff_eq]
  constructor
  · intro h i hi ht
    have h1 : (ansP cs &&& (65535 - p.done)).testBit i = false := by rw [h]; exact Nat.zero_testBit i
    rw [Nat.testBit_and, inv_bit hd (by omega)] at h1
    unfold ansP at h1
    rw [pickS_bit, decide_eq_true hi, decide_eq_true ht] at h1
    simpa using h1
  · intro h
    apply Nat.eq_of_testBit_eq
    intro j
    rw [Nat.testBit_and, Nat.zero_testBit]
    unfold ansP
    rw [pickS_bit]
    by_cases hj : j < cs.length
    · rw [inv_bit hd (by omega)]
      by_cases ht : (cs.getD j default).til ≠ -1
      · rw [h j hj ht]; simp
      · rw [decide_eq_false ht]; simp
    · rw [decide_eq_false hj]; simp
theorem may_iff {ts : List Int} {cs : List Cl} {p : Pt} {k : Nat} (hd : p.done < 65536) (hn : cs.length ≤ 16) (hk : k < cs.length) : mayB Rl ts cs p k = true ↔
    p.done.testBit k = false ∧ (∀ i, i < cs.length → Rl i k = true → p.done.testBit i = true) ∧ (thingO ts cs p k).2.2 = 0 ∧ ((cs.getD k default).til ≠ -1 → (cs.getD k default).res = (thingO ts cs p k).2.1) := by
  unfold mayB
  simp only [Bool.and_eq_true, Bool.not_eq_true', beq_iff_eq, Bool.or_eq_true]
  have h1 : befP Rl cs k &&& (65535 - p.done) = 0 ↔ ∀ i, i < cs.length → Rl i k = true → p.done.testBit i = true := by
    constructor
    · intro h i hi ha
      have h1 : (befP Rl cs k &&& (65535 - p.done)).testBit i = false := by rw [h]; exact Nat.zero_testBit i
      rw [Nat.testBit_and, inv_bit hd (by omega)] at h1
      unfold befP at h1
      rw [relP_bit, decide_eq_true hi, decide_eq_true hk, ha] at h1
      simpa using h1
    · intro h
      apply Nat.eq_of_testBit_eq
      intro j
      rw [Nat.testBit_and, Nat.zero_testBit]
      unfold befP
      rw [relP_bit]
      by_cases hj : j < cs.length
      · rw [inv_bit hd (by omega)]
        cases ha : Rl j k
        · simp
        · rw [h j hj ha]; simp
      · rw [decide_eq_false hj]; simp
  rw [h1]
  constructor
  · rintro ⟨⟨⟨a, b⟩, c⟩, d⟩
    exact ⟨a, b, c, fun ht => by rcases d with d | d; exact absurd d ht; exact d.symm⟩
  · rintro ⟨a, b, c, d⟩
    refine ⟨⟨⟨a, b⟩, c⟩, ?_⟩
    by_cases ht : (cs.getD k default).til = -1
    · exact .inl ht
    · exact .inr (d ht).symm
theorem next_lt {ts : List Int} {cs : List Cl} {p : Pt} {k : Nat} (hd : p.done < 65536) (hk : k < 16) : (nextP ts cs p k).done < 65536 := by
  show p.done ||| 2 ^ k < 2 ^ 16
  exact Nat.or_lt_two_pow hd (Nat.pow_lt_pow_right (by omega) hk)
theorem next_bit {ts : List Int} {cs : List Cl} {p : Pt} {k i : Nat} : (nextP ts cs p k).done.testBit i = true ↔ p.done.testBit i = true ∨ k = i := by
  show (p.done ||| 2 ^ k).testBit i = true ↔ _
  rw [Nat.testBit_or, Nat.testBit_two_pow, Bool.or_eq_true, decide_eq_true_iff]
theorem rt_iff {ts : List Int} {cs : List Cl} (hn : cs.length ≤ 16) : ∀ (ws : List (Int × Int)) (p : Pt), p.done < 65536 → (rightO Rl ts cs p ws = true ↔ Rt Rl ts cs p ws)
  | [], p, hd => by
    rw [rightO, full_iff hd hn]
    constructor
    · intro h
      exact ⟨fun x hx => by simp at hx, fun x hx => by simp at hx, by simp, fun x hx => by simp at hx, fun i hi ht => .inl (h i hi ht), fun i j _ _ _ a y b e => by simp at e, fun t => rfl⟩
    · intro h i hi ht
      rcases h.all i hi ht with h1 | h1
      · exact h1
      · simp at h1
  | x :: r, p, hd => by
    rw [rightO]
    have hrw : ∀ {c : Prop} [Decidable c] {b : Bool}, ((if c then b else false) = true) ↔ (c ∧ b = true) := by
      intro c _ b
      split <;> simp_all
    rw [hrw]
    unfold nextB
    rw [Bool.and_eq_true, decide_eq_true_iff]
    constructor
    · rintro ⟨⟨⟨⟨h0, h1⟩, hm⟩, hr⟩, h⟩
      obtain ⟨k, hk⟩ : ∃ k : Nat, x.1 = (k : Int) := ⟨x.1.toNat, by omega⟩
      have hk2 : x.1.toNat = k := by omega
      rw [hk2] at hm hr h
      have hkn : k < cs.length := by omega
      have ih := (rt_iff hn r _ (next_lt (ts := ts) (cs := cs) hd (by omega : k < 16))).1 h
      obtain ⟨m1, m2, m3, m4⟩ := (may_iff hd hn hkn).1 hm
      have hat : atC cs x = cs.getD k default := by unfold atC; rw [hk2]
      refine ⟨fun y hy => ?_, fun y hy => ?_, ?_, fun y hy ht => ?_, fun i hi ht => ?_, fun i j hi hj ha a y b e ey => ?_, fun t => ?_⟩
      · rcases List.mem_cons.1 hy with rfl | hy
        · exact ⟨h0, h1⟩
        · exact ih.rng y hy
      · rcases List.mem_cons.1 hy with rfl | hy
        · rw [hk2]; exact m1
        · cases hb : p.done.testBit y.1.toNat
          · rfl
          · have := ih.fresh y hy
            rw [(next_bit (ts := ts) (cs := cs) (p := p) (k := k)).2 (.inl hb)] at this
            cases this
      · rw [List.map_cons, List.nodup_cons]
        refine ⟨fun hc => ?_, ih.once⟩
        obtain ⟨y, hy, e⟩ := List.mem_map.1 hc
        have := ih.fresh y hy
        rw [(next_bit (ts := ts) (cs := cs) (p := p) (k := k)).2 (.inr (by omega))] at this
        cases this
      · rcases List.mem_cons.1 hy with rfl | hy
        · rw [hat] at ht ⊢
          rw [m4 ht, hr]
        · exact ih.res y hy ht
      · rcases ih.all i hi ht with h2 | h2
        · rcases next_bit.1 h2 with h3 | h3
          · exact .inl h3
          · exact .inr (by rw [List.map_cons, List.mem_cons]; left; omega)
        · exact .inr (by rw [List.map_cons, List.mem_cons]; exact .inr h2)
      · cases a with
        | nil =>
          rw [List.nil_append] at e
          injection e with e1 e2
          subst e1
          have : j = k := by omega
          subst this
          exact .inl (m2 i hi ha)
        | cons z a =>
          rw [List.cons_append] at e
          injection e with e1 e2
          rcases ih.ord i j hi hj ha a y b e2 ey with h2 | h2
          · rcases next_bit.1 h2 with h3 | h3
            · exact .inl h3
            · exact .inr (by rw [List.map_cons, List.mem_cons]; left; rw [← e1]; omega)
          · exact .inr (by rw [List.map_cons, List.mem_cons]; exact .inr h2)
      · have hg := ih.goes t
        rw [ownD_cons, hat]
        by_cases ht : (cs.getD k default).thing.toNat = t
        · rw [if_pos ht, goes_cons]
          unfold ddC
          rw [hat]
          subst ht
          refine ⟨m3, hr, ?_⟩
          have e : (nextP ts cs p k).st (cs.getD k default).thing.toNat = (thingO ts cs p k).1 := if_pos rfl
          rw [e] at hg
          exact hg
        · rw [if_neg ht]
          have e : (nextP ts cs p k).st t = p.st t := if_neg (fun h => ht h.symm)
          rw [e] at hg
          exact hg
    · intro h
      have h01 := h.rng x List.mem_cons_self
      obtain ⟨k, hk⟩ : ∃ k : Nat, x.1 = (k : Int) := ⟨x.1.toNat, by omega⟩
      have hk2 : x.1.toNat = k := by omega
      have hkn : k < cs.length := by omega
      have hat : atC cs x = cs.getD k default := by unfold atC; rw [hk2]
      rw [hk2]
      have hg := h.goes (cs.getD k default).thing.toNat
      rw [ownD_cons, hat, if_pos rfl, goes_cons] at hg
      unfold ddC at hg
      rw [hat] at hg
      obtain ⟨g1, g2, g3⟩ := hg
      have hf := h.fresh x List.mem_cons_self
      rw [hk2] at hf
      refine ⟨⟨⟨h01, (may_iff hd hn hkn).2 ⟨hf, fun i hi ha => ?_, g1, fun ht => ?_⟩⟩, g2⟩, (rt_iff hn r _ (next_lt hd (by omega : k < 16))).2 ⟨fun y hy => h.rng y (List.mem_cons_of_mem _ hy), fun y hy => ?_, ?_, fun y hy => h.res y (List.mem_cons_of_mem _ hy), fun i hi ht => ?_, fun i j hi hj ha a y b e ey => ?_, fun t => ?_⟩⟩
      · rcases h.ord i k hi hkn ha [] x r rfl hk with h2 | h2
        · exact h2
        · simp at h2
      · have := h.res x List.mem_cons_self
        rw [hat] at this
        rw [this ht]
        exact g2.symm
      · have h2 := h.fresh y (List.mem_cons_of_mem _ hy)
        have h3 := h.once
        rw [List.map_cons, List.nodup_cons] at h3
        cases hb : (nextP ts cs p k).done.testBit y.1.toNat
        · rfl
        · rcases next_bit.1 hb with h4 | h4
          · rw [h2] at h4; cases h4
          · have h5 := h.rng y (List.mem_cons_of_mem _ hy)
            exact absurd (List.mem_map.2 ⟨y, hy, by omega⟩) h3.1
      · have h3 := h.once
        rw [List.map_cons, List.nodup_cons] at h3
        exact h3.2
      · rcases h.all i hi ht with h2 | h2
        · exact .inl (next_bit.2 (.inl h2))
        · rw [List.map_cons, List.mem_cons] at h2
          rcases h2 with h2 | h2
          · exact .inl (next_bit.2 (.inr (by omega)))
          · exact .inr h2
      · rcases h.ord i j hi hj ha (x :: a) y b (by rw [e]; rfl) ey with h2 | h2
        · exact .inl (next_bit.2 (.inl h2))
        · rw [List.map_cons, List.mem_cons] at h2
          rcases h2 with h2 | h2
          · exact .inl (next_bit.2 (.inr (by omega)))
          · exact .inr h2
      · have hg := h.goes t
        rw [ownD_cons, hat] at hg
        by_cases ht : (cs.getD k default).thing.toNat = t
        · subst ht
          have e : (nextP ts cs p k).st (cs.getD k default).thing.toNat = (thingO ts cs p k).1 := if_pos rfl
          rw [e]
          exact g3
        · rw [if_neg ht] at hg
          have e : (nextP ts cs p k).st t = p.st t := if_neg (fun h => ht h.symm)
          rw [e]
          exact hg
/-- What Right answers. -/
theorem rite_iff {ts : List Int} {cs : List Cl} (hn : cs.length ≤ 16) (hth : ∀ c, c ∈ cs → 0 ≤ c.thing ∧ c.thing < ts.length) {ws : List (Int × Int)} : rightO Rl ts cs (startP ts) ws = true ↔ RiteP ts cs Rl ws := by
  rw [rt_iff hn ws (startP ts) (by show 0 < 65536; decide)]
  have h0 : ∀ i, (startP ts).done.testBit i = false := fun i => Nat.zero_testBit i
  constructor
  · intro h
    refine ⟨h.rng, h.once, h.res, fun i hi ht => (h.all i hi ht).resolve_left (by rw [h0]; decide), fun i j hi hj ha a y b e ey => (h.ord i j hi hj ha a y b e ey).resolve_left (by rw [h0]; decide), fun t ht => ?_⟩
    have := h.goes t
    unfold startP at this
    simpa [ht] using this
  · intro h
    refine ⟨h.rng, fun x _ => h0 _, h.once, h.res, fun i hi ht => .inr (h.all i hi ht), fun i j hi hj ha a y b e ey => .inr (h.ord i j hi hj ha a y b e ey), fun t => ?_⟩
    by_cases ht : t < ts.length
    · have := h.goes t ht
      unfold startP
      simpa [ht] using this
    · rw [ownD_none hth h.rng (by omega)]
      rfl
/-- One is found just if there is a right one. -/
theorem found_rite {ts : List Int} {cs : List Cl} (hn : cs.length ≤ 16) (hth : ∀ c, c ∈ cs → 0 ≤ c.thing ∧ c.thing < ts.length) : foundO Rl ts cs ≠ none ↔ ∃ ws, RiteP ts cs Rl ws := by
  constructor
  · intro h
    cases hf : foundO Rl ts cs with
    | none => exact absurd hf h
    | some S => exact ⟨_, (rite_iff hn hth).1 (found_right hf)⟩
  · rintro ⟨ws, h⟩
    obtain ⟨S, hS, _⟩ := found_iff ((rite_iff hn hth).2 h)
    rw [hS]
    exact Option.some_ne_none S
end Go.Proofs.YthjmncngegchjaaGreatDoor

/-
  What Find and Right answer, in one word each; what that means.
-/
namespace Go.Proofs.YthjmncngegchjaaGreatDoor
open Go.RowKit
set_option maxRecDepth 20000
/-- Is one found, by a relation? -/
def fndB (p : Nat → Nat → Bool) (ts : List Int) (o : List Cl × Nat × Int) : Bool := decide (searchE o = 0) && (foundO p ts o.1).isSome
/-- What is found. -/
def fndL (p : Nat → Nat → Bool) (ts : List Int) (o : List Cl × Nat × Int) : List (Int × Int) := if searchE o = 0 then asSteps ((foundO p ts o.1).getD []) else []
/-- Is one found? -/
def foundB (ts : List Int) (o : List Cl × Nat × Int) : Bool := decide (searchE o = 0) && (foundO (aheadB o.1) ts o.1).isSome
/-- What is found. -/
def foundL (ts : List Int) (o : List Cl × Nat × Int) : List (Int × Int) := if searchE o = 0 then asSteps ((foundO (aheadB o.1) ts o.1).getD []) else []
theorem SOwn.t {w : World} {B : Nat} {v : Value} {S : List (Nat × Int)} (h : SOwn w B v S) : TOwn w B v (asSteps S) := by
  have h1 : (asSteps S).length = S.length := by unfold asSteps; exact List.length_map _
  have h2 : (asSteps S).flatMap spCs = S.flatMap stCs := by unfold asSteps; rw [List.flatMap_map]
  unfold TOwn
  rw [h1, h2]
  exact h
theorem fnd_of {p : Nat → Nat → Bool} {ts : List Int} {o : List Cl × Nat × Int} {w w' : World} {e : Ending} (h0 : FindPost p w ts o e w') :
    Below w.heap.size w w' ∧ ∃ v, e = .returned (.tuple #[v, .bool (fndB p ts o), .int .i64 (searchE o)]) ∧ TOwn w' w.heap.size v (fndL p ts o) := by
  obtain ⟨hb, h⟩ := h0
  refine ⟨hb, ?_⟩
  rcases h with ⟨h1, rfl⟩ | ⟨h1, ⟨h2, rfl⟩ | ⟨S, v, h2, rfl, h3⟩⟩
  · refine ⟨.slice none 0 0, ?_, ?_⟩
    · unfold fndB; rw [decide_eq_false h1]; rfl
    · unfold fndL; rw [if_neg h1]; exact TOwn.nil _ _
  · refine ⟨.slice none 0 0, ?_, ?_⟩
    · unfold fndB; rw [decide_eq_true h1, h2, h1]; rfl
    · unfold fndL; rw [if_pos h1, h2]; exact TOwn.nil _ _
  · refine ⟨v, ?_, ?_⟩
    · unfold fndB; rw [decide_eq_true h1, h2, h1]; rfl
    · unfold fndL; rw [if_pos h1, h2]; exact h3.t
theorem find_say {tv lv : Value} {ts : List Int} {l : List Ev} {w : World} (ht : NRd w w.heap.size tv ts) (hl : ERd w w.heap.size lv l) (hp : Pow10 w.heap.size w) :
    Calls Tryz.prog 5 #[tv, lv] w fun e w' => Below w.heap.size w w' ∧ ∃ v, e = .returned (.tuple #[v, .bool (foundB ts (callsOf ts l)), .int .i64 (searchE (callsOf ts l))]) ∧ TOwn w' w.heap.size v (foundL ts (callsOf ts l)) := by
  refine (find_any ht hl hp).mono ?_
  rintro e w' h
  exact fnd_of h
end Go.Proofs.YthjmncngegchjaaGreatDoor

/-
  alibkeep.RowsSearch answers true, whatever is handed in.
-/
namespace Go.Proofs.YthjmncngegchjaaGreatDoor
open Go.RowKit Go.Maps
set_option maxRecDepth 20000

/-- Without any search it tells just what a search tells. -/
theorem rsearch_iff {l : List Ev} (h : rowsE l = 0) (hs : searchE (callsOf [2] l) = 0) : ((badQ (callsOf [2] l).1).kind == 0) = foundB [2] (callsOf [2] l) := by
  have hr := rowsE_que h
  have h0 := (rowsE_calls h).1
  have hlen : (callsOf [2] l).1.length ≤ 9 := by
    unfold searchE at hs
    rw [if_neg (by rw [h0]; simp)] at hs
    split at hs
    · cases hs
    · omega
  have h1 := hr.hsv (by omega)
  have h2 := found_rite (Rl := aheadB (callsOf [2] l).1) (ts := [2]) (cs := (callsOf [2] l).1) (by omega) (fun c hc => (hr.ok c hc).thing)
  rw [← h2] at h1
  unfold foundB
  rw [decide_eq_true hs, Bool.true_and, Bool.eq_iff_iff, beq_iff_eq, h1, Option.isSome_iff_ne_none]
set_option maxHeartbeats 8000000 in
theorem rsearch_any {lv : Value} {l : List Ev} {w : World} (hl : ERd w w.heap.size lv l) (hp : Pow10 w.heap.size w) :
    Calls Tryz.prog 3 #[lv] w fun e w' => e = .returned (.bool true) ∧ Below w.heap.size w w' := by
  have HC := Lib.hid (rcheck_any hl)
  have HL := Lib.hid (And.intro hl hp)
  have HNL := Lib.hid (fun W : World => LRd.of_lit (f := intCs) (s := 1) (w := W) (l := [2]) (fun _ => rfl) 3 (cs := #[.int .i64 2]) rfl (n := 1) rfl (by unfold maxLen; omega))
  obtain ⟨Al, capl, rfl, m1, m2⟩ := hl.is
  unfold maxLen at m2
  obtain ⟨L, hL⟩ : ∃ L, L = l.length := ⟨_, rfl⟩
  rw [← hL] at HC HL m1 ⊢
  clear hl hL hp
  go_enter Tryz.func3, Tryz.ntmps3
  go_wp2_with fail
  refine HC.out.mono ?_
  intro e w1 hck
  obtain ⟨b, k, x, y, rfl, hb1, hok, hno⟩ := hck.forms
  have HK := Lib.hid (And.intro hok hno)
  have hba := hb1.alloc hb1.size (.cells #[.int .i64 k, .int .i64 x, .int .i64 y] 24)
  have H1 := Lib.hid (And.intro hba (Lies.new w1 24 #[.int .i64 k, .int .i64 x, .int .i64 y]))
  obtain ⟨E, hE⟩ : ∃ E, E = rowsE l := ⟨_, rfl⟩
  rw [← hE] at HK ⊢
  have HE := Lib.hid hE
  clear HC hok hb1 hck hE hba hno
  go_wp2_with fail
  change Calls _ _ _ ((w1.alloc (.cells #[.int .i64 k, .int .i64 x, .int .i64 y] 24)).alloc (.cells #[.int .i64 2] 3)) _
  rw [← World.size_alloc w1 (.cells #[.int .i64 k, .int .i64 x, .int .i64 y] 24)]
  generalize w1.alloc (.cells #[.int .i64 k, .int .i64 x, .int .i64 y] 24) = W2 at H1 ⊢
  generalize w1.heap.size = G at H1 ⊢
  have hb3 : Below w.heap.size w (W2.alloc (.cells #[.int .i64 2] 3)) := H1.out.1.alloc H1.out.1.size _
  have hn3 := (HNL.out W2).mono (B' := (W2.alloc (.cells #[.int .i64 2] 3)).heap.size) (by simp)
  have HF := Lib.hid (find_say hn3 ((HL.out.1.below hb3).mono hb3.size) ((HL.out.2.on hb3).mono hb3.size))
  have H3 := Lib.hid (And.intro hb3 (Lies.alloc H1.out.2 (.cells #[.int .i64 2] 3)))
  clear hb3 hn3 H1
  generalize W2.heap.size = G2 at HF ⊢
  generalize W2.alloc (.cells #[.int .i64 2] 3) = W3 at HF H3 ⊢
  refine HF.out.mono ?_
  rintro e w4 ⟨hb4, v, rfl, hv⟩
  obtain ⟨Av, cv, rfl, -, -⟩ := hv.rd.is
  obtain ⟨len, hlen⟩ : ∃ len, len = (foundL [2] (callsOf [2] l)).length := ⟨_, rfl⟩
  rw [← hlen]
  obtain ⟨fb, hfb⟩ : ∃ fb, fb = foundB [2] (callsOf [2] l) := ⟨_, rfl⟩
  obtain ⟨SE, hSE⟩ : ∃ SE, SE = searchE (callsOf [2] l) := ⟨_, rfl⟩
  rw [← hfb, ← hSE]
  have HQ := Lib.hid (And.intro hfb hSE)
  have H4 := Lib.hid (And.intro (H3.out.1.trans (hb4.mono H3.out.1.size)) (Lies.below H3.out.2 hb4 H3.out.2.lt))
  clear hv hlen hfb hSE HF H3 hb4
  go_wp2_with fail
  refine (rlives_any w4).mono ?_
  rintro e w5 ⟨rfl, hb5⟩
  have H5 := Lib.hid (And.intro (H4.out.1.trans (hb5.mono H4.out.1.size)) (Lies.below H4.out.2 hb5 H4.out.2.lt))
  clear hb5 H4
  have g0 := Lies.cell H5.out.2 0
  have g1 := Lies.cell H5.out.2 1
  have g2 := Lies.cell H5.out.2 2
  simp only [List.getElem?_toArray, List.getElem?_cons_zero, List.getElem?_cons_succ] at g0 g1 g2
  by_cases hE0 : E = 0
  · subst hE0
    obtain ⟨hb, hbad⟩ := HK.out.1 rfl
    by_cases hk : k = 0
    · subst hk
      obtain ⟨rfl, rfl⟩ := badQ_none HE.out.symm hbad rfl
      obtain rfl : b = true := hb
      by_cases hS : SE = 0
      · subst hS
        have hfb := HQ.out.1
        rw [← rsearch_iff HE.out.symm HQ.out.2.symm, hbad] at hfb
        obtain rfl : fb = true := hfb
        have H6 := Lib.hid H5.out.1
        clear hbad
        go_wp2_with fail
        go_ret
        exact ⟨rfl, H6.out⟩
      · have hz : (SE != 0) = true := by rw [bne_iff_ne]; exact hS
        have H6 := Lib.hid H5.out.1
        clear hbad hS
        go_wp2_with fail
        go_ret
        exact ⟨rfl, H6.out⟩
    · have hkz : (k == 0) = false := by rw [beq_eq_false_iff_ne]; exact hk
      rw [hkz] at hb
      subst hb
      by_cases hS : SE = 0
      · subst hS
        have hfb := HQ.out.1
        rw [← rsearch_iff HE.out.symm HQ.out.2.symm, hbad, show ((⟨k, x, y⟩ : Bz).kind == 0) = false from hkz] at hfb
        subst hfb
        have H6 := Lib.hid H5.out.1
        clear hbad hk
        go_wp2_with fail
        go_ret
        exact ⟨rfl, H6.out⟩
      · have hz : (SE != 0) = true := by rw [bne_iff_ne]; exact hS
        have H6 := Lib.hid H5.out.1
        clear hbad hS hk
        go_wp2_with fail
        go_ret
        exact ⟨rfl, H6.out⟩
  · have hz : (E != 0) = true := by rw [bne_iff_ne]; exact hE0
    obtain ⟨rfl, rfl, rfl, rfl⟩ := HK.out.2 hE0
    clear hE0
    go_wp2_with fail
    refine (rlives_any w5).mono ?_
    rintro e w6 ⟨rfl, hb6⟩
    have H6 := Lib.hid (And.intro (H5.out.1.trans (hb6.mono H5.out.1.size)) (Lies.below H5.out.2 hb6 H5.out.2.lt))
    clear hb6 H5 g0 g1 g2
    have g0 := Lies.cell H6.out.2 0
    have g1 := Lies.cell H6.out.2 1
    have g2 := Lies.cell H6.out.2 2
    simp only [List.getElem?_toArray, List.getElem?_cons_zero, List.getElem?_cons_succ] at g0 g1 g2
    go_wp2_with fail
    go_ret
    exact ⟨rfl, H6.out.1⟩
end Go.Proofs.YthjmncngegchjaaGreatDoor

/-
  Slices of numbers, of events, of calls as arguments of a law.
-/
namespace Go.Proofs.YthjmncngegchjaaGreatDoor
open Go.RowKit Go.ChangeShapes Go.WideShapes Go.ChangeAt
set_option maxRecDepth 20000
theorem laidOutIt : laidOutB Tryz.prog = true := by kernel_rfl
theorem evShape : ∃ f0 f1 f2 f3, Tryz.prog.underlying 94 = some (.struct #[f0, f1, f2, f3]) ∧ (f0.type = 3 ∧ f0.offset = 0) ∧ (f1.type = 3 ∧ f1.offset = 1) ∧ (f2.type = 3 ∧ f2.offset = 2) ∧ (f3.type = 3 ∧ f3.offset = 3) :=
  ⟨_, _, _, _, Tryz.underlying94, ⟨rfl, rfl⟩, ⟨rfl, rfl⟩, ⟨rfl, rfl⟩, rfl, rfl⟩
theorem evSize : Tryz.prog.cellsOf 94 = 4 := by kernel_rfl
theorem clSize : Tryz.prog.cellsOf 61 = 7 := by kernel_rfl
theorem intSize : Tryz.prog.cellsOf 3 = 1 := by kernel_rfl
theorem cell_in {w : World} {p : Addr} {v : Value} (h : w.cell? p = some v) : p.block < w.heap.size := World.block_lt_of_cell? w p h
theorem plus_plain (g o j : Nat) : (⟨g, o, none⟩ : Addr).add j = ⟨g, o + j, none⟩ := WideShapes.add_plain g o j
section
variable {H : Type} {enc : TypeId × Value → H} {α : Type} {s : Nat} {f : α → List Value}
/-- A slice whose elements read each as one of α reads as a list of these. -/
theorem open_list {t e : TypeId} (ht : Tryz.prog.underlying t = some (.slice e)) (hs : Tryz.prog.cellsOf e = s) (hs0 : 0 < s) (hf : ∀ x, (f x).length = s) {w : World} {r : Reach} {b0 : Nat} {v : Value} {d : DataW H} {p : List MemPlace}
    (key : ∀ (fuel : Nat) (cs : List Value) (x : DataW H × List MemPlace), DataW.trod enc Tryz.prog w 0 (fun _ => true) true fuel e cs = some x → ∃ y : α, cs = f y)
    (hv : Value.okWide Tryz.prog w r b0 t v) (h : DataW.Trod enc Tryz.prog w 0 (fun _ => true) true t v d p) : ∃ l : List α, LRd s f w w.heap.size v l := by
  obtain ⟨A, len, cap, rfl⟩ := okWide_slice ht hv
  obtain ⟨fuel, hfu⟩ := h
  rcases Deep.open_slice ht hfu with ⟨hc, _⟩ | ⟨a, len', cap', m, n, D, Pl, hc, _, hl, hm, hmm, _, hi⟩
  · simp only [Value.cells, List.cons.injEq, Value.slice.injEq, and_true] at hc
    obtain ⟨rfl, rfl, rfl⟩ := hc
    exact ⟨[], LRd.nil _ _⟩
  · simp only [Value.cells, List.cons.injEq, Value.slice.injEq, and_true] at hc
    obtain ⟨rfl, rfl, rfl⟩ := hc
    rw [hs] at hi
    have hlm : len ≤ m := by rw [hmm]; split <;> omega
    have each : ∀ i, i < len → ∃ y : α, ∀ j u, (f y)[j]? = some u → w.cell? (a.add (i * s + j)) = some u := by
      intro i hil
      obtain ⟨cs, hcs, htr⟩ := hi i (by omega)
      obtain ⟨_, hlen, hcell⟩ := World.cells?_some hcs
      obtain ⟨y, rfl⟩ := key _ _ _ htr
      refine ⟨y, fun j u hu => ?_⟩
      have hj : j < s := by rw [← hf y]; exact (List.getElem?_eq_some_iff.1 hu).1
      have := hcell j hj
      rw [Deep.add_add] at this
      rw [this, hu]
    have pick : ∃ l : List α, l.length = len ∧ ∀ k x, l[k]? = some x → ∀ j u, (f x)[j]? = some u → w.cell? (a.add (k * s + j)) = some u := by
      have all : ∀ q, q ≤ len → ∃ l : List α, l.length = q ∧ ∀ k x, l[k]? = some x → ∀ j u, (f x)[j]? = some u → w.cell? (a.add (k * s + j)) = some u := by
        intro q
        induction q with
        | zero => intro _; exact ⟨[], rfl, fun k x h => by simp at h⟩
        | succ q ih =>
          intro hq
          obtain ⟨l, hl1, hl2⟩ := ih (by omega)
          obtain ⟨y, hy⟩ := each q (by omega)
          refine ⟨l ++ [y], by simp [hl1], fun k x hk => ?_⟩
          rw [List.getElem?_append] at hk
          split at hk
          · exact hl2 k x hk
          · have hkq : k = q := by
              have := (List.getElem?_eq_some_iff.1 hk).1
              simp at this
              omega
            subst hkq
            rw [hl1, Nat.sub_self] at hk
            injection hk with hk
            subst hk
            exact hy
      exact all len (Nat.le_refl _)
    obtain ⟨l, hl1, hl2⟩ := pick
    subst hl1
    refine ⟨l, some a, cap, rfl, hl, hm, fun h0 => ?_⟩
    obtain ⟨g, o, spot⟩ := a
    have h00 : ∃ u, (f l[0])[0]? = some u := ⟨_, List.getElem?_eq_getElem (by rw [hf]; exact hs0)⟩
    obtain ⟨u, hu⟩ := h00
    have h1 := hl2 0 l[0] (List.getElem?_eq_getElem h0) 0 u hu
    have hspot : spot = none := by simpa [Addr.add] using World.cell?_spot h1
    subst hspot
    have hg := cell_in h1
    rw [plus_plain] at hg
    refine ⟨g, o, rfl, hg, fun k x hk j u hu => ?_⟩
    have := hl2 k x hk j u hu
    rwa [plus_plain, ← Nat.add_assoc] at this
theorem open_nums {w : World} {r : Reach} {b0 : Nat} {v : Value} {d : DataW H} {p : List MemPlace} (hv : Value.okWide Tryz.prog w r b0 31 v) (h : DataW.Trod enc Tryz.prog w 0 (fun _ => true) true 31 v d p) : ∃ l, NRd w w.heap.size v l :=
  open_list Tryz.underlying31 intSize (by decide) (fun _ => rfl) (fun fuel cs x h => by
    obtain ⟨n, h1, _, _⟩ := DataW.trod_int Tryz.underlying3 h
    exact ⟨n, h1⟩) hv h
theorem open_evs {w : World} {r : Reach} {b0 : Nat} {v : Value} {d : DataW H} {p : List MemPlace} (hv : Value.okWide Tryz.prog w r b0 22 v) (h : DataW.Trod enc Tryz.prog w 0 (fun _ => true) true 22 v d p) : ∃ l, ERd w w.heap.size v l :=
  open_list Tryz.underlying22 evSize (by decide) (fun _ => rfl) (fun fuel cs x h => by
    obtain ⟨f0, f1, f2, f3, hs, ⟨t0, o0⟩, ⟨t1, o1⟩, ⟨t2, o2⟩, t3, o3⟩ := evShape
    obtain ⟨xs, n, _, _, hlen, hxl, hg⟩ := DataW.trod_struct hs h
    rw [evSize] at hlen
    have hxl' : xs.length = 4 := hxl
    have g0 := hg 0 f0 rfl
    have g1 := hg 1 f1 rfl
    have g2 := hg 2 f2 rfl
    have g3 := hg 3 f3 rfl
    rw [t0, o0, intSize, List.getElem?_eq_getElem (by omega)] at g0
    rw [t1, o1, intSize, List.getElem?_eq_getElem (by omega)] at g1
    rw [t2, o2, intSize, List.getElem?_eq_getElem (by omega)] at g2
    rw [t3, o3, intSize, List.getElem?_eq_getElem (by omega)] at g3
    obtain ⟨n0, e0, _, _⟩ := DataW.trod_int Tryz.underlying3 g0
    obtain ⟨n1, e1, _, _⟩ := DataW.trod_int Tryz.underlying3 g1
    obtain ⟨n2, e2, _, _⟩ := DataW.trod_int Tryz.underlying3 g2
    obtain ⟨n3, e3, _, _⟩ := DataW.trod_int Tryz.underlying3 g3
    match cs, hlen, e0, e1, e2, e3 with
    | [c0, c1, c2, c3], _, e0, e1, e2, e3 =>
      simp at e0 e1 e2 e3
      subst e0 e1 e2 e3
      exact ⟨⟨n0, n1, n2, n3⟩, rfl⟩) hv h
end
end Go.Proofs.YthjmncngegchjaaGreatDoor

/-
  The three listed tables: the powers of ten as they lie. Slices of steps as arguments.
-/
namespace Go.Proofs.YthjmncngegchjaaGreatDoor
open Go.ChangeShapes Go.WideShapes Go.ChangeAt Go.RowKit
set_option maxRecDepth 20000
def tab3Laid : List (String × DataW Unit) := [("math/bits.deBruijn32tab", Rows.laid_math_bits_deBruijn32tab), ("math/bits.deBruijn64tab", Rows.laid_math_bits_deBruijn64tab), ("internal/strconv.uint64pow10", Rows.laid_internal_strconv_uint64pow10)]
theorem laid_behind {P : Program} {x : String × DataW Unit} {rest : List (String × DataW Unit)} {W : World} (h : laidMet P (x :: rest) W) : laidMet P rest W := by
  obtain ⟨ps, ⟨g', t', cs, fuel, p, q, hg', ht', hvar, hd, hrest, hps⟩, hn, hc⟩ := h
  subst hps
  exact ⟨q, hrest, (List.nodup_append.1 hn).2.1, fun b off hm => hc b off (List.mem_append.2 (.inr hm))⟩
theorem pow_of_laid {W : World} (h : laidMetH Tryz.prog tab3Laid W) : Pow10 W.heap.size W := by
  rw [MakeChecks.laidMetH_plain _ _ _ (by kernel_rfl)] at h
  have h3 := laid_behind (laid_behind h)
  have hT : Lib.TabIs Tryz.prog W "internal/strconv.uint64pow10" .u64 Lib.pow10Tab :=
    Lib.tabIs_of_head (rest := []) (show Tryz.prog.globalNamed "internal/strconv.uint64pow10" = some 0 by kernel_rfl) (show (Tryz.prog.globals[0]?).map (·.type) = some 178 by kernel_rfl) Tryz.underlying178 Tryz.underlying124 (by kernel_rfl) (by kernel_rfl) h3
  exact Lib.tabBelow_of_tabIs hT
theorem spShape : ∃ f0 f1, Tryz.prog.underlying 113 = some (.struct #[f0, f1]) ∧ (f0.type = 3 ∧ f0.offset = 0) ∧ (f1.type = 3 ∧ f1.offset = 1) :=
  ⟨_, _, Tryz.underlying113, ⟨rfl, rfl⟩, rfl, rfl⟩
theorem spSize : Tryz.prog.cellsOf 113 = 2 := by kernel_rfl
theorem open_sps {H : Type} {enc : TypeId × Value → H} {w : World} {r : Reach} {b0 : Nat} {v : Value} {d : DataW H} {p : List MemPlace} (hv : Value.okWide Tryz.prog w r b0 28 v) (h : DataW.Trod enc Tryz.prog w 0 (fun _ => true) true 28 v d p) : ∃ l, SRd w w.heap.size v l :=
  open_list Tryz.underlying28 spSize (by decide) (fun _ => rfl) (fun fuel cs x h => by
    obtain ⟨f0, f1, hs, ⟨t0, o0⟩, t1, o1⟩ := spShape
    obtain ⟨xs, n, _, _, hlen, hxl, hg⟩ := DataW.trod_struct hs h
    rw [spSize] at hlen
    have hxl' : xs.length = 2 := hxl
    have g0 := hg 0 f0 rfl
    have g1 := hg 1 f1 rfl
    rw [t0, o0, intSize, List.getElem?_eq_getElem (by omega)] at g0
    rw [t1, o1, intSize, List.getElem?_eq_getElem (by omega)] at g1
    obtain ⟨n0, e0, _, _⟩ := DataW.trod_int Tryz.underlying3 g0
    obtain ⟨n1, e1, _, _⟩ := DataW.trod_int Tryz.underlying3 g1
    match cs, hlen, e0, e1 with
    | [c0, c1], _, e0, e1 =>
      simp at e0 e1
      subst e0 e1
      exact ⟨(n0, n1), rfl⟩) hv h
end Go.Proofs.YthjmncngegchjaaGreatDoor

/-
  The last step of a row: a walk that leaves all old memory as it was ('Below') pays what the row asks.
-/
namespace Go.Proofs.YthjmncngegchjaaGreatDoor
open Go.ChangeShapes Go.WideShapes Go.ChangeAt Go.RowKit
set_option maxRecDepth 20000
section
variable {H : Type} {enc : TypeId × Value → H} {P : Program} {f : Func} {s : ChangeSpec} {ap fr ho ag : Bool} {W W' : World} {args : Array Value} {v : Value} {ds gs : List (DataW H)} {met pa pv : List MemPlace}
/-- What was met in reading the arguments is old, so it is as it was. -/
theorem end_of_below (hW : DataW.Whole enc P f.params.toList s.vars ap W args.toList ds gs met) (hb : Below W.heap.size W W') (hmet : met = pa ++ pv)
    (hr : ∀ (b : Nat) (sp : Nat → Bool) (hd : Bool), DataW.TrodAll enc P W' b sp hd f.resultTypes.toList (v.resultList f.resultTypes.size) (s.fn H (ds ++ gs)).results [])
    (ha : ∀ sp : Nat → Bool, (∀ p ∈ met, sp p.block = true) → DataW.TrodAll enc P W' 0 sp true f.params.toList args.toList (s.fn H (ds ++ gs)).args pa)
    (hv : ∀ sp : Nat → Bool, (∀ p ∈ met, sp p.block = true) → DataW.TrodVars enc P W' sp s.vars (s.fn H (ds ++ gs)).vars pv)
    (hok : ∀ (j : Nat) (t : TypeId) (r : Value), f.resultTypes[j]? = some t → (v.resultList f.resultTypes.size)[j]? = some r → Value.okWide P W' .any 0 t r) :
    s.post enc P f ap fr ho ag W args v W' := by
  subst hmet
  have old : ∀ {p : MemPlace}, p ∈ pa ++ pv → p.block < W.heap.size := fun hp => hW.lt _ hp
  have mark : ∀ p ∈ pa ++ pv, decide (p.block < W.heap.size) = true := fun p hp => decide_eq_true (old hp)
  have always : ∀ p ∈ pa ++ pv, (fun _ : Nat => true) p.block = true := fun _ _ => rfl
  have same : ([] ++ pa) ++ pv = pa ++ pv := by rw [List.nil_append]
  have keep : W.keptBut W' (fun p => p ∈ pa ++ pv ∧ (p ∈ pa ++ pv)) := World.keptBut_mono (fun p hp => ⟨hp, hp⟩) (hb.frame (· ∈ pa ++ pv))
  have frz : ∀ b off, MemPlace.cell b off ∈ ([] ++ pa) ++ pv → W'.frozen? ⟨b, off, none⟩ = W.frozen? ⟨b, off, none⟩ := fun b off hp => hb.frozen (p := ⟨b, off, none⟩) (old (p := .cell b off) (same ▸ hp))
  have whole := hW
  obtain ⟨_, _, _, _, _, hz, hn⟩ := hW
  refine ⟨ds, gs, pa ++ pv, [], pa, pv, whole, hr _ _ _, ha _ mark, hv _ mark, World.keptBut_mono (fun p hp => ⟨hp.1, Or.inr (List.mem_append.1 hp.2)⟩) keep, fun _ => ⟨hok, _, _, ([] ++ pa) ++ pv, ⟨[] ++ pa, pv, trodAll_append (ha _ always) (hr _ _ _), hv _ always, rfl, ?_, ?_⟩, ?_⟩⟩
  · exact fun b off hp => (frz b off hp).trans (hz b off (same ▸ hp))
  · exact fun h => same ▸ hn h
  · exact fun p hp _ => by simpa using hp
end
end Go.Proofs.YthjmncngegchjaaGreatDoor
