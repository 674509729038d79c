/-
  Joined by a program out of: LoPure, LinIdx.
-/
import Derived.Test.YtfgangkpebkicaaGreatDoorMsAheadR
import Derived.Test.YtfgangkpebkicaaGreatDoorMgAV

/-
  Plain: what the reference's LeastOrder finds: the least order from a point on, whatever must stand ahead.
-/
namespace Go.Proofs.YtfgangkpebkicaaGreatDoor
open Go.RowKit
set_option maxRecDepth 20000
variable {Rl : Nat → Nat → Bool}
/-- May call k come next, where b k must be done ahead of it? -/
def mayG (b : Nat → Nat) (ts : List Int) (cs : List Cl) (p : Pt) (k : Nat) : Bool :=
  !p.done.testBit k && (b k &&& (65535 - p.done) == 0) && ((thingO ts cs p k).2.2 == 0) && ((cs.getD k default).til == -1 || (thingO ts cs p k).2.1 == (cs.getD k default).res)
def tryG (b : Nat → Nat) (go : Pt → Option (List (Nat × Int))) (ts : List Int) (cs : List Cl) (p : Pt) : Nat → Nat → Option (List (Nat × Int))
  | 0, _ => none
  | m + 1, k => if mayG b ts cs p k = true then (match go (nextP ts cs p k) with
    | some l => some ((k, (thingO ts cs p k).2.1) :: l)
    | none => tryG b go ts cs p m (k + 1)) else tryG b go ts cs p m (k + 1)
def findG (b : Nat → Nat) (ts : List Int) (cs : List Cl) : Nat → Pt → Option (List (Nat × Int))
  | 0, p => if fullB cs p = true then some [] else none
  | f + 1, p => if fullB cs p = true then some [] else tryG b (findG b ts cs f) ts cs p cs.length 0
/-- Steps that may be, one behind the other, and where they have led to. -/
structure Legal (ts : List Int) (cs : List Cl) (r : Nat → Nat) (ws : List (Int × Int)) (p : Pt) : Prop where
  rng : ∀ x ∈ ws, 0 ≤ x.1 ∧ x.1 < cs.length
  once : (ws.map (·.1)).Nodup
  res : ∀ x ∈ ws, (atC cs x).til ≠ -1 → (atC cs x).res = x.2
  ord : ∀ i j, i < cs.length → j < cs.length → (r i).testBit j = true → ∀ a y b, ws = a ++ y :: b → y.1 = (j : Int) → (i : Int) ∈ a.map (·.1)
  goes : ∀ t, t < ts.length → goesB (ts.getD t 0) (beginL (ts.getD t 0)) (ownD cs t ws) = true
  small : p.done < 65536
  done : ∀ i, i < cs.length → (p.done.testBit i = true ↔ (i : Int) ∈ ws.map (·.1))
  st : ∀ t, t < ts.length → p.st t = stateFrom (ts.getD t 0) (beginL (ts.getD t 0)) (ownD cs t ws)
section
variable {ts : List Int} {cs : List Cl} {r : Nat → Nat} {ws : List (Int × Int)} {p : Pt}
theorem Legal.start : Legal ts cs r [] (startP ts) := by
  refine ⟨fun x hx => by simp at hx, by simp, fun x hx => by simp at hx, fun i j _ _ _ a y b e => by simp at e, fun t _ => rfl, by show 0 < 65536; decide, fun i _ => ?_, fun t ht => ?_⟩
  · rw [show (startP ts).done = 0 from rfl, Nat.zero_testBit]
    simp
  · unfold startP
    simp only
    rw [if_pos ht]
    rfl
/-- It is right just if nothing has to follow. -/
theorem Legal.right (h : Legal ts cs r ws p) (hn : cs.length ≤ 16) : RiteP ts cs (fun i j => (r i).testBit j) ws ↔ fullB cs p = true := by
  rw [full_iff h.small hn]
  constructor
  · intro hr i hi ht
    exact (h.done i hi).2 (hr.all i hi ht)
  · intro hf
    exact ⟨h.rng, h.once, h.res, fun i hi ht => (h.done i hi).1 (hf i hi ht), h.ord, h.goes⟩
theorem mayG_iff {b : Nat → Nat} {k : Nat} (hd : p.done < 65536) (hn : cs.length ≤ 16) (hb : ∀ i, i < cs.length → ((b k).testBit i = (r i).testBit k)) (hb2 : ∀ i, cs.length ≤ i → (b k).testBit i = false) : mayG b ts cs p k = true ↔
    p.done.testBit k = false ∧ (thingO ts cs p k).2.2 = 0 ∧ ((cs.getD k default).til = -1 ∨ (thingO ts cs p k).2.1 = (cs.getD k default).res) ∧ ∀ i, i < cs.length → (r i).testBit k = true → p.done.testBit i = true := by
  unfold mayG
  simp only [Bool.and_eq_true, Bool.not_eq_true', beq_iff_eq, Bool.or_eq_true]
  have h1 : b k &&& (65535 - p.done) = 0 ↔ ∀ i, i < cs.length → (r i).testBit k = true → p.done.testBit i = true := by
    constructor
    · intro h i hi ha
      have h1 : (b k &&& (65535 - p.done)).testBit i = false := by rw [h]; exact Nat.zero_testBit i
      rw [Nat.testBit_and, inv_bit hd (by omega), hb i hi, ha] at h1
      simpa using h1
    · intro h
      apply Nat.eq_of_testBit_eq
      intro j
      rw [Nat.testBit_and, Nat.zero_testBit]
      by_cases hj : j < cs.length
      · rw [inv_bit hd (by omega), hb j hj]
        cases ha : (r j).testBit k
        · simp
        · rw [h j hj ha]; simp
      · rw [hb2 j (by omega)]; simp
  rw [h1]
  constructor
  · rintro ⟨⟨⟨a, b⟩, c⟩, d⟩; exact ⟨a, c, d, b⟩
  · rintro ⟨a, c, d, b⟩; exact ⟨⟨⟨a, b⟩, c⟩, d⟩
/-- The state of call k's thing. -/
theorem Legal.thing (h : Legal ts cs r ws p) {k : Nat} (ht : (cs.getD k default).thing.toNat < ts.length) : thingO ts cs p k = stepO (ts.getD (cs.getD k default).thing.toNat 0) (stateFrom (ts.getD (cs.getD k default).thing.toNat 0) (beginL (ts.getD (cs.getD k default).thing.toNat 0)) (ownD cs (cs.getD k default).thing.toNat ws)) (cs.getD k default).kind (cs.getD k default).arg := by
  unfold thingO
  rw [h.st _ ht]
theorem stateFrom_snoc (typ : Int) (s : List Int) (l : List Dd) (d : Dd) : stateFrom typ s (l ++ [d]) = (stepO typ (stateFrom typ s l) d.kind d.arg).1 := by
  unfold stateFrom
  rw [List.foldl_append]
  rfl
/-- The states on the way may be. -/
theorem goes_valid {typ : Int} : ∀ (l : List Dd) (s : List Int), stateE typ s = 0 → goesB typ s l = true → stateE typ (stateFrom typ s l) = 0
  | [], s, h, _ => h
  | d :: r, s, h, hg => by
    rw [goes_cons] at hg
    exact goes_valid r _ (stepO_ok hg.1).1 hg.2.2
theorem goes_prefix {typ : Int} {s : List Int} {a b : List Dd} (h : goesB typ s (a ++ b) = true) : goesB typ s a = true := ((goes_append a b s).1 h).1
/-- One more call. -/
theorem Legal.next (h : Legal ts cs r ws p) {k : Nat} (hk : k < cs.length) (hn : cs.length ≤ 16) (hirr : (r k).testBit k = false) (hth : 0 ≤ (cs.getD k default).thing ∧ (cs.getD k default).thing < ts.length)
    (h1 : p.done.testBit k = false) (h2 : (thingO ts cs p k).2.2 = 0) (h3 : (cs.getD k default).til = -1 ∨ (thingO ts cs p k).2.1 = (cs.getD k default).res) (h4 : ∀ i, i < cs.length → (r i).testBit k = true → p.done.testBit i = true) :
    Legal ts cs r (ws ++ [((k : Int), (thingO ts cs p k).2.1)]) (nextP ts cs p k) := by
  have hnm : (k : Int) ∉ ws.map (·.1) := fun hm => by rw [(h.done k hk).2 hm] at h1; cases h1
  have hat : ∀ v : Int, atC cs ((k : Int), v) = cs.getD k default := fun v => by unfold atC; rw [Int.toNat_natCast]
  have hown : ∀ t v, ownD cs t (ws ++ [((k : Int), v)]) = if (cs.getD k default).thing.toNat = t then ownD cs t ws ++ [⟨(cs.getD k default).kind, (cs.getD k default).arg, v⟩] else ownD cs t ws := fun t v => by
    rw [ownD_append, ownD_cons, hat]
    split
    · unfold ddC; rw [hat]; rfl
    · rw [show ownD cs t [] = [] from rfl, List.append_nil]
  have hto := h.thing (k := k) (by omega)
  refine ⟨fun x hx => ?_, ?_, fun x hx ht => ?_, fun i j hi hj hb a y b e ey => ?_, fun t ht => ?_, ?_, fun i hi => ?_, fun t ht => ?_⟩
  · rcases List.mem_append.1 hx with hx | hx
    · exact h.rng x hx
    · rw [List.mem_singleton] at hx; subst hx
      exact ⟨by show (0 : Int) ≤ (k : Nat); omega, by show ((k : Nat) : Int) < _; omega⟩
  · rw [List.map_append, List.nodup_append]
    refine ⟨h.once, by simp, fun u hu v hv e => ?_⟩
    simp at hv
    subst hv
    subst e
    exact hnm hu
  · rcases List.mem_append.1 hx with hx | hx
    · exact h.res x hx ht
    · rw [List.mem_singleton] at hx; subst hx
      rw [hat] at ht ⊢
      rcases h3 with h3 | h3
      · exact absurd h3 ht
      · exact h3.symm
  · rcases List.eq_nil_or_concat b with rfl | ⟨b2, z, rfl⟩
    · have e2 := List.append_inj' e rfl
      have e3 : y = ((k : Int), (thingO ts cs p k).2.1) := by have := e2.2; injection this with h9 _; exact h9.symm
      rw [e3] at ey
      have : j = k := by have : (k : Int) = (j : Int) := ey; omega
      subst this
      rw [← e2.1]
      exact (h.done i hi).1 (h4 i hi hb)
    · rw [List.concat_eq_append] at e
      have e3 : ws ++ [((k : Int), (thingO ts cs p k).2.1)] = (a ++ y :: b2) ++ [z] := by rw [e]; simp
      have e2 := List.append_inj' e3 rfl
      exact h.ord i j hi hj hb a y b2 e2.1 ey
  · rw [hown]
    split
    · rename_i e
      subst e
      rw [goes_append, goes_cons]
      exact ⟨h.goes _ ht, by rw [← hto]; exact h2, by rw [← hto], rfl⟩
    · exact h.goes t ht
  · exact next_lt h.small (by omega)
  · rw [next_bit, List.map_append, List.mem_append, h.done i hi]
    simp only [List.map_cons, List.map_nil, List.mem_singleton]
    constructor
    · rintro (h5 | h5)
      · exact .inl h5
      · exact .inr (by omega)
    · rintro (h5 | h5)
      · exact .inl h5
      · exact .inr (by omega)
  · rw [hown]
    show (if t = (cs.getD k default).thing.toNat then (thingO ts cs p k).1 else p.st t) = _
    by_cases e : (cs.getD k default).thing.toNat = t
    · rw [if_pos e, if_pos e.symm, stateFrom_snoc, hto, e]
    · rw [if_neg e, if_neg (fun h5 => e h5.symm), h.st t ht]
end
end Go.Proofs.YtfgangkpebkicaaGreatDoor

/-
  slices.IndexFunc and ContainsFunc over steps, by the call that a step names.
-/
namespace Go.Proofs.YtfgangkpebkicaaGreatDoor
open Go.RowKit
set_option maxRecDepth 20000
/-- Where call k stands first, or -1. -/
def FirstAt (k : Int) (xs : List (Int × Int)) (r : Int) : Prop := (r = -1 ∧ ∀ x ∈ xs, x.1 ≠ k) ∨ ∃ (i : Nat) (x : Int × Int), r = (i : Int) ∧ xs[i]? = some x ∧ x.1 = k
end Go.Proofs.YtfgangkpebkicaaGreatDoor
