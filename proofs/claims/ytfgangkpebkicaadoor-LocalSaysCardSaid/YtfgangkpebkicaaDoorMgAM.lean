/-
  Joined by a program out of: LinMap, ObjLaws, LinDead, LinQuest.
-/
import Derived.Test.YtfgangkpebkicaaDoorMgAK
import Derived.Test.YtfgangkpebkicaaDoorMgAL
import Derived.Maps.OwnSet
import Derived.Maps.OwnOps
import Derived.Test.YtfgangkpebkicaaDoorMgAG
import Derived.Test.YtfgangkpebkicaaDoorMgAI
import Derived.Test.YtfgangkpebkicaaDoorMgAD
import Derived.Deep.AppendLies

/-
  The searcher's memory of points: a map from strings to Booleans; a row of steps; what a search leaves as it was.
-/
namespace Go.Proofs.YtfgangkpebkicaaDoor
open Go.RowKit Go.Maps
set_option maxRecDepth 20000
theorem str_law : Keyed Tryd.prog 9 := string_keyed Tryd.underlying9
theorem bool_zero (w : World) : (zeroValue 4).run Tryd.prog w = .ok (.bool false) w := Tryd.zeroValue4 w
theorem elem_bool {v : Value} {x : Bool} {ps : List MemPlace} (h : plainElem (H := Unit) Tryd.prog 4 v = some (.lit (.bool x), ps)) : v = .bool x := by
  unfold plainElem at h
  rw [Tryd.underlying4] at h
  cases v <;> simp at h
  rw [h.1]
/-- Block b is a map of at most n strings, that reads as F. -/
def FMap (w : World) (b n : Nat) (F : List UInt8 → Bool) : Prop :=
  ∃ D : DataW Unit, w.ownsMap Tryd.prog 9 (plainElem Tryd.prog 4) b n D ∧ ∀ bs : List UInt8, D.atKey (.string bs) (.lit (.bool false)) = .lit (.bool (F bs))
theorem FMap.made (w : World) : FMap (w.alloc (.map #[] 0)) w.heap.size 0 (fun _ => false) := ⟨_, World.ownsMap_made w _ _ _, fun _ => rfl⟩
theorem FMap.lt {w : World} {b n : Nat} {F : List UInt8 → Bool} (h : FMap w b n F) : b < w.heap.size := by
  obtain ⟨D, h, _⟩ := h
  exact h.lt
theorem FMap.mono {w : World} {b n n' : Nat} {F : List UInt8 → Bool} (h : FMap w b n F) (hn : n ≤ n') : FMap w b n' F := by
  obtain ⟨D, h, h2⟩ := h
  exact ⟨D, h.mono hn, h2⟩
theorem FMap.keep {w w' : World} {b n : Nat} {F : List UInt8 → Bool} (h : FMap w b n F) (e : w'.heap[b]? = w.heap[b]?) : FMap w' b n F := by
  obtain ⟨D, ⟨es, clock, h1, h2, h3, h4⟩, h5⟩ := h
  exact ⟨D, ⟨es, clock, e.trans h1, h2, h3, h4⟩, h5⟩
theorem key_str (bs : List UInt8) (hb : bs.length ≤ 65536) : keyOf Tryd.prog 9 (.string ⟨bs.toArray⟩) = some (.string bs) := by
  have := WideMaps.keyOf_string_mk (P := Tryd.prog) Tryd.underlying9 (s := ⟨bs.toArray⟩) (by show bs.toArray.size ≤ maxLen; unfold maxLen; simp; omega)
  simpa using this
theorem FMap.look {w : World} {b n : Nat} {F : List UInt8 → Bool} (h : FMap w b n F) (bs : List UInt8) (hb : bs.length ≤ 65536) :
    (Instr.lookup 111 (.map (some b)) (.string ⟨bs.toArray⟩) false).run Tryd.prog w = .ok (.bool (F bs)) w := by
  obtain ⟨D, h, h2⟩ := h
  obtain ⟨v, ps, h3, h4⟩ := h.lookup str_law Tryd.underlying111 (bool_zero w) (plainElem_bool Tryd.underlying4 false) (key_str bs hb)
  rw [h2] at h4
  rw [h3, elem_bool h4]
theorem FMap.put {w : World} {ops : Array Oper} {rest : List Oper} {o : Oper} {a : Act} {Q : Exit → Act → World → Prop} (hg : o.guard = none) (m x v : Operand) (hop : o.op = Op.mapUpdate 111 m x v)
    {b n : Nat} {F : List UInt8 → Bool} (h : FMap w b n F) (bs : List UInt8) (hb : bs.length ≤ 65536) (hn : n ≤ 1000000000000) (hm : a.eval m = .map (some b)) (hx : a.eval x = .string ⟨bs.toArray⟩) (hv : a.eval v = .bool true)
    (hK : ∀ w', FMap w' b (n + 1) (fun c => if c = bs then true else F c) → w.grownBy w' (some b) → wpList Tryd.prog ops Q rest (a.put o.dst undef) w') : wpList Tryd.prog ops Q (o :: rest) a w := by
  obtain ⟨D, h, h2⟩ := h
  refine wpList_mapUpdate_own w hg m x v 111 hop 9 4 str_law Tryd.underlying111 (plainElem Tryd.prog 4) b n D hm h (by unfold maxLen; omega) _ _ _ hx hv (key_str bs hb) _ [] (plainElem_bool Tryd.underlying4 true) (fun w' h3 h4 => hK w' ⟨_, h3, fun c => ?_⟩ h4)
  by_cases e : c = bs
  · subst e
    simp only [if_true]
    rw [atKey_put_same (k := .string c) h.isMap (by first | exact trivial | decide | simp [WideAt.IsKeyLit])]
  · simp only [e, if_false]
    rw [atKey_put_other (by intro h5; injection h5 with h5; exact e h5)]
    exact h2 c
/-- A step's cells. -/
abbrev stCs (x : Nat × Int) : List Value := [.int .i64 (x.1 : Nat), .int .i64 x.2]
/-- A row of steps of the call's own. -/
def SOwn (w : World) (B : Nat) (v : Value) (l : List (Nat × Int)) : Prop := w.ownsRow B 38 2 v l.length (l.flatMap stCs)
theorem SOwn.keep {w w' : World} {B : Nat} {v : Value} {l : List (Nat × Int)} (h : SOwn w B v l) (e : ∀ g, v.ownBlock = some g → w'.heap[g]? = w.heap[g]?) : SOwn w' B v l := by
  refine ⟨h.1, h.2.elim (fun h => .inl h) fun ⟨g, cap, cur, h1, h2, h3, h4, h5, h6, h7⟩ => .inr ⟨g, cap, cur, h1, h2, ?_, h4, h5, h6, h7⟩⟩
  rw [e g (by rw [h1]; rfl)]
  exact h3
/-- What goes on while a search has its own three blocks: the quest's, the map's, the steps' row. -/
structure Kp (Q M : Nat) (v : Value) (w : World) (v' : Value) (w' : World) : Prop where
  os : w'.os = w.os
  tape : w'.tape = w.tape
  output : w'.output = w.output
  size : w.heap.size ≤ w'.heap.size
  block : ∀ g, g < w.heap.size → g ≠ Q → g ≠ M → v.ownBlock ≠ some g → w'.heap[g]? = w.heap[g]?
  row : v'.ownBlock = v.ownBlock ∨ ∀ g, v'.ownBlock = some g → w.heap.size ≤ g
theorem Kp.refl (Q M : Nat) (v : Value) (w : World) : Kp Q M v w v w := ⟨rfl, rfl, rfl, Nat.le_refl _, fun _ _ _ _ _ => rfl, .inl rfl⟩
theorem Kp.trans {Q M : Nat} {v v1 v2 : Value} {w w1 w2 : World} (h : Kp Q M v w v1 w1) (k : Kp Q M v1 w1 v2 w2) : Kp Q M v w v2 w2 := by
  refine ⟨k.os.trans h.os, k.tape.trans h.tape, k.output.trans h.output, Nat.le_trans h.size k.size, fun g hg h1 h2 h3 => ?_, ?_⟩
  · refine (k.block g (Nat.lt_of_lt_of_le hg h.size) h1 h2 ?_).trans (h.block g hg h1 h2 h3)
    rcases h.row with e | e
    · rw [e]; exact h3
    · intro h4
      have := e g h4
      omega
  · rcases k.row with e | e
    · rw [e]
      exact h.row
    · exact .inr fun g hg => Nat.le_trans h.size (e g hg)
theorem Kp.of_below {Q M : Nat} {v : Value} {w w' : World} (hb : Below w.heap.size w w') : Kp Q M v w v w' := ⟨hb.os, hb.tape, hb.output, hb.size, fun g hg _ _ _ => hb.block g hg, .inl rfl⟩
theorem Kp.below {Q M B : Nat} {v v' : Value} {w w' : World} (h : Kp Q M v w v' w') (hB : B ≤ w.heap.size) (hQ : B ≤ Q) (hM : B ≤ M) (hv : ∀ g, v.ownBlock = some g → B ≤ g) : Below B w w' :=
  ⟨h.os, h.tape, h.output, h.size, fun g hg => h.block g (by omega) (by omega) (by omega) (fun e => by have := hv g e; omega)⟩
end Go.Proofs.YtfgangkpebkicaaDoor

/-
  Plain mathematics: what comes of a step may be; steps of a set change places.
-/
namespace Go.Proofs.YtfgangkpebkicaaDoor
open Go.RowKit
set_option maxRecDepth 20000
/-- A step that is done: at a state that may be, by a kind that belongs to the type. -/
theorem stepO_of {typ : Int} {s : List Int} {kind arg : Int} (h : (stepO typ s kind arg).2.2 = 0) : stateE typ s = 0 ∧ (fitsB typ kind && takesB kind arg) = true ∧ stepO typ s kind arg = stepped s kind arg := by
  unfold stepO at h ⊢
  by_cases h1 : stateE typ s ≠ 0
  · rw [if_pos h1] at h
    exact absurd h h1
  · rw [if_neg h1] at h ⊢
    by_cases h2 : (fitsB typ kind && takesB kind arg) = false
    · rw [if_pos h2] at h
      exact absurd h (by decide)
    · rw [if_neg h2]
      exact ⟨by simpa using h1, by simpa using h2, rfl⟩
theorem valid_ins {typ : Int} {s : List Int} {p : Nat} {x : Int} (h1 : oneB typ = false) (hv : validB typ s = true) (hx : 1 ≤ x ∧ x ≤ 1000) (hs : typ = 4 → (insAt s p x).Pairwise (· < ·)) : validB typ (insAt s p x) = true :=
  (valid_row h1).2 ⟨fun y hy => (insAt_mem.1 hy).elim (fun e => by rw [e]; exact hx) fun hy => ((valid_row h1).1 hv).1 y hy, hs⟩
theorem valid_del {typ : Int} {s : List Int} {p : Nat} (h1 : oneB typ = false) (hv : validB typ s = true) : validB typ (delAt s p) = true :=
  (valid_row h1).2 ⟨fun y hy => ((valid_row h1).1 hv).1 y (delAt_sub hy), fun h4 => del_sorted (((valid_row h1).1 hv).2 h4) p⟩
theorem takes_val {kind arg : Int} (h : takesB kind arg = true) (hk : kind = 1 ∨ kind = 3 ∨ kind = 5 ∨ kind = 7 ∨ kind = 8 ∨ kind = 9) : 1 ≤ arg ∧ arg ≤ 1000 := by
  unfold takesB at h
  rw [if_pos hk] at h
  exact btw_iff.1 h
/-- What is known of a step's outcome: the error, or a state that may be. -/
def StepOk (typ : Int) (s : List Int) (kind : Int) (o : List Int × Int × Int) : Prop :=
  o.2.2 = 0 → validB typ o.1 = true ∧ o.1.length ≤ 50 ∧ o.1.length ≤ s.length + 1 ∧ s.length ≤ o.1.length + 1 ∧ (kind = 2 ∨ kind = 9 → o.1 = s)
theorem stepped_ok {typ : Int} {s : List Int} {kind arg : Int} (ht : 1 ≤ typ ∧ typ ≤ 5) (hn : s.length ≤ 50) (hv : validB typ s = true) (hf : fitsB typ kind = true) (hk : takesB kind arg = true) : StepOk typ s kind (stepped s kind arg) := by
  obtain ⟨k1, k2, k3, k4, k5⟩ := fits_ways hf
  have keep : ∀ r, StepOk typ s kind (s, r, 0) := fun r _ => ⟨hv, hn, by simp, by simp, fun _ => rfl⟩
  have err : StepOk typ s kind ([], 0, 2) := fun h => absurd h (by decide)
  have ty : typ = 1 ∨ typ = 2 ∨ typ = 3 ∨ typ = 4 ∨ typ = 5 := by omega
  have ins : ∀ p r, oneB typ = false → p ≤ s.length → s.length ≠ 50 → (kind = 1 ∨ kind = 3 ∨ kind = 5 ∨ kind = 7 ∨ kind = 8) → (typ = 4 → (insAt s p arg).Pairwise (· < ·)) → StepOk typ s kind (insAt s p arg, r, 0) := fun p r h1 hp h50 hk' hs _ => by
    have hl := insAt_len s arg hp
    exact ⟨valid_ins h1 hv (takes_val hk (by omega)) hs, by simp only; omega, by simp only; omega, by simp only; omega, fun h => by omega⟩
  have del : ∀ p r, oneB typ = false → p < s.length → (kind = 4 ∨ kind = 6 ∨ kind = 8) → StepOk typ s kind (delAt s p, r, 0) := fun p r h1 hp hk' _ => by
    have hl := delAt_len s hp
    exact ⟨valid_del h1 hv, by simp only; omega, by simp only; omega, by simp only; omega, fun h => by omega⟩
  rcases ty with rfl | rfl | rfl | rfl | rfl
  · obtain ⟨h1, h2, h3⟩ := (valid_one rfl).1 hv
    rcases k1 rfl with rfl | rfl
    · intro _
      have := takes_val hk (by omega)
      exact ⟨(valid_one rfl).2 ⟨rfl, by show 0 ≤ arg; omega, by show arg ≤ 1000; omega⟩, by show 1 ≤ 50; omega, by show 1 ≤ _; omega, by show _ ≤ 1 + 1; omega, fun h => by omega⟩
    · exact keep _
  · rcases k2 rfl with rfl | rfl
    · have e : stepped s 3 arg = if s.length = 50 then ([], 0, 2) else (insAt s s.length arg, 0, 0) := rfl
      rw [e]
      split
      · exact err
      · exact ins _ _ rfl (Nat.le_refl _) (by assumption) (by omega) (fun h => by omega)
    · have e : stepped s 4 arg = if s.length = 0 then (s, -1, 0) else (delAt s 0, s.getD 0 0, 0) := rfl
      rw [e]
      split
      · exact keep _
      · exact del _ _ rfl (by omega) (by omega)
  · rcases k3 rfl with rfl | rfl
    · have e : stepped s 5 arg = if s.length = 50 then ([], 0, 2) else (insAt s s.length arg, 0, 0) := rfl
      rw [e]
      split
      · exact err
      · exact ins _ _ rfl (Nat.le_refl _) (by assumption) (by omega) (fun h => by omega)
    · have e : stepped s 6 arg = if s.length = 0 then (s, -1, 0) else (delAt s (s.length - 1), s.getD (s.length - 1) 0, 0) := rfl
      rw [e]
      split
      · exact keep _
      · exact del _ _ rfl (by omega) (by omega)
  · have hs := ((valid_row rfl).1 hv).2 rfl
    rcases k4 rfl with rfl | rfl | rfl
    · have e : stepped s 7 arg = if arg ∈ s then (s, 0, 0) else if s.length = 50 then ([], 0, 2) else (insAt s (lessN s arg) arg, 1, 0) := rfl
      rw [e]
      split
      · exact keep _
      · split
        · exact err
        · exact ins _ _ rfl (lessN_le _ _) (by assumption) (by omega) (fun _ => ins_sorted hs (by assumption))
    · have e : stepped s 8 arg = if arg ∈ s then (delAt s (lessN s arg), 1, 0) else (s, 0, 0) := rfl
      rw [e]
      split
      · exact del _ _ rfl (less_at hs (by assumption)).1 (by omega)
      · exact keep _
    · exact keep _
  · obtain ⟨h1, h2, h3⟩ := (valid_one rfl).1 hv
    rw [k5 rfl]
    have e : stepped s 10 arg = if s.getD 0 0 = 1000 then ([], 0, 2) else ([s.getD 0 0 + 1], s.getD 0 0, 0) := rfl
    rw [e]
    split
    · exact fun h => absurd h (by decide)
    · intro _
      exact ⟨(valid_one rfl).2 ⟨rfl, by show 0 ≤ s.getD 0 0 + 1; omega, by show s.getD 0 0 + 1 ≤ 1000; omega⟩, by show 1 ≤ 50; omega, by show 1 ≤ _; omega, by show _ ≤ 1 + 1; omega, fun h => by omega⟩
theorem stepO_ok {typ : Int} {s : List Int} {kind arg : Int} (h : (stepO typ s kind arg).2.2 = 0) : stateE typ (stepO typ s kind arg).1 = 0 ∧ (stepO typ s kind arg).1.length ≤ s.length + 1 ∧ s.length ≤ (stepO typ s kind arg).1.length + 1 ∧ (kind = 2 ∨ kind = 9 → (stepO typ s kind arg).1 = s) := by
  obtain ⟨he, hi, e⟩ := stepO_of h
  obtain ⟨ht, hn, hv⟩ := stateE_ok.1 he
  obtain ⟨hf, hk⟩ := Bool.and_eq_true_iff.1 hi
  have := stepped_ok ht hn hv hf hk
  rw [e] at h ⊢
  obtain ⟨h1, h2, h3, h4, h5⟩ := this h
  exact ⟨stateE_ok.2 ⟨ht, h2, h1⟩, h3, h4, h5⟩
end Go.Proofs.YtfgangkpebkicaaDoor

/-
  Plain: points that may be; points from which nothing is found; what a point's letters tell of that.
-/
namespace Go.Proofs.YtfgangkpebkicaaDoor
open Go.RowKit
set_option maxRecDepth 20000
variable {Rl : Nat → Nat → Bool}
/-- A point that may be. -/
structure PtOk (p : Pt) : Prop where
  done : p.done < 512
  st : ∀ i, i < 4 → (p.st i).length ≤ 50 ∧ ∀ x, x ∈ p.st i → -1000000 ≤ x ∧ x ≤ 1000000
  out : ∀ i, 4 ≤ i → p.st i = []
/-- Nothing is found from there on. -/
def Dead (Rl : Nat → Nat → Bool) (ts : List Int) (cs : List Cl) (p : Pt) : Prop := findO Rl ts cs (leftN cs.length p) p = none
theorem pt_same {p q : Pt} (hp : PtOk p) (hq : PtOk q) (h : keyB p = keyB q) : p = q := by
  obtain ⟨h1, h2⟩ := key_same h
  have h3 : p.st = q.st := by
    funext i
    rcases Nat.lt_or_ge i 4 with hi | hi
    · exact h2 i hi
    · rw [hp.out i hi, hq.out i hi]
  cases p; cases q
  simp at h1 h3
  rw [h1, h3]
/-- What is remembered is so. -/
def Mem8 (Rl : Nat → Nat → Bool) (ts : List Int) (cs : List Cl) (F : List UInt8 → Bool) : Prop := ∀ bs, F bs = true → ∃ p, PtOk p ∧ keyB p = bs ∧ Dead Rl ts cs p
theorem Mem8.hit {ts : List Int} {cs : List Cl} {F : List UInt8 → Bool} (h : Mem8 Rl ts cs F) {p : Pt} (hp : PtOk p) (hF : F (keyB p) = true) : Dead Rl ts cs p := by
  obtain ⟨q, h1, h2, h3⟩ := h _ hF
  rw [← pt_same h1 hp h2]
  exact h3
theorem Mem8.put {ts : List Int} {cs : List Cl} {F : List UInt8 → Bool} (h : Mem8 Rl ts cs F) {p : Pt} (hp : PtOk p) (hd : Dead Rl ts cs p) : Mem8 Rl ts cs (fun c => if c = keyB p then true else F c) := fun bs hbs => by
  simp only at hbs
  split at hbs
  · rename_i e
    exact ⟨p, hp, e.symm, hd⟩
  · exact h bs hbs
theorem full_left {cs : List Cl} {p : Pt} (h : leftN cs.length p = 0) : fullB cs p = true := by
  have h1 : ∀ k, k < cs.length → p.done.testBit k = true := fun k hk => by
    have := (List.countP_eq_zero.1 h) k (List.mem_range.2 hk)
    simpa using this
  unfold fullB
  rw [beq_iff_eq]
  apply Nat.eq_of_testBit_eq
  intro j
  rw [Nat.testBit_and, Nat.zero_testBit]
  unfold ansP
  rw [pickS_bit]
  by_cases hj : j < cs.length
  · have h2 := h1 j hj
    have h3 : (65535 - p.done).testBit j = false := by
      rcases Nat.lt_or_ge p.done 65536 with h4 | h4
      · rw [show (65535 - p.done) = 2 ^ 16 - (p.done + 1) by omega, Nat.testBit_two_pow_sub_succ (by omega : p.done < 2 ^ 16), h2]
        simp
      · rw [show 65535 - p.done = 0 by omega, Nat.zero_testBit]
    rw [h3, Bool.and_false]
  · rw [decide_eq_false hj, Bool.false_and, Bool.false_and]
theorem valid_range {typ : Int} {s : List Int} (h : stateE typ s = 0) : s.length ≤ 50 ∧ ∀ x, x ∈ s → -1000000 ≤ x ∧ x ≤ 1000000 := by
  obtain ⟨_, h1, h2⟩ := stateE_ok.1 h
  refine ⟨h1, fun x hx => ?_⟩
  cases ho : oneB typ
  · have := ((valid_row ho).1 h2).1 x hx
    omega
  · obtain ⟨h3, h4, h5⟩ := (valid_one ho).1 h2
    match s, h3 with
    | [y], _ =>
      rw [List.mem_singleton] at hx
      subst hx
      simp at h4 h5
      omega
theorem may_err {ts : List Int} {cs : List Cl} {p : Pt} {k : Nat} (h : mayB Rl ts cs p k = true) : (thingO ts cs p k).2.2 = 0 := by
  unfold mayB at h
  simp only [Bool.and_eq_true, beq_iff_eq] at h
  exact h.1.2
theorem PtOk.next {ts : List Int} {cs : List Cl} {p : Pt} {k : Nat} (h : PtOk p) (hk : k < 9) (hth : (cs.getD k default).thing.toNat < 4) (hm : mayB Rl ts cs p k = true) : PtOk (nextP ts cs p k) := by
  have he := valid_range (stepO_ok (may_err hm)).1
  refine ⟨Nat.or_lt_two_pow (n := 9) h.done (Nat.pow_lt_pow_right (by omega) hk), fun i hi => ?_, fun i hi => ?_⟩
  · show (if i = _ then _ else p.st i).length ≤ 50 ∧ ∀ x, x ∈ (if i = _ then _ else p.st i) → _
    split
    · exact he
    · exact h.st i hi
  · show (if i = _ then _ else p.st i) = []
    rw [if_neg (by omega)]
    exact h.out i hi
end Go.Proofs.YtfgangkpebkicaaDoor

/-
  A quest in memory: the record, the steps so far, the map of what is remembered; one more step, one less; a store into the map.
-/
namespace Go.Proofs.YtfgangkpebkicaaDoor
open Go.RowKit Go.Maps
set_option maxRecDepth 20000
variable {Rl : Nat → Nat → Bool}
abbrev quCs (tv cv : Value) (b : Nat → Nat) (an : Nat) (v : Value) (M : Nat) : Array Value := #[tv, cv, .int .u16 (b 0 : Nat), .int .u16 (b 1 : Nat), .int .u16 (b 2 : Nat), .int .u16 (b 3 : Nat), .int .u16 (b 4 : Nat), .int .u16 (b 5 : Nat), .int .u16 (b 6 : Nat), .int .u16 (b 7 : Nat), .int .u16 (b 8 : Nat), .int .u16 (an : Nat), v, .map (some M)]
/-- Blocks that a search leaves alone. -/
def Aw (Q M : Nat) (v : Value) (g : Nat) : Prop := g ≠ Q ∧ g ≠ M ∧ v.ownBlock ≠ some g
/-- Where a quest stands. -/
structure QSt (Rl : Nat → Nat → Bool) (B0 : Nat) (tv cv : Value) (ts : List Int) (cs : List Cl) (Q M : Nat) (v : Value) (S : List (Nat × Int)) (N : Nat) (F : List UInt8 → Bool) (w : World) : Prop where
  q : Lies w Q 113 (quCs tv cv (befP Rl cs) (ansP cs) v M)
  own : SOwn w B0 v S
  mp : FMap w M N F
  rt : NRd w B0 tv ts
  rc : CRd w B0 cv cs
  pw : Pow10 B0 w
  bq : B0 ≤ Q
  bm : B0 ≤ M
  qm : Q ≠ M
  vq : v.ownBlock ≠ some Q
  vm : v.ownBlock ≠ some M
section
variable {B0 : Nat} {tv cv : Value} {ts : List Int} {cs : List Cl} {Q M : Nat} {v : Value} {S : List (Nat × Int)} {N : Nat} {F : List UInt8 → Bool} {w w' : World}
theorem SOwn.block (h : SOwn w B0 v S) {g : Nat} (hg : v.ownBlock = some g) : B0 ≤ g ∧ g < w.heap.size := World.ownsRow.lt h g hg
theorem QSt.lt (h : QSt Rl B0 tv cv ts cs Q M v S N F w) : Q < w.heap.size := Lies.lt h.q
theorem QSt.base (h : QSt Rl B0 tv cv ts cs Q M v S N F w) : B0 ≤ w.heap.size := Nat.le_trans h.bq (Nat.le_of_lt h.lt)
theorem QSt.rec_ (h : QSt Rl B0 tv cv ts cs Q M v S N F w) : RecAt Rl w Q tv cv ts cs :=
  ⟨Lies.cell h.q 0, Lies.cell h.q 1, fun j hj => by
    rw [Lies.cell h.q]
    rcases nat9 hj with rfl | rfl | rfl | rfl | rfl | rfl | rfl | rfl | rfl <;> rfl, Lies.cell h.q 11, h.rt.mono h.base, h.rc.mono h.base, h.lt⟩
theorem QSt.steps (h : QSt Rl B0 tv cv ts cs Q M v S N F w) : w.cell? ⟨Q, 12, none⟩ = some v := Lies.cell h.q 12
theorem QSt.map_ (h : QSt Rl B0 tv cv ts cs Q M v S N F w) : w.cell? ⟨Q, 13, none⟩ = some (.map (some M)) := Lies.cell h.q 13
theorem QSt.free (h : QSt Rl B0 tv cv ts cs Q M v S N F w) (i : Nat) : w.frozen? ⟨Q, i, none⟩ = false := Lies.frozen h.q i
theorem QSt.next (h : QSt Rl B0 tv cv ts cs Q M v S N F w) (hb : Below w.heap.size w w') : QSt Rl B0 tv cv ts cs Q M v S N F w' :=
  ⟨Lies.below h.q hb h.lt, h.own.keep (fun g hg => hb.block g (h.own.block hg).2), h.mp.keep (hb.block M h.mp.lt), h.rt.below (hb.mono h.base), h.rc.below (hb.mono h.base), h.pw.on (hb.mono h.base), h.bq, h.bm, h.qm, h.vq, h.vm⟩
/-- The steps' slice is set. -/
theorem QSt.setV (h : QSt Rl B0 tv cv ts cs Q M v S N F w) {v' : Value} {S' : List (Nat × Int)} (ho : SOwn w B0 v' S') (h1 : v'.ownBlock ≠ some Q) (h2 : v'.ownBlock ≠ some M) : QSt Rl B0 tv cv ts cs Q M v' S' N F (w.setCell ⟨Q, 12, none⟩ v') := by
  have hb : Below B0 w (w.setCell ⟨Q, 12, none⟩ v') := (Below.refl _ _).setCell (p := ⟨Q, 12, none⟩) h.bq _
  have hk : ∀ g, g ≠ Q → (w.setCell ⟨Q, 12, none⟩ v').heap[g]? = w.heap[g]? := fun g hg => Below.heap_setCell _ _ _ _ hg
  exact ⟨Lies.cast (Lies.set_ h.q 12 v') (by simp [quCs]), ho.keep (fun g hg => hk g (fun e => h1 (by rw [hg, e]))), h.mp.keep (hk M (fun e => h.qm e.symm)), h.rt.below hb, h.rc.below hb, h.pw.on hb, h.bq, h.bm, h.qm, h1, h2⟩
theorem Kp.setV (v v' : Value) (w : World) (hv : v'.ownBlock = v.ownBlock ∨ ∀ g, v'.ownBlock = some g → w.heap.size ≤ g) : Kp Q M v w v' (w.setCell ⟨Q, 12, none⟩ v') :=
  ⟨rfl, rfl, rfl, by simp [World.setCell], fun g _ h1 _ _ => Below.heap_setCell _ _ _ _ h1, hv⟩
/-- A store into the map. -/
theorem QSt.put (h : QSt Rl B0 tv cv ts cs Q M v S N F w) (hg : w.grownBy w' (some M)) {F' : List UInt8 → Bool} (hm : FMap w' M (N + 1) F') : QSt Rl B0 tv cv ts cs Q M v S (N + 1) F' w' := by
  have hb : Below B0 w w' := ⟨hg.os, hg.tape, hg.output, hg.size, fun k hk => hg.block k (Nat.lt_of_lt_of_le hk h.base) (fun e => by have := h.bm; injection e with e; omega)⟩
  exact ⟨h.q.keep (hg.block Q h.lt (fun e => h.qm (Option.some.inj e))), h.own.keep (fun g hg' => hg.block g (h.own.block hg').2 (fun e => h.vm (by rw [hg', ← e]))), hm, h.rt.below hb, h.rc.below hb, h.pw.on hb, h.bq, h.bm, h.qm, h.vq, h.vm⟩
theorem Kp.put (v : Value) (hg : w.grownBy w' (some M)) : Kp Q M v w v w' :=
  ⟨hg.os, hg.tape, hg.output, hg.size, fun g h1 _ h3 _ => hg.block g h1 (fun e => h3 (Option.some.inj e)), .inl rfl⟩
theorem NAw.kp {v' : Value} {u : Value} {xs : List Int} (h : NAw (Aw Q M v) w u xs) (hk : Kp Q M v w v' w') : NAw (Aw Q M v') w' u xs := by
  have h1 : NAw (fun g => Aw Q M v g ∧ g < w.heap.size) w u xs := h.imp (fun g hg h => ⟨h, hg⟩)
  refine (h1.keep hk.size (fun g hs hg => hk.block g hg hs.1.1 hs.1.2.1 hs.1.2.2)).imp (fun g _ hs => ⟨hs.1.1, hs.1.2.1, ?_⟩)
  rcases hk.row with e | e
  · rw [e]; exact hs.1.2.2
  · intro h2
    have := e g h2
    omega
theorem Lies.kp {v' : Value} {g : Nat} {t : TypeId} {c : Array Value} (h : Lies w g t c) (ha : Aw Q M v g) (hk : Kp Q M v w v' w') : Lies w' g t c ∧ Aw Q M v' g := by
  refine ⟨h.keep (hk.block g h.lt ha.1 ha.2.1 ha.2.2), ha.1, ha.2.1, ?_⟩
  rcases hk.row with e | e
  · rw [e]; exact ha.2.2
  · intro h2
    have := e g h2
    have := h.lt
    omega
end
theorem info_step : (Tryd.prog.info? 38).map (fun i => (i.zero, i.size, i.bytes)) = some (some (.agg #[.int .i64 0, .int .i64 0]), 2, 16) := by kernel_rfl
/-- One more step. -/
theorem step_app {W : World} {B : Nat} {v : Value} {S : List (Nat × Int)} {d : Nat × Int} {G : Nat} (ty : TypeId) (h : SOwn W B v S) (hG : Lies W G 38 (stCs d).toArray) (hB : B ≤ W.heap.size) (hlen : S.length ≤ 1000) :
    ∃ g cap w', (Builtin.append_ #[34, 34] ty #[v, .slice (some ⟨G, 0, none⟩) 1 1]).run Tryd.prog W = .ok (.slice (some ⟨g, 0, none⟩) (S.length + 1) cap) w' ∧ SOwn w' B (.slice (some ⟨g, 0, none⟩) (S.length + 1) cap) (S ++ [d]) ∧ W.grownBy w' v.ownBlock ∧ (v.ownBlock = some g ∨ g = W.heap.size) := by
  obtain ⟨i0, hi, hz0, hz1, hz2⟩ := info_of info_step
  obtain ⟨g, cap, w', hr, h2, h3, h4, h5⟩ := run_append_lies (P := Tryd.prog) W 34 ty B 38 i0 (.agg #[.int .i64 0, .int .i64 0]) 2 16 Tryd.underlying34 hi hz0 hz1 hz2 rfl (by decide) v S.length (S.flatMap stCs) h
    ⟨G, 0, none⟩ 1 1 (stCs d) rfl (fun j u hu => by
      rw [Addr.add_lit, Nat.zero_add, hG.cell]
      simpa using hu) (fun u hu => by
      simp only [List.mem_cons, List.not_mem_nil, or_false] at hu
      rcases hu with rfl | rfl <;> rfl) (by decide) (by unfold maxLen; omega) (by omega) hB W.heap.size rfl
  refine ⟨g, cap, w', hr, ?_, h3, h4⟩
  unfold SOwn
  rw [List.length_append, List.flatMap_append]
  simpa using h2
/-- One step less. -/
theorem SOwn.cut {w : World} {B g cap n : Nat} {S : List (Nat × Int)} {d : Nat × Int} (h : SOwn w B (.slice (some ⟨g, 0, none⟩) n cap) (S ++ [d])) : n = S.length + 1 ∧ S.length ≤ cap ∧ SOwn w B (.slice (some ⟨g, 0, none⟩) S.length cap) S := by
  obtain ⟨h1, h2⟩ := h
  rcases h2 with ⟨h3, _⟩ | ⟨g', cap', cur, e, h3, h4, h5, h6, h7, h8⟩
  · cases h3
  · injection e with e1 e2 e3
    injection e1 with e1
    injection e1 with e1
    subst e1
    subst e3
    rw [List.length_append] at e2 h5 h8
    simp only [List.length_cons, List.length_nil] at e2 h5 h8
    have hfl : ∀ l : List (Nat × Int), (l.flatMap stCs).length = l.length * 2 := fun l => by
      induction l with
      | nil => rfl
      | cons a l ih => rw [List.flatMap_cons, List.length_append, ih, List.length_cons]; simp; omega
    refine ⟨e2, by omega, hfl S, .inr ⟨g, cap, cur, rfl, h3, h4, by omega, h6, h7, ?_⟩⟩
    rw [List.flatMap_append] at h8
    have h9 := congrArg (fun l => l.take (S.length * 2)) h8
    simp only [List.take_take] at h9
    rw [show min (S.length * 2) ((S.length + (0 + 1)) * 2) = S.length * 2 by omega] at h9
    rw [h9, List.take_append_of_le_length (by rw [hfl]; omega), List.take_of_length_le (by rw [hfl]; omega)]
end Go.Proofs.YtfgangkpebkicaaDoor
