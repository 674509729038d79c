/-
  Joined by a program out of: Part, SpanPure, AheadPure, LinPure, LinKey, LinShelf, LinBytes.
-/
import Derived.Test.YtfgangkpebkicaaDoorMgAD
import Derived.Test.YtfgangkpebkicaaDoorMgAH
import Derived.Test.YtfgangkpebkicaaDoorProg
import Derived.WalkKit
import Derived.Test.YtfgangkpebkicaaDoorMgAA
import Derived.Test.YtfgangkpebkicaaDoorMgAB
import Derived.Lib.ItoaMem
import Derived.Shelf.Strconv.AppendIntPublic10
import Derived.Laws.IdiomStrings

/-
  Contract of history.Part.
-/
namespace Go.Proofs.YtfgangkpebkicaaDoor
open Go.RowKit
set_option maxRecDepth 20000
/-- The events of one thing, or the error. -/
def partOf (ts : List Int) (l : List Ev) (q : Int) : List Ev × Int := if (callsOf ts l).2.2 ≠ 0 then ([], (callsOf ts l).2.2) else if ¬ (0 ≤ q ∧ q < ts.length) then ([], 4) else (partL l q, 0)
def PartPost (w : World) (o : List Ev × Int) (e : Ending) (w' : World) : Prop :=
  ∃ v, e = .returned (.tuple #[v, .int .i64 o.2]) ∧ Below w.heap.size w w' ∧ ERd w' w'.heap.size v o.1
theorem partL_take {l : List Ev} {k : Nat} {x : Ev} (hx : l[k]? = some x) (q : Int) : partL (l.take (k + 1)) q = if x.thing = q then partL (l.take k) q ++ [x] else partL (l.take k) q := by
  unfold partL
  rw [List.take_add_one, hx, List.filter_append]
  by_cases h : x.thing = q <;> simp [h]
set_option maxHeartbeats 4000000 in
theorem part_any {tv lv : Value} {ts : List Int} {l : List Ev} {w : World} (ht : NRd w w.heap.size tv ts) (hl : ERd w w.heap.size lv l) (q : Int) :
    Calls Tryd.prog 38 #[tv, lv, .int .i64 q] w (PartPost w (partOf ts l q)) := by
  have er : partOf ts l q = if (callsOf ts l).2.2 ≠ 0 then ([], (callsOf ts l).2.2) else if ¬ (0 ≤ q ∧ q < ts.length) then ([], 4) else (partL l q, 0) := rfl
  generalize partOf ts l q = o at er ⊢
  obtain ⟨At, capt, rfl, m1, m2⟩ := ht.is
  obtain ⟨Al, capl, rfl, m3, m4⟩ := hl.is
  unfold maxLen at m2 m4
  have HL := Lib.hid hl
  have HC := Lib.hid (calls_any ht hl)
  have HE := Lib.hid er
  clear ht hl er
  obtain ⟨L, hL⟩ : ∃ L, L = l.length := ⟨_, rfl⟩
  rw [← hL]
  rw [← hL] at m3 HC
  have HLL := Lib.hid hL
  clear hL
  have hw : IntKind.i64.wrap ((ts.length : Int) - 1) = (ts.length : Int) - 1 := by rw [IntKind.wrap_i64]; omega
  go_enter Tryd.func38, Tryd.ntmps38
  go_wp2_with fail
  refine HC.out.mono ?_
  rintro e w1 ⟨v1, rfl, hb1, -⟩
  have H1 := Lib.hid hb1
  clear HC hb1
  by_cases h0 : (callsOf ts l).2.2 = 0
  · have hlen := (calls_zero h0).2.1
    have HZ := Lib.hid h0
    have er := HE.out
    rw [if_neg (by rw [h0]; decide)] at er
    rw [h0]
    generalize (callsOf ts l).2.1 = a
    clear h0 HE
    cases c1 : btw 0 q ((ts.length : Int) - 1)
    · have hc1 := btw_not.1 c1
      rw [if_pos (by omega)] at er
      subst er
      go_wp2_with fail
      refine (within_any _ _ _ _).mono ?_
      rintro e w' ⟨rfl, rfl⟩
      go_wp2_with fail
      go_ret2
      exact ⟨_, rfl, H1.out, LRd.nil _ _⟩
    · have hc1 := btw_iff.1 c1
      rw [if_neg (by omega)] at er
      subst er
      have hL200 : L ≤ 200 := by rw [HLL.out]; exact hlen
      clear hc1
      go_wp2_with fail
      refine (within_any _ _ _ _).mono ?_
      rintro e w' ⟨rfl, rfl⟩
      go_wp2_with fail
      clear c1
      go_loopw [11, 32] (fun v i wr => ∃ (k : Nat) (v0 : Value), k ≤ L ∧ i = .int .i64 k ∧ v0 = v ∧ EOwn wr w.heap.size v0 (partL (l.take k) q) ∧ Below w.heap.size w wr) (fun _ i _ => L - (intOf i).toNat)
      case atStart => exact ⟨0, _, by omega, rfl, rfl, World.ownsRow_nil _ _ _ _, H1.out⟩
      case round =>
        clear H1
        obtain ⟨k, v0, hk, rfl, rfl, ho, hb⟩ := hrel
        by_cases hkL : k < L
        · obtain ⟨x, hx⟩ : ∃ x, l[k]? = some x := ⟨_, List.getElem?_eq_getElem (by rw [← HLL.out]; exact hkL)⟩
          have hst := partL_take hx q
          have hl' := HL.out.below hb
          rw [← HLL.out] at hl'
          obtain ⟨g, o, rfl, -, d0, d1, d2, d3⟩ := hl'.ev hx
          have i1 : (0 : Int) ≤ (k : Int) := by omega
          have i2 : (k : Int) < (L : Int) := by omega
          have hpl : (partL (l.take k) q).length ≤ 65536 := by
            have h1 : (partL (l.take k) q).length ≤ (l.take k).length := List.length_filter_le _ _
            have h2 : (l.take k).length ≤ k := List.length_take_le _ _
            omega
          have hbs := hb.size
          have HB := Lib.hid (And.intro ho (And.intro hb (And.intro hst hpl)))
          clear hl' hx ho hb hst hpl
          obtain ⟨xw, xt, xk, xv⟩ := x
          by_cases hq : xt = q
          · subst hq
            have HO := Lib.hid ((HB.out.1.alloc (.cells (evCs ⟨xw, xt, xk, xv⟩).toArray 84)).alloc (.cells (evCs ⟨xw, xt, xk, xv⟩).toArray 84))
            have HW := Lib.hid ((HB.out.2.1.alloc hbs (.cells (evCs ⟨xw, xt, xk, xv⟩).toArray 84)).alloc (by simp; omega) (.cells (evCs ⟨xw, xt, xk, xv⟩).toArray 84))
            have HNC := Lib.hid (new_cells (wr.alloc (.cells (evCs ⟨xw, xt, xk, xv⟩).toArray 84)) 84 (evCs ⟨xw, xt, xk, xv⟩))
            go_wp2_with (at_builtin; refine wpList_app_ev rfl (.tmp 40) (.tmp 42) rfl w.heap.size (wr.heap.size + 1) _ (partL (l.take k) xt) ⟨xw, xt, xk, xv⟩ rfl rfl HO.out (by simp) HB.out.2.2.2 HW.out.size ?_; intro v' w5 ho5 hb5 hg5; have HN := Lib.hid (And.intro ho5 hb5); clear ho5 hb5 hg5)
            go_roundw
            case rel =>
              refine ⟨k + 1, _, by omega, by go_num, rfl, ?_, HW.out.trans HN.out.2⟩
              rw [HB.out.2.2.1, if_pos rfl]
              exact HN.out.1
            case measure => simp [intOf]; omega
          · have hz : (xt == q) = false := by rw [beq_eq_false_iff_ne]; exact hq
            have HQ := Lib.hid hq
            clear hq
            go_wp2_with fail
            go_roundw
            case rel =>
              refine ⟨k + 1, _, by omega, by go_num, rfl, ?_, HB.out.2.1.alloc hbs _⟩
              rw [HB.out.2.2.1, if_neg HQ.out]
              exact HB.out.1.alloc _
            case measure => simp [intOf]; omega
        · obtain rfl : k = L := by omega
          have HB := Lib.hid (And.intro ho hb)
          have hbs := hb.size
          clear ho hb
          go_wp2_with fail
          go_ret2
          refine ⟨_, rfl, HB.out.2, ?_⟩
          have := HB.out.1.rd
          rw [HLL.out, List.take_length] at this
          exact this
  · have er := HE.out
    rw [if_pos h0] at er
    have hz : ((callsOf ts l).2.2 != 0) = true := by rw [bne_iff_ne]; exact h0
    generalize (callsOf ts l).2.2 = r at hz er ⊢
    generalize (callsOf ts l).2.1 = a
    have HE2 := Lib.hid er
    clear h0 HE er
    go_wp2_with fail
    go_ret2
    have e := HE2.out
    subst e
    exact ⟨_, rfl, H1.out, LRd.nil _ _⟩
end Go.Proofs.YtfgangkpebkicaaDoor

/-
  Plain mathematics for package spans: m spans, from F i to T i. No Go, no program.
-/
namespace Go.Proofs.YtfgangkpebkicaaDoor
open Go.RowKit
set_option maxRecDepth 20000
/-- The set of the items below m of which p holds. -/
def pickS (p : Nat → Bool) : Nat → Nat
  | 0 => 0
  | m + 1 => if p m = true then pickS p m ||| 2 ^ m else pickS p m
theorem pickS_bit (p : Nat → Bool) (i : Nat) : ∀ m, (pickS p m).testBit i = (decide (i < m) && p i)
  | 0 => by simp [pickS]
  | m + 1 => by
    rw [pickS]
    have ih := pickS_bit p i m
    by_cases e : m = i
    · subst e
      cases hp : p m
      · simp [ih, hp]
      · simp
    · have : decide (i < m + 1) = decide (i < m) := by simp; omega
      rw [this, ← ih]
      split
      · rw [Nat.testBit_or, Nat.testBit_two_pow]; simp [e]
      · rfl
theorem pickS_lt (p : Nat → Bool) : ∀ m, pickS p m < 2 ^ m
  | 0 => by simp [pickS]
  | m + 1 => by
    have ih := pickS_lt p m
    rw [pickS]
    split
    · exact Nat.or_lt_two_pow (Nat.lt_trans ih (Nat.pow_lt_pow_right (by omega) (by omega))) (Nat.pow_lt_pow_right (by omega) (by omega))
    · exact Nat.lt_trans ih (Nat.pow_lt_pow_right (by omega) (by omega))
theorem pickS_lt16 (p : Nat → Bool) {m : Nat} (hm : m ≤ 12) : pickS p m < 65536 :=
  Nat.lt_of_lt_of_le (pickS_lt p m) (Nat.le_trans (Nat.pow_le_pow_right (by omega) hm) (by decide))
end Go.Proofs.YtfgangkpebkicaaDoor

/-
  A relation given by a test of two items, row by row; who is ahead of whom among calls.
-/
namespace Go.Proofs.YtfgangkpebkicaaDoor
open Go.RowKit
set_option maxRecDepth 20000
def relP (p : Nat → Nat → Bool) (m : Nat) : Nat → Nat := fun i => if i < m then pickS (p i) m else 0
theorem relP_bit (p : Nat → Nat → Bool) (m i j : Nat) : (relP p m i).testBit j = (decide (i < m) && decide (j < m) && p i j) := by
  unfold relP
  by_cases h : i < m
  · rw [if_pos h, pickS_bit]; simp [h]
  · rw [if_neg h]; simp [h]
theorem relP_lt (p : Nat → Nat → Bool) {m : Nat} (hm : m ≤ 12) (i : Nat) : relP p m i < 65536 := by
  unfold relP
  split
  · exact pickS_lt16 _ hm
  · omega
/-- The relation behind k whole rows and the first j of row k. -/
def upP (p : Nat → Nat → Bool) (m k j : Nat) : Nat → Nat := fun i => if i < k then pickS (p i) m else if i = k then pickS (p k) j else 0
theorem upP_end (p : Nat → Nat → Bool) (m k : Nat) : upP p m k m = upP p m (k + 1) 0 := by
  funext i
  unfold upP
  by_cases h1 : i < k
  · rw [if_pos h1, if_pos (by omega)]
  · rw [if_neg h1]
    by_cases h2 : i = k
    · subst h2; rw [if_pos rfl, if_pos (by omega)]
    · rw [if_neg h2, if_neg (by omega)]
      by_cases h3 : i = k + 1
      · rw [if_pos h3]; rfl
      · rw [if_neg h3]
theorem upP_step (p : Nat → Nat → Bool) (m k j : Nat) : upP p m k (j + 1) = if p k j = true then (fun i => if i = k then upP p m k j k ||| 2 ^ j else upP p m k j i) else upP p m k j := by
  have hs : pickS (p k) (j + 1) = if p k j = true then pickS (p k) j ||| 2 ^ j else pickS (p k) j := by
    apply Nat.eq_of_testBit_eq
    intro i
    rw [pickS_bit]
    by_cases h : p k j = true
    · rw [if_pos h, Nat.testBit_or, pickS_bit, Nat.testBit_two_pow]
      by_cases e : j = i
      · subst e; simp [h]
      · simp [e, show i < j + 1 ↔ i < j by omega]
    · rw [if_neg h, pickS_bit]
      by_cases e : i = j
      · subst e; simp [h]
      · simp [show i < j + 1 ↔ i < j by omega]
  by_cases h : p k j = true
  · rw [if_pos h] at hs ⊢
    funext i
    unfold upP
    by_cases h1 : i = k
    · subst h1; simp [hs]
    · simp [h1]
  · rw [if_neg h] at hs ⊢
    funext i
    unfold upP
    rw [hs]
theorem upP_lt (p : Nat → Nat → Bool) (m k j : Nat) (hm : m ≤ 12) (hj : j ≤ 12) (i : Nat) : upP p m k j i < 65536 := by
  unfold upP
  split
  · exact pickS_lt16 _ hm
  · split
    · exact pickS_lt16 _ hj
    · omega
theorem upP_all (p : Nat → Nat → Bool) (m : Nat) : upP p m m 0 = relP p m := by
  funext i
  unfold upP relP
  by_cases h : i < m
  · rw [if_pos h, if_pos h]
  · rw [if_neg h, if_neg h]
    split <;> rfl
theorem upP_none (p : Nat → Nat → Bool) (m : Nat) : upP p m 0 0 = fun _ => 0 := by
  funext i
  unfold upP
  rw [if_neg (by omega)]
  split <;> rfl
/-- Is call i answered ahead of call j? -/
def aheadB (l : List Cl) (i j : Nat) : Bool := decide ((l.getD i default).til ≠ -1 ∧ (l.getD i default).til < (l.getD j default).frm)
theorem aheadB_at {l : List Cl} {i j : Nat} {x y : Cl} (hx : l[i]? = some x) (hy : l[j]? = some y) : aheadB l i j = decide (x.til ≠ -1 ∧ x.til < y.frm) := by
  unfold aheadB
  rw [List.getD_eq_getElem?_getD, hx, List.getD_eq_getElem?_getD, hy]
  rfl
end Go.Proofs.YtfgangkpebkicaaDoor

/-
  Plain mathematics for package search: points, what may come next, the least order from a point on.
-/
namespace Go.Proofs.YtfgangkpebkicaaDoor
open Go.RowKit
set_option maxRecDepth 20000
variable {Rl : Nat → Nat → Bool}
/-- Where some calls, one behind the other, have led to. -/
structure Pt where
  done : Nat
  st : Nat → List Int
/-- What must be done ahead of each call. -/
def befP (Rl : Nat → Nat → Bool) (cs : List Cl) : Nat → Nat := relP (fun j i => Rl i j) cs.length
/-- Who was answered. -/
def ansP (cs : List Cl) : Nat := pickS (fun i => decide ((cs.getD i default).til ≠ -1)) cs.length
/-- Does nothing have to follow? -/
def fullB (cs : List Cl) (p : Pt) : Bool := ansP cs &&& (65535 - p.done) == 0
/-- What the thing of a call makes of it. -/
def thingO (ts : List Int) (cs : List Cl) (p : Pt) (k : Nat) : List Int × Int × Int :=
  stepO (ts.getD (cs.getD k default).thing.toNat 0) (p.st (cs.getD k default).thing.toNat) (cs.getD k default).kind (cs.getD k default).arg
/-- The point behind call k. -/
def nextP (ts : List Int) (cs : List Cl) (p : Pt) (k : Nat) : Pt :=
  ⟨p.done ||| 2 ^ k, fun t => if t = (cs.getD k default).thing.toNat then (thingO ts cs p k).1 else p.st t⟩
/-- May call k come next? -/
def mayB (Rl : Nat → Nat → Bool) (ts : List Int) (cs : List Cl) (p : Pt) (k : Nat) : Bool :=
  !p.done.testBit k && (befP Rl cs k &&& (65535 - p.done) == 0) && ((thingO ts cs p k).2.2 == 0) && ((cs.getD k default).til == -1 || (thingO ts cs p k).2.1 == (cs.getD k default).res)
/-- Numbers from k on, m of them: the first that may come next, and from which the rest goes on. -/
def tryO (Rl : Nat → Nat → Bool) (go : Pt → Option (List (Nat × Int))) (ts : List Int) (cs : List Cl) (p : Pt) : Nat → Nat → Option (List (Nat × Int))
  | 0, _ => none
  | m + 1, k => if mayB Rl ts cs p k = true then (match go (nextP ts cs p k) with
    | some l => some ((k, (thingO ts cs p k).2.1) :: l)
    | none => tryO Rl go ts cs p m (k + 1)) else tryO Rl go ts cs p m (k + 1)
/-- The least order from a point on; at most f more calls. -/
def findO (Rl : Nat → Nat → Bool) (ts : List Int) (cs : List Cl) : Nat → Pt → Option (List (Nat × Int))
  | 0, p => if fullB cs p = true then some [] else none
  | f + 1, p => if fullB cs p = true then some [] else tryO Rl (findO Rl ts cs f) ts cs p cs.length 0
/-- How many calls are left. -/
def leftN (n : Nat) (p : Pt) : Nat := (List.range n).countP fun k => !p.done.testBit k
/-- The point ahead of all calls. -/
def startP (ts : List Int) : Pt := ⟨0, fun t => if t < ts.length then beginL (ts.getD t 0) else []⟩
theorem countP_less {n k : Nat} {p q : Nat → Bool} (hk : k < n) (hp : p k = true) (hq : q k = false) (h : ∀ j, j ≠ k → q j = p j) : (List.range n).countP p = (List.range n).countP q + 1 := by
  induction n with
  | zero => omega
  | succ n ih =>
    rw [List.range_succ, List.countP_append, List.countP_append]
    simp only [List.countP_cons, List.countP_nil]
    by_cases e : k = n
    · subst e
      rw [hp, hq]
      have : (List.range k).countP p = (List.range k).countP q := by
        apply List.countP_congr
        intro j hj
        rw [h j (by have := List.mem_range.1 hj; omega)]
      simp only [Bool.false_eq_true, if_false, if_true]
      omega
    · have := ih (by omega)
      rw [h n (by omega)]
      omega
theorem left_next {ts : List Int} {cs : List Cl} {p : Pt} {n k : Nat} (hk : k < n) (h : p.done.testBit k = false) : leftN n p = leftN n (nextP ts cs p k) + 1 := by
  unfold leftN nextP
  refine countP_less hk (by rw [h]; rfl) (by simp) (fun j hj => ?_)
  simp only [Nat.testBit_or, Nat.testBit_two_pow]
  rw [decide_eq_false (by omega), Bool.or_false]
theorem may_done {ts : List Int} {cs : List Cl} {p : Pt} {k : Nat} (h : mayB Rl ts cs p k = true) : p.done.testBit k = false := by
  unfold mayB at h
  simp only [Bool.and_eq_true, Bool.not_eq_true'] at h
  exact h.1.1.1
end Go.Proofs.YtfgangkpebkicaaDoor

/-
  Plain: a point's letters tell the point.
-/
namespace Go.Proofs.YtfgangkpebkicaaDoor
open Go.RowKit
set_option maxRecDepth 20000
/-- What a row of digits comes to. -/
def valL (l : List UInt8) : Nat := l.foldl (fun a d => a * 10 + (d.toNat - 48)) 0
theorem digit_nat {d : Nat} (h : d < 10) : (UInt8.ofNat (48 + d)).toNat = 48 + d := by
  rw [UInt8.toNat_ofNat']
  omega
theorem dec_val (u : Nat) : valL (Lib.decDigits u) = u := by
  induction u using Nat.strongRecOn with
  | ind u ih =>
    rw [Lib.decDigits]
    split
    · rename_i h
      unfold valL
      simp only [List.foldl_cons, List.foldl_nil]
      rw [digit_nat h]
      omega
    · rename_i h
      have := ih (u / 10) (by omega)
      unfold valL at this ⊢
      rw [List.foldl_append, this]
      simp only [List.foldl_cons, List.foldl_nil]
      rw [digit_nat (Nat.mod_lt _ (by omega))]
      omega
theorem dec_digit (u : Nat) : ∀ d, d ∈ Lib.decDigits u → 48 ≤ d.toNat ∧ d.toNat ≤ 57 := by
  induction u using Nat.strongRecOn with
  | ind u ih =>
    intro d hd
    rw [Lib.decDigits] at hd
    split at hd
    · rename_i h
      rw [List.mem_singleton] at hd
      subst hd
      rw [digit_nat h]
      omega
    · rename_i h
      rcases List.mem_append.1 hd with hd | hd
      · exact ih (u / 10) (by omega) d hd
      · rw [List.mem_singleton] at hd
        subst hd
        rw [digit_nat (Nat.mod_lt _ (by omega))]
        omega
theorem dec_ne (u : Nat) : Lib.decDigits u ≠ [] := by
  rw [Lib.decDigits]
  split
  · exact List.cons_ne_nil _ _
  · simp
theorem dec_inj {u v : Nat} (h : Lib.decDigits u = Lib.decDigits v) : u = v := by rw [← dec_val u, h, dec_val]
theorem itoa_inj {a b : Int} (h : Lib.itoa a = Lib.itoa b) : a = b := by
  unfold Lib.itoa at h
  have key : ∀ u v : Nat, (45 : UInt8) :: Lib.decDigits u ≠ Lib.decDigits v := fun u v e => by
    have := dec_digit v 45 (by rw [← e]; exact List.mem_cons_self ..)
    exact absurd this.1 (by decide)
  split at h
  · split at h
    · injection h with _ h
      have := dec_inj h
      omega
    · exact absurd h (key _ _)
  · split at h
    · exact absurd h.symm (key _ _)
    · have := dec_inj h
      omega
/-- Is it between two numbers? -/
def sepB (d : UInt8) : Bool := d == 32 || d == 59
theorem itoa_sep (a : Int) : ∀ d, d ∈ Lib.itoa a → sepB d = false := by
  intro d hd
  have key : ∀ u : Nat, d ∈ Lib.decDigits u → sepB d = false := fun u h => by
    have := dec_digit u d h
    unfold sepB
    rw [Bool.or_eq_false_iff]
    constructor
    · rw [beq_eq_false_iff_ne]; rintro rfl; exact absurd this.1 (by decide)
    · rw [beq_eq_false_iff_ne]; rintro rfl; exact absurd this.2 (by decide)
  unfold Lib.itoa at hd
  split at hd
  · rcases List.mem_cons.1 hd with rfl | hd
    · rfl
    · exact key _ hd
  · exact key _ hd
/-- Nothing, or what begins between two numbers. -/
def HeadS (l : List UInt8) : Prop := ∀ d r, l = d :: r → sepB d = true
theorem cut_same : ∀ {a b x y : List UInt8}, (∀ d, d ∈ a → sepB d = false) → (∀ d, d ∈ b → sepB d = false) → HeadS x → HeadS y → a ++ x = b ++ y → a = b ∧ x = y
  | [], [], x, y, _, _, _, _, h => ⟨rfl, h⟩
  | [], d :: b, x, y, _, hb, hx, _, h => by
    rw [List.nil_append, List.cons_append] at h
    have h1 := hx d _ h
    rw [hb d (List.mem_cons_self ..)] at h1
    cases h1
  | d :: a, [], x, y, ha, _, _, hy, h => by
    rw [List.nil_append, List.cons_append] at h
    have h1 := hy d _ h.symm
    rw [ha d (List.mem_cons_self ..)] at h1
    cases h1
  | d :: a, e :: b, x, y, ha, hb, hx, hy, h => by
    rw [List.cons_append, List.cons_append] at h
    injection h with h1 h2
    obtain ⟨h3, h4⟩ := cut_same (fun d hd => ha d (List.mem_cons_of_mem _ hd)) (fun d hd => hb d (List.mem_cons_of_mem _ hd)) hx hy h2
    exact ⟨by rw [h1, h3], h4⟩
/-- A state's letters. -/
def rowB8 : List Int → List UInt8
  | [] => []
  | x :: r => 32 :: (Lib.itoa x ++ rowB8 r)
theorem rowB8_snoc : ∀ (l : List Int) (x : Int), rowB8 (l ++ [x]) = rowB8 l ++ 32 :: Lib.itoa x
  | [], x => by simp [rowB8]
  | y :: r, x => by rw [List.cons_append, rowB8, rowB8, rowB8_snoc r x]; simp
/-- Nothing, or what begins behind a state. -/
def HeadE (l : List UInt8) : Prop := l = [] ∨ ∃ r, l = 59 :: r
theorem HeadE.sep {l : List UInt8} (h : HeadE l) : HeadS l := by
  intro d r e
  rcases h with rfl | ⟨r', rfl⟩
  · cases e
  · injection e with e _; subst e; rfl
theorem row_head {l : List Int} {x : List UInt8} (h : HeadE x) : HeadS (rowB8 l ++ x) := by
  cases l with
  | nil => exact h.sep
  | cons y r =>
    intro d r' e
    rw [rowB8, List.cons_append] at e
    injection e with e _
    subst e
    rfl
theorem row_same : ∀ {a b : List Int} {x y : List UInt8}, HeadE x → HeadE y → rowB8 a ++ x = rowB8 b ++ y → a = b ∧ x = y
  | [], [], x, y, _, _, h => ⟨rfl, h⟩
  | [], e :: b, x, y, hx, _, h => by
    rw [rowB8, rowB8, List.nil_append, List.cons_append] at h
    rcases hx with rfl | ⟨r, rfl⟩
    · cases h
    · injection h with h _; exact absurd h (by decide)
  | e :: a, [], x, y, _, hy, h => by
    rw [rowB8, rowB8, List.nil_append, List.cons_append] at h
    rcases hy with rfl | ⟨r, rfl⟩
    · cases h
    · injection h with h _; exact absurd h (by decide)
  | d :: a, e :: b, x, y, hx, hy, h => by
    rw [rowB8, rowB8, List.cons_append, List.cons_append, List.append_assoc, List.append_assoc] at h
    injection h with _ h
    obtain ⟨h1, h2⟩ := cut_same (itoa_sep d) (itoa_sep e) (row_head hx) (row_head hy) h
    obtain ⟨h3, h4⟩ := row_same hx hy h2
    exact ⟨by rw [itoa_inj h1, h3], h4⟩
/-- The letters of the first m states, each behind a 59. -/
def rowsB8 (st : Nat → List Int) : Nat → List UInt8
  | 0 => []
  | m + 1 => rowsB8 st m ++ 59 :: rowB8 (st m)
/-- A point's letters. -/
def keyB (p : Pt) : List UInt8 := Lib.decDigits p.done ++ rowsB8 p.st 4
theorem head_e (l : List UInt8) : HeadE (59 :: l) := .inr ⟨l, rfl⟩
theorem key_same {p q : Pt} (h : keyB p = keyB q) : p.done = q.done ∧ ∀ i, i < 4 → p.st i = q.st i := by
  unfold keyB at h
  simp only [rowsB8, List.nil_append, List.append_assoc, List.cons_append] at h
  have hd : ∀ u : Nat, ∀ d, d ∈ Lib.decDigits u → sepB d = false := fun u d hd => itoa_sep (u : Int) d (by rw [Lib.itoa_nonneg]; exact hd)
  obtain ⟨h0, h⟩ := cut_same (hd _) (hd _) (head_e _).sep (head_e _).sep h
  injection h with _ h
  obtain ⟨h1, h⟩ := row_same (head_e _) (head_e _) h
  injection h with _ h
  obtain ⟨h2, h⟩ := row_same (head_e _) (head_e _) h
  injection h with _ h
  obtain ⟨h3, h⟩ := row_same (head_e _) (head_e _) h
  injection h with _ h
  have h4 := row_same (x := []) (y := []) (.inl rfl) (.inl rfl) (by simpa using h)
  refine ⟨dec_inj h0, fun i hi => ?_⟩
  rcases i with _ | _ | _ | _ | i
  · exact h1
  · exact h2
  · exact h3
  · exact h4.1
  · omega
end Go.Proofs.YtfgangkpebkicaaDoor

/-
  The library's contracts of strconv.AppendInt and AppendUint, laid at this program.
-/
namespace Go.Proofs.YtfgangkpebkicaaDoor
open Go.RowKit Go.Shelf
set_option maxRecDepth 20000
def strRen : Go.Shelf.Ren := ⟨fun | 129 => 91 | 176 => 93 | 249 => 107 | 283 => 113 | 284 => 114 | 285 => 115 | 286 => 116 | 288 => 106 | 317 => 117 | 318 => 118 | 319 => 119 | 320 => 120 | 337 => 121 | 338 => 122 | n => n,
  fun | 0 => 0 | 2 => 2 | 3 => 3 | 4 => 4 | 5 => 5 | 9 => 9 | 20 => 20 | 37 => 157 | 46 => 135 | 51 => 134 | 53 => 155 | 171 => 197 | 173 => 199 | 212 => 202 | 213 => 203 | 232 => 133 | 233 => 204 | n => n, fun | 17 => 1 | 18 => 0 | 19 => 2 | n => n⟩
theorem laysStr176 : LaysM.n176 Tryd.prog strRen := {
  mixed := by kernel_rfl
  f129 := Tryd.func91.trans (congrArg some (by kernel_rfl))
  f176 := Tryd.func93.trans (congrArg some (by kernel_rfl))
  f249 := Tryd.func107.trans (congrArg some (by kernel_rfl))
  f283 := Tryd.func113.trans (congrArg some (by kernel_rfl))
  f284 := Tryd.func114.trans (congrArg some (by kernel_rfl))
  f285 := Tryd.func115.trans (congrArg some (by kernel_rfl))
  f286 := Tryd.func116.trans (congrArg some (by kernel_rfl))
  f288 := Tryd.func106.trans (congrArg some (by kernel_rfl))
  f317 := Tryd.func117.trans (congrArg some (by kernel_rfl))
  f318 := Tryd.func118.trans (congrArg some (by kernel_rfl))
  f319 := Tryd.func119.trans (congrArg some (by kernel_rfl))
  f320 := Tryd.func120.trans (congrArg some (by kernel_rfl))
  f337 := Tryd.func121.trans (congrArg some (by kernel_rfl))
  f338 := Tryd.func122.trans (congrArg some (by kernel_rfl))
  t0 := Tryd.underlying0
  a0 := Tryd.isAgg0
  z0 := Tryd.sizeOf0
  v0 := Tryd.zeroValue0
  t2 := Tryd.underlying2
  a2 := Tryd.isAgg2
  z2 := Tryd.sizeOf2
  v2 := Tryd.zeroValue2
  t3 := Tryd.underlying3
  a3 := Tryd.isAgg3
  z3 := Tryd.sizeOf3
  v3 := Tryd.zeroValue3
  t4 := Tryd.underlying4
  a4 := Tryd.isAgg4
  z4 := Tryd.sizeOf4
  v4 := Tryd.zeroValue4
  t5 := Tryd.underlying5
  a5 := Tryd.isAgg5
  z5 := Tryd.sizeOf5
  v5 := Tryd.zeroValue5
  t9 := Tryd.underlying9
  a9 := Tryd.isAgg9
  z9 := Tryd.sizeOf9
  v9 := Tryd.zeroValue9
  t20 := Tryd.underlying20
  a20 := Tryd.isAgg20
  z20 := Tryd.sizeOf20
  v20 := Tryd.zeroValue20
  t37 := Tryd.underlying157
  a37 := Tryd.isAgg157
  z37 := Tryd.sizeOf157
  v37 := Tryd.zeroValue157
  t46 := Tryd.underlying135
  a46 := Tryd.isAgg135
  z46 := Tryd.sizeOf135
  v46 := Tryd.zeroValue135
  t51 := Tryd.underlying134
  a51 := Tryd.isAgg134
  z51 := Tryd.sizeOf134
  v51 := Tryd.zeroValue134
  t53 := Tryd.underlying155
  a53 := Tryd.isAgg155
  z53 := Tryd.sizeOf155
  v53 := Tryd.zeroValue155
  t171 := Tryd.underlying197
  a171 := Tryd.isAgg197
  z171 := Tryd.sizeOf197
  v171 := Tryd.zeroValue197
  t173 := Tryd.underlying199
  a173 := Tryd.isAgg199
  z173 := Tryd.sizeOf199
  v173 := Tryd.zeroValue199
  t212 := Tryd.underlying202
  a212 := Tryd.isAgg202
  z212 := Tryd.sizeOf202
  v212 := Tryd.zeroValue202
  t213 := Tryd.underlying203
  a213 := Tryd.isAgg203
  z213 := Tryd.sizeOf203
  t232 := Tryd.underlying133
  a232 := Tryd.isAgg133
  z232 := Tryd.sizeOf133
  v232 := Tryd.zeroValue133
  t233 := Tryd.underlying204
  a233 := Tryd.isAgg204
  z233 := Tryd.sizeOf204
  v233 := Tryd.zeroValue204
  g17 := by kernel_rfl
  g18 := by kernel_rfl
  g19 := by kernel_rfl
  i0 := by kernel_rfl
  i2 := by kernel_rfl
  i3 := by kernel_rfl
  i4 := by kernel_rfl
  i5 := by kernel_rfl
  i9 := by kernel_rfl
  i20 := by kernel_rfl
  i37 := by kernel_rfl
  i46 := by kernel_rfl
  i51 := by kernel_rfl
  i53 := by kernel_rfl
  i171 := by kernel_rfl
  i173 := by kernel_rfl
  i212 := by kernel_rfl
  i232 := by kernel_rfl
  i233 := by kernel_rfl
  m17 := by kernel_rfl
  m18 := by kernel_rfl
  m19 := by kernel_rfl
  }
theorem laysStr288 : LaysM.n288 Tryd.prog strRen := {
  mixed := by kernel_rfl
  f129 := Tryd.func91.trans (congrArg some (by kernel_rfl))
  f283 := Tryd.func113.trans (congrArg some (by kernel_rfl))
  f284 := Tryd.func114.trans (congrArg some (by kernel_rfl))
  f285 := Tryd.func115.trans (congrArg some (by kernel_rfl))
  f286 := Tryd.func116.trans (congrArg some (by kernel_rfl))
  f288 := Tryd.func106.trans (congrArg some (by kernel_rfl))
  f317 := Tryd.func117.trans (congrArg some (by kernel_rfl))
  f318 := Tryd.func118.trans (congrArg some (by kernel_rfl))
  f319 := Tryd.func119.trans (congrArg some (by kernel_rfl))
  f320 := Tryd.func120.trans (congrArg some (by kernel_rfl))
  f337 := Tryd.func121.trans (congrArg some (by kernel_rfl))
  f338 := Tryd.func122.trans (congrArg some (by kernel_rfl))
  t0 := Tryd.underlying0
  a0 := Tryd.isAgg0
  z0 := Tryd.sizeOf0
  v0 := Tryd.zeroValue0
  t3 := Tryd.underlying3
  a3 := Tryd.isAgg3
  z3 := Tryd.sizeOf3
  v3 := Tryd.zeroValue3
  t4 := Tryd.underlying4
  a4 := Tryd.isAgg4
  z4 := Tryd.sizeOf4
  v4 := Tryd.zeroValue4
  t5 := Tryd.underlying5
  a5 := Tryd.isAgg5
  z5 := Tryd.sizeOf5
  v5 := Tryd.zeroValue5
  t9 := Tryd.underlying9
  a9 := Tryd.isAgg9
  z9 := Tryd.sizeOf9
  v9 := Tryd.zeroValue9
  t20 := Tryd.underlying20
  a20 := Tryd.isAgg20
  z20 := Tryd.sizeOf20
  v20 := Tryd.zeroValue20
  t37 := Tryd.underlying157
  a37 := Tryd.isAgg157
  z37 := Tryd.sizeOf157
  v37 := Tryd.zeroValue157
  t46 := Tryd.underlying135
  a46 := Tryd.isAgg135
  z46 := Tryd.sizeOf135
  v46 := Tryd.zeroValue135
  t51 := Tryd.underlying134
  a51 := Tryd.isAgg134
  z51 := Tryd.sizeOf134
  v51 := Tryd.zeroValue134
  t53 := Tryd.underlying155
  a53 := Tryd.isAgg155
  z53 := Tryd.sizeOf155
  v53 := Tryd.zeroValue155
  t171 := Tryd.underlying197
  a171 := Tryd.isAgg197
  z171 := Tryd.sizeOf197
  v171 := Tryd.zeroValue197
  t173 := Tryd.underlying199
  a173 := Tryd.isAgg199
  z173 := Tryd.sizeOf199
  v173 := Tryd.zeroValue199
  t212 := Tryd.underlying202
  a212 := Tryd.isAgg202
  z212 := Tryd.sizeOf202
  v212 := Tryd.zeroValue202
  t213 := Tryd.underlying203
  a213 := Tryd.isAgg203
  z213 := Tryd.sizeOf203
  t232 := Tryd.underlying133
  a232 := Tryd.isAgg133
  z232 := Tryd.sizeOf133
  v232 := Tryd.zeroValue133
  t233 := Tryd.underlying204
  a233 := Tryd.isAgg204
  z233 := Tryd.sizeOf204
  v233 := Tryd.zeroValue204
  g17 := by kernel_rfl
  g18 := by kernel_rfl
  g19 := by kernel_rfl
  i0 := by kernel_rfl
  i3 := by kernel_rfl
  i4 := by kernel_rfl
  i5 := by kernel_rfl
  i9 := by kernel_rfl
  i20 := by kernel_rfl
  i37 := by kernel_rfl
  i46 := by kernel_rfl
  i51 := by kernel_rfl
  i53 := by kernel_rfl
  i171 := by kernel_rfl
  i173 := by kernel_rfl
  i212 := by kernel_rfl
  i232 := by kernel_rfl
  i233 := by kernel_rfl
  m17 := by kernel_rfl
  m18 := by kernel_rfl
  m19 := by kernel_rfl
  }
end Go.Proofs.YtfgangkpebkicaaDoor

/-
  Rows of bytes of the call's own: one more byte; a number's digits; the string of them.
-/
namespace Go.Proofs.YtfgangkpebkicaaDoor
open Go.RowKit
set_option maxRecDepth 20000
/-- A slice of the call's own (in blocks from B on) that holds these bytes. -/
def BOwn (w : World) (B : Nat) (v : Value) (l : List UInt8) : Prop := w.ownsRow B 5 1 v l.length (Lib.byteCells l)
theorem BOwn.nil (w : World) (B : Nat) : BOwn w B (.slice none 0 0) [] := World.ownsRow_nil _ _ _ _
theorem BOwn.below {w w' : World} {B : Nat} {v : Value} {l : List UInt8} (h : BOwn w B v l) (hb : Below w.heap.size w w') : BOwn w' B v l := by
  refine ⟨h.1, h.2.elim (fun h => .inl h) fun ⟨g, cap, cur, h1, h2, h3, h4, h5, h6, h7⟩ => .inr ⟨g, cap, cur, h1, h2, ?_, h4, h5, h6, h7⟩⟩
  rw [hb.block g (Array.getElem?_eq_some_iff.1 h3).1]
  exact h3
theorem info_byte : (Tryd.prog.info? 5).map (fun i => (i.zero, i.size, i.bytes)) = some (some (.int .u8 0), 1, 1) := by kernel_rfl
theorem byteCells_one (y : UInt8) : Lib.byteCells [y] = [.int .u8 (y.toNat : Int)] := rfl
theorem byteCells_app (a b : List UInt8) : Lib.byteCells (a ++ b) = Lib.byteCells a ++ Lib.byteCells b := by unfold Lib.byteCells; exact List.map_append ..
theorem run_app_byte {W : World} {base G : Nat} {v : Value} {l : List UInt8} (y : UInt8) (ty : TypeId) (hown : BOwn W base v l) (hG : W.cell? ⟨G, 0, none⟩ = some (.int .u8 (y.toNat : Int))) (hlen : l.length ≤ 65536) (hbase : base ≤ W.heap.size) :
    ∃ v' w', (Builtin.append_ #[157, 157] ty #[v, .slice (some ⟨G, 0, none⟩) 1 1]).run Tryd.prog W = .ok v' w' ∧ BOwn w' base v' (l ++ [y]) ∧ Below base W w' := by
  obtain ⟨i0, hi, hz0, hz1, hz2⟩ := info_of info_byte
  have hl := World.ownsRow.lt hown
  obtain ⟨v', w', hr, h2, h3, _⟩ := run_append_own (P := Tryd.prog) W base 157 ty 5 i0 (.int .u8 0) 1 1 Tryd.underlying157 hi hz0 hz1 hz2 rfl (by decide) v l.length (Lib.byteCells l) hown
    ⟨G, 0, none⟩ 1 1 (Lib.byteCells [y]) rfl (fun j u hu => by
      rw [Addr.add_lit, Nat.zero_add]
      have hj : j = 0 := by
        have := (List.getElem?_eq_some_iff.1 hu).1
        simp [Lib.byteCells] at this
        omega
      subst hj
      rw [byteCells_one] at hu
      simp only [List.getElem?_cons_zero, Option.some.injEq] at hu
      subst hu
      exact hG) (fun u hu => by
      rw [byteCells_one] at hu
      simp only [List.mem_cons, List.not_mem_nil, or_false] at hu
      subst hu
      rfl) (by unfold maxLen; omega) (by omega) hbase
  refine ⟨v', w', hr, ?_, (Below.refl base W).grown h3 hbase (fun k hk => (hl k hk).1)⟩
  unfold BOwn
  rw [List.length_append, byteCells_app]
  exact h2
theorem wp_app_byte {W : World} {o : Oper} {a : Act} {K : Act → World → Prop} {Q : Exit → Act → World → Prop} (s x : Operand)
    (ho : o.op = .call { callee := .builtin .append, args := #[s, x], argTypes := #[157, 157] })
    (base G : Nat) (v : Value) (l : List UInt8) (y : UInt8) (hs : a.eval s = v) (hx : a.eval x = .slice (some ⟨G, 0, none⟩) 1 1) (hown : BOwn W base v l) (hG : W.cell? ⟨G, 0, none⟩ = some (.int .u8 (y.toNat : Int))) (hlen : l.length ≤ 65536) (hbase : base ≤ W.heap.size)
    (h : ∀ v' w', BOwn w' base v' (l ++ [y]) → Below base W w' → K (a.put o.dst v') w') : Oper.wp Tryd.prog o a W K Q := by
  obtain ⟨v', w', hrun, r1, r2⟩ := run_app_byte y o.type hown hG hlen hbase
  unfold Oper.wp
  simp [execOp, ho, resolve, invoke, builtin, hs, hx, hrun, Result.andThen]
  exact h v' w' r1 r2
theorem wpList_app_byte {W : World} {ops : Array Oper} {rest : List Oper} {o : Oper} {a : Act} {Q : Exit → Act → World → Prop} (hgd : o.guard = none) (s x : Operand)
    (ho : o.op = .call { callee := .builtin .append, args := #[s, x], argTypes := #[157, 157] })
    (base G : Nat) (v : Value) (l : List UInt8) (y : UInt8) (hs : a.eval s = v) (hx : a.eval x = .slice (some ⟨G, 0, none⟩) 1 1) (hown : BOwn W base v l) (hG : W.cell? ⟨G, 0, none⟩ = some (.int .u8 (y.toNat : Int))) (hlen : l.length ≤ 65536) (hbase : base ≤ W.heap.size)
    (h : ∀ v' w', BOwn w' base v' (l ++ [y]) → Below base W w' → wpList Tryd.prog ops Q rest (a.put o.dst v') w') : wpList Tryd.prog ops Q (o :: rest) a W :=
  wpList_plain hgd fun _ hK => wp_app_byte s x ho base G v l y hs hx hown hG hlen hbase fun v' w' h1 h2 => hK _ _ (h v' w' h1 h2)
/-- The table of powers of ten, below B. -/
def Pow10 (B : Nat) (w : World) : Prop := Lib.TabBelow Tryd.prog B w "internal/strconv.uint64pow10" .u64 Lib.pow10Tab
theorem Pow10.mono {B B' : Nat} {w : World} (h : Pow10 B w) (hB : B ≤ B') : Pow10 B' w := fun w' hb => h w' (hb.mono hB)
theorem Pow10.on {B : Nat} {w w' : World} (h : Pow10 B w) (hb : Below B w w') : Pow10 B w' := Lib.TabBelow.on h hb
/-- strconv.AppendUint behind bytes of one's own. -/
theorem appuint_any {w : World} {B : Nat} {v : Value} {l : List UInt8} (u : Nat) (hu : u < 18446744073709551616) (h : BOwn w B v l) (hB : B ≤ w.heap.size) (hl : l.length ≤ 65536) (ht : Pow10 B w) :
    Calls Tryd.prog 92 #[v, .int .u64 u, .int .i64 10] w fun e w' => ∃ v', e = .returned v' ∧ BOwn w' B v' (l ++ Lib.decDigits u) ∧ Below B w w' := by
  have hc := Any.internal_strconv_AppendUint_10 laysStr288 B l.length u hu v (Lib.byteCells l) w h hB (by omega) (Lib.TabBelow.here ht)
  have hc' : Calls Tryd.prog 106 #[v, .int .u64 u, .int .i64 10] w fun e w' => ∃ v', e = .returned v' ∧ BOwn w' B v' (l ++ Lib.decDigits u) ∧ Below B w w' := by
    refine Calls.mono (show Calls Tryd.prog 106 _ _ _ from hc) ?_
    rintro e w' ⟨v', rfl, h1, h2, _⟩
    refine ⟨v', rfl, ?_, h2⟩
    unfold BOwn
    rw [List.length_append, byteCells_app]
    exact h1
  have HC := Lib.hid hc'
  clear hc hc' h ht
  go_enter Tryd.func92, Tryd.ntmps92
  go_wp2_with fail
  refine HC.out.mono ?_
  rintro e w' ⟨v', rfl, h1, h2⟩
  have HH := Lib.hid (And.intro h1 h2)
  clear h1 h2
  go_wp2_with fail
  go_ret
  exact ⟨_, rfl, HH.out.1, HH.out.2⟩
/-- strconv.AppendInt behind bytes of one's own. -/
theorem appint_any {w : World} {B : Nat} {v : Value} {l : List UInt8} (i : Int) (h0 : -9223372036854775808 ≤ i) (h1 : i ≤ 9223372036854775807) (h : BOwn w B v l) (hB : B ≤ w.heap.size) (hl : l.length ≤ 65536) (ht : Pow10 B w) :
    Calls Tryd.prog 93 #[v, .int .i64 i, .int .i64 10] w fun e w' => ∃ v', e = .returned v' ∧ BOwn w' B v' (l ++ Lib.itoa i) ∧ Below B w w' := by
  have hc := Any.strconv_AppendInt_10 laysStr176 B l.length i h0 h1 v (Lib.byteCells l) w h hB (by omega) ht
  refine Calls.mono (show Calls Tryd.prog 93 _ _ _ from hc) ?_
  rintro e w' ⟨v', rfl, h1, h2, _⟩
  refine ⟨v', rfl, ?_, h2⟩
  unfold BOwn
  rw [List.length_append, byteCells_app]
  exact h1
/-- Bytes of one's own as a string. -/
theorem bytes_string {w : World} {B : Nat} {v : Value} {l : List UInt8} (h : BOwn w B v l) (hn : l ≠ []) : (convert 157 9 v).run Tryd.prog w = .ok (.string ⟨l.toArray⟩) w := by
  rcases h.2 with ⟨rfl, h0⟩ | ⟨g, cap, cur, rfl, h1, h2, h3⟩
  · exact absurd (List.length_eq_zero_iff.1 h0) hn
  · refine run_convert_bytes_back w 157 9 5 ⟨g, 0, none⟩ cap l Tryd.underlying157 Tryd.underlying5 Tryd.underlying9 (fun j hj => ?_)
    rw [Addr.add_lit, Nat.zero_add, World.ownsRow.cellAt h j (by omega)]
    simp [Lib.byteCells, hj]
end Go.Proofs.YtfgangkpebkicaaDoor
