/-
  Joined by a program out of: QuePure, Gives.
-/
import Derived.Test.YthjmncngegchjaaMgAB
import Derived.Test.YthjmncngegchjaaMgAC

/-
  Plain: histories of a queue whose values are unlike; what can't be.
-/
namespace Go.Proofs.Ythjmncngegchjaa
open Go.RowKit
set_option maxRecDepth 20000
def isE (v : Int) (c : Cl) : Bool := c.kind == 3 && c.arg == v
def isD (v : Int) (c : Cl) : Bool := c.kind == 4 && c.res == v
theorem isE_iff {v : Int} {c : Cl} : isE v c = true ↔ c.kind = 3 ∧ c.arg = v := by
  unfold isE; rw [Bool.and_eq_true, beq_iff_eq, beq_iff_eq]
theorem isD_iff {v : Int} {c : Cl} : isD v c = true ↔ c.kind = 4 ∧ c.res = v := by
  unfold isD; rw [Bool.and_eq_true, beq_iff_eq, beq_iff_eq]
/-- The first call of which f holds, from number k on. -/
def fAt (f : Cl → Bool) : Nat → List Cl → Option Nat
  | _, [] => none
  | k, c :: r => if f c = true then some k else fAt f (k + 1) r
theorem fAt_some {f : Cl → Bool} : ∀ (cs : List Cl) (k i : Nat), fAt f k cs = some i ↔ k ≤ i ∧ (∃ c, cs[i - k]? = some c ∧ f c = true) ∧ ∀ j c, j < i - k → cs[j]? = some c → f c = false
  | [], k, i => by simp [fAt]
  | c :: r, k, i => by
    rw [fAt]
    split
    · rename_i hw
      constructor
      · intro h
        injection h with h
        subst h
        exact ⟨Nat.le_refl _, ⟨c, by simp, hw⟩, fun j d hj => by omega⟩
      · rintro ⟨h1, ⟨d, h2, h3⟩, h4⟩
        by_cases e : k = i
        · rw [e]
        · have := h4 0 c (by omega) rfl
          rw [hw] at this
          cases this
    · rename_i hw
      rw [fAt_some r (k + 1) i]
      constructor
      · rintro ⟨h1, ⟨d, h2, h3⟩, h4⟩
        refine ⟨by omega, ⟨d, ?_, h3⟩, fun j d' hj hd => ?_⟩
        · rw [show i - k = (i - (k + 1)) + 1 by omega, List.getElem?_cons_succ]
          exact h2
        · cases j with
          | zero =>
            simp at hd
            subst hd
            exact Bool.eq_false_iff.2 hw
          | succ j => exact h4 j d' (by omega) (by simpa using hd)
      · rintro ⟨h1, ⟨d, h2, h3⟩, h4⟩
        have hki : k ≠ i := by
          intro e
          subst e
          rw [Nat.sub_self] at h2
          simp at h2
          subst h2
          exact hw h3
        refine ⟨by omega, ⟨d, ?_, h3⟩, fun j d' hj hd => h4 (j + 1) d' (by omega) (by simpa using hd)⟩
        rw [show i - k = (i - (k + 1)) + 1 by omega, List.getElem?_cons_succ] at h2
        exact h2
theorem fAt_none {f : Cl → Bool} : ∀ (cs : List Cl) (k : Nat), fAt f k cs = none ↔ ∀ c ∈ cs, f c = false
  | [], k => by simp [fAt]
  | c :: r, k => by
    rw [fAt]
    split
    · rename_i hw
      simp [hw]
    · rename_i hw
      rw [fAt_none r (k + 1)]
      simp [hw]
/-- Which call puts a value; which takes it first. -/
def pAt (cs : List Cl) (v : Int) : Option Nat := fAt (isE v) 0 cs
def tAt (cs : List Cl) (v : Int) : Option Nat := if v = -1 then none else fAt (isD v) 0 cs
theorem pAt_some {cs : List Cl} {v : Int} {i : Nat} : pAt cs v = some i ↔ (∃ c, cs[i]? = some c ∧ isE v c = true) ∧ ∀ j c, j < i → cs[j]? = some c → isE v c = false := by
  unfold pAt
  rw [fAt_some, Nat.sub_zero]
  exact ⟨fun h => h.2, fun h => ⟨Nat.zero_le _, h⟩⟩
theorem tAt_some {cs : List Cl} {v : Int} {i : Nat} : tAt cs v = some i ↔ v ≠ -1 ∧ (∃ c, cs[i]? = some c ∧ isD v c = true) ∧ ∀ j c, j < i → cs[j]? = some c → isD v c = false := by
  unfold tAt
  split
  · rename_i h
    exact ⟨fun h2 => (by cases h2), fun h2 => absurd h h2.1⟩
  · rename_i h
    rw [fAt_some, Nat.sub_zero]
    exact ⟨fun h2 => ⟨h, h2.2⟩, fun h2 => ⟨Nat.zero_le _, h2.2⟩⟩
theorem pAt_none {cs : List Cl} {v : Int} : pAt cs v = none ↔ ∀ c ∈ cs, isE v c = false := fAt_none cs 0
theorem tAt_none {cs : List Cl} {v : Int} : tAt cs v = none ↔ v = -1 ∨ ∀ c ∈ cs, isD v c = false := by
  unfold tAt
  split
  · rename_i h; exact ⟨fun _ => .inl h, fun _ => rfl⟩
  · rename_i h; rw [fAt_none]; exact ⟨.inr, fun h2 => h2.resolve_left h⟩
def precB (c d : Cl) : Bool := c.til != -1 && decide (c.til < d.frm)
theorem precB_iff {c d : Cl} : precB c d = true ↔ c.til ≠ -1 ∧ c.til < d.frm := by
  unfold precB; rw [Bool.and_eq_true, bne_iff_ne, decide_eq_true_iff]
def pC (cs : List Cl) (v : Int) : Cl := cs.getD ((pAt cs v).getD 0) default
def tC (cs : List Cl) (v : Int) : Cl := cs.getD ((tAt cs v).getD 0) default
/-- The time of a value for certain. -/
def stayV (cs : List Cl) (v : Int) : Option (Int × Int) :=
  if (pAt cs v).isSome = true ∧ (pC cs v).til ≠ -1 ∧ (pC cs v).til ≤ (if (tAt cs v).isSome = true then (tC cs v).frm - 1 else 199)
  then some ((pC cs v).til, if (tAt cs v).isSome = true then (tC cs v).frm - 1 else 199) else none
def valsQ (cs : List Cl) : List Int := ((List.range 1001).map fun (k : Nat) => (k : Int)).filter fun v => (pAt cs v).isSome
def staysL (cs : List Cl) : List (Int × Int) := (valsQ cs).filterMap (stayV cs)
/-- The first that takes and of which f holds. -/
def firstD (kd : Int) (f : Nat → Cl → Int × Bool) : Nat → List Cl → Bz
  | _, [] => noBz
  | k, c :: r => if c.kind = 4 ∧ (f k c).2 = true then ⟨kd, k, (f k c).1⟩ else firstD kd f (k + 1) r
def strayF (cs : List Cl) (_ : Nat) (c : Cl) : Int × Bool := (0, !(pAt cs c.res).isSome && !(c.res == -1))
def twiceF (cs : List Cl) (k : Nat) (c : Cl) : Int × Bool := ((((tAt cs c.res).getD 0 : Nat) : Int), (tAt cs c.res).isSome && decide ((tAt cs c.res).getD 0 < k))
def earlyF (cs : List Cl) (_ : Nat) (c : Cl) : Int × Bool := ((((pAt cs c.res).getD 0 : Nat) : Int), (pAt cs c.res).isSome && precB c (pC cs c.res))
def fullAt (ss : List (Int × Int)) (k : Int) : Bool := ss.any fun s => decide (s.1 ≤ k ∧ k ≤ s.2)
def emptyF (ss : List (Int × Int)) (_ : Nat) (c : Cl) : Int × Bool := (0, c.res == -1 && (List.range 200).all fun (k : Nat) => !decide (c.frm ≤ (k : Int) ∧ (k : Int) < c.til) || fullAt ss k)
/-- Is b put behind a for certain, and yet taken ahead of it? -/
def overB (cs : List Cl) (b a : Int) : Bool := ((tAt cs b).isSome && precB (pC cs a) (pC cs b)) && (!(tAt cs a).isSome || precB (tC cs b) (tC cs a))
def ordRow (cs : List Cl) (a : Int) : List Int → Bz
  | [] => noBz
  | b :: l => if overB cs b a = true then ⟨6, a, b⟩ else ordRow cs a l
def ordQ (cs : List Cl) (all : List Int) : List Int → Bz
  | [] => noBz
  | a :: l => if (ordRow cs a all).kind ≠ 0 then ordRow cs a all else ordQ cs all l
def badQ (cs : List Cl) : Bz := orZ (firstD 1 (strayF cs) 0 cs) (orZ (firstD 2 (twiceF cs) 0 cs) (orZ (firstD 3 (earlyF cs) 0 cs) (orZ (ordQ cs (valsQ cs) (valsQ cs)) (firstD 7 (emptyF (staysL cs)) 0 cs))))
theorem firstD_cases {kd : Int} {f : Nat → Cl → Int × Bool} : ∀ (cs : List Cl) (k : Nat), ((∀ i c, cs[i]? = some c → c.kind = 4 → (f (k + i) c).2 = false) ∧ firstD kd f k cs = noBz) ∨
    ∃ i c, cs[i]? = some c ∧ c.kind = 4 ∧ (f (k + i) c).2 = true ∧ (∀ j d, j < i → cs[j]? = some d → d.kind = 4 → (f (k + j) d).2 = false) ∧ firstD kd f k cs = ⟨kd, ((k + i : Nat) : Int), (f (k + i) c).1⟩
  | [], k => .inl ⟨fun i c h => by simp at h, rfl⟩
  | c :: r, k => by
    rw [firstD]
    by_cases h : c.kind = 4 ∧ (f k c).2 = true
    · rw [if_pos h]
      exact .inr ⟨0, c, rfl, h.1, h.2, fun j d hj => by omega, rfl⟩
    · rw [if_neg h]
      rcases firstD_cases (kd := kd) (f := f) r (k + 1) with ⟨h1, h2⟩ | ⟨i, d, h1, h2, h3, h4, h5⟩
      · refine .inl ⟨fun i d hd hk => ?_, h2⟩
        cases i with
        | zero =>
          simp at hd
          subst hd
          exact Bool.eq_false_iff.2 fun e => h ⟨hk, e⟩
        | succ i =>
          have := h1 i d (by simpa using hd) hk
          rwa [show k + 1 + i = k + (i + 1) by omega] at this
      · rw [show k + 1 + i = k + (i + 1) by omega] at h3 h5
        refine .inr ⟨i + 1, d, by simpa using h1, h2, h3, fun j e hj he hk => ?_, h5⟩
        cases j with
        | zero =>
          simp at he
          subst he
          exact Bool.eq_false_iff.2 fun e => h ⟨hk, e⟩
        | succ j =>
          have := h4 j e (by omega) (by simpa using he) hk
          rwa [show k + 1 + j = k + (j + 1) by omega] at this
theorem ordRow_cases {cs : List Cl} {a : Int} : ∀ (l : List Int), ((∀ b ∈ l, overB cs b a = false) ∧ ordRow cs a l = noBz) ∨ ∃ b ∈ l, overB cs b a = true ∧ ordRow cs a l = ⟨6, a, b⟩
  | [] => .inl ⟨(fun b h => by cases h), rfl⟩
  | b :: l => by
    rw [ordRow]
    by_cases h : overB cs b a = true
    · rw [if_pos h]; exact .inr ⟨b, List.mem_cons_self, h, rfl⟩
    · rw [if_neg h]
      rcases ordRow_cases (cs := cs) (a := a) l with ⟨h1, h2⟩ | ⟨q, h1, h2, h3⟩
      · refine .inl ⟨fun q hq => ?_, h2⟩
        rcases List.mem_cons.1 hq with rfl | hq
        · exact Bool.eq_false_iff.2 h
        · exact h1 q hq
      · exact .inr ⟨q, List.mem_cons_of_mem _ h1, h2, h3⟩
theorem ordQ_cases {cs : List Cl} {all : List Int} : ∀ (l : List Int), ((∀ a ∈ l, ∀ b ∈ all, overB cs b a = false) ∧ ordQ cs all l = noBz) ∨ ∃ a ∈ l, ∃ b ∈ all, overB cs b a = true ∧ ordQ cs all l = ⟨6, a, b⟩
  | [] => .inl ⟨(fun b h => by cases h), rfl⟩
  | a :: l => by
    rw [ordQ]
    rcases ordRow_cases (cs := cs) (a := a) all with ⟨h1, h2⟩ | ⟨b, h1, h2, h3⟩
    · rw [h2, if_neg (by show ¬ (0 : Int) ≠ 0; simp)]
      rcases ordQ_cases (cs := cs) (all := all) l with ⟨h3, h4⟩ | ⟨x, h3, y, h4, h5⟩
      · refine .inl ⟨fun x hx => ?_, h4⟩
        rcases List.mem_cons.1 hx with rfl | hx
        · exact h1
        · exact h3 x hx
      · exact .inr ⟨x, List.mem_cons_of_mem _ h3, y, h4, h5⟩
    · rw [h3, if_pos (by show (6 : Int) ≠ 0; decide)]
      exact .inr ⟨a, List.mem_cons_self, b, h1, h2, rfl⟩
/-- No value is put twice. -/
def OnceE (cs : List Cl) : Prop := ∀ (i j : Nat) (c d : Cl), cs[i]? = some c → cs[j]? = some d → c.kind = 3 → d.kind = 3 → c.arg = d.arg → i = j
structure QueH (n : Nat) (cs : List Cl) : Prop where
  ord : Orderly n cs
  n200 : n ≤ 200
  ok : ∀ c ∈ cs, CallOk [2] c
  gives : ∀ c ∈ cs, c.til ≠ -1 → givesB c.kind c.res = true
  once : OnceE cs
  ans : ∀ c ∈ cs, c.kind = 4 → c.til ≠ -1
  apart : ∀ c ∈ cs, ∀ d ∈ cs, c.til ≠ d.frm
/-- What nobody put is taken. -/
def StrayQ (cs : List Cl) : Prop := ∃ x ∈ cs, x.kind = 4 ∧ x.res ≠ -1 ∧ ∀ d ∈ cs, isE x.res d = false
/-- What is taken is taken again. -/
def TwiceQ (cs : List Cl) : Prop := ∃ (i j : Nat) (c d : Cl), i < j ∧ cs[i]? = some c ∧ cs[j]? = some d ∧ c.kind = 4 ∧ d.kind = 4 ∧ c.res = d.res ∧ d.res ≠ -1
def EarlyQ (cs : List Cl) : Prop := ∃ x ∈ cs, x.kind = 4 ∧ ∃ d ∈ cs, isE x.res d = true ∧ x.til < d.frm
/-- b overtakes a. -/
def OverQ (cs : List Cl) (a b : Int) : Prop := ∃ ea ∈ cs, ∃ eb ∈ cs, ∃ tb ∈ cs, isE a ea = true ∧ isE b eb = true ∧ isD b tb = true ∧ ea.til ≠ -1 ∧ ea.til < eb.frm ∧ ∀ ta ∈ cs, isD a ta = true → tb.til < ta.frm
def OrdQ (cs : List Cl) : Prop := ∃ a b, OverQ cs a b
/-- For certain something is there. -/
def FullQ (cs : List Cl) (k : Int) : Prop := ∃ e ∈ cs, e.kind = 3 ∧ e.til ≠ -1 ∧ e.til ≤ k ∧ ∀ t ∈ cs, isD e.arg t = true → k < t.frm
def EmptyQ (cs : List Cl) : Prop := ∃ x ∈ cs, x.kind = 4 ∧ x.res = -1 ∧ ∀ k : Int, x.frm ≤ k → k < x.til → FullQ cs k
section
variable {n : Nat} {cs : List Cl}
theorem que_kind {c : Cl} (hk : CallOk [2] c) : (c.kind = 3 ∧ 1 ≤ c.arg ∧ c.arg ≤ 1000) ∨ (c.kind = 4 ∧ c.arg = 0) := by
  have hf := hk.fits
  have ht := hk.takes
  have h0 : c.thing.toNat = 0 := by have := hk.thing; simp at this; omega
  rw [h0] at hf
  unfold fitsB at hf
  rw [decide_eq_true_iff] at hf
  have h1 : (2 : Int) = kindType c.kind := hf.2
  unfold kindType at h1
  have h2 : c.kind = 3 ∨ c.kind = 4 := by
    apply Classical.byContradiction
    intro hn
    repeat' split at h1
    all_goals omega
  rcases h2 with h2 | h2
  · left
    rw [h2] at ht
    unfold takesB at ht
    rw [if_pos (by simp), btw_iff] at ht
    exact ⟨h2, ht⟩
  · right
    rw [h2] at ht
    unfold takesB at ht
    rw [if_neg (by simp), beq_iff_eq] at ht
    exact ⟨h2, ht⟩
theorem QueH.kind (h : QueH n cs) {c : Cl} (hc : c ∈ cs) : (c.kind = 3 ∧ 1 ≤ c.arg ∧ c.arg ≤ 1000 ∧ c.res = 0) ∨ (c.kind = 4 ∧ c.arg = 0 ∧ c.til ≠ -1 ∧ (c.res = -1 ∨ (1 ≤ c.res ∧ c.res ≤ 1000))) := by
  rcases que_kind (h.ok c hc) with h1 | h1
  · refine .inl ⟨h1.1, h1.2.1, h1.2.2, ?_⟩
    by_cases ht : c.til = -1
    · exact (h.ord.tidy c hc).2.2.2 ht
    · have := h.gives c hc ht
      rw [h1.1] at this
      unfold givesB at this
      rwa [if_neg (by simp), if_neg (by simp), if_neg (by simp), beq_iff_eq] at this
  · have ht := h.ans c hc h1.1
    refine .inr ⟨h1.1, h1.2, ht, ?_⟩
    have := h.gives c hc ht
    rw [h1.1] at this
    unfold givesB at this
    rwa [if_neg (by simp), if_pos (by simp), Bool.or_eq_true, beq_iff_eq, btw_iff] at this
theorem QueH.thing (h : QueH n cs) {c : Cl} (hc : c ∈ cs) : c.thing = 0 := by
  have := (h.ok c hc).thing
  simp at this
  omega
theorem QueH.frm (h : QueH n cs) {c : Cl} (hc : c ∈ cs) : 0 ≤ c.frm ∧ c.frm < 200 ∧ c.til < 200 ∧ (c.til = -1 ∨ c.frm < c.til) := by
  have h1 := h.ord.tidy c hc
  have h2 := h.n200
  exact ⟨h1.2.2.1, by omega, by omega, h.ord.ends c hc⟩
/-- What puts a value. -/
theorem QueH.p_at (h : QueH n cs) {v : Int} {i : Nat} {c : Cl} (hc : cs[i]? = some c) (he : isE v c = true) : pAt cs v = some i ∧ pC cs v = c := by
  have h1 : pAt cs v = some i := pAt_some.2 ⟨⟨c, hc, he⟩, fun j d hj hd => Bool.eq_false_iff.2 fun hd2 => by
    have := h.once i j c d hc hd (isE_iff.1 he).1 (isE_iff.1 hd2).1 ((isE_iff.1 he).2.trans (isE_iff.1 hd2).2.symm)
    omega⟩
  refine ⟨h1, ?_⟩
  unfold pC
  rw [h1, Option.getD_some, List.getD_eq_getElem?_getD, hc]
  rfl
theorem p_get {v : Int} (hs : (pAt cs v).isSome = true) : ∃ i c, cs[i]? = some c ∧ isE v c = true ∧ pAt cs v = some i ∧ pC cs v = c := by
  obtain ⟨i, hi⟩ := Option.isSome_iff_exists.1 hs
  obtain ⟨⟨c, h1, h2⟩, _⟩ := pAt_some.1 hi
  refine ⟨i, c, h1, h2, hi, ?_⟩
  unfold pC
  rw [hi, Option.getD_some, List.getD_eq_getElem?_getD, h1]
  rfl
theorem t_get {v : Int} (hs : (tAt cs v).isSome = true) : ∃ i c, cs[i]? = some c ∧ isD v c = true ∧ tAt cs v = some i ∧ tC cs v = c ∧ v ≠ -1 := by
  obtain ⟨i, hi⟩ := Option.isSome_iff_exists.1 hs
  obtain ⟨h0, ⟨c, h1, h2⟩, _⟩ := tAt_some.1 hi
  refine ⟨i, c, h1, h2, hi, ?_, h0⟩
  unfold tC
  rw [hi, Option.getD_some, List.getD_eq_getElem?_getD, h1]
  rfl
theorem p_none {v : Int} (hs : (pAt cs v).isSome = false) : ∀ c ∈ cs, isE v c = false := by
  rw [Option.isSome_eq_false_iff, Option.isNone_iff_eq_none] at hs
  exact pAt_none.1 hs
theorem t_none {v : Int} (hv : v ≠ -1) (hs : (tAt cs v).isSome = false) : ∀ c ∈ cs, isD v c = false := by
  rw [Option.isSome_eq_false_iff, Option.isNone_iff_eq_none] at hs
  exact (tAt_none.1 hs).resolve_left hv
/-- Where nothing is taken twice: what takes a value. -/
theorem t_only (ht : ¬ TwiceQ cs) {v : Int} (hv : v ≠ -1) {i : Nat} {c : Cl} (hc : cs[i]? = some c) (hd : isD v c = true) : tAt cs v = some i ∧ tC cs v = c := by
  have h1 : tAt cs v = some i := tAt_some.2 ⟨hv, ⟨c, hc, hd⟩, fun j d hj hd1 => Bool.eq_false_iff.2 fun hd2 => ht
    ⟨j, i, d, c, hj, hd1, hc, (isD_iff.1 hd2).1, (isD_iff.1 hd).1, (isD_iff.1 hd2).2.trans (isD_iff.1 hd).2.symm, by rw [(isD_iff.1 hd).2]; exact hv⟩⟩
  refine ⟨h1, ?_⟩
  unfold tC
  rw [h1, Option.getD_some, List.getD_eq_getElem?_getD, hc]
  rfl
theorem QueH.val (h : QueH n cs) {v : Int} {c : Cl} (hc : c ∈ cs) (he : isE v c = true) : 1 ≤ v ∧ v ≤ 1000 := by
  have h1 := isE_iff.1 he
  rcases h.kind hc with h2 | h2 <;> omega
theorem QueH.mem_vals (h : QueH n cs) {v : Int} : v ∈ valsQ cs ↔ (pAt cs v).isSome = true := by
  unfold valsQ
  rw [List.mem_filter, List.mem_map]
  constructor
  · exact fun h1 => h1.2
  · intro h1
    obtain ⟨i, c, h2, h3, _⟩ := p_get h1
    have := h.val (List.mem_of_getElem? h2) h3
    exact ⟨⟨v.toNat, List.mem_range.2 (by omega), by omega⟩, h1⟩
theorem mem_vals0 {v : Int} (h1 : v ∈ valsQ cs) : (pAt cs v).isSome = true := by
  unfold valsQ at h1
  rw [List.mem_filter] at h1
  exact h1.2
/-- What is told of one that overtakes is so. -/
theorem QueH.over (h : QueH n cs) (ht : ¬ TwiceQ cs) {a b : Int} : (a ∈ valsQ cs ∧ b ∈ valsQ cs ∧ overB cs b a = true) ↔ OverQ cs a b := by
  constructor
  · rintro ⟨ha, hb, ho⟩
    unfold overB at ho
    rw [Bool.and_eq_true, Bool.and_eq_true, Bool.or_eq_true, Bool.not_eq_true'] at ho
    obtain ⟨⟨h1, h2⟩, h3⟩ := ho
    obtain ⟨i, c, a1, a2, a3, a4⟩ := p_get (mem_vals0 ha)
    obtain ⟨j, d, b1, b2, b3, b4⟩ := p_get (mem_vals0 hb)
    obtain ⟨k, x, c1, c2, c3, c4, c5⟩ := t_get h1
    rw [a4, b4] at h2
    obtain ⟨h4, h5⟩ := precB_iff.1 h2
    refine ⟨c, List.mem_of_getElem? a1, d, List.mem_of_getElem? b1, x, List.mem_of_getElem? c1, a2, b2, c2, h4, h5, fun ta hta hda => ?_⟩
    have hav : a ≠ -1 := by have := h.val (List.mem_of_getElem? a1) a2; omega
    obtain ⟨m, hm, rfl⟩ := List.getElem_of_mem hta
    obtain ⟨e1, e2⟩ := t_only ht hav (List.getElem?_eq_getElem hm) hda
    rcases h3 with h3 | h3
    · rw [e1] at h3; cases h3
    · rw [c4, e2] at h3
      exact (precB_iff.1 h3).2
  · rintro ⟨ea, hea, eb, heb, tb, htb, h1, h2, h3, h4, h5, h6⟩
    obtain ⟨i, hi, rfl⟩ := List.getElem_of_mem hea
    obtain ⟨j, hj, rfl⟩ := List.getElem_of_mem heb
    obtain ⟨k, hk, rfl⟩ := List.getElem_of_mem htb
    obtain ⟨a1, a2⟩ := h.p_at (List.getElem?_eq_getElem hi) h1
    obtain ⟨b1, b2⟩ := h.p_at (List.getElem?_eq_getElem hj) h2
    have hav := h.val hea h1
    have hbv := h.val heb h2
    obtain ⟨c1, c2⟩ := t_only ht (by omega) (List.getElem?_eq_getElem hk) h3
    refine ⟨h.mem_vals.2 (by rw [a1]; rfl), h.mem_vals.2 (by rw [b1]; rfl), ?_⟩
    unfold overB
    rw [Bool.and_eq_true, Bool.and_eq_true, Bool.or_eq_true, Bool.not_eq_true', a2, b2, c1, c2]
    refine ⟨⟨rfl, precB_iff.2 ⟨h4, h5⟩⟩, ?_⟩
    by_cases hs : (tAt cs a).isSome = true
    · obtain ⟨m, x, d1, d2, d3, d4, d5⟩ := t_get hs
      right
      rw [d4]
      exact precB_iff.2 ⟨h.ans _ htb (isD_iff.1 h3).1, h6 x (List.mem_of_getElem? d1) d2⟩
    · exact .inl (Bool.eq_false_iff.2 hs)
theorem QueH.full (h : QueH n cs) (ht : ¬ TwiceQ cs) {k : Int} (hk : k ≤ 199) : fullAt (staysL cs) k = true ↔ FullQ cs k := by
  unfold fullAt
  rw [List.any_eq_true]
  constructor
  · rintro ⟨s, hs, hd⟩
    rw [decide_eq_true_iff] at hd
    unfold staysL at hs
    obtain ⟨v, hv, he⟩ := List.mem_filterMap.1 hs
    unfold stayV at he
    generalize hz : (if (tAt cs v).isSome = true then (tC cs v).frm - 1 else 199) = z at he
    by_cases hc : (pAt cs v).isSome = true ∧ (pC cs v).til ≠ -1 ∧ (pC cs v).til ≤ z
    · rw [if_pos hc] at he
      injection he with he
      subst he
      obtain ⟨i, c, a1, a2, a3, a4⟩ := p_get hc.1
      rw [a4] at hd hc
      obtain ⟨b1, b2⟩ := isE_iff.1 a2
      refine ⟨c, List.mem_of_getElem? a1, b1, hc.2.1, hd.1, fun t htm hda => ?_⟩
      have hav : v ≠ -1 := by have := h.val (List.mem_of_getElem? a1) a2; omega
      obtain ⟨m, hm, rfl⟩ := List.getElem_of_mem htm
      rw [b2] at hda
      obtain ⟨e1, e2⟩ := t_only ht hav (List.getElem?_eq_getElem hm) hda
      have h3 := hd.2
      rw [e1, e2, Option.isSome_some, if_pos rfl] at hz
      simp only at h3
      omega
    · rw [if_neg hc] at he
      cases he
  · rintro ⟨e, he, h1, h2, h3, h4⟩
    obtain ⟨i, hi, rfl⟩ := List.getElem_of_mem he
    have hE : isE (cs[i]).arg cs[i] = true := isE_iff.2 ⟨h1, rfl⟩
    obtain ⟨a1, a2⟩ := h.p_at (List.getElem?_eq_getElem hi) hE
    have hkt : k ≤ (if (tAt cs (cs[i]).arg).isSome = true then (tC cs (cs[i]).arg).frm - 1 else 199) := by
      split
      · rename_i hs
        obtain ⟨m, x, d1, d2, d3, d4, d5⟩ := t_get hs
        rw [d4]
        have := h4 x (List.mem_of_getElem? d1) d2
        omega
      · exact hk
    refine ⟨((cs[i]).til, if (tAt cs (cs[i]).arg).isSome = true then (tC cs (cs[i]).arg).frm - 1 else 199), ?_, by rw [decide_eq_true_iff]; exact ⟨h3, hkt⟩⟩
    unfold staysL
    refine List.mem_filterMap.2 ⟨(cs[i]).arg, h.mem_vals.2 (by rw [a1]; rfl), ?_⟩
    unfold stayV
    rw [a2, if_pos ⟨by rw [a1]; rfl, h2, by omega⟩]
/-- **What Check tells, by what there is.** -/
theorem QueH.bad (h : QueH n cs) : (badQ cs = noBz ∧ ¬ StrayQ cs ∧ ¬ TwiceQ cs ∧ ¬ EarlyQ cs ∧ ¬ OrdQ cs ∧ ¬ EmptyQ cs) ∨
    (∃ (i : Nat) (c : Cl), cs[i]? = some c ∧ c.kind = 4 ∧ c.res ≠ -1 ∧ (∀ d ∈ cs, isE c.res d = false) ∧ badQ cs = ⟨1, i, 0⟩) ∨
    (¬ StrayQ cs ∧ ∃ (i j : Nat) (c d : Cl), j < i ∧ cs[i]? = some c ∧ cs[j]? = some d ∧ c.kind = 4 ∧ d.kind = 4 ∧ d.res = c.res ∧ c.res ≠ -1 ∧ badQ cs = ⟨2, i, j⟩) ∨
    (¬ StrayQ cs ∧ ¬ TwiceQ cs ∧ ∃ (i j : Nat) (c d : Cl), cs[i]? = some c ∧ cs[j]? = some d ∧ c.kind = 4 ∧ isE c.res d = true ∧ c.til < d.frm ∧ badQ cs = ⟨3, i, j⟩) ∨
    (¬ StrayQ cs ∧ ¬ TwiceQ cs ∧ ¬ EarlyQ cs ∧ ∃ a b, OverQ cs a b ∧ badQ cs = ⟨6, a, b⟩) ∨
    (¬ StrayQ cs ∧ ¬ TwiceQ cs ∧ ¬ EarlyQ cs ∧ ¬ OrdQ cs ∧ ∃ (i : Nat) (c : Cl), cs[i]? = some c ∧ c.kind = 4 ∧ c.res = -1 ∧ (∀ k : Int, c.frm ≤ k → k < c.til → FullQ cs k) ∧ badQ cs = ⟨7, i, 0⟩) := by
  have o0 : ∀ y, orZ noBz y = y := fun y => rfl
  unfold badQ
  rcases firstD_cases (kd := 1) (f := strayF cs) cs 0 with ⟨h1, e1⟩ | ⟨i, c, h1, h2, h3, _, e1⟩
  rotate_left
  · right; left
    unfold strayF at h3
    rw [Bool.and_eq_true, Bool.not_eq_true', Bool.not_eq_true', beq_eq_false_iff_ne] at h3
    refine ⟨i, c, h1, h2, h3.2, p_none h3.1, ?_⟩
    rw [e1, Nat.zero_add]
    rfl
  have s1 : ¬ StrayQ cs := by
    rintro ⟨x, hx, k1, k2, k3⟩
    obtain ⟨i, hi, rfl⟩ := List.getElem_of_mem hx
    have := h1 i _ (List.getElem?_eq_getElem hi) k1
    unfold strayF at this
    rw [pAt_none.2 k3] at this
    simp [k2] at this
  rw [e1, o0]
  rcases firstD_cases (kd := 2) (f := twiceF cs) cs 0 with ⟨h2, e2⟩ | ⟨i, c, h2, h3, h4, _, e2⟩
  rotate_left
  · right; right; left
    have h5 : (tAt cs c.res).isSome = true ∧ (tAt cs c.res).getD 0 < i := by
      unfold twiceF at h4
      rwa [Bool.and_eq_true, decide_eq_true_iff, Nat.zero_add] at h4
    obtain ⟨j, d, d1, d2, d3, d4, d5⟩ := t_get h5.1
    rw [d3] at h5
    have e6 : (twiceF cs (0 + i) c).1 = (j : Int) := by unfold twiceF; rw [d3]; rfl
    refine ⟨s1, i, j, c, d, h5.2, h2, d1, h3, (isD_iff.1 d2).1, (isD_iff.1 d2).2, d5, ?_⟩
    rw [e2, e6, Nat.zero_add]
    rfl
  have s2 : ¬ TwiceQ cs := by
    rintro ⟨i, j, c, d, k1, k2, k3, k4, k5, k6, k7⟩
    have := h2 j d k3 k5
    unfold twiceF at this
    have hs : (tAt cs d.res).isSome = true := by
      rw [← Bool.not_eq_false]
      intro hn
      have := t_none k7 hn c (List.mem_of_getElem? k2)
      rw [isD_iff.2 ⟨k4, k6⟩] at this
      cases this
    obtain ⟨m, x, m1, m2, m3, m4, _⟩ := t_get hs
    obtain ⟨_, _, m5⟩ := tAt_some.1 m3
    have hmi : m ≤ i := by
      apply Classical.byContradiction
      intro hn
      have := m5 i c (by omega) k2
      rw [isD_iff.2 ⟨k4, k6⟩] at this
      cases this
    rw [m3] at this
    simp at this
    omega
  rw [e2, o0]
  rcases firstD_cases (kd := 3) (f := earlyF cs) cs 0 with ⟨h3, e3⟩ | ⟨i, c, h3, h4, h5, _, e3⟩
  rotate_left
  · right; right; right; left
    have h6 : (pAt cs c.res).isSome = true ∧ precB c (pC cs c.res) = true := by
      unfold earlyF at h5
      rwa [Bool.and_eq_true] at h5
    obtain ⟨j, d, d1, d2, d3, d4⟩ := p_get h6.1
    rw [d4] at h6
    have e6 : (earlyF cs (0 + i) c).1 = (j : Int) := by unfold earlyF; rw [d3]; rfl
    refine ⟨s1, s2, i, j, c, d, h3, d1, h4, d2, (precB_iff.1 h6.2).2, ?_⟩
    rw [e3, e6, Nat.zero_add]
    rfl
  have s3 : ¬ EarlyQ cs := by
    rintro ⟨x, hx, k1, d, hd, k2, k3⟩
    obtain ⟨i, hi, rfl⟩ := List.getElem_of_mem hx
    obtain ⟨j, hj, rfl⟩ := List.getElem_of_mem hd
    have := h3 i _ (List.getElem?_eq_getElem hi) k1
    obtain ⟨p1, p2⟩ := h.p_at (List.getElem?_eq_getElem hj) k2
    unfold earlyF at this
    rw [p1, p2, Option.isSome_some, Bool.true_and] at this
    rw [precB_iff.2 ⟨h.ans _ hx k1, k3⟩] at this
    cases this
  rw [e3, o0]
  rcases ordQ_cases (cs := cs) (all := valsQ cs) (valsQ cs) with ⟨h4, e4⟩ | ⟨a, ha, b, hb, h4, e4⟩
  rotate_left
  · right; right; right; right; left
    refine ⟨s1, s2, s3, a, b, (h.over s2).1 ⟨ha, hb, h4⟩, ?_⟩
    rw [e4]
    rfl
  have s4 : ¬ OrdQ cs := by
    rintro ⟨a, b, ho⟩
    obtain ⟨k1, k2, k3⟩ := (h.over s2).2 ho
    rw [h4 a k1 b k2] at k3
    cases k3
  rw [e4, o0]
  have hem : ∀ c ∈ cs, (((List.range 200).all fun (k : Nat) => !decide (c.frm ≤ (k : Int) ∧ (k : Int) < c.til) || fullAt (staysL cs) k) = true ↔ ∀ k : Int, c.frm ≤ k → k < c.til → FullQ cs k) := by
    intro c hc
    have hf := h.frm hc
    rw [List.all_eq_true]
    constructor
    · intro hall k k1 k2
      have := hall k.toNat (List.mem_range.2 (by omega))
      rw [show ((k.toNat : Nat) : Int) = k by omega, decide_eq_true ⟨k1, k2⟩, Bool.not_true, Bool.false_or] at this
      exact (h.full s2 (by omega)).1 this
    · intro hall k hk
      rw [List.mem_range] at hk
      by_cases hd : c.frm ≤ (k : Int) ∧ (k : Int) < c.til
      · rw [decide_eq_true hd, Bool.not_true, Bool.false_or]
        exact (h.full s2 (by omega)).2 (hall k hd.1 hd.2)
      · rw [decide_eq_false hd]
        rfl
  rcases firstD_cases (kd := 7) (f := emptyF (staysL cs)) cs 0 with ⟨h5, e5⟩ | ⟨i, c, h5, h6, h7, _, e5⟩
  · left
    refine ⟨e5, s1, s2, s3, s4, ?_⟩
    rintro ⟨x, hx, k1, k2, k3⟩
    obtain ⟨i, hi, rfl⟩ := List.getElem_of_mem hx
    have := h5 i _ (List.getElem?_eq_getElem hi) k1
    unfold emptyF at this
    rw [(hem _ hx).2 k3] at this
    simp [k2] at this
  · right; right; right; right; right
    unfold emptyF at h7
    rw [Bool.and_eq_true, beq_iff_eq] at h7
    refine ⟨s1, s2, s3, s4, i, c, h5, h6, h7.1, (hem c (List.mem_of_getElem? h5)).1 h7.2, ?_⟩
    rw [e5, Nat.zero_add]
    rfl
/-- Nothing can't be just if there is none of the five. -/
theorem QueH.bad_iff (h : QueH n cs) : (badQ cs).kind = 0 ↔ ¬ StrayQ cs ∧ ¬ TwiceQ cs ∧ ¬ EarlyQ cs ∧ ¬ OrdQ cs ∧ ¬ EmptyQ cs := by
  rcases h.bad with ⟨e, h1⟩ | ⟨i, c, h1, h2, h3, h4, e⟩ | ⟨_, i, j, c, d, h1, h2, h3, h4, h5, h6, h7, e⟩ | ⟨_, _, i, j, c, d, h1, h2, h3, h4, h5, e⟩ | ⟨_, _, _, a, b, h1, e⟩ | ⟨_, _, _, _, i, c, h1, h2, h3, h4, e⟩
  · rw [e]; exact ⟨fun _ => h1, fun _ => rfl⟩
  · rw [e]; exact ⟨fun h0 => (by cases h0), fun h0 => absurd ⟨c, List.mem_of_getElem? h1, h2, h3, h4⟩ h0.1⟩
  · rw [e]; exact ⟨fun h0 => (by cases h0), fun h0 => absurd ⟨j, i, d, c, h1, h3, h2, h5, h4, h6, h7⟩ h0.2.1⟩
  · rw [e]; exact ⟨fun h0 => (by cases h0), fun h0 => absurd ⟨c, List.mem_of_getElem? h1, h3, d, List.mem_of_getElem? h2, h4, h5⟩ h0.2.2.1⟩
  · rw [e]; exact ⟨fun h0 => (by cases h0), fun h0 => absurd ⟨a, b, h1⟩ h0.2.2.2.1⟩
  · rw [e]; exact ⟨fun h0 => (by cases h0), fun h0 => absurd ⟨c, List.mem_of_getElem? h1, h2, h3, h4⟩ h0.2.2.2.2⟩
end
end Go.Proofs.Ythjmncngegchjaa

/-
  Plain: an answer is one that may be.
-/
namespace Go.Proofs.Ythjmncngegchjaa
open Go.RowKit
set_option maxRecDepth 20000
/-- An answer is one that may be. -/
theorem step_gives2 {ts : List Int} {n : Nat} {cs cs' : List Cl} {x : Ev} (h : ∀ c ∈ cs, c.til ≠ -1 → givesB c.kind c.res = true) (hs : step ts n cs x = .inr cs') : ∀ c ∈ cs', c.til ≠ -1 → givesB c.kind c.res = true := by
  unfold step at hs
  split at hs
  · cases hs
  · split at hs
    · unfold respS at hs
      split at hs
      · cases hs
      · split at hs
        · cases hs
        · rename_i hg
          injection hs with hs
          subst hs
          intro c hc
          rcases List.mem_or_eq_of_mem_set hc with hc | rfl
          · exact h c hc
          · intro _
            exact Classical.byContradiction fun hn => hg (.inr (Bool.eq_false_iff.2 hn))
    · unfold invS at hs
      split at hs
      · cases hs
      · split at hs
        · cases hs
        · injection hs with hs
          subst hs
          intro c hc
          rcases List.mem_append.1 hc with hc | hc
          · exact h c hc
          · rw [List.mem_singleton] at hc
            subst hc
            intro ht
            exact absurd rfl ht
theorem calls_gives {ts : List Int} {l : List Ev} (h0 : (callsOf ts l).2.2 = 0) : ∀ c ∈ (callsOf ts l).1, c.til ≠ -1 → givesB c.kind c.res = true := by
  obtain ⟨_, _, e⟩ := calls_zero h0
  rw [e] at h0 ⊢
  have key : ∀ (r : List Ev) (n : Nat) (cs : List Cl), (∀ c ∈ cs, c.til ≠ -1 → givesB c.kind c.res = true) → (run ts n cs r).2.2 = 0 → ∀ c ∈ (run ts n cs r).1, c.til ≠ -1 → givesB c.kind c.res = true := by
    intro r
    induction r with
    | nil => intro n cs h _; exact h
    | cons x r ih =>
      intro n cs h h1
      rw [run] at h1 ⊢
      cases hs : step ts n cs x with
      | inl e => rw [hs] at h1; exact absurd h1 (step_err hs)
      | inr cs' =>
        rw [hs] at h1
        exact ih (n + 1) cs' (step_gives2 h hs) h1
  exact key l 0 [] (fun c hc => by simp at hc) h0
end Go.Proofs.Ythjmncngegchjaa
