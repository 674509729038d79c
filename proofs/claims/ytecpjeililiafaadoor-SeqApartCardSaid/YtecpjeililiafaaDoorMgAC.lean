/-
  Joined by a program out of: LinPure, LinKey, LinShelf, AppRow.
-/
import Derived.Test.YtecpjeililiafaaDoorMgAB
import Derived.Lib.ItoaMem
import Derived.Test.YtecpjeililiafaaDoorProg
import Derived.Shelf.Strconv.AppendIntPublic10
import Derived.Deep.AppendLies

/-
  Plain mathematics for package search: points, what may come next, the least order from a point on.
-/
namespace Go.Proofs.YtecpjeililiafaaDoor
open Go.RowKit
set_option maxRecDepth 20000
variable {Rl : Nat → Nat → Bool}

/-- Where some calls, one behind the other, have led to. -/
structure Pt where
  done : Nat
  st : Nat → List Int
/-- What must be done ahead of each call. -/
def befP (Rl : Nat → Nat → Bool) (cs : List Cl) : Nat → Nat := relP (fun j i => Rl i j) cs.length
/-- Who was answered. -/
def ansP (cs : List Cl) : Nat := pickS (fun i => decide ((cs.getD i default).til ≠ -1)) cs.length
/-- Does nothing have to follow? -/
def fullB (cs : List Cl) (p : Pt) : Bool := ansP cs &&& (65535 - p.done) == 0
/-- What the thing of a call makes of it. -/
def thingO (ts : List Int) (cs : List Cl) (p : Pt) (k : Nat) : List Int × Int × Int :=
  stepO (ts.getD (cs.getD k default).thing.toNat 0) (p.st (cs.getD k default).thing.toNat) (cs.getD k default).kind (cs.getD k default).arg
/-- The point behind call k. -/
def nextP (ts : List Int) (cs : List Cl) (p : Pt) (k : Nat) : Pt :=
  ⟨p.done ||| 2 ^ k, fun t => if t = (cs.getD k default).thing.toNat then (thingO ts cs p k).1 else p.st t⟩
/-- May call k come next? -/
def mayB (Rl : Nat → Nat → Bool) (ts : List Int) (cs : List Cl) (p : Pt) (k : Nat) : Bool :=
  !p.done.testBit k && (befP Rl cs k &&& (65535 - p.done) == 0) && ((thingO ts cs p k).2.2 == 0) && ((cs.getD k default).til == -1 || (thingO ts cs p k).2.1 == (cs.getD k default).res)
/-- Numbers from k on, m of them: the first that may come next, and from which the rest goes on. -/
def tryO (Rl : Nat → Nat → Bool) (go : Pt → Option (List (Nat × Int))) (ts : List Int) (cs : List Cl) (p : Pt) : Nat → Nat → Option (List (Nat × Int))
  | 0, _ => none
  | m + 1, k => if mayB Rl ts cs p k = true then (match go (nextP ts cs p k) with
    | some l => some ((k, (thingO ts cs p k).2.1) :: l)
    | none => tryO Rl go ts cs p m (k + 1)) else tryO Rl go ts cs p m (k + 1)
/-- The least order from a point on; at most f more calls. -/
def findO (Rl : Nat → Nat → Bool) (ts : List Int) (cs : List Cl) : Nat → Pt → Option (List (Nat × Int))
  | 0, p => if fullB cs p = true then some [] else none
  | f + 1, p => if fullB cs p = true then some [] else tryO Rl (findO Rl ts cs f) ts cs p cs.length 0
/-- How many calls are left. -/
def leftN (n : Nat) (p : Pt) : Nat := (List.range n).countP fun k => !p.done.testBit k
/-- The point ahead of all calls. -/
def startP (ts : List Int) : Pt := ⟨0, fun t => if t < ts.length then beginL (ts.getD t 0) else []⟩
theorem countP_less {n k : Nat} {p q : Nat → Bool} (hk : k < n) (hp : p k = true) (hq : q k = false) (h : ∀ j, j ≠ k → q j = p j) : (List.range n).countP p = (List.range n).countP q + 1 := by
  induction n with
  | zero => omega
  | succ n ih =>
    rw [List.range_succ, List.countP_append, List.countP_append]
    simp only [List.countP_cons, List.countP_nil]
    by_cases e : k = n
    · subst e
      rw [hp, hq]
      have : (List.range k).countP p = (List.range k).countP q := by
        apply List.countP_congr
        intro j hj
        rw [h j (by have := List.mem_range.1 hj; omega)]
      simp only [Bool.false_eq_true, if_false, if_true]
      omega
    · have := ih (by omega)
      rw [h n (by omega)]
      omega
theorem left_next {ts : List Int} {cs : List Cl} {p : Pt} {n k : Nat} (hk : k < n) (h : p.done.testBit k = false) : leftN n p = leftN n (nextP ts cs p k) + 1 := by
  unfold leftN nextP
  refine countP_less hk (by rw [h]; rfl) (by simp) (fun j hj => ?_)
  simp only [Nat.testBit_or, Nat.testBit_two_pow]
  rw [decide_eq_false (by omega), Bool.or_false]
theorem may_done {ts : List Int} {cs : List Cl} {p : Pt} {k : Nat} (h : mayB Rl ts cs p k = true) : p.done.testBit k = false := by
  unfold mayB at h
  simp only [Bool.and_eq_true, Bool.not_eq_true'] at h
  exact h.1.1.1
/-- What a search finds hangs on the calls done, and on the states of things that there are, alone. -/
theorem try_congr {go go' : Pt → Option (List (Nat × Int))} {ts : List Int} {cs : List Cl} {p q : Pt} (hd : p.done = q.done) (hst : p.st = q.st) (hgo : ∀ r, go r = go' r) : ∀ m k, tryO Rl go ts cs p m k = tryO Rl go' ts cs q m k := by
  have : p = q := by cases p; cases q; simp at hd hst; subst hd; subst hst; rfl
  subst this
  intro m
  induction m with
  | zero => intro k; rfl
  | succ m ih => intro k; rw [tryO, tryO, hgo, ih]
end Go.Proofs.YtecpjeililiafaaDoor

/-
  Plain: a point's letters tell the point.
-/
namespace Go.Proofs.YtecpjeililiafaaDoor
open Go.RowKit
set_option maxRecDepth 20000

/-- What a row of digits comes to. -/
def valL (l : List UInt8) : Nat := l.foldl (fun a d => a * 10 + (d.toNat - 48)) 0
theorem digit_nat {d : Nat} (h : d < 10) : (UInt8.ofNat (48 + d)).toNat = 48 + d := by
  rw [UInt8.toNat_ofNat']
  omega
theorem dec_val (u : Nat) : valL (Lib.decDigits u) = u := by
  induction u using Nat.strongRecOn with
  | ind u ih =>
    rw [Lib.decDigits]
    split
    · rename_i h
      unfold valL
      simp only [List.foldl_cons, List.foldl_nil]
      rw [digit_nat h]
      omega
    · rename_i h
      have := ih (u / 10) (by omega)
      unfold valL at this ⊢
      rw [List.foldl_append, this]
      simp only [List.foldl_cons, List.foldl_nil]
      rw [digit_nat (Nat.mod_lt _ (by omega))]
      omega
theorem dec_digit (u : Nat) : ∀ d, d ∈ Lib.decDigits u → 48 ≤ d.toNat ∧ d.toNat ≤ 57 := by
  induction u using Nat.strongRecOn with
  | ind u ih =>
    intro d hd
    rw [Lib.decDigits] at hd
    split at hd
    · rename_i h
      rw [List.mem_singleton] at hd
      subst hd
      rw [digit_nat h]
      omega
    · rename_i h
      rcases List.mem_append.1 hd with hd | hd
      · exact ih (u / 10) (by omega) d hd
      · rw [List.mem_singleton] at hd
        subst hd
        rw [digit_nat (Nat.mod_lt _ (by omega))]
        omega
theorem dec_ne (u : Nat) : Lib.decDigits u ≠ [] := by
  rw [Lib.decDigits]
  split
  · exact List.cons_ne_nil _ _
  · simp
theorem dec_inj {u v : Nat} (h : Lib.decDigits u = Lib.decDigits v) : u = v := by rw [← dec_val u, h, dec_val]
theorem itoa_inj {a b : Int} (h : Lib.itoa a = Lib.itoa b) : a = b := by
  unfold Lib.itoa at h
  have key : ∀ u v : Nat, (45 : UInt8) :: Lib.decDigits u ≠ Lib.decDigits v := fun u v e => by
    have := dec_digit v 45 (by rw [← e]; exact List.mem_cons_self ..)
    exact absurd this.1 (by decide)
  split at h
  · split at h
    · injection h with _ h
      have := dec_inj h
      omega
    · exact absurd h (key _ _)
  · split at h
    · exact absurd h.symm (key _ _)
    · have := dec_inj h
      omega
/-- Is it between two numbers? -/
def sepB (d : UInt8) : Bool := d == 32 || d == 59
theorem itoa_sep (a : Int) : ∀ d, d ∈ Lib.itoa a → sepB d = false := by
  intro d hd
  have key : ∀ u : Nat, d ∈ Lib.decDigits u → sepB d = false := fun u h => by
    have := dec_digit u d h
    unfold sepB
    rw [Bool.or_eq_false_iff]
    constructor
    · rw [beq_eq_false_iff_ne]; rintro rfl; exact absurd this.1 (by decide)
    · rw [beq_eq_false_iff_ne]; rintro rfl; exact absurd this.2 (by decide)
  unfold Lib.itoa at hd
  split at hd
  · rcases List.mem_cons.1 hd with rfl | hd
    · rfl
    · exact key _ hd
  · exact key _ hd
/-- Nothing, or what begins between two numbers. -/
def HeadS (l : List UInt8) : Prop := ∀ d r, l = d :: r → sepB d = true
theorem cut_same : ∀ {a b x y : List UInt8}, (∀ d, d ∈ a → sepB d = false) → (∀ d, d ∈ b → sepB d = false) → HeadS x → HeadS y → a ++ x = b ++ y → a = b ∧ x = y
  | [], [], x, y, _, _, _, _, h => ⟨rfl, h⟩
  | [], d :: b, x, y, _, hb, hx, _, h => by
    rw [List.nil_append, List.cons_append] at h
    have h1 := hx d _ h
    rw [hb d (List.mem_cons_self ..)] at h1
    cases h1
  | d :: a, [], x, y, ha, _, _, hy, h => by
    rw [List.nil_append, List.cons_append] at h
    have h1 := hy d _ h.symm
    rw [ha d (List.mem_cons_self ..)] at h1
    cases h1
  | d :: a, e :: b, x, y, ha, hb, hx, hy, h => by
    rw [List.cons_append, List.cons_append] at h
    injection h with h1 h2
    obtain ⟨h3, h4⟩ := cut_same (fun d hd => ha d (List.mem_cons_of_mem _ hd)) (fun d hd => hb d (List.mem_cons_of_mem _ hd)) hx hy h2
    exact ⟨by rw [h1, h3], h4⟩
/-- A state's letters. -/
def rowB8 : List Int → List UInt8
  | [] => []
  | x :: r => 32 :: (Lib.itoa x ++ rowB8 r)
theorem rowB8_snoc : ∀ (l : List Int) (x : Int), rowB8 (l ++ [x]) = rowB8 l ++ 32 :: Lib.itoa x
  | [], x => by simp [rowB8]
  | y :: r, x => by rw [List.cons_append, rowB8, rowB8, rowB8_snoc r x]; simp
/-- Nothing, or what begins behind a state. -/
def HeadE (l : List UInt8) : Prop := l = [] ∨ ∃ r, l = 59 :: r
theorem HeadE.sep {l : List UInt8} (h : HeadE l) : HeadS l := by
  intro d r e
  rcases h with rfl | ⟨r', rfl⟩
  · cases e
  · injection e with e _; subst e; rfl
theorem row_head {l : List Int} {x : List UInt8} (h : HeadE x) : HeadS (rowB8 l ++ x) := by
  cases l with
  | nil => exact h.sep
  | cons y r =>
    intro d r' e
    rw [rowB8, List.cons_append] at e
    injection e with e _
    subst e
    rfl
theorem row_same : ∀ {a b : List Int} {x y : List UInt8}, HeadE x → HeadE y → rowB8 a ++ x = rowB8 b ++ y → a = b ∧ x = y
  | [], [], x, y, _, _, h => ⟨rfl, h⟩
  | [], e :: b, x, y, hx, _, h => by
    rw [rowB8, rowB8, List.nil_append, List.cons_append] at h
    rcases hx with rfl | ⟨r, rfl⟩
    · cases h
    · injection h with h _; exact absurd h (by decide)
  | e :: a, [], x, y, _, hy, h => by
    rw [rowB8, rowB8, List.nil_append, List.cons_append] at h
    rcases hy with rfl | ⟨r, rfl⟩
    · cases h
    · injection h with h _; exact absurd h (by decide)
  | d :: a, e :: b, x, y, hx, hy, h => by
    rw [rowB8, rowB8, List.cons_append, List.cons_append, List.append_assoc, List.append_assoc] at h
    injection h with _ h
    obtain ⟨h1, h2⟩ := cut_same (itoa_sep d) (itoa_sep e) (row_head hx) (row_head hy) h
    obtain ⟨h3, h4⟩ := row_same hx hy h2
    exact ⟨by rw [itoa_inj h1, h3], h4⟩
/-- The letters of the first m states, each behind a 59. -/
def rowsB8 (st : Nat → List Int) : Nat → List UInt8
  | 0 => []
  | m + 1 => rowsB8 st m ++ 59 :: rowB8 (st m)
/-- A point's letters. -/
def keyB (p : Pt) : List UInt8 := Lib.decDigits p.done ++ rowsB8 p.st 4
theorem head_e (l : List UInt8) : HeadE (59 :: l) := .inr ⟨l, rfl⟩
theorem key_same {p q : Pt} (h : keyB p = keyB q) : p.done = q.done ∧ ∀ i, i < 4 → p.st i = q.st i := by
  unfold keyB at h
  simp only [rowsB8, List.nil_append, List.append_assoc, List.cons_append] at h
  have hd : ∀ u : Nat, ∀ d, d ∈ Lib.decDigits u → sepB d = false := fun u d hd => itoa_sep (u : Int) d (by rw [Lib.itoa_nonneg]; exact hd)
  obtain ⟨h0, h⟩ := cut_same (hd _) (hd _) (head_e _).sep (head_e _).sep h
  injection h with _ h
  obtain ⟨h1, h⟩ := row_same (head_e _) (head_e _) h
  injection h with _ h
  obtain ⟨h2, h⟩ := row_same (head_e _) (head_e _) h
  injection h with _ h
  obtain ⟨h3, h⟩ := row_same (head_e _) (head_e _) h
  injection h with _ h
  have h4 := row_same (x := []) (y := []) (.inl rfl) (.inl rfl) (by simpa using h)
  refine ⟨dec_inj h0, fun i hi => ?_⟩
  rcases i with _ | _ | _ | _ | i
  · exact h1
  · exact h2
  · exact h3
  · exact h4.1
  · omega
end Go.Proofs.YtecpjeililiafaaDoor

/-
  The library's contracts of strconv.AppendInt and AppendUint, laid at this program.
-/
namespace Go.Proofs.YtecpjeililiafaaDoor
open Go.RowKit Go.Shelf
set_option maxRecDepth 20000

def strRen : Go.Shelf.Ren := ⟨fun | 129 => 135 | 176 => 124 | 249 => 128 | 283 => 130 | 284 => 131 | 285 => 132 | 286 => 133 | 288 => 127 | 317 => 134 | 318 => 136 | 319 => 137 | 320 => 138 | 337 => 139 | 338 => 140 | n => n,
  fun | 0 => 0 | 2 => 2 | 3 => 3 | 4 => 4 | 5 => 5 | 9 => 9 | 20 => 20 | 37 => 162 | 46 => 151 | 51 => 150 | 53 => 164 | 171 => 185 | 173 => 188 | 212 => 191 | 213 => 192 | 232 => 149 | 233 => 196 | n => n, fun | 17 => 1 | 18 => 0 | 19 => 2 | n => n⟩

theorem laysStr176 : LaysM.n176 Tryd.prog strRen := {
  mixed := by kernel_rfl
  f129 := Tryd.func135.trans (congrArg some (by kernel_rfl))
  f176 := Tryd.func124.trans (congrArg some (by kernel_rfl))
  f249 := Tryd.func128.trans (congrArg some (by kernel_rfl))
  f283 := Tryd.func130.trans (congrArg some (by kernel_rfl))
  f284 := Tryd.func131.trans (congrArg some (by kernel_rfl))
  f285 := Tryd.func132.trans (congrArg some (by kernel_rfl))
  f286 := Tryd.func133.trans (congrArg some (by kernel_rfl))
  f288 := Tryd.func127.trans (congrArg some (by kernel_rfl))
  f317 := Tryd.func134.trans (congrArg some (by kernel_rfl))
  f318 := Tryd.func136.trans (congrArg some (by kernel_rfl))
  f319 := Tryd.func137.trans (congrArg some (by kernel_rfl))
  f320 := Tryd.func138.trans (congrArg some (by kernel_rfl))
  f337 := Tryd.func139.trans (congrArg some (by kernel_rfl))
  f338 := Tryd.func140.trans (congrArg some (by kernel_rfl))
  t0 := Tryd.underlying0
  a0 := Tryd.isAgg0
  z0 := Tryd.sizeOf0
  v0 := Tryd.zeroValue0
  t2 := Tryd.underlying2
  a2 := Tryd.isAgg2
  z2 := Tryd.sizeOf2
  v2 := Tryd.zeroValue2
  t3 := Tryd.underlying3
  a3 := Tryd.isAgg3
  z3 := Tryd.sizeOf3
  v3 := Tryd.zeroValue3
  t4 := Tryd.underlying4
  a4 := Tryd.isAgg4
  z4 := Tryd.sizeOf4
  v4 := Tryd.zeroValue4
  t5 := Tryd.underlying5
  a5 := Tryd.isAgg5
  z5 := Tryd.sizeOf5
  v5 := Tryd.zeroValue5
  t9 := Tryd.underlying9
  a9 := Tryd.isAgg9
  z9 := Tryd.sizeOf9
  v9 := Tryd.zeroValue9
  t20 := Tryd.underlying20
  a20 := Tryd.isAgg20
  z20 := Tryd.sizeOf20
  v20 := Tryd.zeroValue20
  t37 := Tryd.underlying162
  a37 := Tryd.isAgg162
  z37 := Tryd.sizeOf162
  v37 := Tryd.zeroValue162
  t46 := Tryd.underlying151
  a46 := Tryd.isAgg151
  z46 := Tryd.sizeOf151
  v46 := Tryd.zeroValue151
  t51 := Tryd.underlying150
  a51 := Tryd.isAgg150
  z51 := Tryd.sizeOf150
  v51 := Tryd.zeroValue150
  t53 := Tryd.underlying164
  a53 := Tryd.isAgg164
  z53 := Tryd.sizeOf164
  v53 := Tryd.zeroValue164
  t171 := Tryd.underlying185
  a171 := Tryd.isAgg185
  z171 := Tryd.sizeOf185
  v171 := Tryd.zeroValue185
  t173 := Tryd.underlying188
  a173 := Tryd.isAgg188
  z173 := Tryd.sizeOf188
  v173 := Tryd.zeroValue188
  t212 := Tryd.underlying191
  a212 := Tryd.isAgg191
  z212 := Tryd.sizeOf191
  v212 := Tryd.zeroValue191
  t213 := Tryd.underlying192
  a213 := Tryd.isAgg192
  z213 := Tryd.sizeOf192
  t232 := Tryd.underlying149
  a232 := Tryd.isAgg149
  z232 := Tryd.sizeOf149
  v232 := Tryd.zeroValue149
  t233 := Tryd.underlying196
  a233 := Tryd.isAgg196
  z233 := Tryd.sizeOf196
  v233 := Tryd.zeroValue196
  g17 := by kernel_rfl
  g18 := by kernel_rfl
  g19 := by kernel_rfl
  i0 := by kernel_rfl
  i2 := by kernel_rfl
  i3 := by kernel_rfl
  i4 := by kernel_rfl
  i5 := by kernel_rfl
  i9 := by kernel_rfl
  i20 := by kernel_rfl
  i37 := by kernel_rfl
  i46 := by kernel_rfl
  i51 := by kernel_rfl
  i53 := by kernel_rfl
  i171 := by kernel_rfl
  i173 := by kernel_rfl
  i212 := by kernel_rfl
  i232 := by kernel_rfl
  i233 := by kernel_rfl
  m17 := by kernel_rfl
  m18 := by kernel_rfl
  m19 := by kernel_rfl
  }

theorem laysStr288 : LaysM.n288 Tryd.prog strRen := {
  mixed := by kernel_rfl
  f129 := Tryd.func135.trans (congrArg some (by kernel_rfl))
  f283 := Tryd.func130.trans (congrArg some (by kernel_rfl))
  f284 := Tryd.func131.trans (congrArg some (by kernel_rfl))
  f285 := Tryd.func132.trans (congrArg some (by kernel_rfl))
  f286 := Tryd.func133.trans (congrArg some (by kernel_rfl))
  f288 := Tryd.func127.trans (congrArg some (by kernel_rfl))
  f317 := Tryd.func134.trans (congrArg some (by kernel_rfl))
  f318 := Tryd.func136.trans (congrArg some (by kernel_rfl))
  f319 := Tryd.func137.trans (congrArg some (by kernel_rfl))
  f320 := Tryd.func138.trans (congrArg some (by kernel_rfl))
  f337 := Tryd.func139.trans (congrArg some (by kernel_rfl))
  f338 := Tryd.func140.trans (congrArg some (by kernel_rfl))
  t0 := Tryd.underlying0
  a0 := Tryd.isAgg0
  z0 := Tryd.sizeOf0
  v0 := Tryd.zeroValue0
  t3 := Tryd.underlying3
  a3 := Tryd.isAgg3
  z3 := Tryd.sizeOf3
  v3 := Tryd.zeroValue3
  t4 := Tryd.underlying4
  a4 := Tryd.isAgg4
  z4 := Tryd.sizeOf4
  v4 := Tryd.zeroValue4
  t5 := Tryd.underlying5
  a5 := Tryd.isAgg5
  z5 := Tryd.sizeOf5
  v5 := Tryd.zeroValue5
  t9 := Tryd.underlying9
  a9 := Tryd.isAgg9
  z9 := Tryd.sizeOf9
  v9 := Tryd.zeroValue9
  t20 := Tryd.underlying20
  a20 := Tryd.isAgg20
  z20 := Tryd.sizeOf20
  v20 := Tryd.zeroValue20
  t37 := Tryd.underlying162
  a37 := Tryd.isAgg162
  z37 := Tryd.sizeOf162
  v37 := Tryd.zeroValue162
  t46 := Tryd.underlying151
  a46 := Tryd.isAgg151
  z46 := Tryd.sizeOf151
  v46 := Tryd.zeroValue151
  t51 := Tryd.underlying150
  a51 := Tryd.isAgg150
  z51 := Tryd.sizeOf150
  v51 := Tryd.zeroValue150
  t53 := Tryd.underlying164
  a53 := Tryd.isAgg164
  z53 := Tryd.sizeOf164
  v53 := Tryd.zeroValue164
  t171 := Tryd.underlying185
  a171 := Tryd.isAgg185
  z171 := Tryd.sizeOf185
  v171 := Tryd.zeroValue185
  t173 := Tryd.underlying188
  a173 := Tryd.isAgg188
  z173 := Tryd.sizeOf188
  v173 := Tryd.zeroValue188
  t212 := Tryd.underlying191
  a212 := Tryd.isAgg191
  z212 := Tryd.sizeOf191
  v212 := Tryd.zeroValue191
  t213 := Tryd.underlying192
  a213 := Tryd.isAgg192
  z213 := Tryd.sizeOf192
  t232 := Tryd.underlying149
  a232 := Tryd.isAgg149
  z232 := Tryd.sizeOf149
  v232 := Tryd.zeroValue149
  t233 := Tryd.underlying196
  a233 := Tryd.isAgg196
  z233 := Tryd.sizeOf196
  v233 := Tryd.zeroValue196
  g17 := by kernel_rfl
  g18 := by kernel_rfl
  g19 := by kernel_rfl
  i0 := by kernel_rfl
  i3 := by kernel_rfl
  i4 := by kernel_rfl
  i5 := by kernel_rfl
  i9 := by kernel_rfl
  i20 := by kernel_rfl
  i37 := by kernel_rfl
  i46 := by kernel_rfl
  i51 := by kernel_rfl
  i53 := by kernel_rfl
  i171 := by kernel_rfl
  i173 := by kernel_rfl
  i212 := by kernel_rfl
  i232 := by kernel_rfl
  i233 := by kernel_rfl
  m17 := by kernel_rfl
  m18 := by kernel_rfl
  m19 := by kernel_rfl
  }

end Go.Proofs.YtecpjeililiafaaDoor

/-
  append(s, x): s the call's own row of things of several cells, x one more, in a new block: the run, at Oper.wp, at a list, at a step of a region that draws.
-/
namespace Go.Proofs.YtecpjeililiafaaDoor
open Go.RowKit
set_option maxRecDepth 20000

theorem info_cl : (Tryd.prog.info? 57).map (fun i => (i.zero, i.size, i.bytes)) = some (some (clV default), 7, 56) := by kernel_rfl
theorem info_of {P : Program} {t : TypeId} {z : Option Value} {s b : Nat} (h : (P.info? t).map (fun i => (i.zero, i.size, i.bytes)) = some (z, s, b)) : ∃ i, P.info? t = some i ∧ i.zero = z ∧ i.size = s ∧ i.bytes = b := by
  cases hi : P.info? t with
  | none => rw [hi] at h; cases h
  | some i =>
    rw [hi] at h
    simp only [Option.map_some, Option.some.injEq, Prod.mk.injEq] at h
    exact ⟨i, rfl, h.1, h.2.1, h.2.2⟩

theorem run_app_cl {W : World} {base G : Nat} {v : Value} {l : List Cl} {y : Cl} (ty : TypeId) (hown : COwn W base v l) (hG : ∀ j u, (clCs y)[j]? = some u → W.cell? ⟨G, j, none⟩ = some u) (hlen : l.length ≤ 65536) (hbase : base ≤ W.heap.size) :
    ∃ v' w', (Builtin.append_ #[30, 30] ty #[v, .slice (some ⟨G, 0, none⟩) 1 1]).run Tryd.prog W = .ok v' w' ∧ COwn w' base v' (l ++ [y]) ∧ Below base W w' ∧ W.grownBy w' v.ownBlock := by
  obtain ⟨i0, hi, hz0, hz1, hz2⟩ := info_of info_cl
  have hl := World.ownsRow.lt hown
  obtain ⟨v', w', hr, h2, h3, _⟩ := run_append_own (P := Tryd.prog) W base 30 ty 57 i0 (clV default) 7 56 Tryd.underlying30 hi hz0 hz1 hz2 rfl (by decide) v l.length (l.flatMap clCs) hown
    ⟨G, 0, none⟩ 1 1 (clCs y) rfl (fun j u hu => by
      rw [Addr.add_lit, Nat.zero_add]
      exact hG j u hu) (fun u hu => by
      simp only [List.mem_cons, List.not_mem_nil, or_false] at hu
      rcases hu with rfl | rfl | rfl | rfl | rfl | rfl | rfl <;> rfl) (by unfold maxLen; omega) (by omega) hbase
  refine ⟨v', w', hr, ?_, (Below.refl base W).grown h3 hbase (fun k hk => (hl k hk).1), h3⟩
  unfold COwn
  rw [List.length_append, List.flatMap_append]
  simpa using h2

theorem own_slice {w : World} {B : Nat} {v : Value} {l : List Cl} (h : COwn w B v l) : ∃ A c, v = .slice A l.length c := by
  obtain ⟨A, c, h, _⟩ := h.rd.is
  exact ⟨A, c, h⟩
theorem wp_app_cl {W : World} {o : Oper} {a : Act} {K : Act → World → Prop} {Q : Exit → Act → World → Prop} (s x : Operand)
    (ho : o.op = .call { callee := .builtin .append, args := #[s, x], argTypes := #[30, 30] })
    (base G : Nat) (v : Value) (l : List Cl) (y : Cl) (hs : a.eval s = v) (hx : a.eval x = .slice (some ⟨G, 0, none⟩) 1 1) (hown : COwn W base v l) (hG : ∀ j u, (clCs y)[j]? = some u → W.cell? ⟨G, j, none⟩ = some u) (hlen : l.length ≤ 65536) (hbase : base ≤ W.heap.size)
    (h : ∀ v' w', COwn w' base v' (l ++ [y]) → Below base W w' → W.grownBy w' v.ownBlock → K (a.put o.dst v') w') : Oper.wp Tryd.prog o a W K Q := by
  obtain ⟨v', w', hrun, r1, r2, r3⟩ := run_app_cl o.type hown hG hlen hbase
  unfold Oper.wp
  simp [execOp, ho, resolve, invoke, builtin, hs, hx, hrun, Result.andThen]
  exact h v' w' r1 r2 r3
theorem wpList_app_cl {W : World} {ops : Array Oper} {rest : List Oper} {o : Oper} {a : Act} {Q : Exit → Act → World → Prop} (hgd : o.guard = none) (s x : Operand)
    (ho : o.op = .call { callee := .builtin .append, args := #[s, x], argTypes := #[30, 30] })
    (base G : Nat) (v : Value) (l : List Cl) (y : Cl) (hs : a.eval s = v) (hx : a.eval x = .slice (some ⟨G, 0, none⟩) 1 1) (hown : COwn W base v l) (hG : ∀ j u, (clCs y)[j]? = some u → W.cell? ⟨G, j, none⟩ = some u) (hlen : l.length ≤ 65536) (hbase : base ≤ W.heap.size)
    (h : ∀ v' w', COwn w' base v' (l ++ [y]) → Below base W w' → W.grownBy w' v.ownBlock → wpList Tryd.prog ops Q rest (a.put o.dst v') w') : wpList Tryd.prog ops Q (o :: rest) a W :=
  wpList_plain hgd fun _ hK => wp_app_cl s x ho base G v l y hs hx hown hG hlen hbase fun v' w' h1 h2 h3 => hK _ _ (h v' w' h1 h2 h3)
theorem step_app_cl {W : World} {ops : Array Oper} {o : Oper} {a : Act} {K : Act → World → Prop} {Q : Exit → Act → World → Prop} {E : Prop} (hgd : o.guard = none) (s x : Operand)
    (ho : o.op = .call { callee := .builtin .append, args := #[s, x], argTypes := #[30, 30] })
    (base G : Nat) (v : Value) (l : List Cl) (y : Cl) (hs : a.eval s = v) (hx : a.eval x = .slice (some ⟨G, 0, none⟩) 1 1) (hown : COwn W base v l) (hG : ∀ j u, (clCs y)[j]? = some u → W.cell? ⟨G, j, none⟩ = some u) (hlen : l.length ≤ 65536) (hbase : base ≤ W.heap.size)
    (h : ∀ v' w', COwn w' base v' (l ++ [y]) → Below base W w' → W.grownBy w' v.ownBlock → K (a.put o.dst v') w') :
    if Region.wanted o (yielded ops a.tmps) = true then Oper.wp Tryd.prog o a W K Q else E := by
  have hw : Region.wanted o (yielded ops a.tmps) = true := by simp [Region.wanted, hgd]
  rw [if_pos hw]
  exact wp_app_cl s x ho base G v l y hs hx hown hG hlen hbase h
end Go.Proofs.YtecpjeililiafaaDoor
