/-
  Joined by a program out of: LJoinPure, Fin, SplitPure, NthPure, LJoinLaw, LJoinOwn, LJoin.
-/
import Derived.Test.YtfgangkpebkicaaDoorMgBC
import Derived.Test.YtfgangkpebkicaaDoorMgBD
import Derived.Test.YtfgangkpebkicaaDoorMgAP
import Derived.Test.YtfgangkpebkicaaDoorMgAJ
import Derived.Test.YtfgangkpebkicaaDoorMgAU

/-
  Plain: what package local's Join answers; the rule for a map's length; a row of steps with room.
-/
namespace Go.Proofs.YtfgangkpebkicaaDoor
open Go.RowKit Go.Maps
set_option maxRecDepth 20000
/-- The steps of those calls that have one, in that order. -/
def pickF (F : Int → Option Int) (xs : List Int) : List (Int × Int) := xs.filterMap fun k => (F k).map fun r => (k, r)
/-- The relation that Join is about. -/
def jnR (cs : List Cl) (ww : List (List (Int × Int))) : Nat → Nat := relP (relF (aheadB cs) ww) cs.length
def joinC (cs : List Cl) (ww : List (List (Int × Int))) : List (Int × Int) × Bool × Int :=
  match colF cs (flatF 0 ww) (fun _ => none) with
  | none => ([], false, 3)
  | some F => if cyc (clo cs.length (jnR cs ww)) cs.length = true then ([], false, 0) else (pickF F (lsL (rev cs.length (clo cs.length (jnR cs ww))) cs.length cs.length), true, 0)
def joinO (ts : List Int) (l : List Ev) (ww : List (List (Int × Int))) : List (Int × Int) × Bool × Int :=
  if openE ts l ≠ 0 then ([], false, openE ts l) else if ww.length ≠ ts.length then ([], false, 3) else joinC (callsOf ts l).1 ww
def JoinPost (w : World) (R : List (Int × Int) × Bool × Int) (e : Ending) (w' : World) : Prop :=
  Below w.heap.size w w' ∧ ∃ v, e = .returned (.tuple #[v, .bool R.2.1, .int .i64 R.2.2]) ∧ SRd w' w'.heap.size v R.1
theorem colF_rng {cs : List Cl} : ∀ {xs : List (Nat × (Int × Int))} {F G : Int → Option Int}, colF cs xs F = some G → ∀ q ∈ xs, (0 ≤ q.2.1 ∧ q.2.1 < cs.length) ∧ (cs.getD q.2.1.toNat default).thing = (q.1 : Int)
  | [], _, _, _, _, hq => by simp at hq
  | (t, x) :: r, F, G, h, q, hq => by
    rw [colF] at h
    split at h
    · cases h
    · next h1 =>
      split at h
      · cases h
      · rcases List.mem_cons.1 hq with rfl | hq
        · refine ⟨Classical.byContradiction fun hn => h1 (.inl hn), Classical.byContradiction fun hn => h1 (.inr hn)⟩
        · exact colF_rng h q hq
theorem flatF_mem : ∀ {ww : List (List (Int × Int))} {k : Nat} {t : Nat} {x : Int × Int}, (t, x) ∈ flatF k ww ↔ k ≤ t ∧ ∃ l, ww[t - k]? = some l ∧ x ∈ l
  | [], k, t, x => by simp [flatF]
  | l :: r, k, t, x => by
    rw [flatF, List.mem_append, flatF_mem, List.mem_map]
    constructor
    · rintro (⟨y, hy, e⟩ | ⟨h1, l', h2, h3⟩)
      · injection e with e1 e2
        subst e1 e2
        exact ⟨Nat.le_refl _, l, by rw [Nat.sub_self]; rfl, hy⟩
      · exact ⟨by omega, l', by rw [show t - k = (t - (k + 1)) + 1 by omega]; exact h2, h3⟩
    · rintro ⟨h1, l', h2, h3⟩
      by_cases e : t = k
      · subst e
        rw [Nat.sub_self] at h2
        injection h2 with h2
        subst h2
        exact .inl ⟨x, h3, rfl⟩
      · rw [show t - k = (t - (k + 1)) + 1 by omega] at h2
        exact .inr ⟨by omega, l', h2, h3⟩
theorem col_rng {cs : List Cl} {ww : List (List (Int × Int))} {G : Int → Option Int} (h : colF cs (flatF 0 ww) (fun _ => none) = some G) : ∀ l ∈ ww, ∀ x ∈ l, 0 ≤ x.1 ∧ x.1 < cs.length := fun l hl x hx => by
  obtain ⟨t, ht⟩ := List.getElem?_of_mem hl
  exact (colF_rng h (t, x) (flatF_mem.2 ⟨Nat.zero_le _, l, by rw [Nat.sub_zero]; exact ht, hx⟩)).1
theorem good_relP (p : Nat → Nat → Bool) {n : Nat} (hn : n ≤ 12) : Good n (relP p n) := good_of hn (fun i _ => relP_lt p hn i) (fun i _ j hj => by
    rw [relP_bit] at hj
    simp only [Bool.and_eq_true, decide_eq_true_eq] at hj
    exact hj.1.2) (fun i _ hi => by unfold relP; rw [if_neg (by omega)])
theorem JMap.lenAt {w : World} {ops : Array Oper} {rest : List Oper} {o : Oper} {a : Act} {Q : Exit → Act → World → Prop} (hg : o.guard = none) (m : Operand) (hop : o.op = Op.call { callee := Callee.builtin Builtin.len, args := #[m], argTypes := #[65] })
    {b n : Nat} {F : Int → Option Int} (h : JMap w b n F) (hm : a.eval m = .map (some b)) (hK : ∀ k : Nat, k ≤ n → wpList Tryd.prog ops Q rest (a.put o.dst (.int .i64 k)) w) : wpList Tryd.prog ops Q (o :: rest) a w := by
  obtain ⟨D, h, _⟩ := h
  exact wpList_len_own _ hg m 65 hop 3 38 Tryd.underlying65 stR b n D hm h (hK _ h.size_le)
def stepCs (K : Nat) : Array Value := madeCells (Value.cells (.agg #[.int .i64 0, .int .i64 0])) (K * 2)
theorem made_steps (K : Nat) (hK : K ≤ 65536) (w : World) :
    (Instr.makeSlice 34 (.int .i64 0) (.int .i64 K)).run Tryd.prog w = .ok (.slice (some ⟨w.heap.size, 0, none⟩) 0 K) (w.alloc (.cells (stepCs K) 38)) := by
  obtain ⟨i0, hi, hz0, hz1, hz2⟩ := info_of info_sp
  rw [run_make w 34 38 i0 (.agg #[.int .i64 0, .int .i64 0]) Tryd.underlying34 hi hz0 .i64 .i64 0 K (by omega) (by omega) (by rw [hz2]; omega) (by omega), hz1]
  simp only [Int.toNat_natCast]
  rfl
theorem TOwn.made (w : World) (K : Nat) (hK : K ≤ 65536) : TOwn (w.alloc (.cells (stepCs K) 38)) w.heap.size (.slice (some ⟨w.heap.size, 0, none⟩) 0 K) [] :=
  World.ownsRow_made w _ K (Nat.le_refl _) (by unfold maxLen; omega) (size_madeCells _ _)
theorem srd_one {w : World} {g : Nat} {k v : Int} (h : Lies w g 38 #[.int .i64 k, .int .i64 v]) : SRd w (g + 1) (.slice (some ⟨g, 0, none⟩) 1 1) [(k, v)] := by
  refine ⟨_, _, rfl, Nat.le_refl _, by unfold maxLen; omega, fun _ => ⟨g, 0, rfl, by omega, fun i x hi j u hu => ?_⟩⟩
  have h0 : i = 0 := by have := (List.getElem?_eq_some_iff.1 hi).1; simp at this; omega
  subst h0
  simp at hi
  subst hi
  rw [Lies.cell h]
  simpa using hu
/-- append of one step, behind the block that holds it. -/
theorem wpList_app_t {W : World} {ops : Array Oper} {rest : List Oper} {o : Oper} {a : Act} {Q : Exit → Act → World → Prop} (hgd : o.guard = none) (s x : Operand)
    (ho : o.op = .call { callee := .builtin .append, args := #[s, x], argTypes := #[34, 34] })
    (base G : Nat) (v : Value) (l : List (Int × Int)) (k r : Int) (hs : a.eval s = v) (hx : a.eval x = .slice (some ⟨G, 0, none⟩) 1 1) (hown : TOwn W base v l) (hG : Lies W G 38 #[.int .i64 k, .int .i64 r]) (hlen : l.length ≤ 1000) (hbase : base ≤ W.heap.size)
    (h : ∀ v' w', TOwn w' base v' (l ++ [(k, r)]) → Below base W w' → wpList Tryd.prog ops Q rest (a.put o.dst v') w') : wpList Tryd.prog ops Q (o :: rest) a W := by
  refine wpList_plain hgd fun _ hK => ?_
  obtain ⟨v', w', hrun, r1, r2⟩ := run_app_sps o.type hown (srd_one hG) (by simp only [List.length_cons, List.length_nil]; omega) hbase (by simp)
  unfold Oper.wp
  simp [execOp, ho, resolve, invoke, builtin, hs, hx, hrun, Result.andThen]
  exact hK _ _ (h v' w' r1 r2)
end Go.Proofs.YtfgangkpebkicaaDoor

/-
  Plain: in how many ways the items of a set can be the first ones: by the item that comes last. And that the table holds it.
-/
namespace Go.Proofs.YtfgangkpebkicaaDoor
open Go.RowKit
set_option maxRecDepth 20000
def del (S i : Nat) : Nat := S ^^^ 2 ^ i
theorem del_bit (S i j : Nat) : (del S i).testBit j = (S.testBit j ^^ decide (i = j)) := by
  unfold del
  rw [Nat.testBit_xor, Nat.testBit_two_pow]
theorem del_self {S i : Nat} (h : S.testBit i = true) : (del S i).testBit i = false := by rw [del_bit, h]; simp
theorem del_ne (S : Nat) {i j : Nat} (h : i ≠ j) : (del S i).testBit j = S.testBit j := by rw [del_bit]; simp [h]
theorem del_sub {S i j : Nat} (h : S.testBit i = true) (hj : (del S i).testBit j = true) : S.testBit j = true := by
  by_cases e : i = j
  · subst e; exact h
  · rwa [del_ne S e] at hj
theorem del_lt {S i : Nat} (h : S.testBit i = true) : del S i < S := by
  have e : S &&& del S i = del S i := by
    apply Nat.eq_of_testBit_eq
    intro j
    rw [Nat.testBit_and]
    cases hj : (del S i).testBit j
    · simp
    · rw [del_sub h hj]; rfl
  have hle : S &&& del S i ≤ S := Nat.and_le_left
  rw [e] at hle
  rcases Nat.lt_or_ge (del S i) S with hlt | hge
  · exact hlt
  · have h' := h
    rw [← Nat.le_antisymm hle hge, del_self h] at h'
    cases h'
theorem del_or {d i : Nat} (h : d.testBit i = false) : del (d ||| 2 ^ i) i = d := by
  apply Nat.eq_of_testBit_eq
  intro j
  rw [del_bit, Nat.testBit_or, Nat.testBit_two_pow]
  by_cases e : i = j
  · subst e; simp [h]
  · simp [e]
theorem sumUp_congr {f g : Nat → Nat} : ∀ {m : Nat}, (∀ i, i < m → f i = g i) → sumUp f m = sumUp g m
  | 0, _ => rfl
  | m + 1, h => by rw [sumUp, sumUp, sumUp_congr (fun i hi => h i (by omega)), h m (by omega)]
theorem sumUp_zero {f : Nat → Nat} : ∀ {m : Nat}, (∀ i, i < m → f i = 0) → sumUp f m = 0
  | 0, _ => rfl
  | m + 1, h => by rw [sumUp, sumUp_zero (fun i hi => h i (by omega)), h m (by omega)]
theorem sumUp_one {f g : Nat → Nat} {j v : Nat} (hj : f j = g j + v) : ∀ {m : Nat}, j < m → (∀ i, i < m → i ≠ j → f i = g i) → sumUp f m = sumUp g m + v
  | 0, h, _ => by omega
  | m + 1, h, k => by
    rw [sumUp, sumUp]
    by_cases e : j = m
    · subst e
      rw [sumUp_congr (fun i hi => k i (by omega) (by omega)), hj]; omega
    · rw [sumUp_one hj (by omega) (fun i hi hn => k i (by omega) hn), k m (by omega) (fun x => e x.symm)]; omega
def fin (b : Nat → Nat) (n S : Nat) : Nat :=
  if S = 0 then 1 else sumUp (fun i => if _h : S.testBit i = true then (if b i &&& (65535 - del S i) = 0 then fin b n (del S i) else 0) else 0) n
termination_by S
decreasing_by exact del_lt (by assumption)
theorem rdy_bit (b : Nat → Nat) (d i : Nat) : ∀ m, (rdyUp b d m).testBit i = (decide (i < m) && (!d.testBit i && decide (b i &&& (65535 - d) = 0)))
  | 0 => by simp [rdyUp]
  | m + 1 => by
    unfold rdyUp
    by_cases e : i = m
    · subst e
      have h0 := rdy_bit b d i i
      by_cases hc : d.testBit i = false ∧ b i &&& (65535 - d) = 0
      · rw [if_pos hc, Nat.testBit_or, h0, Nat.testBit_two_pow_self]; simp [hc]
      · rw [if_neg hc, h0]
        cases hd : d.testBit i
        · simp [hd] at hc; simp [hc]
        · simp
    · have h0 := rdy_bit b d i m
      have : decide (i < m + 1) = decide (i < m) := by
        by_cases h : i < m
        · simp [h]; omega
        · simp [h]; omega
      rw [this, ← h0]
      split
      · rw [Nat.testBit_or, Nat.testBit_two_pow]; simp [show ¬ m = i from fun k => e k.symm]
      · rfl
/-- What Count tells: the orders of all. -/
def all (n : Nat) : Nat := 2 ^ n - 1
end Go.Proofs.YtfgangkpebkicaaDoor

/-
  Plain: orders of a relation and of its closure are as many; of two items, those in which the one stands ahead, and those in which the other does, are all.
-/
namespace Go.Proofs.YtfgangkpebkicaaDoor
open Go.RowKit
set_option maxRecDepth 20000
def Sub (x y : Nat) : Prop := ∀ t, x.testBit t = true → y.testBit t = true
theorem within_iff {x y : Nat} (hx : x < 65536) (hy : y < 65536) : x &&& (65535 - y) = 0 ↔ Sub x y := ⟨fun h t ht => sub_of_zero hx hy h t ht, fun h => sub_zero hy h⟩
end Go.Proofs.YtfgangkpebkicaaDoor

/-
  Plain: the least order keeps what stands ahead.
-/
namespace Go.Proofs.YtfgangkpebkicaaDoor
open Go.RowKit
set_option maxRecDepth 20000
theorem strict_lt {x y t : Nat} (h : Sub x y) (hy : y.testBit t = true) (hx : x.testBit t = false) : x < y := by
  have e : y &&& x = x := by
    apply Nat.eq_of_testBit_eq
    intro j
    rw [Nat.testBit_and]
    cases hj : x.testBit j
    · simp
    · rw [h j hj]; rfl
  have hle : y &&& x ≤ y := Nat.and_le_left
  rw [e] at hle
  rcases Nat.lt_or_ge x y with hlt | hge
  · exact hlt
  · have e2 : x = y := Nat.le_antisymm hle hge
    rw [e2, hy] at hx; cases hx
/-- A strict order on the first n items. -/
structure Strict (n : Nat) (c : Nat → Nat) : Prop where
  trans : TransV n c
  irr : ∀ v, v < n → (c v).testBit v = false
  inn : ∀ i, i < n → ∀ j, (c i).testBit j = true → j < n
theorem strict_clo {n : Nat} {a : Nat → Nat} (h : Good n a) (hy : cyc (clo n a) n = false) : Strict n (clo n a) := by
  refine ⟨clo_trans n a, fun v hv => ?_, fun i hi j hj => h.clo_in hi hj⟩
  cases hc : (clo n a v).testBit v
  · rfl
  · have := (cyc_iff (clo n a) n).2 ⟨v, hv, hc⟩
    rw [hy] at this; cases this
theorem Strict.turn {n : Nat} {c : Nat → Nat} (h : Strict n c) : Strict n (rev n c) := by
  refine ⟨fun i hi v hv hiv j hj => ?_, fun v hv => ?_, fun i hi j hj => (rev_at.1 hj).1⟩
  · obtain ⟨_, _, h1⟩ := rev_at.1 hiv
    obtain ⟨hjn, _, h2⟩ := rev_at.1 hj
    exact rev_at.2 ⟨hjn, hi, h.trans j hjn v hv h2 i h1⟩
  · rw [rev_bit, h.irr v hv]; simp
/-- In every set that isn't empty there is one that stands ahead of none of it. -/
theorem Strict.top {n : Nat} {c : Nat → Nat} (h : Strict n c) (S : Nat) : ∀ m x, c x &&& S < m → x < n → S.testBit x = true → ∃ y, y < n ∧ S.testBit y = true ∧ ∀ z, (c y).testBit z = true → S.testBit z = false
  | 0, _, h0, _, _ => by omega
  | m + 1, x, hm, hx, hS => by
    by_cases hz : ∃ z, (c x).testBit z = true ∧ S.testBit z = true
    · obtain ⟨z, h1, h2⟩ := hz
      have hzn := h.inn x hx z h1
      refine h.top S m z (Nat.lt_of_lt_of_le (strict_lt (t := z) (fun t ht => ?_) ?_ ?_) (Nat.le_of_lt_succ hm)) hzn h2
      · rw [Nat.testBit_and, Bool.and_eq_true] at ht ⊢
        exact ⟨h.trans x hx z hzn h1 t ht.1, ht.2⟩
      · rw [Nat.testBit_and, h1, h2]; rfl
      · rw [Nat.testBit_and, h.irr z hzn]; rfl
    · refine ⟨x, hx, hS, fun z h1 => ?_⟩
      cases h2 : S.testBit z
      · rfl
      · exact absurd ⟨z, h1, h2⟩ hz
theorem card_del {n S i : Nat} (hi : i < n) (h : S.testBit i = true) : card n S = card n (del S i) + 1 := by
  unfold card
  refine sumUp_one (j := i) ?_ hi (fun k _ hk => ?_)
  · simp [h, del_self h]
  · simp only [del_ne S (fun e => hk e.symm)]
section
variable {n : Nat} {c : Nat → Nat}
theorem card_miss {S : Nat} (h : card n S < n) : ∃ x, x < n ∧ S.testBit x = false := by
  apply Classical.byContradiction
  intro hno
  have h1 : card n S = sumUp (fun _ => 1) n := sumUp_congr fun i hi => by
    cases hb : S.testBit i
    · exact absurd ⟨i, hi, hb⟩ hno
    · simp
  have h2 : ∀ m, sumUp (fun _ => 1) m = m := fun m => by
    induction m with
    | zero => rfl
    | succ m ih => rw [sumUp, ih]
  rw [h2] at h1
  omega
/-- While items are left, one of them may come next. -/
theorem next_is (h : Strict n c) (hn : n ≤ 12) {D : Nat} (hD : D < 65536) (hc : card n D < n) :
    nextOf (rdyUp (rev n c) D n) < n ∧ D.testBit (nextOf (rdyUp (rev n c) D n)) = false ∧ Sub (rev n c (nextOf (rdyUp (rev n c) D n))) D := by
  obtain ⟨x, hx, hDx⟩ := card_miss hc
  obtain ⟨y, hy, hSy, htop⟩ := h.turn.top (65535 - D) _ x (Nat.lt_succ_self _) hx (by rw [not_bit _ _ hD, hDx]; simp; omega)
  rw [not_bit _ _ hD] at hSy
  have hDy : D.testBit y = false := by
    simp only [Bool.and_eq_true, Bool.not_eq_true'] at hSy
    exact hSy.2
  have hsub : Sub (rev n c y) D := fun t ht => by
    have h1 := htop t ht
    rw [not_bit _ _ hD] at h1
    have h2 : t < n := (rev_at.1 ht).1
    cases hDt : D.testBit t
    · rw [hDt] at h1
      simp only [Bool.and_eq_false_iff, decide_eq_false_iff_not] at h1
      rcases h1 with h1 | h1
      · omega
      · cases h1
    · rfl
  have hbit : (rdyUp (rev n c) D n).testBit y = true := by
    rw [rdy_bit]
    simp only [Bool.and_eq_true, decide_eq_true_eq, Bool.not_eq_true']
    exact ⟨hy, hDy, (within_iff (rev_lt hn c y) hD).2 hsub⟩
  have hne : rdyUp (rev n c) D n ≠ 0 := fun e => by rw [e] at hbit; simp at hbit
  have hlt : rdyUp (rev n c) D n < 2 ^ 16 := rdyUp_lt _ _ 16 n (by omega)
  have ht := (tzN_bit 16 _ (Nat.pos_of_ne_zero hne) hlt).1
  unfold nextOf
  rw [if_neg hne]
  rw [rdy_bit] at ht
  simp only [Bool.and_eq_true, decide_eq_true_eq, Bool.not_eq_true'] at ht
  exact ⟨ht.1, ht.2.1, (within_iff (rev_lt hn c _) hD).1 ht.2.2⟩
/-- Item k of the list. -/
def nth (n : Nat) (c : Nat → Nat) (k : Nat) : Nat := nextOf (rdyUp (rev n c) (lsD (rev n c) n k) n)
theorem least_step (h : Strict n c) (hn : n ≤ 12) : ∀ k, k ≤ n → card n (lsD (rev n c) n k) = k ∧ ∀ x, (lsD (rev n c) n k).testBit x = true ↔ ∃ m, m < k ∧ nth n c m = x
  | 0, _ => by
    refine ⟨?_, fun x => ?_⟩
    · show card n 0 = 0
      unfold card
      exact sumUp_zero (fun i _ => by simp)
    · show (0 : Nat).testBit x = true ↔ _
      simp
  | k + 1, hk => by
    obtain ⟨ih1, ih2⟩ := least_step h hn k (by omega)
    obtain ⟨h1, h2, _⟩ := next_is h hn (lsD_lt (rev n c) n k) (by rw [ih1]; omega)
    have h16 : 2 ^ nth n c k % 65536 = 2 ^ nth n c k := Nat.mod_eq_of_lt (Nat.pow_lt_pow_right (n := 16) (by omega) (by unfold nth; omega))
    have hD : lsD (rev n c) n (k + 1) = lsD (rev n c) n k ||| 2 ^ nth n c k := by
      show _ ||| (2 ^ nth n c k % 65536) = _
      rw [h16]
    rw [hD]
    refine ⟨?_, fun x => ?_⟩
    · rw [card_del (i := nth n c k) h1 (by simp), del_or (i := nth n c k) h2, ih1]
    · rw [Nat.testBit_or, Nat.testBit_two_pow, Bool.or_eq_true, ih2, decide_eq_true_eq]
      constructor
      · rintro (⟨m, hm, e⟩ | e)
        · exact ⟨m, by omega, e⟩
        · exact ⟨k, by omega, e⟩
      · rintro ⟨m, hm, e⟩
        rcases Nat.lt_or_ge m k with h' | h'
        · exact .inl ⟨m, h', e⟩
        · obtain rfl : m = k := by omega
          exact .inr e
theorem least_sub (h : Strict n c) (hn : n ≤ 12) {k : Nat} (hk : k < n) : Sub (rev n c (nth n c k)) (lsD (rev n c) n k) :=
  (next_is h hn (lsD_lt (rev n c) n k) (by rw [(least_step h hn k (by omega)).1]; exact hk)).2.2
theorem lsL_get (b : Nat → Nat) (n : Nat) : ∀ k m, m < k → (lsL b n k).getD m 0 = (nextOf (rdyUp b (lsD b n m) n) : Int)
  | 0, m, h => by omega
  | k + 1, m, h => by
    have hl := lsL_length b n k
    rw [lsL, List.getD_eq_getElem?_getD]
    by_cases e : m < k
    · rw [List.getElem?_append_left (by omega)]
      have := lsL_get b n k m e
      rwa [List.getD_eq_getElem?_getD] at this
    · obtain rfl : m = k := by omega
      rw [List.getElem?_append_right (by omega), hl]
      simp
end
end Go.Proofs.YtfgangkpebkicaaDoor

/-
  Plain: what is joined. Lists of right orders are never round; and what they are joined to has each list as it stood.
-/
namespace Go.Proofs.YtfgangkpebkicaaDoor
open Go.RowKit
set_option maxRecDepth 20000
def adjP (l : List (Int × Int)) (i j : Nat) : Prop := ∃ u x y v, l = u ++ x :: y :: v ∧ x.1.toNat = i ∧ y.1.toNat = j
theorem adjP_cons {x y : Int × Int} {r : List (Int × Int)} {i j : Nat} : adjP (x :: y :: r) i j ↔ (i = x.1.toNat ∧ j = y.1.toNat) ∨ adjP (y :: r) i j := by
  constructor
  · rintro ⟨u, a, b, v, e, h1, h2⟩
    match u, e with
    | [], e =>
      injection e with e1 e2
      injection e2 with e2 _
      subst e1 e2
      exact .inl ⟨h1.symm, h2.symm⟩
    | c :: u, e =>
      injection e with _ e2
      exact .inr ⟨u, a, b, v, e2, h1, h2⟩
  · rintro (⟨rfl, rfl⟩ | ⟨u, a, b, v, e, h1, h2⟩)
    · exact ⟨[], x, y, r, rfl, rfl, rfl⟩
    · exact ⟨x :: u, a, b, v, by rw [e]; rfl, h1, h2⟩
theorem adjP_short {l : List (Int × Int)} (h : l.length ≤ 1) (i j : Nat) : ¬ adjP l i j := by
  rintro ⟨u, a, b, v, rfl, _⟩
  simp at h
  omega
theorem lnkP_iff : ∀ (l : List (Int × Int)) (p : Nat → Nat → Bool) (i j : Nat), lnkP p l i j = true ↔ p i j = true ∨ adjP l i j
  | [], p, i, j => ⟨.inl, fun h => h.resolve_right (adjP_short (by simp) i j)⟩
  | [x], p, i, j => ⟨.inl, fun h => h.resolve_right (adjP_short (by simp) i j)⟩
  | x :: y :: r, p, i, j => by
    rw [lnkP, lnkP_iff (y :: r), adjP_cons]
    unfold setP
    simp only [Bool.or_eq_true, Bool.and_eq_true, decide_eq_true_eq]
    exact or_assoc
theorem relF_iff : ∀ (ww : List (List (Int × Int))) (p : Nat → Nat → Bool) (i j : Nat), relF p ww i j = true ↔ p i j = true ∨ ∃ l ∈ ww, adjP l i j
  | [], p, i, j => by simp [relF]
  | l :: r, p, i, j => by
    rw [relF, relF_iff r, lnkP_iff]
    simp only [List.mem_cons, exists_eq_or_imp]
    exact or_assoc
theorem cyc_rank {n : Nat} {p : Nat → Nat → Bool} (f : Nat → Nat) (h : ∀ i j, i < n → j < n → p i j = true → f i < f j) : cyc (clo n (relP p n)) n = false := by
  have key : ∀ k, k ≤ n → ∀ x y, x < n → (warsh n (relP p n) k x).testBit y = true → f x < f y := by
    intro k
    induction k with
    | zero =>
      intro _ x y _ hb
      change (relP p n x).testBit y = true at hb
      rw [relP_bit] at hb
      simp only [Bool.and_eq_true, decide_eq_true_eq] at hb
      exact h x y hb.1.1 hb.1.2 hb.2
    | succ k ih =>
      intro hk x y hx hb
      change (stepV n (warsh n (relP p n) k) k x).testBit y = true at hb
      rw [stepV_bit n _ k _ _ hx] at hb
      simp only [Bool.or_eq_true, Bool.and_eq_true] at hb
      rcases hb with hb | ⟨h1, h2⟩
      · exact ih (by omega) x y hx hb
      · have a1 := ih (by omega) x k hx h1
        have a2 := ih (by omega) k y (by omega) h2
        omega
  cases hc : cyc (clo n (relP p n)) n with
  | false => rfl
  | true =>
    obtain ⟨v, hv, hb⟩ := (cyc_iff _ _).1 hc
    have := key n (Nat.le_refl _) v v hv hb
    omega
/-- The place of a call in a list. -/
def plcW (ws : List (Int × Int)) (k : Int) : Nat := match ws with
  | [] => 0
  | a :: r => if a.1 = k then 0 else plcW r k + 1
theorem plcW_lt : ∀ {ws : List (Int × Int)}, (ws.map (·.1)).Nodup → ∀ {x y : Int × Int}, [x, y].Sublist ws → plcW ws x.1 < plcW ws y.1
  | [], _, x, y, h => by simp at h
  | a :: r, hnd, x, y, h => by
    rw [List.map_cons, List.nodup_cons] at hnd
    have hne : ∀ z ∈ r, a.1 ≠ z.1 := fun z hz e => hnd.1 (List.mem_map.2 ⟨z, hz, e.symm⟩)
    unfold plcW
    cases h with
    | cons _ h =>
      rw [if_neg (hne x (h.subset (by simp))), if_neg (hne y (h.subset (by simp)))]
      have := plcW_lt hnd.2 h
      omega
    | cons_cons _ h =>
      rw [if_pos rfl, if_neg (hne y (h.subset (by simp)))]
      omega
end Go.Proofs.YtfgangkpebkicaaDoor

/-
  Plain: what is joined has each list as it stood, and keeps 'ahead of'.
-/
namespace Go.Proofs.YtfgangkpebkicaaDoor
open Go.RowKit
set_option maxRecDepth 20000
section
variable {n : Nat} {c : Nat → Nat}
theorem nth_lt (h : Strict n c) (hn : n ≤ 12) {k : Nat} (hk : k < n) : nth n c k < n :=
  (next_is h hn (lsD_lt (rev n c) n k) (by rw [(least_step h hn k (by omega)).1]; exact hk)).1
theorem nth_ne (h : Strict n c) (hn : n ≤ 12) {m k : Nat} (hmk : m < k) (hk : k < n) : nth n c m ≠ nth n c k := fun e => by
  have h1 := (next_is h hn (lsD_lt (rev n c) n k) (by rw [(least_step h hn k (by omega)).1]; exact hk)).2.1
  have h2 := ((least_step h hn k (by omega)).2 (nth n c k)).2 ⟨m, hmk, e⟩
  change (lsD (rev n c) n k).testBit (nth n c k) = false at h1
  rw [h1] at h2
  cases h2
end
theorem pw_adj {R : Nat → Nat → Prop} {n : Nat} (htr : ∀ i j k, i < n → j < n → R i j → R j k → R i k) : ∀ {l : List (Int × Int)}, (∀ x ∈ l, 0 ≤ x.1 ∧ x.1 < n) → (∀ i j, adjP l i j → R i j) → l.Pairwise fun x y => R x.1.toNat y.1.toNat
  | [], _, _ => List.Pairwise.nil
  | [x], _, _ => List.pairwise_singleton _ _
  | x :: y :: r, hr, ha => by
    have ih := pw_adj (R := R) htr (l := y :: r) (fun z hz => hr z (List.mem_cons_of_mem _ hz)) (fun i j h => ha i j (adjP_cons.2 (.inr h)))
    have h0 : R x.1.toNat y.1.toNat := ha _ _ (adjP_cons.2 (.inl ⟨rfl, rfl⟩))
    have hx := hr x (by simp)
    have hy := hr y (by simp)
    refine List.pairwise_cons.2 ⟨fun z hz => ?_, ih⟩
    rcases List.mem_cons.1 hz with rfl | hz
    · exact h0
    · exact htr _ _ _ (by omega) (by omega) h0 ((List.pairwise_cons.1 ih).1 z hz)
section
variable {cs : List Cl} {ww : List (List (Int × Int))} {G : Int → Option Int}
end
end Go.Proofs.YtfgangkpebkicaaDoor

/-
  Contract of local.Join.
-/
namespace Go.Proofs.YtfgangkpebkicaaDoor
open Go.RowKit Go.Maps
set_option maxRecDepth 20000
theorem pickF_step {F : Int → Option Int} {xs : List Int} {k : Nat} {x : Int} (h : xs[k]? = some x) : pickF F (xs.take (k + 1)) = pickF F (xs.take k) ++ (match F x with | some r => [(x, r)] | none => []) := by
  unfold pickF
  rw [List.take_add_one, h, List.filterMap_append]
  cases hF : F x <;> simp [hF]
theorem pickF_len (F : Int → Option Int) (xs : List Int) : (pickF F xs).length ≤ xs.length := List.length_filterMap_le _ _
theorem lsL_rng (b : Nat → Nat) (n : Nat) (hb : n ≤ 16) : ∀ k, ∀ x ∈ lsL b n k, 0 ≤ x ∧ x ≤ 16
  | 0, x, h => by simp [lsL] at h
  | k + 1, x, h => by
    rw [lsL, List.mem_append] at h
    rcases h with h | h
    · exact lsL_rng b n hb k x h
    · rw [List.mem_singleton] at h
      subst h
      have := nextOf_le (rdyUp b (lsD b n k) n) (rdyUp_lt b _ 16 n hb)
      omega
theorem IRd.atJ {w : World} {B n cap : Nat} {A : Option Addr} {xs : List Int} (h : IRd w B (.slice A n cap) xs) {k : Nat} {x : Int} (hk : xs[k]? = some x) : ∃ g, A = some ⟨g, 0, none⟩ ∧ g < B ∧ w.cell? ⟨g, k, none⟩ = some (.int .i64 x) := by
  obtain ⟨A', cap', e, h2⟩ := h
  injection e with e1 e2 e3
  have hl := (List.getElem?_eq_some_iff.1 hk).1
  obtain ⟨g, hA, hg, hc⟩ := h2 (by omega)
  refine ⟨g, e1.trans hA, hg, ?_⟩
  rw [hc k hl, List.getD_eq_getElem?_getD, hk]
  rfl
theorem tab_pos {w : World} (h : Tab w) : 0 < w.heap.size := by
  rcases Nat.eq_zero_or_pos w.heap.size with h0 | h0
  · have := h 0 (by decide)
    simp [World.cell?, h0] at this
  · exact h0
/-- What the last loop keeps. -/
structure JnK (w : World) (B b n : Nat) (A : Option Addr) (m cap : Nat) (xs : List Int) (F : Int → Option Int) (v : Value) (k : Nat) (wr : World) : Prop where
  below : Below w.heap.size w wr
  ext : IRd wr B (.slice A m cap) xs
  map : ∃ c, JMap wr b c F ∧ b < B
  own : TOwn wr B v (pickF F (xs.take k))
  sz : B ≤ wr.heap.size
  ge : w.heap.size ≤ B
theorem JnK.next {w : World} {B b n : Nat} {A : Option Addr} {m cap : Nat} {xs : List Int} {F : Int → Option Int} {v : Value} {k : Nat} {wr w' : World} (h : JnK w B b n A m cap xs F v k wr) (hb : Below wr.heap.size wr w') : JnK w B b n A m cap xs F v k w' :=
  ⟨h.below.trans (hb.mono h.below.size), h.ext.below (hb.mono h.sz), by obtain ⟨c, h1, h2⟩ := h.map; exact ⟨c, h1.below hb, h2⟩, h.own.below hb, Nat.le_trans h.sz hb.size, h.ge⟩
theorem JnK.app {w : World} {B b n : Nat} {A : Option Addr} {m cap : Nat} {xs : List Int} {F : Int → Option Int} {v v' : Value} {k k' : Nat} {wr w' : World} (h : JnK w B b n A m cap xs F v k wr) (hb : Below B wr w') (ho : TOwn w' B v' (pickF F (xs.take k'))) : JnK w B b n A m cap xs F v' k' w' :=
  ⟨h.below.trans (hb.mono h.ge), h.ext.below hb, by obtain ⟨c, h1, h2⟩ := h.map; exact ⟨c, h1.keep (hb.block b h2), h2⟩, ho, Nat.le_trans h.sz hb.size, h.ge⟩
set_option maxHeartbeats 4000000 in
theorem ljoin_any {tv lv wv : Value} {ts : List Int} {l : List Ev} {ww : List (List (Int × Int))} {w : World} (ht : NRd w w.heap.size tv ts) (hl : ERd w w.heap.size lv l) (hw : QRd w w.heap.size wv ww) (hT : Tab w) :
    Calls Tryd.prog 11 #[tv, lv, wv] w (JoinPost w (joinO ts l ww)) := by
  have HO := Lib.hid (lopen_any ht hl)
  have hse : joinO ts l ww = if openE ts l ≠ 0 then ([], false, openE ts l) else if ww.length ≠ ts.length then ([], false, 3) else joinC (callsOf ts l).1 ww := rfl
  have hfew : openE ts l = 0 → (callsOf ts l).1.length ≤ 12 ∧ ts.length ≤ 4 := fun h => ⟨(openE_zero h).2.1, calls_types (openE_zero h).1⟩
  generalize joinO ts l ww = R at hse ⊢
  generalize openE ts l = X at HO hse hfew
  generalize (callsOf ts l).1 = cs at HO hse hfew
  have HSE := Lib.hid (And.intro hse hfew)
  clear hse hfew
  obtain ⟨At, capt, rfl, -, -⟩ := ht.is
  obtain ⟨Al, capl, rfl, -, -⟩ := hl.is
  obtain ⟨Aw, capw, rfl, hw1, hw2⟩ := hw.is
  unfold maxLen at hw2
  have HW := Lib.hid (And.intro hw (And.intro hT (tab_pos hT)))
  clear ht hl hw hT
  obtain ⟨tl, htl⟩ : ∃ tl, tl = ts.length := ⟨_, rfl⟩
  obtain ⟨m, hm⟩ : ∃ m, m = ww.length := ⟨_, rfl⟩
  rw [← htl, ← hm] at HSE
  rw [← htl] at HO
  rw [← hm] at HW hw1
  rw [← htl, ← hm]
  have HM := Lib.hid hm
  clear htl hm
  generalize l.length = L at HO ⊢
  go_enter Tryd.func11, Tryd.ntmps11
  go_wp2_with fail
  refine HO.out.mono ?_
  rintro e w1 ⟨hb1, v, rfl, hcr, hnil⟩
  clear HO
  by_cases hX : X = 0
  · subst hX
    obtain ⟨hse, hfew⟩ := HSE.out
    obtain ⟨hn, htl⟩ := hfew rfl
    rw [if_neg (by simp)] at hse
    obtain ⟨Ac, cc, rfl, -, -⟩ := (hcr rfl).is
    have HC := Lib.hid (And.intro hb1 (hcr rfl))
    have HN := Lib.hid (And.intro hn htl)
    clear HSE hfew hb1 hcr hnil hn
    by_cases hmt : m = tl
    · obtain rfl := hmt
      have hzz : ((m : Int) != (m : Int)) = false := by rw [bne_eq_false_iff_eq]
      rw [if_neg (by omega)] at hse
      have HR := Lib.hid hse
      clear hse
      have HCOL := Lib.hid (lcollect_any HC.out.2 ((HW.out.1.below HC.out.1).mono HC.out.1.size) HN.out.1 (by have := HN.out.2; have := HM.out; omega))
      have HREL := Lib.hid (fun (W : World) (h : Below w1.heap.size w1 W) hr => lrelate_any ((HC.out.2.below h).mono h.size) (((HW.out.1.below HC.out.1).mono HC.out.1.size).below h |>.mono h.size) HN.out.1 hr)
      generalize hcn : cs.length = n at HCOL HREL HN HC ⊢
      have HCN := Lib.hid hcn
      clear hcn
      go_wp2_with fail
      refine HCOL.out.mono ?_
      rintro e w2 ⟨hb2, ⟨hF, rfl⟩ | ⟨F, b, c, hF, rfl, hj, hc12⟩⟩
      · have hR := HR.out
        unfold joinC at hR
        rw [hF] at hR
        have HRR := Lib.hid hR
        have HB := Lib.hid (HC.out.1.trans (hb2.mono HC.out.1.size))
        clear hb2 hF hR HCOL HREL
        go_wp2_with fail
        go_ret3
        exact ⟨HB.out, _, by rw [HRR.out] <;> rfl, by rw [HRR.out]; exact LRd.nil _ _⟩
      · have hR := HR.out
        unfold joinC at hR
        rw [hF] at hR
        have hrr := HREL.out w2 hb2 (HCN.out ▸ col_rng hF)
        have hgood : Good n (jnR cs ww) := by unfold jnR; rw [HCN.out]; exact good_relP _ HN.out.1
        have hjr : relP (relF (aheadB cs) ww) n = jnR cs ww := by unfold jnR; rw [HCN.out]
        rw [hjr] at hrr
        rw [HCN.out] at hR
        have HRE := Lib.hid hrr
        have HG := Lib.hid hgood
        have HB2 := Lib.hid (And.intro (HC.out.1.trans (hb2.mono HC.out.1.size)) (And.intro hj hc12))
        clear hF hrr hgood hjr HCOL HREL hb2 hj hc12 HR
        generalize jnR cs ww = a at hR HRE HG
        have HR := Lib.hid hR
        clear hR
        go_wp2_with fail
        refine HRE.out.mono ?_
        rintro e w3 ⟨rfl, hb3⟩
        have hj3 := HB2.out.2.1.below hb3
        have hb03 := HB2.out.1.trans (hb3.mono HB2.out.1.size)
        have HB3 := Lib.hid (And.intro hb03 (And.intro hj3 HB2.out.2.2))
        clear HRE HB2 hb3 hj3 hb03
        cases hy : cyc (clo n a) n
        · have hR := HR.out
          rw [hy, if_neg (by decide)] at hR
          have HLL := Lib.hid (fun (W : World) (hT : Tab W) (hp : 0 < W.heap.size) => least_no n a W HG.out hy hT hp)
          have hrg := lsL_rng (rev n (clo n a)) n (by have := HN.out.1; omega) n
          have hlen := lsL_length (rev n (clo n a)) n n
          generalize lsL (rev n (clo n a)) n n = xs at hR HLL hrg hlen
          have HRR := Lib.hid hR
          have HXS := Lib.hid (And.intro hrg hlen)
          have hal : Below w3.heap.size w3 (w3.alloc (.cells (relCs n a) 46)) := (Below.refl _ _).alloc (Nat.le_refl _) _
          have HAL := Lib.hid hal
          have HT3 := Lib.hid (HW.out.2.1.below (HB3.out.1.trans (hal.mono HB3.out.1.size)) HW.out.2.2)
          clear hR hy HR hrg hlen hal
          go_wp2_with fail
          refine (HLL.out _ HT3.out (by simp)).mono ?_
          rintro e w4 ⟨v4, rfl, hown, hb4⟩
          have hrd := hown.rd
          obtain ⟨Ax, capx, rfl, hx1⟩ := id hrd
          rw [HXS.out.2]
          rw [HXS.out.2] at hown hrd
          have hb34 := HAL.out.trans (hb4.mono (by simp))
          have HB4 := Lib.hid (And.intro (HB3.out.1.trans (hb34.mono HB3.out.1.size)) (And.intro (HB3.out.2.1.below hb34) (And.intro HB3.out.2.2 hrd)))
          clear hown hrd hx1 hb4 hb34 HB3 HLL HAL HT3
          have HMK := Lib.hid (fun K hK => made_steps K hK w4)
          go_wp2_with (at_len; refine JMap.lenAt rfl _ rfl HB4.out.2.1 rfl ?_; intro K hK; have hmk := HMK.out K (by have := HB4.out.2.2.1; omega))
          have hJ0 : JnK w w4.heap.size b n Ax n capx xs F (.slice (some ⟨w4.heap.size, 0, none⟩) 0 K) 0 (w4.alloc (.cells (stepCs K) 38)) := by
            have h := HB4.out
            have hb : Below w4.heap.size w4 (w4.alloc (.cells (stepCs K) 38)) := (Below.refl _ _).alloc (Nat.le_refl _) _
            exact ⟨h.1.trans (hb.mono h.1.size), h.2.2.2.below hb, ⟨_, h.2.1.below hb, h.2.1.lt⟩, TOwn.made w4 K (by have := h.2.2.1; omega), hb.size, h.1.size⟩
          change Code.wp _ _ _ _ (w4.alloc (.cells (stepCs K) 38))
          generalize w4.alloc (.cells (stepCs K) 38) = W at hJ0 ⊢
          generalize w4.heap.size = B at hJ0 ⊢
          clear HMK hmk hK
          go_loopw [15, 66] (fun v i wr => ∃ k : Nat, k ≤ n ∧ i = .int .i64 k ∧ JnK w B b n Ax n capx xs F v k wr) (fun _ i _ => n - (intOf i).toNat)
          case atStart => exact ⟨0, by omega, rfl, hJ0⟩
          case round =>
            clear hJ0
            obtain ⟨k, hk, rfl, hJ⟩ := hrel
            by_cases hkn : k < n
            · obtain ⟨x, hx⟩ : ∃ x, xs[k]? = some x := ⟨_, List.getElem?_eq_getElem (by rw [HXS.out.2]; exact hkn)⟩
              have hxr := HXS.out.1 x (List.mem_of_getElem? hx)
              obtain ⟨g, rfl, hg, d0⟩ := hJ.ext.atJ hx
              have hst := pickF_step (F := F) hx
              obtain ⟨c, hjm, hbB⟩ := hJ.map
              have hpl : (pickF F (xs.take k)).length ≤ 1000 := by
                have h1 := pickF_len F (xs.take k)
                rw [List.length_take, HXS.out.2] at h1
                have := HN.out.1
                omega
              have hn12 := HN.out.1
              have i1 : (0 : Int) ≤ (k : Int) := by omega
              have i2 : (k : Int) < (n : Int) := by omega
              have hal : ∀ z r : Int, Below wr.heap.size wr (wr.alloc (.cells #[.int .i64 z, .int .i64 r] 38)) := fun z r => (Below.refl _ _).alloc (Nat.le_refl _) _
              have HJ := Lib.hid (And.intro hJ (And.intro hjm (And.intro hpl hal)))
              have HXR := Lib.hid hxr
              clear hJ hjm hbB hpl hal hx hxr hg
              cases hF : F x with
              | none =>
                rw [hF] at hst
                have HS := Lib.hid (And.intro hst hF)
                clear hst hF
                go_wp2_with (at_lookup; refine JMap.look rfl _ _ rfl HJ.out.2.1 x (by have := HXR.out; omega) (by have := HXR.out; omega) rfl rfl ?_; intro z r _; rw [HS.out.2])
                go_roundw
                case rel => exact ⟨k + 1, by omega, by go_num, (HJ.out.1.next (HJ.out.2.2.2 z r)).app (Below.refl _ _) (by rw [HS.out.1, List.append_nil]; exact (HJ.out.1.next (HJ.out.2.2.2 z r)).own)⟩
                case measure => simp [intOf]; omega
              | some r0 =>
                rw [hF] at hst
                have HS := Lib.hid (And.intro hst hF)
                clear hst hF
                go_upto_region 22 with (at_lookup; refine JMap.look rfl _ _ rfl HJ.out.2.1 x (by have := HXR.out; omega) (by have := HXR.out; omega) rfl rfl ?_; intro z r hzr; rw [HS.out.2]; have hz2 := hzr (by rw [HS.out.2]; rfl))
                obtain ⟨hz1, hz3⟩ := hz2
                rw [HS.out.2] at hz3
                injection hz3 with hz3
                subst hz3
                have hJ2 := HJ.out.1.next (HJ.out.2.2.2 x r0)
                have hnew : Lies (wr.alloc (.cells #[.int .i64 x, .int .i64 r0] 38)) wr.heap.size 38 #[.int .i64 x, .int .i64 r0] := Lies.new _ _ _
                change Code.wp _ _ _ _ (wr.alloc (.cells #[.int .i64 x, .int .i64 r0] 38))
                clear hzr hz1
                generalize wr.alloc (.cells #[.int .i64 x, .int .i64 r0] 38) = W2 at hJ2 hnew ⊢
                have c0 : W2.cell? ⟨wr.heap.size, 0, none⟩ = some (.int .i64 x) := Lies.cell hnew 0
                have c1 : W2.cell? ⟨wr.heap.size, 1, none⟩ = some (.int .i64 r0) := Lies.cell hnew 1
                generalize wr.heap.size = X at c0 c1 ⊢
                have HJ2 := Lib.hid (And.intro hJ2 HJ.out.2.2.1)
                clear hJ2 hnew d0 HJ
                go_wp2_with (at_builtin; refine wpList_app_t rfl (.tmp 77) (.tmp 79) rfl B W2.heap.size _ _ x r0 rfl rfl (HJ2.out.1.own.alloc _) (Lies.new _ _ _) HJ2.out.2 (by have := HJ2.out.1.sz; simp; omega) ?_; intro v' w5 ho5 hb5)
                go_roundw
                case rel => exact ⟨k + 1, by omega, by go_num, (HJ2.out.1.next ((Below.refl _ _).alloc (Nat.le_refl _) _)).app hb5 (by rw [HS.out.1]; exact ho5)⟩
                case measure => simp [intOf]; omega
            · obtain rfl : k = n := by omega
              have HJ := Lib.hid hJ
              clear hJ
              go_wp2_with fail
              go_ret3
              have hfull : pickF F (xs.take k) = pickF F xs := by rw [List.take_of_length_le (by rw [HXS.out.2]; exact Nat.le_refl _)]
              exact ⟨HJ.out.below, _, by rw [HRR.out] <;> rfl, by rw [HRR.out]; exact hfull ▸ HJ.out.own.rd⟩
        · have hR := HR.out
          rw [hy, if_pos rfl] at hR
          have HRR := Lib.hid hR
          have HF := Lib.hid (fun W : World => least_err n a 4 W rfl (fails_round HG.out hy))
          clear hR hy HR
          go_wp2_with fail
          refine (HF.out _).mono ?_
          rintro e w4 ⟨rfl, hb4⟩
          have HB4 := Lib.hid (HB3.out.1.trans ((((Below.refl _ _).alloc (Nat.le_refl _) _).trans (hb4.mono (by simp))).mono HB3.out.1.size))
          clear hb4
          go_wp2_with fail
          go_ret3
          exact ⟨HB4.out, _, by rw [HRR.out] <;> rfl, by rw [HRR.out]; exact LRd.nil _ _⟩
    · have hzz : ((m : Int) != (tl : Int)) = true := by rw [bne_iff_ne]; omega
      rw [if_pos (by omega)] at hse
      have HR := Lib.hid hse
      clear hse
      go_wp2_with fail
      go_ret3
      exact ⟨HC.out.1, _, by rw [HR.out] <;> rfl, by rw [HR.out]; exact LRd.nil _ _⟩
  · obtain ⟨hse, -⟩ := HSE.out
    rw [if_pos hX] at hse
    obtain rfl := hnil hX
    have hXz : (X != 0) = true := by rw [bne_iff_ne]; exact hX
    have HR := Lib.hid hse
    have HB := Lib.hid hb1
    clear hse hb1 hcr hnil
    go_wp2_with fail
    go_ret3
    exact ⟨HB.out, _, by rw [HR.out] <;> rfl, by rw [HR.out]; exact LRd.nil _ _⟩
end Go.Proofs.YtfgangkpebkicaaDoor
