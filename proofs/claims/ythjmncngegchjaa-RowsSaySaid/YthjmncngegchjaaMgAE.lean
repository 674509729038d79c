/-
  Joined by a program out of: ROpenP, KeyInt, LitsInj, LNMap, Lies, LRd, BzMem, Fills.
-/
import Derived.Test.YthjmncngegchjaaMgAD
import Derived.Test.YthjmncngegchjaaProg
import Derived.WalkKit
import Derived.Maps.OwnSet
import Derived.Maps.OwnOps
import Derived.Maps.GroupsBeside
import Derived.Deep.QuietTactic
import Derived.BigQuiet
import Derived.Lib.Hide
import Derived.Deep.Draws
import Derived.Laws.OwnMore
import Derived.Test.YthjmncngegchjaaMgAA
import Derived.Deep.AppendLies
import Derived.Test.YthjmncngegchjaaMgAC

/-
  Plain: what package rows makes of a history, call after call.
-/
namespace Go.Proofs.Ythjmncngegchjaa
open Go.RowKit
set_option maxRecDepth 20000
/-- May call k be, behind those before it? -/
def okAt (cs : List Cl) (k : Nat) : Bool := if (cs.getD k default).kind = 3 then !(pAt (cs.take k) (cs.getD k default).arg).isSome else (cs.getD k default).til != -1
def okQ (cs : List Cl) : Bool := (List.range cs.length).all fun k => okAt cs k
/-- The error of package rows. -/
def rowsE (l : List Ev) : Int := if (callsOf [2] l).2.2 ≠ 0 then (callsOf [2] l).2.2 else if okQ (callsOf [2] l).1 = true then 0 else 6
theorem fAt_append {f : Cl → Bool} : ∀ (a b : List Cl) (k : Nat), fAt f k (a ++ b) = (match fAt f k a with | some i => some i | none => fAt f (k + a.length) b)
  | [], b, k => by simp [fAt]
  | c :: r, b, k => by
    rw [List.cons_append, fAt, fAt]
    split
    · rfl
    · rw [fAt_append r b (k + 1), List.length_cons, show k + 1 + r.length = k + (r.length + 1) by omega]
section
variable {cs : List Cl} {k : Nat} {c : Cl}
theorem take_snocQ (h : cs[k]? = some c) : cs.take (k + 1) = cs.take k ++ [c] := by
  rw [List.take_add_one, h]
  rfl
theorem fAt_snoc {f : Cl → Bool} (h : cs[k]? = some c) : fAt f 0 (cs.take (k + 1)) = match fAt f 0 (cs.take k) with
    | some i => some i
    | none => if f c = true then some k else none := by
  have hk := (List.getElem?_eq_some_iff.1 h).1
  rw [take_snocQ h, fAt_append]
  cases fAt f 0 (cs.take k) with
  | some i => rfl
  | none =>
    simp only
    rw [fAt, List.length_take, Nat.min_eq_left (by omega), Nat.zero_add]
    rfl
theorem pAt_snoc (h : cs[k]? = some c) (v : Int) : pAt (cs.take (k + 1)) v = match pAt (cs.take k) v with
    | some i => some i
    | none => if isE v c = true then some k else none := fAt_snoc h
theorem tAt_snoc (h : cs[k]? = some c) (v : Int) : tAt (cs.take (k + 1)) v = match tAt (cs.take k) v with
    | some i => some i
    | none => if v ≠ -1 ∧ isD v c = true then some k else none := by
  unfold tAt
  by_cases hv : v = -1
  · simp [hv]
  · rw [if_neg hv, if_neg hv, fAt_snoc h]
    simp [hv]
end
/-- The calls by number. -/
def numF (f : Int → Option Nat) (v : Int) : Option Int := (f v).map fun (i : Nat) => (i : Int)
theorem numF_some (f : Int → Option Nat) (v : Int) : (numF f v).isSome = (f v).isSome := by unfold numF; cases f v <;> rfl
theorem numF_get (f : Int → Option Nat) (v : Int) : (numF f v).getD 0 = (((f v).getD 0 : Nat) : Int) := by unfold numF; cases f v <;> rfl
theorem okQ_all {cs : List Cl} : okQ cs = true ↔ ∀ k, k < cs.length → okAt cs k = true := by
  unfold okQ
  rw [List.all_eq_true]
  exact ⟨fun h k hk => h k (List.mem_range.2 hk), fun h k hk => h k (List.mem_range.1 hk)⟩
theorem okAt_some {cs : List Cl} {k : Nat} {c : Cl} (h : cs[k]? = some c) : okAt cs k = if c.kind = 3 then !(pAt (cs.take k) c.arg).isSome else c.til != -1 := by
  unfold okAt
  rw [show cs.getD k default = c by rw [List.getD_eq_getElem?_getD, h]; rfl]
theorem okQ_iff {cs : List Cl} (hk : ∀ c ∈ cs, c.kind = 3 ∨ c.kind = 4) : okQ cs = true ↔ OnceE cs ∧ ∀ c ∈ cs, c.kind = 4 → c.til ≠ -1 := by
  rw [okQ_all]
  constructor
  · intro h
    constructor
    · have key : ∀ (i j : Nat) (c d : Cl), i < j → cs[i]? = some c → cs[j]? = some d → c.kind = 3 → d.kind = 3 → c.arg ≠ d.arg := by
        intro i j c d hij hc hd k1 k2 he
        have h1 := h j (List.getElem?_eq_some_iff.1 hd).1
        rw [okAt_some hd, if_pos k2, Bool.not_eq_true'] at h1
        have h2 : c ∈ cs.take j := List.mem_of_getElem? (i := i) (by rw [List.getElem?_take, if_pos hij]; exact hc)
        have h3 := p_none h1 c h2
        rw [isE_iff.2 ⟨k1, he⟩] at h3
        cases h3
      intro i j c d hc hd k1 k2 he
      rcases Nat.lt_trichotomy i j with hij | hij | hij
      · exact absurd he (key i j c d hij hc hd k1 k2)
      · exact hij
      · exact absurd he.symm (key j i d c hij hd hc k2 k1)
    · intro c hc h4
      obtain ⟨i, hi, rfl⟩ := List.getElem_of_mem hc
      have h1 := h i hi
      rw [okAt_some (List.getElem?_eq_getElem hi), if_neg (by omega), bne_iff_ne] at h1
      exact h1
  · rintro ⟨h1, h2⟩ k hkl
    rw [okAt_some (List.getElem?_eq_getElem hkl)]
    split
    · rename_i h3
      rw [Bool.not_eq_true', Option.isSome_eq_false_iff, Option.isNone_iff_eq_none, pAt_none]
      intro d hd
      rw [Bool.eq_false_iff]
      intro he
      obtain ⟨i, hi⟩ := List.getElem?_of_mem hd
      rw [List.getElem?_take] at hi
      split at hi
      · rename_i hik
        have := h1 i k d _ hi (List.getElem?_eq_getElem hkl) (isE_iff.1 he).1 h3 (isE_iff.1 he).2
        omega
      · cases hi
    · rename_i h3
      rw [bne_iff_ne]
      exact h2 _ (List.getElem_mem _) ((hk _ (List.getElem_mem _)).resolve_left h3)
/-- Of unlike calls no end is another one's begin. -/
theorem step_apart {ts : List Int} {n : Nat} {cs cs' : List Cl} {x : Ev} (h : Tidy n cs) (ha : ∀ c ∈ cs, ∀ d ∈ cs, c.til ≠ d.frm) (hs : step ts n cs x = .inr cs') : ∀ c ∈ cs', ∀ d ∈ cs', c.til ≠ d.frm := by
  unfold step at hs
  split at hs
  · cases hs
  split at hs
  · unfold respS at hs
    split at hs
    · cases hs
    rename_i ho
    split at hs
    · cases hs
    injection hs with hs
    subst hs
    obtain ⟨e, e1, e2, e3, e4⟩ := openOf_at (cs := cs) (who := x.who) (by omega)
    have hg : cs.getD (openOf cs x.who).toNat default = e := by rw [List.getD_eq_getElem?_getD, e1]; rfl
    rw [hg]
    have hem := List.mem_of_getElem? e1
    intro c hc d hd
    have hdf : ∃ d0 ∈ cs, d.frm = d0.frm := by
      rcases List.mem_or_eq_of_mem_set hd with hd | rfl
      · exact ⟨d, hd, rfl⟩
      · exact ⟨e, hem, rfl⟩
    obtain ⟨d0, hd0, hdf⟩ := hdf
    rw [hdf]
    rcases List.mem_or_eq_of_mem_set hc with hc | rfl
    · exact ha c hc d0 hd0
    · show (n : Int) ≠ d0.frm
      have := (h d0 hd0).2.1
      omega
  · unfold invS at hs
    split at hs
    · cases hs
    split at hs
    · cases hs
    injection hs with hs
    subst hs
    intro c hc d hd
    rcases List.mem_append.1 hc with hc | hc
    · rcases List.mem_append.1 hd with hd | hd
      · exact ha c hc d hd
      · rw [List.mem_singleton] at hd
        subst hd
        show c.til ≠ (n : Int)
        have := (h c hc).1
        omega
    · rw [List.mem_singleton] at hc
      subst hc
      show (-1 : Int) ≠ d.frm
      rcases List.mem_append.1 hd with hd | hd
      · have := (h d hd).2.2.1
        omega
      · rw [List.mem_singleton] at hd
        subst hd
        show (-1 : Int) ≠ (n : Int)
        omega
theorem calls_apart {ts : List Int} {l : List Ev} (h : (callsOf ts l).2.2 = 0) : ∀ c ∈ (callsOf ts l).1, ∀ d ∈ (callsOf ts l).1, c.til ≠ d.frm := by
  obtain ⟨_, _, e⟩ := calls_zero h
  rw [e] at h ⊢
  have key : ∀ (r : List Ev) (n : Nat) (cs : List Cl), Tidy n cs → (∀ c ∈ cs, ∀ d ∈ cs, c.til ≠ d.frm) → (run ts n cs r).2.2 = 0 → ∀ c ∈ (run ts n cs r).1, ∀ d ∈ (run ts n cs r).1, c.til ≠ d.frm := by
    intro r
    induction r with
    | nil => intro n cs _ h _; exact h
    | cons x r ih =>
      intro n cs h h1 h2
      rw [run] at h2 ⊢
      cases hs : step ts n cs x with
      | inl e => rw [hs] at h2; exact absurd h2 (step_err hs)
      | inr cs' =>
        rw [hs] at h2
        exact ih (n + 1) cs' (step_tidy h hs) (step_apart h h1 hs) h2
  exact key l 0 [] (fun c hc => by simp at hc) (fun c hc => by simp at hc) h
theorem rowsE_calls {l : List Ev} (h : rowsE l = 0) : (callsOf [2] l).2.2 = 0 ∧ okQ (callsOf [2] l).1 = true := by
  unfold rowsE at h
  split at h
  · rename_i h1; exact absurd h h1
  · rename_i h1
    split at h
    · rename_i h2; exact ⟨Classical.byContradiction h1, h2⟩
    · cases h
theorem que_34 {c : Cl} (hk : CallOk [2] c) : c.kind = 3 ∨ c.kind = 4 := by
  rcases que_kind hk with h | h
  · exact .inl h.1
  · exact .inr h.1
theorem rowsE_que {l : List Ev} (h : rowsE l = 0) : QueH l.length (callsOf [2] l).1 := by
  obtain ⟨h1, h2⟩ := rowsE_calls h
  obtain ⟨h3, h4⟩ := calls_orderly h1
  obtain ⟨h5, h6⟩ := (okQ_iff fun c hc => que_34 (calls_callOk h1 c hc)).1 h2
  exact ⟨h3, h4, calls_callOk h1, calls_gives h1, h5, h6, calls_apart h1⟩
/-- How many there are: no more than events. -/
theorem calls_lenQ {ts : List Int} {l : List Ev} (h : (callsOf ts l).2.2 = 0) : (callsOf ts l).1.length ≤ 200 := by
  obtain ⟨_, h2, e⟩ := calls_zero h
  rw [e]
  have := run_len (ts := ts) l 0 []
  simp at this
  omega
/-- What is answered by one that takes. -/
theorem que_res {l : List Ev} (h : (callsOf [2] l).2.2 = 0) {c : Cl} (hc : c ∈ (callsOf [2] l).1) (hk : c.kind = 4) : -1 ≤ c.res ∧ c.res ≤ 1000 := by
  by_cases ht : c.til = -1
  · have := ((calls_orderly h).1.tidy c hc).2.2.2 ht
    omega
  · have := calls_gives h c hc ht
    rw [hk] at this
    unfold givesB at this
    rw [if_neg (by simp), if_pos (by simp), Bool.or_eq_true, beq_iff_eq, btw_iff] at this
    omega
end Go.Proofs.Ythjmncngegchjaa

/-
  Numbers as keys of a map.
-/
namespace Go.Proofs.Ythjmncngegchjaa
open Go.RowKit Go.Maps
set_option maxRecDepth 20000
theorem keyed_int : Keyed Try.prog 3 := int_keyed Try.underlying3
theorem key_int {k : Int} (h0 : -1000000 ≤ k) (h1 : k ≤ 1000000) : keyOf Try.prog 3 (.int .i64 k) = some (.int .i64 k) := by
  simp [keyOf, Try.underlying3, mapKey]
  exact WalkArith.wf_i64 (by omega)
end Go.Proofs.Ythjmncngegchjaa

/-
  Rows of numbers, told apart.
-/
namespace Go.Proofs.Ythjmncngegchjaa
open Go.RowKit Go.Maps
open Go.ChangeShapes (lits)
set_option maxRecDepth 20000
theorem lits_inj {H : Type} {q : IntKind} : ∀ {a b : List Int}, lits (H := H) q a = lits q b → a = b
  | [], [], _ => rfl
  | [], y :: b, h => by simp [lits] at h
  | x :: a, [], h => by simp [lits] at h
  | x :: a, y :: b, h => by
    simp only [lits, List.map_cons, List.cons.injEq] at h
    have h1 := h.1
    injection h1 with h1
    injection h1 with h2 h3
    rw [h3, lits_inj (H := H) (q := q) (a := a) (b := b) h.2]
end Go.Proofs.Ythjmncngegchjaa

/-
  A map from numbers to numbers.
-/
namespace Go.Proofs.Ythjmncngegchjaa
open Go.RowKit Go.Maps
open Go.ChangeShapes (lits)
set_option maxRecDepth 20000
def nuDat (r : Int) : DataW Unit := .slice (lits .i64 [r]) []
def nuR : Value → Option (DataW Unit × List MemPlace)
  | .int .i64 x => some (nuDat x, [])
  | _ => none
theorem nuR_mk (x : Int) : nuR (.int .i64 x) = some (nuDat x, []) := rfl
theorem nuDat_inj {a b : Int} (h : nuDat a = nuDat b) : a = b := by
  unfold nuDat at h
  injection h with h
  have := lits_inj h
  injection this with h1 _
theorem nuR_inv {v : Value} {d : DataW Unit} {ps : List MemPlace} (h : nuR v = some (d, ps)) : ∃ x, v = .int .i64 x ∧ d = nuDat x := by
  unfold nuR at h
  split at h
  · rename_i x
    injection h with h
    injection h with h1 h2
    exact ⟨x, rfl, h1.symm⟩
  · cases h
/-- Block b is a map of at most n numbers. -/
def NMap (w : World) (b n : Nat) (F : Int → Option Int) : Prop :=
  ∃ D : DataW Unit, w.ownsMap Try.prog 3 nuR b n D ∧ ∀ k : Int, has D (.int .i64 k) = (F k).isSome ∧ ∀ r, F k = some r → ∀ zd, D.atKey (.int .i64 k) zd = nuDat r
theorem NMap.made (w : World) : NMap (w.alloc (.map #[] 0)) w.heap.size 0 (fun _ => none) := ⟨_, World.ownsMap_made w _ _ _, fun _ => ⟨rfl, fun r h => by cases h⟩⟩
theorem NMap.lt {w : World} {b n : Nat} {F : Int → Option Int} (h : NMap w b n F) : b < w.heap.size := by
  obtain ⟨D, h, _⟩ := h
  exact h.lt
theorem NMap.keep {w w' : World} {b n : Nat} {F : Int → Option Int} (h : NMap w b n F) (e : w'.heap[b]? = w.heap[b]?) : NMap w' b n F := by
  obtain ⟨D, ⟨es, clock, h1, h2, h3, h4⟩, h5⟩ := h
  exact ⟨D, ⟨es, clock, e.trans h1, h2, h3, h4⟩, h5⟩
theorem NMap.below {w w' : World} {b n : Nat} {F : Int → Option Int} (h : NMap w b n F) (hb : Below w.heap.size w w') : NMap w' b n F := h.keep (hb.block b h.lt)
theorem zero_num (w : World) : (zeroValue 3).run Try.prog w = .ok (.int .i64 0) w := by kernel_rfl
theorem NMap.look {w : World} {ops : Array Oper} {rest : List Oper} {o : Oper} {a : Act} {Q : Exit → Act → World → Prop} (hg : o.guard = none) (m x : Operand) (hop : o.op = Op.lookup 74 m x true)
    {b n : Nat} {F : Int → Option Int} (h : NMap w b n F) (k : Int) (h0 : -1000000 ≤ k) (h1 : k ≤ 1000000) (hm : a.eval m = .map (some b)) (hx : a.eval x = .int .i64 k)
    (hK : ∀ r : Int, ((F k).isSome = true → F k = some r) → wpList Try.prog ops Q rest (a.put o.dst (.tuple #[.int .i64 r, .bool (F k).isSome])) w) : wpList Try.prog ops Q (o :: rest) a w := by
  obtain ⟨D, h, h2⟩ := h
  refine wpList_lookup_own_ok w hg m x 74 hop 3 3 keyed_int Try.underlying74 nuR (zero_num w) (nuDat 0) [] rfl b n D hm h _ _ hx (key_int h0 h1) fun v ps hv => ?_
  obtain ⟨r, rfl, hd⟩ := nuR_inv hv
  rw [(h2 k).1]
  refine hK r fun hs => ?_
  cases hF : F k with
  | none => rw [hF] at hs; cases hs
  | some y =>
    rw [(h2 k).2 y hF] at hd
    rw [nuDat_inj hd]
theorem NMap.put {w : World} {ops : Array Oper} {rest : List Oper} {o : Oper} {a : Act} {Q : Exit → Act → World → Prop} (hg : o.guard = none) (m x v : Operand) (hop : o.op = Op.mapUpdate 74 m x v)
    {b n : Nat} {F : Int → Option Int} (h : NMap w b n F) (k r : Int) (h0 : -1000000 ≤ k) (h1 : k ≤ 1000000) (hn : n ≤ 1000000000000) (hm : a.eval m = .map (some b)) (hx : a.eval x = .int .i64 k) (hv : a.eval v = .int .i64 r)
    (hK : ∀ w', NMap w' b (n + 1) (fun c => if c = k then some r else F c) → w.grownBy w' (some b) → wpList Try.prog ops Q rest (a.put o.dst undef) w') : wpList Try.prog ops Q (o :: rest) a w := by
  obtain ⟨D, h, h2⟩ := h
  refine wpList_mapUpdate_own w hg m x v 74 hop 3 3 keyed_int Try.underlying74 nuR b n D hm h (by unfold maxLen; omega) _ _ _ hx hv (key_int h0 h1) _ [] (nuR_mk r) (fun w' h3 h4 => hK w' ⟨_, h3, fun c => ?_⟩ h4)
  by_cases e : c = k
  · subst e
    simp only [if_true]
    refine ⟨has_put_same h.isMap (by first | exact trivial | decide | simp [WideAt.IsKeyLit]) _, fun y hy zd => ?_⟩
    injection hy with hy
    subst hy
    exact atKey_put_same (k := .int .i64 c) h.isMap (by first | exact trivial | decide | simp [WideAt.IsKeyLit]) _ _
  · simp only [e, if_false]
    have hne : (Lit.int .i64 k) ≠ .int .i64 c := fun h5 => e (Eq.symm (by injection h5))
    refine ⟨(has_put_other hne.symm _).trans (h2 c).1, fun y hy zd => ?_⟩
    rw [atKey_put_other hne.symm]
    exact (h2 c).2 y hy zd
end Go.Proofs.Ythjmncngegchjaa

/-
  Words for memory: a block that is known whole.
-/
namespace Go.Proofs.Ythjmncngegchjaa
open Go.RowKit
set_option maxRecDepth 20000
/-- Block g of w: the cells cs, of type t, none of them frozen. -/
def Lies (w : World) (g : Nat) (t : TypeId) (cs : Array Value) : Prop := w.heap[g]? = some (.cells cs t (0, 0))
section
variable {w w' : World} {g : Nat} {t : TypeId} {cs : Array Value}
/-- It still lies there, wherever the heap has the same block. -/
theorem Lies.keep (h : Lies w g t cs) (e : w'.heap[g]? = w.heap[g]?) : Lies w' g t cs := by
  show w'.heap[g]? = _
  rw [e]
  exact h
theorem Lies.lt (h : Lies w g t cs) : g < w.heap.size := (Array.getElem?_eq_some_iff.1 h).1
theorem Lies.below {B : Nat} (h : Lies w g t cs) (hb : Below B w w') (hg : g < B) : Lies w' g t cs := h.keep (hb.block g hg)
theorem Lies.alloc (h : Lies w g t cs) (o : Obj) : Lies (w.alloc o) g t cs := h.below ((Below.refl _ _).alloc (Nat.le_refl _) o) h.lt
theorem Lies.far (h : Lies w g t cs) {p : Addr} (hp : g ≠ p.block) (u : Value) : Lies (w.setCell p u) g t cs := h.keep (Below.heap_setCell w p u g hp)
theorem Lies.drew (h : Lies w g t cs) : Lies w.drew g t cs := h.keep rfl
theorem Lies.new (w : World) (t : TypeId) (cs : Array Value) : Lies (w.alloc (.cells cs t)) w.heap.size t cs := by
  show (w.heap.push _)[w.heap.size]? = _
  simp
theorem Lies.cell (h : Lies w g t cs) (i : Nat) : w.cell? ⟨g, i, none⟩ = cs[i]? := cell_of_row w g i cs t (0, 0) h
theorem Lies.frozen (h : Lies w g t cs) (i : Nat) : w.frozen? ⟨g, i, none⟩ = false := by
  have h' : w.heap[g]? = some (.cells cs t (0, 0)) := h
  simp [World.frozen?, h']
theorem Lies.set_ (h : Lies w g t cs) (i : Nat) (u : Value) : Lies (w.setCell ⟨g, i, none⟩ u) g t (cs.setIfInBounds i u) := by
  have h' : w.heap[g]? = some (.cells cs t (0, 0)) := h
  simp [Lies, World.setCell, Array.getElem?_modify, h']
theorem Lies.cast {cs' : Array Value} (h : Lies w g t cs) (e : cs = cs') : Lies w g t cs' := by rw [← e]; exact h
end
theorem belowN {B : Nat} {a w : World} (h : Below B a w) (n : Nat) : Below B a (w.drewN n) := ⟨h.os, h.tape, h.output, h.size, h.block⟩
theorem Lies.drewN {w : World} {g : Nat} {t : TypeId} {cs : Array Value} (h : Lies w g t cs) (n : Nat) : Lies (w.drewN n) g t cs := h
/-- The cells of a block that was just made. -/
theorem new_cells (W : World) (t : TypeId) (l : List Value) : ∀ j u, l[j]? = some u → (W.alloc (.cells l.toArray t)).cell? ⟨W.heap.size, j, none⟩ = some u := by
  intro j u hu
  rw [Lies.cell (Lies.new W t l.toArray)]
  simpa using hu
theorem quiet_left {P : Program} {f : FuncId} {args : Array Value} {w : World} {n : Nat} {v : Value}
    (h : Calls P f args (w.drewN n) fun e w' => e = .returned v ∧ w.drewN n = w') : Calls P f args (w.drewN n) fun e w'' => e = .returned v ∧ ∃ m, w'' = w.drewN m :=
  h.mono fun _ _ ⟨he, hm⟩ => ⟨he, n, hm.symm⟩
theorem ret_bool {a b : Bool} (h : a = b) : Ending.returned (.bool a) = .returned (.bool b) := by rw [h]
end Go.Proofs.Ythjmncngegchjaa

/-
  Slices that read as a list of things of s cells each: events, calls, numbers.
-/
namespace Go.Proofs.Ythjmncngegchjaa
open Go.RowKit
set_option maxRecDepth 20000
abbrev intCs (x : Int) : List Value := [.int .i64 x]
abbrev evCs (x : Ev) : List Value := [.int .i64 x.who, .int .i64 x.thing, .int .i64 x.kind, .int .i64 x.val]
abbrev clCs (c : Cl) : List Value := [.int .i64 c.who, .int .i64 c.thing, .int .i64 c.kind, .int .i64 c.arg, .int .i64 c.res, .int .i64 c.frm, .int .i64 c.til]
abbrev evV (x : Ev) : Value := .agg #[.int .i64 x.who, .int .i64 x.thing, .int .i64 x.kind, .int .i64 x.val]
abbrev clV (c : Cl) : Value := .agg #[.int .i64 c.who, .int .i64 c.thing, .int .i64 c.kind, .int .i64 c.arg, .int .i64 c.res, .int .i64 c.frm, .int .i64 c.til]
/-- The value v is a slice that reads as the list l, each of s cells, in a block below B. -/
def LRd {α : Type} (s : Nat) (f : α → List Value) (w : World) (B : Nat) (v : Value) (l : List α) : Prop :=
  ∃ A cap, v = .slice A l.length cap ∧ l.length ≤ cap ∧ cap ≤ maxLen ∧ (0 < l.length → ∃ g o, A = some ⟨g, o, none⟩ ∧ g < B ∧ ∀ k x, l[k]? = some x → ∀ j u, (f x)[j]? = some u → w.cell? ⟨g, o + k * s + j, none⟩ = some u)
section
variable {α : Type} {s : Nat} {f : α → List Value} {w w' : World} {B B' : Nat} {v : Value} {l : List α}
theorem LRd.below (h : LRd s f w B v l) (hb : Below B w w') : LRd s f w' B v l := by
  obtain ⟨A, cap, hv, h0, h1, h2⟩ := h
  refine ⟨A, cap, hv, h0, h1, fun h0 => ?_⟩
  obtain ⟨g, o, hA, hg, hc⟩ := h2 h0
  exact ⟨g, o, hA, hg, fun k x hk j u hu => (hb.cell (p := ⟨g, o + k * s + j, none⟩) hg).trans (hc k x hk j u hu)⟩
theorem LRd.mono (h : LRd s f w B v l) (hB : B ≤ B') : LRd s f w B' v l := by
  obtain ⟨A, cap, hv, h0, h1, h2⟩ := h
  refine ⟨A, cap, hv, h0, h1, fun h0 => ?_⟩
  obtain ⟨g, o, hA, hg, hc⟩ := h2 h0
  exact ⟨g, o, hA, by omega, hc⟩
theorem LRd.is (h : LRd s f w B v l) : ∃ A cap, v = .slice A l.length cap ∧ l.length ≤ cap ∧ cap ≤ maxLen := by
  obtain ⟨A, cap, hv, h0, h1, h2⟩ := h
  exact ⟨A, cap, hv, h0, h1⟩
theorem LRd.at_ {A : Option Addr} {n cap : Nat} (h : LRd s f w B (.slice A n cap) l) {k : Nat} {x : α} (hk : l[k]? = some x) :
    ∃ g o, A = some ⟨g, o, none⟩ ∧ g < B ∧ ∀ j u, (f x)[j]? = some u → w.cell? ⟨g, o + k * s + j, none⟩ = some u := by
  obtain ⟨A', cap', hv, h0, h1, h2⟩ := h
  injection hv with hv1 hv2 hv3
  subst hv1
  obtain ⟨g, o, hA, hg, hc⟩ := h2 (by have := (List.getElem?_eq_some_iff.1 hk).1; omega)
  exact ⟨g, o, hA, hg, hc k x hk⟩
theorem LRd.nil (w : World) (B : Nat) : LRd s f w B (.slice none 0 0) ([] : List α) := ⟨none, 0, rfl, Nat.le_refl _, Nat.zero_le _, fun h => by simp at h⟩
theorem LRd.take_ {A : Option Addr} {m cap : Nat} (h : LRd s f w B (.slice A m cap) l) {n : Nat} (hn : n ≤ l.length) : LRd s f w B (.slice A n cap) (l.take n) := by
  obtain ⟨A', cap', hv, h0, h1, h2⟩ := h
  injection hv with hv1 hv2 hv3
  subst hv1
  subst hv3
  have e : (l.take n).length = n := by rw [List.length_take]; omega
  refine ⟨A, cap, by rw [e], by omega, h1, fun hp => ?_⟩
  obtain ⟨g, o, hA, hg, hc⟩ := h2 (by omega)
  refine ⟨g, o, hA, hg, fun k x hk => hc k x ?_⟩
  rw [List.getElem?_take] at hk
  split at hk
  · exact hk
  · cases hk
theorem flat_at (hf : ∀ x, (f x).length = s) : ∀ {l : List α} {k : Nat} {x : α}, l[k]? = some x → ∀ {j : Nat} {u : Value}, (f x)[j]? = some u → (l.flatMap f)[k * s + j]? = some u
  | [], k, x, h, _, _, _ => by simp at h
  | y :: r, 0, x, h, j, u, hu => by
    simp at h
    subst h
    rw [List.flatMap_cons, List.getElem?_append, if_pos (by have := (List.getElem?_eq_some_iff.1 hu).1; omega), Nat.zero_mul, Nat.zero_add]
    exact hu
  | y :: r, k + 1, x, h, j, u, hu => by
    have h' : r[k]? = some x := by simpa using h
    have hj := (List.getElem?_eq_some_iff.1 hu).1
    have e : (k + 1) * s + j - (f y).length = k * s + j := by rw [hf y, Nat.add_mul]; omega
    rw [List.flatMap_cons, List.getElem?_append, if_neg (by rw [hf y, Nat.add_mul]; omega), e]
    exact flat_at (l := r) hf h' hu
theorem flat_len (hf : ∀ x, (f x).length = s) : ∀ l : List α, (l.flatMap f).length = l.length * s
  | [] => by simp
  | y :: r => by rw [List.flatMap_cons, List.length_append, flat_len hf r, hf y, List.length_cons, Nat.add_mul]; omega
/-- What is left behind the first k of it. -/
theorem LRd.drop_ {g o n cap : Nat} (h : LRd s f w B (.slice (some ⟨g, o, none⟩) n cap) l) {k : Nat} (hk : k ≤ n) : LRd s f w B (.slice (some ⟨g, o + k * s, none⟩) (n - k) (cap - k)) (l.drop k) := by
  obtain ⟨A', cap', hv, h0, h1, h2⟩ := h
  injection hv with hv1 hv2 hv3
  subst hv2
  subst hv3
  have e : (l.drop k).length = l.length - k := List.length_drop
  refine ⟨_, _, by rw [e], by omega, by unfold maxLen at *; omega, fun hp => ?_⟩
  obtain ⟨g', o', hA, hg, hc⟩ := h2 (by omega)
  rw [← hv1] at hA
  injection hA with hA
  injection hA with hA1 hA2
  subst hA1
  subst hA2
  refine ⟨g, _, rfl, hg, fun i x hi j u hu => ?_⟩
  rw [List.getElem?_drop] at hi
  have := hc _ _ hi j u hu
  rw [Nat.add_mul, ← Nat.add_assoc] at this
  exact this
/-- A row of the call's own reads as its list. -/
theorem LRd.of_own {base : Nat} {t : TypeId} (hf : ∀ x, (f x).length = s) (h : w.ownsRow base t s v l.length (l.flatMap f)) : LRd s f w w.heap.size v l := by
  rcases h.2 with ⟨rfl, h0⟩ | ⟨g, cap, cur, rfl, h1, h2, h3, h4, h5, h6⟩
  · exact ⟨none, 0, by rw [h0], by omega, Nat.zero_le _, fun h => by omega⟩
  · refine ⟨_, cap, rfl, h3, h4, fun _ => ⟨g, 0, rfl, ?_, fun k x hk j u hu => ?_⟩⟩
    · exact (Array.getElem?_eq_some_iff.1 h2).1
    · have hkl := (List.getElem?_eq_some_iff.1 hk).1
      have hjl : j < s := by have := (List.getElem?_eq_some_iff.1 hu).1; rw [hf x] at this; exact this
      have hlt : k * s + j < l.length * s := by
        have : (k + 1) * s ≤ l.length * s := Nat.mul_le_mul_right s hkl
        rw [Nat.add_mul] at this
        omega
      rw [Nat.zero_add, World.ownsRow.cellAt h (k * s + j) hlt]
      exact flat_at (l := l) hf hk hu
/-- A block of exactly these cells reads as the list. -/
theorem LRd.of_lit (hf : ∀ x, (f x).length = s) (t : TypeId) {cs : Array Value} (hcs : cs.toList = l.flatMap f) {n : Nat} (hn : n = l.length) (hm : n ≤ maxLen) :
    LRd s f (w.alloc (.cells cs t)) (w.heap.size + 1) (.slice (some ⟨w.heap.size, 0, none⟩) n n) l := by
  subst hn
  refine ⟨_, _, rfl, Nat.le_refl _, hm, fun _ => ⟨_, 0, rfl, by omega, fun k x hk j u hu => ?_⟩⟩
  rw [Nat.zero_add, cell_of_row _ _ _ cs t (0, 0) (heap_alloc_new w _)]
  have h1 := flat_at (l := l) hf hk hu
  rw [← hcs] at h1
  simpa using h1
end
abbrev ERd (w : World) (B : Nat) (v : Value) (l : List Ev) : Prop := LRd 4 evCs w B v l
abbrev CRd (w : World) (B : Nat) (v : Value) (l : List Cl) : Prop := LRd 7 clCs w B v l
abbrev NRd (w : World) (B : Nat) (v : Value) (l : List Int) : Prop := LRd 1 intCs w B v l
/-- A slice of the call's own (in blocks from B on) that holds these calls; these events. -/
def COwn (w : World) (B : Nat) (v : Value) (l : List Cl) : Prop := w.ownsRow B 49 7 v l.length (l.flatMap clCs)
def EOwn (w : World) (B : Nat) (v : Value) (l : List Ev) : Prop := w.ownsRow B 52 4 v l.length (l.flatMap evCs)
theorem COwn.rd {w : World} {B : Nat} {v : Value} {l : List Cl} (h : COwn w B v l) : CRd w w.heap.size v l := LRd.of_own (fun _ => rfl) h
theorem EOwn.rd {w : World} {B : Nat} {v : Value} {l : List Ev} (h : EOwn w B v l) : ERd w w.heap.size v l := LRd.of_own (fun _ => rfl) h
section
variable {w : World} {B : Nat} {A : Option Addr} {n cap k : Nat}
theorem LRd.ev {l : List Ev} (h : ERd w B (.slice A n cap) l) {x : Ev} (hk : l[k]? = some x) : ∃ g o, A = some ⟨g, o, none⟩ ∧ g < B ∧ w.cell? ⟨g, o + k * 4, none⟩ = some (.int .i64 x.who) ∧ w.cell? ⟨g, o + k * 4 + 1, none⟩ = some (.int .i64 x.thing) ∧ w.cell? ⟨g, o + k * 4 + 2, none⟩ = some (.int .i64 x.kind) ∧ w.cell? ⟨g, o + k * 4 + 3, none⟩ = some (.int .i64 x.val) := by
  obtain ⟨g, o, hA, hg, hc⟩ := LRd.at_ h hk
  exact ⟨g, o, hA, hg, hc 0 _ rfl, hc 1 _ rfl, hc 2 _ rfl, hc 3 _ rfl⟩
theorem LRd.cl {l : List Cl} (h : CRd w B (.slice A n cap) l) {x : Cl} (hk : l[k]? = some x) : ∃ g o, A = some ⟨g, o, none⟩ ∧ g < B ∧ w.cell? ⟨g, o + k * 7, none⟩ = some (.int .i64 x.who) ∧ w.cell? ⟨g, o + k * 7 + 1, none⟩ = some (.int .i64 x.thing) ∧ w.cell? ⟨g, o + k * 7 + 2, none⟩ = some (.int .i64 x.kind) ∧ w.cell? ⟨g, o + k * 7 + 3, none⟩ = some (.int .i64 x.arg) ∧ w.cell? ⟨g, o + k * 7 + 4, none⟩ = some (.int .i64 x.res) ∧ w.cell? ⟨g, o + k * 7 + 5, none⟩ = some (.int .i64 x.frm) ∧ w.cell? ⟨g, o + k * 7 + 6, none⟩ = some (.int .i64 x.til) := by
  obtain ⟨g, o, hA, hg, hc⟩ := LRd.at_ h hk
  exact ⟨g, o, hA, hg, hc 0 _ rfl, hc 1 _ rfl, hc 2 _ rfl, hc 3 _ rfl, hc 4 _ rfl, hc 5 _ rfl, hc 6 _ rfl⟩
theorem LRd.num {l : List Int} (h : NRd w B (.slice A n cap) l) {x : Int} (hk : l[k]? = some x) : ∃ g o, A = some ⟨g, o, none⟩ ∧ g < B ∧ w.cell? ⟨g, o + k, none⟩ = some (.int .i64 x) := by
  obtain ⟨g, o, hA, hg, hc⟩ := LRd.at_ h hk
  have := hc 0 _ rfl
  rw [Nat.mul_one] at this
  exact ⟨g, o, hA, hg, this⟩
end
end Go.Proofs.Ythjmncngegchjaa

/-
  What can't be, in memory.
-/
namespace Go.Proofs.Ythjmncngegchjaa
open Go.RowKit
set_option maxRecDepth 20000
abbrev bzV (x : Bz) : Value := .agg #[.int .i64 x.kind, .int .i64 x.a, .int .i64 x.b]
abbrev bzCs (x : Bz) : List Value := [.int .i64 x.kind, .int .i64 x.a, .int .i64 x.b]
abbrev BzRd (w : World) (B : Nat) (v : Value) (l : List Bz) : Prop := LRd 3 bzCs w B v l
section
variable {w : World} {B : Nat} {A : Option Addr} {n cap k : Nat}
theorem bz_at {l : List Bz} (h : BzRd w B (.slice A n cap) l) {x : Bz} (hk : l[k]? = some x) : ∃ g o, A = some ⟨g, o, none⟩ ∧ g < B ∧ w.cell? ⟨g, o + k * 3, none⟩ = some (.int .i64 x.kind) ∧ w.cell? ⟨g, o + k * 3 + 1, none⟩ = some (.int .i64 x.a) ∧ w.cell? ⟨g, o + k * 3 + 2, none⟩ = some (.int .i64 x.b) := by
  obtain ⟨g, o, hA, hg, hc⟩ := LRd.at_ h hk
  exact ⟨g, o, hA, hg, hc 0 _ rfl, hc 1 _ rfl, hc 2 _ rfl⟩
end
end Go.Proofs.Ythjmncngegchjaa

/-
  Two, three, four cells of a block, filled anew.
-/
namespace Go.Proofs.Ythjmncngegchjaa
open Go.RowKit
set_option maxRecDepth 20000
abbrev fill3 (w : World) (g : Nat) (a b c : Value) : World := ((w.setCell ⟨g, 0, none⟩ a).setCell ⟨g, 1, none⟩ b).setCell ⟨g, 2, none⟩ c
abbrev fill4 (w : World) (g : Nat) (a b c d : Value) : World := (((w.setCell ⟨g, 0, none⟩ a).setCell ⟨g, 1, none⟩ b).setCell ⟨g, 2, none⟩ c).setCell ⟨g, 3, none⟩ d
abbrev fill2 (w : World) (g : Nat) (a b : Value) : World := (w.setCell ⟨g, 0, none⟩ a).setCell ⟨g, 1, none⟩ b
section
variable {w w0 : World} {g B : Nat} {t : TypeId} {a b c d : Value}
theorem fill2_lies {x y : Value} (h : Lies w g t #[x, y]) : Lies (fill2 w g a b) g t #[a, b] := Lies.cast (Lies.set_ (Lies.set_ h 0 a) 1 b) (by simp)
theorem fill3_lies {x y z : Value} (h : Lies w g t #[x, y, z]) : Lies (fill3 w g a b c) g t #[a, b, c] := Lies.cast (Lies.set_ (Lies.set_ (Lies.set_ h 0 a) 1 b) 2 c) (by simp)
theorem fill4_lies {x y z u : Value} (h : Lies w g t #[x, y, z, u]) : Lies (fill4 w g a b c d) g t #[a, b, c, d] := Lies.cast (Lies.set_ (Lies.set_ (Lies.set_ (Lies.set_ h 0 a) 1 b) 2 c) 3 d) (by simp)
theorem fill2_below (h : Below B w0 w) (hg : B ≤ g) : Below B w0 (fill2 w g a b) := (h.setCell (p := ⟨g, 0, none⟩) hg _).setCell (p := ⟨g, 1, none⟩) hg _
theorem fill3_below (h : Below B w0 w) (hg : B ≤ g) : Below B w0 (fill3 w g a b c) := ((h.setCell (p := ⟨g, 0, none⟩) hg _).setCell (p := ⟨g, 1, none⟩) hg _).setCell (p := ⟨g, 2, none⟩) hg _
theorem fill4_below (h : Below B w0 w) (hg : B ≤ g) : Below B w0 (fill4 w g a b c d) := (((h.setCell (p := ⟨g, 0, none⟩) hg _).setCell (p := ⟨g, 1, none⟩) hg _).setCell (p := ⟨g, 2, none⟩) hg _).setCell (p := ⟨g, 3, none⟩) hg _
end
end Go.Proofs.Ythjmncngegchjaa
