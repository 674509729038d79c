/-
  Joined by a program out of: AppEv, CloneEv, PlacePure, SLaterP, LinIdx.
-/
import Derived.Test.YtecpjeililiafaaDoorMgAC
import Derived.Deep.DeepAppendWide
import Derived.Lib.AppendZeros
import Derived.Lib.SliceRun
import Derived.Test.YtecpjeililiafaaDoorMgAB
import Derived.Test.YtecpjeililiafaaDoorMgAW
import Derived.Test.YtecpjeililiafaaDoorMgAZ
import Derived.Test.YtecpjeililiafaaDoorMgAH
import Derived.Test.YtecpjeililiafaaDoorMgAU

/-
  append(s, x): events.
-/
namespace Go.Proofs.YtecpjeililiafaaDoor
open Go.RowKit
set_option maxRecDepth 20000

theorem info_ev : (Tryd.prog.info? 77).map (fun i => (i.zero, i.size, i.bytes)) = some (some (evV default), 4, 32) := by kernel_rfl
theorem EOwn.then_ {w w' : World} {B : Nat} {v : Value} {l : List Ev} (h : EOwn w B v l) (hb : Below w.heap.size w w') : EOwn w' B v l :=
  World.ownsRow.kept h (row := none) ⟨hb.os, hb.tape, hb.output, hb.size, fun k hk _ => hb.block k hk⟩ (by
    cases hv : v.ownBlock with
    | none => exact .inl rfl
    | some k => exact .inr (by simp))
theorem EOwn.alloc {w : World} {B : Nat} {v : Value} {l : List Ev} (h : EOwn w B v l) (o : Obj) : EOwn (w.alloc o) B v l := World.ownsRow.alloc h o
theorem run_app_ev {W : World} {base G : Nat} {v : Value} {l : List Ev} {y : Ev} (ty : TypeId) (hown : EOwn W base v l) (hG : ∀ j u, (evCs y)[j]? = some u → W.cell? ⟨G, j, none⟩ = some u) (hlen : l.length ≤ 65536) (hbase : base ≤ W.heap.size) :
    ∃ v' w', (Builtin.append_ #[23, 23] ty #[v, .slice (some ⟨G, 0, none⟩) 1 1]).run Tryd.prog W = .ok v' w' ∧ EOwn w' base v' (l ++ [y]) ∧ Below base W w' ∧ W.grownBy w' v.ownBlock := by
  obtain ⟨i0, hi, hz0, hz1, hz2⟩ := info_of info_ev
  have hl := World.ownsRow.lt hown
  obtain ⟨v', w', hr, h2, h3, _⟩ := run_append_own (P := Tryd.prog) W base 23 ty 77 i0 (evV default) 4 32 Tryd.underlying23 hi hz0 hz1 hz2 rfl (by decide) v l.length (l.flatMap evCs) hown
    ⟨G, 0, none⟩ 1 1 (evCs y) rfl (fun j u hu => by
      rw [Addr.add_lit, Nat.zero_add]
      exact hG j u hu) (fun u hu => by
      simp only [List.mem_cons, List.not_mem_nil, or_false] at hu
      rcases hu with rfl | rfl | rfl | rfl <;> rfl) (by unfold maxLen; omega) (by omega) hbase
  refine ⟨v', w', hr, ?_, (Below.refl base W).grown h3 hbase (fun k hk => (hl k hk).1), h3⟩
  unfold EOwn
  rw [List.length_append, List.flatMap_append]
  simpa using h2

theorem own_sliceE {w : World} {B : Nat} {v : Value} {l : List Ev} (h : EOwn w B v l) : ∃ A c, v = .slice A l.length c := by
  obtain ⟨A, c, h, _⟩ := h.rd.is
  exact ⟨A, c, h⟩
theorem wp_app_ev {W : World} {o : Oper} {a : Act} {K : Act → World → Prop} {Q : Exit → Act → World → Prop} (s x : Operand)
    (ho : o.op = .call { callee := .builtin .append, args := #[s, x], argTypes := #[23, 23] })
    (base G : Nat) (v : Value) (l : List Ev) (y : Ev) (hs : a.eval s = v) (hx : a.eval x = .slice (some ⟨G, 0, none⟩) 1 1) (hown : EOwn W base v l) (hG : ∀ j u, (evCs y)[j]? = some u → W.cell? ⟨G, j, none⟩ = some u) (hlen : l.length ≤ 65536) (hbase : base ≤ W.heap.size)
    (h : ∀ v' w', EOwn w' base v' (l ++ [y]) → Below base W w' → W.grownBy w' v.ownBlock → K (a.put o.dst v') w') : Oper.wp Tryd.prog o a W K Q := by
  obtain ⟨v', w', hrun, r1, r2, r3⟩ := run_app_ev o.type hown hG hlen hbase
  unfold Oper.wp
  simp [execOp, ho, resolve, invoke, builtin, hs, hx, hrun, Result.andThen]
  exact h v' w' r1 r2 r3
theorem wpList_app_ev {W : World} {ops : Array Oper} {rest : List Oper} {o : Oper} {a : Act} {Q : Exit → Act → World → Prop} (hgd : o.guard = none) (s x : Operand)
    (ho : o.op = .call { callee := .builtin .append, args := #[s, x], argTypes := #[23, 23] })
    (base G : Nat) (v : Value) (l : List Ev) (y : Ev) (hs : a.eval s = v) (hx : a.eval x = .slice (some ⟨G, 0, none⟩) 1 1) (hown : EOwn W base v l) (hG : ∀ j u, (evCs y)[j]? = some u → W.cell? ⟨G, j, none⟩ = some u) (hlen : l.length ≤ 65536) (hbase : base ≤ W.heap.size)
    (h : ∀ v' w', EOwn w' base v' (l ++ [y]) → Below base W w' → W.grownBy w' v.ownBlock → wpList Tryd.prog ops Q rest (a.put o.dst v') w') : wpList Tryd.prog ops Q (o :: rest) a W :=
  wpList_plain hgd fun _ hK => wp_app_ev s x ho base G v l y hs hx hown hG hlen hbase fun v' w' h1 h2 h3 => hK _ _ (h v' w' h1 h2 h3)
theorem step_app_ev {W : World} {ops : Array Oper} {o : Oper} {a : Act} {K : Act → World → Prop} {Q : Exit → Act → World → Prop} {E : Prop} (hgd : o.guard = none) (s x : Operand)
    (ho : o.op = .call { callee := .builtin .append, args := #[s, x], argTypes := #[23, 23] })
    (base G : Nat) (v : Value) (l : List Ev) (y : Ev) (hs : a.eval s = v) (hx : a.eval x = .slice (some ⟨G, 0, none⟩) 1 1) (hown : EOwn W base v l) (hG : ∀ j u, (evCs y)[j]? = some u → W.cell? ⟨G, j, none⟩ = some u) (hlen : l.length ≤ 65536) (hbase : base ≤ W.heap.size)
    (h : ∀ v' w', EOwn w' base v' (l ++ [y]) → Below base W w' → W.grownBy w' v.ownBlock → K (a.put o.dst v') w') :
    if Region.wanted o (yielded ops a.tmps) = true then Oper.wp Tryd.prog o a W K Q else E := by
  have hw : Region.wanted o (yielded ops a.tmps) = true := by simp [Region.wanted, hgd]
  rw [if_pos hw]
  exact wp_app_ev s x ho base G v l y hs hx hown hG hlen hbase h
end Go.Proofs.YtecpjeililiafaaDoor

/-
  append of events: any slice of such behind a row of one's own; slices.Clone over such.
-/
namespace Go.Proofs.YtecpjeililiafaaDoor
open Go.RowKit
set_option maxRecDepth 20000

theorem EOwn.nil (w : World) (B : Nat) : EOwn w B (.slice none 0 0) [] := World.ownsRow_nil _ _ _ _
theorem EOwn.below {w w' : World} {B : Nat} {v : Value} {l : List Ev} (h : EOwn w B v l) (hb : Below w.heap.size w w') : EOwn w' B v l := by
  refine ⟨h.1, h.2.elim (fun h => .inl h) fun ⟨g, cap, cur, h1, h2, h3, h4, h5, h6, h7⟩ => .inr ⟨g, cap, cur, h1, h2, ?_, h4, h5, h6, h7⟩⟩
  rw [hb.block g (Array.getElem?_eq_some_iff.1 h3).1]
  exact h3

theorem run_app_evs {W : World} {base n cap : Nat} {v : Value} {A : Option Addr} {l ys : List Ev} {B : Nat} (ty : TypeId) (hown : EOwn W base v l) (hr : ERd W B (.slice A n cap) ys) (hlen : ((l.length + ys.length) + (l.length + ys.length) / 4 + 192) * 32 ≤ 281474976710656) (hbase : base ≤ W.heap.size) (hA : A ≠ none) :
    ∃ v' w', (Builtin.append_ #[23, 23] ty #[v, .slice A n cap]).run Tryd.prog W = .ok v' w' ∧ EOwn w' base v' (l ++ ys) ∧ Below base W w' := by
  obtain ⟨i0, hi, hz0, hz1, hz2⟩ := info_of info_ev
  have hl := World.ownsRow.lt hown
  obtain ⟨A', cap', he, m1, m2, hc⟩ := hr
  injection he with e1 e2 e3
  subst e1 e2 e3
  cases A with
  | none => exact absurd rfl hA
  | some a =>
    have hlf : (ys.flatMap evCs).length = ys.length * 4 := flat_len (f := evCs) (s := 4) (fun _ => rfl) ys
    obtain ⟨v', w', hr, h2, h3, _⟩ := run_append_own_wide (P := Tryd.prog) W base 23 ty 77 i0 (evV default) 4 32 Tryd.underlying23 hi hz0 hz1 hz2 rfl (by decide) v l.length (l.flatMap evCs) hown
      a ys.length cap (ys.flatMap evCs) hlf (fun j u hu => by
        have hj := (List.getElem?_eq_some_iff.1 hu).1
        rw [hlf] at hj
        obtain ⟨g, o, ha, _, hcell⟩ := hc (by omega)
        injection ha with ha
        subst ha
        have hx := List.getElem?_eq_getElem (show j / 4 < ys.length by omega)
        have hm : j % 4 < (evCs ys[j / 4]).length := by show j % 4 < 4; omega
        have hf := flat_at (l := ys) (f := evCs) (s := 4) (fun _ => rfl) hx (List.getElem?_eq_getElem hm)
        have e : j / 4 * 4 + j % 4 = j := by omega
        rw [e, hu] at hf
        have := hcell (j / 4) _ hx (j % 4) _ ((List.getElem?_eq_getElem hm).trans hf.symm)
        rw [Addr.add_lit]
        rw [Nat.add_assoc, e] at this
        exact this) (fun u hu => by
        rw [List.mem_flatMap] at hu
        obtain ⟨x, _, hx⟩ := hu
        simp only [List.mem_cons, List.not_mem_nil, or_false] at hx
        rcases hx with rfl | rfl | rfl | rfl <;> rfl) (by unfold maxLen; omega) hlen hbase
    refine ⟨v', w', hr, ?_, (Below.refl base W).grown h3 hbase (fun k hk => (hl k hk).1)⟩
    unfold EOwn
    rw [List.length_append, List.flatMap_append]
    exact h2

set_option maxHeartbeats 1000000 in
theorem cloneE_any {v : Value} {l : List Ev} {w : World} (h : ERd w w.heap.size v l) (hbig : l.length * 32 ≤ 140737488355328) :
    Calls Tryd.prog 53 #[v] w fun e w' => ∃ v', e = .returned v' ∧ EOwn w' w.heap.size v' l ∧ Below w.heap.size w w' := by
  obtain ⟨A, cap, rfl, m1, m2⟩ := h.is
  have hq := fun (W : World) (a : Option Addr) (n cap : Nat) => Lib.run_eql_slice_nil (P := Tryd.prog) W 23 77 a n cap 0 0 Tryd.underlying23
  cases A with
  | none =>
    have hl : l = [] := by
      apply List.length_eq_zero_iff.1
      apply Classical.byContradiction
      intro hp
      obtain ⟨A', cap', hv, h1, h2, h3⟩ := h
      injection hv with e1 e2 e3
      subst e1
      obtain ⟨g, o, hA, _⟩ := h3 (by omega)
      cases hA
    subst hl
    go_enter Tryd.func53, Tryd.ntmps53
    go_wp2
    go_ret
    exact ⟨_, rfl, EOwn.nil _ _, Below.refl _ _⟩
  | some a =>
    have hempty : EOwn (w.alloc (.cells #[] 77)) w.heap.size (.slice (some ⟨w.heap.size, 0, none⟩) 0 0) [] := ⟨rfl, .inr ⟨w.heap.size, 0, #[], rfl, Nat.le_refl _, heap_alloc_new w _, Nat.le_refl _, by unfold maxLen; omega, rfl, rfl⟩⟩
    have hr1 : ERd (w.alloc (.cells #[] 77)) w.heap.size (.slice (some a) l.length cap) l := h.below ((Below.refl _ _).alloc (Nat.le_refl _) _)
    obtain ⟨v1, w1, hrun, ho1, hb1⟩ := run_app_evs 23 hempty hr1 (by simp; omega) (by simp) (by simp)
    rw [List.nil_append] at ho1
    have HO := Lib.hid (And.intro ho1 (((Below.refl w.heap.size w).alloc (Nat.le_refl _) (.cells #[] 77)).trans hb1))
    have HRUN := Lib.hid hrun
    clear hempty hr1 h ho1 hb1 hrun
    go_enter Tryd.func53, Tryd.ntmps53
    go_wp2_with (at_builtin; refine Lib.wpList_append_run _ rfl (.tmp 5) (.tmp 6) _ _ rfl _ _ rfl rfl v1 w1 HRUN.out ?_)
    go_ret
    exact ⟨v1, rfl, HO.out⟩
end Go.Proofs.YtecpjeililiafaaDoor

/-
  Plain mathematics for history.place: events put where calls say.
-/
namespace Go.Proofs.YtecpjeililiafaaDoor
open Go.RowKit
set_option maxRecDepth 20000

def evInv (c : Cl) : Ev := ⟨c.who, c.thing, c.kind, c.arg⟩
def evRes (c : Cl) : Ev := ⟨c.who, c.thing, 0, c.res⟩
/-- How many of the first calls were answered. -/
def ansUp : List Cl → Nat
  | [] => 0
  | c :: r => (if c.til ≠ -1 then 1 else 0) + ansUp r
theorem ansUp_le : ∀ l : List Cl, ansUp l ≤ l.length
  | [] => Nat.le_refl _
  | c :: r => by
    have := ansUp_le r
    rw [ansUp, List.length_cons]
    split <;> omega
theorem ansUp_append (a b : List Cl) : ansUp (a ++ b) = ansUp a + ansUp b := by
  induction a with
  | nil => simp [ansUp]
  | cons c a ih => rw [List.cons_append, ansUp, ansUp, ih]; omega
theorem ansUp_take {l : List Cl} {k : Nat} {c : Cl} (h : l[k]? = some c) : ansUp (l.take (k + 1)) = ansUp (l.take k) + if c.til ≠ -1 then 1 else 0 := by
  rw [List.take_add_one, h, ansUp_append]
  simp [ansUp]
def placeN (l : List Cl) : Nat := l.length + ansUp l
def putOne (es : List Ev) (c : Cl) : List Ev := if c.til ≠ -1 then (es.set c.frm.toNat (evInv c)).set c.til.toNat (evRes c) else es.set c.frm.toNat (evInv c)
def placeUp (n : Nat) : List Ev → List Cl → Option (List Ev)
  | es, [] => some es
  | es, c :: r => if btw 0 c.frm ((n : Int) - 1) = false ∨ btw (-1) c.til ((n : Int) - 1) = false then none else placeUp n (putOne es c) r
def placeL (l : List Cl) : Option (List Ev) := placeUp (placeN l) (List.replicate (placeN l) default) l
theorem putOne_len (es : List Ev) (c : Cl) : (putOne es c).length = es.length := by
  unfold putOne
  split <;> simp
theorem placeUp_drop {n : Nat} {l : List Cl} {k : Nat} {c : Cl} (h : l[k]? = some c) (es : List Ev) : placeUp n es (l.drop k) = if btw 0 c.frm ((n : Int) - 1) = false ∨ btw (-1) c.til ((n : Int) - 1) = false then none else placeUp n (putOne es c) (l.drop (k + 1)) := by
  have hk := (List.getElem?_eq_some_iff.1 h).1
  have e := (List.getElem?_eq_some_iff.1 h).2
  rw [List.drop_eq_getElem_cons hk, placeUp, e]

/-- A whole event is written. -/
theorem flat_put : ∀ (es : List Ev) (q : Nat) (e : Ev), q < es.length → ((((es.flatMap evCs).set (q * 4) (.int .i64 e.who)).set (q * 4 + 1) (.int .i64 e.thing)).set (q * 4 + 2) (.int .i64 e.kind)).set (q * 4 + 3) (.int .i64 e.val) = (es.set q e).flatMap evCs
  | [], q, e, h => by simp at h
  | z :: r, 0, e, _ => by simp [List.flatMap_cons]
  | z :: r, q + 1, e, h => by
    have h' : q < r.length := by simpa using h
    have ih := flat_put r q e h'
    rw [List.flatMap_cons, List.set_cons_succ, List.flatMap_cons, ← ih]
    have e0 : (q + 1) * 4 = (evCs z).length + q * 4 := by simp; omega
    rw [e0, show (evCs z).length + q * 4 + 1 = (evCs z).length + (q * 4 + 1) by omega, show (evCs z).length + q * 4 + 2 = (evCs z).length + (q * 4 + 2) by omega, show (evCs z).length + q * 4 + 3 = (evCs z).length + (q * 4 + 3) by omega]
    simp only [List.set_append_right _ _ (Nat.le_add_right _ _), Nat.add_sub_cancel_left]
end Go.Proofs.YtecpjeililiafaaDoor

/-
  The walk of the law SearchLater.
-/
namespace Go.Proofs.YtecpjeililiafaaDoor
open Go.RowKit
set_option maxRecDepth 20000

/-- What may be passed by: its guard says so. -/
theorem skipAt (i d : Nat) {P : Program} {md : Region.Mode} {Q : Exit → Act → World → Prop} {ops : Array Oper} {S : World → Prop} {oi : Oper} {fuel : Nat} {listed : Array Bool} {a : Act} {w : World} (hi : ops[i]? = some oi) (hd : oi.dst = some d)
    (hs : Region.noSelect ops = true) (hf : Region.free md ops listed i = true) (hr : (Region.ready md ops listed).contains i = true)
    (hQ : ∀ c a w, Q (.panic c) (a.put (some d) undef) w → Q (.panic c) a w) (hy : Region.wanted oi (yielded ops a.tmps) = false) (hS : S w)
    (h : wpAnyH P md ops Q S fuel (listed.setIfInBounds i true) (a.put (some d) undef) w) : wpAnyH P md ops Q S (fuel + 1) listed a w := by
  rw [← hd] at hQ h
  exact wpAnyH_take hi hs hf hr hQ (.inr ⟨hy, rfl⟩) hS h
/-- Two exchanged. -/
def swapL (l : List Ev) (k : Nat) : List Ev := (l.set k (l.getD (k + 1) default)).set (k + 1) (l.getD k default)
theorem swapL_app (a b : List Ev) (x y : Ev) : swapL (a ++ x :: y :: b) a.length = a ++ y :: x :: b := by
  unfold swapL
  simp
theorem found_swap {ts : List Int} {l : List Ev} {k : Nat} {x y : Ev} (h : foundB ts (callsOf ts l) = true) (hx : l[k]? = some x) (hy : l[k + 1]? = some y) (hw : x.who ≠ y.who) (hxy : ¬ (x.kind ≠ 0 ∧ y.kind = 0)) :
    searchE (callsOf ts (swapL l k)) = 0 ∧ foundB ts (callsOf ts (swapL l k)) = true := by
  have hk := (List.getElem?_eq_some_iff.1 hx).1
  have hk2 := (List.getElem?_eq_some_iff.1 hy).1
  obtain ⟨a, b, ea, rfl⟩ : ∃ a b, l = a ++ x :: y :: b ∧ a.length = k := by
    refine ⟨l.take k, l.drop (k + 2), ?_, by rw [List.length_take]; omega⟩
    rw [← (List.getElem?_eq_some_iff.1 hx).2, ← (List.getElem?_eq_some_iff.1 hy).2, ← List.drop_eq_getElem_cons hk2, ← List.drop_eq_getElem_cons hk, List.take_append_drop]
  subst ea
  rw [swapL_app]
  obtain ⟨h1, ws, h2⟩ := foundB_iff.1 h
  obtain ⟨h3, h4⟩ := search_ok.1 h1
  obtain ⟨h5, h6, h7⟩ := later_rite hw hxy h3 h2
  have h8 := search_ok.2 ⟨h5, by omega⟩
  exact ⟨h8, foundB_iff.2 ⟨h8, h7⟩⟩
/-- One cell of a row of one's own is written. -/
theorem own_set {w : World} {B s n cap : Nat} {t : TypeId} {g : Nat} {xs : List Value} (h : w.ownsRow B t s (.slice (some ⟨g, 0, none⟩) n cap) n xs) (j : Nat) (u : Value) : (w.setCell ⟨g, j, none⟩ u).ownsRow B t s (.slice (some ⟨g, 0, none⟩) n cap) n (xs.set j u) := by
  refine ⟨by rw [List.length_set]; exact h.1, ?_⟩
  rcases h.2 with ⟨h', _⟩ | ⟨g', cap', cur, h', hB, hg, h1, h2, h3, h4⟩
  · simp at h'
  · simp only [Value.slice.injEq, Option.some.injEq, Addr.mk.injEq, and_true, true_and] at h'
    obtain ⟨rfl, rfl⟩ := h'
    refine .inr ⟨g, cap, cur.setIfInBounds j u, rfl, hB, Lies.set_ hg j u, h1, h2, by simpa using h3, ?_⟩
    rw [← h4, Array.toList_setIfInBounds, List.take_set]
theorem own_at {w : World} {B g n cap : Nat} {l : List Ev} (h : EOwn w B (.slice (some ⟨g, 0, none⟩) n cap) l) : B ≤ g := by
  rcases h.2 with ⟨h', _⟩ | ⟨g', cap', cur, h', hB, _⟩
  · simp at h'
  · simp only [Value.slice.injEq, Option.some.injEq, Addr.mk.injEq, and_true] at h'
    obtain ⟨rfl, -⟩ := h'
    exact hB
theorem EOwn.drew {w : World} {B : Nat} {v : Value} {l : List Ev} (h : EOwn w B v l) : EOwn w.drew B v l := h
theorem own_frozen {w : World} {B g n cap : Nat} {l : List Ev} (h : EOwn w B (.slice (some ⟨g, 0, none⟩) n cap) l) (j : Nat) : w.frozen? ⟨g, j, none⟩ = false := by
  rcases h.2 with ⟨h', _⟩ | ⟨g', cap', cur, h', hB, hg, _⟩
  · simp at h'
  · simp only [Value.slice.injEq, Option.some.injEq, Addr.mk.injEq, and_true] at h'
    obtain ⟨rfl, -⟩ := h'
    exact Lies.frozen hg j
theorem getD_ev {l : List Ev} {k : Nat} {x : Ev} (h : l[k]? = some x) : l.getD k default = x := by
  rw [List.getD_eq_getElem?_getD, h]
  rfl
theorem own_ev {w : World} {B g n cap k : Nat} {l : List Ev} (h : EOwn w B (.slice (some ⟨g, 0, none⟩) n cap) l) {x : Ev} (hk : l[k]? = some x) : w.cell? ⟨g, k * 4, none⟩ = some (.int .i64 x.who) ∧ w.cell? ⟨g, k * 4 + 1, none⟩ = some (.int .i64 x.thing) ∧ w.cell? ⟨g, k * 4 + 2, none⟩ = some (.int .i64 x.kind) ∧ w.cell? ⟨g, k * 4 + 3, none⟩ = some (.int .i64 x.val) := by
  obtain ⟨g', o', e, _, d0, d1, d2, d3⟩ := h.rd.ev hk
  injection e with e
  injection e with e1 e2
  subst e1 e2
  simp only [Nat.zero_add] at d0 d1 d2 d3
  exact ⟨d0, d1, d2, d3⟩
/-- An event of a row of one's own is written. -/
theorem EOwn.put {w : World} {B g n cap q : Nat} {l : List Ev} (h : EOwn w B (.slice (some ⟨g, 0, none⟩) n cap) l) (hn : n = l.length) (hq : q < l.length) (e : Ev) :
    EOwn ((((w.setCell ⟨g, q * 4, none⟩ (.int .i64 e.who)).setCell ⟨g, q * 4 + 1, none⟩ (.int .i64 e.thing)).setCell ⟨g, q * 4 + 2, none⟩ (.int .i64 e.kind)).setCell ⟨g, q * 4 + 3, none⟩ (.int .i64 e.val)) B (.slice (some ⟨g, 0, none⟩) n cap) (l.set q e) := by
  subst hn
  unfold EOwn
  rw [List.length_set, ← flat_put l q e hq]
  exact own_set (own_set (own_set (own_set h _ _) _ _) _ _) _ _
/-- Two events that follow each other, as they lie. -/
def EvC (g o m : Nat) (x y : Ev) (W : World) : Prop := W.cell? ⟨g, o + m * 4, none⟩ = some (.int .i64 x.who) ∧ W.cell? ⟨g, o + m * 4 + 1, none⟩ = some (.int .i64 x.thing) ∧ W.cell? ⟨g, o + m * 4 + 2, none⟩ = some (.int .i64 x.kind) ∧ W.cell? ⟨g, o + m * 4 + 3, none⟩ = some (.int .i64 x.val) ∧
  W.cell? ⟨g, o + (m + 1) * 4, none⟩ = some (.int .i64 y.who) ∧ W.cell? ⟨g, o + (m + 1) * 4 + 1, none⟩ = some (.int .i64 y.thing) ∧ W.cell? ⟨g, o + (m + 1) * 4 + 2, none⟩ = some (.int .i64 y.kind) ∧ W.cell? ⟨g, o + (m + 1) * 4 + 3, none⟩ = some (.int .i64 y.val)
theorem ev_two {w : World} {B n cap m : Nat} {A : Option Addr} {l : List Ev} (h : ERd w B (.slice A n cap) l) {x y : Ev} (hx : l[m]? = some x) (hy : l[m + 1]? = some y) : ∃ g o, A = some ⟨g, o, none⟩ ∧ g < B ∧ ∀ W, Below B w W → EvC g o m x y W := by
  obtain ⟨g, o, rfl, hg, d0, d1, d2, d3⟩ := h.ev hx
  refine ⟨g, o, rfl, hg, fun W hb => ?_⟩
  obtain ⟨g', o', e, _, x0, x1, x2, x3⟩ := (h.below hb).ev hx
  obtain ⟨g2, o2, e2, _, y0, y1, y2, y3⟩ := (h.below hb).ev hy
  injection e with e
  injection e with e3 e4
  injection e2 with e2
  injection e2 with e5 e6
  subst e3 e4 e5 e6
  exact ⟨x0, x1, x2, x3, y0, y1, y2, y3⟩
theorem own_two {w : World} {B m : Nat} {v : Value} {l : List Ev} (h : EOwn w B v l) {x y : Ev} (hx : l[m]? = some x) (hy : l[m + 1]? = some y) : ∃ g cap, v = .slice (some ⟨g, 0, none⟩) l.length cap ∧ B ≤ g ∧ EvC g 0 m x y w := by
  have hk := (List.getElem?_eq_some_iff.1 hx).1
  rcases h.2 with ⟨h', h0⟩ | ⟨g, cap, cur, rfl, hB, _⟩
  · omega
  · obtain ⟨g', o', e, _, hev⟩ := ev_two h.rd hx hy
    injection e with e
    injection e with e3 e4
    subst e3 e4
    exact ⟨g, cap, rfl, hB, hev w (Below.refl _ _)⟩
end Go.Proofs.YtecpjeililiafaaDoor

/-
  slices.IndexFunc and ContainsFunc over steps, by the call that a step names.
-/
namespace Go.Proofs.YtecpjeililiafaaDoor
open Go.RowKit
set_option maxRecDepth 20000

abbrev spV (x : Int × Int) : Value := .agg #[.int .i64 x.1, .int .i64 x.2]
theorem nev1_any (x0 x1 : Int) {P : Nat} {k : Int} {W : World} (hP : W.cell? ⟨P, 0, none⟩ = some (.int .i64 k)) :
    Calls Tryd.prog 49 #[.agg #[.int .i64 x0, .int .i64 x1], .pointer (some ⟨P, 0, none⟩)] W fun e w' => e = .returned (.bool (x0 == k)) ∧ Below W.heap.size W w' := by
  have c0 : ∀ o, (W.alloc o).cell? ⟨P, 0, none⟩ = some (.int .i64 k) := fun o => Lib.cell?_alloc_some _ hP
  go_enter Tryd.func49, Tryd.ntmps49
  go_wp2_with fail
  go_ret
  exact ⟨rfl, (Below.refl _ _).alloc (Nat.le_refl _) _⟩
theorem nev2_any (x0 x1 : Int) {P : Nat} {k : Int} {W : World} (hP : W.cell? ⟨P, 0, none⟩ = some (.int .i64 k)) :
    Calls Tryd.prog 52 #[.agg #[.int .i64 x0, .int .i64 x1], .pointer (some ⟨P, 0, none⟩)] W fun e w' => e = .returned (.bool (x0 == k)) ∧ Below W.heap.size W w' := by
  have c0 : ∀ o, (W.alloc o).cell? ⟨P, 0, none⟩ = some (.int .i64 k) := fun o => Lib.cell?_alloc_some _ hP
  go_enter Tryd.func52, Tryd.ntmps52
  go_wp2_with fail
  go_ret
  exact ⟨rfl, (Below.refl _ _).alloc (Nat.le_refl _) _⟩
/-- Where call k stands first, or -1. -/
def FirstAt (k : Int) (xs : List (Int × Int)) (r : Int) : Prop := (r = -1 ∧ ∀ x ∈ xs, x.1 ≠ k) ∨ ∃ (i : Nat) (x : Int × Int), r = (i : Int) ∧ xs[i]? = some x ∧ x.1 = k

set_option maxHeartbeats 1000000 in
theorem idx1_any {P : Nat} {k : Int} {v : Value} {xs : List (Int × Int)} {w : World} (h : SRd w w.heap.size v xs) (hP : w.cell? ⟨P, 0, none⟩ = some (.int .i64 k)) (hPl : P < w.heap.size) :
    Calls Tryd.prog 51 #[v, .func (.func 49) #[] #[.pointer (some ⟨P, 0, none⟩)]] w fun e w' => ∃ r : Int, e = .returned (.int .i64 r) ∧ FirstAt k xs r ∧ Below w.heap.size w w' := by
  obtain ⟨A, cap, rfl, m1, m2⟩ := h.is
  unfold maxLen at m2
  obtain ⟨L, hL⟩ : ∃ L, L = xs.length := ⟨_, rfl⟩
  have HC := Lib.hid (And.intro h (And.intro hP hPl))
  have HLL := Lib.hid hL
  have m3 : (L : Int) ≤ 9223372036854775807 := by rw [← hL] at m1; omega
  rw [← hL] at m1 ⊢
  clear h hL hP hPl m2
  go_enter Tryd.func51, Tryd.ntmps51
  go_wp2_with fail
  go_loopw [8] (fun i wr => ∃ j : Nat, j ≤ L ∧ i = .int .i64 j ∧ (∀ (m : Nat) (y : Int × Int), m < j → xs[m]? = some y → y.1 ≠ k) ∧ Below w.heap.size w wr) (fun i _ => L - (intOf i).toNat)
  case atStart => exact ⟨0, by omega, rfl, fun j y hj => by omega, Below.refl _ _⟩
  case round =>
    obtain ⟨j, hj, rfl, ha, hb⟩ := hrel
    have HA := Lib.hid (And.intro ha hb)
    by_cases hjn : j < L
    · obtain ⟨y, hy⟩ : ∃ y, xs[j]? = some y := ⟨_, List.getElem?_eq_getElem (by rw [← HLL.out]; exact hjn)⟩
      have hr := HC.out.1.below hb
      rw [← HLL.out] at hr
      obtain ⟨g, o, rfl, hg, d0, d1⟩ := hr.sp hy
      obtain ⟨y0, y1⟩ := y
      simp only at d0 d1
      have i1 : (0 : Int) ≤ (j : Int) := by omega
      have i2 : (j : Int) < (L : Int) := by omega
      have HY := Lib.hid hy
      have HK := Lib.hid (nev1_any y0 y1 ((hb.cell (p := ⟨P, 0, none⟩) HC.out.2.2).trans HC.out.2.1))
      clear hy hr ha hb
      by_cases hyk : y0 = k
      · have e1 : (y0 == k) = true := by rw [beq_iff_eq]; exact hyk
        rw [e1] at HK
        have HX := Lib.hid hyk
        clear hyk e1
        go_wp2_with fail
        refine HK.out.mono ?_
        rintro e w' ⟨rfl, hb2⟩
        have HB2 := Lib.hid (HA.out.2.trans (hb2.mono HA.out.2.size))
        clear hb2
        go_wp2_with fail
        go_ret
        exact ⟨j, rfl, .inr ⟨j, _, rfl, HY.out, HX.out⟩, HB2.out⟩
      · have e1 : (y0 == k) = false := by rw [beq_eq_false_iff_ne]; exact hyk
        rw [e1] at HK
        have HX := Lib.hid hyk
        clear hyk e1
        go_wp2_with fail
        refine HK.out.mono ?_
        rintro e w' ⟨rfl, hb2⟩
        have HB2 := Lib.hid (HA.out.2.trans (hb2.mono HA.out.2.size))
        clear hb2
        go_wp2_with fail
        go_roundw
        case rel => exact ⟨j + 1, by omega, by go_num, fun m z hm hz => by
          rcases Nat.lt_or_ge m j with h | h
          · exact HA.out.1 m z h hz
          · obtain rfl : m = j := by omega
            rw [HY.out] at hz
            injection hz with hz
            subst hz
            exact HX.out, HB2.out⟩
        case measure => simp [intOf]; omega
    · obtain rfl : j = L := by omega
      clear ha hb
      go_wp2_with fail
      go_ret
      refine ⟨-1, rfl, .inl ⟨rfl, fun x hx => ?_⟩, HA.out.2⟩
      obtain ⟨i, hi, rfl⟩ := List.getElem_of_mem hx
      exact HA.out.1 i _ (by rw [HLL.out]; exact hi) (List.getElem?_eq_getElem hi)
set_option maxHeartbeats 1000000 in
theorem idx2_any {P : Nat} {k : Int} {v : Value} {xs : List (Int × Int)} {w : World} (h : SRd w w.heap.size v xs) (hP : w.cell? ⟨P, 0, none⟩ = some (.int .i64 k)) (hPl : P < w.heap.size) :
    Calls Tryd.prog 51 #[v, .func (.func 52) #[] #[.pointer (some ⟨P, 0, none⟩)]] w fun e w' => ∃ r : Int, e = .returned (.int .i64 r) ∧ FirstAt k xs r ∧ Below w.heap.size w w' := by
  obtain ⟨A, cap, rfl, m1, m2⟩ := h.is
  unfold maxLen at m2
  obtain ⟨L, hL⟩ : ∃ L, L = xs.length := ⟨_, rfl⟩
  have HC := Lib.hid (And.intro h (And.intro hP hPl))
  have HLL := Lib.hid hL
  have m3 : (L : Int) ≤ 9223372036854775807 := by rw [← hL] at m1; omega
  rw [← hL] at m1 ⊢
  clear h hL hP hPl m2
  go_enter Tryd.func51, Tryd.ntmps51
  go_wp2_with fail
  go_loopw [8] (fun i wr => ∃ j : Nat, j ≤ L ∧ i = .int .i64 j ∧ (∀ (m : Nat) (y : Int × Int), m < j → xs[m]? = some y → y.1 ≠ k) ∧ Below w.heap.size w wr) (fun i _ => L - (intOf i).toNat)
  case atStart => exact ⟨0, by omega, rfl, fun j y hj => by omega, Below.refl _ _⟩
  case round =>
    obtain ⟨j, hj, rfl, ha, hb⟩ := hrel
    have HA := Lib.hid (And.intro ha hb)
    by_cases hjn : j < L
    · obtain ⟨y, hy⟩ : ∃ y, xs[j]? = some y := ⟨_, List.getElem?_eq_getElem (by rw [← HLL.out]; exact hjn)⟩
      have hr := HC.out.1.below hb
      rw [← HLL.out] at hr
      obtain ⟨g, o, rfl, hg, d0, d1⟩ := hr.sp hy
      obtain ⟨y0, y1⟩ := y
      simp only at d0 d1
      have i1 : (0 : Int) ≤ (j : Int) := by omega
      have i2 : (j : Int) < (L : Int) := by omega
      have HY := Lib.hid hy
      have HK := Lib.hid (nev2_any y0 y1 ((hb.cell (p := ⟨P, 0, none⟩) HC.out.2.2).trans HC.out.2.1))
      clear hy hr ha hb
      by_cases hyk : y0 = k
      · have e1 : (y0 == k) = true := by rw [beq_iff_eq]; exact hyk
        rw [e1] at HK
        have HX := Lib.hid hyk
        clear hyk e1
        go_wp2_with fail
        refine HK.out.mono ?_
        rintro e w' ⟨rfl, hb2⟩
        have HB2 := Lib.hid (HA.out.2.trans (hb2.mono HA.out.2.size))
        clear hb2
        go_wp2_with fail
        go_ret
        exact ⟨j, rfl, .inr ⟨j, _, rfl, HY.out, HX.out⟩, HB2.out⟩
      · have e1 : (y0 == k) = false := by rw [beq_eq_false_iff_ne]; exact hyk
        rw [e1] at HK
        have HX := Lib.hid hyk
        clear hyk e1
        go_wp2_with fail
        refine HK.out.mono ?_
        rintro e w' ⟨rfl, hb2⟩
        have HB2 := Lib.hid (HA.out.2.trans (hb2.mono HA.out.2.size))
        clear hb2
        go_wp2_with fail
        go_roundw
        case rel => exact ⟨j + 1, by omega, by go_num, fun m z hm hz => by
          rcases Nat.lt_or_ge m j with h | h
          · exact HA.out.1 m z h hz
          · obtain rfl : m = j := by omega
            rw [HY.out] at hz
            injection hz with hz
            subst hz
            exact HX.out, HB2.out⟩
        case measure => simp [intOf]; omega
    · obtain rfl : j = L := by omega
      clear ha hb
      go_wp2_with fail
      go_ret
      refine ⟨-1, rfl, .inl ⟨rfl, fun x hx => ?_⟩, HA.out.2⟩
      obtain ⟨i, hi, rfl⟩ := List.getElem_of_mem hx
      exact HA.out.1 i _ (by rw [HLL.out]; exact hi) (List.getElem?_eq_getElem hi)
theorem contS_any {P : Nat} {k : Int} {v : Value} {xs : List (Int × Int)} {w : World} (h : SRd w w.heap.size v xs) (hP : w.cell? ⟨P, 0, none⟩ = some (.int .i64 k)) (hPl : P < w.heap.size) :
    Calls Tryd.prog 48 #[v, .func (.func 49) #[] #[.pointer (some ⟨P, 0, none⟩)]] w fun e w' => e = .returned (.bool (decide ((k : Int) ∈ xs.map (·.1)))) ∧ Below w.heap.size w w' := by
  have HI := Lib.hid (idx1_any h hP hPl)
  obtain ⟨A, cap, rfl, m1, m2⟩ := h.is
  clear h hP hPl
  obtain ⟨L, hL⟩ : ∃ L, L = xs.length := ⟨_, rfl⟩
  rw [← hL] at HI m1 ⊢
  clear hL
  obtain ⟨b, hb⟩ : ∃ b, b = decide ((k : Int) ∈ xs.map (·.1)) := ⟨_, rfl⟩
  rw [← hb]
  have HB := Lib.hid hb
  clear hb
  go_enter Tryd.func48, Tryd.ntmps48
  go_wp2_with fail
  refine HI.out.mono ?_
  rintro e w1 ⟨r, rfl, hr, hb1⟩
  have HR := Lib.hid (And.intro hr hb1)
  rcases hr with ⟨rfl, hr⟩ | ⟨i, x, rfl, h1, h2⟩
  · have HB9 := Lib.hid hr
    clear hr hb1
    go_wp2_with fail
    go_ret
    refine ⟨ret_bool ?_, HR.out.2⟩
    rw [HB.out, decide_eq_false (fun hm => by
      obtain ⟨x, hx, e⟩ := List.mem_map.1 hm
      exact HB9.out x hx e)]
  · have HB9 := Lib.hid (And.intro h1 h2)
    have hi : (0 : Int) ≤ (i : Int) := by omega
    clear h1 h2 hb1
    go_wp2_with fail
    go_ret
    refine ⟨ret_bool ?_, HR.out.2⟩
    rw [HB.out, decide_eq_true (List.mem_map.2 ⟨x, List.mem_of_getElem? HB9.out.1, HB9.out.2⟩)]
end Go.Proofs.YtecpjeililiafaaDoor
