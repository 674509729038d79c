/-
  Joined by a program out of: AppDdRun, RoBase.
-/
import Derived.Test.YtfpnklcjkjfniaaDoorMsPlayed
import Derived.Test.YtfpnklcjkjfniaaDoorMgAC
import Derived.Deep.DeepAppendWide
import Derived.Lib.AppendZeros
import Derived.Lib.SliceRun
import Derived.Test.YtfpnklcjkjfniaaDoorMsRefPure
import Derived.Test.YtfpnklcjkjfniaaDoorMsContains
import Derived.Test.YtfpnklcjkjfniaaDoorMgAH
import Derived.Test.YtfpnklcjkjfniaaDoorMgBA

/-
  append of what is done: any slice of such behind a row of one's own.
-/
namespace Go.Proofs.YtfpnklcjkjfniaaDoor
open Go.RowKit
set_option maxRecDepth 20000

/-- A slice of the call's own (in blocks from B on) that holds these. -/
def DOwn (w : World) (B : Nat) (v : Value) (l : List Dd) : Prop := w.ownsRow B 95 3 v l.length (l.flatMap ddCs)
theorem DOwn.rd {w : World} {B : Nat} {v : Value} {l : List Dd} (h : DOwn w B v l) : DRd w w.heap.size v l := LRd.of_own (fun _ => rfl) h
theorem DOwn.nil (w : World) (B : Nat) : DOwn w B (.slice none 0 0) [] := World.ownsRow_nil _ _ _ _
theorem DOwn.below {w w' : World} {B : Nat} {v : Value} {l : List Dd} (h : DOwn w B v l) (hb : Below w.heap.size w w') : DOwn w' B v l := by
  refine ⟨h.1, h.2.elim (fun h => .inl h) fun ⟨g, cap, cur, h1, h2, h3, h4, h5, h6, h7⟩ => .inr ⟨g, cap, cur, h1, h2, ?_, h4, h5, h6, h7⟩⟩
  rw [hb.block g (Array.getElem?_eq_some_iff.1 h3).1]
  exact h3
theorem DOwn.alloc {w : World} {B : Nat} {v : Value} {l : List Dd} (h : DOwn w B v l) (o : Obj) : DOwn (w.alloc o) B v l := h.below ((Below.refl _ _).alloc (Nat.le_refl _) o)
theorem info_dd : (Tryd.prog.info? 95).map (fun i => (i.zero, i.size, i.bytes)) = some (some (.agg #[.int .i64 0, .int .i64 0, .int .i64 0]), 3, 24) := by kernel_rfl

theorem run_app_dds {W : World} {base n cap : Nat} {v : Value} {A : Option Addr} {l ys : List Dd} {B : Nat} (ty : TypeId) (hown : DOwn W base v l) (hr : DRd W B (.slice A n cap) ys) (hlen : ((l.length + ys.length) + (l.length + ys.length) / 4 + 192) * 24 ≤ 281474976710656) (hbase : base ≤ W.heap.size) (hA : A ≠ none) :
    ∃ v' w', (Builtin.append_ #[93, 93] ty #[v, .slice A n cap]).run Tryd.prog W = .ok v' w' ∧ DOwn w' base v' (l ++ ys) ∧ Below base W w' := by
  obtain ⟨i0, hi, hz0, hz1, hz2⟩ := info_of info_dd
  have hl := World.ownsRow.lt hown
  obtain ⟨A', cap', he, m1, m2, hc⟩ := hr
  injection he with e1 e2 e3
  subst e1 e2 e3
  cases A with
  | none => exact absurd rfl hA
  | some a =>
    have hlf : (ys.flatMap ddCs).length = ys.length * 3 := flat_len (f := ddCs) (s := 3) (fun _ => rfl) ys
    obtain ⟨v', w', hr, h2, h3, _⟩ := run_append_own_wide (P := Tryd.prog) W base 93 ty 95 i0 (.agg #[.int .i64 0, .int .i64 0, .int .i64 0]) 3 24 Tryd.underlying93 hi hz0 hz1 hz2 rfl (by decide) v l.length (l.flatMap ddCs) hown
      a ys.length cap (ys.flatMap ddCs) hlf (fun j u hu => by
        have hj := (List.getElem?_eq_some_iff.1 hu).1
        rw [hlf] at hj
        obtain ⟨g, o, ha, _, hcell⟩ := hc (by omega)
        injection ha with ha
        subst ha
        have hx := List.getElem?_eq_getElem (show j / 3 < ys.length by omega)
        have hm : j % 3 < (ddCs ys[j / 3]).length := by show j % 3 < 3; omega
        have hf := flat_at (l := ys) (f := ddCs) (s := 3) (fun _ => rfl) hx (List.getElem?_eq_getElem hm)
        have e : j / 3 * 3 + j % 3 = j := by omega
        rw [e, hu] at hf
        have := hcell (j / 3) _ hx (j % 3) _ ((List.getElem?_eq_getElem hm).trans hf.symm)
        rw [Addr.add_lit]
        rw [Nat.add_assoc, e] at this
        exact this) (fun u hu => by
        rw [List.mem_flatMap] at hu
        obtain ⟨x, _, hx⟩ := hu
        simp only [List.mem_cons, List.not_mem_nil, or_false] at hx
        rcases hx with rfl | rfl | rfl <;> rfl) (by unfold maxLen; omega) hlen hbase
    refine ⟨v', w', hr, ?_, (Below.refl base W).grown h3 hbase (fun k hk => (hl k hk).1)⟩
    unfold DOwn
    rw [List.length_append, List.flatMap_append]
    exact h2

theorem step_run_app {W : World} {ops : Array Oper} {o : Oper} {a : Act} {K : Act → World → Prop} {Q : Exit → Act → World → Prop} {E : Prop} (hgd : o.guard = none) (s x : Operand) (t tn : TypeId)
    (ho : o.op = .call { callee := .builtin .append, args := #[s, x], argTypes := #[t, tn] }) (vs vx : Value) (hs : a.eval s = vs) (hx : a.eval x = vx)
    (v' : Value) (w' : World) (hr : (Builtin.append_ #[t, tn] o.type #[vs, vx]).run Tryd.prog W = .ok v' w') (h : K (a.put o.dst v') w') :
    if Region.wanted o (yielded ops a.tmps) = true then Oper.wp Tryd.prog o a W K Q else E := by
  have hw : Region.wanted o (yielded ops a.tmps) = true := by simp [Region.wanted, hgd]
  rw [if_pos hw]
  exact Lib.wp_append_run W s x t tn ho vs vx hs hx v' w' hr h

end Go.Proofs.YtfpnklcjkjfniaaDoor

/-
  What the reference's RightOrder leaves as it was.
-/
namespace Go.Proofs.YtfpnklcjkjfniaaDoor
open Go.RowKit
set_option maxRecDepth 20000

structure RoR (w : World) (G : Nat) (n : Nat) (r : Nat → Nat) (f : Nat → Int) (X : World) : Prop where
  below : Below w.heap.size w X
  rel : RelB X w.heap.size n r
  tab : ITab X G n f
  gG : w.heap.size < G
theorem RoR.next {w : World} {G n : Nat} {r : Nat → Nat} {f : Nat → Int} {X X' : World} (h : RoR w G n r f X) (hb : Below X.heap.size X X') : RoR w G n r f X' :=
  ⟨h.below.trans (hb.mono h.below.size), Lies.below h.rel hb (Lies.lt h.rel), Lies.below h.tab hb (Lies.lt h.tab), h.gG⟩
theorem RoR.set {w : World} {G n : Nat} {r : Nat → Nat} {f : Nat → Int} {X : World} (h : RoR w G n r f X) (k : Nat) (v : Int) : RoR w G n r (fun j => if j = k then v else f j) (X.setCell ⟨G, k, none⟩ (.int .i64 v)) :=
  ⟨h.below.setCell (Nat.le_of_lt h.gG) _, Lies.far h.rel (by have := h.gG; show w.heap.size ≠ G; omega) _, h.tab.set_ k v, h.gG⟩
theorem RoR.drew {w : World} {G n : Nat} {r : Nat → Nat} {f : Nat → Int} {X : World} (h : RoR w G n r f X) : RoR w G n r f X.drew := h.next (Below.refl _ _).drew
theorem RoR.alloc {w : World} {G n : Nat} {r : Nat → Nat} {f : Nat → Int} {X : World} (h : RoR w G n r f X) (o : Obj) : RoR w G n r f (X.alloc o) := h.next ((Below.refl _ _).alloc (Nat.le_refl _) o)
/-- A step in its box, a place of the table, a call. -/
def RoS (K G k gc oc : Nat) (x0 x1 v y4 y6 : Int) (W : World) : Prop := W.cell? ⟨K, 0, none⟩ = some (.int .i64 x0) ∧ W.cell? ⟨K, 1, none⟩ = some (.int .i64 x1) ∧ W.cell? ⟨G, k, none⟩ = some (.int .i64 v) ∧ W.cell? ⟨gc, oc + k * 7 + 4, none⟩ = some (.int .i64 y4) ∧ W.cell? ⟨gc, oc + k * 7 + 6, none⟩ = some (.int .i64 y6)
def RoB (K : Nat) (x0 : Int) (W : World) : Prop := W.cell? ⟨K, 0, none⟩ = some (.int .i64 x0)
/-- The relation in its box, two places of the table. -/
def RoT (Q G n : Nat) (r : Nat → Nat) (i j : Nat) (a b : Int) (W : World) : Prop := RelB W Q n r ∧ W.cell? ⟨G, i, none⟩ = some (.int .i64 a) ∧ W.cell? ⟨G, j, none⟩ = some (.int .i64 b)
/-- What is asked of call i among the others, up to j. -/
def PhJ (n : Nat) (r : Nat → Nat) (f : Nat → Int) (i j : Nat) : Prop := ∀ k, k < j → k < n → (r i).testBit k = true → 0 ≤ f k → 0 ≤ f i ∧ f i ≤ f k
theorem PhJ.succ {n : Nat} {r : Nat → Nat} {f : Nat → Int} {i j : Nat} (h : PhJ n r f i j) (h1 : (r i).testBit j = true → 0 ≤ f j → 0 ≤ f i ∧ f i ≤ f j) : PhJ n r f i (j + 1) := fun k hk hn hb hf => by
  by_cases e : k = j
  · subst e; exact h1 hb hf
  · exact h k (by omega) hn hb hf
theorem DOwn.base {w : World} {B B' : Nat} {v : Value} {l : List Dd} (h : DOwn w B v l) (hB : B' ≤ B) : DOwn w B' v l :=
  ⟨h.1, h.2.imp (fun h => h) fun ⟨g, cap, cur, h1, h2, h3⟩ => ⟨g, cap, cur, h1, Nat.le_trans hB h2, h3⟩⟩
theorem ownD_len (cs : List Cl) (t : Nat) (ws : List (Int × Int)) : (ownD cs t ws).length ≤ ws.length := by
  unfold ownD
  rw [List.length_map]
  exact List.length_filter_le _ _
theorem rite_len {cs : List Cl} {ws : List (Int × Int)} (h : PreOk cs ws ws.length) : ws.length ≤ cs.length := by
  have hon : (ws.map (·.1)).Nodup := by
    refine List.pairwise_iff_getElem.2 fun i j hi hj hij => ?_
    rw [List.length_map] at hi hj
    rw [List.getElem_map, List.getElem_map]
    exact h.once i j _ _ hij hj (List.getElem?_eq_getElem hi) (List.getElem?_eq_getElem hj)
  have := nodup_lt cs.length hon (fun k hk => by
    obtain ⟨x, hx, rfl⟩ := List.mem_map.1 hk
    obtain ⟨i, hi, rfl⟩ := List.getElem_of_mem hx
    exact h.rng i _ hi (List.getElem?_eq_getElem hi))
  rwa [List.length_map] at this
end Go.Proofs.YtfpnklcjkjfniaaDoor
