/-
  append(s, x): spans, as pairs.
-/
import Derived.Test.YtndcgliopckllaaAppRow
import Derived.Test.YtndcgliopckllaaSpRd
import Derived.Test.YtndcgliopckllaaSpanHist
namespace Go.Proofs.Ytndcgliopckllaa
open Go.RowKit
set_option maxRecDepth 20000

abbrev spCs (p : Int × Int) : List Value := [.int .i64 p.1, .int .i64 p.2]
def POwn (w : World) (B : Nat) (v : Value) (l : List (Int × Int)) : Prop := w.ownsRow B 61 2 v l.length (l.flatMap spCs)
theorem info_sp : (Try.prog.info? 61).map (fun i => (i.zero, i.size, i.bytes)) = some (some (.agg #[.int .i64 0, .int .i64 0]), 2, 16) := by kernel_rfl
theorem POwn.then_ {w w' : World} {B : Nat} {v : Value} {l : List (Int × Int)} (h : POwn w B v l) (hb : Below w.heap.size w w') : POwn w' B v l :=
  World.ownsRow.kept h (row := none) ⟨hb.os, hb.tape, hb.output, hb.size, fun k hk _ => hb.block k hk⟩ (by
    cases hv : v.ownBlock with
    | none => exact .inl rfl
    | some k => exact .inr (by simp))
theorem POwn.alloc {w : World} {B : Nat} {v : Value} {l : List (Int × Int)} (h : POwn w B v l) (o : Obj) : POwn (w.alloc o) B v l := World.ownsRow.alloc h o
/-- It reads as spans. -/
theorem POwn.rd {w : World} {B : Nat} {v : Value} {l : List (Int × Int)} (h : POwn w B v l) : SRd w w.heap.size v l.length (frmF l) (tilF l) := by
  have hr : LRd 2 spCs w w.heap.size v l := LRd.of_own (fun _ => rfl) h
  obtain ⟨A, cap, rfl, _, _, h2⟩ := hr
  refine ⟨A, cap, rfl, fun h0 => ?_⟩
  obtain ⟨g, o, rfl, hg, hc⟩ := h2 h0
  refine ⟨g, o, rfl, hg, fun j hj => ?_⟩
  obtain ⟨p, hp⟩ : ∃ p, l[j]? = some p := ⟨_, List.getElem?_eq_getElem hj⟩
  have e1 : frmF l j = p.1 := by unfold frmF; rw [List.getD_eq_getElem?_getD, hp]; rfl
  have e2 : tilF l j = p.2 := by unfold tilF; rw [List.getD_eq_getElem?_getD, hp]; rfl
  rw [e1, e2]
  exact ⟨hc j p hp 0 _ rfl, hc j p hp 1 _ rfl⟩

theorem run_app_sp {W : World} {base G : Nat} {v : Value} {l : List (Int × Int)} {y : Int × Int} (ty : TypeId) (hown : POwn W base v l) (hG : ∀ j u, (spCs y)[j]? = some u → W.cell? ⟨G, j, none⟩ = some u) (hlen : l.length ≤ 65536) (hbase : base ≤ W.heap.size) :
    ∃ v' w', (Builtin.append_ #[59, 59] ty #[v, .slice (some ⟨G, 0, none⟩) 1 1]).run Try.prog W = .ok v' w' ∧ POwn w' base v' (l ++ [y]) ∧ Below base W w' ∧ W.grownBy w' v.ownBlock := by
  obtain ⟨i0, hi, hz0, hz1, hz2⟩ := info_of info_sp
  have hl := World.ownsRow.lt hown
  obtain ⟨v', w', hr, h2, h3, _⟩ := run_append_own (P := Try.prog) W base 59 ty 61 i0 (.agg #[.int .i64 0, .int .i64 0]) 2 16 Try.underlying59 hi hz0 hz1 hz2 rfl (by decide) v l.length (l.flatMap spCs) hown
    ⟨G, 0, none⟩ 1 1 (spCs y) rfl (fun j u hu => by
      rw [Addr.add_lit, Nat.zero_add]
      exact hG j u hu) (fun u hu => by
      simp only [List.mem_cons, List.not_mem_nil, or_false] at hu
      rcases hu with rfl | rfl <;> rfl) (by unfold maxLen; omega) (by omega) hbase
  refine ⟨v', w', hr, ?_, (Below.refl base W).grown h3 hbase (fun k hk => (hl k hk).1), h3⟩
  unfold POwn
  rw [List.length_append, List.flatMap_append]
  simpa using h2

theorem wp_app_sp {W : World} {o : Oper} {a : Act} {K : Act → World → Prop} {Q : Exit → Act → World → Prop} (s x : Operand)
    (ho : o.op = .call { callee := .builtin .append, args := #[s, x], argTypes := #[59, 59] })
    (base G : Nat) (v : Value) (l : List (Int × Int)) (y : Int × Int) (hs : a.eval s = v) (hx : a.eval x = .slice (some ⟨G, 0, none⟩) 1 1) (hown : POwn W base v l) (hG : ∀ j u, (spCs y)[j]? = some u → W.cell? ⟨G, j, none⟩ = some u) (hlen : l.length ≤ 65536) (hbase : base ≤ W.heap.size)
    (h : ∀ v' w', POwn w' base v' (l ++ [y]) → Below base W w' → W.grownBy w' v.ownBlock → K (a.put o.dst v') w') : Oper.wp Try.prog o a W K Q := by
  obtain ⟨v', w', hrun, r1, r2, r3⟩ := run_app_sp o.type hown hG hlen hbase
  unfold Oper.wp
  simp [execOp, ho, resolve, invoke, builtin, hs, hx, hrun, Result.andThen]
  exact h v' w' r1 r2 r3
theorem wpList_app_sp {W : World} {ops : Array Oper} {rest : List Oper} {o : Oper} {a : Act} {Q : Exit → Act → World → Prop} (hgd : o.guard = none) (s x : Operand)
    (ho : o.op = .call { callee := .builtin .append, args := #[s, x], argTypes := #[59, 59] })
    (base G : Nat) (v : Value) (l : List (Int × Int)) (y : Int × Int) (hs : a.eval s = v) (hx : a.eval x = .slice (some ⟨G, 0, none⟩) 1 1) (hown : POwn W base v l) (hG : ∀ j u, (spCs y)[j]? = some u → W.cell? ⟨G, j, none⟩ = some u) (hlen : l.length ≤ 65536) (hbase : base ≤ W.heap.size)
    (h : ∀ v' w', POwn w' base v' (l ++ [y]) → Below base W w' → W.grownBy w' v.ownBlock → wpList Try.prog ops Q rest (a.put o.dst v') w') : wpList Try.prog ops Q (o :: rest) a W :=
  wpList_plain hgd fun _ hK => wp_app_sp s x ho base G v l y hs hx hown hG hlen hbase fun v' w' h1 h2 h3 => hK _ _ (h v' w' h1 h2 h3)
theorem step_app_sp {W : World} {ops : Array Oper} {o : Oper} {a : Act} {K : Act → World → Prop} {Q : Exit → Act → World → Prop} {E : Prop} (hgd : o.guard = none) (s x : Operand)
    (ho : o.op = .call { callee := .builtin .append, args := #[s, x], argTypes := #[59, 59] })
    (base G : Nat) (v : Value) (l : List (Int × Int)) (y : Int × Int) (hs : a.eval s = v) (hx : a.eval x = .slice (some ⟨G, 0, none⟩) 1 1) (hown : POwn W base v l) (hG : ∀ j u, (spCs y)[j]? = some u → W.cell? ⟨G, j, none⟩ = some u) (hlen : l.length ≤ 65536) (hbase : base ≤ W.heap.size)
    (h : ∀ v' w', POwn w' base v' (l ++ [y]) → Below base W w' → W.grownBy w' v.ownBlock → K (a.put o.dst v') w') :
    if Region.wanted o (yielded ops a.tmps) = true then Oper.wp Try.prog o a W K Q else E := by
  have hw : Region.wanted o (yielded ops a.tmps) = true := by simp [Region.wanted, hgd]
  rw [if_pos hw]
  exact wp_app_sp s x ho base G v l y hs hx hown hG hlen hbase h
end Go.Proofs.Ytndcgliopckllaa
