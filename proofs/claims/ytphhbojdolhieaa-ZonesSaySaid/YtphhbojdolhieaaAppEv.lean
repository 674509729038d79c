/-
  append(s, x): events.
-/
import Derived.Test.YtphhbojdolhieaaAppRow
namespace Go.Proofs.Ytphhbojdolhieaa
open Go.RowKit
set_option maxRecDepth 20000
theorem info_ev : (Try.prog.info? 55).map (fun i => (i.zero, i.size, i.bytes)) = some (some (evV default), 4, 32) := by kernel_rfl
theorem EOwn.then_ {w w' : World} {B : Nat} {v : Value} {l : List Ev} (h : EOwn w B v l) (hb : Below w.heap.size w w') : EOwn w' B v l :=
  World.ownsRow.kept h (row := none) ⟨hb.os, hb.tape, hb.output, hb.size, fun k hk _ => hb.block k hk⟩ (by
    cases hv : v.ownBlock with
    | none => exact .inl rfl
    | some k => exact .inr (by simp))
theorem EOwn.alloc {w : World} {B : Nat} {v : Value} {l : List Ev} (h : EOwn w B v l) (o : Obj) : EOwn (w.alloc o) B v l := World.ownsRow.alloc h o
theorem run_app_ev {W : World} {base G : Nat} {v : Value} {l : List Ev} {y : Ev} (ty : TypeId) (hown : EOwn W base v l) (hG : ∀ j u, (evCs y)[j]? = some u → W.cell? ⟨G, j, none⟩ = some u) (hlen : l.length ≤ 65536) (hbase : base ≤ W.heap.size) :
    ∃ v' w', (Builtin.append_ #[22, 22] ty #[v, .slice (some ⟨G, 0, none⟩) 1 1]).run Try.prog W = .ok v' w' ∧ EOwn w' base v' (l ++ [y]) ∧ Below base W w' ∧ W.grownBy w' v.ownBlock := by
  obtain ⟨i0, hi, hz0, hz1, hz2⟩ := info_of info_ev
  have hl := World.ownsRow.lt hown
  obtain ⟨v', w', hr, h2, h3, _⟩ := run_append_own (P := Try.prog) W base 22 ty 55 i0 (evV default) 4 32 Try.underlying22 hi hz0 hz1 hz2 rfl (by decide) v l.length (l.flatMap evCs) hown
    ⟨G, 0, none⟩ 1 1 (evCs y) rfl (fun j u hu => by
      rw [Addr.add_lit, Nat.zero_add]
      exact hG j u hu) (fun u hu => by
      simp only [List.mem_cons, List.not_mem_nil, or_false] at hu
      rcases hu with rfl | rfl | rfl | rfl <;> rfl) (by unfold maxLen; omega) (by omega) hbase
  refine ⟨v', w', hr, ?_, (Below.refl base W).grown h3 hbase (fun k hk => (hl k hk).1), h3⟩
  unfold EOwn
  rw [List.length_append, List.flatMap_append]
  simpa using h2
theorem own_sliceE {w : World} {B : Nat} {v : Value} {l : List Ev} (h : EOwn w B v l) : ∃ A c, v = .slice A l.length c := by
  obtain ⟨A, c, h, _⟩ := h.rd.is
  exact ⟨A, c, h⟩
theorem wp_app_ev {W : World} {o : Oper} {a : Act} {K : Act → World → Prop} {Q : Exit → Act → World → Prop} (s x : Operand)
    (ho : o.op = .call { callee := .builtin .append, args := #[s, x], argTypes := #[22, 22] })
    (base G : Nat) (v : Value) (l : List Ev) (y : Ev) (hs : a.eval s = v) (hx : a.eval x = .slice (some ⟨G, 0, none⟩) 1 1) (hown : EOwn W base v l) (hG : ∀ j u, (evCs y)[j]? = some u → W.cell? ⟨G, j, none⟩ = some u) (hlen : l.length ≤ 65536) (hbase : base ≤ W.heap.size)
    (h : ∀ v' w', EOwn w' base v' (l ++ [y]) → Below base W w' → W.grownBy w' v.ownBlock → K (a.put o.dst v') w') : Oper.wp Try.prog o a W K Q := by
  obtain ⟨v', w', hrun, r1, r2, r3⟩ := run_app_ev o.type hown hG hlen hbase
  unfold Oper.wp
  simp [execOp, ho, resolve, invoke, builtin, hs, hx, hrun, Result.andThen]
  exact h v' w' r1 r2 r3
theorem wpList_app_ev {W : World} {ops : Array Oper} {rest : List Oper} {o : Oper} {a : Act} {Q : Exit → Act → World → Prop} (hgd : o.guard = none) (s x : Operand)
    (ho : o.op = .call { callee := .builtin .append, args := #[s, x], argTypes := #[22, 22] })
    (base G : Nat) (v : Value) (l : List Ev) (y : Ev) (hs : a.eval s = v) (hx : a.eval x = .slice (some ⟨G, 0, none⟩) 1 1) (hown : EOwn W base v l) (hG : ∀ j u, (evCs y)[j]? = some u → W.cell? ⟨G, j, none⟩ = some u) (hlen : l.length ≤ 65536) (hbase : base ≤ W.heap.size)
    (h : ∀ v' w', EOwn w' base v' (l ++ [y]) → Below base W w' → W.grownBy w' v.ownBlock → wpList Try.prog ops Q rest (a.put o.dst v') w') : wpList Try.prog ops Q (o :: rest) a W :=
  wpList_plain hgd fun _ hK => wp_app_ev s x ho base G v l y hs hx hown hG hlen hbase fun v' w' h1 h2 h3 => hK _ _ (h v' w' h1 h2 h3)
theorem step_app_ev {W : World} {ops : Array Oper} {o : Oper} {a : Act} {K : Act → World → Prop} {Q : Exit → Act → World → Prop} {E : Prop} (hgd : o.guard = none) (s x : Operand)
    (ho : o.op = .call { callee := .builtin .append, args := #[s, x], argTypes := #[22, 22] })
    (base G : Nat) (v : Value) (l : List Ev) (y : Ev) (hs : a.eval s = v) (hx : a.eval x = .slice (some ⟨G, 0, none⟩) 1 1) (hown : EOwn W base v l) (hG : ∀ j u, (evCs y)[j]? = some u → W.cell? ⟨G, j, none⟩ = some u) (hlen : l.length ≤ 65536) (hbase : base ≤ W.heap.size)
    (h : ∀ v' w', EOwn w' base v' (l ++ [y]) → Below base W w' → W.grownBy w' v.ownBlock → K (a.put o.dst v') w') :
    if Region.wanted o (yielded ops a.tmps) = true then Oper.wp Try.prog o a W K Q else E := by
  have hw : Region.wanted o (yielded ops a.tmps) = true := by simp [Region.wanted, hgd]
  rw [if_pos hw]
  exact wp_app_ev s x ho base G v l y hs hx hown hG hlen hbase h
end Go.Proofs.Ytphhbojdolhieaa
