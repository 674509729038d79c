/-
  append(s, x): events, as many as memory holds.
-/
import Derived.Test.YtebcnhnkpmbgdaaAppEv
import Derived.Deep.DeepAppendWide
namespace Go.Proofs.Ytebcnhnkpmbgdaa
open Go.RowKit
set_option maxRecDepth 20000

theorem run_app_evW {W : World} {base G : Nat} {v : Value} {l : List Ev} {y : Ev} (ty : TypeId) (hown : EOwn W base v l) (hG : ∀ j u, (evCs y)[j]? = some u → W.cell? ⟨G, j, none⟩ = some u) (hlen : ((l.length + 1) + (l.length + 1) / 4 + 192) * 32 ≤ 281474976710656) (hbase : base ≤ W.heap.size) :
    ∃ v' w', (Builtin.append_ #[24, 24] ty #[v, .slice (some ⟨G, 0, none⟩) 1 1]).run Try.prog W = .ok v' w' ∧ EOwn w' base v' (l ++ [y]) ∧ Below base W w' ∧ W.grownBy w' v.ownBlock := by
  obtain ⟨i0, hi, hz0, hz1, hz2⟩ := info_of info_ev
  have hl := World.ownsRow.lt hown
  obtain ⟨v', w', hr, h2, h3, _⟩ := run_append_own_wide (P := Try.prog) W base 24 ty 39 i0 (evV default) 4 32 Try.underlying24 hi hz0 hz1 hz2 rfl (by decide) v l.length (l.flatMap evCs) hown
    ⟨G, 0, none⟩ 1 1 (evCs y) rfl (fun j u hu => by
      rw [Addr.add_lit, Nat.zero_add]
      exact hG j u hu) (fun u hu => by
      simp only [List.mem_cons, List.not_mem_nil, or_false] at hu
      rcases hu with rfl | rfl | rfl | rfl <;> rfl) (by unfold maxLen; omega) hlen hbase
  refine ⟨v', w', hr, ?_, (Below.refl base W).grown h3 hbase (fun k hk => (hl k hk).1), h3⟩
  unfold EOwn
  rw [List.length_append, List.flatMap_append]
  simpa using h2
theorem wpList_app_evW {W : World} {ops : Array Oper} {rest : List Oper} {o : Oper} {a : Act} {Q : Exit → Act → World → Prop} (hgd : o.guard = none) (s x : Operand)
    (ho : o.op = .call { callee := .builtin .append, args := #[s, x], argTypes := #[24, 24] })
    (base G : Nat) (v : Value) (l : List Ev) (y : Ev) (hs : a.eval s = v) (hx : a.eval x = .slice (some ⟨G, 0, none⟩) 1 1) (hown : EOwn W base v l) (hG : ∀ j u, (evCs y)[j]? = some u → W.cell? ⟨G, j, none⟩ = some u) (hlen : ((l.length + 1) + (l.length + 1) / 4 + 192) * 32 ≤ 281474976710656) (hbase : base ≤ W.heap.size)
    (h : ∀ v' w', EOwn w' base v' (l ++ [y]) → Below base W w' → W.grownBy w' v.ownBlock → wpList Try.prog ops Q rest (a.put o.dst v') w') : wpList Try.prog ops Q (o :: rest) a W := by
  obtain ⟨v', w', hrun, r1, r2, r3⟩ := run_app_evW o.type hown hG hlen hbase
  refine wpList_plain hgd fun _ hK => ?_
  unfold Oper.wp
  simp [execOp, ho, resolve, invoke, builtin, hs, hx, hrun, Result.andThen]
  exact hK _ _ (h v' w' r1 r2 r3)
/-- What lies in no block of the row's is kept. -/
theorem EOwn.ne {w : World} {B : Nat} {v : Value} {l : List Ev} (h : EOwn w B v l) {P : Nat} (hP : w.heap.size ≤ P) : some P ≠ v.ownBlock := by
  intro e
  have := (World.ownsRow.lt h P e.symm).2
  omega
theorem Lies.grown {w w' : World} {g : Nat} {t : TypeId} {cs : Array Value} {row : Option Nat} (h : Lies w g t cs) (hg : w.grownBy w' row) (hne : some g ≠ row) : Lies w' g t cs := h.keep (hg.block g h.lt hne)
end Go.Proofs.Ytebcnhnkpmbgdaa
