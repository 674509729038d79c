/-
  Two rows of one's own of what is done, apart; one more behind one of them.
-/
import Derived.Test.YtebcnhnkpmbgdaaObjPlay
import Derived.Test.YtebcnhnkpmbgdaaAppRow
import Derived.Deep.AppendLies
import Derived.Lib.AppendZeros
namespace Go.Proofs.Ytebcnhnkpmbgdaa
open Go.RowKit
set_option maxRecDepth 20000

theorem info_dds : (Try.prog.info? 61).map (fun i => (i.zero, i.size, i.bytes)) = some (some (.agg #[.int .i64 0, .int .i64 0, .int .i64 0]), 3, 24) := by kernel_rfl
def DdOwn (w : World) (B : Nat) (v : Value) (l : List Dd) : Prop := w.ownsRow B 61 3 v l.length (l.flatMap ddCs)
theorem DdOwn.rd {w : World} {B : Nat} {v : Value} {l : List Dd} (h : DdOwn w B v l) : DRd w w.heap.size v l := LRd.of_own (fun _ => rfl) h
theorem DdOwn.keep {w w' : World} {B : Nat} {v : Value} {l : List Dd} (h : DdOwn w B v l) (e : ∀ g, v.ownBlock = some g → g < w.heap.size → w'.heap[g]? = w.heap[g]?) : DdOwn w' B v l := by
  refine ⟨h.1, h.2.elim (fun h => .inl h) fun ⟨g, cap, cur, h1, h2, h3, h4, h5, h6, h7⟩ => .inr ⟨g, cap, cur, h1, h2, ?_, h4, h5, h6, h7⟩⟩
  rw [e g (by rw [h1]; rfl) (Array.getElem?_eq_some_iff.1 h3).1]
  exact h3
theorem DdOwn.block {w : World} {B : Nat} {v : Value} {l : List Dd} (h : DdOwn w B v l) {g : Nat} (hg : v.ownBlock = some g) : B ≤ g ∧ g < w.heap.size := World.ownsRow.lt h g hg

structure TwoD (w : World) (B : Nat) (q s : Value) (lq ls : List Dd) : Prop where
  one : DdOwn w B q lq
  two : DdOwn w B s ls
  apart : ∀ k, q.ownBlock = some k → s.ownBlock ≠ some k
theorem TwoD.swap {w : World} {B : Nat} {q s : Value} {lq ls : List Dd} (h : TwoD w B q s lq ls) : TwoD w B s q ls lq := ⟨h.two, h.one, fun k h1 h2 => h.apart k h2 h1⟩
theorem TwoD.below {w w' : World} {B : Nat} {q s : Value} {lq ls : List Dd} (h : TwoD w B q s lq ls) (hb : Below w.heap.size w w') : TwoD w' B q s lq ls :=
  ⟨h.one.keep fun g _ hg => hb.block g hg, h.two.keep fun g _ hg => hb.block g hg, h.apart⟩
theorem TwoD.alloc {w : World} {B : Nat} {q s : Value} {lq ls : List Dd} (h : TwoD w B q s lq ls) (o : Obj) : TwoD (w.alloc o) B q s lq ls := h.below ((Below.refl _ _).alloc (Nat.le_refl _) o)
theorem TwoD.nil (w : World) (B : Nat) : TwoD w B (.slice none 0 0) (.slice none 0 0) [] [] := ⟨World.ownsRow_nil _ _ _ _, World.ownsRow_nil _ _ _ _, fun k h => by cases h⟩

theorem two_app {W : World} {B : Nat} {q s : Value} {lq ls : List Dd} {d : Dd} {G : Nat} (ty : TypeId) (h : TwoD W B q s lq ls) (hG : Lies W G 61 (ddCs d).toArray) (hB : B ≤ W.heap.size) (hlen : lq.length ≤ 1000) :
    ∃ g cap w', (Builtin.append_ #[54, 54] ty #[q, .slice (some ⟨G, 0, none⟩) 1 1]).run Try.prog W = .ok (.slice (some ⟨g, 0, none⟩) (lq.length + 1) cap) w' ∧ TwoD w' B (.slice (some ⟨g, 0, none⟩) (lq.length + 1) cap) s (lq ++ [d]) ls ∧ Below B W w' ∧ W.grownBy w' q.ownBlock := by
  obtain ⟨i0, hi, hz0, hz1, hz2⟩ := info_of info_dds
  obtain ⟨g, cap, w', hr, h2, h3, h4, h5⟩ := run_append_lies (P := Try.prog) W 54 ty B 61 i0 (.agg #[.int .i64 0, .int .i64 0, .int .i64 0]) 3 24 Try.underlying54 hi hz0 hz1 hz2 rfl (by decide) q lq.length (lq.flatMap ddCs) h.one
    ⟨G, 0, none⟩ 1 1 (ddCs d) rfl (fun j u hu => by
      rw [Addr.add_lit, Nat.zero_add, hG.cell]
      simpa using hu) (fun u hu => by
      simp only [List.mem_cons, List.not_mem_nil, or_false] at hu
      rcases hu with rfl | rfl | rfl <;> rfl) (by decide) (by unfold maxLen; omega) (by omega) hB W.heap.size rfl
  refine ⟨g, cap, w', hr, ⟨?_, ?_, ?_⟩, (Below.refl B W).grown h3 hB (fun k hk => (h.one.block hk).1), h3⟩
  · unfold DdOwn
    rw [List.length_append, List.flatMap_append]
    simpa using h2
  · refine h.two.keep fun k hk hlt => h3.block k hlt fun e => h.apart k e.symm hk
  · intro k hk hs
    have e : g = k := Option.some.inj hk
    subst e
    rcases h4 with h4 | h4
    · exact h.apart _ h4 hs
    · have := (h.two.block hs).2
      omega
theorem two_appV {W : World} {B : Nat} {q s : Value} {lq ls : List Dd} {d : Dd} {G : Nat} (ty : TypeId) (h : TwoD W B q s lq ls) (hG : Lies W G 61 (ddCs d).toArray) (hB : B ≤ W.heap.size) (hlen : lq.length ≤ 1000) :
    ∃ v w', (Builtin.append_ #[54, 54] ty #[q, .slice (some ⟨G, 0, none⟩) 1 1]).run Try.prog W = .ok v w' ∧ TwoD w' B v s (lq ++ [d]) ls ∧ Below B W w' ∧ W.grownBy w' q.ownBlock := by
  obtain ⟨g, cap, w', h1, h2, h3, h4⟩ := two_app ty h hG hB hlen
  exact ⟨_, w', h1, h2, h3, h4⟩
theorem Lies.grown {W w' : World} {G : Nat} {t : TypeId} {cs : Array Value} (h : Lies W G t cs) {r : Option Nat} (hg : W.grownBy w' r) (hne : r ≠ some G) : Lies w' G t cs := h.keep (hg.block G h.lt fun e => hne e.symm)

theorem step_app_run {W : World} {ops : Array Oper} {o : Oper} {a : Act} {K : Act → World → Prop} {Q : Exit → Act → World → Prop} {E : Prop} (hgd : o.guard = none) (s x : Operand) (t tn : TypeId)
    (ho : o.op = .call { callee := .builtin .append, args := #[s, x], argTypes := #[t, tn] }) (vs vx : Value) (hs : a.eval s = vs) (hx : a.eval x = vx)
    (v' : Value) (w' : World) (hr : (Builtin.append_ #[t, tn] o.type #[vs, vx]).run Try.prog W = .ok v' w') (h : K (a.put o.dst v') w') :
    if Region.wanted o (yielded ops a.tmps) = true then Oper.wp Try.prog o a W K Q else E := by
  have hw : Region.wanted o (yielded ops a.tmps) = true := by simp [Region.wanted, hgd]
  rw [if_pos hw]
  exact Lib.wp_append_run W s x t tn ho vs vx hs hx v' w' hr h
end Go.Proofs.Ytebcnhnkpmbgdaa
