/-
  append(s, l...): s the call's own, l any slice that reads as a list (nil too): the run, at Oper.wp, at a list, at a step of a region that draws.
-/
import Derived.Test.YtcpmhflkooipdaaDoorSeq
import Derived.Deep.AppendLies
namespace Go.Proofs.YtcpmhflkooipdaaDoor
open Go.RowKit
set_option maxRecDepth 20000

theorem run_app_rd {W : World} {base B : Nat} {v u : Value} {zs xs : List Int} (ty : TypeId) (hown : IOwn W base v zs) (hrd : IRd W B u xs) (hlen : zs.length + xs.length ≤ 65536) (hbase : base ≤ W.heap.size) :
    ∃ v' w', (Builtin.append_ #[29, 29] ty #[v, u]).run Tryd.prog W = .ok v' w' ∧ IOwn w' base v' (zs ++ xs) ∧ Below base W w' ∧ W.grownBy w' v.ownBlock := by
  obtain ⟨i0, hi, hz0, hz1, hz2⟩ := info_parts info_int
  obtain ⟨A, cap, rfl, hc⟩ := hrd
  have hl := World.ownsRow.lt hown
  cases A with
  | none =>
    have h0 : xs.length = 0 := by
      apply Classical.byContradiction
      intro h
      obtain ⟨g, hg, _⟩ := hc (by omega)
      cases hg
    obtain rfl : xs = [] := List.eq_nil_of_length_eq_zero h0
    rw [List.append_nil]
    refine ⟨v, W, ?_, hown, Below.refl _ _, rfl, rfl, rfl, Nat.le_refl _, fun _ _ _ => rfl⟩
    rcases hown.2 with ⟨rfl, h1⟩ | ⟨g, c, cur, rfl, _, _, h3, _⟩
    · simp [Builtin.append_, run_underlying Tryd.underlying29, sizeOf, typeInfo, hi, Builtin.lenOf, Builtin.firstCells]
    · simp [Builtin.append_, run_underlying Tryd.underlying29, sizeOf, typeInfo, hi, Builtin.lenOf, Builtin.firstCells, storeCells, h3]
  | some ad =>
    have hnews : ∀ j u, (xs.map (Value.int .i64))[j]? = some u → W.cell? (ad.add j) = some u := by
      intro j u hu
      rw [List.getElem?_map] at hu
      cases hj : xs[j]? with
      | none => rw [hj] at hu; cases hu
      | some y =>
        rw [hj] at hu
        injection hu with hu
        have hjl : j < xs.length := (List.getElem?_eq_some_iff.1 hj).1
        obtain ⟨g, hg, _, hcell⟩ := hc (by omega)
        injection hg with hg
        subst hg
        rw [Addr.add_lit, Nat.zero_add, hcell j hjl, ← hu]
        simp [List.getD, hj]
    obtain ⟨v', w', hr, h2, h3, _⟩ := run_append_own (P := Tryd.prog) W base 29 ty 3 i0 (.int .i64 0) 1 8 Tryd.underlying29 hi hz0 hz1 hz2 rfl (by decide) v zs.length (zs.map (Value.int .i64)) hown
      ad xs.length cap (xs.map (Value.int .i64)) (by simp) hnews (fun u hu => by
        obtain ⟨y, _, rfl⟩ := List.mem_map.1 hu
        rfl) (by unfold maxLen; omega) (by omega) hbase
    refine ⟨v', w', hr, ?_, (Below.refl base W).grown h3 hbase (fun k hk => (hl k hk).1), h3⟩
    unfold IOwn
    rw [List.length_append, List.map_append]
    exact h2

theorem wp_app_rd {W : World} {o : Oper} {a : Act} {K : Act → World → Prop} {Q : Exit → Act → World → Prop} (s x : Operand)
    (ho : o.op = .call { callee := .builtin .append, args := #[s, x], argTypes := #[29, 29] })
    (base B : Nat) (v u : Value) (zs xs : List Int) (hs : a.eval s = v) (hx : a.eval x = u) (hown : IOwn W base v zs) (hrd : IRd W B u xs) (hlen : zs.length + xs.length ≤ 65536) (hbase : base ≤ W.heap.size)
    (h : ∀ v' w', IOwn w' base v' (zs ++ xs) → Below base W w' → W.grownBy w' v.ownBlock → K (a.put o.dst v') w') : Oper.wp Tryd.prog o a W K Q := by
  obtain ⟨v', w', hrun, r1, r2, r3⟩ := run_app_rd o.type hown hrd hlen hbase
  unfold Oper.wp
  simp [execOp, ho, resolve, invoke, builtin, hs, hx, hrun, Result.andThen]
  exact h v' w' r1 r2 r3
theorem wpList_app_rd {W : World} {ops : Array Oper} {rest : List Oper} {o : Oper} {a : Act} {Q : Exit → Act → World → Prop} (hgd : o.guard = none) (s x : Operand)
    (ho : o.op = .call { callee := .builtin .append, args := #[s, x], argTypes := #[29, 29] })
    (base B : Nat) (v u : Value) (zs xs : List Int) (hs : a.eval s = v) (hx : a.eval x = u) (hown : IOwn W base v zs) (hrd : IRd W B u xs) (hlen : zs.length + xs.length ≤ 65536) (hbase : base ≤ W.heap.size)
    (h : ∀ v' w', IOwn w' base v' (zs ++ xs) → Below base W w' → W.grownBy w' v.ownBlock → wpList Tryd.prog ops Q rest (a.put o.dst v') w') : wpList Tryd.prog ops Q (o :: rest) a W :=
  wpList_plain hgd fun _ hK => wp_app_rd s x ho base B v u zs xs hs hx hown hrd hlen hbase fun v' w' h1 h2 h3 => hK _ _ (h v' w' h1 h2 h3)
theorem step_app_rd {W : World} {ops : Array Oper} {o : Oper} {a : Act} {K : Act → World → Prop} {Q : Exit → Act → World → Prop} {E : Prop} (hgd : o.guard = none) (s x : Operand)
    (ho : o.op = .call { callee := .builtin .append, args := #[s, x], argTypes := #[29, 29] })
    (base B : Nat) (v u : Value) (zs xs : List Int) (hs : a.eval s = v) (hx : a.eval x = u) (hown : IOwn W base v zs) (hrd : IRd W B u xs) (hlen : zs.length + xs.length ≤ 65536) (hbase : base ≤ W.heap.size)
    (h : ∀ v' w', IOwn w' base v' (zs ++ xs) → Below base W w' → W.grownBy w' v.ownBlock → K (a.put o.dst v') w') :
    if Region.wanted o (yielded ops a.tmps) = true then Oper.wp Tryd.prog o a W K Q else E := by
  have hw : Region.wanted o (yielded ops a.tmps) = true := by simp [Region.wanted, hgd]
  rw [if_pos hw]
  exact wp_app_rd s x ho base B v u zs xs hs hx hown hrd hlen hbase h

/-- '[]int{}': a slice of the call's own that holds nothing. -/
theorem IOwn.empty {W : World} {base g : Nat} (h : Lies W g 3 #[]) (hg : base ≤ g) : IOwn W base (.slice (some ⟨g, 0, none⟩) 0 0) [] :=
  ⟨rfl, .inr ⟨g, 0, #[], rfl, hg, h, Nat.le_refl _, Nat.zero_le _, rfl, rfl⟩⟩
/-- '[]int{y}' reads so. -/
theorem IRd.one {W : World} {g : Nat} {y : Int} (h : Lies W g 3 #[.int .i64 y]) : IRd W W.heap.size (.slice (some ⟨g, 0, none⟩) 1 1) [y] :=
  ⟨_, 1, rfl, fun _ => ⟨g, rfl, h.lt, fun j hj => by
    obtain rfl : j = 0 := by simpa using hj
    rw [Lies.cell h]; rfl⟩⟩

/-! ### '[]int{}' and '[]int{y}' made in either order -/
theorem shp1 (wr : World) : Below wr.heap.size wr (wr.alloc (.cells #[] 3)).drew ∧ IOwn (wr.alloc (.cells #[] 3)).drew wr.heap.size (.slice (some ⟨wr.heap.size, 0, none⟩) 0 0) [] :=
  ⟨((Below.refl _ _).alloc (Nat.le_refl _) _).drew, IOwn.drew (IOwn.empty (Lies.new _ _ _) (Nat.le_refl _))⟩
theorem shp2 (wr : World) (y : Int) : Below wr.heap.size wr ((wr.alloc (.cells #[] 3)).alloc (.cells #[.int .i64 y] 3)).drew ∧ IOwn ((wr.alloc (.cells #[] 3)).alloc (.cells #[.int .i64 y] 3)).drew wr.heap.size (.slice (some ⟨wr.heap.size, 0, none⟩) 0 0) []
    ∧ Lies ((wr.alloc (.cells #[] 3)).alloc (.cells #[.int .i64 y] 3)).drew (wr.heap.size + 1) 3 #[.int .i64 y] := by
  refine ⟨(((Below.refl _ _).alloc (Nat.le_refl _) _).alloc (by simp) _).drew, IOwn.drew (IOwn.alloc (IOwn.empty (Lies.new _ _ _) (Nat.le_refl _)) _), Lies.drew ?_⟩
  have := Lies.new (wr.alloc (.cells #[] 3)) 3 #[.int .i64 y]
  rwa [World.size_alloc] at this
theorem shp3 (wr : World) (y : Int) : Below wr.heap.size wr ((wr.alloc (.cells #[.int .i64 y] 3)).alloc (.cells #[] 3)).drew ∧ IOwn ((wr.alloc (.cells #[.int .i64 y] 3)).alloc (.cells #[] 3)).drew wr.heap.size (.slice (some ⟨wr.heap.size + 1, 0, none⟩) 0 0) []
    ∧ Lies ((wr.alloc (.cells #[.int .i64 y] 3)).alloc (.cells #[] 3)).drew wr.heap.size 3 #[.int .i64 y] := by
  have := Lies.new (wr.alloc (.cells #[.int .i64 y] 3)) 3 #[]
  rw [World.size_alloc] at this
  exact ⟨(((Below.refl _ _).alloc (Nat.le_refl _) _).alloc (by simp) _).drew, IOwn.drew (IOwn.empty this (by omega)), Lies.drew (Lies.alloc (Lies.new _ _ _) _)⟩
theorem Lies.grown {W w' : World} {g : Nat} {t : TypeId} {cs : Array Value} {row : Option Nat} (h : Lies W g t cs) (hg : W.grownBy w' row) (hne : some g ≠ row) : Lies w' g t cs := h.keep (hg.block g h.lt hne)
end Go.Proofs.YtcpmhflkooipdaaDoor
