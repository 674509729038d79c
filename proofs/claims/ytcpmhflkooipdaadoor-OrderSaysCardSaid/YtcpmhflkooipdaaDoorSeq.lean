/-
  Slices of integers of the call's own: make with a capacity, append of one; slices that read as a list.
-/
import Derived.Test.YtcpmhflkooipdaaDoorTab
import Derived.OwnWalk
import Derived.Test.YtcpmhflkooipdaaDoorRd
namespace Go.Proofs.YtcpmhflkooipdaaDoor
open Go.RowKit
set_option maxRecDepth 20000

/-- The value v is a slice of the call's own (in blocks from B on) that holds the integers xs. -/
def IOwn (w : World) (B : Nat) (v : Value) (xs : List Int) : Prop := w.ownsRow B 3 1 v xs.length (xs.map (Value.int .i64))

theorem IOwn.drew {w : World} {B : Nat} {v : Value} {xs : List Int} (h : IOwn w B v xs) : IOwn w.drew B v xs := h
theorem IOwn.alloc {w : World} {B : Nat} {v : Value} {xs : List Int} (h : IOwn w B v xs) (o : Obj) : IOwn (w.alloc o) B v xs := World.ownsRow.alloc h o
theorem IOwn.then_ {w w' : World} {B : Nat} {v : Value} {xs : List Int} (h : IOwn w B v xs) (hb : Below w.heap.size w w') : IOwn w' B v xs :=
  World.ownsRow.kept h (row := none) ⟨hb.os, hb.tape, hb.output, hb.size, fun k hk _ => hb.block k hk⟩ (by
    cases hv : v.ownBlock with
    | none => exact .inl rfl
    | some k => exact .inr (by simp))
theorem IOwn.mono {w : World} {B B' : Nat} {v : Value} {xs : List Int} (h : IOwn w B v xs) (hB : B' ≤ B) : IOwn w B' v xs := by
  obtain ⟨h1, h2⟩ := h
  refine ⟨h1, ?_⟩
  rcases h2 with h2 | ⟨g, cap, cur, h3, h4, h5⟩
  · exact .inl h2
  · exact .inr ⟨g, cap, cur, h3, Nat.le_trans hB h4, h5⟩

theorem made_cap (N : Nat) (hN : N ≤ 65536) (w : World) :
    (Instr.makeSlice 29 (.int .i64 0) (.int .i64 N)).run Tryd.prog w = .ok (.slice (some ⟨w.heap.size, 0, none⟩) 0 N) (w.alloc (.cells (tabCs N fun _ => 0) 3)) := by
  obtain ⟨i0, hi, hz0, hz1, hz2⟩ := info_parts info_int
  rw [run_make w 29 3 i0 (.int .i64 0) Tryd.underlying29 hi hz0 .i64 .i64 0 N (by omega) (by omega) (by rw [hz2]; omega) (by omega), hz1]
  simp only [Int.toNat_natCast, Nat.mul_one]
  congr 3
  apply Array.ext
  · simp [tabCs, madeCells]
  · intro j h1 h2
    simp [tabCs, madeCells, Value.cells, Nat.mod_one]

theorem IOwn.made (w : World) (N : Nat) (hN : N ≤ 65536) : IOwn (w.alloc (.cells (tabCs N fun _ => 0) 3)) w.heap.size (.slice (some ⟨w.heap.size, 0, none⟩) 0 N) [] :=
  World.ownsRow_made w _ N (Nat.le_refl _) (by unfold maxLen; omega) (by simp [tabCs])

/-- append(s, y), behind the block that holds y. -/
theorem app_one {W : World} {ops : Array Oper} {rest : List Oper} {o : Oper} {a : Act} {Q : Exit → Act → World → Prop} (hgd : o.guard = none) (s x : Operand)
    (ho : o.op = .call { callee := .builtin .append, args := #[s, x], argTypes := #[29, 29] })
    (B : Nat) (v : Value) (xs : List Int) (hs : a.eval s = v) (hown : IOwn W B v xs) (y : Int) (hx : a.eval x = .slice (some ⟨W.heap.size, 0, none⟩) 1 1)
    (hlen : xs.length ≤ 65536) (hB : B ≤ W.heap.size)
    (k : ∀ v' w', IOwn w' B v' (xs ++ [y]) → Below B W w' → wpList Tryd.prog ops Q rest (a.put o.dst v') w') :
    wpList Tryd.prog ops Q (o :: rest) a (W.alloc (.cells #[.int .i64 y] 3)) := by
  obtain ⟨i0, hi, hz0, hz1, hz2⟩ := info_parts info_int
  refine wpList_append_own _ hgd s x 29 ho B 3 i0 (.int .i64 0) 1 8 Tryd.underlying29 hi hz0 hz1 hz2 rfl (by decide) v xs.length (xs.map (Value.int .i64)) hs (World.ownsRow.alloc hown _)
    ⟨W.heap.size, 0, none⟩ 1 1 [.int .i64 y] hx rfl ?_ ?_ (by unfold maxLen; omega) (by omega) (by simp; omega) ?_
  · intro j u hu
    match j, hu with
    | 0, hu => injection hu with hu; subst hu; exact (World.cell?_alloc_at _ _ _ _ rfl).trans rfl
    | j + 1, hu => simp at hu
  · intro u hu
    simp at hu
    subst hu
    rfl
  · intro v' w' h1 h2 _
    refine k v' w' ?_ ?_
    · unfold IOwn
      simpa using h1
    · have hl := World.ownsRow.lt hown
      exact ((Below.refl B W).alloc hB _).grown h2 (by simp; omega) (fun k hk => (hl k hk).1)

theorem IOwn.rd {w : World} {B : Nat} {v : Value} {xs : List Int} (h : IOwn w B v xs) : IRd w w.heap.size v xs := by
  rcases h.2 with ⟨rfl, h0⟩ | ⟨g, cap, cur, rfl, h1, h2, h3⟩
  · exact ⟨none, 0, by rw [h0], fun h => by omega⟩
  · refine ⟨_, cap, rfl, fun _ => ⟨g, rfl, ?_, fun j hj => ?_⟩⟩
    · rcases Nat.lt_or_ge g w.heap.size with h' | h'
      · exact h'
      · rw [Array.getElem?_eq_none h'] at h2; cases h2
    · rw [World.ownsRow.cellAt h j (by omega)]
      simp [hj]
end Go.Proofs.YtcpmhflkooipdaaDoor
