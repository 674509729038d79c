/-
  Rows of integers of the call's own, every cell of them known to be an integer; slices.Clone over integers.
-/
import Derived.Test.YtebcnhnkpmbgdaaLRd
import Derived.Test.YtebcnhnkpmbgdaaObjPure
import Derived.Lib.SliceRun
import Derived.Lib.JoinLaws
import Derived.Lib.AppendZeros
import Derived.Deep.AppendSrc
namespace Go.Proofs.Ytebcnhnkpmbgdaa
open Go.RowKit
set_option maxRecDepth 20000

/-- A row of integers in a block of the call's own (from B on): the list l, and integers up to the capacity. -/
def IOwn (w : World) (B : Nat) (v : Value) (l : List Int) : Prop :=
  (v = .slice none 0 0 ∧ l = []) ∨ ∃ (g cap : Nat) (zs : List Int), v = .slice (some ⟨g, 0, none⟩) l.length cap ∧ B ≤ g ∧ Lies w g 3 (zs.map (Value.int .i64)).toArray ∧ zs.length = cap ∧ l.length ≤ cap ∧ cap ≤ maxLen ∧ zs.take l.length = l

section
variable {w w' : World} {B : Nat} {v : Value} {l : List Int}
theorem int_cell {g : Nat} {t : TypeId} {zs : List Int} (h : Lies w g t (zs.map (Value.int .i64)).toArray) {j : Nat} {x : Int} (hx : zs[j]? = some x) : w.cell? ⟨g, j, none⟩ = some (.int .i64 x) := by
  rw [h.cell]
  simp [hx]
theorem take_at {zs l : List Int} (h : zs.take l.length = l) {j : Nat} {x : Int} (hx : l[j]? = some x) : zs[j]? = some x := by
  rw [← h, List.getElem?_take] at hx
  split at hx
  · exact hx
  · cases hx
theorem IOwn.rd (h : IOwn w B v l) : NRd w w.heap.size v l := by
  rcases h with ⟨rfl, rfl⟩ | ⟨g, cap, zs, rfl, hB, hL, hz, hc, hm, ht⟩
  · exact LRd.nil _ _
  · refine ⟨_, _, rfl, hc, hm, fun _ => ⟨g, 0, rfl, hL.lt, fun k x hk j u hu => ?_⟩⟩
    have hj : j = 0 := by
      have := (List.getElem?_eq_some_iff.1 hu).1
      simp at this
      omega
    subst hj
    simp only [List.getElem?_cons_zero, Option.some.injEq] at hu
    subst hu
    have := int_cell hL (take_at ht hk)
    simpa using this
theorem IOwn.keep (h : IOwn w B v l) (e : ∀ g, B ≤ g → g < w.heap.size → w'.heap[g]? = w.heap[g]?) : IOwn w' B v l := by
  rcases h with ⟨rfl, rfl⟩ | ⟨g, cap, zs, rfl, hB, hL, hz, hc, hm, ht⟩
  · exact Or.inl ⟨rfl, rfl⟩
  · exact Or.inr ⟨g, cap, zs, rfl, hB, hL.keep (e g hB hL.lt), hz, hc, hm, ht⟩
theorem IOwn.drew (h : IOwn w B v l) : IOwn w.drew B v l := h.keep fun _ _ _ => rfl
theorem IOwn.drewN (h : IOwn w B v l) (n : Nat) : IOwn (w.drewN n) B v l := h.keep fun _ _ _ => rfl
theorem IOwn.below (h : IOwn w B v l) (hb : Below w.heap.size w w') : IOwn w' B v l := h.keep fun g _ hg => hb.block g hg
theorem IOwn.lt (h : IOwn w B v l) {g o n cap : Nat} (e : v = .slice (some ⟨g, o, none⟩) n cap) : B ≤ g ∧ g < w.heap.size := by
  rcases h with ⟨rfl, rfl⟩ | ⟨g', cap, zs, rfl, hB, hL, hz, hc, hm, ht⟩
  · cases e
  · injection e with e
    injection e with e
    injection e with e
    subst e
    exact ⟨hB, hL.lt⟩
/-- The block of a row of one's own takes no store elsewhere amiss. -/
theorem IOwn.far (h : IOwn w B v l) {p : Addr} (hp : p.block < B) (u : Value) : IOwn (w.setCell p u) B v l :=
  h.keep fun g hg _ => Below.heap_setCell w p u g (by omega)
theorem IOwn.off (h : IOwn w B v l) {p : Addr} (hp : v.ownBlock ≠ some p.block) (u : Value) : IOwn (w.setCell p u) B v l := by
  rcases h with ⟨rfl, rfl⟩ | ⟨g, cap, zs, rfl, hB, hL, hz, hc, hm, ht⟩
  · exact Or.inl ⟨rfl, rfl⟩
  · exact Or.inr ⟨g, cap, zs, rfl, hB, hL.far (fun e => hp (by rw [← e]; rfl)) u, hz, hc, hm, ht⟩
end

theorem rdB0 (w : World) (q : Nat) : Below w.heap.size w (w.drewN q) := belowN (Below.refl _ _) q
theorem info_int : (Try.prog.info? 3).map (fun i => (i.zero, i.size, i.bytes)) = some (some (.int .i64 0), 1, 8) := by kernel_rfl
theorem zeros_int (k : Nat) : Builtin.zeroCells (Value.int .i64 0).cells k = ((List.replicate k (0 : Int)).map (Value.int .i64)).toArray := by
  apply Array.ext
  · simp [Builtin.zeroCells, Value.cells]
  · intro i h1 h2
    simp [Builtin.zeroCells, Value.cells, Nat.mod_one]
theorem ints_src (w : World) {g o n c : Nat} {l : List Int} (hn : l.length = n) (h : ∀ j x, l[j]? = some x → w.cell? ⟨g, o + j, none⟩ = some (.int .i64 x)) :
    Src Try.prog 1 23 (.slice (some ⟨g, o, none⟩) n c) n (l.map (Value.int .i64)) w :=
  Src.ofSlice w Try.underlying23 ⟨g, o, none⟩ n c (l.map (Value.int .i64)) (by simp [hn]) (fun j u hj => by
    rw [Addr.add_lit]
    rw [List.getElem?_map] at hj
    cases hx : l[j]? with
    | none => rw [hx] at hj; cases hj
    | some x =>
      rw [hx] at hj
      simp only [Option.map_some, Option.some.injEq] at hj
      subst hj
      exact h j x hx) (fun u hu => by
    obtain ⟨x, _, rfl⟩ := List.mem_map.1 hu
    rfl)
theorem LRd.ints {w : World} {B : Nat} {A : Option Addr} {n cap : Nat} {l : List Int} (h : NRd w B (.slice A n cap) l) (h0 : 0 < n) : ∃ g o, A = some ⟨g, o, none⟩ ∧ g < B ∧ ∀ j x, l[j]? = some x → w.cell? ⟨g, o + j, none⟩ = some (.int .i64 x) := by
  obtain ⟨A', cap', hv, h1, h2, h3⟩ := h
  injection hv with e1 e2 e3
  subst e1 e2 e3
  obtain ⟨g, o, rfl, hg, hc⟩ := h3 h0
  exact ⟨g, o, rfl, hg, fun j x hx => by simpa using hc j x hx 0 _ rfl⟩

/-- A row of integers that was just made, with zeros behind. -/
theorem own_made (w : World) (B : Nat) (l : List Int) {c : Nat} (hc : l.length ≤ c) (hm : c ≤ maxLen) (hB : B ≤ w.heap.size) :
    IOwn (w.alloc (.cells ((l.map (Value.int .i64)).toArray ++ Builtin.zeroCells (Value.int .i64 0).cells (c - l.length)) 3)) B (.slice (some ⟨w.heap.size, 0, none⟩) l.length c) l := by
  refine Or.inr ⟨_, c, l ++ List.replicate (c - l.length) 0, rfl, hB, ?_, by simp; omega, hc, hm, by simp⟩
  have := Lies.new w 3 ((l.map (Value.int .i64)).toArray ++ Builtin.zeroCells (Value.int .i64 0).cells (c - l.length))
  refine this.cast ?_
  rw [zeros_int]
  simp

set_option maxHeartbeats 1000000 in
theorem cloneI_any {v : Value} {l : List Int} {w : World} (h : NRd w w.heap.size v l) (hbig : l.length * 8 ≤ 140737488355328) :
    Calls Try.prog 43 #[v] w fun e w' => ∃ v', e = .returned v' ∧ IOwn w' w.heap.size v' l ∧ Below w.heap.size w w' := by
  obtain ⟨A, cap, rfl, m1, m2⟩ := h.is
  have hq := fun (W : World) (a : Option Addr) (n cap : Nat) => Lib.run_eql_slice_nil (P := Try.prog) W 23 3 a n cap 0 0 Try.underlying23
  obtain ⟨n, hn⟩ : ∃ n, n = l.length := ⟨_, rfl⟩
  cases A with
  | none =>
    have h0 : l.length = 0 := by
      apply Classical.byContradiction
      intro hp
      obtain ⟨g, o, hA, _⟩ := h.ints (by omega)
      cases hA
    have hl : l = [] := List.length_eq_zero_iff.1 h0
    subst hl
    go_enter Try.func43, Try.ntmps43
    go_wp2
    go_ret
    exact ⟨_, rfl, Or.inl ⟨rfl, rfl⟩, Below.refl _ _⟩
  | some a =>
    by_cases h0 : l.length = 0
    · have hl : l = [] := List.length_eq_zero_iff.1 h0
      subst hl
      have hsrc : Src Try.prog 1 23 (.slice (some a) 0 cap) 0 [] (w.alloc (.cells #[] 3)) :=
        Src.ofSlice _ Try.underlying23 a 0 cap [] rfl (fun j u hj => by simp at hj) (fun u hu => by cases hu)
      go_enter Try.func43, Try.ntmps43
      go_wp2_with (at_builtin; refine wpList_append_room1 _ rfl _ _ 23 23 rfl 3 _ _ Try.underlying23 info_int w.heap.size 0 0 0 rfl _ rfl 0 [] hsrc (by omega) (fun j hj => by simp at hj) (fun j hj => by simp at hj) ?_)
      go_ret
      refine ⟨_, rfl, ?_, (Below.refl _ _).alloc (Nat.le_refl _) _⟩
      exact Or.inr ⟨_, 0, [], rfl, Nat.le_refl _, Lies.new w 3 #[], rfl, by simp, by simp [maxLen], rfl⟩
    · obtain ⟨g, o, ha, hg, hc⟩ := h.ints (by omega)
      injection ha with ha
      subst ha
      obtain ⟨i0, hi0, hz0, hzs, hzb⟩ := info_parts info_int
      have hsrc : Src Try.prog i0.size 23 (.slice (some ⟨g, o, none⟩) l.length cap) l.length (l.map (Value.int .i64)) (w.alloc (.cells #[] 3)) := by
        rw [hzs]
        exact ints_src _ rfl fun j x hx => Lib.cell?_alloc_some _ (hc j x hx)
      have hold : (Builtin.firstCells i0.size 0 (.slice (some ⟨w.heap.size, 0, none⟩) 0 0)).run Try.prog (w.alloc (.cells #[] 3)).drew = .ok ([] : List Value).toArray (w.alloc (.cells #[] 3)).drew := by
        rw [hzs]
        exact run_firstCells_some _ 1 0 ⟨w.heap.size, 0, none⟩ 0 0 [] rfl (fun j v hj => by simp at hj)
      have hrun : ∀ ty, (Builtin.append_ #[23, 23] ty #[.slice (some ⟨w.heap.size, 0, none⟩) 0 0, .slice (some ⟨g, o, none⟩) l.length cap]).run Try.prog (w.alloc (.cells #[] 3)) = _ := fun ty =>
        run_append_grow_src (w.alloc (.cells #[] 3)) 23 23 ty 3 i0 _ Try.underlying23 hi0 hz0 (some ⟨w.heap.size, 0, none⟩) 0 0 [] hold _ l.length _ hsrc (by omega) (by omega) (by rw [hzb]; exact growslice_fits (by omega) (by omega))
      clear hsrc hold
      have HR := Lib.hid hrun
      clear hrun hc
      go_enter Try.func43, Try.ntmps43
      go_wp2_with (at_builtin; refine Lib.wpList_append_run _ rfl _ _ _ _ rfl _ _ rfl rfl _ _ (HR.out _) ?_)
      go_ret
      refine ⟨_, rfl, ?_, (((Below.refl _ _).alloc (Nat.le_refl _) _).drew).alloc (by simp) _⟩
      have := own_made (w.alloc (.cells #[] 3)) w.heap.size l (c := grownCap (w.alloc (.cells #[] 3)) (0 + l.length) 0 3) (by have := grownCap_ge (w.alloc (.cells #[] 3)) (0 + l.length) 0 3; omega) (grownCap_le_maxLen _ _ _ _ (by unfold maxLen; omega)) (by simp)
      have := this.drew
      simpa [Value.cells] using this
end Go.Proofs.Ytebcnhnkpmbgdaa
