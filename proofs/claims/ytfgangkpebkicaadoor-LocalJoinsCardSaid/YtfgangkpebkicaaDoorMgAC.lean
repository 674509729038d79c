/-
  Joined by a program out of: ObjMem, ObjOpen, ObjValid, Valid.
-/
import Derived.Test.YtfgangkpebkicaaDoorMgAA
import Derived.Test.YtfgangkpebkicaaDoorMgAB
import Derived.Lib.SliceRun
import Derived.Lib.JoinLaws
import Derived.Lib.AppendZeros
import Derived.Deep.AppendSrc

/-
  Rows of integers of the call's own, every cell of them known to be an integer; slices.Clone over integers.
-/
namespace Go.Proofs.YtfgangkpebkicaaDoor
open Go.RowKit
set_option maxRecDepth 20000
/-- A row of integers in a block of the call's own (from B on): the list l, and integers up to the capacity. -/
def IOwn (w : World) (B : Nat) (v : Value) (l : List Int) : Prop :=
  (v = .slice none 0 0 ∧ l = []) ∨ ∃ (g cap : Nat) (zs : List Int), v = .slice (some ⟨g, 0, none⟩) l.length cap ∧ B ≤ g ∧ Lies w g 3 (zs.map (Value.int .i64)).toArray ∧ zs.length = cap ∧ l.length ≤ cap ∧ cap ≤ maxLen ∧ zs.take l.length = l
section
variable {w w' : World} {B : Nat} {v : Value} {l : List Int}
theorem int_cell {g : Nat} {t : TypeId} {zs : List Int} (h : Lies w g t (zs.map (Value.int .i64)).toArray) {j : Nat} {x : Int} (hx : zs[j]? = some x) : w.cell? ⟨g, j, none⟩ = some (.int .i64 x) := by
  rw [h.cell]
  simp [hx]
theorem take_at {zs l : List Int} (h : zs.take l.length = l) {j : Nat} {x : Int} (hx : l[j]? = some x) : zs[j]? = some x := by
  rw [← h, List.getElem?_take] at hx
  split at hx
  · exact hx
  · cases hx
theorem IOwn.rd (h : IOwn w B v l) : NRd w w.heap.size v l := by
  rcases h with ⟨rfl, rfl⟩ | ⟨g, cap, zs, rfl, hB, hL, hz, hc, hm, ht⟩
  · exact LRd.nil _ _
  · refine ⟨_, _, rfl, hc, hm, fun _ => ⟨g, 0, rfl, hL.lt, fun k x hk j u hu => ?_⟩⟩
    have hj : j = 0 := by
      have := (List.getElem?_eq_some_iff.1 hu).1
      simp at this
      omega
    subst hj
    simp only [List.getElem?_cons_zero, Option.some.injEq] at hu
    subst hu
    have := int_cell hL (take_at ht hk)
    simpa using this
theorem IOwn.keep (h : IOwn w B v l) (e : ∀ g, B ≤ g → g < w.heap.size → w'.heap[g]? = w.heap[g]?) : IOwn w' B v l := by
  rcases h with ⟨rfl, rfl⟩ | ⟨g, cap, zs, rfl, hB, hL, hz, hc, hm, ht⟩
  · exact Or.inl ⟨rfl, rfl⟩
  · exact Or.inr ⟨g, cap, zs, rfl, hB, hL.keep (e g hB hL.lt), hz, hc, hm, ht⟩
theorem IOwn.drew (h : IOwn w B v l) : IOwn w.drew B v l := h.keep fun _ _ _ => rfl
theorem IOwn.drewN (h : IOwn w B v l) (n : Nat) : IOwn (w.drewN n) B v l := h.keep fun _ _ _ => rfl
theorem IOwn.below (h : IOwn w B v l) (hb : Below w.heap.size w w') : IOwn w' B v l := h.keep fun g _ hg => hb.block g hg
theorem IOwn.lt (h : IOwn w B v l) {g o n cap : Nat} (e : v = .slice (some ⟨g, o, none⟩) n cap) : B ≤ g ∧ g < w.heap.size := by
  rcases h with ⟨rfl, rfl⟩ | ⟨g', cap, zs, rfl, hB, hL, hz, hc, hm, ht⟩
  · cases e
  · injection e with e
    injection e with e
    injection e with e
    subst e
    exact ⟨hB, hL.lt⟩
/-- The block of a row of one's own takes no store elsewhere amiss. -/
theorem IOwn.far (h : IOwn w B v l) {p : Addr} (hp : p.block < B) (u : Value) : IOwn (w.setCell p u) B v l :=
  h.keep fun g hg _ => Below.heap_setCell w p u g (by omega)
theorem IOwn.off (h : IOwn w B v l) {p : Addr} (hp : v.ownBlock ≠ some p.block) (u : Value) : IOwn (w.setCell p u) B v l := by
  rcases h with ⟨rfl, rfl⟩ | ⟨g, cap, zs, rfl, hB, hL, hz, hc, hm, ht⟩
  · exact Or.inl ⟨rfl, rfl⟩
  · exact Or.inr ⟨g, cap, zs, rfl, hB, hL.far (fun e => hp (by rw [← e]; rfl)) u, hz, hc, hm, ht⟩
end
theorem rdB0 (w : World) (q : Nat) : Below w.heap.size w (w.drewN q) := belowN (Below.refl _ _) q
theorem info_int : (Tryd.prog.info? 3).map (fun i => (i.zero, i.size, i.bytes)) = some (some (.int .i64 0), 1, 8) := by kernel_rfl
theorem zeros_int (k : Nat) : Builtin.zeroCells (Value.int .i64 0).cells k = ((List.replicate k (0 : Int)).map (Value.int .i64)).toArray := by
  apply Array.ext
  · simp [Builtin.zeroCells, Value.cells]
  · intro i h1 h2
    simp [Builtin.zeroCells, Value.cells, Nat.mod_one]
theorem ints_src (w : World) {g o n c : Nat} {l : List Int} (hn : l.length = n) (h : ∀ j x, l[j]? = some x → w.cell? ⟨g, o + j, none⟩ = some (.int .i64 x)) :
    Src Tryd.prog 1 22 (.slice (some ⟨g, o, none⟩) n c) n (l.map (Value.int .i64)) w :=
  Src.ofSlice w Tryd.underlying22 ⟨g, o, none⟩ n c (l.map (Value.int .i64)) (by simp [hn]) (fun j u hj => by
    rw [Addr.add_lit]
    rw [List.getElem?_map] at hj
    cases hx : l[j]? with
    | none => rw [hx] at hj; cases hj
    | some x =>
      rw [hx] at hj
      simp only [Option.map_some, Option.some.injEq] at hj
      subst hj
      exact h j x hx) (fun u hu => by
    obtain ⟨x, _, rfl⟩ := List.mem_map.1 hu
    rfl)
theorem LRd.ints {w : World} {B : Nat} {A : Option Addr} {n cap : Nat} {l : List Int} (h : NRd w B (.slice A n cap) l) (h0 : 0 < n) : ∃ g o, A = some ⟨g, o, none⟩ ∧ g < B ∧ ∀ j x, l[j]? = some x → w.cell? ⟨g, o + j, none⟩ = some (.int .i64 x) := by
  obtain ⟨A', cap', hv, h1, h2, h3⟩ := h
  injection hv with e1 e2 e3
  subst e1 e2 e3
  obtain ⟨g, o, rfl, hg, hc⟩ := h3 h0
  exact ⟨g, o, rfl, hg, fun j x hx => by simpa using hc j x hx 0 _ rfl⟩
/-- A row of integers that was just made, with zeros behind. -/
theorem own_made (w : World) (B : Nat) (l : List Int) {c : Nat} (hc : l.length ≤ c) (hm : c ≤ maxLen) (hB : B ≤ w.heap.size) :
    IOwn (w.alloc (.cells ((l.map (Value.int .i64)).toArray ++ Builtin.zeroCells (Value.int .i64 0).cells (c - l.length)) 3)) B (.slice (some ⟨w.heap.size, 0, none⟩) l.length c) l := by
  refine Or.inr ⟨_, c, l ++ List.replicate (c - l.length) 0, rfl, hB, ?_, by simp; omega, hc, hm, by simp⟩
  have := Lies.new w 3 ((l.map (Value.int .i64)).toArray ++ Builtin.zeroCells (Value.int .i64 0).cells (c - l.length))
  refine this.cast ?_
  rw [zeros_int]
  simp
set_option maxHeartbeats 1000000 in
theorem cloneI_any {v : Value} {l : List Int} {w : World} (h : NRd w w.heap.size v l) (hbig : l.length * 8 ≤ 140737488355328) :
    Calls Tryd.prog 110 #[v] w fun e w' => ∃ v', e = .returned v' ∧ IOwn w' w.heap.size v' l ∧ Below w.heap.size w w' := by
  obtain ⟨A, cap, rfl, m1, m2⟩ := h.is
  have hq := fun (W : World) (a : Option Addr) (n cap : Nat) => Lib.run_eql_slice_nil (P := Tryd.prog) W 22 3 a n cap 0 0 Tryd.underlying22
  obtain ⟨n, hn⟩ : ∃ n, n = l.length := ⟨_, rfl⟩
  cases A with
  | none =>
    have h0 : l.length = 0 := by
      apply Classical.byContradiction
      intro hp
      obtain ⟨g, o, hA, _⟩ := h.ints (by omega)
      cases hA
    have hl : l = [] := List.length_eq_zero_iff.1 h0
    subst hl
    go_enter Tryd.func110, Tryd.ntmps110
    go_wp2
    go_ret
    exact ⟨_, rfl, Or.inl ⟨rfl, rfl⟩, Below.refl _ _⟩
  | some a =>
    by_cases h0 : l.length = 0
    · have hl : l = [] := List.length_eq_zero_iff.1 h0
      subst hl
      have hsrc : Src Tryd.prog 1 22 (.slice (some a) 0 cap) 0 [] (w.alloc (.cells #[] 3)) :=
        Src.ofSlice _ Tryd.underlying22 a 0 cap [] rfl (fun j u hj => by simp at hj) (fun u hu => by cases hu)
      go_enter Tryd.func110, Tryd.ntmps110
      go_wp2_with (at_builtin; refine wpList_append_room1 _ rfl _ _ 22 22 rfl 3 _ _ Tryd.underlying22 info_int w.heap.size 0 0 0 rfl _ rfl 0 [] hsrc (by omega) (fun j hj => by simp at hj) (fun j hj => by simp at hj) ?_)
      go_ret
      refine ⟨_, rfl, ?_, (Below.refl _ _).alloc (Nat.le_refl _) _⟩
      exact Or.inr ⟨_, 0, [], rfl, Nat.le_refl _, Lies.new w 3 #[], rfl, by simp, by simp [maxLen], rfl⟩
    · obtain ⟨g, o, ha, hg, hc⟩ := h.ints (by omega)
      injection ha with ha
      subst ha
      obtain ⟨i0, hi0, hz0, hzs, hzb⟩ := info_parts info_int
      have hsrc : Src Tryd.prog i0.size 22 (.slice (some ⟨g, o, none⟩) l.length cap) l.length (l.map (Value.int .i64)) (w.alloc (.cells #[] 3)) := by
        rw [hzs]
        exact ints_src _ rfl fun j x hx => Lib.cell?_alloc_some _ (hc j x hx)
      have hold : (Builtin.firstCells i0.size 0 (.slice (some ⟨w.heap.size, 0, none⟩) 0 0)).run Tryd.prog (w.alloc (.cells #[] 3)).drew = .ok ([] : List Value).toArray (w.alloc (.cells #[] 3)).drew := by
        rw [hzs]
        exact run_firstCells_some _ 1 0 ⟨w.heap.size, 0, none⟩ 0 0 [] rfl (fun j v hj => by simp at hj)
      have hrun : ∀ ty, (Builtin.append_ #[22, 22] ty #[.slice (some ⟨w.heap.size, 0, none⟩) 0 0, .slice (some ⟨g, o, none⟩) l.length cap]).run Tryd.prog (w.alloc (.cells #[] 3)) = _ := fun ty =>
        run_append_grow_src (w.alloc (.cells #[] 3)) 22 22 ty 3 i0 _ Tryd.underlying22 hi0 hz0 (some ⟨w.heap.size, 0, none⟩) 0 0 [] hold _ l.length _ hsrc (by omega) (by omega) (by rw [hzb]; exact growslice_fits (by omega) (by omega))
      clear hsrc hold
      have HR := Lib.hid hrun
      clear hrun hc
      go_enter Tryd.func110, Tryd.ntmps110
      go_wp2_with (at_builtin; refine Lib.wpList_append_run _ rfl _ _ _ _ rfl _ _ rfl rfl _ _ (HR.out _) ?_)
      go_ret
      refine ⟨_, rfl, ?_, (((Below.refl _ _).alloc (Nat.le_refl _) _).drew).alloc (by simp) _⟩
      have := own_made (w.alloc (.cells #[] 3)) w.heap.size l (c := grownCap (w.alloc (.cells #[] 3)) (0 + l.length) 0 3) (by have := grownCap_ge (w.alloc (.cells #[] 3)) (0 + l.length) 0 3; omega) (grownCap_le_maxLen _ _ _ _ (by unfold maxLen; omega)) (by simp)
      have := this.drew
      simpa [Value.cells] using this
end Go.Proofs.YtfgangkpebkicaaDoor

/-
  Contracts of object.open.
-/
namespace Go.Proofs.YtfgangkpebkicaaDoor
open Go.RowKit
set_option maxRecDepth 20000
theorem open_reg (A : Option Addr) (n c : Nat) (w : World) : Calls Tryd.prog 95 #[.int .i64 1, .slice A n c] w fun e w' => e = .returned (.tuple #[.iface 177 (.pointer (some ⟨w.heap.size, 0, none⟩)), .bool true]) ∧ w' = w.alloc (.cells #[.slice A n c] 181) := by
  go_enter Tryd.func95, Tryd.ntmps95
  go_wp2
  go_ret2
  exact ⟨rfl, rfl⟩
theorem open_queue (A : Option Addr) (n c : Nat) (w : World) : Calls Tryd.prog 95 #[.int .i64 2, .slice A n c] w fun e w' => e = .returned (.tuple #[.iface 182 (.pointer (some ⟨w.heap.size, 0, none⟩)), .bool true]) ∧ w' = w.alloc (.cells #[.slice A n c] 185) := by
  go_enter Tryd.func95, Tryd.ntmps95
  go_wp2
  go_ret2
  exact ⟨rfl, rfl⟩
theorem open_stack (A : Option Addr) (n c : Nat) (w : World) : Calls Tryd.prog 95 #[.int .i64 3, .slice A n c] w fun e w' => e = .returned (.tuple #[.iface 186 (.pointer (some ⟨w.heap.size, 0, none⟩)), .bool true]) ∧ w' = w.alloc (.cells #[.slice A n c] 187) := by
  go_enter Tryd.func95, Tryd.ntmps95
  go_wp2
  go_ret2
  exact ⟨rfl, rfl⟩
theorem open_set (A : Option Addr) (n c : Nat) (w : World) : Calls Tryd.prog 95 #[.int .i64 4, .slice A n c] w fun e w' => e = .returned (.tuple #[.iface 188 (.pointer (some ⟨w.heap.size, 0, none⟩)), .bool true]) ∧ w' = w.alloc (.cells #[.slice A n c] 189) := by
  go_enter Tryd.func95, Tryd.ntmps95
  go_wp2
  go_ret2
  exact ⟨rfl, rfl⟩
theorem open_ticket (A : Option Addr) (n c : Nat) (w : World) : Calls Tryd.prog 95 #[.int .i64 5, .slice A n c] w fun e w' => e = .returned (.tuple #[.iface 190 (.pointer (some ⟨w.heap.size, 0, none⟩)), .bool true]) ∧ w' = w.alloc (.cells #[.slice A n c] 191) := by
  go_enter Tryd.func95, Tryd.ntmps95
  go_wp2
  go_ret2
  exact ⟨rfl, rfl⟩
theorem typ_ways (t : Int) : t = 1 ∨ t = 2 ∨ t = 3 ∨ t = 4 ∨ t = 5 ∨ ((t == 1) = false ∧ (t == 2) = false ∧ (t == 3) = false ∧ (t == 4) = false ∧ (t == 5) = false ∧ btw 1 t 5 = false) := by
  simp only [beq_eq_false_iff_ne, btw_not]
  omega
theorem open_none {typ : Int} (h : (typ == 1) = false ∧ (typ == 2) = false ∧ (typ == 3) = false ∧ (typ == 4) = false ∧ (typ == 5) = false) (A : Option Addr) (n c : Nat) (w : World) : Calls Tryd.prog 95 #[.int .i64 typ, .slice A n c] w fun e w' => e = .returned (.tuple #[.nilIface, .bool false]) ∧ w = w' := by
  obtain ⟨h1, h2, h3, h4, h5⟩ := h
  go_enter Tryd.func95, Tryd.ntmps95
  go_wp2
  go_ret2
  exact ⟨rfl, rfl⟩
theorem meth_reg_start (k : Nat) (a : Addr) (w : World) : (method (k + 8) 177 (.pointer (some a)) "alibi/object.start").run Tryd.prog w = .ok (139, .pointer (some a)) w := by kernel_rfl
theorem meth_reg_valid (k : Nat) (a : Addr) (w : World) : (method (k + 8) 177 (.pointer (some a)) "alibi/object.valid").run Tryd.prog w = .ok (141, .pointer (some a)) w := by kernel_rfl
theorem meth_reg_state (k : Nat) (a : Addr) (w : World) : (method (k + 8) 177 (.pointer (some a)) "alibi/object.state").run Tryd.prog w = .ok (140, .pointer (some a)) w := by kernel_rfl
theorem meth_reg_do (k : Nat) (a : Addr) (w : World) : (method (k + 8) 177 (.pointer (some a)) "alibi/object.do").run Tryd.prog w = .ok (138, .pointer (some a)) w := by kernel_rfl
theorem meth_queue_start (k : Nat) (a : Addr) (w : World) : (method (k + 8) 182 (.pointer (some a)) "alibi/object.start").run Tryd.prog w = .ok (144, .pointer (some a)) w := by kernel_rfl
theorem meth_queue_valid (k : Nat) (a : Addr) (w : World) : (method (k + 8) 182 (.pointer (some a)) "alibi/object.valid").run Tryd.prog w = .ok (146, .pointer (some a)) w := by kernel_rfl
theorem meth_queue_state (k : Nat) (a : Addr) (w : World) : (method (k + 8) 182 (.pointer (some a)) "alibi/object.state").run Tryd.prog w = .ok (145, .pointer (some a)) w := by kernel_rfl
theorem meth_queue_do (k : Nat) (a : Addr) (w : World) : (method (k + 8) 182 (.pointer (some a)) "alibi/object.do").run Tryd.prog w = .ok (143, .pointer (some a)) w := by kernel_rfl
theorem meth_stack_start (k : Nat) (a : Addr) (w : World) : (method (k + 8) 186 (.pointer (some a)) "alibi/object.start").run Tryd.prog w = .ok (144, .pointer (some a)) w := by kernel_rfl
theorem meth_stack_valid (k : Nat) (a : Addr) (w : World) : (method (k + 8) 186 (.pointer (some a)) "alibi/object.valid").run Tryd.prog w = .ok (146, .pointer (some a)) w := by kernel_rfl
theorem meth_stack_state (k : Nat) (a : Addr) (w : World) : (method (k + 8) 186 (.pointer (some a)) "alibi/object.state").run Tryd.prog w = .ok (145, .pointer (some a)) w := by kernel_rfl
theorem meth_stack_do (k : Nat) (a : Addr) (w : World) : (method (k + 8) 186 (.pointer (some a)) "alibi/object.do").run Tryd.prog w = .ok (155, .pointer (some a)) w := by kernel_rfl
theorem meth_set_start (k : Nat) (a : Addr) (w : World) : (method (k + 8) 188 (.pointer (some a)) "alibi/object.start").run Tryd.prog w = .ok (144, .pointer (some a)) w := by kernel_rfl
theorem meth_set_valid (k : Nat) (a : Addr) (w : World) : (method (k + 8) 188 (.pointer (some a)) "alibi/object.valid").run Tryd.prog w = .ok (157, .pointer (some a)) w := by kernel_rfl
theorem meth_set_state (k : Nat) (a : Addr) (w : World) : (method (k + 8) 188 (.pointer (some a)) "alibi/object.state").run Tryd.prog w = .ok (145, .pointer (some a)) w := by kernel_rfl
theorem meth_set_do (k : Nat) (a : Addr) (w : World) : (method (k + 8) 188 (.pointer (some a)) "alibi/object.do").run Tryd.prog w = .ok (156, .pointer (some a)) w := by kernel_rfl
theorem meth_ticket_start (k : Nat) (a : Addr) (w : World) : (method (k + 8) 190 (.pointer (some a)) "alibi/object.start").run Tryd.prog w = .ok (139, .pointer (some a)) w := by kernel_rfl
theorem meth_ticket_valid (k : Nat) (a : Addr) (w : World) : (method (k + 8) 190 (.pointer (some a)) "alibi/object.valid").run Tryd.prog w = .ok (141, .pointer (some a)) w := by kernel_rfl
theorem meth_ticket_state (k : Nat) (a : Addr) (w : World) : (method (k + 8) 190 (.pointer (some a)) "alibi/object.state").run Tryd.prog w = .ok (140, .pointer (some a)) w := by kernel_rfl
theorem meth_ticket_do (k : Nat) (a : Addr) (w : World) : (method (k + 8) 190 (.pointer (some a)) "alibi/object.do").run Tryd.prog w = .ok (160, .pointer (some a)) w := by kernel_rfl
end Go.Proofs.YtfgangkpebkicaaDoor

/-
  Contracts of object.within, and of valid of numbers, of rows, of sets.
-/
namespace Go.Proofs.YtfgangkpebkicaaDoor
open Go.RowKit
set_option maxRecDepth 20000
theorem owithin_any (n a b : Int) (w : World) : Calls Tryd.prog 142 #[.int .i64 n, .int .i64 a, .int .i64 b] w fun e w' => e = .returned (.bool (btw a n b)) ∧ w = w' := by
  by_cases h1 : a ≤ n
  · by_cases h2 : n ≤ b
    · have h : btw a n b = true := btw_iff.2 ⟨h1, h2⟩
      rw [h]
      clear h
      go_enter Tryd.func142, Tryd.ntmps142
      go_wp2
      go_ret
      exact ⟨rfl, rfl⟩
    · have h : btw a n b = false := btw_not.2 fun h => h2 h.2
      rw [h]
      clear h
      go_enter Tryd.func142, Tryd.ntmps142
      go_wp2
      go_ret
      exact ⟨rfl, rfl⟩
  · have h : btw a n b = false := btw_not.2 fun h => h1 h.1
    rw [h]
    clear h
    go_enter Tryd.func142, Tryd.ntmps142
    go_wp2
    go_ret
    exact ⟨rfl, rfl⟩
theorem owithin_yes {n a b : Int} (w : World) (h : btw a n b = true) : Calls Tryd.prog 142 #[.int .i64 n, .int .i64 a, .int .i64 b] w fun e w' => e = .returned (.bool true) ∧ w = w' := by
  have := owithin_any n a b w
  rwa [h] at this
theorem owithin_no {n a b : Int} (w : World) (h : btw a n b = false) : Calls Tryd.prog 142 #[.int .i64 n, .int .i64 a, .int .i64 b] w fun e w' => e = .returned (.bool false) ∧ w = w' := by
  have := owithin_any n a b w
  rwa [h] at this
theorem rec_cell {w : World} {g : Nat} {t : TypeId} {v : Value} (h : Lies w g t #[v]) : w.cell? ⟨g, 0, none⟩ = some v := by rw [h.cell]; rfl
set_option maxHeartbeats 1000000 in
theorem nvalid_any {g : Nat} {t : TypeId} {v : Value} {l : List Int} {w : World} (h : Lies w g t #[v]) (hr : NRd w w.heap.size v l) :
    Calls Tryd.prog 141 #[.pointer (some ⟨g, 0, none⟩)] w fun e w' => e = .returned (.bool (decide (l.length = 1) && btw 0 (l.getD 0 0) 1000)) ∧ w = w' := by
  have c0 := rec_cell h
  obtain ⟨A, cap, rfl, m1, m2⟩ := hr.is
  unfold maxLen at m2
  by_cases hl : l.length = 1
  · obtain ⟨gl, o, rfl, hgl, hc⟩ := hr.ints (by omega)
    have d0 := hc 0 (l.getD 0 0) (by rw [List.getD_eq_getElem?_getD, List.getElem?_eq_getElem (by omega)]; rfl)
    rw [Nat.add_zero] at d0
    rw [decide_eq_true hl, Bool.true_and]
    have HY := Lib.hid hc
    have HR := Lib.hid hr
    clear hc hr h
    generalize l.getD 0 0 = y at d0 ⊢
    rw [hl] at c0
    go_enter Tryd.func141, Tryd.ntmps141
    go_wp2_with (go_at_call 142; (with_reducible refine (owithin_any _ _ _ _).mono ?_); rintro e w' ⟨rfl, rfl⟩)
    go_ret
    exact ⟨rfl, rfl⟩
  · rw [decide_eq_false hl, Bool.false_and]
    have hz : ((l.length : Int) == 1) = false := by rw [beq_eq_false_iff_ne]; omega
    go_enter Tryd.func141, Tryd.ntmps141
    go_wp2
    go_ret
    exact ⟨rfl, rfl⟩
/-- All of a row are values. -/
def rowB (l : List Int) : Bool := l.all fun x => btw 1 x 1000
theorem rowB_yes {l : List Int} (h : ∀ (j : Nat) (x : Int), l[j]? = some x → btw 1 x 1000 = true) : rowB l = true := by
  unfold rowB
  rw [List.all_eq_true]
  intro x hx
  obtain ⟨j, hj, e⟩ := List.getElem_of_mem hx
  exact h j x (by rw [List.getElem?_eq_getElem hj, e])
theorem rowB_no {l : List Int} {j : Nat} {x : Int} (hx : l[j]? = some x) (h : btw 1 x 1000 = false) : rowB l = false := by
  unfold rowB
  rw [List.all_eq_false]
  exact ⟨x, List.mem_of_getElem? hx, by rw [h]; decide⟩
set_option maxHeartbeats 1000000 in
theorem rvalid_any {g : Nat} {t : TypeId} {v : Value} {l : List Int} {w : World} (h : Lies w g t #[v]) (hr : NRd w w.heap.size v l) :
    Calls Tryd.prog 146 #[.pointer (some ⟨g, 0, none⟩)] w fun e w' => e = .returned (.bool (rowB l)) ∧ w = w' := by
  have c0 := rec_cell h
  obtain ⟨A, cap, rfl, m1, m2⟩ := hr.is
  unfold maxLen at m2
  have HR := Lib.hid hr
  clear hr h
  obtain ⟨n, hn⟩ : ∃ n, n = l.length := ⟨_, rfl⟩
  have HN := Lib.hid hn
  rw [← hn] at c0 m1
  clear hn
  generalize hb : rowB l = b
  have HB := Lib.hid hb
  clear hb
  go_enter Tryd.func146, Tryd.ntmps146
  go_wp2
  go_loop [10] (fun i => ∃ k : Nat, k ≤ n ∧ i = .int .i64 k ∧ ∀ j x, j < k → l[j]? = some x → btw 1 x 1000 = true) (fun i => n - (intOf i).toNat)
  case atStart => exact ⟨0, by omega, rfl, fun j x hj => by omega⟩
  case round =>
    obtain ⟨k, hk, rfl, ha⟩ := hrel
    have HA := Lib.hid ha
    clear ha
    by_cases hkn : k < n
    · obtain ⟨x, hx⟩ : ∃ x, l[k]? = some x := ⟨_, List.getElem?_eq_getElem (by rw [← HN.out]; exact hkn)⟩
      have hr' := HR.out
      rw [← HN.out] at hr'
      obtain ⟨gl, o, rfl, -, d0⟩ := hr'.num hx
      have HX := Lib.hid hx
      clear hr' hx
      cases hw : btw 1 x 1000
      · have HW := Lib.hid hw
        have hc := fun W : World => owithin_no W hw
        have HC := Lib.hid hc
        clear hw hc
        go_wp2_with (go_at_call 142; (with_reducible refine (HC.out _).mono ?_); rintro e w' ⟨rfl, rfl⟩)
        go_ret
        exact ⟨ret_bool ((rowB_no HX.out HW.out).symm.trans HB.out), rfl⟩
      · have HW := Lib.hid hw
        have hc := fun W : World => owithin_yes W hw
        have HC := Lib.hid hc
        clear hw hc
        go_wp2_with (go_at_call 142; (with_reducible refine (HC.out _).mono ?_); rintro e w' ⟨rfl, rfl⟩)
        go_round
        case rel => exact ⟨k + 1, by omega, by go_num, fun j y hj hy => by
          rcases Nat.lt_or_ge j k with h | h
          · exact HA.out j y h hy
          · obtain rfl : j = k := by omega
            rw [HX.out] at hy
            injection hy with hy
            subst hy
            exact HW.out⟩
        case measure => simp [intOf]; omega
    · obtain rfl : k = n := by omega
      go_wp2
      go_ret
      exact ⟨ret_bool ((rowB_yes fun j x hx => HA.out j x (by rw [HN.out]; exact (List.getElem?_eq_some_iff.1 hx).1) hx).symm.trans HB.out), rfl⟩
set_option maxHeartbeats 2000000 in
theorem svalid_any {g : Nat} {t : TypeId} {v : Value} {l : List Int} {w : World} (h : Lies w g t #[v]) (hr : NRd w w.heap.size v l) :
    Calls Tryd.prog 157 #[.pointer (some ⟨g, 0, none⟩)] w fun e w' => e = .returned (.bool (rowB l && incrB l)) ∧ ∃ q, w' = w.drewN q := by
  obtain ⟨A, cap, rfl, m1, m2⟩ := hr.is
  unfold maxLen at m2
  have HR := Lib.hid hr
  have HL := Lib.hid h
  clear hr h
  obtain ⟨n, hn⟩ : ∃ n, n = l.length := ⟨_, rfl⟩
  have HN := Lib.hid hn
  rw [← hn] at m1
  have HL' := HL.out
  rw [← hn] at HL'
  clear HL hn
  have HL := Lib.hid HL'
  clear HL'
  generalize hb : (rowB l && incrB l) = b
  have HB := Lib.hid hb
  clear hb
  go_enter Tryd.func157, Tryd.ntmps157
  go_wp2_with fail
  go_loopw [3] (fun i wr => ∃ k : Nat, 1 ≤ k ∧ (k ≤ n ∨ k = 1) ∧ i = .int .i64 k ∧ (∀ j, j + 1 < k → j + 1 < l.length → l.getD j 0 < l.getD (j + 1) 0) ∧ ∃ q, wr = w.drewN q) (fun i _ => n - (intOf i).toNat)
  case atStart => exact ⟨1, by omega, by omega, rfl, fun j hj => by omega, 0, rfl⟩
  case round =>
    obtain ⟨k, hk1, hk2, rfl, ha, q, rfl⟩ := hrel
    have HA := Lib.hid ha
    clear ha
    have c0 := rec_cell HL.out
    by_cases hkn : k < n
    · obtain ⟨x, hx⟩ : ∃ x, l[k]? = some x := ⟨_, List.getElem?_eq_getElem (by rw [← HN.out]; exact hkn)⟩
      obtain ⟨y, hy⟩ : ∃ y, l[k - 1]? = some y := ⟨_, List.getElem?_eq_getElem (by rw [← HN.out]; omega)⟩
      have hr' := HR.out
      rw [← HN.out] at hr'
      obtain ⟨gl, o, hA, -, d0⟩ := hr'.num hx
      obtain ⟨gl', o', hA', -, d1⟩ := hr'.num hy
      rw [hA] at hA'
      injection hA' with hA'
      injection hA' with e1 e2
      subst e1 e2 hA
      have gx : l.getD k 0 = x := by rw [List.getD_eq_getElem?_getD, hx]; rfl
      have gy : l.getD (k - 1) 0 = y := by rw [List.getD_eq_getElem?_getD, hy]; rfl
      have HX := Lib.hid (And.intro gx gy)
      clear hr' hx hy gx gy
      have i0 : (0 : Int) ≤ (k : Int) - 1 := by omega
      have i1 : (k : Int) - 1 < (n : Int) := by omega
      have i2 : (k : Int) < (n : Int) := by omega
      have i3 : (0 : Int) ≤ (k : Int) := by omega
      have hs1 : IntKind.i64.wrap ((k : Int) - 1) = (k : Int) - 1 := IntWalk.i64_in _ (by omega)
      have hs2 : ((k : Int) - 1).toNat = k - 1 := by omega
      by_cases hle : x ≤ y
      · have hd : decide (x ≤ y) = true := decide_eq_true hle
        have HW := Lib.hid hle
        clear hle
        go_wp2_with fail
        go_quiet (fail)
        go_wp2_with fail
        go_ret
        refine ⟨ret_bool ?_, q + nq, World.drewN_drewN _ _ _⟩
        rw [← HB.out, not_sorted (i := k - 1) (by rw [← HN.out]; omega) (by
          rw [show k - 1 + 1 = k by omega, HX.out.1, HX.out.2]
          exact HW.out), Bool.and_false]
      · have hd : decide (x ≤ y) = false := decide_eq_false hle
        have HW := Lib.hid hle
        clear hle
        go_wp2_with fail
        go_quiet (fail)
        go_wp2_with fail
        go_roundw
        case rel => exact ⟨k + 1, by omega, by omega, by go_num, fun j hj hjl => by
          rcases Nat.lt_or_ge (j + 1) k with h | h
          · exact HA.out j h hjl
          · obtain rfl : j + 1 = k := by omega
            rw [HX.out.1]
            have := HX.out.2
            rw [Nat.add_sub_cancel] at this
            rw [this]
            have := HW.out
            omega, _, rfl⟩
        case measure => simp [intOf]; omega
    · have hi : incrB l = true := sorted_yes fun j hj => HA.out j (by rw [← HN.out] at hj; omega) hj
      have hv := rvalid_any (HL.out.drewN q) (by
        have := HR.out.below (rdB0 w q)
        rw [← HN.out] at this
        exact this)
      have HV := Lib.hid hv
      have HI := Lib.hid hi
      clear hv hi
      go_wp2_with fail
      refine HV.out.mono ?_
      rintro e w' ⟨rfl, rfl⟩
      go_wp2_with fail
      go_ret
      exact ⟨ret_bool (by rw [← HB.out, HI.out, Bool.and_true]), q, rfl⟩
end Go.Proofs.YtfgangkpebkicaaDoor

/-
  Contract of history.validTypes.
-/
namespace Go.Proofs.YtfgangkpebkicaaDoor
open Go.RowKit
set_option maxRecDepth 20000
theorem typesB_len {ts : List Int} (h : ¬ (1 ≤ ts.length ∧ ts.length ≤ 4)) : typesB ts = false := by
  unfold typesB; rw [decide_eq_false h]; rfl
theorem typesB_bad {ts : List Int} {k : Nat} {x : Int} (hk : ts[k]? = some x) (h : btw 1 x 5 = false) : typesB ts = false := by
  unfold typesB
  rw [Bool.and_eq_false_iff]
  right
  rw [List.all_eq_false]
  refine ⟨x, List.mem_of_getElem? hk, ?_⟩
  rw [btw_not] at h
  simpa using h
theorem typesB_ok {ts : List Int} (h : 1 ≤ ts.length ∧ ts.length ≤ 4) (ha : ∀ i x, i < ts.length → ts[i]? = some x → btw 1 x 5 = true) : typesB ts = true := by
  unfold typesB
  rw [decide_eq_true h, Bool.true_and, List.all_eq_true]
  intro x hx
  obtain ⟨i, hi, rfl⟩ := List.getElem_of_mem hx
  have := btw_iff.1 (ha i _ hi (List.getElem?_eq_getElem hi))
  simpa using this
set_option maxHeartbeats 1000000 in
theorem valid_any {B : Nat} {v : Value} {ts : List Int} {w : World} (h : NRd w B v ts) :
    Calls Tryd.prog 61 #[v] w fun e w' => e = .returned (.bool (typesB ts)) ∧ w = w' := by
  obtain ⟨A, cap, rfl, hn, hm⟩ := h.is
  have H := Lib.hid h
  clear h
  obtain ⟨L, hL⟩ : ∃ L, L = ts.length := ⟨_, rfl⟩
  rw [← hL]
  rw [← hL] at hn
  have HL := Lib.hid hL
  clear hL
  unfold maxLen at hm
  by_cases hl : (1 : Int) ≤ (L : Int) ∧ (L : Int) ≤ 4
  · go_enter Tryd.func61, Tryd.ntmps61
    go_wp2_with (go_at_call 63; (with_reducible refine (within_yes _ hl).mono ?_); rintro e w' ⟨rfl, rfl⟩)
    go_loopw [11] (fun i wr => ∃ k : Nat, k ≤ L ∧ i = .int .i64 k ∧ (∀ i x, i < k → ts[i]? = some x → btw 1 x 5 = true) ∧ w = wr) (fun i _ => L - (intOf i).toNat)
    case atStart => exact ⟨0, by omega, rfl, fun i x hi => by omega, rfl⟩
    case round =>
      obtain ⟨k, hk, rfl, ha, rfl⟩ := hrel
      have HA := Lib.hid ha
      clear ha
      by_cases hkn : k < L
      · obtain ⟨x, hx⟩ : ∃ x, ts[k]? = some x := ⟨_, List.getElem?_eq_getElem (by rw [← HL.out]; exact hkn)⟩
        have h' := H.out
        rw [← HL.out] at h'
        obtain ⟨g, o, rfl, hg, d1⟩ := h'.num hx
        have HX := Lib.hid hx
        clear h' hx hg
        have i1 : (0 : Int) ≤ (k : Int) := by omega
        have i2 : (k : Int) < (L : Int) := by omega
        cases hb : btw 1 x 5
        · have HB := Lib.hid hb
          clear hb
          have hc := within_no w (btw_not.1 HB.out)
          go_wp2_with (go_at_call 63; (with_reducible refine (hc).mono ?_); rintro e w' ⟨rfl, rfl⟩)
          go_ret
          exact ⟨ret_bool (typesB_bad HX.out HB.out).symm, rfl⟩
        · have HB := Lib.hid hb
          clear hb
          have hc := within_yes w (btw_iff.1 HB.out)
          go_wp2_with (go_at_call 63; (with_reducible refine (hc).mono ?_); rintro e w' ⟨rfl, rfl⟩)
          go_roundw
          case rel => exact ⟨k + 1, by omega, by go_num, fun j y hj hy => by
            rcases Nat.lt_or_ge j k with h | h
            · exact HA.out j y h hy
            · obtain rfl : j = k := by omega
              rw [HX.out] at hy
              injection hy with hy
              subst hy
              exact HB.out, by trivial⟩
          case measure => simp [intOf]; omega
      · obtain rfl : k = L := by omega
        go_wp2_with fail
        go_ret
        exact ⟨ret_bool (typesB_ok (by rw [← HL.out]; omega) (by rw [← HL.out]; exact HA.out)).symm, rfl⟩
  · go_enter Tryd.func61, Tryd.ntmps61
    go_wp2_with (go_at_call 63; (with_reducible refine (within_no _ hl).mono ?_); rintro e w' ⟨rfl, rfl⟩)
    go_ret
    exact ⟨ret_bool (typesB_len (by rw [← HL.out]; omega)).symm, rfl⟩
end Go.Proofs.YtfgangkpebkicaaDoor
