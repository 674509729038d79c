/-
  Joined by a program out of: Splice, Shelf, ObjIns, ObjRow.
-/
import Derived.Test.YthjmncngegchjaaGreatDoorMgAW
import Derived.Laws.IdiomCopy
import Derived.Laws.AppendOwn
import Derived.Test.YthjmncngegchjaaGreatDoorProg
import Derived.Shelf.Slices.Delete
import Derived.Lib.RowBridge
import Derived.Shelf.Slices.Empties
import Derived.Shelf.Spec.SlicesInsertGrow
import Derived.Test.YthjmncngegchjaaGreatDoorMgAX

/-
  A piece of a row laid over by other numbers: of lists, and in memory.
-/
namespace Go.Proofs.YthjmncngegchjaaGreatDoor
open Go.RowKit
set_option maxRecDepth 20000
/-- The numbers ys laid over those of zs from o on. -/
def splice (zs : List Int) (o : Nat) (ys : List Int) : List Int := zs.take o ++ ys ++ zs.drop (o + ys.length)
theorem splice_len {zs : List Int} {o : Nat} {ys : List Int} (h : o + ys.length ≤ zs.length) : (splice zs o ys).length = zs.length := by
  unfold splice
  simp
  omega
theorem splice_get {zs : List Int} {o : Nat} {ys : List Int} (h : o + ys.length ≤ zs.length) (j : Nat) :
    (splice zs o ys)[j]? = if j < o then zs[j]? else if j < o + ys.length then ys[j - o]? else zs[j]? := by
  unfold splice
  rw [List.append_assoc, List.getElem?_append, List.length_take, Nat.min_eq_left (by omega)]
  by_cases h1 : j < o
  · rw [if_pos h1, if_pos h1, List.getElem?_take_of_lt h1]
  · rw [if_neg h1, if_neg h1, List.getElem?_append]
    by_cases h2 : j < o + ys.length
    · rw [if_pos (by omega), if_pos h2]
    · rw [if_neg (by omega), if_neg h2, List.getElem?_drop]
      congr 1
      omega
theorem splice_cons {zs : List Int} {o : Nat} {y : Int} {ys : List Int} (h : o + (y :: ys).length ≤ zs.length) : splice (zs.set o y) (o + 1) ys = splice zs o (y :: ys) := by
  apply List.ext_getElem?
  intro j
  simp only [List.length_cons] at h
  rw [splice_get (by simp; omega), splice_get (by simp; omega)]
  rw [List.getElem?_set]
  simp only [List.length_cons]
  by_cases h1 : j < o
  · rw [if_pos (by omega), if_neg (by omega), if_pos h1]
  · rw [if_neg h1]
    by_cases h2 : j = o
    · subst h2
      rw [if_pos (by omega), if_pos rfl, if_pos (by omega), if_pos (by omega), Nat.sub_self]
      rfl
    · rw [if_neg (by omega)]
      by_cases h3 : j < o + 1 + ys.length
      · rw [if_pos h3, if_pos (by omega), show j - o = (j - (o + 1)) + 1 by omega, List.getElem?_cons_succ]
      · rw [if_neg h3, if_neg (by omega), if_neg (by omega)]
theorem insAt_get {l : List Int} {p : Nat} {x : Int} (h : p ≤ l.length) (j : Nat) : (insAt l p x)[j]? = if j < p then l[j]? else if j = p then some x else l[j - 1]? := by
  unfold insAt
  rw [List.getElem?_append, List.length_take, Nat.min_eq_left h]
  by_cases h1 : j < p
  · rw [if_pos h1, if_pos h1, List.getElem?_take_of_lt h1]
  · rw [if_neg h1, if_neg h1]
    by_cases h2 : j = p
    · subst h2
      rw [Nat.sub_self, if_pos rfl]
      rfl
    · rw [if_neg h2, show j - p = (j - p - 1) + 1 by omega, List.getElem?_cons_succ, List.getElem?_drop]
      congr 1
      omega
theorem take_get {zs l : List Int} (h : zs.take l.length = l) {j : Nat} (hj : j < l.length) : zs[j]? = l[j]? := by
  rw [← List.getElem?_take_of_lt (l := zs) hj, h]
/-- What stood from i on one place on, and x at i. -/
theorem splice_shift {zs l : List Int} {i : Nat} {x : Int} (h : zs.take l.length = l) (hi : i ≤ l.length) (hn : l.length + 1 ≤ zs.length) :
    (splice (splice zs (i + 1) (l.drop i)) i [x]).take (l.length + 1) = insAt l i x := by
  have e1 : i + 1 + (l.drop i).length ≤ zs.length := by simp; omega
  have e2 : i + [x].length ≤ (splice zs (i + 1) (l.drop i)).length := by rw [splice_len e1]; simp; omega
  apply List.ext_getElem?
  intro j
  rw [List.getElem?_take, insAt_get hi]
  by_cases hj : j < l.length + 1
  · rw [if_pos hj, splice_get e2]
    simp only [List.length_cons, List.length_nil, Nat.zero_add]
    by_cases h1 : j < i
    · rw [if_pos h1, if_pos h1, splice_get e1, if_pos (by omega)]
      exact take_get h (by omega)
    · rw [if_neg h1, if_neg h1]
      by_cases h2 : j = i
      · subst h2
        rw [if_pos (by omega), if_pos rfl, Nat.sub_self]
        rfl
      · rw [if_neg (by omega), if_neg h2, splice_get e1, if_neg (by omega), if_pos (by simp; omega), List.getElem?_drop]
        congr 1
        omega
  · rw [if_neg hj, if_neg (by omega), if_neg (by omega), List.getElem?_eq_none (by omega)]
theorem splice_end {zs l : List Int} {x : Int} (h : zs.take l.length = l) (hn : l.length + 1 ≤ zs.length) :
    (splice zs l.length [x]).take (l.length + 1) = insAt l l.length x := by
  have e2 : l.length + [x].length ≤ zs.length := by simpa using hn
  apply List.ext_getElem?
  intro j
  rw [List.getElem?_take, insAt_get (Nat.le_refl _)]
  by_cases hj : j < l.length + 1
  · rw [if_pos hj, splice_get e2]
    simp only [List.length_cons, List.length_nil, Nat.zero_add]
    by_cases h1 : j < l.length
    · rw [if_pos h1, if_pos h1]
      exact take_get h h1
    · rw [if_neg h1, if_neg h1, if_pos (by omega), if_pos (by omega), show j - l.length = 0 by omega]
      rfl
  · rw [if_neg hj, if_neg (by omega), if_neg (by omega), List.getElem?_eq_none (by omega)]
theorem splice_front {zs ys : List Int} {k : Nat} (hk : k ≤ ys.length) : (splice zs 0 ys).take k = ys.take k := by
  unfold splice
  rw [List.take_zero, List.nil_append, List.take_append, show k - ys.length = 0 by omega, List.take_zero, List.append_nil]
section
variable {w w' : World} {g : Nat} {t : TypeId} {zs : List Int}
theorem Lies.setInts : ∀ {ys : List Int} {o : Nat} {zs : List Int} {w : World}, Lies w g t (zs.map (Value.int .i64)).toArray → o + ys.length ≤ zs.length →
    Lies (w.setCells g o (ys.map (Value.int .i64))) g t ((splice zs o ys).map (Value.int .i64)).toArray
  | [], o, zs, w, h, _ => by
    have : splice zs o [] = zs := by unfold splice; simp
    rw [this]
    exact h
  | y :: ys, o, zs, w, h, hl => by
    have h1 := h.set_ o (.int .i64 y)
    have h2 : Lies (w.setCell ⟨g, o, none⟩ (.int .i64 y)) g t ((zs.set o y).map (Value.int .i64)).toArray := h1.cast (by
      rw [List.map_set]
      simp)
    have h3 := Lies.setInts (ys := ys) (o := o + 1) h2 (by simp at hl ⊢; omega)
    rw [splice_cons hl] at h3
    exact h3
theorem grown_refl (w : World) (r : Option Nat) : w.grownBy w r := ⟨rfl, rfl, rfl, Nat.le_refl _, fun _ _ _ => rfl⟩
theorem grown_trans {a b c : World} {r : Option Nat} (h1 : a.grownBy b r) (h2 : b.grownBy c r) : a.grownBy c r :=
  ⟨h2.os.trans h1.os, h2.tape.trans h1.tape, h2.output.trans h1.output, Nat.le_trans h1.size h2.size, fun k hk hr => (h2.block k (Nat.lt_of_lt_of_le hk h1.size) hr).trans (h1.block k hk hr)⟩
theorem grown_of_below {a b : World} {r : Option Nat} (h : Below a.heap.size a b) : a.grownBy b r := ⟨h.os, h.tape, h.output, h.size, fun k hk _ => h.block k hk⟩
theorem grown_drewN (w : World) (r : Option Nat) (n : Nat) : w.grownBy (w.drewN n) r := ⟨rfl, rfl, rfl, Nat.le_refl _, fun _ _ _ => rfl⟩
theorem grown_setCells (g : Nat) (r : Option Nat) (hr : r = some g) : ∀ (vs : List Value) (o : Nat) (w : World), w.grownBy (w.setCells g o vs) r
  | [], o, w => grown_refl w r
  | v :: vs, o, w => by
    subst hr
    refine grown_trans (b := w.setCell ⟨g, o, none⟩ v) ⟨rfl, rfl, rfl, by simp [World.setCell], fun k hk hne => ?_⟩ (grown_setCells g _ rfl vs (o + 1) _)
    exact Below.heap_setCell w ⟨g, o, none⟩ v k (fun e => hne (by rw [e]))
theorem below_setC {B g : Nat} {a : World} (hg : B ≤ g) : ∀ (vs : List Value) (o : Nat) (w : World), Below B a w → Below B a (w.setCells g o vs)
  | [], _, _, h => h
  | v :: vs, o, _, h => below_setC hg vs (o + 1) _ (h.setCell hg v)
end
end Go.Proofs.YthjmncngegchjaaGreatDoor

/-
  The library's contracts of slices.Insert, Delete, BinarySearch over integers, laid at this program.
-/
namespace Go.Proofs.YthjmncngegchjaaGreatDoor
open Go.RowKit Go.Shelf
set_option maxRecDepth 20000
def shelfRen : Go.Shelf.Ren := ⟨fun | 21 => 127 | 27 => 128 | 28 => 129 | 35 => 130 | 39 => 131 | 23 => 126 | 25 => 135 | 31 => 78 | 32 => 136 | 37 => 92 | n => n,
  fun | 0 => 0 | 3 => 3 | 4 => 4 | 22 => 31 | 40 => 136 | n => n, fun n => n⟩
theorem laysInsert : Lays2.n21 Tryz.prog shelfRen := {
  mixed := by kernel_rfl
  f21 := Tryz.func127.trans (congrArg some (by kernel_rfl))
  f27 := Tryz.func128.trans (congrArg some (by kernel_rfl))
  f28 := Tryz.func129.trans (congrArg some (by kernel_rfl))
  f35 := Tryz.func130.trans (congrArg some (by kernel_rfl))
  f39 := Tryz.func131.trans (congrArg some (by kernel_rfl))
  t0 := Tryz.underlying0
  a0 := Tryz.isAgg0
  z0 := Tryz.sizeOf0
  v0 := Tryz.zeroValue0
  t3 := Tryz.underlying3
  a3 := Tryz.isAgg3
  z3 := Tryz.sizeOf3
  v3 := Tryz.zeroValue3
  t4 := Tryz.underlying4
  a4 := Tryz.isAgg4
  z4 := Tryz.sizeOf4
  v4 := Tryz.zeroValue4
  t22 := Tryz.underlying31
  a22 := Tryz.isAgg31
  z22 := Tryz.sizeOf31
  v22 := Tryz.zeroValue31
  i3 := by kernel_rfl }
theorem laysDelete : Lays2.n23 Tryz.prog shelfRen := {
  mixed := by kernel_rfl
  f23 := Tryz.func126.trans (congrArg some (by kernel_rfl))
  t0 := Tryz.underlying0
  a0 := Tryz.isAgg0
  z0 := Tryz.sizeOf0
  v0 := Tryz.zeroValue0
  t3 := Tryz.underlying3
  a3 := Tryz.isAgg3
  z3 := Tryz.sizeOf3
  v3 := Tryz.zeroValue3
  t4 := Tryz.underlying4
  a4 := Tryz.isAgg4
  z4 := Tryz.sizeOf4
  v4 := Tryz.zeroValue4
  t22 := Tryz.underlying31
  a22 := Tryz.isAgg31
  z22 := Tryz.sizeOf31
  v22 := Tryz.zeroValue31
  i3 := by kernel_rfl }
theorem laysSearch : Lays2.n25 Tryz.prog shelfRen := {
  mixed := by kernel_rfl
  f25 := Tryz.func135.trans (congrArg some (by kernel_rfl))
  f31 := Tryz.func78.trans (congrArg some (by kernel_rfl))
  f32 := Tryz.func136.trans (congrArg some (by kernel_rfl))
  f37 := Tryz.func92.trans (congrArg some (by kernel_rfl))
  t0 := Tryz.underlying0
  a0 := Tryz.isAgg0
  z0 := Tryz.sizeOf0
  v0 := Tryz.zeroValue0
  t3 := Tryz.underlying3
  a3 := Tryz.isAgg3
  z3 := Tryz.sizeOf3
  v3 := Tryz.zeroValue3
  t4 := Tryz.underlying4
  a4 := Tryz.isAgg4
  z4 := Tryz.sizeOf4
  v4 := Tryz.zeroValue4
  t22 := Tryz.underlying31
  a22 := Tryz.isAgg31
  z22 := Tryz.sizeOf31
  v22 := Tryz.zeroValue31
  t40 := Tryz.underlying136
  a40 := Tryz.isAgg136
  z40 := Tryz.sizeOf136
  v40 := Tryz.zeroValue136 }
end Go.Proofs.YthjmncngegchjaaGreatDoor

/-
  slices.Insert, Delete, BinarySearch over a row of one's own.
-/
namespace Go.Proofs.YthjmncngegchjaaGreatDoor
open Go.RowKit
set_option maxRecDepth 20000
/-- The one value to be put in lies in a block of its own. -/
def OneCell (w : World) (vb : Nat) (x : Int) : Prop := Lies w vb 3 #[.int .i64 x]
theorem one_of_map {l : List Int} : ∀ v ∈ l.map (Value.int .i64), v.oneCell' = true := fun v hv => by
  obtain ⟨x, _, rfl⟩ := List.mem_map.1 hv
  rfl
theorem map_cell {w : World} {g o : Nat} {l : List Int} (h : ∀ j x, l[j]? = some x → w.cell? ⟨g, o + j, none⟩ = some (.int .i64 x)) : ∀ j v, (l.map (Value.int .i64))[j]? = some v → w.cell? ⟨g, o + j, none⟩ = some v := fun j v hv => by
  rw [List.getElem?_map] at hv
  cases hx : l[j]? with
  | none => rw [hx] at hv; cases hv
  | some x =>
    rw [hx] at hv
    simp only [Option.map_some, Option.some.injEq] at hv
    subst hv
    exact h j x hx
theorem one_cell {w : World} {vb : Nat} {x : Int} (h : OneCell w vb x) : ∀ j v, ([x].map (Value.int .i64))[j]? = some v → w.cell? ⟨vb, 0 + j, none⟩ = some v := fun j v hv => by
  rw [Nat.zero_add, Lies.cell h]
  simpa using hv
theorem shape_of {w : World} {g : Nat} {t : TypeId} {cs : Array Value} (h : Lies w g t cs) : w.shape? g = some (t, cs.size) := by
  have h' : w.heap[g]? = some (.cells cs t (0, 0)) := h
  simp [World.shape?, h']
/-- What an insert leaves. -/
def InsPost (w : World) (B : Nat) (v : Value) (l : List Int) (e : Ending) (w' : World) : Prop :=
  ∃ v', e = .returned v' ∧ IOwn w' B v' l ∧ w.grownBy w' v.ownBlock ∧ (v'.ownBlock = v.ownBlock ∨ ∀ k, v'.ownBlock = some k → w.heap.size ≤ k)
set_option maxHeartbeats 1000000 in
theorem insI_any {v : Value} {B vb p : Nat} {l : List Int} {x : Int} {w : World} (h : IOwn w B v l) (hp : p ≤ l.length) (h50 : l.length < 50) (hx : OneCell w vb x) (hne : v.ownBlock ≠ some vb) (hB : B ≤ w.heap.size) :
    Calls Tryz.prog 127 #[v, .int .i64 p, .slice (some ⟨vb, 0, none⟩) 1 1] w (InsPost w B v (insAt l p x)) := by
  rcases h with ⟨rfl, rfl⟩ | ⟨g, cap, zs, rfl, hgB, hL, hz, hc, hm, ht⟩
  · have hp0 : p = 0 := by simpa using hp
    subst hp0
    refine (Any2.slices_Insert_int_end_grow laysInsert none 0 0 vb 0 1 1 [] ([x].map (Value.int .i64)) w (by decide) (by decide) (by decide) (by decide) rfl rfl (fun _ => rfl) (fun a ha => by cases ha) (one_cell hx) one_of_map).mono ?_
    rintro e w' ⟨rfl, rfl⟩
    refine ⟨_, rfl, ?_, grown_of_below (((Below.refl _ _).drew).alloc (by simp) _), Or.inr fun k hk => Nat.le_of_eq (Option.some.inj hk)⟩
    have := own_made w.drew B [x] (c := grownCap w (0 + 1) 0 3) (by have := grownCap_ge w (0 + 1) 0 3; simpa using this) (grownCap_le_maxLen _ _ _ _ (by unfold maxLen; omega)) hB
    simpa [insAt, show shelfRen.t 3 = 3 from rfl] using this
  · have hcells : ∀ j x, l[j]? = some x → w.cell? ⟨g, 0 + j, none⟩ = some (.int .i64 x) := fun j y hy => by
      rw [Nat.zero_add]
      exact int_cell hL (take_at ht hy)
    have hvb : vb ≠ g := fun e => hne (by rw [e]; rfl)
    have hall : ∀ j, j < cap → (w.cell? ⟨g, 0 + j, none⟩).isSome = true := fun j hj => by
      rw [Nat.zero_add, hL.cell]
      simp [hz, hj]
    unfold maxLen at hm
    by_cases hroom : l.length + 1 ≤ cap
    · by_cases hpl : p = l.length
      · subst hpl
        refine (Any2.slices_Insert_int_end_room laysInsert g 0 l.length cap vb 0 1 1 ([x].map (Value.int .i64)) w (by decide) hroom (by omega) rfl (fun j hj => ?_) (fun j hj => hL.frozen _) (one_cell hx) one_of_map).mono ?_
        · have := hall (l.length + j) (by omega)
          rwa [← Nat.add_assoc] at this
        rintro e w' ⟨rfl, rfl⟩
        refine ⟨_, rfl, Or.inr ⟨g, cap, splice zs l.length [x], by rw [insAt_len _ _ (Nat.le_refl _)], hgB, ?_, by rw [splice_len (by simpa [hz] using hroom)]; exact hz, by rw [insAt_len _ _ (Nat.le_refl _)]; exact hroom, by unfold maxLen; omega, ?_⟩, grown_setCells g _ rfl _ _ _, Or.inl rfl⟩
        · have := hL.setInts (ys := [x]) (o := l.length) (by simpa [hz] using hroom)
          rw [Nat.zero_add]
          exact this
        · rw [insAt_len _ _ (Nat.le_refl _)]
          exact splice_end ht (by omega)
      · have hpl' : p < l.length := by omega
        refine (Any2.slices_Insert_int_shift laysInsert g 0 l.length cap p vb 0 1 1 (l.map (Value.int .i64)) ([x].map (Value.int .i64)) w hpl' (by decide) hroom (by omega) hvb (by simp) rfl (map_cell hcells) (fun j hj => hall j (by omega)) (fun j hj => hL.frozen _) (one_cell hx) one_of_map one_of_map 3 3 1 cap (shape_of hx) (by rw [shape_of hL]; simp [hz]) (by omega) (Lies.frozen hx _) (Lies.frozen hx _)).mono ?_
        rintro e w' ⟨rfl, rfl⟩
        have h1 : p + 1 + (l.drop p).length ≤ zs.length := by simp; omega
        have hL1 : Lies (w.drew.setCells g (p + 1) ((l.drop p).map (Value.int .i64))) g 3 ((splice zs (p + 1) (l.drop p)).map (Value.int .i64)).toArray := Lies.setInts hL.drew h1
        have h2 : p + [x].length ≤ (splice zs (p + 1) (l.drop p)).length := by rw [splice_len h1]; simp; omega
        have hL2 := hL1.setInts (ys := [x]) (o := p) h2
        refine ⟨_, rfl, Or.inr ⟨g, cap, splice (splice zs (p + 1) (l.drop p)) p [x], by rw [insAt_len _ _ hp], hgB, ?_, by rw [splice_len h2, splice_len h1]; exact hz, by rw [insAt_len _ _ hp]; exact hroom, by unfold maxLen; omega, ?_⟩, ?_, Or.inl rfl⟩
        · rw [Nat.zero_add, Nat.zero_add, ← List.map_drop]
          exact hL2
        · rw [insAt_len _ _ hp]
          exact splice_shift ht hp (by omega)
        · exact grown_trans (grown_trans (grown_drewN w _ 1) (grown_setCells g _ rfl _ _ _)) (grown_setCells g _ rfl _ _ _)
    · by_cases hpl : p = l.length
      · subst hpl
        refine (Any2.slices_Insert_int_end_grow laysInsert (some ⟨g, 0, none⟩) l.length cap vb 0 1 1 (l.map (Value.int .i64)) ([x].map (Value.int .i64)) w (by decide) hc (by omega) (by omega) (by simp) rfl (fun ha => by cases ha) (fun a ha => by
          injection ha with ha
          subst ha
          intro j v hv
          rw [Addr.add_lit]
          exact map_cell hcells j v hv) (one_cell hx) one_of_map).mono ?_
        rintro e w' ⟨rfl, rfl⟩
        refine ⟨_, rfl, ?_, grown_of_below (((Below.refl _ _).drew).alloc (by simp) _), Or.inr fun k hk => Nat.le_of_eq (Option.some.inj hk)⟩
        have hi : insAt l l.length x = l ++ [x] := by simp [insAt]
        rw [hi]
        have := own_made w.drew B (l ++ [x]) (c := grownCap w (l.length + 1) cap 3) (by have := grownCap_ge w (l.length + 1) cap 3; simpa using this) (grownCap_le_maxLen _ _ _ _ (by unfold maxLen; omega)) hB
        rw [List.length_append, List.map_append] at this
        exact this
      · have hpl' : p < l.length := by omega
        refine (Any2.slices_Insert_int_grow laysInsert g 0 l.length cap p vb 0 1 1 (l.map (Value.int .i64)) ([x].map (Value.int .i64)) w hpl' (by decide) hc (by omega) (by omega) (by simp) rfl (map_cell hcells) (one_cell hx) one_of_map one_of_map).mono ?_
        rintro e w' ⟨rfl, rfl⟩
        obtain ⟨k, hk⟩ : ∃ k, k = grownCap w (l.length + 1) cap 3 := ⟨_, rfl⟩
        have hk1 : l.length + 1 ≤ k := by rw [hk]; exact grownCap_ge w _ _ _
        have hk2 : k ≤ maxLen := by rw [hk]; exact grownCap_le_maxLen _ _ _ _ (by unfold maxLen; omega)
        obtain ⟨ys, hys⟩ : ∃ ys, ys = l.take p ++ List.replicate (l.length + 1 - p) 0 ++ List.replicate (k - (l.length + 1)) (0 : Int) := ⟨_, rfl⟩
        have hyl : ys.length = k := by rw [hys]; simp; omega
        have hL0 : Lies (w.alloc (.cells (((l.map (Value.int .i64)).take p).toArray ++ Builtin.zeroCells (Value.int .i64 0).cells (l.length + 1 - p) ++ Builtin.zeroCells (Value.int .i64 0).cells (k - (l.length + 1))) 3)) w.heap.size 3 (ys.map (Value.int .i64)).toArray := by
          refine (Lies.new w 3 _).cast ?_
          rw [zeros_int, zeros_int, hys]
          simp
        have h1 : p + [x].length ≤ ys.length := by rw [hyl]; simp; omega
        have hL1 := Lies.setInts hL0.drew h1
        have h2 : p + 1 + (l.drop p).length ≤ (splice ys p [x]).length := by rw [splice_len h1, hyl]; simp; omega
        have hL2 := Lies.setInts hL1.drew h2
        refine ⟨_, rfl, Or.inr ⟨w.heap.size, k, splice (splice ys p [x]) (p + 1) (l.drop p), by rw [insAt_len _ _ hp, hk]; rfl, hB, ?_, by rw [splice_len h2, splice_len h1, hyl], by rw [insAt_len _ _ hp]; exact hk1, hk2, ?_⟩, ?_, Or.inr fun k hk => Nat.le_of_eq (Option.some.inj hk)⟩
        · rw [hk] at hL2
          rw [← List.map_drop]
          exact hL2
        · apply List.ext_getElem?
          intro j
          rw [insAt_len _ _ hp, List.getElem?_take, insAt_get hp]
          by_cases hj : j < l.length + 1
          · rw [if_pos hj, splice_get h2]
            by_cases h3 : j < p + 1
            · rw [if_pos h3, splice_get h1]
              simp only [List.length_cons, List.length_nil, Nat.zero_add]
              by_cases h4 : j < p
              · rw [if_pos h4, if_pos h4, hys, List.append_assoc, List.getElem?_append_left (by simp; omega), List.getElem?_take_of_lt h4]
              · rw [if_neg h4, if_neg h4, if_pos h3, if_pos (by omega), show j - p = 0 by omega]
                rfl
            · rw [if_neg h3, if_pos (by simp; omega), if_neg (by omega), if_neg (by omega), List.getElem?_drop]
              congr 1
              omega
          · rw [if_neg hj, if_neg (by omega), if_neg (by omega), List.getElem?_eq_none (by omega)]
        · exact grown_of_below (below_setC (Nat.le_refl _) _ _ _ ((below_setC (Nat.le_refl _) _ _ _ (((Below.refl _ _).alloc (Nat.le_refl _) _).drew)).drew))
set_option maxHeartbeats 1000000 in
theorem delI_any {g cap B p : Nat} {l : List Int} {w : World} (h : IOwn w B (.slice (some ⟨g, 0, none⟩) l.length cap) l) (hp : p < l.length) :
    Calls Tryz.prog 126 #[.slice (some ⟨g, 0, none⟩) l.length cap, .int .i64 p, .int .i64 (p + 1 : Nat)] w (InsPost w B (.slice (some ⟨g, 0, none⟩) l.length cap) (delAt l p)) := by
  rcases h with ⟨h, _⟩ | ⟨g', cap', zs, he, hgB, hL, hz, hc, hm, ht⟩
  · cases h
  injection he with e1 e2 e3
  injection e1 with e1
  injection e1 with e1
  subst e1 e3
  have hH : Sort.Holds (Value.int .i64) w g 0 l.toArray := fun j hj => by
    simp only [List.size_toArray] at hj
    refine ⟨?_, hL.frozen _⟩
    rw [Nat.zero_add]
    have hy := int_cell hL (take_at ht (List.getElem?_eq_getElem hj))
    rw [hy]
    simp [hj]
  unfold maxLen at hm
  refine (Any.slices_Delete_int laysDelete g 0 cap p (p + 1) l w hH hc (by omega) (by omega) (by omega)).mono ?_
  rintro e w' ⟨rfl, q, rfl⟩
  have hlen : (l.take p ++ l.drop (p + 1) ++ List.replicate (p + 1 - p) 0).length = l.length := by simp; omega
  rw [Lib.putRow_eq_setCells _ w g 0 _ _ q hH (by simpa using hlen)]
  have h1 : 0 + (l.take p ++ l.drop (p + 1) ++ List.replicate (p + 1 - p) 0).length ≤ zs.length := by rw [hlen]; omega
  refine ⟨_, rfl, Or.inr ⟨g, cap, splice zs 0 (l.take p ++ l.drop (p + 1) ++ List.replicate (p + 1 - p) 0), ?_, hgB, (hL.drewN q).setInts h1, ?_, ?_, ?_, ?_⟩, grown_trans (grown_drewN w _ q) (grown_setCells g _ rfl _ _ _), Or.inl rfl⟩
  · rw [delAt_len l hp]
    congr 1
    omega
  · rw [splice_len h1]; exact hz
  · rw [delAt_len l hp]; omega
  · unfold maxLen; omega
  · rw [splice_front (by rw [hlen, delAt_len l hp]; omega)]
    unfold delAt
    rw [List.take_append_of_le_length (by omega), List.take_of_length_le (by omega)]
set_option maxHeartbeats 1000000 in
theorem searchI_any {v : Value} {B : Nat} {l : List Int} {x : Int} {w : World} (h : IOwn w B v l) (hs : l.Pairwise (· < ·)) (h50 : l.length ≤ 50) :
    Calls Tryz.prog 135 #[v, .int .i64 x] w fun e w' => e = .returned (.tuple #[.int .i64 (lessN l x : Nat), .bool (decide (x ∈ l))]) ∧ ∃ q, w' = w.drewN q := by
  by_cases h0 : l.length = 0
  · have hl : l = [] := List.length_eq_zero_iff.1 h0
    subst hl
    obtain ⟨A, cap, rfl, _⟩ := h.rd.is
    refine (Any.slices_BinarySearch_int_empty laysSearch A cap x w).mono ?_
    rintro e w' ⟨rfl, rfl⟩
    exact ⟨rfl, 0, rfl⟩
  · rcases h with ⟨rfl, rfl⟩ | ⟨g, cap, zs, rfl, hgB, hL, hz, hc, hm, ht⟩
    · simp at h0
    · refine (Any.slices_BinarySearch_int laysSearch g 0 l.length cap l x w (Nat.le_refl _) (by omega) (fun j hj => ?_) ?_).mono ?_
      · rw [Nat.zero_add, int_cell hL (take_at ht (List.getElem?_eq_getElem hj))]
        simp [hj]
      · rw [List.take_length]
        exact hs.imp fun h => Int.le_of_lt h
      · rintro e w' ⟨rfl, hq⟩
        refine ⟨?_, hq⟩
        rw [List.take_length, List.contains_eq_mem]
        rfl
end Go.Proofs.YthjmncngegchjaaGreatDoor

/-
  Contracts of (*object.row).insert and remove.
-/
namespace Go.Proofs.YthjmncngegchjaaGreatDoor
open Go.RowKit
set_option maxRecDepth 20000
/-- An object of type T in block g, of the call's own (from B on), with the state l in a row of its own. -/
structure ObjAt (w : World) (B g : Nat) (T : TypeId) (v : Value) (l : List Int) : Prop where
  far : B ≤ g
  rc : Lies w g T #[v]
  row : IOwn w B v l
  apart : v.ownBlock ≠ some g
def ObjSt (w : World) (B g : Nat) (T : TypeId) (l : List Int) : Prop := ∃ v, ObjAt w B g T v l
/-- What a method leaves: what it answers, and the state. -/
def ObjDid (w : World) (B g : Nat) (T : TypeId) (r : Value) (l : List Int) (e : Ending) (w' : World) : Prop :=
  e = .returned r ∧ Below B w w' ∧ ObjSt w' B g T l
theorem own_block {w : World} {B : Nat} {v : Value} {l : List Int} (h : IOwn w B v l) {k : Nat} (hk : v.ownBlock = some k) : B ≤ k ∧ k < w.heap.size := by
  rcases h with ⟨rfl, rfl⟩ | ⟨g, cap, zs, rfl, hB, hL, hz, hc, hm, ht⟩
  · cases hk
  · injection hk with hk
    subst hk
    exact ⟨hB, hL.lt⟩
theorem IOwn.alloc {w : World} {B : Nat} {v : Value} {l : List Int} (h : IOwn w B v l) (o : Obj) : IOwn (w.alloc o) B v l := h.below ((Below.refl _ _).alloc (Nat.le_refl _) o)
theorem ObjAt.alloc {w : World} {B g : Nat} {T : TypeId} {v : Value} {l : List Int} (h : ObjAt w B g T v l) (o : Obj) : ObjAt (w.alloc o) B g T v l := ⟨h.far, h.rc.alloc o, h.row.alloc o, h.apart⟩
theorem ObjAt.drewN {w : World} {B g : Nat} {T : TypeId} {v : Value} {l : List Int} (h : ObjAt w B g T v l) (n : Nat) : ObjAt (w.drewN n) B g T v l := ⟨h.far, h.rc.drewN n, h.row.drewN n, h.apart⟩
/-- Behind a call that wrote into the row alone, or made another one: the record holds the new row. -/
theorem ObjAt.stored {w w1 : World} {B g : Nat} {T : TypeId} {v v' : Value} {l l' : List Int} (h : ObjAt w B g T v l) (hg : w.grownBy w1 v.ownBlock) (ho : IOwn w1 B v' l') (hn : v'.ownBlock = v.ownBlock ∨ ∀ k, v'.ownBlock = some k → w.heap.size ≤ k) (hB : B ≤ w.heap.size) :
    Below B w (w1.setCell ⟨g, 0, none⟩ v') ∧ ObjAt (w1.setCell ⟨g, 0, none⟩ v') B g T v' l' := by
  have hb : Below B w w1 := (Below.refl B w).grown hg hB (fun k hk => (own_block h.row hk).1)
  have hr : Lies w1 g T #[v] := h.rc.keep (hg.block g h.rc.lt fun e => h.apart e.symm)
  have hne : v'.ownBlock ≠ some g := fun e => hn.elim (fun h' => h.apart (h'.symm.trans e)) (fun h' => by have := h' g e; have := h.rc.lt; omega)
  exact ⟨hb.setCell h.far _, h.far, (hr.set_ 0 v').cast (by simp), ho.off hne v', hne⟩
set_option maxHeartbeats 1000000 in
theorem insert_full {g B : Nat} {T : TypeId} {v : Value} {l : List Int} {w : World} (h : ObjAt w B g T v l) (hl : l.length = 50) (p x : Int) :
    Calls Tryz.prog 125 #[.pointer (some ⟨g, 0, none⟩), .int .i64 p, .int .i64 x] w fun e w' => e = .returned (.bool false) ∧ w = w' := by
  have c0 := rec_cell h.rc
  obtain ⟨A, cap, rfl, m1, m2⟩ := h.row.rd.is
  rw [hl] at c0
  clear h
  go_enter Tryz.func125, Tryz.ntmps125
  go_wp2
  go_ret
  exact ⟨rfl, rfl⟩
set_option maxHeartbeats 1000000 in
theorem insert_any {g B : Nat} {T : TypeId} {v : Value} {l : List Int} {w : World} (h : ObjAt w B g T v l) (hl : l.length < 50) {p : Nat} (hp : p ≤ l.length) (x : Int) (hB : B ≤ w.heap.size) :
    Calls Tryz.prog 125 #[.pointer (some ⟨g, 0, none⟩), .int .i64 p, .int .i64 x] w (ObjDid w B g T (.bool true) (insAt l p x)) := by
  have c0 := rec_cell h.rc
  obtain ⟨A, cap, rfl, m1, m2⟩ := h.row.rd.is
  have hz : ((l.length : Int) == 50) = false := by rw [beq_eq_false_iff_ne]; omega
  have hx : OneCell (w.alloc (.cells #[.int .i64 x] 3)) w.heap.size x := Lies.new w _ _
  have hI := insI_any (vb := w.heap.size) (x := x) (h.alloc (.cells #[.int .i64 x] 3)).row hp hl hx (fun e => by have := (own_block h.row e).2; omega) (by simp; omega)
  have HI := Lib.hid hI
  have HH := Lib.hid h
  clear hI hx h m1 m2
  unfold InsPost at HI
  go_enter Tryz.func125, Tryz.ntmps125
  go_wp2_with fail
  refine HI.out.mono ?_
  rintro e w1 ⟨v', rfl, ho, hg, hn⟩
  have hr : Lies w1 g T #[.slice A l.length cap] := (HH.out.alloc (.cells #[.int .i64 x] 3)).rc.keep (hg.block g (HH.out.alloc _).rc.lt fun e => HH.out.apart e.symm)
  obtain ⟨A', cap', rfl, m1, m2⟩ := ho.rd.is
  have c1 := rec_cell hr
  have f1 := hr.frozen 0
  have HS := Lib.hid ((HH.out.alloc (.cells #[.int .i64 x] 3)).stored hg ho hn (by simp; omega))
  clear ho hg hr HI m1 m2 hn
  go_wp2_with fail
  go_ret
  exact ⟨rfl, ((Below.refl _ _).alloc hB _).trans HS.out.1, _, HS.out.2⟩
set_option maxHeartbeats 1000000 in
theorem remove_none {g B : Nat} {T : TypeId} {v : Value} {l : List Int} {w : World} (h : ObjAt w B g T v l) (hl : l.length = 0) (p : Int) :
    Calls Tryz.prog 124 #[.pointer (some ⟨g, 0, none⟩), .int .i64 p] w fun e w' => e = .returned (.int .i64 (-1)) ∧ w = w' := by
  have c0 := rec_cell h.rc
  obtain ⟨A, cap, rfl, m1, m2⟩ := h.row.rd.is
  rw [hl] at c0
  have hw : btw 0 p (-1) = false := btw_not.2 (by omega)
  have hc := fun W : World => owithin_no W hw
  have HC := Lib.hid hc
  clear h hw hc
  go_enter Tryz.func124, Tryz.ntmps124
  go_wp2_with (go_at_call 119; (with_reducible refine (HC.out _).mono ?_); rintro e w' ⟨rfl, rfl⟩)
  go_ret
  exact ⟨rfl, rfl⟩
set_option maxHeartbeats 1000000 in
theorem remove_any {g B : Nat} {T : TypeId} {v : Value} {l : List Int} {w : World} (h : ObjAt w B g T v l) {p : Nat} (hp : p < l.length) (h50 : l.length ≤ 50) (hB : B ≤ w.heap.size) :
    Calls Tryz.prog 124 #[.pointer (some ⟨g, 0, none⟩), .int .i64 p] w (ObjDid w B g T (.int .i64 (l.getD p 0)) (delAt l p)) := by
  have c0 := rec_cell h.rc
  have f0 := h.rc.frozen 0
  obtain ⟨A, cap, rfl, m1, m2⟩ := h.row.rd.is
  obtain ⟨gl, o, hA, hgl, hcell⟩ := h.row.rd.ints (by omega)
  subst hA
  have ho : o = 0 := by
    rcases h.row with ⟨h1, _⟩ | ⟨g', cap', zs, h1, _⟩
    · cases h1
    · injection h1 with h1
      injection h1 with h1
      injection h1
  subst ho
  have d0 := hcell p (l.getD p 0) (by rw [List.getD_eq_getElem?_getD, List.getElem?_eq_getElem hp]; rfl)
  rw [Nat.zero_add] at d0
  have hD := delI_any h.row hp
  have hw : btw 0 (p : Int) ((l.length : Int) - 1) = true := btw_iff.2 (by omega)
  have hc := fun W : World => owithin_yes W hw
  have HC := Lib.hid hc
  have HD := Lib.hid hD
  have HH := Lib.hid h
  have i0 : (0 : Int) ≤ (p : Int) := by omega
  have i1 : (p : Int) < (l.length : Int) := by omega
  have i2 : (p : Int) ≤ 50 := by omega
  have i3 : (l.length : Int) ≤ 50 := by omega
  clear hcell hc hw hD h m1 m2
  generalize l.getD p 0 = y at d0 ⊢
  unfold InsPost at HD
  go_enter Tryz.func124, Tryz.ntmps124
  go_wp2_with (go_at_call 119; (with_reducible refine (HC.out _).mono ?_); rintro e w' ⟨rfl, rfl⟩)
  refine HD.out.mono ?_
  rintro e w1 ⟨v', rfl, ho, hg, hn⟩
  have hr : Lies w1 g T #[.slice (some ⟨gl, 0, none⟩) l.length cap] := HH.out.rc.keep (hg.block g HH.out.rc.lt fun e => HH.out.apart e.symm)
  obtain ⟨A', cap', rfl, m1, m2⟩ := ho.rd.is
  have c1 := rec_cell hr
  have f1 := hr.frozen 0
  have HS := Lib.hid (HH.out.stored hg ho hn hB)
  clear ho hg hr HD m1 m2 hn
  go_wp2_with fail
  go_ret
  exact ⟨rfl, HS.out.1, _, HS.out.2⟩
end Go.Proofs.YthjmncngegchjaaGreatDoor
