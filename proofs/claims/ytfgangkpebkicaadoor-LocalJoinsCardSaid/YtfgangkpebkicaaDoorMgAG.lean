/-
  Joined by a program out of: ObjIns, ObjRow, ObjDo, ObjDo2.
-/
import Derived.Test.YtfgangkpebkicaaDoorMgAF
import Derived.Test.YtfgangkpebkicaaDoorMgAC
import Derived.StillTailTactics

/-
  slices.Insert, Delete, BinarySearch over a row of one's own.
-/
namespace Go.Proofs.YtfgangkpebkicaaDoor
open Go.RowKit
set_option maxRecDepth 20000
/-- The one value to be put in lies in a block of its own. -/
def OneCell (w : World) (vb : Nat) (x : Int) : Prop := Lies w vb 3 #[.int .i64 x]
theorem one_of_map {l : List Int} : ∀ v ∈ l.map (Value.int .i64), v.oneCell' = true := fun v hv => by
  obtain ⟨x, _, rfl⟩ := List.mem_map.1 hv
  rfl
theorem map_cell {w : World} {g o : Nat} {l : List Int} (h : ∀ j x, l[j]? = some x → w.cell? ⟨g, o + j, none⟩ = some (.int .i64 x)) : ∀ j v, (l.map (Value.int .i64))[j]? = some v → w.cell? ⟨g, o + j, none⟩ = some v := fun j v hv => by
  rw [List.getElem?_map] at hv
  cases hx : l[j]? with
  | none => rw [hx] at hv; cases hv
  | some x =>
    rw [hx] at hv
    simp only [Option.map_some, Option.some.injEq] at hv
    subst hv
    exact h j x hx
theorem one_cell {w : World} {vb : Nat} {x : Int} (h : OneCell w vb x) : ∀ j v, ([x].map (Value.int .i64))[j]? = some v → w.cell? ⟨vb, 0 + j, none⟩ = some v := fun j v hv => by
  rw [Nat.zero_add, Lies.cell h]
  simpa using hv
theorem shape_of {w : World} {g : Nat} {t : TypeId} {cs : Array Value} (h : Lies w g t cs) : w.shape? g = some (t, cs.size) := by
  have h' : w.heap[g]? = some (.cells cs t (0, 0)) := h
  simp [World.shape?, h']
/-- What an insert leaves. -/
def InsPost (w : World) (B : Nat) (v : Value) (l : List Int) (e : Ending) (w' : World) : Prop :=
  ∃ v', e = .returned v' ∧ IOwn w' B v' l ∧ w.grownBy w' v.ownBlock ∧ (v'.ownBlock = v.ownBlock ∨ ∀ k, v'.ownBlock = some k → w.heap.size ≤ k)
set_option maxHeartbeats 1000000 in
theorem insI_any {v : Value} {B vb p : Nat} {l : List Int} {x : Int} {w : World} (h : IOwn w B v l) (hp : p ≤ l.length) (h50 : l.length < 50) (hx : OneCell w vb x) (hne : v.ownBlock ≠ some vb) (hB : B ≤ w.heap.size) :
    Calls Tryd.prog 150 #[v, .int .i64 p, .slice (some ⟨vb, 0, none⟩) 1 1] w (InsPost w B v (insAt l p x)) := by
  rcases h with ⟨rfl, rfl⟩ | ⟨g, cap, zs, rfl, hgB, hL, hz, hc, hm, ht⟩
  · have hp0 : p = 0 := by simpa using hp
    subst hp0
    refine (Any2.slices_Insert_int_end_grow laysInsert none 0 0 vb 0 1 1 [] ([x].map (Value.int .i64)) w (by decide) (by decide) (by decide) (by decide) rfl rfl (fun _ => rfl) (fun a ha => by cases ha) (one_cell hx) one_of_map).mono ?_
    rintro e w' ⟨rfl, rfl⟩
    refine ⟨_, rfl, ?_, grown_of_below (((Below.refl _ _).drew).alloc (by simp) _), Or.inr fun k hk => Nat.le_of_eq (Option.some.inj hk)⟩
    have := own_made w.drew B [x] (c := grownCap w (0 + 1) 0 3) (by have := grownCap_ge w (0 + 1) 0 3; simpa using this) (grownCap_le_maxLen _ _ _ _ (by unfold maxLen; omega)) hB
    simpa [insAt, show shelfRen.t 3 = 3 from rfl] using this
  · have hcells : ∀ j x, l[j]? = some x → w.cell? ⟨g, 0 + j, none⟩ = some (.int .i64 x) := fun j y hy => by
      rw [Nat.zero_add]
      exact int_cell hL (take_at ht hy)
    have hvb : vb ≠ g := fun e => hne (by rw [e]; rfl)
    have hall : ∀ j, j < cap → (w.cell? ⟨g, 0 + j, none⟩).isSome = true := fun j hj => by
      rw [Nat.zero_add, hL.cell]
      simp [hz, hj]
    unfold maxLen at hm
    by_cases hroom : l.length + 1 ≤ cap
    · by_cases hpl : p = l.length
      · subst hpl
        refine (Any2.slices_Insert_int_end_room laysInsert g 0 l.length cap vb 0 1 1 ([x].map (Value.int .i64)) w (by decide) hroom (by omega) rfl (fun j hj => ?_) (fun j hj => hL.frozen _) (one_cell hx) one_of_map).mono ?_
        · have := hall (l.length + j) (by omega)
          rwa [← Nat.add_assoc] at this
        rintro e w' ⟨rfl, rfl⟩
        refine ⟨_, rfl, Or.inr ⟨g, cap, splice zs l.length [x], by rw [insAt_len _ _ (Nat.le_refl _)], hgB, ?_, by rw [splice_len (by simpa [hz] using hroom)]; exact hz, by rw [insAt_len _ _ (Nat.le_refl _)]; exact hroom, by unfold maxLen; omega, ?_⟩, grown_setCells g _ rfl _ _ _, Or.inl rfl⟩
        · have := hL.setInts (ys := [x]) (o := l.length) (by simpa [hz] using hroom)
          rw [Nat.zero_add]
          exact this
        · rw [insAt_len _ _ (Nat.le_refl _)]
          exact splice_end ht (by omega)
      · have hpl' : p < l.length := by omega
        refine (Any2.slices_Insert_int_shift laysInsert g 0 l.length cap p vb 0 1 1 (l.map (Value.int .i64)) ([x].map (Value.int .i64)) w hpl' (by decide) hroom (by omega) hvb (by simp) rfl (map_cell hcells) (fun j hj => hall j (by omega)) (fun j hj => hL.frozen _) (one_cell hx) one_of_map one_of_map 3 3 1 cap (shape_of hx) (by rw [shape_of hL]; simp [hz]) (by omega) (Lies.frozen hx _) (Lies.frozen hx _)).mono ?_
        rintro e w' ⟨rfl, rfl⟩
        have h1 : p + 1 + (l.drop p).length ≤ zs.length := by simp; omega
        have hL1 : Lies (w.drew.setCells g (p + 1) ((l.drop p).map (Value.int .i64))) g 3 ((splice zs (p + 1) (l.drop p)).map (Value.int .i64)).toArray := Lies.setInts hL.drew h1
        have h2 : p + [x].length ≤ (splice zs (p + 1) (l.drop p)).length := by rw [splice_len h1]; simp; omega
        have hL2 := hL1.setInts (ys := [x]) (o := p) h2
        refine ⟨_, rfl, Or.inr ⟨g, cap, splice (splice zs (p + 1) (l.drop p)) p [x], by rw [insAt_len _ _ hp], hgB, ?_, by rw [splice_len h2, splice_len h1]; exact hz, by rw [insAt_len _ _ hp]; exact hroom, by unfold maxLen; omega, ?_⟩, ?_, Or.inl rfl⟩
        · rw [Nat.zero_add, Nat.zero_add, ← List.map_drop]
          exact hL2
        · rw [insAt_len _ _ hp]
          exact splice_shift ht hp (by omega)
        · exact grown_trans (grown_trans (grown_drewN w _ 1) (grown_setCells g _ rfl _ _ _)) (grown_setCells g _ rfl _ _ _)
    · by_cases hpl : p = l.length
      · subst hpl
        refine (Any2.slices_Insert_int_end_grow laysInsert (some ⟨g, 0, none⟩) l.length cap vb 0 1 1 (l.map (Value.int .i64)) ([x].map (Value.int .i64)) w (by decide) hc (by omega) (by omega) (by simp) rfl (fun ha => by cases ha) (fun a ha => by
          injection ha with ha
          subst ha
          intro j v hv
          rw [Addr.add_lit]
          exact map_cell hcells j v hv) (one_cell hx) one_of_map).mono ?_
        rintro e w' ⟨rfl, rfl⟩
        refine ⟨_, rfl, ?_, grown_of_below (((Below.refl _ _).drew).alloc (by simp) _), Or.inr fun k hk => Nat.le_of_eq (Option.some.inj hk)⟩
        have hi : insAt l l.length x = l ++ [x] := by simp [insAt]
        rw [hi]
        have := own_made w.drew B (l ++ [x]) (c := grownCap w (l.length + 1) cap 3) (by have := grownCap_ge w (l.length + 1) cap 3; simpa using this) (grownCap_le_maxLen _ _ _ _ (by unfold maxLen; omega)) hB
        rw [List.length_append, List.map_append] at this
        exact this
      · have hpl' : p < l.length := by omega
        refine (Any2.slices_Insert_int_grow laysInsert g 0 l.length cap p vb 0 1 1 (l.map (Value.int .i64)) ([x].map (Value.int .i64)) w hpl' (by decide) hc (by omega) (by omega) (by simp) rfl (map_cell hcells) (one_cell hx) one_of_map one_of_map).mono ?_
        rintro e w' ⟨rfl, rfl⟩
        obtain ⟨k, hk⟩ : ∃ k, k = grownCap w (l.length + 1) cap 3 := ⟨_, rfl⟩
        have hk1 : l.length + 1 ≤ k := by rw [hk]; exact grownCap_ge w _ _ _
        have hk2 : k ≤ maxLen := by rw [hk]; exact grownCap_le_maxLen _ _ _ _ (by unfold maxLen; omega)
        obtain ⟨ys, hys⟩ : ∃ ys, ys = l.take p ++ List.replicate (l.length + 1 - p) 0 ++ List.replicate (k - (l.length + 1)) (0 : Int) := ⟨_, rfl⟩
        have hyl : ys.length = k := by rw [hys]; simp; omega
        have hL0 : Lies (w.alloc (.cells (((l.map (Value.int .i64)).take p).toArray ++ Builtin.zeroCells (Value.int .i64 0).cells (l.length + 1 - p) ++ Builtin.zeroCells (Value.int .i64 0).cells (k - (l.length + 1))) 3)) w.heap.size 3 (ys.map (Value.int .i64)).toArray := by
          refine (Lies.new w 3 _).cast ?_
          rw [zeros_int, zeros_int, hys]
          simp
        have h1 : p + [x].length ≤ ys.length := by rw [hyl]; simp; omega
        have hL1 := Lies.setInts hL0.drew h1
        have h2 : p + 1 + (l.drop p).length ≤ (splice ys p [x]).length := by rw [splice_len h1, hyl]; simp; omega
        have hL2 := Lies.setInts hL1.drew h2
        refine ⟨_, rfl, Or.inr ⟨w.heap.size, k, splice (splice ys p [x]) (p + 1) (l.drop p), by rw [insAt_len _ _ hp, hk]; rfl, hB, ?_, by rw [splice_len h2, splice_len h1, hyl], by rw [insAt_len _ _ hp]; exact hk1, hk2, ?_⟩, ?_, Or.inr fun k hk => Nat.le_of_eq (Option.some.inj hk)⟩
        · rw [hk] at hL2
          rw [← List.map_drop]
          exact hL2
        · apply List.ext_getElem?
          intro j
          rw [insAt_len _ _ hp, List.getElem?_take, insAt_get hp]
          by_cases hj : j < l.length + 1
          · rw [if_pos hj, splice_get h2]
            by_cases h3 : j < p + 1
            · rw [if_pos h3, splice_get h1]
              simp only [List.length_cons, List.length_nil, Nat.zero_add]
              by_cases h4 : j < p
              · rw [if_pos h4, if_pos h4, hys, List.append_assoc, List.getElem?_append_left (by simp; omega), List.getElem?_take_of_lt h4]
              · rw [if_neg h4, if_neg h4, if_pos h3, if_pos (by omega), show j - p = 0 by omega]
                rfl
            · rw [if_neg h3, if_pos (by simp; omega), if_neg (by omega), if_neg (by omega), List.getElem?_drop]
              congr 1
              omega
          · rw [if_neg hj, if_neg (by omega), if_neg (by omega), List.getElem?_eq_none (by omega)]
        · exact grown_of_below (below_setC (Nat.le_refl _) _ _ _ ((below_setC (Nat.le_refl _) _ _ _ (((Below.refl _ _).alloc (Nat.le_refl _) _).drew)).drew))
set_option maxHeartbeats 1000000 in
theorem delI_any {g cap B p : Nat} {l : List Int} {w : World} (h : IOwn w B (.slice (some ⟨g, 0, none⟩) l.length cap) l) (hp : p < l.length) :
    Calls Tryd.prog 149 #[.slice (some ⟨g, 0, none⟩) l.length cap, .int .i64 p, .int .i64 (p + 1 : Nat)] w (InsPost w B (.slice (some ⟨g, 0, none⟩) l.length cap) (delAt l p)) := by
  rcases h with ⟨h, _⟩ | ⟨g', cap', zs, he, hgB, hL, hz, hc, hm, ht⟩
  · cases h
  injection he with e1 e2 e3
  injection e1 with e1
  injection e1 with e1
  subst e1 e3
  have hH : Sort.Holds (Value.int .i64) w g 0 l.toArray := fun j hj => by
    simp only [List.size_toArray] at hj
    refine ⟨?_, hL.frozen _⟩
    rw [Nat.zero_add]
    have hy := int_cell hL (take_at ht (List.getElem?_eq_getElem hj))
    rw [hy]
    simp [hj]
  unfold maxLen at hm
  refine (Any.slices_Delete_int laysDelete g 0 cap p (p + 1) l w hH hc (by omega) (by omega) (by omega)).mono ?_
  rintro e w' ⟨rfl, q, rfl⟩
  have hlen : (l.take p ++ l.drop (p + 1) ++ List.replicate (p + 1 - p) 0).length = l.length := by simp; omega
  rw [Lib.putRow_eq_setCells _ w g 0 _ _ q hH (by simpa using hlen)]
  have h1 : 0 + (l.take p ++ l.drop (p + 1) ++ List.replicate (p + 1 - p) 0).length ≤ zs.length := by rw [hlen]; omega
  refine ⟨_, rfl, Or.inr ⟨g, cap, splice zs 0 (l.take p ++ l.drop (p + 1) ++ List.replicate (p + 1 - p) 0), ?_, hgB, (hL.drewN q).setInts h1, ?_, ?_, ?_, ?_⟩, grown_trans (grown_drewN w _ q) (grown_setCells g _ rfl _ _ _), Or.inl rfl⟩
  · rw [delAt_len l hp]
    congr 1
    omega
  · rw [splice_len h1]; exact hz
  · rw [delAt_len l hp]; omega
  · unfold maxLen; omega
  · rw [splice_front (by rw [hlen, delAt_len l hp]; omega)]
    unfold delAt
    rw [List.take_append_of_le_length (by omega), List.take_of_length_le (by omega)]
set_option maxHeartbeats 1000000 in
theorem searchI_any {v : Value} {B : Nat} {l : List Int} {x : Int} {w : World} (h : IOwn w B v l) (hs : l.Pairwise (· < ·)) (h50 : l.length ≤ 50) :
    Calls Tryd.prog 158 #[v, .int .i64 x] w fun e w' => e = .returned (.tuple #[.int .i64 (lessN l x : Nat), .bool (decide (x ∈ l))]) ∧ ∃ q, w' = w.drewN q := by
  by_cases h0 : l.length = 0
  · have hl : l = [] := List.length_eq_zero_iff.1 h0
    subst hl
    obtain ⟨A, cap, rfl, _⟩ := h.rd.is
    refine (Any.slices_BinarySearch_int_empty laysSearch A cap x w).mono ?_
    rintro e w' ⟨rfl, rfl⟩
    exact ⟨rfl, 0, rfl⟩
  · rcases h with ⟨rfl, rfl⟩ | ⟨g, cap, zs, rfl, hgB, hL, hz, hc, hm, ht⟩
    · simp at h0
    · refine (Any.slices_BinarySearch_int laysSearch g 0 l.length cap l x w (Nat.le_refl _) (by omega) (fun j hj => ?_) ?_).mono ?_
      · rw [Nat.zero_add, int_cell hL (take_at ht (List.getElem?_eq_getElem hj))]
        simp [hj]
      · rw [List.take_length]
        exact hs.imp fun h => Int.le_of_lt h
      · rintro e w' ⟨rfl, hq⟩
        refine ⟨?_, hq⟩
        rw [List.take_length, List.contains_eq_mem]
        rfl
end Go.Proofs.YtfgangkpebkicaaDoor

/-
  Contracts of (*object.row).insert and remove.
-/
namespace Go.Proofs.YtfgangkpebkicaaDoor
open Go.RowKit
set_option maxRecDepth 20000
/-- An object of type T in block g, of the call's own (from B on), with the state l in a row of its own. -/
structure ObjAt (w : World) (B g : Nat) (T : TypeId) (v : Value) (l : List Int) : Prop where
  far : B ≤ g
  rc : Lies w g T #[v]
  row : IOwn w B v l
  apart : v.ownBlock ≠ some g
def ObjSt (w : World) (B g : Nat) (T : TypeId) (l : List Int) : Prop := ∃ v, ObjAt w B g T v l
/-- What a method leaves: what it answers, and the state. -/
def ObjDid (w : World) (B g : Nat) (T : TypeId) (r : Value) (l : List Int) (e : Ending) (w' : World) : Prop :=
  e = .returned r ∧ Below B w w' ∧ ObjSt w' B g T l
theorem own_block {w : World} {B : Nat} {v : Value} {l : List Int} (h : IOwn w B v l) {k : Nat} (hk : v.ownBlock = some k) : B ≤ k ∧ k < w.heap.size := by
  rcases h with ⟨rfl, rfl⟩ | ⟨g, cap, zs, rfl, hB, hL, hz, hc, hm, ht⟩
  · cases hk
  · injection hk with hk
    subst hk
    exact ⟨hB, hL.lt⟩
theorem IOwn.alloc {w : World} {B : Nat} {v : Value} {l : List Int} (h : IOwn w B v l) (o : Obj) : IOwn (w.alloc o) B v l := h.below ((Below.refl _ _).alloc (Nat.le_refl _) o)
theorem ObjAt.alloc {w : World} {B g : Nat} {T : TypeId} {v : Value} {l : List Int} (h : ObjAt w B g T v l) (o : Obj) : ObjAt (w.alloc o) B g T v l := ⟨h.far, h.rc.alloc o, h.row.alloc o, h.apart⟩
theorem ObjAt.drewN {w : World} {B g : Nat} {T : TypeId} {v : Value} {l : List Int} (h : ObjAt w B g T v l) (n : Nat) : ObjAt (w.drewN n) B g T v l := ⟨h.far, h.rc.drewN n, h.row.drewN n, h.apart⟩
/-- Behind a call that wrote into the row alone, or made another one: the record holds the new row. -/
theorem ObjAt.stored {w w1 : World} {B g : Nat} {T : TypeId} {v v' : Value} {l l' : List Int} (h : ObjAt w B g T v l) (hg : w.grownBy w1 v.ownBlock) (ho : IOwn w1 B v' l') (hn : v'.ownBlock = v.ownBlock ∨ ∀ k, v'.ownBlock = some k → w.heap.size ≤ k) (hB : B ≤ w.heap.size) :
    Below B w (w1.setCell ⟨g, 0, none⟩ v') ∧ ObjAt (w1.setCell ⟨g, 0, none⟩ v') B g T v' l' := by
  have hb : Below B w w1 := (Below.refl B w).grown hg hB (fun k hk => (own_block h.row hk).1)
  have hr : Lies w1 g T #[v] := h.rc.keep (hg.block g h.rc.lt fun e => h.apart e.symm)
  have hne : v'.ownBlock ≠ some g := fun e => hn.elim (fun h' => h.apart (h'.symm.trans e)) (fun h' => by have := h' g e; have := h.rc.lt; omega)
  exact ⟨hb.setCell h.far _, h.far, (hr.set_ 0 v').cast (by simp), ho.off hne v', hne⟩
set_option maxHeartbeats 1000000 in
theorem insert_full {g B : Nat} {T : TypeId} {v : Value} {l : List Int} {w : World} (h : ObjAt w B g T v l) (hl : l.length = 50) (p x : Int) :
    Calls Tryd.prog 148 #[.pointer (some ⟨g, 0, none⟩), .int .i64 p, .int .i64 x] w fun e w' => e = .returned (.bool false) ∧ w = w' := by
  have c0 := rec_cell h.rc
  obtain ⟨A, cap, rfl, m1, m2⟩ := h.row.rd.is
  rw [hl] at c0
  clear h
  go_enter Tryd.func148, Tryd.ntmps148
  go_wp2
  go_ret
  exact ⟨rfl, rfl⟩
set_option maxHeartbeats 1000000 in
theorem insert_any {g B : Nat} {T : TypeId} {v : Value} {l : List Int} {w : World} (h : ObjAt w B g T v l) (hl : l.length < 50) {p : Nat} (hp : p ≤ l.length) (x : Int) (hB : B ≤ w.heap.size) :
    Calls Tryd.prog 148 #[.pointer (some ⟨g, 0, none⟩), .int .i64 p, .int .i64 x] w (ObjDid w B g T (.bool true) (insAt l p x)) := by
  have c0 := rec_cell h.rc
  obtain ⟨A, cap, rfl, m1, m2⟩ := h.row.rd.is
  have hz : ((l.length : Int) == 50) = false := by rw [beq_eq_false_iff_ne]; omega
  have hx : OneCell (w.alloc (.cells #[.int .i64 x] 3)) w.heap.size x := Lies.new w _ _
  have hI := insI_any (vb := w.heap.size) (x := x) (h.alloc (.cells #[.int .i64 x] 3)).row hp hl hx (fun e => by have := (own_block h.row e).2; omega) (by simp; omega)
  have HI := Lib.hid hI
  have HH := Lib.hid h
  clear hI hx h m1 m2
  unfold InsPost at HI
  go_enter Tryd.func148, Tryd.ntmps148
  go_wp2_with fail
  refine HI.out.mono ?_
  rintro e w1 ⟨v', rfl, ho, hg, hn⟩
  have hr : Lies w1 g T #[.slice A l.length cap] := (HH.out.alloc (.cells #[.int .i64 x] 3)).rc.keep (hg.block g (HH.out.alloc _).rc.lt fun e => HH.out.apart e.symm)
  obtain ⟨A', cap', rfl, m1, m2⟩ := ho.rd.is
  have c1 := rec_cell hr
  have f1 := hr.frozen 0
  have HS := Lib.hid ((HH.out.alloc (.cells #[.int .i64 x] 3)).stored hg ho hn (by simp; omega))
  clear ho hg hr HI m1 m2 hn
  go_wp2_with fail
  go_ret
  exact ⟨rfl, ((Below.refl _ _).alloc hB _).trans HS.out.1, _, HS.out.2⟩
set_option maxHeartbeats 1000000 in
theorem remove_none {g B : Nat} {T : TypeId} {v : Value} {l : List Int} {w : World} (h : ObjAt w B g T v l) (hl : l.length = 0) (p : Int) :
    Calls Tryd.prog 147 #[.pointer (some ⟨g, 0, none⟩), .int .i64 p] w fun e w' => e = .returned (.int .i64 (-1)) ∧ w = w' := by
  have c0 := rec_cell h.rc
  obtain ⟨A, cap, rfl, m1, m2⟩ := h.row.rd.is
  rw [hl] at c0
  have hw : btw 0 p (-1) = false := btw_not.2 (by omega)
  have hc := fun W : World => owithin_no W hw
  have HC := Lib.hid hc
  clear h hw hc
  go_enter Tryd.func147, Tryd.ntmps147
  go_wp2_with (go_at_call 142; (with_reducible refine (HC.out _).mono ?_); rintro e w' ⟨rfl, rfl⟩)
  go_ret
  exact ⟨rfl, rfl⟩
set_option maxHeartbeats 1000000 in
theorem remove_any {g B : Nat} {T : TypeId} {v : Value} {l : List Int} {w : World} (h : ObjAt w B g T v l) {p : Nat} (hp : p < l.length) (h50 : l.length ≤ 50) (hB : B ≤ w.heap.size) :
    Calls Tryd.prog 147 #[.pointer (some ⟨g, 0, none⟩), .int .i64 p] w (ObjDid w B g T (.int .i64 (l.getD p 0)) (delAt l p)) := by
  have c0 := rec_cell h.rc
  have f0 := h.rc.frozen 0
  obtain ⟨A, cap, rfl, m1, m2⟩ := h.row.rd.is
  obtain ⟨gl, o, hA, hgl, hcell⟩ := h.row.rd.ints (by omega)
  subst hA
  have ho : o = 0 := by
    rcases h.row with ⟨h1, _⟩ | ⟨g', cap', zs, h1, _⟩
    · cases h1
    · injection h1 with h1
      injection h1 with h1
      injection h1
  subst ho
  have d0 := hcell p (l.getD p 0) (by rw [List.getD_eq_getElem?_getD, List.getElem?_eq_getElem hp]; rfl)
  rw [Nat.zero_add] at d0
  have hD := delI_any h.row hp
  have hw : btw 0 (p : Int) ((l.length : Int) - 1) = true := btw_iff.2 (by omega)
  have hc := fun W : World => owithin_yes W hw
  have HC := Lib.hid hc
  have HD := Lib.hid hD
  have HH := Lib.hid h
  have i0 : (0 : Int) ≤ (p : Int) := by omega
  have i1 : (p : Int) < (l.length : Int) := by omega
  have i2 : (p : Int) ≤ 50 := by omega
  have i3 : (l.length : Int) ≤ 50 := by omega
  clear hcell hc hw hD h m1 m2
  generalize l.getD p 0 = y at d0 ⊢
  unfold InsPost at HD
  go_enter Tryd.func147, Tryd.ntmps147
  go_wp2_with (go_at_call 142; (with_reducible refine (HC.out _).mono ?_); rintro e w' ⟨rfl, rfl⟩)
  refine HD.out.mono ?_
  rintro e w1 ⟨v', rfl, ho, hg, hn⟩
  have hr : Lies w1 g T #[.slice (some ⟨gl, 0, none⟩) l.length cap] := HH.out.rc.keep (hg.block g HH.out.rc.lt fun e => HH.out.apart e.symm)
  obtain ⟨A', cap', rfl, m1, m2⟩ := ho.rd.is
  have c1 := rec_cell hr
  have f1 := hr.frozen 0
  have HS := Lib.hid (HH.out.stored hg ho hn hB)
  clear ho hg hr HD m1 m2 hn
  go_wp2_with fail
  go_ret
  exact ⟨rfl, HS.out.1, _, HS.out.2⟩
end Go.Proofs.YtfgangkpebkicaaDoor

/-
  Contracts of do: of registers, tickets, queues, stacks, sets.
-/
namespace Go.Proofs.YtfgangkpebkicaaDoor
open Go.RowKit
set_option maxRecDepth 20000
/-- What do leaves: no room; or the answer, and the state. -/
def DoDid (w : World) (B g : Nat) (T : TypeId) (o : List Int × Int × Int) (e : Ending) (w' : World) : Prop :=
  Below B w w' ∧ ((o.2.2 = 2 ∧ ∃ r, e = .returned (.tuple #[.int .i64 r, .bool false])) ∨ (o.2.2 = 0 ∧ e = .returned (.tuple #[.int .i64 o.2.1, .bool true]) ∧ ObjSt w' B g T o.1))
theorem DoDid.no {w w' : World} {B g : Nat} {T : TypeId} {o : List Int × Int × Int} {e : Ending} {r : Int} (hb : Below B w w') (ho : o.2.2 = 2) (he : e = .returned (.tuple #[.int .i64 r, .bool false])) : DoDid w B g T o e w' := ⟨hb, Or.inl ⟨ho, r, he⟩⟩
theorem DoDid.yes {w w' : World} {B g : Nat} {T : TypeId} {o : List Int × Int × Int} {e : Ending} (hb : Below B w w') (ho : o.2.2 = 0) (he : e = .returned (.tuple #[.int .i64 o.2.1, .bool true])) (hs : ObjSt w' B g T o.1) : DoDid w B g T o e w' := ⟨hb, Or.inr ⟨ho, he, hs⟩⟩
theorem getD_at {l : List Int} {p : Nat} (hp : p < l.length) : l[p]? = some (l.getD p 0) := by rw [List.getD_eq_getElem?_getD, List.getElem?_eq_getElem hp]; rfl
/-- A row of one's own of one number. -/
theorem ObjAt.one {w : World} {B g : Nat} {T : TypeId} {v : Value} {l : List Int} (h : ObjAt w B g T v l) (hl : l.length = 1) : ∃ gl cap zs, v = .slice (some ⟨gl, 0, none⟩) 1 cap ∧ gl ≠ g ∧ B ≤ gl ∧ gl < w.heap.size ∧ Lies w gl 3 ((l.getD 0 0 :: zs).map (Value.int .i64)).toArray ∧ zs.length + 1 = cap ∧ cap ≤ maxLen := by
  rcases h.row with ⟨_, h1⟩ | ⟨gl, cap, zs, h1, hB, hL, hz, hc, hm, ht⟩
  · rw [h1] at hl
    cases hl
  · have h0 : zs[0]? = some (l.getD 0 0) := take_at ht (getD_at (by omega))
    cases zs with
    | nil => simp at h0
    | cons z zs =>
      simp only [List.getElem?_cons_zero, Option.some.injEq] at h0
      subst h0
      rw [hl] at h1
      exact ⟨gl, cap, zs, h1, fun e => h.apart (by rw [h1, e]; rfl), hB, hL.lt, hL, by simpa using hz, hm⟩
theorem ObjAt.put {w : World} {B g : Nat} {T : TypeId} {gl cap : Nat} {x y : Int} {zs l : List Int} (h : ObjAt w B g T (.slice (some ⟨gl, 0, none⟩) 1 cap) l) (hne : gl ≠ g) (hB : B ≤ gl) (hL : Lies w gl 3 ((x :: zs).map (Value.int .i64)).toArray) (hz : zs.length + 1 = cap) (hm : cap ≤ maxLen) :
    ObjAt (w.setCell ⟨gl, 0, none⟩ (.int .i64 y)) B g T (.slice (some ⟨gl, 0, none⟩) 1 cap) [y] :=
  ⟨h.far, h.rc.far (p := ⟨gl, 0, none⟩) (fun e => hne e.symm) _, Or.inr ⟨gl, cap, y :: zs, rfl, hB, (hL.set_ 0 _).cast (by simp), by simpa using hz, by simp; omega, hm, by simp⟩, h.apart⟩
set_option maxHeartbeats 1000000 in
theorem regDo_any {g B : Nat} {v : Value} {l : List Int} {w : World} (h : ObjAt w B g 181 v l) (hl : l.length = 1) (kind arg : Int) (hk : kind = 1 ∨ kind = 2) :
    Calls Tryd.prog 138 #[.pointer (some ⟨g, 0, none⟩), .int .i64 kind, .int .i64 arg] w (DoDid w B g 181 (stepped l kind arg)) := by
  have c0 := rec_cell h.rc
  obtain ⟨gl, cap, zs, rfl, hne, hB, hlt, hL, hz, hm⟩ := h.one hl
  have d0 : w.cell? ⟨gl, 0, none⟩ = some (.int .i64 (l.getD 0 0)) := by rw [hL.cell]; simp
  have f0 := hL.frozen 0
  rcases hk with rfl | rfl
  · have HP := Lib.hid (h.put (y := arg) hne hB hL hz hm)
    clear h hL hm
    go_enter Tryd.func138, Tryd.ntmps138
    go_wp2
    go_ret2
    exact DoDid.yes ((Below.refl _ _).setCell hB _) rfl rfl ⟨_, HP.out⟩
  · have HP := Lib.hid h
    have e : stepped l 2 arg = (l, l.getD 0 0, 0) := rfl
    rw [e]
    clear h hL hm e
    generalize l.getD 0 0 = y at d0 ⊢
    go_enter Tryd.func138, Tryd.ntmps138
    go_wp2
    go_ret2
    exact DoDid.yes (Below.refl _ _) rfl rfl ⟨_, HP.out⟩
set_option maxHeartbeats 1000000 in
theorem ticketDo_any {g B : Nat} {v : Value} {l : List Int} {w : World} (h : ObjAt w B g 191 v l) (hl : l.length = 1) (h0 : 0 ≤ l.getD 0 0) (h1 : l.getD 0 0 ≤ 1000) (arg : Int) :
    Calls Tryd.prog 160 #[.pointer (some ⟨g, 0, none⟩), .int .i64 10, .int .i64 arg] w (DoDid w B g 191 (stepped l 10 arg)) := by
  have c0 := rec_cell h.rc
  obtain ⟨gl, cap, zs, rfl, hne, hB, hlt, hL, hz, hm⟩ := h.one hl
  have d0 : w.cell? ⟨gl, 0, none⟩ = some (.int .i64 (l.getD 0 0)) := by rw [hL.cell]; simp
  have f0 := hL.frozen 0
  have e : stepped l 10 arg = if l.getD 0 0 = 1000 then ([], 0, 2) else ([l.getD 0 0 + 1], l.getD 0 0, 0) := rfl
  rw [e]
  have HP := Lib.hid (h.put (y := l.getD 0 0 + 1) hne hB hL hz hm)
  clear h hL hm e
  generalize l.getD 0 0 = y at d0 h0 h1 HP ⊢
  by_cases hy : y = 1000
  · rw [if_pos hy]
    subst hy
    go_enter Tryd.func160, Tryd.ntmps160
    go_wp2
    go_ret2
    exact DoDid.no (Below.refl _ _) rfl rfl
  · rw [if_neg hy]
    have hz : (y == 1000) = false := by rw [beq_eq_false_iff_ne]; exact hy
    clear hy
    go_enter Tryd.func160, Tryd.ntmps160
    go_wp2
    go_ret2
    exact DoDid.yes ((Below.refl _ _).setCell hB _) rfl rfl ⟨_, HP.out⟩
end Go.Proofs.YtfgangkpebkicaaDoor

/-
  Contracts of do of queues and stacks.
-/
namespace Go.Proofs.YtfgangkpebkicaaDoor
open Go.RowKit
set_option maxRecDepth 20000
set_option maxHeartbeats 2000000 in
theorem queueDo_any {g B : Nat} {v : Value} {l : List Int} {w : World} (h : ObjAt w B g 185 v l) (hl : l.length ≤ 50) (hB : B ≤ w.heap.size) (kind arg : Int) (hk : kind = 3 ∨ kind = 4) :
    Calls Tryd.prog 143 #[.pointer (some ⟨g, 0, none⟩), .int .i64 kind, .int .i64 arg] w (DoDid w B g 185 (stepped l kind arg)) := by
  rcases hk with rfl | rfl
  · have e : stepped l 3 arg = if l.length = 50 then ([], 0, 2) else (insAt l l.length arg, 0, 0) := rfl
    rw [e]
    clear e
    have c0 := rec_cell h.rc
    obtain ⟨A, cap, rfl, m1, m2⟩ := h.row.rd.is
    unfold maxLen at m2
    have HH := Lib.hid h
    have HB := Lib.hid hB
    by_cases h50 : l.length = 50
    · rw [if_pos h50]
      have HC := Lib.hid (insert_full (h.drewN 1) h50 (l.length : Int) arg)
      clear h hB hl h50
      go_enter Tryd.func143, Tryd.ntmps143
      go_wp2_with fail
      go_still_tail 10, (by kernel_rfl)
      change wpList _ _ _ _ _ (w.drewN 1)
      go_wp2_with fail
      refine HC.out.mono ?_
      rintro e w' ⟨rfl, rfl⟩
      go_wp2_with fail
      go_ret2
      exact DoDid.no (belowN (Below.refl _ _) _) rfl rfl
    · rw [if_neg h50]
      have HC := Lib.hid (insert_any (h.drewN 1) (by omega) (Nat.le_refl l.length) arg hB)
      unfold ObjDid at HC
      clear h hB hl h50
      go_enter Tryd.func143, Tryd.ntmps143
      go_wp2_with fail
      go_still_tail 10, (by kernel_rfl)
      change wpList _ _ _ _ _ (w.drewN 1)
      go_wp2_with fail
      refine HC.out.mono ?_
      rintro e w' ⟨rfl, hb, hs⟩
      have HS := Lib.hid (And.intro hb hs)
      clear hb hs
      go_wp2_with fail
      go_ret2
      exact DoDid.yes ((belowN (Below.refl _ _) 1).trans HS.out.1) rfl rfl HS.out.2
  · have e : stepped l 4 arg = if l.length = 0 then (l, -1, 0) else (delAt l 0, l.getD 0 0, 0) := rfl
    rw [e]
    clear e
    have HB := Lib.hid hB
    by_cases h0 : l.length = 0
    · rw [if_pos h0]
      have HC := Lib.hid (remove_none h h0 0)
      have HH := Lib.hid h
      clear h hB hl h0
      go_enter Tryd.func143, Tryd.ntmps143
      go_wp2_with fail
      refine HC.out.mono ?_
      rintro e w' ⟨rfl, rfl⟩
      go_wp2_with fail
      go_ret2
      exact DoDid.yes (Below.refl _ _) rfl rfl ⟨_, HH.out⟩
    · rw [if_neg h0]
      have HC := Lib.hid (remove_any h (p := 0) (by omega) hl hB)
      unfold ObjDid at HC
      clear h hB hl h0
      generalize l.getD 0 0 = y at HC ⊢
      go_enter Tryd.func143, Tryd.ntmps143
      go_wp2_with fail
      refine HC.out.mono ?_
      rintro e w' ⟨rfl, hb, hs⟩
      have HS := Lib.hid (And.intro hb hs)
      clear hb hs
      go_wp2_with fail
      go_ret2
      exact DoDid.yes HS.out.1 rfl rfl HS.out.2
set_option maxHeartbeats 2000000 in
theorem stackDo_any {g B : Nat} {v : Value} {l : List Int} {w : World} (h : ObjAt w B g 187 v l) (hl : l.length ≤ 50) (hB : B ≤ w.heap.size) (kind arg : Int) (hk : kind = 5 ∨ kind = 6) :
    Calls Tryd.prog 155 #[.pointer (some ⟨g, 0, none⟩), .int .i64 kind, .int .i64 arg] w (DoDid w B g 187 (stepped l kind arg)) := by
  have c0 := rec_cell h.rc
  obtain ⟨A, cap, rfl, m1, m2⟩ := h.row.rd.is
  unfold maxLen at m2
  have HB := Lib.hid hB
  rcases hk with rfl | rfl
  · have e : stepped l 5 arg = if l.length = 50 then ([], 0, 2) else (insAt l l.length arg, 0, 0) := rfl
    rw [e]
    clear e
    by_cases h50 : l.length = 50
    · rw [if_pos h50]
      have HC := Lib.hid (insert_full (h.drewN 1) h50 (l.length : Int) arg)
      clear h hB hl h50
      go_enter Tryd.func155, Tryd.ntmps155
      go_wp2_with fail
      go_still_tail 10, (by kernel_rfl)
      change wpList _ _ _ _ _ (w.drewN 1)
      go_wp2_with fail
      refine HC.out.mono ?_
      rintro e w' ⟨rfl, rfl⟩
      go_wp2_with fail
      go_ret2
      exact DoDid.no (belowN (Below.refl _ _) _) rfl rfl
    · rw [if_neg h50]
      have HC := Lib.hid (insert_any (h.drewN 1) (by omega) (Nat.le_refl l.length) arg hB)
      unfold ObjDid at HC
      clear h hB hl h50
      go_enter Tryd.func155, Tryd.ntmps155
      go_wp2_with fail
      go_still_tail 10, (by kernel_rfl)
      change wpList _ _ _ _ _ (w.drewN 1)
      go_wp2_with fail
      refine HC.out.mono ?_
      rintro e w' ⟨rfl, hb, hs⟩
      have HS := Lib.hid (And.intro hb hs)
      clear hb hs
      go_wp2_with fail
      go_ret2
      exact DoDid.yes ((belowN (Below.refl _ _) 1).trans HS.out.1) rfl rfl HS.out.2
  · have e : stepped l 6 arg = if l.length = 0 then (l, -1, 0) else (delAt l (l.length - 1), l.getD (l.length - 1) 0, 0) := rfl
    rw [e]
    clear e
    by_cases h0 : l.length = 0
    · rw [if_pos h0]
      have HC := Lib.hid (remove_none (h.drewN 1) h0 (-1))
      have HH := Lib.hid h
      rw [h0] at c0
      have hw : IntKind.i64.wrap (0 - 1) = -1 := rfl
      clear h hB hl h0
      go_enter Tryd.func155, Tryd.ntmps155
      go_wp2_with fail
      go_still_tail 10, (by kernel_rfl)
      change wpList _ _ _ _ _ (w.drewN 1)
      go_wp2_with fail
      refine HC.out.mono ?_
      rintro e w' ⟨rfl, rfl⟩
      go_wp2_with fail
      go_ret2
      exact DoDid.yes (belowN (Below.refl _ _) _) rfl rfl ⟨_, HH.out.drewN 1⟩
    · rw [if_neg h0]
      have hq := remove_any (h.drewN 1) (p := l.length - 1) (by omega) hl hB
      have e1 : ((l.length - 1 : Nat) : Int) = (l.length : Int) - 1 := by omega
      rw [e1] at hq
      have HC := Lib.hid hq
      unfold ObjDid at HC
      have hw : IntKind.i64.wrap ((l.length : Int) - 1) = (l.length : Int) - 1 := IntWalk.i64_in _ (by omega)
      clear h hB hl h0 hq e1
      generalize l.getD (l.length - 1) 0 = y at HC ⊢
      go_enter Tryd.func155, Tryd.ntmps155
      go_wp2_with fail
      go_still_tail 10, (by kernel_rfl)
      change wpList _ _ _ _ _ (w.drewN 1)
      go_wp2_with fail
      refine HC.out.mono ?_
      rintro e w' ⟨rfl, hb, hs⟩
      have HS := Lib.hid (And.intro hb hs)
      clear hb hs
      go_wp2_with fail
      go_ret2
      exact DoDid.yes ((belowN (Below.refl _ _) 1).trans HS.out.1) rfl rfl HS.out.2
end Go.Proofs.YtfgangkpebkicaaDoor
