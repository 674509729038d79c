/-
  slices.Insert, Delete, BinarySearch over a row of one's own.
-/
import Derived.Test.YtebcnhnkpmbgdaaSplice
import Derived.Test.YtebcnhnkpmbgdaaShelf
namespace Go.Proofs.Ytebcnhnkpmbgdaa
open Go.RowKit
set_option maxRecDepth 20000

/-- The one value to be put in lies in a block of its own. -/
def OneCell (w : World) (vb : Nat) (x : Int) : Prop := Lies w vb 3 #[.int .i64 x]

theorem one_of_map {l : List Int} : ∀ v ∈ l.map (Value.int .i64), v.oneCell' = true := fun v hv => by
  obtain ⟨x, _, rfl⟩ := List.mem_map.1 hv
  rfl
theorem map_cell {w : World} {g o : Nat} {l : List Int} (h : ∀ j x, l[j]? = some x → w.cell? ⟨g, o + j, none⟩ = some (.int .i64 x)) : ∀ j v, (l.map (Value.int .i64))[j]? = some v → w.cell? ⟨g, o + j, none⟩ = some v := fun j v hv => by
  rw [List.getElem?_map] at hv
  cases hx : l[j]? with
  | none => rw [hx] at hv; cases hv
  | some x =>
    rw [hx] at hv
    simp only [Option.map_some, Option.some.injEq] at hv
    subst hv
    exact h j x hx
theorem one_cell {w : World} {vb : Nat} {x : Int} (h : OneCell w vb x) : ∀ j v, ([x].map (Value.int .i64))[j]? = some v → w.cell? ⟨vb, 0 + j, none⟩ = some v := fun j v hv => by
  rw [Nat.zero_add, Lies.cell h]
  simpa using hv
theorem shape_of {w : World} {g : Nat} {t : TypeId} {cs : Array Value} (h : Lies w g t cs) : w.shape? g = some (t, cs.size) := by
  have h' : w.heap[g]? = some (.cells cs t (0, 0)) := h
  simp [World.shape?, h']

/-- What an insert leaves. -/
def InsPost (w : World) (B : Nat) (v : Value) (l : List Int) (e : Ending) (w' : World) : Prop :=
  ∃ v', e = .returned v' ∧ IOwn w' B v' l ∧ w.grownBy w' v.ownBlock ∧ (v'.ownBlock = v.ownBlock ∨ ∀ k, v'.ownBlock = some k → w.heap.size ≤ k)

set_option maxHeartbeats 1000000 in
theorem insI_any {v : Value} {B vb p : Nat} {l : List Int} {x : Int} {w : World} (h : IOwn w B v l) (hp : p ≤ l.length) (h50 : l.length < 50) (hx : OneCell w vb x) (hne : v.ownBlock ≠ some vb) (hB : B ≤ w.heap.size) :
    Calls Try.prog 85 #[v, .int .i64 p, .slice (some ⟨vb, 0, none⟩) 1 1] w (InsPost w B v (insAt l p x)) := by
  rcases h with ⟨rfl, rfl⟩ | ⟨g, cap, zs, rfl, hgB, hL, hz, hc, hm, ht⟩
  · have hp0 : p = 0 := by simpa using hp
    subst hp0
    refine (Any2.slices_Insert_int_end_grow laysInsert none 0 0 vb 0 1 1 [] ([x].map (Value.int .i64)) w (by decide) (by decide) (by decide) (by decide) rfl rfl (fun _ => rfl) (fun a ha => by cases ha) (one_cell hx) one_of_map).mono ?_
    rintro e w' ⟨rfl, rfl⟩
    refine ⟨_, rfl, ?_, grown_of_below (((Below.refl _ _).drew).alloc (by simp) _), Or.inr fun k hk => Nat.le_of_eq (Option.some.inj hk)⟩
    have := own_made w.drew B [x] (c := grownCap w (0 + 1) 0 3) (by have := grownCap_ge w (0 + 1) 0 3; simpa using this) (grownCap_le_maxLen _ _ _ _ (by unfold maxLen; omega)) hB
    simpa [insAt, show shelfRen.t 3 = 3 from rfl] using this
  · have hcells : ∀ j x, l[j]? = some x → w.cell? ⟨g, 0 + j, none⟩ = some (.int .i64 x) := fun j y hy => by
      rw [Nat.zero_add]
      exact int_cell hL (take_at ht hy)
    have hvb : vb ≠ g := fun e => hne (by rw [e]; rfl)
    have hall : ∀ j, j < cap → (w.cell? ⟨g, 0 + j, none⟩).isSome = true := fun j hj => by
      rw [Nat.zero_add, hL.cell]
      simp [hz, hj]
    unfold maxLen at hm
    by_cases hroom : l.length + 1 ≤ cap
    · by_cases hpl : p = l.length
      · subst hpl
        refine (Any2.slices_Insert_int_end_room laysInsert g 0 l.length cap vb 0 1 1 ([x].map (Value.int .i64)) w (by decide) hroom (by omega) rfl (fun j hj => ?_) (fun j hj => hL.frozen _) (one_cell hx) one_of_map).mono ?_
        · have := hall (l.length + j) (by omega)
          rwa [← Nat.add_assoc] at this
        rintro e w' ⟨rfl, rfl⟩
        refine ⟨_, rfl, Or.inr ⟨g, cap, splice zs l.length [x], by rw [insAt_len _ _ (Nat.le_refl _)], hgB, ?_, by rw [splice_len (by simpa [hz] using hroom)]; exact hz, by rw [insAt_len _ _ (Nat.le_refl _)]; exact hroom, by unfold maxLen; omega, ?_⟩, grown_setCells g _ rfl _ _ _, Or.inl rfl⟩
        · have := hL.setInts (ys := [x]) (o := l.length) (by simpa [hz] using hroom)
          rw [Nat.zero_add]
          exact this
        · rw [insAt_len _ _ (Nat.le_refl _)]
          exact splice_end ht (by omega)
      · have hpl' : p < l.length := by omega
        refine (Any2.slices_Insert_int_shift laysInsert g 0 l.length cap p vb 0 1 1 (l.map (Value.int .i64)) ([x].map (Value.int .i64)) w hpl' (by decide) hroom (by omega) hvb (by simp) rfl (map_cell hcells) (fun j hj => hall j (by omega)) (fun j hj => hL.frozen _) (one_cell hx) one_of_map one_of_map 3 3 1 cap (shape_of hx) (by rw [shape_of hL]; simp [hz]) (by omega) (Lies.frozen hx _) (Lies.frozen hx _)).mono ?_
        rintro e w' ⟨rfl, rfl⟩
        have h1 : p + 1 + (l.drop p).length ≤ zs.length := by simp; omega
        have hL1 : Lies (w.drew.setCells g (p + 1) ((l.drop p).map (Value.int .i64))) g 3 ((splice zs (p + 1) (l.drop p)).map (Value.int .i64)).toArray := Lies.setInts hL.drew h1
        have h2 : p + [x].length ≤ (splice zs (p + 1) (l.drop p)).length := by rw [splice_len h1]; simp; omega
        have hL2 := hL1.setInts (ys := [x]) (o := p) h2
        refine ⟨_, rfl, Or.inr ⟨g, cap, splice (splice zs (p + 1) (l.drop p)) p [x], by rw [insAt_len _ _ hp], hgB, ?_, by rw [splice_len h2, splice_len h1]; exact hz, by rw [insAt_len _ _ hp]; exact hroom, by unfold maxLen; omega, ?_⟩, ?_, Or.inl rfl⟩
        · rw [Nat.zero_add, Nat.zero_add, ← List.map_drop]
          exact hL2
        · rw [insAt_len _ _ hp]
          exact splice_shift ht hp (by omega)
        · exact grown_trans (grown_trans (grown_drewN w _ 1) (grown_setCells g _ rfl _ _ _)) (grown_setCells g _ rfl _ _ _)
    · by_cases hpl : p = l.length
      · subst hpl
        refine (Any2.slices_Insert_int_end_grow laysInsert (some ⟨g, 0, none⟩) l.length cap vb 0 1 1 (l.map (Value.int .i64)) ([x].map (Value.int .i64)) w (by decide) hc (by omega) (by omega) (by simp) rfl (fun ha => by cases ha) (fun a ha => by
          injection ha with ha
          subst ha
          intro j v hv
          rw [Addr.add_lit]
          exact map_cell hcells j v hv) (one_cell hx) one_of_map).mono ?_
        rintro e w' ⟨rfl, rfl⟩
        refine ⟨_, rfl, ?_, grown_of_below (((Below.refl _ _).drew).alloc (by simp) _), Or.inr fun k hk => Nat.le_of_eq (Option.some.inj hk)⟩
        have hi : insAt l l.length x = l ++ [x] := by simp [insAt]
        rw [hi]
        have := own_made w.drew B (l ++ [x]) (c := grownCap w (l.length + 1) cap 3) (by have := grownCap_ge w (l.length + 1) cap 3; simpa using this) (grownCap_le_maxLen _ _ _ _ (by unfold maxLen; omega)) hB
        rw [List.length_append, List.map_append] at this
        exact this
      · have hpl' : p < l.length := by omega
        refine (Any2.slices_Insert_int_grow laysInsert g 0 l.length cap p vb 0 1 1 (l.map (Value.int .i64)) ([x].map (Value.int .i64)) w hpl' (by decide) hc (by omega) (by omega) (by simp) rfl (map_cell hcells) (one_cell hx) one_of_map one_of_map).mono ?_
        rintro e w' ⟨rfl, rfl⟩
        obtain ⟨k, hk⟩ : ∃ k, k = grownCap w (l.length + 1) cap 3 := ⟨_, rfl⟩
        have hk1 : l.length + 1 ≤ k := by rw [hk]; exact grownCap_ge w _ _ _
        have hk2 : k ≤ maxLen := by rw [hk]; exact grownCap_le_maxLen _ _ _ _ (by unfold maxLen; omega)
        obtain ⟨ys, hys⟩ : ∃ ys, ys = l.take p ++ List.replicate (l.length + 1 - p) 0 ++ List.replicate (k - (l.length + 1)) (0 : Int) := ⟨_, rfl⟩
        have hyl : ys.length = k := by rw [hys]; simp; omega
        have hL0 : Lies (w.alloc (.cells (((l.map (Value.int .i64)).take p).toArray ++ Builtin.zeroCells (Value.int .i64 0).cells (l.length + 1 - p) ++ Builtin.zeroCells (Value.int .i64 0).cells (k - (l.length + 1))) 3)) w.heap.size 3 (ys.map (Value.int .i64)).toArray := by
          refine (Lies.new w 3 _).cast ?_
          rw [zeros_int, zeros_int, hys]
          simp
        have h1 : p + [x].length ≤ ys.length := by rw [hyl]; simp; omega
        have hL1 := Lies.setInts hL0.drew h1
        have h2 : p + 1 + (l.drop p).length ≤ (splice ys p [x]).length := by rw [splice_len h1, hyl]; simp; omega
        have hL2 := Lies.setInts hL1.drew h2
        refine ⟨_, rfl, Or.inr ⟨w.heap.size, k, splice (splice ys p [x]) (p + 1) (l.drop p), by rw [insAt_len _ _ hp, hk]; rfl, hB, ?_, by rw [splice_len h2, splice_len h1, hyl], by rw [insAt_len _ _ hp]; exact hk1, hk2, ?_⟩, ?_, Or.inr fun k hk => Nat.le_of_eq (Option.some.inj hk)⟩
        · rw [hk] at hL2
          rw [← List.map_drop]
          exact hL2
        · apply List.ext_getElem?
          intro j
          rw [insAt_len _ _ hp, List.getElem?_take, insAt_get hp]
          by_cases hj : j < l.length + 1
          · rw [if_pos hj, splice_get h2]
            by_cases h3 : j < p + 1
            · rw [if_pos h3, splice_get h1]
              simp only [List.length_cons, List.length_nil, Nat.zero_add]
              by_cases h4 : j < p
              · rw [if_pos h4, if_pos h4, hys, List.append_assoc, List.getElem?_append_left (by simp; omega), List.getElem?_take_of_lt h4]
              · rw [if_neg h4, if_neg h4, if_pos h3, if_pos (by omega), show j - p = 0 by omega]
                rfl
            · rw [if_neg h3, if_pos (by simp; omega), if_neg (by omega), if_neg (by omega), List.getElem?_drop]
              congr 1
              omega
          · rw [if_neg hj, if_neg (by omega), if_neg (by omega), List.getElem?_eq_none (by omega)]
        · exact grown_of_below (below_setC (Nat.le_refl _) _ _ _ ((below_setC (Nat.le_refl _) _ _ _ (((Below.refl _ _).alloc (Nat.le_refl _) _).drew)).drew))

set_option maxHeartbeats 1000000 in
theorem delI_any {g cap B p : Nat} {l : List Int} {w : World} (h : IOwn w B (.slice (some ⟨g, 0, none⟩) l.length cap) l) (hp : p < l.length) :
    Calls Try.prog 84 #[.slice (some ⟨g, 0, none⟩) l.length cap, .int .i64 p, .int .i64 (p + 1 : Nat)] w (InsPost w B (.slice (some ⟨g, 0, none⟩) l.length cap) (delAt l p)) := by
  rcases h with ⟨h, _⟩ | ⟨g', cap', zs, he, hgB, hL, hz, hc, hm, ht⟩
  · cases h
  injection he with e1 e2 e3
  injection e1 with e1
  injection e1 with e1
  subst e1 e3
  have hH : Sort.Holds (Value.int .i64) w g 0 l.toArray := fun j hj => by
    simp only [List.size_toArray] at hj
    refine ⟨?_, hL.frozen _⟩
    rw [Nat.zero_add]
    have hy := int_cell hL (take_at ht (List.getElem?_eq_getElem hj))
    rw [hy]
    simp [hj]
  unfold maxLen at hm
  refine (Any.slices_Delete_int laysDelete g 0 cap p (p + 1) l w hH hc (by omega) (by omega) (by omega)).mono ?_
  rintro e w' ⟨rfl, q, rfl⟩
  have hlen : (l.take p ++ l.drop (p + 1) ++ List.replicate (p + 1 - p) 0).length = l.length := by simp; omega
  rw [Lib.putRow_eq_setCells _ w g 0 _ _ q hH (by simpa using hlen)]
  have h1 : 0 + (l.take p ++ l.drop (p + 1) ++ List.replicate (p + 1 - p) 0).length ≤ zs.length := by rw [hlen]; omega
  refine ⟨_, rfl, Or.inr ⟨g, cap, splice zs 0 (l.take p ++ l.drop (p + 1) ++ List.replicate (p + 1 - p) 0), ?_, hgB, (hL.drewN q).setInts h1, ?_, ?_, ?_, ?_⟩, grown_trans (grown_drewN w _ q) (grown_setCells g _ rfl _ _ _), Or.inl rfl⟩
  · rw [delAt_len l hp]
    congr 1
    omega
  · rw [splice_len h1]; exact hz
  · rw [delAt_len l hp]; omega
  · unfold maxLen; omega
  · rw [splice_front (by rw [hlen, delAt_len l hp]; omega)]
    unfold delAt
    rw [List.take_append_of_le_length (by omega), List.take_of_length_le (by omega)]

set_option maxHeartbeats 1000000 in
theorem searchI_any {v : Value} {B : Nat} {l : List Int} {x : Int} {w : World} (h : IOwn w B v l) (hs : l.Pairwise (· < ·)) (h50 : l.length ≤ 50) :
    Calls Try.prog 93 #[v, .int .i64 x] w fun e w' => e = .returned (.tuple #[.int .i64 (lessN l x : Nat), .bool (decide (x ∈ l))]) ∧ ∃ q, w' = w.drewN q := by
  by_cases h0 : l.length = 0
  · have hl : l = [] := List.length_eq_zero_iff.1 h0
    subst hl
    obtain ⟨A, cap, rfl, _⟩ := h.rd.is
    refine (Any.slices_BinarySearch_int_empty laysSearch A cap x w).mono ?_
    rintro e w' ⟨rfl, rfl⟩
    exact ⟨rfl, 0, rfl⟩
  · rcases h with ⟨rfl, rfl⟩ | ⟨g, cap, zs, rfl, hgB, hL, hz, hc, hm, ht⟩
    · simp at h0
    · refine (Any.slices_BinarySearch_int laysSearch g 0 l.length cap l x w (Nat.le_refl _) (by omega) (fun j hj => ?_) ?_).mono ?_
      · rw [Nat.zero_add, int_cell hL (take_at ht (List.getElem?_eq_getElem hj))]
        simp [hj]
      · rw [List.take_length]
        exact hs.imp fun h => Int.le_of_lt h
      · rintro e w' ⟨rfl, hq⟩
        refine ⟨?_, hq⟩
        rw [List.take_length, List.contains_eq_mem]
        rfl
end Go.Proofs.Ytebcnhnkpmbgdaa
