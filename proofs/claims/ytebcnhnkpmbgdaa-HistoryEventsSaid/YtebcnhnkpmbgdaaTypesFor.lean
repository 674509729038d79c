/-
  Contract of history.typesFor.
-/
import Derived.Test.YtebcnhnkpmbgdaaRepeat
namespace Go.Proofs.Ytebcnhnkpmbgdaa
open Go.RowKit
set_option maxRecDepth 20000

/-- What one more call makes of the types. -/
def tyStep (ts : List Int) (c : Cl) : List Int := if 0 ≤ c.thing ∧ c.thing ≤ 3 then ts.set c.thing.toNat (kindType c.kind) else ts
def typesForL (l : List Cl) : List Int := l.foldl tyStep [1, 1, 1, 1]
theorem tyStep_len (ts : List Int) (c : Cl) : (tyStep ts c).length = ts.length := by
  unfold tyStep
  split <;> simp
theorem foldl_len : ∀ (l : List Cl) (ts : List Int), (l.foldl tyStep ts).length = ts.length
  | [], _ => rfl
  | c :: r, ts => by rw [List.foldl_cons, foldl_len r, tyStep_len]
theorem typesForL_len (l : List Cl) : (typesForL l).length = 4 := foldl_len l _
theorem typesForL_take {l : List Cl} {k : Nat} {c : Cl} (h : l[k]? = some c) : typesForL (l.take (k + 1)) = tyStep (typesForL (l.take k)) c := by
  unfold typesForL
  rw [List.take_add_one, h, List.foldl_append]
  rfl
abbrev numCs (ts : List Int) : Array Value := (ts.map (Value.int .i64)).toArray
theorem numCs_set (ts : List Int) (q : Nat) (t : Int) : (numCs ts).setIfInBounds q (.int .i64 t) = numCs (ts.set q t) := by
  unfold numCs
  rw [List.setIfInBounds_toArray, List.map_set]

/-- What the step reads: the call's cells, and where the types lie. -/
def TyS (P : Nat) (x : Cl) (w : World) : Prop := w.cell? ⟨P, 1, none⟩ = some (.int .i64 x.thing) ∧ w.cell? ⟨P, 2, none⟩ = some (.int .i64 x.kind)

set_option maxHeartbeats 4000000 in
theorem typesFor_any {B : Nat} {v : Value} {l : List Cl} {w : World} (h : CRd w B v l) (hB : B ≤ w.heap.size) :
    Calls Try.prog 33 #[v] w fun e w' => ∃ G, e = .returned (.slice (some ⟨G, 0, none⟩) 4 4) ∧ Lies w' G 3 (numCs (typesForL l)) ∧ Below w.heap.size w w' := by
  obtain ⟨A, c, rfl, m1, m2⟩ := h.is
  unfold maxLen at m2
  have H := Lib.hid (And.intro h hB)
  clear h hB
  obtain ⟨L, hL⟩ : ∃ L, L = l.length := ⟨_, rfl⟩
  rw [← hL]
  rw [← hL] at m1
  have HL := Lib.hid hL
  clear hL
  have HR := Lib.hid (repeat_four w.heap.size (w.alloc (.cells #[.int .i64 1] 3)) (Lies.cell (Lies.new w 3 #[.int .i64 1]) 0))
  go_enter Try.func33, Try.ntmps33
  go_wp2_with fail
  refine HR.out.mono ?_
  rintro e w1 ⟨G, rfl, hG, hl1, hb1⟩
  rw [World.size_alloc] at hG
  have hw1 : Below w.heap.size w w1 := ((Below.refl _ _).alloc (Nat.le_refl _) _).trans (hb1.mono (by simp))
  have H1 := Lib.hid (And.intro hw1 (show Lies w1 G 3 (numCs (typesForL (l.take 0))) from hl1))
  clear HR hb1 hw1 hl1
  go_wp2_with fail
  go_loopw [10] (fun i wr => ∃ k : Nat, k ≤ L ∧ i = .int .i64 k ∧ Below w.heap.size w wr ∧ Lies wr G 3 (numCs (typesForL (l.take k)))) (fun i _ => L - (intOf i).toNat)
  case atStart => exact ⟨0, by omega, rfl, H1.out⟩
  case round =>
    clear H1
    obtain ⟨k, hk, rfl, hb, hl⟩ := hrel
    by_cases hkL : k < L
    · obtain ⟨x, hx⟩ : ∃ x, l[k]? = some x := ⟨_, List.getElem?_eq_getElem (by rw [← HL.out]; exact hkL)⟩
      have h' := H.out.1.below (hb.mono H.out.2)
      rw [← HL.out] at h'
      obtain ⟨g, o, rfl, -, d0, d1, d2, d3, d4, d5, d6⟩ := h'.cl hx
      have i1 : (0 : Int) ≤ (k : Int) := by omega
      have i2 : (k : Int) < (L : Int) := by omega
      have hst := typesForL_take hx
      have hlen := typesForL_len (l.take k)
      obtain ⟨x0, x1, x2, x3, x4, x5, x6⟩ := x
      have hba : Below wr.heap.size wr (wr.alloc (.cells (clCs ⟨x0, x1, x2, x3, x4, x5, x6⟩).toArray 70)) := (Below.refl _ _).alloc (Nat.le_refl _) _
      have HW := Lib.hid (And.intro (hb.trans (hba.mono hb.size)) (And.intro (Lies.below hl hba hl.lt) (Lies.new wr 70 (clCs ⟨x0, x1, x2, x3, x4, x5, x6⟩).toArray)))
      have HS := Lib.hid (And.intro hst hlen)
      have hGl := hl.lt
      clear h' hx hb hl hst hlen hba
      go_wp2_with fail
      have HW' := HW.out
      clear HW d0 d1 d2 d3 d4 d5 d6
      change Calls _ _ _ (wr.alloc (.cells (clCs ⟨x0, x1, x2, x3, x4, x5, x6⟩).toArray 70)) _
      generalize wr.alloc (.cells (clCs ⟨x0, x1, x2, x3, x4, x5, x6⟩).toArray 70) = W2 at HW' ⊢
      have hPG : G < wr.heap.size := hGl
      generalize wr.heap.size = P at HW' hPG ⊢
      clear hGl
      refine (within_any _ _ _ _).mono ?_
      rintro e w' ⟨rfl, rfl⟩
      cases c1 : btw 0 x1 3
      · have hc1 := btw_not.1 c1
        have hs := HS.out.1
        unfold tyStep at hs
        rw [if_neg (by exact hc1)] at hs
        have HS2 := Lib.hid hs
        have HWW := Lib.hid HW'
        clear hs HW' hc1
        go_wp2_with fail
        go_roundw
        case rel => exact ⟨k + 1, by omega, by go_num, HWW.out.1, by rw [HS2.out]; exact HWW.out.2.1⟩
        case measure => simp [intOf]; omega
      · have hc1 := btw_iff.1 c1
        have hs := HS.out.1
        unfold tyStep at hs
        rw [if_pos (by exact hc1)] at hs
        obtain ⟨q, rfl⟩ : ∃ q : Nat, x1 = (q : Int) := ⟨x1.toNat, by omega⟩
        simp only [Int.toNat_natCast] at hs
        have HS2 := Lib.hid hs
        have HWW := Lib.hid HW'
        have q1 : (0 : Int) ≤ (q : Int) := by omega
        have q2 : (q : Int) < 4 := by omega
        clear hs HW' hc1 c1
        go_wp2_with fail
        have hS0 : TyS P ⟨x0, q, x2, x3, x4, x5, x6⟩ W2.drew := ⟨Lies.cell HWW.out.2.2 1, Lies.cell HWW.out.2.2 2⟩
        refine wp_region_last (TyS P ⟨x0, q, x2, x3, x4, x5, x6⟩) 7 1 (by kernel_rfl) (by rfl) (by decide) (by kernel_rfl) (by kernel_rfl) (by kernel_rfl) (by kernel_rfl) ?_
        simp only [List.take_succ_cons, List.take_zero]
        iterate 5 (
          refine takeNext 7 17 (oi := _) (v := ?_) rfl rfl (by kernel_rfl) (by kernel_rfl) (by kernel_rfl) (fun _ _ _ h => h) (by rfl) ?_ hS0 ?_
          rotate_left
          · (intro w hSw; obtain ⟨s0, s1⟩ := hSw; go_simp; try with_reducible rfl)
          simp only [Act.put, List.setIfInBounds_toArray, List.set_cons_zero, List.set_cons_succ, Nat.reduceAdd, Nat.reduceSub])
        refine wpAnyH_ready (rs := [5]) (by kernel_rfl) (by simp) ?_
        refine AllReadyH.cons (o := _) rfl (fun K hK => ?_) AllReadyH.nil
        go_simp
        refine (typeOf_any _ _).mono ?_
        rintro e w' ⟨rfl, rfl⟩
        refine hK.out _ _ hS0 (fun _ => ?_)
        clear hK K
        refine takeAt 6 23 (oi := _) (v := ?_) rfl rfl (by kernel_rfl) (by kernel_rfl) (by kernel_rfl) (fun _ _ _ h => h) (by rfl) ?_ hS0 ?_
        rotate_left
        · (intro w hSw; obtain ⟨s0, s1⟩ := hSw; go_simp; try with_reducible rfl)
        simp only [Act.put, List.setIfInBounds_toArray, List.set_cons_zero, List.set_cons_succ]
        refine wpAnyH_done (by kernel_rfl) ?_ _
        have hlc : W2.cell? ⟨G, q, none⟩ = some (.int .i64 ((typesForL (l.take k)).getD q 0)) := by
          have hq : q < (typesForL (l.take k)).length := by rw [HS.out.2]; omega
          rw [Lies.cell HWW.out.2.1]
          simp [numCs, List.getD, hq]
        have hfz : W2.frozen? ⟨G, q, none⟩ = false := Lies.frozen HWW.out.2.1 q
        simp only [LastQ, List.drop_succ_cons, List.drop_zero]
        go_wp2_with fail
        go_roundw
        case rel =>
          refine ⟨k + 1, by omega, by go_num, HWW.out.1.drew.setCell (by show w.heap.size ≤ G; omega) _, ?_⟩
          rw [HS2.out, ← numCs_set]
          exact Lies.set_ HWW.out.2.1 q _
        case measure => simp [intOf]; omega
    · obtain rfl : k = L := by omega
      have HX := Lib.hid (And.intro hl hb)
      clear hl hb
      go_wp2_with fail
      go_ret
      refine ⟨G, rfl, ?_, HX.out.2⟩
      have := HX.out.1
      rw [HL.out, List.take_length] at this
      exact this
end Go.Proofs.Ytebcnhnkpmbgdaa
