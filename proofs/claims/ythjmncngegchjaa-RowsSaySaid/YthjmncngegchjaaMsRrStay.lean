/-
  Joined by a program out of: RrStay.
-/
import Derived.Test.YthjmncngegchjaaMsRrPut
import Derived.Deep.Cut
import Derived.BigRegion

/-
  Contract of the reference's StayOf.
-/
namespace Go.Proofs.Ythjmncngegchjaa
open Go.RowKit
set_option maxRecDepth 20000

/-- What StayOf answers. -/
def StayPost (w : World) (cs : List Cl) (v : Int) (e : Ending) (w' : World) : Prop :=
  ∃ (a b : Int) (ok : Bool), e = .returned (.tuple #[.agg #[.int .i64 a, .int .i64 b], .bool ok]) ∧ Below w.heap.size w w' ∧ stayV cs v = (if ok = true then some (a, b) else none)
/-- What it keeps. -/
structure StS (w : World) (G : Nat) (A : Option Addr) (n cap : Nat) (cs : List Cl) (W : World) : Prop where
  below : Below w.heap.size w W
  res : Lies W G 35 #[.int .i64 0, .int .i64 0]
  cls : CRd W w.heap.size (.slice A n cap) cs
  lt : w.heap.size ≤ G
section
variable {w : World} {G : Nat} {A : Option Addr} {n cap : Nat} {cs : List Cl} {W w' : World}
theorem StS.next (h : StS w G A n cap cs W) (hb : Below W.heap.size W w') : StS w G A n cap cs w' :=
  ⟨h.below.trans (hb.mono h.below.size), Lies.below h.res hb h.res.lt, h.cls.below (hb.mono h.below.size), h.lt⟩
theorem StS.over (h : StS w G A n cap cs W) {Y : Nat} (hY : w.heap.size ≤ Y) (hG : G < Y) (hb : Below Y W w') : StS w G A n cap cs w' :=
  ⟨h.below.trans (hb.mono hY), Lies.below h.res hb hG, h.cls.below (hb.mono hY), h.lt⟩
theorem StS.fill (h : StS w G A n cap cs W) (a b : Int) : Below w.heap.size w ((W.setCell ⟨G, 0, none⟩ (.int .i64 a)).setCell ⟨G, 1, none⟩ (.int .i64 b)) ∧ Lies ((W.setCell ⟨G, 0, none⟩ (.int .i64 a)).setCell ⟨G, 1, none⟩ (.int .i64 b)) G 35 #[.int .i64 a, .int .i64 b] :=
  ⟨(h.below.setCell (p := ⟨G, 0, none⟩) h.lt _).setCell (p := ⟨G, 1, none⟩) h.lt _, Lies.cast (Lies.set_ (Lies.set_ h.res 0 _) 1 _) (by simp)⟩
end
set_option maxHeartbeats 4000000 in
theorem stayOf_any {N : Nat} {v : Int} (hv : v ≠ -1) {lv : Value} {cs : List Cl} {w : World} (hq : QueH N cs) (h : CRd w w.heap.size lv cs) :
    Calls Try.prog 10 #[lv, .int .i64 v] w (StayPost w cs v) := by
  obtain ⟨A, cap, rfl, m1, m2⟩ := h.is
  unfold maxLen at m2
  obtain ⟨n, hn⟩ : ∃ n, n = cs.length := ⟨_, rfl⟩
  rw [← hn] at h m1 ⊢
  have HN := Lib.hid (And.intro hn (And.intro hq hv))
  have hb0 : Below w.heap.size w (w.alloc (.cells #[.int .i64 0, .int .i64 0] 35)) := (Below.refl _ _).alloc (Nat.le_refl _) _
  have hs0 : StS w w.heap.size A n cap cs (w.alloc (.cells #[.int .i64 0, .int .i64 0] 35)) := ⟨hb0, Lies.new _ _ _, h.below hb0, Nat.le_refl _⟩
  obtain ⟨G, hG⟩ : ∃ G, G = w.heap.size := ⟨_, rfl⟩
  have HGG := Lib.hid hG
  have H1 := Lib.hid (show StS w G A n cap cs (w.alloc (.cells #[.int .i64 0, .int .i64 0] 35)) by rw [hG]; exact hs0)
  clear h hn hq hv m2 hb0 hs0 hG
  go_enter Try.func10, Try.ntmps10
  go_upto_region 1 with fail
  change Code.wp _ _ _ _ (w.alloc (.cells #[.int .i64 0, .int .i64 0] 35))
  rw [← HGG.out]
  generalize w.alloc (.cells #[.int .i64 0, .int .i64 0] 35) = W1 at H1 ⊢
  have HP := Lib.hid (putBy_any v (H1.out.cls.mono H1.out.below.size))
  go_wp2_with fail
  refine HP.out.mono ?_
  rintro e w2 ⟨rfl, hb2⟩
  have H2 := Lib.hid (H1.out.next hb2)
  have HT := Lib.hid (takenBy_any v (H2.out.cls.mono H2.out.below.size))
  clear HP H1 hb2
  go_wp2_with fail
  refine HT.out.mono ?_
  rintro e w3 ⟨rfl, hb3⟩
  have H3 := Lib.hid (H2.out.next hb3)
  clear HT H2 hb3
  rw [show fAt (isD v) 0 cs = tAt cs v by unfold tAt; rw [if_neg HN.out.2.2], show fAt (isE v) 0 cs = pAt cs v from rfl]
  cases hpa : pAt cs v with
  | none =>
    have HSV := Lib.hid (show stayV cs v = none by unfold stayV; rw [hpa]; exact if_neg (fun h => by cases h.1))
    clear hpa
    rw [show atI (none : Option Nat) = -1 from rfl]
    generalize atI (tAt cs v) = T0
    have r0 := Lies.cell H3.out.res 0
    have r1 := Lies.cell H3.out.res 1
    have rf : ∀ i, w3.frozen? ⟨G, i, none⟩ = false := fun i => Lies.frozen H3.out.res i
    have HF := Lib.hid (H3.out.fill 0 0)
    simp only [List.getElem?_toArray, List.getElem?_cons_zero, List.getElem?_cons_succ] at r0 r1
    go_wp2_with fail
    generalize (w3.setCell ⟨G, 0, none⟩ (.int .i64 0)).setCell ⟨G, 1, none⟩ (.int .i64 0) = W5 at HF ⊢
    have q0 := Lies.cell HF.out.2 0
    have q1 := Lies.cell HF.out.2 1
    simp only [List.getElem?_toArray, List.getElem?_cons_zero, List.getElem?_cons_succ] at q0 q1
    exact bodyPost_ret (v := .tuple #[.agg #[.int .i64 0, .int .i64 0], .bool false]) (by simp [results, Try.results10, go_sem, q0, q1]) rfl ⟨0, 0, false, rfl, HF.out.1, by rw [HSV.out]; rfl⟩
  | some i =>
    obtain ⟨⟨c, hc, _⟩, _⟩ := pAt_some.1 hpa
    have hpc : pC cs v = c := by unfold pC; rw [hpa, Option.getD_some, List.getD_eq_getElem?_getD, hc]; rfl
    have hsv : stayV cs v = if c.til ≠ -1 ∧ c.til ≤ (if (tAt cs v).isSome = true then (tC cs v).frm - 1 else 199) then some (c.til, if (tAt cs v).isSome = true then (tC cs v).frm - 1 else 199) else none := by
      unfold stayV
      rw [hpa, hpc]
      simp only [Option.isSome_some, true_and]
    obtain ⟨g, o, rfl, -, d0, d1, d2, d3, d4, d5, d6⟩ := H3.out.cls.cl hc
    have hi := (List.getElem?_eq_some_iff.1 hc).1
    have i1 : (0 : Int) ≤ (i : Int) := by omega
    have i2 : (i : Int) < (n : Int) := by rw [HN.out.1]; omega
    have HSV0 := Lib.hid hsv
    obtain ⟨x0, x1, x2, x3, x4, x5, x6⟩ := c
    simp only at d0 d1 d2 d3 d4 d5 d6 HSV0
    clear hpa hpc hsv hi hc
    rw [show atI (some i) = (i : Int) from rfl]
    by_cases ht : x6 = -1
    · have HSV := Lib.hid (show stayV cs v = none by rw [HSV0.out]; exact if_neg (fun h => h.1 ht))
      rw [ht] at d6
      clear ht HSV0
      generalize atI (tAt cs v) = T0
      have r0 := Lies.cell H3.out.res 0
      have r1 := Lies.cell H3.out.res 1
      have rf : ∀ i, w3.frozen? ⟨G, i, none⟩ = false := fun i => Lies.frozen H3.out.res i
      have HF := Lib.hid (H3.out.fill 0 0)
      simp only [List.getElem?_toArray, List.getElem?_cons_zero, List.getElem?_cons_succ] at r0 r1
      go_wp2_with fail
      generalize (w3.setCell ⟨G, 0, none⟩ (.int .i64 0)).setCell ⟨G, 1, none⟩ (.int .i64 0) = W5 at HF ⊢
      have q0 := Lies.cell HF.out.2 0
      have q1 := Lies.cell HF.out.2 1
      simp only [List.getElem?_toArray, List.getElem?_cons_zero, List.getElem?_cons_succ] at q0 q1
      exact bodyPost_ret (v := .tuple #[.agg #[.int .i64 0, .int .i64 0], .bool false]) (by simp [results, Try.results10, go_sem, q0, q1]) rfl ⟨0, 0, false, rfl, HF.out.1, by rw [HSV.out]; rfl⟩
    · have HTL := Lib.hid ht
      have bt : (x6 == -1) = false := beq_eq_false_iff_ne.2 ht
      have hal : Below w3.heap.size w3 (w3.alloc (.cells #[.int .i64 x6, .int .i64 199] 35)) := (Below.refl _ _).alloc (Nat.le_refl _) _
      have HA := Lib.hid (And.intro (H3.out.next hal) (Lies.new w3 35 #[.int .i64 x6, .int .i64 199]))
      have HYG := Lib.hid (And.intro H3.out.below.size H3.out.res.lt)
      clear ht hal H3
      cases hta : tAt cs v with
      | none =>
        have HSV := Lib.hid (show stayV cs v = if x6 ≠ -1 ∧ x6 ≤ 199 then some (x6, 199) else none by have := HSV0.out; rw [hta] at this; exact this)
        clear hta HSV0
        rw [show atI (none : Option Nat) = -1 from rfl]
        go_upto_region 7 with fail
        change Code.wp _ _ _ _ (w3.alloc (.cells #[.int .i64 x6, .int .i64 199] 35))
        generalize w3.alloc (.cells #[.int .i64 x6, .int .i64 199] 35) = W4 at HA ⊢
        generalize w3.heap.size = Y at HA HYG ⊢
        have H4 := HA
        clear d0 d1 d2 d3 d4 d5 d6 HA
        have e0 := Lies.cell H4.out.2 0
        have e1 := Lies.cell H4.out.2 1
        have r0 := Lies.cell H4.out.1.res 0
        have r1 := Lies.cell H4.out.1.res 1
        have rf : ∀ i, W4.frozen? ⟨G, i, none⟩ = false := fun i => Lies.frozen H4.out.1.res i
        have HF := Lib.hid (H4.out.1.fill x6 199)
        simp only [List.getElem?_toArray, List.getElem?_cons_zero, List.getElem?_cons_succ] at e0 e1 r0 r1
        obtain ⟨ok, hok⟩ : ∃ ok, ok = decide (x6 ≤ 199) := ⟨_, rfl⟩
        have HOK := Lib.hid (show stayV cs v = if ok = true then some (x6, 199) else none by rw [HSV.out, hok]; simp [HTL.out])
        have hne : Y ≠ G := by have := HYG.out.2; omega
        have hne2 : G ≠ Y := by omega
        go_region
        clear e0 e1 r0 r1 rf hne hne2
        try rw [← hok]
        clear hok
        change Exit.then _ _ _ _ ((W4.setCell ⟨G, 0, none⟩ (.int .i64 x6)).setCell ⟨G, 1, none⟩ (.int .i64 199)).drew
        generalize (W4.setCell ⟨G, 0, none⟩ (.int .i64 x6)).setCell ⟨G, 1, none⟩ (.int .i64 199) = W5 at HF ⊢
        have q0 := Lies.cell HF.out.2 0
        have q1 := Lies.cell HF.out.2 1
        simp only [List.getElem?_toArray, List.getElem?_cons_zero, List.getElem?_cons_succ] at q0 q1
        go_wp2_with fail
        exact bodyPost_ret (v := .tuple #[.agg #[.int .i64 x6, .int .i64 199], .bool ok]) (by simp [results, Try.results10, go_sem, q0, q1]) rfl ⟨x6, 199, ok, rfl, HF.out.1.drew, HOK.out⟩
      | some j =>
        obtain ⟨_, ⟨d, hd, _⟩, _⟩ := tAt_some.1 hta
        have htc : tC cs v = d := by unfold tC; rw [hta, Option.getD_some, List.getD_eq_getElem?_getD, hd]; rfl
        have hsv := HSV0.out
        rw [hta, htc] at hsv
        have hfr := HN.out.2.1.frm (List.mem_of_getElem? hd)
        have hj := (List.getElem?_eq_some_iff.1 hd).1
        have j1 : (0 : Int) ≤ (j : Int) := by omega
        have j2 : (j : Int) < (n : Int) := by rw [HN.out.1]; omega
        rw [show atI (some j) = (j : Int) from rfl]
        go_upto_region 6 with fail
        change Code.wp _ _ _ _ (w3.alloc (.cells #[.int .i64 x6, .int .i64 199] 35))
        generalize w3.alloc (.cells #[.int .i64 x6, .int .i64 199] 35) = W4 at HA ⊢
        generalize w3.heap.size = Y at HA HYG ⊢
        clear d0 d1 d2 d3 d4 d5 d6
        obtain ⟨g', o', hA, -, d0, d1, d2, d3, d4, d5, d6⟩ := HA.out.1.cls.cl hd
        injection hA with hA
        injection hA with hA1 hA2
        subst hA1 hA2
        obtain ⟨y0, y1, y2, y3, y4, y5, y6⟩ := d
        simp only at d0 d1 d2 d3 d4 d5 d6 hsv hfr
        have hw5 : IntKind.i64.wrap (y5 - 1) = y5 - 1 := by rw [IntKind.wrap_i64]; omega
        have HSV := Lib.hid (show stayV cs v = if x6 ≠ -1 ∧ x6 ≤ y5 - 1 then some (x6, y5 - 1) else none from hsv)
        clear hta htc hsv HSV0 hd hj
        have e1 := Lies.cell HA.out.2 1
        have ef : ∀ i, W4.frozen? ⟨Y, i, none⟩ = false := fun i => Lies.frozen HA.out.2 i
        simp only [List.getElem?_toArray, List.getElem?_cons_zero, List.getElem?_cons_succ] at e1
        have hbY : Below Y W4 (W4.setCell ⟨Y, 1, none⟩ (.int .i64 (y5 - 1))) := (Below.refl _ _).setCell (p := ⟨Y, 1, none⟩) (Nat.le_refl _) _
        have H4 := Lib.hid (And.intro (HA.out.1.over HYG.out.1 HYG.out.2 hbY) (show Lies (W4.setCell ⟨Y, 1, none⟩ (.int .i64 (y5 - 1))) Y 35 #[.int .i64 x6, .int .i64 (y5 - 1)] from Lies.cast (Lies.set_ HA.out.2 1 (.int .i64 (y5 - 1))) (by simp)))
        clear hbY HA hfr
        go_upto_region 7 with fail
        change Code.wp _ _ _ _ (W4.setCell ⟨Y, 1, none⟩ (.int .i64 (y5 - 1)))
        generalize W4.setCell ⟨Y, 1, none⟩ (.int .i64 (y5 - 1)) = W6 at H4 ⊢
        clear d0 d1 d2 d3 d4 d5 d6 e1 ef hw5
        generalize y5 - 1 = E at H4 HSV ⊢
        have e0 := Lies.cell H4.out.2 0
        have e1 := Lies.cell H4.out.2 1
        have r0 := Lies.cell H4.out.1.res 0
        have r1 := Lies.cell H4.out.1.res 1
        have rf : ∀ i, W6.frozen? ⟨G, i, none⟩ = false := fun i => Lies.frozen H4.out.1.res i
        have HF := Lib.hid (H4.out.1.fill x6 E)
        simp only [List.getElem?_toArray, List.getElem?_cons_zero, List.getElem?_cons_succ] at e0 e1 r0 r1
        obtain ⟨ok, hok⟩ : ∃ ok, ok = decide (x6 ≤ E) := ⟨_, rfl⟩
        have HOK := Lib.hid (show stayV cs v = if ok = true then some (x6, E) else none by rw [HSV.out, hok]; simp [HTL.out])
        have hne : Y ≠ G := by have := HYG.out.2; omega
        have hne2 : G ≠ Y := by omega
        go_region
        clear e0 e1 r0 r1 rf hne hne2
        try rw [← hok]
        clear hok
        change Exit.then _ _ _ _ ((W6.setCell ⟨G, 0, none⟩ (.int .i64 x6)).setCell ⟨G, 1, none⟩ (.int .i64 E)).drew
        generalize (W6.setCell ⟨G, 0, none⟩ (.int .i64 x6)).setCell ⟨G, 1, none⟩ (.int .i64 E) = W5 at HF ⊢
        have q0 := Lies.cell HF.out.2 0
        have q1 := Lies.cell HF.out.2 1
        simp only [List.getElem?_toArray, List.getElem?_cons_zero, List.getElem?_cons_succ] at q0 q1
        go_wp2_with fail
        exact bodyPost_ret (v := .tuple #[.agg #[.int .i64 x6, .int .i64 E], .bool ok]) (by simp [results, Try.results10, go_sem, q0, q1]) rfl ⟨x6, E, ok, rfl, HF.out.1.drew, HOK.out⟩
end Go.Proofs.Ythjmncngegchjaa
