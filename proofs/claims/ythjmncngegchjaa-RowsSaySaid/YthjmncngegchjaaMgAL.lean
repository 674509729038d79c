/-
  Joined by a program out of: RMeth.
-/
import Derived.Test.YthjmncngegchjaaMgAK

/-
  Contracts of stray, twice and early of package rows.
-/
namespace Go.Proofs.Ythjmncngegchjaa
open Go.RowKit Go.Maps
set_option maxRecDepth 20000

set_option maxHeartbeats 4000000 in
theorem rstray_any {w : World} {B Q : Nat} {A : Option Addr} {cap n : Nat} {cs : List Cl} {M1 M2 : Nat} (h : Rec w B Q 1000 A cap n cs M1 M2 (numF (pAt cs)) (numF (tAt cs))) (hn : n = cs.length) (hm : n ≤ 200) (hc : ∀ c ∈ cs, c.kind = 4 → -1 ≤ c.res ∧ c.res ≤ 1000) :
    Calls Try.prog 21 #[.pointer (some ⟨Q, 0, none⟩)] w fun e w' => e = .returned (bzV (firstD 1 (strayF cs) 0 cs)) ∧ Below w.heap.size w w' := by
  obtain ⟨W, hW⟩ : ∃ W, W = (w.alloc (.cells #[.pointer (some ⟨Q, 0, none⟩)] 56)).alloc (.cells #[.int .i64 0, .int .i64 0, .int .i64 0] 28) := ⟨_, rfl⟩
  have hb : Below w.heap.size w W := by rw [hW]; exact ((Below.refl _ _).alloc (Nat.le_refl _) _).alloc (by simp) _
  have hp : Lies W w.heap.size 56 #[.pointer (some ⟨Q, 0, none⟩)] := by rw [hW]; exact Lies.alloc (Lies.new _ _ _) _
  have hr : Lies W (w.heap.size + 1) 28 #[.int .i64 0, .int .i64 0, .int .i64 0] := by
    have := Lies.new (w.alloc (.cells #[.pointer (some ⟨Q, 0, none⟩)] 56)) 28 #[.int .i64 0, .int .i64 0, .int .i64 0]
    rw [World.size_alloc] at this
    rw [hW]
    exact this
  have HF := Lib.hid (rfirstS_any (P := w.heap.size) (f := strayF cs) (h.next hb) hn hm 1 (fun k c W' hk h4 hW' => rstray_cl ((h.next hb).next hW') (Lies.below hp hW' hp.lt) hn k c (hc c (List.mem_of_getElem? hk) h4)))
  have p0 := Lies.cell hp 0
  simp only [List.getElem?_toArray, List.getElem?_cons_zero] at p0
  have H0 := Lib.hid (And.intro hb hr)
  have HW := Lib.hid hW
  obtain ⟨R, hR⟩ : ∃ R, R = firstD 1 (strayF cs) 0 cs := ⟨_, rfl⟩
  rw [← hR] at HF ⊢
  obtain ⟨k0, k1, k2⟩ := R
  clear h hn hm hc hb hp hr hW hR
  go_enter Try.func21, Try.ntmps21
  go_upto_region 1 with fail
  change Code.wp _ _ _ _ ((w.alloc (.cells #[.pointer (some ⟨Q, 0, none⟩)] 56)).alloc (.cells #[.int .i64 0, .int .i64 0, .int .i64 0] 28))
  rw [← HW.out]
  clear HW
  obtain ⟨Y, hY⟩ : ∃ Y, Y = w.heap.size + 1 := ⟨_, rfl⟩
  rw [← hY] at H0 ⊢
  have HY := Lib.hid hY
  clear hY
  go_wp2_with fail
  refine HF.out.mono ?_
  rintro e w1 ⟨rfl, hb1⟩
  have hbw : Below w.heap.size w w1 := H0.out.1.trans (hb1.mono H0.out.1.size)
  have hres := Lies.below H0.out.2 hb1 H0.out.2.lt
  have H1 := Lib.hid (And.intro hbw hres)
  have r0 := Lies.cell hres 0
  have r1 := Lies.cell hres 1
  have r2 := Lies.cell hres 2
  have rf : ∀ i, w1.frozen? ⟨Y, i, none⟩ = false := fun i => Lies.frozen hres i
  simp only [List.getElem?_toArray, List.getElem?_cons_zero, List.getElem?_cons_succ] at r0 r1 r2
  clear HF H0 hb1 hbw hres p0
  go_wp2_with fail
  clear r0 r1 r2 rf
  have hl := fill3_lies (a := .int .i64 k0) (b := .int .i64 k1) (c := .int .i64 k2) H1.out.2
  have hb := fill3_below (a := .int .i64 k0) (b := .int .i64 k1) (c := .int .i64 k2) H1.out.1 (g := Y) (by have := HY.out; omega)
  change bodyPost _ _ _ _ _ (fill3 w1 Y (.int .i64 k0) (.int .i64 k1) (.int .i64 k2))
  generalize fill3 w1 Y (.int .i64 k0) (.int .i64 k1) (.int .i64 k2) = wz at hl hb ⊢
  have q0 := Lies.cell hl 0
  have q1 := Lies.cell hl 1
  have q2 := Lies.cell hl 2
  simp only [List.getElem?_toArray, List.getElem?_cons_zero, List.getElem?_cons_succ] at q0 q1 q2
  exact bodyPost_ret (v := bzV ⟨k0, k1, k2⟩) (by simp [results, Try.results21, go_sem, q0, q1, q2]) rfl ⟨rfl, hb⟩
set_option maxHeartbeats 4000000 in
theorem rtwice_any {w : World} {B Q : Nat} {A : Option Addr} {cap n : Nat} {cs : List Cl} {M1 M2 : Nat} (h : Rec w B Q 1000 A cap n cs M1 M2 (numF (pAt cs)) (numF (tAt cs))) (hn : n = cs.length) (hm : n ≤ 200) (hc : ∀ c ∈ cs, c.kind = 4 → -1 ≤ c.res ∧ c.res ≤ 1000) :
    Calls Try.prog 22 #[.pointer (some ⟨Q, 0, none⟩)] w fun e w' => e = .returned (bzV (firstD 2 (twiceF cs) 0 cs)) ∧ Below w.heap.size w w' := by
  obtain ⟨W, hW⟩ : ∃ W, W = (w.alloc (.cells #[.pointer (some ⟨Q, 0, none⟩)] 56)).alloc (.cells #[.int .i64 0, .int .i64 0, .int .i64 0] 28) := ⟨_, rfl⟩
  have hb : Below w.heap.size w W := by rw [hW]; exact ((Below.refl _ _).alloc (Nat.le_refl _) _).alloc (by simp) _
  have hp : Lies W w.heap.size 56 #[.pointer (some ⟨Q, 0, none⟩)] := by rw [hW]; exact Lies.alloc (Lies.new _ _ _) _
  have hr : Lies W (w.heap.size + 1) 28 #[.int .i64 0, .int .i64 0, .int .i64 0] := by
    have := Lies.new (w.alloc (.cells #[.pointer (some ⟨Q, 0, none⟩)] 56)) 28 #[.int .i64 0, .int .i64 0, .int .i64 0]
    rw [World.size_alloc] at this
    rw [hW]
    exact this
  have HF := Lib.hid (rfirstT_any (P := w.heap.size) (f := twiceF cs) (h.next hb) hn hm 2 (fun k c W' hk h4 hW' => rtwice_cl ((h.next hb).next hW') (Lies.below hp hW' hp.lt) hn k c (hc c (List.mem_of_getElem? hk) h4)))
  have p0 := Lies.cell hp 0
  simp only [List.getElem?_toArray, List.getElem?_cons_zero] at p0
  have H0 := Lib.hid (And.intro hb hr)
  have HW := Lib.hid hW
  obtain ⟨R, hR⟩ : ∃ R, R = firstD 2 (twiceF cs) 0 cs := ⟨_, rfl⟩
  rw [← hR] at HF ⊢
  obtain ⟨k0, k1, k2⟩ := R
  clear h hn hm hc hb hp hr hW hR
  go_enter Try.func22, Try.ntmps22
  go_upto_region 1 with fail
  change Code.wp _ _ _ _ ((w.alloc (.cells #[.pointer (some ⟨Q, 0, none⟩)] 56)).alloc (.cells #[.int .i64 0, .int .i64 0, .int .i64 0] 28))
  rw [← HW.out]
  clear HW
  obtain ⟨Y, hY⟩ : ∃ Y, Y = w.heap.size + 1 := ⟨_, rfl⟩
  rw [← hY] at H0 ⊢
  have HY := Lib.hid hY
  clear hY
  go_wp2_with fail
  refine HF.out.mono ?_
  rintro e w1 ⟨rfl, hb1⟩
  have hbw : Below w.heap.size w w1 := H0.out.1.trans (hb1.mono H0.out.1.size)
  have hres := Lies.below H0.out.2 hb1 H0.out.2.lt
  have H1 := Lib.hid (And.intro hbw hres)
  have r0 := Lies.cell hres 0
  have r1 := Lies.cell hres 1
  have r2 := Lies.cell hres 2
  have rf : ∀ i, w1.frozen? ⟨Y, i, none⟩ = false := fun i => Lies.frozen hres i
  simp only [List.getElem?_toArray, List.getElem?_cons_zero, List.getElem?_cons_succ] at r0 r1 r2
  clear HF H0 hb1 hbw hres p0
  go_wp2_with fail
  clear r0 r1 r2 rf
  have hl := fill3_lies (a := .int .i64 k0) (b := .int .i64 k1) (c := .int .i64 k2) H1.out.2
  have hb := fill3_below (a := .int .i64 k0) (b := .int .i64 k1) (c := .int .i64 k2) H1.out.1 (g := Y) (by have := HY.out; omega)
  change bodyPost _ _ _ _ _ (fill3 w1 Y (.int .i64 k0) (.int .i64 k1) (.int .i64 k2))
  generalize fill3 w1 Y (.int .i64 k0) (.int .i64 k1) (.int .i64 k2) = wz at hl hb ⊢
  have q0 := Lies.cell hl 0
  have q1 := Lies.cell hl 1
  have q2 := Lies.cell hl 2
  simp only [List.getElem?_toArray, List.getElem?_cons_zero, List.getElem?_cons_succ] at q0 q1 q2
  exact bodyPost_ret (v := bzV ⟨k0, k1, k2⟩) (by simp [results, Try.results22, go_sem, q0, q1, q2]) rfl ⟨rfl, hb⟩
set_option maxHeartbeats 4000000 in
theorem rearly_any {w : World} {B Q : Nat} {A : Option Addr} {cap n : Nat} {cs : List Cl} {M1 M2 : Nat} (h : Rec w B Q 1000 A cap n cs M1 M2 (numF (pAt cs)) (numF (tAt cs))) (hn : n = cs.length) (hm : n ≤ 200) (hc : ∀ c ∈ cs, c.kind = 4 → -1 ≤ c.res ∧ c.res ≤ 1000) :
    Calls Try.prog 23 #[.pointer (some ⟨Q, 0, none⟩)] w fun e w' => e = .returned (bzV (firstD 3 (earlyF cs) 0 cs)) ∧ Below w.heap.size w w' := by
  obtain ⟨W, hW⟩ : ∃ W, W = (w.alloc (.cells #[.pointer (some ⟨Q, 0, none⟩)] 56)).alloc (.cells #[.int .i64 0, .int .i64 0, .int .i64 0] 28) := ⟨_, rfl⟩
  have hb : Below w.heap.size w W := by rw [hW]; exact ((Below.refl _ _).alloc (Nat.le_refl _) _).alloc (by simp) _
  have hp : Lies W w.heap.size 56 #[.pointer (some ⟨Q, 0, none⟩)] := by rw [hW]; exact Lies.alloc (Lies.new _ _ _) _
  have hr : Lies W (w.heap.size + 1) 28 #[.int .i64 0, .int .i64 0, .int .i64 0] := by
    have := Lies.new (w.alloc (.cells #[.pointer (some ⟨Q, 0, none⟩)] 56)) 28 #[.int .i64 0, .int .i64 0, .int .i64 0]
    rw [World.size_alloc] at this
    rw [hW]
    exact this
  have HF := Lib.hid (rfirstE_any (P := w.heap.size) (f := earlyF cs) (h.next hb) hn hm 3 (fun k c W' hk h4 hW' => rearly_cl ((h.next hb).next hW') (Lies.below hp hW' hp.lt) hn k c (hc c (List.mem_of_getElem? hk) h4)))
  have p0 := Lies.cell hp 0
  simp only [List.getElem?_toArray, List.getElem?_cons_zero] at p0
  have H0 := Lib.hid (And.intro hb hr)
  have HW := Lib.hid hW
  obtain ⟨R, hR⟩ : ∃ R, R = firstD 3 (earlyF cs) 0 cs := ⟨_, rfl⟩
  rw [← hR] at HF ⊢
  obtain ⟨k0, k1, k2⟩ := R
  clear h hn hm hc hb hp hr hW hR
  go_enter Try.func23, Try.ntmps23
  go_upto_region 1 with fail
  change Code.wp _ _ _ _ ((w.alloc (.cells #[.pointer (some ⟨Q, 0, none⟩)] 56)).alloc (.cells #[.int .i64 0, .int .i64 0, .int .i64 0] 28))
  rw [← HW.out]
  clear HW
  obtain ⟨Y, hY⟩ : ∃ Y, Y = w.heap.size + 1 := ⟨_, rfl⟩
  rw [← hY] at H0 ⊢
  have HY := Lib.hid hY
  clear hY
  go_wp2_with fail
  refine HF.out.mono ?_
  rintro e w1 ⟨rfl, hb1⟩
  have hbw : Below w.heap.size w w1 := H0.out.1.trans (hb1.mono H0.out.1.size)
  have hres := Lies.below H0.out.2 hb1 H0.out.2.lt
  have H1 := Lib.hid (And.intro hbw hres)
  have r0 := Lies.cell hres 0
  have r1 := Lies.cell hres 1
  have r2 := Lies.cell hres 2
  have rf : ∀ i, w1.frozen? ⟨Y, i, none⟩ = false := fun i => Lies.frozen hres i
  simp only [List.getElem?_toArray, List.getElem?_cons_zero, List.getElem?_cons_succ] at r0 r1 r2
  clear HF H0 hb1 hbw hres p0
  go_wp2_with fail
  clear r0 r1 r2 rf
  have hl := fill3_lies (a := .int .i64 k0) (b := .int .i64 k1) (c := .int .i64 k2) H1.out.2
  have hb := fill3_below (a := .int .i64 k0) (b := .int .i64 k1) (c := .int .i64 k2) H1.out.1 (g := Y) (by have := HY.out; omega)
  change bodyPost _ _ _ _ _ (fill3 w1 Y (.int .i64 k0) (.int .i64 k1) (.int .i64 k2))
  generalize fill3 w1 Y (.int .i64 k0) (.int .i64 k1) (.int .i64 k2) = wz at hl hb ⊢
  have q0 := Lies.cell hl 0
  have q1 := Lies.cell hl 1
  have q2 := Lies.cell hl 2
  simp only [List.getElem?_toArray, List.getElem?_cons_zero, List.getElem?_cons_succ] at q0 q1 q2
  exact bodyPost_ret (v := bzV ⟨k0, k1, k2⟩) (by simp [results, Try.results23, go_sem, q0, q1, q2]) rfl ⟨rfl, hb⟩
end Go.Proofs.Ythjmncngegchjaa
