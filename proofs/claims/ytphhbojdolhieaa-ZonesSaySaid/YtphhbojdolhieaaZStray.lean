/-
  Contract of (*zones.record).stray.
-/
import Derived.Test.YtphhbojdolhieaaZZone
import Derived.Test.YtphhbojdolhieaaRegionLast
import Derived.Deep.RegionHeld3
namespace Go.Proofs.Ytphhbojdolhieaa
open Go.RowKit
set_option maxRecDepth 20000

/-- What a loop over the reads keeps. -/
structure ZrR (w : World) (G b m : Nat) (Fn : Int → Option Zop) (A : Option Addr) (cap n : Nat) (R : List Zop) (wr : World) : Prop where
  below : Below w.heap.size w wr
  row : ZoRd wr w.heap.size (.slice A n cap) R
  rec_ : Lies wr G 59 #[.map (some b), .slice A n cap]
  map_ : ZMap wr b m Fn
  res : Lies wr w.heap.size 28 #[.int .i64 0, .int .i64 0, .int .i64 0]
theorem ZrR.drew {w : World} {G b m : Nat} {Fn : Int → Option Zop} {A : Option Addr} {cap n : Nat} {R : List Zop} {wr : World} (h : ZrR w G b m Fn A cap n R wr) : ZrR w G b m Fn A cap n R wr.drew :=
  ⟨h.below.drew, h.row, h.rec_, h.map_.keep rfl, h.res⟩
theorem ZrR.next {w : World} {G b m : Nat} {Fn : Int → Option Zop} {A : Option Addr} {cap n : Nat} {R : List Zop} {wr w' : World} (h : ZrR w G b m Fn A cap n R wr) (hb : Below wr.heap.size wr w') : ZrR w G b m Fn A cap n R w' :=
  ⟨h.below.trans (hb.mono h.below.size), h.row.below (hb.mono h.below.size), Lies.below h.rec_ hb h.rec_.lt, h.map_.below hb h.map_.lt, Lies.below h.res hb h.res.lt⟩
set_option maxHeartbeats 8000000 in
theorem zstray_any {G b m : Nat} {cs : List Cl} {rv : Value} {R : List Zop} {w : World} (hr : Lies w G 59 #[.map (some b), rv]) (hmp : ZMap w b m (wOf cs)) (h : ZoRd w w.heap.size rv R) (hm : R.length ≤ 2000) (hv : ∀ r ∈ R, -1000000 ≤ r.value ∧ r.value ≤ 1000000) :
    Calls Try.prog 26 #[.pointer (some ⟨G, 0, none⟩)] w fun e w' => e = .returned (bzV (strayZ cs R)) ∧ Below w.heap.size w w' := by
  obtain ⟨A, cap, rfl, m1, m2⟩ := h.is
  unfold maxLen at m2
  obtain ⟨n, hn⟩ : ∃ n, n = R.length := ⟨_, rfl⟩
  rw [← hn] at h hr hm m1
  obtain ⟨Q, hQ⟩ : ∃ Q, Q = strayZ cs R := ⟨_, rfl⟩
  rw [← hQ]
  have h0 : ZrR w G b m (wOf cs) A cap n R (w.alloc (.cells #[.int .i64 0, .int .i64 0, .int .i64 0] 28)) := by
    have hb : Below w.heap.size w (w.alloc (.cells #[.int .i64 0, .int .i64 0, .int .i64 0] 28)) := (Below.refl _ _).alloc (Nat.le_refl _) _
    exact ⟨hb, h.below hb, Lies.alloc hr _, hmp.below hb hmp.lt, Lies.new _ _ _⟩
  have HN := Lib.hid (And.intro hn hQ)
  have HV := Lib.hid hv
  have hr0 := Lies.cell h0.rec_ 1
  simp only [List.getElem?_toArray, List.getElem?_cons_zero, List.getElem?_cons_succ] at hr0
  have H0 := Lib.hid h0
  clear h hn hQ hr hmp hv h0
  go_enter Try.func26, Try.ntmps26
  go_wp2_with fail
  clear hr0
  have h0 := H0.out
  clear H0
  change Code.wp _ _ _ _ (w.alloc (.cells #[.int .i64 0, .int .i64 0, .int .i64 0] 28))
  generalize w.alloc (.cells #[.int .i64 0, .int .i64 0, .int .i64 0] 28) = W at h0 ⊢
  go_loopw [12] (fun i wr => ∃ k : Nat, k ≤ n ∧ i = .int .i64 k ∧ strayZ cs (R.drop k) = Q ∧ ZrR w G b m (wOf cs) A cap n R wr) (fun i _ => n - (intOf i).toNat)
  case atStart => exact ⟨0, by omega, rfl, by rw [List.drop_zero, HN.out.2], h0⟩
  case round =>
    clear h0
    obtain ⟨k, hk, rfl, hq, hO⟩ := hrel
    by_cases hkn : k < n
    · obtain ⟨y, hy⟩ : ∃ y, R[k]? = some y := ⟨_, List.getElem?_eq_getElem (by rw [← HN.out.1]; exact hkn)⟩
      have hdrop : R.drop k = y :: R.drop (k + 1) := by
        obtain ⟨h2, h3⟩ := List.getElem?_eq_some_iff.1 hy
        rw [List.drop_eq_getElem_cons h2, h3]
      rw [hdrop, strayZ] at hq
      obtain ⟨g, o, rfl, -, d0, d1, d2, d3⟩ := zo_at hO.row hy
      have hvy := HV.out y (List.mem_of_getElem? hy)
      obtain ⟨y0, y1, y2, y3⟩ := y
      simp only at d0 d1 d2 d3 hq hvy
      have i1 : (0 : Int) ≤ (k : Int) := by omega
      have i2 : (k : Int) < (n : Int) := by omega
      have hal : Below wr.heap.size wr (wr.alloc (.cells #[.int .i64 y0, .int .i64 y1, .int .i64 y2, .int .i64 y3] 78)) := (Below.refl _ _).alloc (Nat.le_refl _) _
      have HO := Lib.hid (And.intro (hO.next hal) (Lies.new wr 78 #[.int .i64 y0, .int .i64 y1, .int .i64 y2, .int .i64 y3]))
      have HY := Lib.hid (And.intro hq hvy)
      clear hO hy hdrop hq hal hvy
      go_upto_region 4 with fail
      clear d0 d1 d2 d3
      change Code.wp _ _ _ _ (wr.alloc (.cells #[.int .i64 y0, .int .i64 y1, .int .i64 y2, .int .i64 y3] 78))
      generalize wr.alloc (.cells #[.int .i64 y0, .int .i64 y1, .int .i64 y2, .int .i64 y3] 78) = W2 at HO ⊢
      generalize wr.heap.size = X at HO ⊢
      have e1 := Lies.cell HO.out.2 1
      have c0 := Lies.cell HO.out.1.rec_ 0
      simp only [List.getElem?_toArray, List.getElem?_cons_zero, List.getElem?_cons_succ] at e1 c0
      obtain ⟨ok, hok⟩ : ∃ ok, ok = (wOf cs y1).isSome := ⟨_, rfl⟩
      obtain ⟨Z, hZ⟩ : ∃ Z, Z = (wOf cs y1).getD default := ⟨_, rfl⟩
      have hlk := fun (W : World) (h : ZrR w G b m (wOf cs) (some ⟨g, o, none⟩) cap n R W) => (h.map_.val y1 (HY.out.2.1) (HY.out.2.2)).1
      rw [← hok, ← hZ] at hlk
      have HLK := Lib.hid hlk
      have HOK := Lib.hid (And.intro hok hZ)
      obtain ⟨z0, z1, z2, z3⟩ := Z
      clear hlk hok hZ e1 c0
      have hs0 : ZrR w G b m (wOf cs) (some ⟨g, o, none⟩) cap n R W2.drew ∧ Lies W2.drew X 78 #[.int .i64 y0, .int .i64 y1, .int .i64 y2, .int .i64 y3] := ⟨HO.out.1.drew, HO.out.2⟩
      refine wp_region_held_drew (S := fun W => ZrR w G b m (wOf cs) (some ⟨g, o, none⟩) cap n R W ∧ Lies W X 78 #[.int .i64 y0, .int .i64 y1, .int .i64 y2, .int .i64 y3]) (by kernel_rfl) hs0 (fun hHeld => ?_)
      change wpAnyH _ _ _ _ _ 13 _ _ _
      clear hHeld
      have HS := Lib.hid hs0
      clear hs0 HO
      generalize W2.drew = WD at HS ⊢
      refine takeAt 0 17 (oi := _) (v := ?_) rfl rfl (by kernel_rfl) (by kernel_rfl) (by kernel_rfl) (fun _ _ _ h => h) (by rfl) ?_ HS.out ?_
      rotate_left
      · (intro w0 hSw; have lk := HLK.out w0 hSw.1; have e1 := Lies.cell hSw.2 1; have c0 := Lies.cell hSw.1.rec_ 0; simp only [List.getElem?_toArray, List.getElem?_cons_zero, List.getElem?_cons_succ] at e1 c0; go_simp; try with_reducible rfl)
      simp only [Act.put, List.setIfInBounds_toArray, List.set_cons_zero, List.set_cons_succ]
      refine takeAt 1 18 (oi := _) (v := ?_) rfl rfl (by kernel_rfl) (by kernel_rfl) (by kernel_rfl) (fun _ _ _ h => h) (by rfl) ?_ HS.out ?_
      rotate_left
      · (intro w0 hSw; have lk := HLK.out w0 hSw.1; have e1 := Lies.cell hSw.2 1; have c0 := Lies.cell hSw.1.rec_ 0; simp only [List.getElem?_toArray, List.getElem?_cons_zero, List.getElem?_cons_succ] at e1 c0; go_simp; try with_reducible rfl)
      simp only [Act.put, List.setIfInBounds_toArray, List.set_cons_zero, List.set_cons_succ]
      refine takeAt 2 19 (oi := _) (v := ?_) rfl rfl (by kernel_rfl) (by kernel_rfl) (by kernel_rfl) (fun _ _ _ h => h) (by rfl) ?_ HS.out ?_
      rotate_left
      · (intro w0 hSw; have lk := HLK.out w0 hSw.1; have e1 := Lies.cell hSw.2 1; have c0 := Lies.cell hSw.1.rec_ 0; simp only [List.getElem?_toArray, List.getElem?_cons_zero, List.getElem?_cons_succ] at e1 c0; go_simp; try with_reducible rfl)
      simp only [Act.put, List.setIfInBounds_toArray, List.set_cons_zero, List.set_cons_succ]
      refine takeAt 3 20 (oi := _) (v := ?_) rfl rfl (by kernel_rfl) (by kernel_rfl) (by kernel_rfl) (fun _ _ _ h => h) (by rfl) ?_ HS.out ?_
      rotate_left
      · (intro w0 hSw; have lk := HLK.out w0 hSw.1; have e1 := Lies.cell hSw.2 1; have c0 := Lies.cell hSw.1.rec_ 0; simp only [List.getElem?_toArray, List.getElem?_cons_zero, List.getElem?_cons_succ] at e1 c0; go_simp; try with_reducible rfl)
      simp only [Act.put, List.setIfInBounds_toArray, List.set_cons_zero, List.set_cons_succ]
      refine takeAt 4 21 (oi := _) (v := ?_) rfl rfl (by kernel_rfl) (by kernel_rfl) (by kernel_rfl) (fun _ _ _ h => h) (by rfl) ?_ HS.out ?_
      rotate_left
      · (intro w0 hSw; have lk := HLK.out w0 hSw.1; have e1 := Lies.cell hSw.2 1; have c0 := Lies.cell hSw.1.rec_ 0; simp only [List.getElem?_toArray, List.getElem?_cons_zero, List.getElem?_cons_succ] at e1 c0; go_simp; try with_reducible rfl)
      simp only [Act.put, List.setIfInBounds_toArray, List.set_cons_zero, List.set_cons_succ]
      refine takeAt 5 22 (oi := _) (v := ?_) rfl rfl (by kernel_rfl) (by kernel_rfl) (by kernel_rfl) (fun _ _ _ h => h) (by rfl) ?_ HS.out ?_
      rotate_left
      · (intro w0 hSw; have lk := HLK.out w0 hSw.1; have e1 := Lies.cell hSw.2 1; have c0 := Lies.cell hSw.1.rec_ 0; simp only [List.getElem?_toArray, List.getElem?_cons_zero, List.getElem?_cons_succ] at e1 c0; go_simp; try with_reducible rfl)
      simp only [Act.put, List.setIfInBounds_toArray, List.set_cons_zero, List.set_cons_succ]
      refine takeAt 6 23 (oi := _) (v := ?_) rfl rfl (by kernel_rfl) (by kernel_rfl) (by kernel_rfl) (fun _ _ _ h => h) (by rfl) ?_ HS.out ?_
      rotate_left
      · (intro w0 hSw; have lk := HLK.out w0 hSw.1; have e1 := Lies.cell hSw.2 1; have c0 := Lies.cell hSw.1.rec_ 0; simp only [List.getElem?_toArray, List.getElem?_cons_zero, List.getElem?_cons_succ] at e1 c0; go_simp; try with_reducible rfl)
      simp only [Act.put, List.setIfInBounds_toArray, List.set_cons_zero, List.set_cons_succ]
      refine takeAt 7 16 (oi := _) (v := ?_) rfl rfl (by kernel_rfl) (by kernel_rfl) (by kernel_rfl) (fun _ _ _ h => h) (by rfl) ?_ HS.out ?_
      rotate_left
      · (intro w0 hSw; have lk := HLK.out w0 hSw.1; have e1 := Lies.cell hSw.2 1; have c0 := Lies.cell hSw.1.rec_ 0; simp only [List.getElem?_toArray, List.getElem?_cons_zero, List.getElem?_cons_succ] at e1 c0; go_simp; try with_reducible rfl)
      simp only [Act.put, List.setIfInBounds_toArray, List.set_cons_zero, List.set_cons_succ]
      refine takeAt 8 24 (oi := _) (v := ?_) rfl rfl (by kernel_rfl) (by kernel_rfl) (by kernel_rfl) (fun _ _ _ h => h) (by rfl) ?_ HS.out ?_
      rotate_left
      · (intro w0 hSw; have lk := HLK.out w0 hSw.1; have e1 := Lies.cell hSw.2 1; have c0 := Lies.cell hSw.1.rec_ 0; simp only [List.getElem?_toArray, List.getElem?_cons_zero, List.getElem?_cons_succ] at e1 c0; go_simp; try with_reducible rfl)
      simp only [Act.put, List.setIfInBounds_toArray, List.set_cons_zero, List.set_cons_succ]
      refine takeAt 9 25 (oi := _) (v := ?_) rfl rfl (by kernel_rfl) (by kernel_rfl) (by kernel_rfl) (fun _ _ _ h => h) (by rfl) ?_ HS.out ?_
      rotate_left
      · (intro w0 hSw; have lk := HLK.out w0 hSw.1; have e1 := Lies.cell hSw.2 1; have c0 := Lies.cell hSw.1.rec_ 0; simp only [List.getElem?_toArray, List.getElem?_cons_zero, List.getElem?_cons_succ] at e1 c0; go_simp; try with_reducible rfl)
      simp only [Act.put, List.setIfInBounds_toArray, List.set_cons_zero, List.set_cons_succ]
      have hal : Below WD.heap.size WD (WD.alloc (.cells #[.int .i64 0, .int .i64 0, .int .i64 0, .int .i64 0] 78)) := (Below.refl _ _).alloc (Nat.le_refl _) _
      have hs1 := And.intro (HS.out.1.next hal) (Lies.below HS.out.2 hal HS.out.2.lt)
      have hal2 : Below WD.heap.size WD (WD.alloc (.cells #[.int .i64 z0, .int .i64 z1, .int .i64 z2, .int .i64 z3] 78)) := (Below.refl _ _).alloc (Nat.le_refl _) _
      have hs2 := And.intro (And.intro (HS.out.1.next hal2) (Lies.below HS.out.2 hal2 HS.out.2.lt)) (Lies.new WD 78 #[.int .i64 z0, .int .i64 z1, .int .i64 z2, .int .i64 z3])
      have HS1 := Lib.hid hs1
      have HS2 := Lib.hid hs2
      clear hs1 hal hs2 hal2
      refine wpAnyH_ready (rs := [10]) (by kernel_rfl) (by simp) ?_
      refine AllReadyH.cons (o := _) rfl (fun K hK => ?_) AllReadyH.nil
      go_simp
      refine hK.out _ _ HS1.out (fun _ => ?_)
      clear hK K
      refine wpAnyH_ready (rs := [11]) (by kernel_rfl) (by simp) ?_
      refine AllReadyH.cons (o := _) rfl (fun K hK => ?_) AllReadyH.nil
      go_simp
      refine hK.out _ _ HS2.out.1 (fun _ => ?_)
      clear hK K
      refine wpAnyH_ready (rs := [12]) (by kernel_rfl) (by simp) ?_
      refine AllReadyH.cons (o := _) rfl (fun K hK => ?_) AllReadyH.nil
      go_simp
      refine hK.out _ _ HS2.out.1 (fun _ => ?_)
      clear hK K
      refine wpAnyH_done (by kernel_rfl) ?_ _
      clear HS HS1 HLK
      generalize WD.alloc (.cells #[.int .i64 z0, .int .i64 z1, .int .i64 z2, .int .i64 z3] 78) = W3 at HS2 ⊢
      generalize WD.heap.size = Y at HS2 ⊢
      have e0 := Lies.cell HS2.out.1.2 0
      have e3 := Lies.cell HS2.out.1.2 3
      have f0 := Lies.cell HS2.out.2 0
      have f2 := Lies.cell HS2.out.2 2
      have r0 := Lies.cell HS2.out.1.1.res 0
      have r1 := Lies.cell HS2.out.1.1.res 1
      have r2 := Lies.cell HS2.out.1.1.res 2
      have rf : ∀ i, W3.frozen? ⟨w.heap.size, i, none⟩ = false := fun i => Lies.frozen HS2.out.1.1.res i
      simp only [List.getElem?_toArray, List.getElem?_cons_zero, List.getElem?_cons_succ] at e0 e3 f0 f2 r0 r1 r2
      cases ok
      · have hq := HY.out.1
        rw [if_pos (by rw [Option.isNone_iff_eq_none, ← Option.not_isSome_iff_eq_none, ← HOK.out.1]; decide)] at hq
        have HZ := Lib.hid (And.intro HS2.out.1.1 hq)
        clear hq HY HOK HS2
        go_wp2_with fail
        clear r0 r1 r2 rf e0 e3 f0 f2
        have hl := fill3_lies (a := .int .i64 1) (b := .int .i64 y0) (c := .int .i64 0) HZ.out.1.res
        have hb := fill3_below (a := .int .i64 1) (b := .int .i64 y0) (c := .int .i64 0) HZ.out.1.below (g := w.heap.size) (Nat.le_refl _)
        change bodyPost _ _ _ _ _ (fill3 W3 w.heap.size (.int .i64 1) (.int .i64 y0) (.int .i64 0))
        generalize fill3 W3 w.heap.size (.int .i64 1) (.int .i64 y0) (.int .i64 0) = wz at hl hb ⊢
        have q0 := Lies.cell hl 0
        have q1 := Lies.cell hl 1
        have q2 := Lies.cell hl 2
        simp only [List.getElem?_toArray, List.getElem?_cons_zero, List.getElem?_cons_succ] at q0 q1 q2
        exact bodyPost_ret (v := bzV ⟨1, y0, 0⟩) (by simp [results, Try.results26, go_sem, q0, q1, q2]) rfl ⟨by rw [← HZ.out.2] <;> rfl, hb⟩
      · have hq := HY.out.1
        rw [if_neg (by rw [Option.isNone_iff_eq_none, ← Option.not_isSome_iff_eq_none, ← HOK.out.1]; decide)] at hq
        have HZ := Lib.hid (And.intro hq HS2.out.1.1)
        clear hq HY HOK HS2 e0 e3 f0 f2
        clear r0 r1 r2 rf
        go_wp2_with fail
        go_roundw
        case rel => exact ⟨k + 1, by omega, by go_num, HZ.out.1, HZ.out.2⟩
        case measure => simp [intOf]; omega
    · obtain rfl : n = k := by omega
      rw [List.drop_eq_nil_of_le (by rw [← HN.out.1]; exact Nat.le_refl _), strayZ] at hq
      have r0 := Lies.cell hO.res 0
      have r1 := Lies.cell hO.res 1
      have r2 := Lies.cell hO.res 2
      have rf : ∀ i, wr.frozen? ⟨w.heap.size, i, none⟩ = false := fun i => Lies.frozen hO.res i
      simp only [List.getElem?_toArray, List.getElem?_cons_zero, List.getElem?_cons_succ] at r0 r1 r2
      have HZ := Lib.hid (And.intro hO hq)
      clear hO hq
      go_wp2_with fail
      clear r0 r1 r2 rf
      have hl := fill3_lies (a := .int .i64 0) (b := .int .i64 0) (c := .int .i64 0) HZ.out.1.res
      have hb := fill3_below (a := .int .i64 0) (b := .int .i64 0) (c := .int .i64 0) HZ.out.1.below (g := w.heap.size) (Nat.le_refl _)
      change bodyPost _ _ _ _ _ (fill3 wr w.heap.size (.int .i64 0) (.int .i64 0) (.int .i64 0))
      generalize fill3 wr w.heap.size (.int .i64 0) (.int .i64 0) (.int .i64 0) = wz at hl hb ⊢
      have q0 := Lies.cell hl 0
      have q1 := Lies.cell hl 1
      have q2 := Lies.cell hl 2
      simp only [List.getElem?_toArray, List.getElem?_cons_zero, List.getElem?_cons_succ] at q0 q1 q2
      exact bodyPost_ret (v := bzV ⟨0, 0, 0⟩) (by simp [results, Try.results26, go_sem, q0, q1, q2]) rfl ⟨by rw [← HZ.out.2] <;> rfl, hb⟩
end Go.Proofs.Ytphhbojdolhieaa
