/-
  Contract of (*zones.record).zone.
-/
import Derived.Test.YtphhbojdolhieaaZCross
import Derived.Lib.MinMax
namespace Go.Proofs.Ytphhbojdolhieaa
open Go.RowKit
set_option maxRecDepth 20000

theorem min_if (a b : Int) : (if b < a then b else a) = min a b := by rw [Int.min_def]; split <;> split <;> omega
theorem max_if (a b : Int) : (if a < b then b else a) = max a b := by rw [Int.max_def]; split <;> split <;> omega
theorem zAny_cons (v : Int) (r : Zop) (l : List Zop) : zAny v (r :: l) = ((r.value == v) || zAny v l) := by unfold zAny; rw [List.any_cons]
/-- What the loop of zone keeps. -/
structure ZzR (w : World) (G : Nat) (mv : Value) (A : Option Addr) (cap n : Nat) (R : List Zop) (x : Zop) (F L : Int) (wr : World) : Prop where
  below : Below w.heap.size w wr
  row : ZoRd wr w.heap.size (.slice A n cap) R
  rec_ : Lies wr G 59 #[mv, .slice A n cap]
  box : Lies wr w.heap.size 78 #[.int .i64 x.index, .int .i64 x.value, .int .i64 x.frm, .int .i64 x.til]
  res : Lies wr (w.heap.size + 1) 35 #[.int .i64 0, .int .i64 0, .int .i64 0, .bool false]
  zon : Lies wr (w.heap.size + 2) 35 #[.int .i64 x.value, .int .i64 F, .int .i64 L, .bool false]
theorem ZzR.next {w : World} {G : Nat} {mv : Value} {A : Option Addr} {cap n : Nat} {R : List Zop} {x : Zop} {F L : Int} {wr w' : World} (h : ZzR w G mv A cap n R x F L wr) (hb : Below wr.heap.size wr w') : ZzR w G mv A cap n R x F L w' :=
  ⟨h.below.trans (hb.mono h.below.size), h.row.below (hb.mono h.below.size), Lies.below h.rec_ hb h.rec_.lt, Lies.below h.box hb h.box.lt, Lies.below h.res hb h.res.lt, Lies.below h.zon hb h.zon.lt⟩
theorem ZzR.put {w : World} {G : Nat} {mv : Value} {A : Option Addr} {cap n : Nat} {R : List Zop} {x : Zop} {F L F' L' : Int} {wr : World} (h : ZzR w G mv A cap n R x F L wr) (hG : G < w.heap.size) : ZzR w G mv A cap n R x F' L' ((wr.setCell ⟨w.heap.size + 2, 1, none⟩ (.int .i64 F')).setCell ⟨w.heap.size + 2, 2, none⟩ (.int .i64 L')) := by
  have hb : Below (w.heap.size + 2) wr ((wr.setCell ⟨w.heap.size + 2, 1, none⟩ (.int .i64 F')).setCell ⟨w.heap.size + 2, 2, none⟩ (.int .i64 L')) := ((Below.refl _ _).setCell (p := ⟨w.heap.size + 2, 1, none⟩) (Nat.le_refl _) _).setCell (p := ⟨w.heap.size + 2, 2, none⟩) (Nat.le_refl _) _
  have h2 := h.zon.lt
  exact ⟨h.below.trans (hb.mono (by omega)), h.row.below (hb.mono (by omega)), Lies.below h.rec_ hb (by omega), Lies.below h.box hb (by omega), Lies.below h.res hb (by omega), Lies.cast (Lies.set_ (Lies.set_ h.zon 1 (.int .i64 F')) 2 (.int .i64 L')) (by simp)⟩
set_option maxHeartbeats 8000000 in
theorem zzone_any {G : Nat} {mv rv : Value} {R : List Zop} {x : Zop} {w : World} (hr : Lies w G 59 #[mv, rv]) (h : ZoRd w w.heap.size rv R) (hm : R.length ≤ 2000) :
    Calls Try.prog 40 #[.pointer (some ⟨G, 0, none⟩), zoV x] w fun e w' => e = .returned (.tuple #[znV (zoneOf x R), .bool (countsZ x R)]) ∧ Below w.heap.size w w' := by
  obtain ⟨A, cap, rfl, m1, m2⟩ := h.is
  unfold maxLen at m2
  obtain ⟨n, hn⟩ : ∃ n, n = R.length := ⟨_, rfl⟩
  rw [← hn] at h hr hm m1
  have HG := Lib.hid hr.lt
  obtain ⟨x0, x1, x2, x3⟩ := x
  have hcz : countsZ ⟨x0, x1, x2, x3⟩ R = ((x1 != 0 && x3 != 200) || zAny x1 R) := rfl
  have hzo : zoneOf ⟨x0, x1, x2, x3⟩ R = ⟨x1, zF x1 R x3, zL x1 R x2, decide (zF x1 R x3 < zL x1 R x2)⟩ := rfl
  rw [hcz, hzo]
  obtain ⟨FF, hFF⟩ : ∃ FF, FF = zF x1 R x3 := ⟨_, rfl⟩
  obtain ⟨LL, hLL⟩ : ∃ LL, LL = zL x1 R x2 := ⟨_, rfl⟩
  obtain ⟨c0, hc0⟩ : ∃ c0, c0 = (x1 != 0 && x3 != 200) := ⟨_, rfl⟩
  obtain ⟨CC, hCC⟩ : ∃ CC, CC = (c0 || zAny x1 R) := ⟨_, rfl⟩
  rw [← hFF, ← hLL, ← hc0, ← hCC]
  have h0 : ZzR w G mv A cap n R ⟨x0, x1, x2, x3⟩ x3 x2 (((w.alloc (.cells #[.int .i64 x0, .int .i64 x1, .int .i64 x2, .int .i64 x3] 78)).alloc (.cells #[.int .i64 0, .int .i64 0, .int .i64 0, .bool false] 35)).alloc (.cells #[.int .i64 x1, .int .i64 x3, .int .i64 x2, .bool false] 35)) := by
    have hb : Below w.heap.size w (((w.alloc (.cells #[.int .i64 x0, .int .i64 x1, .int .i64 x2, .int .i64 x3] 78)).alloc (.cells #[.int .i64 0, .int .i64 0, .int .i64 0, .bool false] 35)).alloc (.cells #[.int .i64 x1, .int .i64 x3, .int .i64 x2, .bool false] 35)) := (((Below.refl _ _).alloc (Nat.le_refl _) _).alloc (by simp) _).alloc (by simp; omega) _
    have l1 := Lies.new (w.alloc (.cells #[.int .i64 x0, .int .i64 x1, .int .i64 x2, .int .i64 x3] 78)) 35 #[.int .i64 0, .int .i64 0, .int .i64 0, .bool false]
    have l2 := Lies.new ((w.alloc (.cells #[.int .i64 x0, .int .i64 x1, .int .i64 x2, .int .i64 x3] 78)).alloc (.cells #[.int .i64 0, .int .i64 0, .int .i64 0, .bool false] 35)) 35 #[.int .i64 x1, .int .i64 x3, .int .i64 x2, .bool false]
    simp only [World.size_alloc] at l1 l2
    exact ⟨hb, h.below hb, Lies.below hr hb HG.out, Lies.alloc (Lies.alloc (Lies.new _ _ _) _) _, Lies.alloc l1 _, l2⟩
  have HN := Lib.hid (And.intro hn (And.intro hFF (And.intro hLL hCC)))
  have HC0 := Lib.hid hc0
  clear h hn hcz hzo hFF hLL hCC hr hc0
  by_cases hv1 : x1 = 0
  · subst hv1
    have hc : c0 = false := by rw [HC0.out]; rfl
    subst hc
    have hr0 := Lies.cell h0.rec_ 1
    simp only [List.getElem?_toArray, List.getElem?_cons_zero, List.getElem?_cons_succ] at hr0
    have H0 := Lib.hid h0
    clear h0
    go_enter Try.func40, Try.ntmps40
    go_wp2_with fail
    clear  HC0 hr0
    have h0 := H0.out
    clear H0
    change Code.wp _ _ _ _ (((w.alloc (.cells #[.int .i64 x0, .int .i64 0, .int .i64 x2, .int .i64 x3] 78)).alloc (.cells #[.int .i64 0, .int .i64 0, .int .i64 0, .bool false] 35)).alloc (.cells #[.int .i64 0, .int .i64 x3, .int .i64 x2, .bool false] 35))
    generalize ((w.alloc (.cells #[.int .i64 x0, .int .i64 0, .int .i64 x2, .int .i64 x3] 78)).alloc (.cells #[.int .i64 0, .int .i64 0, .int .i64 0, .bool false] 35)).alloc (.cells #[.int .i64 0, .int .i64 x3, .int .i64 x2, .bool false] 35) = W at h0 ⊢
    go_loopw [7, 30] (fun c i wr => ∃ (k : Nat) (cc : Bool) (F L : Int), k ≤ n ∧ i = .int .i64 k ∧ c = .bool cc ∧ zF (0 : Int) (R.drop k) F = FF ∧ zL (0 : Int) (R.drop k) L = LL ∧ (cc || zAny (0 : Int) (R.drop k)) = CC ∧ ZzR w G mv A cap n R ⟨x0, 0, x2, x3⟩ F L wr) (fun _ i _ => n - (intOf i).toNat)
    case atStart => exact ⟨0, false, x3, x2, by omega, rfl, rfl, by rw [List.drop_zero, HN.out.2.1], by rw [List.drop_zero, HN.out.2.2.1], by rw [List.drop_zero, HN.out.2.2.2], h0⟩
    case round =>
      clear h0
      obtain ⟨k, cc, F, L, hk, rfl, rfl, hf, hl, hc, hO⟩ := hrel
      by_cases hkn : k < n
      · obtain ⟨y, hy⟩ : ∃ y, R[k]? = some y := ⟨_, List.getElem?_eq_getElem (by rw [← HN.out.1]; exact hkn)⟩
        have hdrop : R.drop k = y :: R.drop (k + 1) := by
          obtain ⟨h2, h3⟩ := List.getElem?_eq_some_iff.1 hy
          rw [List.drop_eq_getElem_cons h2, h3]
        rw [hdrop, zF, min_if] at hf
        rw [hdrop, zL, max_if] at hl
        rw [hdrop, zAny_cons] at hc
        obtain ⟨g, o, rfl, -, d0, d1, d2, d3⟩ := zo_at hO.row hy
        obtain ⟨y0, y1, y2, y3⟩ := y
        simp only at d0 d1 d2 d3 hf hl hc
        have i1 : (0 : Int) ≤ (k : Int) := by omega
        have i2 : (k : Int) < (n : Int) := by omega
        have hal : Below wr.heap.size wr (wr.alloc (.cells #[.int .i64 y0, .int .i64 y1, .int .i64 y2, .int .i64 y3] 78)) := (Below.refl _ _).alloc (Nat.le_refl _) _
        have HO := Lib.hid (And.intro (hO.next hal) (Lies.new wr 78 #[.int .i64 y0, .int .i64 y1, .int .i64 y2, .int .i64 y3]))
        have HY := Lib.hid (And.intro hf (And.intro hl hc))
        clear hO hy hdrop hf hl hc hal
        go_upto_region 6 with fail
        clear d0 d1 d2 d3
        change Code.wp _ _ _ _ (wr.alloc (.cells #[.int .i64 y0, .int .i64 y1, .int .i64 y2, .int .i64 y3] 78))
        generalize wr.alloc (.cells #[.int .i64 y0, .int .i64 y1, .int .i64 y2, .int .i64 y3] 78) = W2 at HO ⊢
        generalize wr.heap.size = X at HO ⊢
        have e1 := Lies.cell HO.out.2 1
        have e2 := Lies.cell HO.out.2 2
        have e3 := Lies.cell HO.out.2 3
        have b1 := Lies.cell HO.out.1.box 1
        have z1 := Lies.cell HO.out.1.zon 1
        have z2 := Lies.cell HO.out.1.zon 2
        have zf : ∀ i, W2.frozen? ⟨w.heap.size + 2, i, none⟩ = false := fun i => Lies.frozen HO.out.1.zon i
        simp only [List.getElem?_toArray, List.getElem?_cons_zero, List.getElem?_cons_succ] at e1 e2 e3 b1 z1 z2
        have hXz : X ≠ w.heap.size + 2 := by
          intro e
          have q1 := Lies.cell HO.out.2 3
          have q2 := Lies.cell HO.out.1.zon 3
          rw [e, q2] at q1
          simp at q1
        by_cases hv : y1 = (0 : Int)
        · have hY := HY.out
          rw [if_pos hv, if_pos hv] at hY
          have hz : (y1 == (0 : Int)) = true := by rw [beq_iff_eq]; exact hv
          rw [hz, Bool.true_or, Bool.or_true] at hY
          have HY2 := Lib.hid hY
          clear hY HY hv
          go_wp2_with fail
          go_roundw
          case rel => exact ⟨k + 1, true, min F y3, max L y2, by omega, by go_num, rfl, HY2.out.1, HY2.out.2.1, by rw [Bool.true_or]; exact HY2.out.2.2, HO.out.1.put HG.out⟩
          case measure => simp [intOf]; omega
        · have hY := HY.out
          rw [if_neg hv, if_neg hv] at hY
          have hz : (y1 == (0 : Int)) = false := by rw [beq_eq_false_iff_ne]; exact hv
          rw [hz, Bool.false_or] at hY
          have HY2 := Lib.hid hY
          clear hY HY hv zf z1 z2
          go_wp2_with fail
          go_roundw
          case rel => exact ⟨k + 1, cc, F, L, by omega, by go_num, rfl, HY2.out.1, HY2.out.2.1, HY2.out.2.2, HO.out.1⟩
          case measure => simp [intOf]; omega
      · obtain rfl : n = k := by omega
        have hnil : R.drop n = [] := List.drop_eq_nil_of_le (by rw [← HN.out.1]; exact Nat.le_refl _)
        rw [hnil, zF] at hf
        rw [hnil, zL] at hl
        rw [hnil, show zAny (0 : Int) [] = false from rfl, Bool.or_false] at hc
        subst hf hl hc
        have z0 := Lies.cell hO.zon 0
        have z1 := Lies.cell hO.zon 1
        have z2 := Lies.cell hO.zon 2
        have z3 := Lies.cell hO.zon 3
        have r0 := Lies.cell hO.res 0
        have r1 := Lies.cell hO.res 1
        have r2 := Lies.cell hO.res 2
        have r3 := Lies.cell hO.res 3
        have zf : ∀ i, wr.frozen? ⟨w.heap.size + 2, i, none⟩ = false := fun i => Lies.frozen hO.zon i
        have rf : ∀ i, wr.frozen? ⟨w.heap.size + 1, i, none⟩ = false := fun i => Lies.frozen hO.res i
        simp only [List.getElem?_toArray, List.getElem?_cons_zero, List.getElem?_cons_succ] at z0 z1 z2 z3 r0 r1 r2 r3
        have HO := Lib.hid hO
        clear hO hnil
        by_cases hd : F < L
        · have HD := Lib.hid hd
          go_wp2_with fail
          clear z0 z1 z2 z3 r0 r1 r2 r3 zf rf
          have hw := Lies.far HO.out.res (p := ⟨w.heap.size + 2, 3, none⟩) (by simp) (.bool true)
          have hl := fill4_lies (a := .int .i64 0) (b := .int .i64 F) (c := .int .i64 L) (d := .bool true) hw
          have hb := fill4_below (a := .int .i64 0) (b := .int .i64 F) (c := .int .i64 L) (d := .bool true) (HO.out.below.setCell (p := ⟨w.heap.size + 2, 3, none⟩) (by simp) (.bool true)) (g := w.heap.size + 1) (by omega)
          change bodyPost _ _ _ _ _ (fill4 (wr.setCell ⟨w.heap.size + 2, 3, none⟩ (.bool true)) (w.heap.size + 1) (.int .i64 0) (.int .i64 F) (.int .i64 L) (.bool true))
          generalize fill4 (wr.setCell ⟨w.heap.size + 2, 3, none⟩ (.bool true)) (w.heap.size + 1) (.int .i64 0) (.int .i64 F) (.int .i64 L) (.bool true) = wz at hl hb ⊢
          have q0 := Lies.cell hl 0
          have q1 := Lies.cell hl 1
          have q2 := Lies.cell hl 2
          have q3 := Lies.cell hl 3
          simp only [List.getElem?_toArray, List.getElem?_cons_zero, List.getElem?_cons_succ] at q0 q1 q2 q3
          exact bodyPost_ret (v := .tuple #[znV ⟨(0 : Int), F, L, true⟩, .bool cc]) (by simp [results, Try.results40, go_sem, q0, q1, q2, q3]) rfl ⟨by rw [decide_eq_true (by have := HD.out; omega)], hb⟩
        · have HD := Lib.hid hd
          go_wp2_with fail
          clear z0 z1 z2 z3 r0 r1 r2 r3 zf rf
          have hw := Lies.far HO.out.res (p := ⟨w.heap.size + 2, 3, none⟩) (by simp) (.bool false)
          have hl := fill4_lies (a := .int .i64 0) (b := .int .i64 F) (c := .int .i64 L) (d := .bool false) hw
          have hb := fill4_below (a := .int .i64 0) (b := .int .i64 F) (c := .int .i64 L) (d := .bool false) (HO.out.below.setCell (p := ⟨w.heap.size + 2, 3, none⟩) (by simp) (.bool false)) (g := w.heap.size + 1) (by omega)
          change bodyPost _ _ _ _ _ (fill4 (wr.setCell ⟨w.heap.size + 2, 3, none⟩ (.bool false)) (w.heap.size + 1) (.int .i64 0) (.int .i64 F) (.int .i64 L) (.bool false))
          generalize fill4 (wr.setCell ⟨w.heap.size + 2, 3, none⟩ (.bool false)) (w.heap.size + 1) (.int .i64 0) (.int .i64 F) (.int .i64 L) (.bool false) = wz at hl hb ⊢
          have q0 := Lies.cell hl 0
          have q1 := Lies.cell hl 1
          have q2 := Lies.cell hl 2
          have q3 := Lies.cell hl 3
          simp only [List.getElem?_toArray, List.getElem?_cons_zero, List.getElem?_cons_succ] at q0 q1 q2 q3
          exact bodyPost_ret (v := .tuple #[znV ⟨(0 : Int), F, L, false⟩, .bool cc]) (by simp [results, Try.results40, go_sem, q0, q1, q2, q3]) rfl ⟨by rw [decide_eq_false (by have := HD.out; omega)], hb⟩
  · have hz1 : (x1 != 0) = true := by rw [bne_iff_ne]; exact hv1
    clear hv1
    by_cases hv2 : x3 = 200
    · subst hv2
      have hc : c0 = false := by rw [HC0.out, hz1]; rfl
      subst hc
      have hr0 := Lies.cell h0.rec_ 1
      simp only [List.getElem?_toArray, List.getElem?_cons_zero, List.getElem?_cons_succ] at hr0
      have H0 := Lib.hid h0
      clear h0
      go_enter Try.func40, Try.ntmps40
      go_wp2_with fail
      clear hz1 HC0 hr0
      have h0 := H0.out
      clear H0
      change Code.wp _ _ _ _ (((w.alloc (.cells #[.int .i64 x0, .int .i64 x1, .int .i64 x2, .int .i64 200] 78)).alloc (.cells #[.int .i64 0, .int .i64 0, .int .i64 0, .bool false] 35)).alloc (.cells #[.int .i64 x1, .int .i64 200, .int .i64 x2, .bool false] 35))
      generalize ((w.alloc (.cells #[.int .i64 x0, .int .i64 x1, .int .i64 x2, .int .i64 200] 78)).alloc (.cells #[.int .i64 0, .int .i64 0, .int .i64 0, .bool false] 35)).alloc (.cells #[.int .i64 x1, .int .i64 200, .int .i64 x2, .bool false] 35) = W at h0 ⊢
      go_loopw [7, 30] (fun c i wr => ∃ (k : Nat) (cc : Bool) (F L : Int), k ≤ n ∧ i = .int .i64 k ∧ c = .bool cc ∧ zF x1 (R.drop k) F = FF ∧ zL x1 (R.drop k) L = LL ∧ (cc || zAny x1 (R.drop k)) = CC ∧ ZzR w G mv A cap n R ⟨x0, x1, x2, 200⟩ F L wr) (fun _ i _ => n - (intOf i).toNat)
      case atStart => exact ⟨0, false, (200 : Int), x2, by omega, rfl, rfl, by rw [List.drop_zero, HN.out.2.1], by rw [List.drop_zero, HN.out.2.2.1], by rw [List.drop_zero, HN.out.2.2.2], h0⟩
      case round =>
        clear h0
        obtain ⟨k, cc, F, L, hk, rfl, rfl, hf, hl, hc, hO⟩ := hrel
        by_cases hkn : k < n
        · obtain ⟨y, hy⟩ : ∃ y, R[k]? = some y := ⟨_, List.getElem?_eq_getElem (by rw [← HN.out.1]; exact hkn)⟩
          have hdrop : R.drop k = y :: R.drop (k + 1) := by
            obtain ⟨h2, h3⟩ := List.getElem?_eq_some_iff.1 hy
            rw [List.drop_eq_getElem_cons h2, h3]
          rw [hdrop, zF, min_if] at hf
          rw [hdrop, zL, max_if] at hl
          rw [hdrop, zAny_cons] at hc
          obtain ⟨g, o, rfl, -, d0, d1, d2, d3⟩ := zo_at hO.row hy
          obtain ⟨y0, y1, y2, y3⟩ := y
          simp only at d0 d1 d2 d3 hf hl hc
          have i1 : (0 : Int) ≤ (k : Int) := by omega
          have i2 : (k : Int) < (n : Int) := by omega
          have hal : Below wr.heap.size wr (wr.alloc (.cells #[.int .i64 y0, .int .i64 y1, .int .i64 y2, .int .i64 y3] 78)) := (Below.refl _ _).alloc (Nat.le_refl _) _
          have HO := Lib.hid (And.intro (hO.next hal) (Lies.new wr 78 #[.int .i64 y0, .int .i64 y1, .int .i64 y2, .int .i64 y3]))
          have HY := Lib.hid (And.intro hf (And.intro hl hc))
          clear hO hy hdrop hf hl hc hal
          go_upto_region 6 with fail
          clear d0 d1 d2 d3
          change Code.wp _ _ _ _ (wr.alloc (.cells #[.int .i64 y0, .int .i64 y1, .int .i64 y2, .int .i64 y3] 78))
          generalize wr.alloc (.cells #[.int .i64 y0, .int .i64 y1, .int .i64 y2, .int .i64 y3] 78) = W2 at HO ⊢
          generalize wr.heap.size = X at HO ⊢
          have e1 := Lies.cell HO.out.2 1
          have e2 := Lies.cell HO.out.2 2
          have e3 := Lies.cell HO.out.2 3
          have b1 := Lies.cell HO.out.1.box 1
          have z1 := Lies.cell HO.out.1.zon 1
          have z2 := Lies.cell HO.out.1.zon 2
          have zf : ∀ i, W2.frozen? ⟨w.heap.size + 2, i, none⟩ = false := fun i => Lies.frozen HO.out.1.zon i
          simp only [List.getElem?_toArray, List.getElem?_cons_zero, List.getElem?_cons_succ] at e1 e2 e3 b1 z1 z2
          have hXz : X ≠ w.heap.size + 2 := by
            intro e
            have q1 := Lies.cell HO.out.2 3
            have q2 := Lies.cell HO.out.1.zon 3
            rw [e, q2] at q1
            simp at q1
          by_cases hv : y1 = x1
          · have hY := HY.out
            rw [if_pos hv, if_pos hv] at hY
            have hz : (y1 == x1) = true := by rw [beq_iff_eq]; exact hv
            rw [hz, Bool.true_or, Bool.or_true] at hY
            have HY2 := Lib.hid hY
            clear hY HY hv
            go_wp2_with fail
            go_roundw
            case rel => exact ⟨k + 1, true, min F y3, max L y2, by omega, by go_num, rfl, HY2.out.1, HY2.out.2.1, by rw [Bool.true_or]; exact HY2.out.2.2, HO.out.1.put HG.out⟩
            case measure => simp [intOf]; omega
          · have hY := HY.out
            rw [if_neg hv, if_neg hv] at hY
            have hz : (y1 == x1) = false := by rw [beq_eq_false_iff_ne]; exact hv
            rw [hz, Bool.false_or] at hY
            have HY2 := Lib.hid hY
            clear hY HY hv zf z1 z2
            go_wp2_with fail
            go_roundw
            case rel => exact ⟨k + 1, cc, F, L, by omega, by go_num, rfl, HY2.out.1, HY2.out.2.1, HY2.out.2.2, HO.out.1⟩
            case measure => simp [intOf]; omega
        · obtain rfl : n = k := by omega
          have hnil : R.drop n = [] := List.drop_eq_nil_of_le (by rw [← HN.out.1]; exact Nat.le_refl _)
          rw [hnil, zF] at hf
          rw [hnil, zL] at hl
          rw [hnil, show zAny x1 [] = false from rfl, Bool.or_false] at hc
          subst hf hl hc
          have z0 := Lies.cell hO.zon 0
          have z1 := Lies.cell hO.zon 1
          have z2 := Lies.cell hO.zon 2
          have z3 := Lies.cell hO.zon 3
          have r0 := Lies.cell hO.res 0
          have r1 := Lies.cell hO.res 1
          have r2 := Lies.cell hO.res 2
          have r3 := Lies.cell hO.res 3
          have zf : ∀ i, wr.frozen? ⟨w.heap.size + 2, i, none⟩ = false := fun i => Lies.frozen hO.zon i
          have rf : ∀ i, wr.frozen? ⟨w.heap.size + 1, i, none⟩ = false := fun i => Lies.frozen hO.res i
          simp only [List.getElem?_toArray, List.getElem?_cons_zero, List.getElem?_cons_succ] at z0 z1 z2 z3 r0 r1 r2 r3
          have HO := Lib.hid hO
          clear hO hnil
          by_cases hd : F < L
          · have HD := Lib.hid hd
            go_wp2_with fail
            clear z0 z1 z2 z3 r0 r1 r2 r3 zf rf
            have hw := Lies.far HO.out.res (p := ⟨w.heap.size + 2, 3, none⟩) (by simp) (.bool true)
            have hl := fill4_lies (a := .int .i64 x1) (b := .int .i64 F) (c := .int .i64 L) (d := .bool true) hw
            have hb := fill4_below (a := .int .i64 x1) (b := .int .i64 F) (c := .int .i64 L) (d := .bool true) (HO.out.below.setCell (p := ⟨w.heap.size + 2, 3, none⟩) (by simp) (.bool true)) (g := w.heap.size + 1) (by omega)
            change bodyPost _ _ _ _ _ (fill4 (wr.setCell ⟨w.heap.size + 2, 3, none⟩ (.bool true)) (w.heap.size + 1) (.int .i64 x1) (.int .i64 F) (.int .i64 L) (.bool true))
            generalize fill4 (wr.setCell ⟨w.heap.size + 2, 3, none⟩ (.bool true)) (w.heap.size + 1) (.int .i64 x1) (.int .i64 F) (.int .i64 L) (.bool true) = wz at hl hb ⊢
            have q0 := Lies.cell hl 0
            have q1 := Lies.cell hl 1
            have q2 := Lies.cell hl 2
            have q3 := Lies.cell hl 3
            simp only [List.getElem?_toArray, List.getElem?_cons_zero, List.getElem?_cons_succ] at q0 q1 q2 q3
            exact bodyPost_ret (v := .tuple #[znV ⟨x1, F, L, true⟩, .bool cc]) (by simp [results, Try.results40, go_sem, q0, q1, q2, q3]) rfl ⟨by rw [decide_eq_true (by have := HD.out; omega)], hb⟩
          · have HD := Lib.hid hd
            go_wp2_with fail
            clear z0 z1 z2 z3 r0 r1 r2 r3 zf rf
            have hw := Lies.far HO.out.res (p := ⟨w.heap.size + 2, 3, none⟩) (by simp) (.bool false)
            have hl := fill4_lies (a := .int .i64 x1) (b := .int .i64 F) (c := .int .i64 L) (d := .bool false) hw
            have hb := fill4_below (a := .int .i64 x1) (b := .int .i64 F) (c := .int .i64 L) (d := .bool false) (HO.out.below.setCell (p := ⟨w.heap.size + 2, 3, none⟩) (by simp) (.bool false)) (g := w.heap.size + 1) (by omega)
            change bodyPost _ _ _ _ _ (fill4 (wr.setCell ⟨w.heap.size + 2, 3, none⟩ (.bool false)) (w.heap.size + 1) (.int .i64 x1) (.int .i64 F) (.int .i64 L) (.bool false))
            generalize fill4 (wr.setCell ⟨w.heap.size + 2, 3, none⟩ (.bool false)) (w.heap.size + 1) (.int .i64 x1) (.int .i64 F) (.int .i64 L) (.bool false) = wz at hl hb ⊢
            have q0 := Lies.cell hl 0
            have q1 := Lies.cell hl 1
            have q2 := Lies.cell hl 2
            have q3 := Lies.cell hl 3
            simp only [List.getElem?_toArray, List.getElem?_cons_zero, List.getElem?_cons_succ] at q0 q1 q2 q3
            exact bodyPost_ret (v := .tuple #[znV ⟨x1, F, L, false⟩, .bool cc]) (by simp [results, Try.results40, go_sem, q0, q1, q2, q3]) rfl ⟨by rw [decide_eq_false (by have := HD.out; omega)], hb⟩
    · have hz2 : (x3 != 200) = true := by rw [bne_iff_ne]; exact hv2
      clear hv2
      have hc : c0 = true := by rw [HC0.out, hz1, hz2]; rfl
      subst hc
      have hr0 := Lies.cell h0.rec_ 1
      simp only [List.getElem?_toArray, List.getElem?_cons_zero, List.getElem?_cons_succ] at hr0
      have H0 := Lib.hid h0
      clear h0
      go_enter Try.func40, Try.ntmps40
      go_wp2_with fail
      clear hz1 hz2 HC0 hr0
      have h0 := H0.out
      clear H0
      change Code.wp _ _ _ _ (((w.alloc (.cells #[.int .i64 x0, .int .i64 x1, .int .i64 x2, .int .i64 x3] 78)).alloc (.cells #[.int .i64 0, .int .i64 0, .int .i64 0, .bool false] 35)).alloc (.cells #[.int .i64 x1, .int .i64 x3, .int .i64 x2, .bool false] 35))
      generalize ((w.alloc (.cells #[.int .i64 x0, .int .i64 x1, .int .i64 x2, .int .i64 x3] 78)).alloc (.cells #[.int .i64 0, .int .i64 0, .int .i64 0, .bool false] 35)).alloc (.cells #[.int .i64 x1, .int .i64 x3, .int .i64 x2, .bool false] 35) = W at h0 ⊢
      go_loopw [7, 30] (fun c i wr => ∃ (k : Nat) (cc : Bool) (F L : Int), k ≤ n ∧ i = .int .i64 k ∧ c = .bool cc ∧ zF x1 (R.drop k) F = FF ∧ zL x1 (R.drop k) L = LL ∧ (cc || zAny x1 (R.drop k)) = CC ∧ ZzR w G mv A cap n R ⟨x0, x1, x2, x3⟩ F L wr) (fun _ i _ => n - (intOf i).toNat)
      case atStart => exact ⟨0, true, x3, x2, by omega, rfl, rfl, by rw [List.drop_zero, HN.out.2.1], by rw [List.drop_zero, HN.out.2.2.1], by rw [List.drop_zero, HN.out.2.2.2], h0⟩
      case round =>
        clear h0
        obtain ⟨k, cc, F, L, hk, rfl, rfl, hf, hl, hc, hO⟩ := hrel
        by_cases hkn : k < n
        · obtain ⟨y, hy⟩ : ∃ y, R[k]? = some y := ⟨_, List.getElem?_eq_getElem (by rw [← HN.out.1]; exact hkn)⟩
          have hdrop : R.drop k = y :: R.drop (k + 1) := by
            obtain ⟨h2, h3⟩ := List.getElem?_eq_some_iff.1 hy
            rw [List.drop_eq_getElem_cons h2, h3]
          rw [hdrop, zF, min_if] at hf
          rw [hdrop, zL, max_if] at hl
          rw [hdrop, zAny_cons] at hc
          obtain ⟨g, o, rfl, -, d0, d1, d2, d3⟩ := zo_at hO.row hy
          obtain ⟨y0, y1, y2, y3⟩ := y
          simp only at d0 d1 d2 d3 hf hl hc
          have i1 : (0 : Int) ≤ (k : Int) := by omega
          have i2 : (k : Int) < (n : Int) := by omega
          have hal : Below wr.heap.size wr (wr.alloc (.cells #[.int .i64 y0, .int .i64 y1, .int .i64 y2, .int .i64 y3] 78)) := (Below.refl _ _).alloc (Nat.le_refl _) _
          have HO := Lib.hid (And.intro (hO.next hal) (Lies.new wr 78 #[.int .i64 y0, .int .i64 y1, .int .i64 y2, .int .i64 y3]))
          have HY := Lib.hid (And.intro hf (And.intro hl hc))
          clear hO hy hdrop hf hl hc hal
          go_upto_region 6 with fail
          clear d0 d1 d2 d3
          change Code.wp _ _ _ _ (wr.alloc (.cells #[.int .i64 y0, .int .i64 y1, .int .i64 y2, .int .i64 y3] 78))
          generalize wr.alloc (.cells #[.int .i64 y0, .int .i64 y1, .int .i64 y2, .int .i64 y3] 78) = W2 at HO ⊢
          generalize wr.heap.size = X at HO ⊢
          have e1 := Lies.cell HO.out.2 1
          have e2 := Lies.cell HO.out.2 2
          have e3 := Lies.cell HO.out.2 3
          have b1 := Lies.cell HO.out.1.box 1
          have z1 := Lies.cell HO.out.1.zon 1
          have z2 := Lies.cell HO.out.1.zon 2
          have zf : ∀ i, W2.frozen? ⟨w.heap.size + 2, i, none⟩ = false := fun i => Lies.frozen HO.out.1.zon i
          simp only [List.getElem?_toArray, List.getElem?_cons_zero, List.getElem?_cons_succ] at e1 e2 e3 b1 z1 z2
          have hXz : X ≠ w.heap.size + 2 := by
            intro e
            have q1 := Lies.cell HO.out.2 3
            have q2 := Lies.cell HO.out.1.zon 3
            rw [e, q2] at q1
            simp at q1
          by_cases hv : y1 = x1
          · have hY := HY.out
            rw [if_pos hv, if_pos hv] at hY
            have hz : (y1 == x1) = true := by rw [beq_iff_eq]; exact hv
            rw [hz, Bool.true_or, Bool.or_true] at hY
            have HY2 := Lib.hid hY
            clear hY HY hv
            go_wp2_with fail
            go_roundw
            case rel => exact ⟨k + 1, true, min F y3, max L y2, by omega, by go_num, rfl, HY2.out.1, HY2.out.2.1, by rw [Bool.true_or]; exact HY2.out.2.2, HO.out.1.put HG.out⟩
            case measure => simp [intOf]; omega
          · have hY := HY.out
            rw [if_neg hv, if_neg hv] at hY
            have hz : (y1 == x1) = false := by rw [beq_eq_false_iff_ne]; exact hv
            rw [hz, Bool.false_or] at hY
            have HY2 := Lib.hid hY
            clear hY HY hv zf z1 z2
            go_wp2_with fail
            go_roundw
            case rel => exact ⟨k + 1, cc, F, L, by omega, by go_num, rfl, HY2.out.1, HY2.out.2.1, HY2.out.2.2, HO.out.1⟩
            case measure => simp [intOf]; omega
        · obtain rfl : n = k := by omega
          have hnil : R.drop n = [] := List.drop_eq_nil_of_le (by rw [← HN.out.1]; exact Nat.le_refl _)
          rw [hnil, zF] at hf
          rw [hnil, zL] at hl
          rw [hnil, show zAny x1 [] = false from rfl, Bool.or_false] at hc
          subst hf hl hc
          have z0 := Lies.cell hO.zon 0
          have z1 := Lies.cell hO.zon 1
          have z2 := Lies.cell hO.zon 2
          have z3 := Lies.cell hO.zon 3
          have r0 := Lies.cell hO.res 0
          have r1 := Lies.cell hO.res 1
          have r2 := Lies.cell hO.res 2
          have r3 := Lies.cell hO.res 3
          have zf : ∀ i, wr.frozen? ⟨w.heap.size + 2, i, none⟩ = false := fun i => Lies.frozen hO.zon i
          have rf : ∀ i, wr.frozen? ⟨w.heap.size + 1, i, none⟩ = false := fun i => Lies.frozen hO.res i
          simp only [List.getElem?_toArray, List.getElem?_cons_zero, List.getElem?_cons_succ] at z0 z1 z2 z3 r0 r1 r2 r3
          have HO := Lib.hid hO
          clear hO hnil
          by_cases hd : F < L
          · have HD := Lib.hid hd
            go_wp2_with fail
            clear z0 z1 z2 z3 r0 r1 r2 r3 zf rf
            have hw := Lies.far HO.out.res (p := ⟨w.heap.size + 2, 3, none⟩) (by simp) (.bool true)
            have hl := fill4_lies (a := .int .i64 x1) (b := .int .i64 F) (c := .int .i64 L) (d := .bool true) hw
            have hb := fill4_below (a := .int .i64 x1) (b := .int .i64 F) (c := .int .i64 L) (d := .bool true) (HO.out.below.setCell (p := ⟨w.heap.size + 2, 3, none⟩) (by simp) (.bool true)) (g := w.heap.size + 1) (by omega)
            change bodyPost _ _ _ _ _ (fill4 (wr.setCell ⟨w.heap.size + 2, 3, none⟩ (.bool true)) (w.heap.size + 1) (.int .i64 x1) (.int .i64 F) (.int .i64 L) (.bool true))
            generalize fill4 (wr.setCell ⟨w.heap.size + 2, 3, none⟩ (.bool true)) (w.heap.size + 1) (.int .i64 x1) (.int .i64 F) (.int .i64 L) (.bool true) = wz at hl hb ⊢
            have q0 := Lies.cell hl 0
            have q1 := Lies.cell hl 1
            have q2 := Lies.cell hl 2
            have q3 := Lies.cell hl 3
            simp only [List.getElem?_toArray, List.getElem?_cons_zero, List.getElem?_cons_succ] at q0 q1 q2 q3
            exact bodyPost_ret (v := .tuple #[znV ⟨x1, F, L, true⟩, .bool cc]) (by simp [results, Try.results40, go_sem, q0, q1, q2, q3]) rfl ⟨by rw [decide_eq_true (by have := HD.out; omega)], hb⟩
          · have HD := Lib.hid hd
            go_wp2_with fail
            clear z0 z1 z2 z3 r0 r1 r2 r3 zf rf
            have hw := Lies.far HO.out.res (p := ⟨w.heap.size + 2, 3, none⟩) (by simp) (.bool false)
            have hl := fill4_lies (a := .int .i64 x1) (b := .int .i64 F) (c := .int .i64 L) (d := .bool false) hw
            have hb := fill4_below (a := .int .i64 x1) (b := .int .i64 F) (c := .int .i64 L) (d := .bool false) (HO.out.below.setCell (p := ⟨w.heap.size + 2, 3, none⟩) (by simp) (.bool false)) (g := w.heap.size + 1) (by omega)
            change bodyPost _ _ _ _ _ (fill4 (wr.setCell ⟨w.heap.size + 2, 3, none⟩ (.bool false)) (w.heap.size + 1) (.int .i64 x1) (.int .i64 F) (.int .i64 L) (.bool false))
            generalize fill4 (wr.setCell ⟨w.heap.size + 2, 3, none⟩ (.bool false)) (w.heap.size + 1) (.int .i64 x1) (.int .i64 F) (.int .i64 L) (.bool false) = wz at hl hb ⊢
            have q0 := Lies.cell hl 0
            have q1 := Lies.cell hl 1
            have q2 := Lies.cell hl 2
            have q3 := Lies.cell hl 3
            simp only [List.getElem?_toArray, List.getElem?_cons_zero, List.getElem?_cons_succ] at q0 q1 q2 q3
            exact bodyPost_ret (v := .tuple #[znV ⟨x1, F, L, false⟩, .bool cc]) (by simp [results, Try.results40, go_sem, q0, q1, q2, q3]) rfl ⟨by rw [decide_eq_false (by have := HD.out; omega)], hb⟩
end Go.Proofs.Ytphhbojdolhieaa
