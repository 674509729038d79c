/-
  Contract of alibi/zones.inside.
-/
import Derived.Test.YtphhbojdolhieaaZSmall
import Derived.Test.YtphhbojdolhieaaZCross
namespace Go.Proofs.Ytphhbojdolhieaa
open Go.RowKit
set_option maxRecDepth 20000

set_option maxHeartbeats 8000000 in
theorem zinside_any {v : Value} {l : List Zn} {w : World} (h : ZnRd w w.heap.size v l) (hm : l.length ≤ 2000) :
    Calls Try.prog 29 #[v] w fun e w' => e = .returned (bzV (insideZ l l)) ∧ Below w.heap.size w w' := by
  obtain ⟨A, cap, rfl, m1, m2⟩ := h.is
  unfold maxLen at m2
  obtain ⟨n, hn⟩ : ∃ n, n = l.length := ⟨_, rfl⟩
  rw [← hn] at h hm m1 ⊢
  obtain ⟨R, hR⟩ : ∃ R, R = insideZ l l := ⟨_, rfl⟩
  have h0 : ZcR w A cap n l (w.alloc (.cells #[.int .i64 0, .int .i64 0, .int .i64 0] 28)) := by
    have hb : Below w.heap.size w (w.alloc (.cells #[.int .i64 0, .int .i64 0, .int .i64 0] 28)) := (Below.refl _ _).alloc (Nat.le_refl _) _
    exact ⟨hb, h.below hb, Lies.new _ _ _⟩
  rw [← hR]
  have HN := Lib.hid (And.intro hn hR)
  clear h hn hR
  go_enter Try.func29, Try.ntmps29
  go_wp2_with fail
  change Code.wp _ _ _ _ (w.alloc (.cells #[.int .i64 0, .int .i64 0, .int .i64 0] 28))
  generalize w.alloc (.cells #[.int .i64 0, .int .i64 0, .int .i64 0] 28) = W at h0 ⊢
  go_loopw [9] (fun i wr => ∃ k : Nat, k ≤ n ∧ i = .int .i64 k ∧ insideZ l (l.drop k) = R ∧ ZcR w A cap n l wr) (fun i _ => n - (intOf i).toNat)
  case atStart => exact ⟨0, by omega, rfl, by rw [List.drop_zero, HN.out.2], h0⟩
  case round =>
    clear h0
    obtain ⟨k, hk, rfl, hor, hO⟩ := hrel
    by_cases hkn : k < n
    · obtain ⟨x, hx⟩ : ∃ x, l[k]? = some x := ⟨_, List.getElem?_eq_getElem (by rw [← HN.out.1]; exact hkn)⟩
      have hdrop : l.drop k = x :: l.drop (k + 1) := by
        obtain ⟨h2, h3⟩ := List.getElem?_eq_some_iff.1 hx
        rw [List.drop_eq_getElem_cons h2, h3]
      rw [hdrop, insideZ] at hor
      obtain ⟨g, o, rfl, -, d0, d1, d2, d3⟩ := zn_at hO.row hx
      obtain ⟨x0, x1, x2, x3⟩ := x
      simp only at d0 d1 d2 d3
      have i1 : (0 : Int) ≤ (k : Int) := by omega
      have i2 : (k : Int) < (n : Int) := by omega
      have hnew := Lies.new wr 35 #[.int .i64 x0, .int .i64 x1, .int .i64 x2, .bool x3]
      have hO2 := hO.next ((Below.refl _ _).alloc (Nat.le_refl _) (.cells #[.int .i64 x0, .int .i64 x1, .int .i64 x2, .bool x3] 35))
      obtain ⟨Q, hQ⟩ : ∃ Q, Q = insideRow ⟨x0, x1, x2, x3⟩ (l) := ⟨_, rfl⟩
      rw [← hQ] at hor
      have HQ := Lib.hid (And.intro hQ hor)
      have HO := Lib.hid (And.intro hO2 hnew)
      clear hO hx hdrop hor hO2 hnew hQ
      go_upto_region 4 with fail
      clear d0 d1 d2 d3
      change Code.wp _ _ _ _ (wr.alloc (.cells #[.int .i64 x0, .int .i64 x1, .int .i64 x2, .bool x3] 35))
      have hO := HO.out
      have hgx : w.heap.size ≤ wr.heap.size := by have := HO.out.1.below.size; have := HO.out.1.res.lt; simp at this; omega
      have HGX := Lib.hid hgx
      clear HO hgx
      generalize wr.alloc (.cells #[.int .i64 x0, .int .i64 x1, .int .i64 x2, .bool x3] 35) = W2 at hO ⊢
      generalize wr.heap.size = X at hO HGX ⊢
      go_wp2_with fail
      go_loopw [15] (fun i wq => ∃ j : Nat, j ≤ n ∧ i = .int .i64 j ∧ insideRow ⟨x0, x1, x2, x3⟩ ((l).drop j) = Q ∧ ZcR w (some ⟨g, o, none⟩) cap n l wq ∧ Lies wq X 35 #[.int .i64 x0, .int .i64 x1, .int .i64 x2, .bool x3]) (fun i _ => n - (intOf i).toNat)
      case atStart => exact ⟨0, by omega, rfl, by rw [List.drop_zero, HQ.out.1], hO.1, hO.2⟩
      case round =>
        clear hO
        obtain ⟨j, hj, rfl, hq, hO, hL⟩ := hrel
        by_cases hjn : j < n
        · obtain ⟨y, hy⟩ : ∃ y, (l)[j]? = some y := ⟨_, List.getElem?_eq_getElem (by skip; rw [← HN.out.1]; exact hjn)⟩
          have hdrop : (l).drop j = y :: (l).drop (j + 1) := by
            obtain ⟨h2, h3⟩ := List.getElem?_eq_some_iff.1 hy
            rw [List.drop_eq_getElem_cons h2, h3]
          rw [hdrop, insideRow] at hq
          obtain ⟨g', o', hA, -, d0, d1, d2, d3⟩ := zn_at hO.row hy
          injection hA with hA; injection hA with hA1 hA2; subst hA1 hA2
          obtain ⟨y0, y1, y2, y3⟩ := y
          simp only at d0 d1 d2 d3
          have j1 : (0 : Int) ≤ (j : Int) := by omega
          have j2 : (j : Int) < (n : Int) := by omega
          have hnew := Lies.new wr 35 #[.int .i64 y0, .int .i64 y1, .int .i64 y2, .bool y3]
          have hal : Below wr.heap.size wr (wr.alloc (.cells #[.int .i64 y0, .int .i64 y1, .int .i64 y2, .bool y3] 35)) := (Below.refl _ _).alloc (Nat.le_refl _) _
          have HO := Lib.hid (And.intro (hO.next hal) (And.intro hnew (Lies.below hL hal hL.lt)))
          have HY := Lib.hid hq
          clear hO hL hy hdrop hq hnew hal
          go_upto_region 7 with fail
          clear d0 d1 d2 d3
          change Code.wp _ _ _ _ (wr.alloc (.cells #[.int .i64 y0, .int .i64 y1, .int .i64 y2, .bool y3] 35))
          generalize wr.alloc (.cells #[.int .i64 y0, .int .i64 y1, .int .i64 y2, .bool y3] 35) = W3 at HO ⊢
          generalize wr.heap.size = Y at HO ⊢
          have e0 := Lies.cell HO.out.2.1 0
          have e1 := Lies.cell HO.out.2.1 1
          have e2 := Lies.cell HO.out.2.1 2
          have e3 := Lies.cell HO.out.2.1 3
          have c0 := Lies.cell HO.out.2.2 0
          have c1 := Lies.cell HO.out.2.2 1
          have c2 := Lies.cell HO.out.2.2 2
          have c3 := Lies.cell HO.out.2.2 3
          simp only [List.getElem?_toArray, List.getElem?_cons_zero, List.getElem?_cons_succ] at e0 e1 e2 e3 c0 c1 c2 c3
          cases x3
          · have hq := HY.out
            rw [if_neg (by simp)] at hq
            have HY2 := Lib.hid hq
            clear hq HY
            go_wp2_with fail
            go_roundw
            case rel => exact ⟨j + 1, by omega, by go_num, HY2.out, HO.out.1, HO.out.2.2⟩
            case measure => simp [intOf]; omega
          · cases y3
            · obtain ⟨b, hb⟩ : ∃ b, b = lapZ ⟨x0, x1, x2, true⟩ ⟨y0, y1, y2, false⟩ := ⟨_, rfl⟩
              have HLP := Lib.hid (zlap_any ⟨x0, x1, x2, true⟩ ⟨y0, y1, y2, false⟩ W3)
              rw [← hb] at HLP
              have hq := HY.out
              rw [← hb] at hq
              have HY2 := Lib.hid hq
              clear hq HY hb
              go_wp2_with fail
              refine HLP.out.mono ?_
              rintro e w4 ⟨rfl, hb4⟩
              have HO4 := Lib.hid (And.intro (HO.out.1.next hb4) (And.intro (Lies.below HO.out.2.1 hb4 HO.out.2.1.lt) (Lies.below HO.out.2.2 hb4 HO.out.2.2.lt)))
              clear HO hb4 e0 e1 e2 e3 c0 c1 c2 c3
              have e0 := Lies.cell HO4.out.2.1 0
              have c0 := Lies.cell HO4.out.2.2 0
              have r0 := Lies.cell HO4.out.1.res 0
              have r1 := Lies.cell HO4.out.1.res 1
              have r2 := Lies.cell HO4.out.1.res 2
              have rf : ∀ i, w4.frozen? ⟨w.heap.size, i, none⟩ = false := fun i => Lies.frozen HO4.out.1.res i
              simp only [List.getElem?_toArray, List.getElem?_cons_zero, List.getElem?_cons_succ] at e0 c0 r0 r1 r2
              cases b
              · have hq := HY2.out
                rw [if_neg (by simp)] at hq
                have HY3 := Lib.hid hq
                clear hq HY2 r0 r1 r2 rf
                go_wp2_with fail
                go_roundw
                case rel => exact ⟨j + 1, by omega, by go_num, HY3.out, HO4.out.1, HO4.out.2.2⟩
                case measure => simp [intOf]; omega
              · have hq := HY2.out
                rw [if_pos (by simp)] at hq
                have hr := HQ.out.2
                rw [← hq, if_pos (by show (5 : Int) ≠ 0; decide)] at hr
                have HO5 := Lib.hid (And.intro HO4.out.1 hr)
                clear hq HY2 hr HO4
                go_wp2_with fail
                clear r0 r1 r2 rf
                have hl := fill3_lies (a := .int .i64 5) (b := .int .i64 x0) (c := .int .i64 y0) HO5.out.1.res
                have hb := fill3_below (a := .int .i64 5) (b := .int .i64 x0) (c := .int .i64 y0) HO5.out.1.below (g := w.heap.size) (Nat.le_refl _)
                change bodyPost _ _ _ _ _ (fill3 w4 w.heap.size (.int .i64 5) (.int .i64 x0) (.int .i64 y0))
                generalize fill3 w4 w.heap.size (.int .i64 5) (.int .i64 x0) (.int .i64 y0) = wz at hl hb ⊢
                have q0 := Lies.cell hl 0
                have q1 := Lies.cell hl 1
                have q2 := Lies.cell hl 2
                simp only [List.getElem?_toArray, List.getElem?_cons_zero, List.getElem?_cons_succ] at q0 q1 q2
                exact bodyPost_ret (v := bzV ⟨5, x0, y0⟩) (by simp [results, Try.results29, go_sem, q0, q1, q2]) rfl ⟨by rw [← HO5.out.2] <;> rfl, hb⟩
            · have hq := HY.out
              rw [if_neg (by simp)] at hq
              have HY2 := Lib.hid hq
              clear hq HY
              go_wp2_with fail
              go_roundw
              case rel => exact ⟨j + 1, by omega, by go_num, HY2.out, HO.out.1, HO.out.2.2⟩
              case measure => simp [intOf]; omega
        · have hjn2 : j = n := by omega
          rw [hjn2, List.drop_eq_nil_of_le (by skip; rw [← HN.out.1]; exact Nat.le_refl _), insideRow] at hq
          have hr := HQ.out.2
          rw [← hq, if_neg (by show ¬ (0 : Int) ≠ 0; decide)] at hr
          have HO := Lib.hid (And.intro hO hr)
          have j2 : ¬ (j : Int) < (n : Int) := by omega
          clear hO hL hq hr hjn2
          go_wp2_with fail
          go_roundw
          case rel => exact ⟨k + 1, by omega, by go_num, HO.out.2, HO.out.1⟩
          case measure => simp [intOf]; omega
    · obtain rfl : n = k := by omega
      rw [List.drop_eq_nil_of_le (by rw [← HN.out.1]; exact Nat.le_refl _), insideZ] at hor
      have r0 := Lies.cell hO.res 0
      have r1 := Lies.cell hO.res 1
      have r2 := Lies.cell hO.res 2
      have rf : ∀ i, wr.frozen? ⟨w.heap.size, i, none⟩ = false := fun i => Lies.frozen hO.res i
      simp only [List.getElem?_toArray, List.getElem?_cons_zero, List.getElem?_cons_succ] at r0 r1 r2
      have HO3 := Lib.hid (And.intro hO hor)
      clear hO hor
      go_wp2_with fail
      clear r0 r1 r2 rf
      have hl := fill3_lies (a := .int .i64 0) (b := .int .i64 0) (c := .int .i64 0) HO3.out.1.res
      have hb := fill3_below (a := .int .i64 0) (b := .int .i64 0) (c := .int .i64 0) HO3.out.1.below (g := w.heap.size) (Nat.le_refl _)
      change bodyPost _ _ _ _ _ (fill3 wr w.heap.size (.int .i64 0) (.int .i64 0) (.int .i64 0))
      generalize fill3 wr w.heap.size (.int .i64 0) (.int .i64 0) (.int .i64 0) = wz at hl hb ⊢
      have q0 := Lies.cell hl 0
      have q1 := Lies.cell hl 1
      have q2 := Lies.cell hl 2
      simp only [List.getElem?_toArray, List.getElem?_cons_zero, List.getElem?_cons_succ] at q0 q1 q2
      exact bodyPost_ret (v := bzV ⟨0, 0, 0⟩) (by simp [results, Try.results29, go_sem, q0, q1, q2]) rfl ⟨by rw [← HO3.out.2] <;> rfl, hb⟩
end Go.Proofs.Ytphhbojdolhieaa
