/-
  Contract of history.Ahead.
-/
import Derived.Test.YtebcnhnkpmbgdaaAnswered
import Derived.Test.YtebcnhnkpmbgdaaAheadPure
import Derived.Test.YtebcnhnkpmbgdaaHistSmall
import Derived.Test.YtebcnhnkpmbgdaaRelMem
namespace Go.Proofs.Ytebcnhnkpmbgdaa
open Go.RowKit
set_option maxRecDepth 20000

theorem ahead_many {B : Nat} {v : Value} {l : List Cl} {w : World} (h : CRd w B v l) (hl : 12 < l.length) :
    Calls Try.prog 11 #[v] w fun e w' => e = .returned (.tuple #[relV 0 (fun _ => 0), .int .i64 2]) ∧ Below w.heap.size w w' := by
  obtain ⟨A, c, rfl, m1, m2⟩ := h.is
  clear h
  have h12 : (12 : Int) < (l.length : Int) := by omega
  have hb0 : Below w.heap.size w (w.alloc (.cells (relCs 0 fun _ => 0) 32)) := (Below.refl _ _).alloc (Nat.le_refl _) _
  have hr : RelB (w.alloc (.cells (relCs 0 fun _ => 0) 32)) w.heap.size 0 (fun _ => 0) := Lies.new w 32 (relCs 0 fun _ => 0)
  have HH := Lib.hid (And.intro hb0 hr)
  clear hb0 hr
  go_enter Try.func11, Try.ntmps11
  go_wp2_with fail
  exact bodyPost_ret (v := .tuple #[relV 0 (fun _ => 0), .int .i64 2])
    (by simp [results, Try.results11, go_sem]) rfl ⟨rfl, HH.out.1⟩

set_option maxHeartbeats 4000000 in
theorem ahead_few {B : Nat} {v : Value} {l : List Cl} {w : World} (h : CRd w B v l) (hB : B ≤ w.heap.size) (hl : l.length ≤ 12) :
    Calls Try.prog 11 #[v] w fun e w' => e = .returned (.tuple #[relV l.length (relP (aheadB l) l.length), .int .i64 0]) ∧ Below w.heap.size w w' := by
  obtain ⟨A, c, rfl, -, -⟩ := h.is
  have H := Lib.hid (And.intro h hB)
  obtain ⟨m, hm⟩ : ∃ m, m = l.length := ⟨_, rfl⟩
  rw [← hm]
  rw [← hm] at hl
  have HM := Lib.hid hm
  have hn12 : ¬ (12 : Int) < (m : Int) := by omega
  have hO : ORel w w.heap.size (w.heap.size + 1) m (upP (aheadB l) m 0 0) ((w.alloc (.cells (relCs 0 fun _ => 0) 32)).alloc (.cells (relCs m fun _ => 0) 32)) := by
    rw [upP_none]
    have h2 := Lies.new (w.alloc (.cells (relCs 0 fun _ => 0) 32)) 32 (relCs m fun _ => 0)
    rw [World.size_alloc] at h2
    exact ⟨((Below.refl _ _).alloc (Nat.le_refl _) _).alloc (by simp) _, Lies.alloc (Lies.new _ _ _) _, h2, Nat.le_refl _, by omega⟩
  have HO := Lib.hid hO
  clear h hB hm hO
  go_enter Try.func11, Try.ntmps11
  go_wp2_with fail
  have hO := HO.out
  clear HO
  change Code.wp _ _ _ _ ((w.alloc (.cells (relCs 0 fun _ => 0) 32)).alloc (.cells (relCs m fun _ => 0) 32))
  generalize (w.alloc (.cells (relCs 0 fun _ => 0) 32)).alloc (.cells (relCs m fun _ => 0) 32) = W at hO ⊢
  obtain ⟨G, hG⟩ : ∃ G, G = w.heap.size + 1 := ⟨_, rfl⟩
  rw [← hG] at hO ⊢
  clear hG
  go_loopw [18] (fun i wr => ∃ k : Nat, k ≤ m ∧ i = .int .i64 k ∧ ORel w w.heap.size G m (upP (aheadB l) m k 0) wr) (fun i _ => m - (intOf i).toNat)
  case atStart => exact ⟨0, by omega, rfl, hO⟩
  case round =>
    clear hO
    obtain ⟨k, hk, rfl, hO⟩ := hrel
    by_cases hkm : k < m
    · obtain ⟨x, hx⟩ : ∃ x, l[k]? = some x := ⟨_, List.getElem?_eq_getElem (by rw [← HM.out]; exact hkm)⟩
      have hb := hO.below
      have h' := H.out.1.below (hb.mono H.out.2)
      rw [← HM.out] at h'
      obtain ⟨g, o, rfl, -, d0, d1, d2, d3, d4, d5, d6⟩ := h'.cl hx
      have HO := Lib.hid hO
      have HX := Lib.hid hx
      have i1 : (0 : Int) ≤ (k : Int) := by omega
      have i2 : (k : Int) < (m : Int) := by omega
      obtain ⟨x0, x1, x2, x3, x4, x5, x6⟩ := x
      clear h' hb hO hx
      go_wp2_with fail
      obtain ⟨P, hP⟩ : ∃ P, P = wr.heap.size := ⟨_, rfl⟩
      have hl1 : Lies (wr.alloc (.cells (clCs ⟨x0, x1, x2, x3, x4, x5, x6⟩).toArray 70)) P 70 (clCs ⟨x0, x1, x2, x3, x4, x5, x6⟩).toArray := by rw [hP]; exact Lies.new _ _ _
      have hGP : G < P := by rw [hP]; exact HO.out.own.lt
      have hO := HO.out.alloc (.cells (clCs ⟨x0, x1, x2, x3, x4, x5, x6⟩).toArray 70)
      rw [← hP]
      clear hP HO d0 d1 d2 d3 d4 d5 d6
      change Code.wp _ _ _ _ (wr.alloc (.cells (clCs ⟨x0, x1, x2, x3, x4, x5, x6⟩).toArray 70))
      generalize wr.alloc (.cells (clCs ⟨x0, x1, x2, x3, x4, x5, x6⟩).toArray 70) = W2 at hl1 hO ⊢
      go_loopw [25] (fun i wr => ∃ j : Nat, j ≤ m ∧ i = .int .i64 j ∧ ORel w w.heap.size G m (upP (aheadB l) m k j) wr ∧ Lies wr P 70 (clCs ⟨x0, x1, x2, x3, x4, x5, x6⟩).toArray) (fun i _ => m - (intOf i).toNat)
      case atStart => exact ⟨0, by omega, rfl, hO, hl1⟩
      case round =>
        clear hO hl1
        obtain ⟨j, hj, rfl, hO, hl1⟩ := hrel
        by_cases hjm : j < m
        · obtain ⟨y, hy⟩ : ∃ y, l[j]? = some y := ⟨_, List.getElem?_eq_getElem (by rw [← HM.out]; exact hjm)⟩
          have hb := hO.below
          have h' := H.out.1.below (hb.mono H.out.2)
          rw [← HM.out] at h'
          obtain ⟨g', o', hA, -, d0, d1, d2, d3, d4, d5, d6⟩ := h'.cl hy
          injection hA with hA
          injection hA with hA1 hA2
          subst hA1
          subst hA2
          have hst := upP_step (aheadB l) m k j
          rw [aheadB_at HX.out hy] at hst
          have j1 : (0 : Int) ≤ (j : Int) := by omega
          have j2 : (j : Int) < (m : Int) := by omega
          obtain ⟨y0, y1, y2, y3, y4, y5, y6⟩ := y
          simp only at hst
          have hba : Below wr.heap.size wr (wr.alloc (.cells (clCs ⟨y0, y1, y2, y3, y4, y5, y6⟩).toArray 70)) := (Below.refl _ _).alloc (Nat.le_refl _) _
          have hY := Lies.new wr 70 (clCs ⟨y0, y1, y2, y3, y4, y5, y6⟩).toArray
          have e6 := Lies.cell hl1
          have HO := Lib.hid (And.intro (hO.next hba) (And.intro (Lies.below hl1 hba hl1.lt) hY))
          have HS := Lib.hid hst
          obtain ⟨q0, q1, q2, q3, q4, q5, q6⟩ : wr.cell? ⟨P, 0, none⟩ = some (.int .i64 x0) ∧ wr.cell? ⟨P, 1, none⟩ = some (.int .i64 x1) ∧ wr.cell? ⟨P, 2, none⟩ = some (.int .i64 x2) ∧ wr.cell? ⟨P, 3, none⟩ = some (.int .i64 x3) ∧ wr.cell? ⟨P, 4, none⟩ = some (.int .i64 x4) ∧ wr.cell? ⟨P, 5, none⟩ = some (.int .i64 x5) ∧ wr.cell? ⟨P, 6, none⟩ = some (.int .i64 x6) := ⟨e6 0, e6 1, e6 2, e6 3, e6 4, e6 5, e6 6⟩
          have hPl := hl1.lt
          clear h' hb hO hl1 hba hY hst hy e6
          go_wp2_with fail
          change Calls _ _ _ (wr.alloc (.cells (clCs ⟨y0, y1, y2, y3, y4, y5, y6⟩).toArray 70)) _
          have HO' := HO.out
          clear HO q0 q1 q2 q3 q4 q5 q6 d0 d1 d2 d3 d4 d5 d6 hPl
          generalize wr.alloc (.cells (clCs ⟨y0, y1, y2, y3, y4, y5, y6⟩).toArray 70) = W3 at HO' ⊢
          generalize wr.heap.size = P2 at HO' ⊢
          refine (answered_any ⟨x0, x1, x2, x3, x4, x5, x6⟩ W3).mono ?_
          rintro e w4 ⟨rfl, hb4⟩
          have hO := HO'.1.next hb4
          have hl1 := Lies.below HO'.2.1 hb4 HO'.2.1.lt
          have hl2 := Lies.below HO'.2.2 hb4 HO'.2.2.lt
          clear HO' hb4
          have q6 : w4.cell? ⟨P, 6, none⟩ = some (.int .i64 x6) := Lies.cell hl1 6
          have q5 : w4.cell? ⟨P2, 5, none⟩ = some (.int .i64 y5) := Lies.cell hl2 5
          have k12 : (k : Int) < 12 := by omega
          have hk12 : k < 12 := by omega
          have ck := hO.own.row' hk12
          have fk := hO.own.free (1 + k)
          have hlt := upP_lt (aheadB l) m k j hl (by omega) k
          have HOO := Lib.hid (And.intro hO hl1)
          have hGl := hO.own.lt
          clear hO hl1 hl2
          generalize hxx : upP (aheadB l) m k j k = z at ck hlt HS
          have ho := or_pow z j hlt (by omega)
          have hp := pow_u16 j (by omega)
          have HXX := Lib.hid hxx
          clear hxx
          by_cases t1 : x6 = -1
          · have hz : (x6 != -1) = false := by rw [bne_eq_false_iff_eq]; exact t1
            have hs := HS.out
            rw [if_neg (by simp [t1])] at hs
            have HS2 := Lib.hid hs
            simp only
            rw [hz]
            clear hs t1 hz
            go_wp2_with fail
            go_roundw
            case rel => exact ⟨j + 1, by omega, by go_num, by rw [HS2.out]; exact HOO.out.1, HOO.out.2⟩
            case measure => simp [intOf]; omega
          · have hz : (x6 != -1) = true := by rw [bne_iff_ne]; exact t1
            simp only
            rw [hz]
            by_cases t2 : x6 < y5
            · have hs := HS.out
              rw [if_pos (by simp [t1, t2])] at hs
              have HS2 := Lib.hid hs
              clear hs t1 hz
              go_wp2_with fail
              go_region
              have h1 : ORel w w.heap.size G m (upP (aheadB l) m k (j + 1)) (w4.setCell ⟨G, 1 + k, none⟩ (.int .u16 ((z ||| 2 ^ j : Nat) : Int))).drew := by
                rw [HS2.out]
                exact (HOO.out.1.set_ hk12 _).drew
              have h2 : Lies (w4.setCell ⟨G, 1 + k, none⟩ (.int .u16 ((z ||| 2 ^ j : Nat) : Int))).drew P 70 (clCs ⟨x0, x1, x2, x3, x4, x5, x6⟩).toArray :=
                (Lies.far HOO.out.2 (by show P ≠ G; omega) _).drew
              clear ck fk q6 q5 ho hp
              generalize (w4.setCell ⟨G, 1 + k, none⟩ (.int .u16 ((z ||| 2 ^ j : Nat) : Int))).drew = w5 at h1 h2 ⊢
              have HX := Lib.hid (And.intro h1 h2)
              clear h1 h2 hGl
              go_wp2_with fail
              go_roundw
              case rel => exact ⟨j + 1, by omega, by go_num, HX.out⟩
              case measure => simp [intOf]; omega
            · have hs := HS.out
              rw [if_neg (by simp [t2])] at hs
              have HS2 := Lib.hid hs
              clear hs t1 hz
              go_wp2_with fail
              go_roundw
              case rel => exact ⟨j + 1, by omega, by go_num, by rw [HS2.out]; exact HOO.out.1, HOO.out.2⟩
              case measure => simp [intOf]; omega
        · obtain rfl : j = m := by omega
          rw [upP_end] at hO
          have HOO := Lib.hid hO
          clear hO hl1
          go_wp2_with fail
          go_roundw
          case rel => exact ⟨k + 1, by omega, by go_num, HOO.out⟩
          case measure => simp [intOf]; omega
    · obtain rfl : k = m := by omega
      rw [upP_all] at hO
      have hr := hO.res.size
      obtain ⟨r0, r1, r2, r3, r4, r5, r6, r7, r8, r9, r10, r11⟩ := hO.res.rows
      have hc := hO.own.size
      obtain ⟨c0, c1, c2, c3, c4, c5, c6, c7, c8, c9, c10, c11⟩ := hO.own.rows
      have hf := hO.res.free
      go_wp2_with fail
      clear hr r0 r1 r2 r3 r4 r5 r6 r7 r8 r9 r10 r11 hc c0 c1 c2 c3 c4 c5 c6 c7 c8 c9 c10 c11 hf
      refine post_fill (W := wr) (g := w.heap.size) k (relP (aheadB l) k) hO.res hO.below (by omega) ?_
      intro wz hz hbz
      have hs := hz.size
      obtain ⟨c0, c1, c2, c3, c4, c5, c6, c7, c8, c9, c10, c11⟩ := hz.rows
      exact bodyPost_ret (v := .tuple #[relV k (relP (aheadB l) k), .int .i64 0])
        (by simp [results, Try.results11, go_sem, hs, c0, c1, c2, c3, c4, c5, c6, c7, c8, c9, c10, c11]) rfl ⟨rfl, hbz⟩
end Go.Proofs.Ytebcnhnkpmbgdaa
