/-
  Joined by a program out of: CallRel, EqSt.
-/
import Derived.Test.YtfgangkpebkicaaDoorMgAJ
import Derived.Test.YtfgangkpebkicaaDoorMgAK
import Derived.Test.YtfgangkpebkicaaDoorMgAR
import Derived.Laws.StructEq
import Derived.Deep.QuietTactic
import Derived.BigQuiet

/-
  Contract of the reference's CallRel.
-/
namespace Go.Proofs.YtfgangkpebkicaaDoor
open Go.RowKit
set_option maxRecDepth 20000
theorem upP_row_lt (p : Nat → Nat → Bool) (m k j : Nat) : upP p m k j k < 2 ^ j := by
  unfold upP
  rw [if_neg (by omega), if_pos rfl]
  exact pickS_lt _ _
set_option maxHeartbeats 4000000 in
theorem callrel_any {B : Nat} {v : Value} {l : List Cl} {w : World} (h : CRd w B v l) (hB : B ≤ w.heap.size) (hl : l.length ≤ 12) :
    Calls Tryd.prog 12 #[v] w fun e w' => e = .returned (relV l.length (relP (aheadB l) l.length)) ∧ Below w.heap.size w w' := by
  obtain ⟨A, c, rfl, -, -⟩ := h.is
  have H := Lib.hid (And.intro h hB)
  obtain ⟨m, hm⟩ : ∃ m, m = l.length := ⟨_, rfl⟩
  rw [← hm]
  rw [← hm] at hl
  have HM := Lib.hid hm
  have hO : ORel w w.heap.size (w.heap.size + 1) m (upP (aheadB l) m 0 0) ((w.alloc (.cells (relCs 0 fun _ => 0) 46)).alloc (.cells (relCs m fun _ => 0) 46)) := by
    rw [upP_none]
    have h2 := Lies.new (w.alloc (.cells (relCs 0 fun _ => 0) 46)) 46 (relCs m fun _ => 0)
    rw [World.size_alloc] at h2
    exact ⟨((Below.refl _ _).alloc (Nat.le_refl _) _).alloc (by simp) _, Lies.alloc (Lies.new _ _ _) _, h2, Nat.le_refl _, by omega⟩
  have HO := Lib.hid hO
  clear h hB hm hO
  go_enter Tryd.func12, Tryd.ntmps12
  go_wp2_with fail
  have hO := HO.out
  clear HO
  change Code.wp _ _ _ _ ((w.alloc (.cells (relCs 0 fun _ => 0) 46)).alloc (.cells (relCs m fun _ => 0) 46))
  generalize (w.alloc (.cells (relCs 0 fun _ => 0) 46)).alloc (.cells (relCs m fun _ => 0) 46) = W at hO ⊢
  obtain ⟨G, hG⟩ : ∃ G, G = w.heap.size + 1 := ⟨_, rfl⟩
  rw [← hG] at hO ⊢
  clear hG
  go_loopw [11] (fun i wr => ∃ k : Nat, k ≤ m ∧ i = .int .i64 k ∧ ORel w w.heap.size G m (upP (aheadB l) m k 0) wr) (fun i _ => m - (intOf i).toNat)
  case atStart => exact ⟨0, by omega, rfl, hO⟩
  case round =>
    clear hO
    obtain ⟨k, hk, rfl, hO⟩ := hrel
    by_cases hkm : k < m
    · obtain ⟨x, hx⟩ : ∃ x, l[k]? = some x := ⟨_, List.getElem?_eq_getElem (by rw [← HM.out]; exact hkm)⟩
      have HO := Lib.hid hO
      have HX := Lib.hid hx
      clear hO hx
      have i1 : (0 : Int) ≤ (k : Int) := by omega
      have i2 : (k : Int) < (m : Int) := by omega
      have k12 : (k : Int) < 12 := by omega
      go_wp2_with fail
      obtain ⟨wo, rfl⟩ : ∃ wo : World, wo = wr := ⟨_, rfl⟩
      go_loopw [16] (fun i wr => ∃ j : Nat, j ≤ m ∧ i = .int .i64 j ∧ ORel w w.heap.size G m (upP (aheadB l) m k j) wr) (fun i _ => m - (intOf i).toNat)
      case atStart => exact ⟨0, by omega, rfl, HO.out⟩
      case round =>
        clear HO
        obtain ⟨j, hj, rfl, hO⟩ := hrel
        by_cases hjm : j < m
        · obtain ⟨y, hy⟩ : ∃ y, l[j]? = some y := ⟨_, List.getElem?_eq_getElem (by rw [← HM.out]; exact hjm)⟩
          have hb := hO.below
          have h' := H.out.1.below (hb.mono H.out.2)
          rw [← HM.out] at h'
          obtain ⟨g, o, hA, -, d0, d1, d2, d3, d4, d5, d6⟩ := h'.cl HX.out
          obtain ⟨g', o', hA', -, c0, c1, c2, c3, c4, c5, c6⟩ := h'.cl hy
          subst hA
          injection hA' with hA'
          injection hA' with hA1 hA2
          subst hA1
          subst hA2
          clear d0 d1 d2 d3 d4 d5 c0 c1 c2 c3 c4 c6 h' hb
          have hst := upP_step (aheadB l) m k j
          rw [aheadB_at HX.out hy] at hst
          have j1 : (0 : Int) ≤ (j : Int) := by omega
          have j2 : (j : Int) < (m : Int) := by omega
          have hk12 : k < 12 := by omega
          have HJ := Lib.hid (upP_row_lt (aheadB l) m k j)
          have HO := Lib.hid hO
          have HS := Lib.hid hst
          clear hst hy hO
          generalize x.til = x6 at d6 HS
          generalize y.frm = y5 at c5 HS
          by_cases t1 : x6 = -1
          · have hz : (x6 != -1) = false := by rw [bne_eq_false_iff_eq]; exact t1
            have hs := HS.out
            rw [if_neg (by simp [t1])] at hs
            have HS2 := Lib.hid hs
            clear hs t1 HS
            go_wp2_with fail
            go_quiet (fail)
            go_wp2_with fail
            go_roundw
            case rel => exact ⟨j + 1, by omega, by go_num, by rw [HS2.out]; exact HO.out.drewN _⟩
            case measure => simp [intOf]; omega
          · have hz : (x6 != -1) = true := by rw [bne_iff_ne]; exact t1
            by_cases t2 : x6 < y5
            · have hs := HS.out
              rw [if_pos (by simp [t1, t2])] at hs
              have HS2 := Lib.hid hs
              clear hs t1 HS
              go_wp2_with fail
              go_quiet (fail)
              have hO := HO.out.drewN nq
              clear d6 c5 HO
              generalize wr.drewN nq = w4 at hO ⊢
              have ck := hO.own.row' hk12
              have fk := hO.own.free (1 + k)
              have hlt := HJ.out
              have HOO := Lib.hid hO
              have hGl := hO.own.lt
              clear hO
              generalize hxx : upP (aheadB l) m k j k = z at ck hlt HS2
              have HXX := Lib.hid hxx
              have ho := add_pow z j hlt (by omega)
              have hp := pow_u16 j (by omega)
              clear hxx
              go_wp2_with fail
              go_region
              have h1 : ORel w w.heap.size G m (upP (aheadB l) m k (j + 1)) (w4.setCell ⟨G, 1 + k, none⟩ (.int .u16 ((z ||| 2 ^ j : Nat) : Int))).drew := by
                rw [HS2.out]
                exact (HOO.out.set_ hk12 _).drew
              clear ck fk ho hp
              generalize (w4.setCell ⟨G, 1 + k, none⟩ (.int .u16 ((z ||| 2 ^ j : Nat) : Int))).drew = w5 at h1 ⊢
              have HX2 := Lib.hid h1
              clear h1 hGl
              go_wp2_with fail
              go_roundw
              case rel => exact ⟨j + 1, by omega, by go_num, HX2.out⟩
              case measure => simp [intOf]; omega
            · have hs := HS.out
              rw [if_neg (by simp [t2])] at hs
              have HS2 := Lib.hid hs
              clear hs t1 HS
              go_wp2_with fail
              go_quiet (fail)
              go_wp2_with fail
              go_roundw
              case rel => exact ⟨j + 1, by omega, by go_num, by rw [HS2.out]; exact HO.out.drewN _⟩
              case measure => simp [intOf]; omega
        · obtain rfl : j = m := by omega
          rw [upP_end] at hO
          go_wp2_with fail
          go_roundw
          case rel => exact ⟨k + 1, by omega, by go_num, hO⟩
          case measure => simp [intOf]; omega
    · obtain rfl : k = m := by omega
      rw [upP_all] at hO
      have hr := hO.res.size
      obtain ⟨r0, r1, r2, r3, r4, r5, r6, r7, r8, r9, r10, r11⟩ := hO.res.rows
      have hc := hO.own.size
      obtain ⟨c0, c1, c2, c3, c4, c5, c6, c7, c8, c9, c10, c11⟩ := hO.own.rows
      have hf := hO.res.free
      go_wp2_with fail
      clear hr r0 r1 r2 r3 r4 r5 r6 r7 r8 r9 r10 r11 hc c0 c1 c2 c3 c4 c5 c6 c7 c8 c9 c10 c11 hf
      refine post_fill (W := wr) (g := w.heap.size) k (relP (aheadB l) k) hO.res hO.below (by omega) ?_
      intro wz hz hbz
      have hs := hz.size
      obtain ⟨c0, c1, c2, c3, c4, c5, c6, c7, c8, c9, c10, c11⟩ := hz.rows
      exact bodyPost_ret (v := relV k (relP (aheadB l) k))
        (by simp [results, Tryd.results12, go_sem, hs, c0, c1, c2, c3, c4, c5, c6, c7, c8, c9, c10, c11]) rfl ⟨rfl, hbz⟩
end Go.Proofs.YtfgangkpebkicaaDoor

/-
  slices.Equal of two lists of steps.
-/
namespace Go.Proofs.YtfgangkpebkicaaDoor
open Go.RowKit
set_option maxRecDepth 20000

theorem take_eqS {α : Type} {xs ys : List α} (hl : xs.length = ys.length) (h : ∀ (j : Nat) (x y : α), xs[j]? = some x → ys[j]? = some y → x = y) : xs = ys := by
  apply List.ext_getElem hl
  intro j h1 h2
  exact h j _ _ (List.getElem?_eq_getElem h1) (List.getElem?_eq_getElem h2)
/-- The first field in which two steps differ. -/
theorem st_ne (x0 x1 y0 y1 : Int) (h : (x0, x1) ≠ (y0, y1)) : (x0 == y0) = false ∨ (x0 = y0 ∧ (x1 == y1) = false) := by
  simp only [beq_eq_false_iff_ne]
  by_cases h0 : x0 = y0
  · by_cases h1 : x1 = y1
    · exact absurd (by rw [h0, h1]) h
    · simp [*]
  · simp [*]

set_option maxHeartbeats 2000000 in
theorem eqSt_any {B1 B2 : Nat} {v1 v2 : Value} {xs ys : List (Int × Int)} {w : World} (h1 : SRd w B1 v1 xs) (h2 : SRd w B2 v2 ys) :
    Calls Tryd.prog 10 #[v1, v2] w fun e w' => e = .returned (.bool (decide (xs = ys))) ∧ Below w.heap.size w w' := by
  obtain ⟨A1, c1, rfl, m1, m2⟩ := h1.is
  obtain ⟨A2, c2, rfl, m3, m4⟩ := h2.is
  unfold maxLen at m2 m4
  have H1 := Lib.hid h1
  have H2 := Lib.hid h2
  clear h1 h2
  obtain ⟨n, hn⟩ : ∃ n, n = xs.length := ⟨_, rfl⟩
  obtain ⟨n', hn'⟩ : ∃ n, n = ys.length := ⟨_, rfl⟩
  rw [← hn, ← hn']
  rw [← hn] at m1
  rw [← hn'] at m3
  have HN := Lib.hid hn
  have HN' := Lib.hid hn'
  clear hn hn'
  by_cases hl : n = n'
  · subst hl
    go_enter Tryd.func10, Tryd.ntmps10
    go_wp2_with fail
    go_loopw [13] (fun i wr => ∃ k : Nat, k ≤ n ∧ i = .int .i64 k ∧ (∀ (j : Nat) (x y : Int × Int), j < k → xs[j]? = some x → ys[j]? = some y → x = y) ∧ ∃ nq, wr = w.drewN nq) (fun i _ => n - (intOf i).toNat)
    case atStart => exact ⟨0, by omega, rfl, fun j x y hj => by omega, 0, rfl⟩
    case round =>
      obtain ⟨k, hk, rfl, ha, nq, rfl⟩ := hrel
      have HA := Lib.hid ha
      clear ha
      by_cases hkn : k < n
      · obtain ⟨x, hx⟩ : ∃ x, xs[k]? = some x := ⟨_, List.getElem?_eq_getElem (by rw [← HN.out]; exact hkn)⟩
        obtain ⟨y, hy⟩ : ∃ y, ys[k]? = some y := ⟨_, List.getElem?_eq_getElem (by rw [← HN'.out]; exact hkn)⟩
        have h1' := H1.out
        have h2' := H2.out
        rw [← HN.out] at h1'
        rw [← HN'.out] at h2'
        obtain ⟨g1, o1, rfl, -, b0, b1⟩ := h1'.sp hx
        obtain ⟨g2, o2, rfl, -, d0, d1⟩ := h2'.sp hy
        have HX := Lib.hid (And.intro hx hy)
        clear h1' h2' hx hy
        have i1 : (0 : Int) ≤ (k : Int) := by omega
        have i2 : (k : Int) < (n : Int) := by omega
        by_cases hxy : x = y
        · have HXY := Lib.hid hxy
          subst hxy
          obtain ⟨x0, x1⟩ := x
          go_wp2_with fail
          go_quiet (fail)
          go_wp2_with fail
          go_roundw
          case rel => exact ⟨k + 1, by omega, by go_num, fun j a b hj ha hb => by
            rcases Nat.lt_or_ge j k with h | h
            · exact HA.out j a b h ha hb
            · obtain rfl : j = k := by omega
              rw [HX.out.1] at ha
              rw [HX.out.2] at hb
              exact Option.some.inj (ha.symm.trans hb), _, rfl⟩
          case measure => simp [intOf]; omega
        · obtain ⟨x0, x1⟩ := x
          obtain ⟨y0, y1⟩ := y
          simp only at b0 b1 d0 d1
          have hz := st_ne _ _ _ _ hxy
          have HXY := Lib.hid hxy
          clear hxy
          rcases hz with hz | ⟨rfl, hz⟩
          all_goals (
            go_wp2_with fail
            go_quiet (fail)
            go_wp2_with fail
            go_ret
            exact ⟨ret_bool (decide_eq_false (fun e => HXY.out (by
              have h1 := HX.out.1
              rw [e, HX.out.2] at h1
              exact (Option.some.inj h1).symm))).symm, belowN (belowN (Below.refl _ _) _) _⟩)
      · obtain rfl : k = n := by omega
        go_wp2_with fail
        go_ret
        exact ⟨ret_bool (decide_eq_true (take_eqS (HN.out.symm.trans HN'.out) (fun j x y hx hy => HA.out j x y (by rw [HN.out]; exact (List.getElem?_eq_some_iff.1 hx).1) hx hy))).symm, belowN (Below.refl _ _) _⟩
  · have hz : ((n : Int) != (n' : Int)) = true := by rw [bne_iff_ne]; omega
    have hne : decide (xs = ys) = false := decide_eq_false (fun e => hl (by rw [HN.out, HN'.out, e]))
    rw [hne]
    clear hne hl
    go_enter Tryd.func10, Tryd.ntmps10
    go_wp2_with fail
    go_ret
    exact ⟨rfl, Below.refl _ _⟩
end Go.Proofs.YtfgangkpebkicaaDoor
