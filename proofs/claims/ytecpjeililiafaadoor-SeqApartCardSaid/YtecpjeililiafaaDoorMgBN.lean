/-
  Joined by a program out of: CallRel, SSaysW.
-/
import Derived.Test.YtecpjeililiafaaDoorMgAB
import Derived.Test.YtecpjeililiafaaDoorMgAE
import Derived.Test.YtecpjeililiafaaDoorMgBL
import Derived.Test.YtecpjeililiafaaDoorMgBH
import Derived.Test.YtecpjeililiafaaDoorMgAX
import Derived.Test.YtecpjeililiafaaDoorMgAW
import Derived.Test.YtecpjeililiafaaDoorMgBM

/-
  Contract of the reference's CallRel.
-/
namespace Go.Proofs.YtecpjeililiafaaDoor
open Go.RowKit
set_option maxRecDepth 20000

theorem upP_row_lt (p : Nat → Nat → Bool) (m k j : Nat) : upP p m k j k < 2 ^ j := by
  unfold upP
  rw [if_neg (by omega), if_pos rfl]
  exact pickS_lt _ _

set_option maxHeartbeats 4000000 in
theorem callrel_any {B : Nat} {v : Value} {l : List Cl} {w : World} (h : CRd w B v l) (hB : B ≤ w.heap.size) (hl : l.length ≤ 12) :
    Calls Tryd.prog 24 #[v] w fun e w' => e = .returned (relV l.length (relP (aheadB l) l.length)) ∧ Below w.heap.size w w' := by
  obtain ⟨A, c, rfl, -, -⟩ := h.is
  have H := Lib.hid (And.intro h hB)
  obtain ⟨m, hm⟩ : ∃ m, m = l.length := ⟨_, rfl⟩
  rw [← hm]
  rw [← hm] at hl
  have HM := Lib.hid hm
  have hO : ORel w w.heap.size (w.heap.size + 1) m (upP (aheadB l) m 0 0) ((w.alloc (.cells (relCs 0 fun _ => 0) 36)).alloc (.cells (relCs m fun _ => 0) 36)) := by
    rw [upP_none]
    have h2 := Lies.new (w.alloc (.cells (relCs 0 fun _ => 0) 36)) 36 (relCs m fun _ => 0)
    rw [World.size_alloc] at h2
    exact ⟨((Below.refl _ _).alloc (Nat.le_refl _) _).alloc (by simp) _, Lies.alloc (Lies.new _ _ _) _, h2, Nat.le_refl _, by omega⟩
  have HO := Lib.hid hO
  clear h hB hm hO
  go_enter Tryd.func24, Tryd.ntmps24
  go_wp2_with fail
  have hO := HO.out
  clear HO
  change Code.wp _ _ _ _ ((w.alloc (.cells (relCs 0 fun _ => 0) 36)).alloc (.cells (relCs m fun _ => 0) 36))
  generalize (w.alloc (.cells (relCs 0 fun _ => 0) 36)).alloc (.cells (relCs m fun _ => 0) 36) = W at hO ⊢
  obtain ⟨G, hG⟩ : ∃ G, G = w.heap.size + 1 := ⟨_, rfl⟩
  rw [← hG] at hO ⊢
  clear hG
  go_loopw [11] (fun i wr => ∃ k : Nat, k ≤ m ∧ i = .int .i64 k ∧ ORel w w.heap.size G m (upP (aheadB l) m k 0) wr) (fun i _ => m - (intOf i).toNat)
  case atStart => exact ⟨0, by omega, rfl, hO⟩
  case round =>
    clear hO
    obtain ⟨k, hk, rfl, hO⟩ := hrel
    by_cases hkm : k < m
    · obtain ⟨x, hx⟩ : ∃ x, l[k]? = some x := ⟨_, List.getElem?_eq_getElem (by rw [← HM.out]; exact hkm)⟩
      have HO := Lib.hid hO
      have HX := Lib.hid hx
      clear hO hx
      have i1 : (0 : Int) ≤ (k : Int) := by omega
      have i2 : (k : Int) < (m : Int) := by omega
      have k12 : (k : Int) < 12 := by omega
      go_wp2_with fail
      obtain ⟨wo, rfl⟩ : ∃ wo : World, wo = wr := ⟨_, rfl⟩
      go_loopw [16] (fun i wr => ∃ j : Nat, j ≤ m ∧ i = .int .i64 j ∧ ORel w w.heap.size G m (upP (aheadB l) m k j) wr) (fun i _ => m - (intOf i).toNat)
      case atStart => exact ⟨0, by omega, rfl, HO.out⟩
      case round =>
        clear HO
        obtain ⟨j, hj, rfl, hO⟩ := hrel
        by_cases hjm : j < m
        · obtain ⟨y, hy⟩ : ∃ y, l[j]? = some y := ⟨_, List.getElem?_eq_getElem (by rw [← HM.out]; exact hjm)⟩
          have hb := hO.below
          have h' := H.out.1.below (hb.mono H.out.2)
          rw [← HM.out] at h'
          obtain ⟨g, o, hA, -, d0, d1, d2, d3, d4, d5, d6⟩ := h'.cl HX.out
          obtain ⟨g', o', hA', -, c0, c1, c2, c3, c4, c5, c6⟩ := h'.cl hy
          subst hA
          injection hA' with hA'
          injection hA' with hA1 hA2
          subst hA1
          subst hA2
          clear d0 d1 d2 d3 d4 d5 c0 c1 c2 c3 c4 c6 h' hb
          have hst := upP_step (aheadB l) m k j
          rw [aheadB_at HX.out hy] at hst
          have j1 : (0 : Int) ≤ (j : Int) := by omega
          have j2 : (j : Int) < (m : Int) := by omega
          have hk12 : k < 12 := by omega
          have HJ := Lib.hid (upP_row_lt (aheadB l) m k j)
          have HO := Lib.hid hO
          have HS := Lib.hid hst
          clear hst hy hO
          generalize x.til = x6 at d6 HS
          generalize y.frm = y5 at c5 HS
          by_cases t1 : x6 = -1
          · have hz : (x6 != -1) = false := by rw [bne_eq_false_iff_eq]; exact t1
            have hs := HS.out
            rw [if_neg (by simp [t1])] at hs
            have HS2 := Lib.hid hs
            clear hs t1 HS
            go_wp2_with fail
            go_quiet (fail)
            go_wp2_with fail
            go_roundw
            case rel => exact ⟨j + 1, by omega, by go_num, by rw [HS2.out]; exact HO.out.drewN _⟩
            case measure => simp [intOf]; omega
          · have hz : (x6 != -1) = true := by rw [bne_iff_ne]; exact t1
            by_cases t2 : x6 < y5
            · have hs := HS.out
              rw [if_pos (by simp [t1, t2])] at hs
              have HS2 := Lib.hid hs
              clear hs t1 HS
              go_wp2_with fail
              go_quiet (fail)
              have hO := HO.out.drewN nq
              clear d6 c5 HO
              generalize wr.drewN nq = w4 at hO ⊢
              have ck := hO.own.row' hk12
              have fk := hO.own.free (1 + k)
              have hlt := HJ.out
              have HOO := Lib.hid hO
              have hGl := hO.own.lt
              clear hO
              generalize hxx : upP (aheadB l) m k j k = z at ck hlt HS2
              have HXX := Lib.hid hxx
              have ho := add_pow z j hlt (by omega)
              have hp := pow_u16 j (by omega)
              clear hxx
              go_wp2_with fail
              go_region
              have h1 : ORel w w.heap.size G m (upP (aheadB l) m k (j + 1)) (w4.setCell ⟨G, 1 + k, none⟩ (.int .u16 ((z ||| 2 ^ j : Nat) : Int))).drew := by
                rw [HS2.out]
                exact (HOO.out.set_ hk12 _).drew
              clear ck fk ho hp
              generalize (w4.setCell ⟨G, 1 + k, none⟩ (.int .u16 ((z ||| 2 ^ j : Nat) : Int))).drew = w5 at h1 ⊢
              have HX2 := Lib.hid h1
              clear h1 hGl
              go_wp2_with fail
              go_roundw
              case rel => exact ⟨j + 1, by omega, by go_num, HX2.out⟩
              case measure => simp [intOf]; omega
            · have hs := HS.out
              rw [if_neg (by simp [t2])] at hs
              have HS2 := Lib.hid hs
              clear hs t1 HS
              go_wp2_with fail
              go_quiet (fail)
              go_wp2_with fail
              go_roundw
              case rel => exact ⟨j + 1, by omega, by go_num, by rw [HS2.out]; exact HO.out.drewN _⟩
              case measure => simp [intOf]; omega
        · obtain rfl : j = m := by omega
          rw [upP_end] at hO
          go_wp2_with fail
          go_roundw
          case rel => exact ⟨k + 1, by omega, by go_num, hO⟩
          case measure => simp [intOf]; omega
    · obtain rfl : k = m := by omega
      rw [upP_all] at hO
      have hr := hO.res.size
      obtain ⟨r0, r1, r2, r3, r4, r5, r6, r7, r8, r9, r10, r11⟩ := hO.res.rows
      have hc := hO.own.size
      obtain ⟨c0, c1, c2, c3, c4, c5, c6, c7, c8, c9, c10, c11⟩ := hO.own.rows
      have hf := hO.res.free
      go_wp2_with fail
      clear hr r0 r1 r2 r3 r4 r5 r6 r7 r8 r9 r10 r11 hc c0 c1 c2 c3 c4 c5 c6 c7 c8 c9 c10 c11 hf
      refine post_fill (W := wr) (g := w.heap.size) k (relP (aheadB l) k) hO.res hO.below (by omega) ?_
      intro wz hz hbz
      have hs := hz.size
      obtain ⟨c0, c1, c2, c3, c4, c5, c6, c7, c8, c9, c10, c11⟩ := hz.rows
      exact bodyPost_ret (v := relV k (relP (aheadB l) k))
        (by simp [results, Tryd.results24, go_sem, hs, c0, c1, c2, c3, c4, c5, c6, c7, c8, c9, c10, c11]) rfl ⟨rfl, hbz⟩
end Go.Proofs.YtecpjeililiafaaDoor

/-
  The walk of the law SearchSays.
-/
namespace Go.Proofs.YtecpjeililiafaaDoor
open Go.RowKit
set_option maxRecDepth 20000

theorem searched_any {tv lv : Value} {ts : List Int} {l : List Ev} {w : World} (ht : NRd w w.heap.size tv ts) (hl : ERd w w.heap.size lv l) :
    Calls Tryd.prog 23 #[tv, lv] w fun e w' => Below w.heap.size w w' ∧ ∃ v, e = .returned (.tuple #[v, .int .i64 (searchE (callsOf ts l))]) ∧ (searchE (callsOf ts l) = 0 → CRd w' w'.heap.size v (callsOf ts l).1) := by
  have HC := Lib.hid (callsOf_any ht hl)
  obtain ⟨At, capt, rfl, -, -⟩ := ht.is
  obtain ⟨Al, capl, rfl, -, -⟩ := hl.is
  obtain ⟨tl, htl⟩ : ∃ tl, tl = ts.length := ⟨_, rfl⟩
  obtain ⟨L, hL⟩ : ∃ L, L = l.length := ⟨_, rfl⟩
  rw [← htl, ← hL] at HC
  rw [← htl, ← hL]
  clear ht hl htl hL
  have hse : searchE (callsOf ts l) = if (callsOf ts l).2.2 ≠ 0 then (callsOf ts l).2.2 else if 9 < (callsOf ts l).1.length then 2 else 0 := rfl
  generalize searchE (callsOf ts l) = E at hse ⊢
  go_enter Tryd.func23, Tryd.ntmps23
  go_wp2_with fail
  refine HC.out.mono ?_
  rintro e w1 ⟨cv, rfl, hb1, hc1⟩
  obtain ⟨Ac, capc, rfl, hc2, hc3⟩ := hc1.is
  unfold maxLen at hc3
  obtain ⟨m, hm⟩ : ∃ m, m = (callsOf ts l).1.length := ⟨_, rfl⟩
  have H1 := Lib.hid (And.intro hb1 hc1)
  rw [← hm] at H1 hse hc2 ⊢
  have HM := Lib.hid hm
  clear hb1 hc1 HC hm
  generalize ((callsOf ts l).2.1 : Int) = at1
  by_cases hE : (callsOf ts l).2.2 = 0
  · rw [if_neg (fun h => h hE)] at hse
    rw [hE]
    by_cases h9 : 9 < m
    · rw [if_pos h9] at hse
      subst hse
      have i9 : (9 : Int) < (m : Int) := by omega
      clear hE h9
      go_wp2_with fail
      go_ret2
      exact ⟨H1.out.1, _, rfl, fun h => absurd h (by decide)⟩
    · rw [if_neg h9] at hse
      subst hse
      have i9 : ¬ (9 : Int) < (m : Int) := by omega
      clear hE h9
      go_wp2_with fail
      go_ret2
      exact ⟨H1.out.1, _, rfl, H1.out.2⟩
  · rw [if_pos hE] at hse
    have hz : ((callsOf ts l).2.2 == 0) = false := by rw [beq_eq_false_iff_ne]; exact hE
    rw [← hse] at hz ⊢
    have HE := Lib.hid (show E ≠ 0 by rw [hse]; exact hE)
    clear hse hE
    go_wp2_with fail
    go_ret2
    exact ⟨H1.out.1, _, rfl, fun h => absurd h HE.out⟩

set_option maxHeartbeats 4000000 in
theorem ssays_any {tv lv sv : Value} {ts : List Int} {l : List Ev} {ws : List (Int × Int)} {w : World} (ht : NRd w w.heap.size tv ts) (hl : ERd w w.heap.size lv l) (hw : SRd w w.heap.size sv ws) (hp : Pow10 w.heap.size w) :
    Calls Tryd.prog 3 #[tv, lv, sv] w fun e w' => e = .returned (.bool true) ∧ Below w.heap.size w w' := by
  obtain ⟨At, capt, rfl, -, -⟩ := ht.is
  obtain ⟨Al, capl, rfl, hl1, hl2⟩ := hl.is
  obtain ⟨As, caps, rfl, -, -⟩ := hw.is
  unfold maxLen at hl2
  have HT := Lib.hid (And.intro ht (And.intro hl (And.intro hw hp)))
  have HR := Lib.hid (right_say ht hl hw)
  obtain ⟨tl, htl⟩ : ∃ tl, tl = ts.length := ⟨_, rfl⟩
  obtain ⟨L, hL⟩ : ∃ L, L = l.length := ⟨_, rfl⟩
  obtain ⟨M, hM⟩ : ∃ M, M = ws.length := ⟨_, rfl⟩
  rw [← htl, ← hL, ← hM] at HR HT
  rw [← htl, ← hL, ← hM]
  clear ht hl hw hp htl hL hM hl1
  go_enter Tryd.func3, Tryd.ntmps3
  go_wp2_with fail
  refine HR.out.mono ?_
  rintro e w1 ⟨hb1, rfl⟩
  have H1 := Lib.hid hb1
  have HF := Lib.hid (find_say ((HT.out.1.below H1.out).mono H1.out.size) ((HT.out.2.1.below H1.out).mono H1.out.size) ((HT.out.2.2.2.on H1.out).mono H1.out.size))
  clear hb1 HR
  go_wp2_with fail
  refine HF.out.mono ?_
  rintro e w2 ⟨hb2, v, rfl, hv⟩
  have H2 := Lib.hid (H1.out.trans (hb2.mono H1.out.size))
  have hv2 := hv.rd
  obtain ⟨Av, capv, rfl, -, -⟩ := hv2.is
  obtain ⟨k, hk⟩ : ∃ k, k = (foundL ts (callsOf ts l)).length := ⟨_, rfl⟩
  have HV2 := Lib.hid hv2
  rw [← hk] at HV2 ⊢
  have HK := Lib.hid hk
  have HS := Lib.hid (searched_any ((HT.out.1.below H2.out).mono H2.out.size) ((HT.out.2.1.below H2.out).mono H2.out.size))
  clear hb2 hv hv2 HF hk
  go_wp2_with fail
  refine HS.out.mono ?_
  rintro e w3 ⟨hb3, cv, rfl, hcv⟩
  have H3 := Lib.hid (H2.out.trans (hb3.mono H2.out.size))
  have HV3 := Lib.hid ((HV2.out.below hb3).mono hb3.size)
  by_cases hE : searchE (callsOf ts l) = 0
  · have hc3 := hcv hE
    obtain ⟨Ac, capc, rfl, -, -⟩ := hc3.is
    obtain ⟨q1, q2⟩ := search_ok.1 hE
    have hok := calls_callOk q1
    have hord := (calls_orderly q1).1
    have hty : ∀ t ∈ ts, 1 ≤ t ∧ t ≤ 5 := by
      have h1 := (calls_zero q1).1
      unfold typesB at h1
      simp only [Bool.and_eq_true, List.all_eq_true, decide_eq_true_eq] at h1
      exact h1.2
    have hrb := @rightB_iff ts l ws
    rw [hE] at hrb
    have hfo : foundO (aheadB (callsOf ts l).1) ts (callsOf ts l).1 = findG (befP (aheadB (callsOf ts l).1) (callsOf ts l).1) ts (callsOf ts l).1 (callsOf ts l).1.length (startP ts) := find_G _ _
    have hfb : foundB ts (callsOf ts l) = (foundO (aheadB (callsOf ts l).1) ts (callsOf ts l).1).isSome := by unfold foundB; rw [decide_eq_true hE]; rfl
    have hfl : foundL ts (callsOf ts l) = asSteps ((foundO (aheadB (callsOf ts l).1) ts (callsOf ts l).1).getD []) := by unfold foundL; rw [if_pos hE]
    rw [hfb]
    rw [hE]
    rw [hfl] at HV3
    rw [hfo] at HV3 ⊢
    generalize rightB ts (callsOf ts l) ws = rb at hrb ⊢
    generalize (callsOf ts l).1 = cs at hc3 q2 hok hord hrb HV3 ⊢
    obtain ⟨n, hn⟩ : ∃ n, n = cs.length := ⟨_, rfl⟩
    have HCR := Lib.hid (callrel_any hc3 (Nat.le_refl _) (by omega))
    have HC3 := Lib.hid hc3
    rw [← hn] at HCR HC3 ⊢
    have HN := Lib.hid (And.intro hn (And.intro q2 (And.intro hok (And.intro hord (And.intro hty hrb)))))
    clear hb3 hcv HS HV2 hE q1 q2 hok hord hty hrb hfo hfb hfl hc3 hn
    obtain ⟨r, hr⟩ : ∃ r, r = relP (aheadB cs) n := ⟨_, rfl⟩
    rw [← hr] at HCR
    have HRR := Lib.hid hr
    clear hr
    go_wp2_with fail
    refine HCR.out.mono ?_
    rintro e w4 ⟨rfl, hb4⟩
    have H4 := Lib.hid (H3.out.trans (hb4.mono H3.out.size))
    have HV4 := Lib.hid ((HV3.out.below hb4).mono hb4.size)
    have HC4 := Lib.hid ((HC3.out.below hb4).mono hb4.size)
    obtain ⟨W5, hW5⟩ : ∃ W5, W5 = w4.alloc (.cells (relCs n r) 36) := ⟨_, rfl⟩
    have hal : Below w4.heap.size w4 W5 := by rw [hW5]; exact (Below.refl _ _).alloc (Nat.le_refl _) _
    have hR5 : RelB W5 w4.heap.size n r := by rw [hW5]; exact Lies.new _ _ _
    have H5 := Lib.hid (H4.out.trans (hal.mono H4.out.size))
    have HV5 := Lib.hid ((HV4.out.below hal).mono hal.size)
    have HC5 := Lib.hid ((HC4.out.below hal).mono hal.size)
    have HR5 := Lib.hid hR5
    clear hb4 HCR HV3 HC3 HV4 HC4 hal hR5
    go_upto_region 7 with fail
    rw [← hW5]
    obtain ⟨P, hP⟩ : ∃ P, P = w4.heap.size := ⟨_, rfl⟩
    rw [← hP] at HR5 ⊢
    clear hW5 hP
    have c0 := HR5.out.size
    obtain ⟨c1, c2, c3, c4, c5, c6, c7, c8, c9, c10, c11, c12⟩ := HR5.out.rows
    have hirr : ∀ i, (r i).testBit i = false := fun i => by
      rw [HRR.out, relP_bit, ahead_irr HN.out.2.2.2.1, Bool.and_false]
    have HIR := Lib.hid hirr
    have HRO := Lib.hid (ro_any ((HT.out.1.below H5.out).mono H5.out.size) HC5.out ((HT.out.2.2.1.below H5.out).mono H5.out.size) (by have := HN.out.2.1; omega) hirr HN.out.2.2.2.2.1 (fun c hc => (HN.out.2.2.1 c hc).thing))
    rw [← HN.out.1] at HRO
    clear hirr
    go_wp2_with fail
    refine HRO.out.mono ?_
    rintro e w6 ⟨bb, rfl, hiff, hb6⟩
    have hbb : bb = rb := by
      rw [Bool.eq_iff_iff, hiff, HN.out.2.2.2.2.2, ← riteP_iff]
      rw [riteP_congr (q := aheadB cs) (fun i j hi hj => by rw [HRR.out, relP_bit, ← HN.out.1] at *; rw [decide_eq_true (by rw [HN.out.1]; exact hi), decide_eq_true (by rw [HN.out.1]; exact hj)]; rfl)]
      exact ⟨fun h => ⟨trivial, h⟩, fun h => h.2⟩
    subst hbb
    have H6 := Lib.hid (H5.out.trans (hb6.mono H5.out.size))
    have HV6 := Lib.hid ((HV5.out.below hb6).mono hb6.size)
    have HC6 := Lib.hid ((HC5.out.below hb6).mono hb6.size)
    have hR6 : RelB w6 P n r := Lies.below HR5.out hb6 (Lies.lt HR5.out)
    have HR6 := Lib.hid hR6
    clear hR6
    clear c0 c1 c2 c3 c4 c5 c6 c7 c8 c9 c10 c11 c12 hb6 hiff HRO HV5 HC5 HR5
    have c0 := HR6.out.size
    obtain ⟨c1, c2, c3, c4, c5, c6, c7, c8, c9, c10, c11, c12⟩ := HR6.out.rows
    have hal7 : Below w6.heap.size w6 (w6.alloc (.cells #[] 42)) := (Below.refl _ _).alloc (Nat.le_refl _) _
    have H7 := Lib.hid (H6.out.trans (hal7.mono H6.out.size))
    have HV7 := Lib.hid ((HV6.out.below hal7).mono hal7.size)
    have hb1 : ∀ k, k < cs.length → ∀ i, i < cs.length → ((befP (aheadB cs) cs k).testBit i = (r i).testBit k) := fun k hk i hi => by
      unfold befP
      rw [HRR.out, ← HN.out.1, relP_bit, relP_bit, Bool.and_comm (decide (k < n))]
    have hb2 : ∀ k i, cs.length ≤ i → (befP (aheadB cs) cs k).testBit i = false := fun k i hi => by
      unfold befP
      rw [relP_bit, decide_eq_false (p := i < cs.length) (by omega), Bool.and_false, Bool.false_and]
    have HLO := Lib.hid (lo_any (b := befP (aheadB cs) cs) (by have := HN.out.2.1; have := HN.out.1; omega) HIR.out HN.out.2.2.2.2.1 HN.out.2.2.1 hb1 hb2 cs.length [] (startP ts) Legal.start (by simp)
      ((HT.out.1.below H7.out).mono H7.out.size) ((HC6.out.below hal7).mono hal7.size) (own_empty w6).rd)
    rw [← HN.out.1] at HLO
    unfold LoPost at HLO
    clear hal7 hb1 hb2 HV6 HC6
    rw [← HN.out.1] at HV7
    cases hG : findG (befP (aheadB cs) cs) ts cs n (startP ts) with
    | none =>
      rw [hG] at HLO HV7
      simp only [Option.isSome_none]
      clear hG
      go_wp2_with fail
      refine HLO.out.mono ?_
      rintro e w8 ⟨hb8, ⟨-, rfl⟩ | ⟨S, a, N, c, h, -⟩⟩
      · have H8 := Lib.hid (H7.out.trans (hb8.mono H7.out.size))
        have HEQ := Lib.hid (eqSt_any ((HV7.out.below hb8).mono hb8.size) (LRd.nil w8 0))
        rw [show decide (asSteps ((none : Option (List (Nat × Int))).getD []) = []) = true from rfl] at HEQ
        clear c0 c1 c2 c3 c4 c5 c6 c7 c8 c9 c10 c11 c12 HLO HV7 HR6 hb8
        have hq1 := fun W : World => st_nil_ne W
        go_wp2_with fail
        refine HEQ.out.mono ?_
        rintro e w9 ⟨rfl, hb9⟩
        have H9 := Lib.hid (H8.out.trans (hb9.mono H8.out.size))
        clear hb9 HEQ
        go_wp2_with fail
        go_ret
        exact ⟨rfl, H9.out⟩
      · cases h
    | some S0 =>
      rw [hG] at HLO HV7
      simp only [Option.isSome_some]
      clear hG
      go_wp2_with fail
      refine HLO.out.mono ?_
      rintro e w8 ⟨hb8, ⟨h, -⟩ | ⟨S, a, N, c, h, rfl, hS⟩⟩
      · cases h
      · obtain rfl := Option.some.inj h
        rw [List.nil_append] at hS
        have H8 := Lib.hid (H7.out.trans (hb8.mono H7.out.size))
        have HEQ := Lib.hid (eqSt_any ((HV7.out.below hb8).mono hb8.size) hS)
        rw [show decide (asSteps ((some S0).getD []) = asSteps S0) = true from decide_eq_true rfl] at HEQ
        clear c0 c1 c2 c3 c4 c5 c6 c7 c8 c9 c10 c11 c12 HLO HV7 HR6 hb8 hS h
        have hq2 := fun (W : World) => st_some_ne a N c W
        go_wp2_with fail
        refine HEQ.out.mono ?_
        rintro e w9 ⟨rfl, hb9⟩
        have H9 := Lib.hid (H8.out.trans (hb9.mono H8.out.size))
        clear hb9 HEQ
        go_wp2_with fail
        go_ret
        exact ⟨rfl, H9.out⟩
  · obtain ⟨q1, q2, q3⟩ := say_bad (ts := ts) hE ws
    have hk0 : k = 0 := by rw [HK.out, q2]; rfl
    rw [q1, q3]
    have HKK := Lib.hid hk0
    subst hk0
    generalize hEE : searchE (callsOf ts l) = E at hE ⊢
    have HE := Lib.hid (show ¬ E = 0 from hE)
    have hz : (E == 0) = false := by rw [beq_eq_false_iff_ne]; exact hE
    clear q1 q2 q3 hEE hE hcv HS hb3
    go_wp2_with fail
    go_ret
    exact ⟨rfl, H3.out⟩
end Go.Proofs.YtecpjeililiafaaDoor
