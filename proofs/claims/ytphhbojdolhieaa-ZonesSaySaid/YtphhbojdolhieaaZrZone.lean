/-
  Contract of the reference's ZoneOf.
-/
import Derived.Test.YtphhbojdolhieaaZrZoneP
import Derived.Deep.Cut
namespace Go.Proofs.Ytphhbojdolhieaa
open Go.RowKit
set_option maxRecDepth 20000

/-- What ZoneOf keeps. -/
structure ZoS (w : World) (R Z : Nat) (v F L : Int) (wr : World) : Prop where
  below : Below w.heap.size w wr
  res : Lies wr R 35 #[.int .i64 0, .int .i64 0, .int .i64 0, .bool false]
  z : Lies wr Z 35 #[.int .i64 v, .int .i64 F, .int .i64 L, .bool false]
  lt : w.heap.size ≤ R ∧ R < Z
section
variable {w : World} {R Z : Nat} {v F L : Int} {wr w' : World}
theorem ZoS.next (h : ZoS w R Z v F L wr) (hb : Below wr.heap.size wr w') : ZoS w R Z v F L w' :=
  ⟨h.below.trans (hb.mono h.below.size), Lies.below h.res hb h.res.lt, Lies.below h.z hb h.z.lt, h.lt⟩
theorem ZoS.first (h : ZoS w R Z v F L wr) (x : Int) : ZoS w R Z v x L (wr.setCell ⟨Z, 1, none⟩ (.int .i64 x)) :=
  ⟨h.below.setCell (p := ⟨Z, 1, none⟩) (by have := h.lt; show w.heap.size ≤ Z; omega) _, Lies.far h.res (p := ⟨Z, 1, none⟩) (by have := h.lt; show R ≠ Z; omega) _, Lies.set_ h.z 1 _, h.lt⟩
theorem ZoS.last (h : ZoS w R Z v F L wr) (x : Int) : ZoS w R Z v F x (wr.setCell ⟨Z, 2, none⟩ (.int .i64 x)) :=
  ⟨h.below.setCell (p := ⟨Z, 2, none⟩) (by have := h.lt; show w.heap.size ≤ Z; omega) _, Lies.far h.res (p := ⟨Z, 2, none⟩) (by have := h.lt; show R ≠ Z; omega) _, Lies.set_ h.z 2 _, h.lt⟩
end
/-- What ZoneOf answers. -/
def ZonPost (w : World) (cs : List Cl) (v : Int) (e : Ending) (w' : World) : Prop :=
  ∃ (z : Zn) (b : Bool), e = .returned (.tuple #[znV z, .bool b]) ∧ Below w.heap.size w w' ∧ zoneV cs v = (if b = true then some z else none)
set_option maxHeartbeats 8000000 in
theorem zoneOf_any {N : Nat} (v : Int) {lv : Value} {cs : List Cl} {w : World} (hg : RegH N cs) (h : CRd w w.heap.size lv cs) :
    Calls Try.prog 10 #[lv, .int .i64 v] w (ZonPost w cs v) := by
  obtain ⟨A, cap, rfl, m1, m2⟩ := h.is
  unfold maxLen at m2
  obtain ⟨n, hn⟩ : ∃ n, n = cs.length := ⟨_, rfl⟩
  rw [← hn] at h m1 ⊢
  have hzz := zr_zone hg v
  rw [zr0_eq] at hzz
  simp only at hzz
  have HN := Lib.hid (And.intro hn (And.intro h hzz))
  have m3 : (n : Int) ≤ 9223372036854775807 := by omega
  have hs0 : ZoS w w.heap.size (w.heap.size + 1) v 200 (-1) ((w.alloc (.cells #[.int .i64 0, .int .i64 0, .int .i64 0, .bool false] 35)).alloc (.cells #[.int .i64 v, .int .i64 200, .int .i64 (-1), .bool false] 35)) := by
    have b0 : Below w.heap.size w (w.alloc (.cells #[.int .i64 0, .int .i64 0, .int .i64 0, .bool false] 35)) := (Below.refl _ _).alloc (Nat.le_refl _) _
    refine ⟨b0.alloc b0.size _, Lies.alloc (Lies.new _ _ _) _, ?_, Nat.le_refl _, by omega⟩
    have := Lies.new (w.alloc (.cells #[.int .i64 0, .int .i64 0, .int .i64 0, .bool false] 35)) 35 #[.int .i64 v, .int .i64 200, .int .i64 (-1), .bool false]
    rwa [show (w.alloc (.cells #[.int .i64 0, .int .i64 0, .int .i64 0, .bool false] 35)).heap.size = w.heap.size + 1 by simp] at this
  have HS := Lib.hid hs0
  clear h hn hg hzz m2 hs0
  go_enter Try.func10, Try.ntmps10
  go_upto_region 2 with fail
  change Code.wp _ _ _ _ ((w.alloc (.cells #[.int .i64 0, .int .i64 0, .int .i64 0, .bool false] 35)).alloc (.cells #[.int .i64 v, .int .i64 200, .int .i64 (-1), .bool false] 35))
  generalize (w.alloc (.cells #[.int .i64 0, .int .i64 0, .int .i64 0, .bool false] 35)).alloc (.cells #[.int .i64 v, .int .i64 200, .int .i64 (-1), .bool false] 35) = W2 at HS ⊢
  generalize w.heap.size + 1 = Z at HS ⊢
  obtain ⟨R, hR⟩ : ∃ R, R = w.heap.size := ⟨_, rfl⟩
  have HRR := Lib.hid hR
  rw [← hR] at HS ⊢
  clear hR
  have HWR := Lib.hid (writeOf_any v ((HN.out.2.1.below HS.out.below).mono HS.out.below.size))
  go_wp2_with fail
  refine HWR.out.mono ?_
  rintro e w3 ⟨rfl, hb3⟩
  have HS3 := Lib.hid (HS.out.next hb3)
  clear hb3 HWR HS
  obtain ⟨I, hI⟩ : ∃ I : Int, I = (((wAt v 0 cs).getD 0 : Nat) : Int) := ⟨_, rfl⟩
  obtain ⟨S, hS⟩ : ∃ S, S = (wAt v 0 cs).isSome := ⟨_, rfl⟩
  rw [← hI, ← hS]
  have HIS := Lib.hid (And.intro hI hS)
  clear hI hS
  go_upto_if 21 with fail
  go_cut [10] from 22 to 39 (fun b wx => b = .bool (zC1 cs v) ∧ ZoS w R Z v (zF1 cs v) (zL1 cs v) wx)
  case first =>
    have his := HIS.out
    cases hw : wAt v 0 cs with
    | none =>
      rw [hw] at his
      obtain rfl : S = false := his.2
      have HS4 := Lib.hid (show ZoS w R Z v (zF1 cs v) (zL1 cs v) w3 from by unfold zF1 zL1; rw [hw]; exact HS3.out)
      have HC := Lib.hid (show zC1 cs v = false from by unfold zC1; rw [hw])
      clear hw HS3 his
      go_wp2_with fail
      go_meet
      exact ⟨by rw [HC.out], HS4.out⟩
    | some i =>
      rw [hw] at his
      obtain rfl : S = true := his.2
      obtain rfl : I = (i : Int) := his.1
      obtain ⟨_, c, hc, hwc⟩ := wAt_some cs 0 i hw
      rw [Nat.sub_zero] at hc
      have e : cs.getD i default = c := by rw [List.getD_eq_getElem?_getD, hc]; rfl
      have q1 : zF1 cs v = if c.til = -1 then 200 else c.til := by unfold zF1; rw [hw]; simp only [e]
      have q2 : zL1 cs v = c.frm := by unfold zL1; rw [hw]; simp only [e]
      have q3 : zC1 cs v = (c.til != -1) := by unfold zC1; rw [hw]; simp only [e]
      have hi := (List.getElem?_eq_some_iff.1 hc).1
      have HQ := Lib.hid (And.intro q1 (And.intro q2 q3))
      obtain ⟨g, o, rfl, -, d0, d1, d2, d3, d4, d5, d6⟩ := (HN.out.2.1.below HS3.out.below).cl hc
      have i1 : (0 : Int) ≤ (i : Int) := by omega
      have i2 : (i : Int) < (n : Int) := by rw [HN.out.1]; omega
      have l2 := Lies.cell HS3.out.z 2
      have z2 := Lies.frozen HS3.out.z 2
      simp only [List.getElem?_toArray, List.getElem?_cons_zero, List.getElem?_cons_succ] at l2
      have HCC := Lib.hid hc
      generalize c.frm = cf at d5 HQ
      clear his hw hc e q1 q2 q3 hwc hi
      go_upto_region 7 with fail
      have HS4 := Lib.hid (HS3.out.last cf)
      clear l2 z2 d0 d1 d2 d3 d4 d5 d6
      change Code.wp _ _ _ _ (w3.setCell ⟨Z, 2, none⟩ (.int .i64 cf))
      generalize w3.setCell ⟨Z, 2, none⟩ (.int .i64 cf) = w4 at HS4 ⊢
      obtain ⟨g', o', hA, -, d0, d1, d2, d3, d4, d5, d6⟩ := (HN.out.2.1.below HS4.out.below).cl HCC.out
      injection hA with hA
      injection hA with hA1 hA2
      subst hA1 hA2
      have l1 := Lies.cell HS4.out.z 1
      have z1 := Lies.frozen HS4.out.z 1
      simp only [List.getElem?_toArray, List.getElem?_cons_zero, List.getElem?_cons_succ] at l1
      by_cases ht : c.til = -1
      · have q1 := HQ.out.1
        rw [if_pos ht] at q1
        have HQ1 := Lib.hid (And.intro q1 (And.intro HQ.out.2.1 (show zC1 cs v = false from by rw [HQ.out.2.2, ht]; rfl)))
        rw [ht] at d6
        clear ht q1 HQ
        go_wp2_with fail
        go_meet
        exact ⟨by rw [HQ1.out.2.2], by rw [HQ1.out.1, HQ1.out.2.1]; exact HS4.out⟩
      · have bt : (c.til != -1) = true := by rw [bne_iff_ne]; exact ht
        have q1 := HQ.out.1
        rw [if_neg ht] at q1
        have HQ1 := Lib.hid (And.intro q1 (And.intro HQ.out.2.1 (show zC1 cs v = true from by rw [HQ.out.2.2, bt])))
        generalize c.til = ct at d6 bt HQ1
        have HS5 := Lib.hid (HS4.out.first ct)
        clear ht q1 HQ
        go_wp2_with fail
        go_meet
        exact ⟨by rw [HQ1.out.2.2], by rw [HQ1.out.1, HQ1.out.2.1]; exact HS5.out⟩
  case rest =>
    obtain ⟨rfl, hz⟩ := hcut
    have HS4 := Lib.hid hz
    clear hz HS3
    go_upto_if 41 with fail
    go_cut [9] from 42 to 42 (fun a wx => a = .bool (S || decide (v = 0)) ∧ ZoS w R Z v (if v = 0 then -1 else zF1 cs v) (zL1 cs v) wx)
    case first =>
      have l1 := Lies.cell HS4.out.z 1
      have z1 := Lies.frozen HS4.out.z 1
      simp only [List.getElem?_toArray, List.getElem?_cons_zero, List.getElem?_cons_succ] at l1
      by_cases hv : v = 0
      · have bv : (v == 0) = true := beq_iff_eq.2 hv
        have HS5 := Lib.hid (show ZoS w R Z v (if v = 0 then -1 else zF1 cs v) (zL1 cs v) (wc.setCell ⟨Z, 1, none⟩ (.int .i64 (-1))) from by rw [if_pos hv]; exact HS4.out.first (-1))
        have HB := Lib.hid (show (S || decide (v = 0)) = true from by rw [decide_eq_true hv, Bool.or_true])
        clear hv
        go_wp2_with fail
        go_meet
        exact ⟨by rw [HB.out], HS5.out⟩
      · have bv : (v == 0) = false := beq_eq_false_iff_ne.2 hv
        have HS5 := Lib.hid (show ZoS w R Z v (if v = 0 then -1 else zF1 cs v) (zL1 cs v) wc from by rw [if_neg hv]; exact HS4.out)
        have HB := Lib.hid (show (S || decide (v = 0)) = S from by rw [decide_eq_false hv, Bool.or_false])
        clear hv
        go_wp2_with fail
        go_meet
        exact ⟨by rw [HB.out], HS5.out⟩
    case rest =>
      obtain ⟨rfl, hz⟩ := hcut
      have hzz := HN.out.2.2
      rw [← HIS.out.2] at hzz
      generalize (if v = 0 then (-1 : Int) else zF1 cs v) = F0 at hz hzz
      generalize zL1 cs v = L0 at hz hzz
      generalize zC1 cs v = cnt at hzz ⊢
      generalize (S || decide (v = 0)) = ok at hzz ⊢
      have HZZ := Lib.hid hzz
      have HS5 := Lib.hid hz
      clear hz hzz HS4
      go_wp2_with fail
      go_loopw [45, 7] (fun t r wr => ∃ k q : Nat, k ≤ n ∧ q ≤ k ∧ t = .int .i64 k ∧ r = .int .i64 q ∧ (0 < q ↔ zAny v (rds 0 (cs.take k)) = true) ∧ ZoS w R Z v (zF v (rds 0 (cs.take k)) F0) (zL v (rds 0 (cs.take k)) L0) wr) (fun t _ _ => n - (intOf t).toNat)
      case atStart => exact ⟨0, 0, by omega, by omega, rfl, rfl, by simp [rds, zAny], HS5.out⟩
      case round =>
        obtain ⟨k, q, hk, hqk, rfl, rfl, hany, hO⟩ := hrel
        by_cases hkn : k < n
        · obtain ⟨y, hy⟩ : ∃ y, cs[k]? = some y := ⟨_, List.getElem?_eq_getElem (by rw [← HN.out.1]; exact hkn)⟩
          have hsn := rds_snoc hy
          obtain ⟨g, o, rfl, -, d0, d1, d2, d3, d4, d5, d6⟩ := (HN.out.2.1.below hO.below).cl hy
          have hir := isR_iff (c := y)
          obtain ⟨y0, y1, y2, y3, y4, y5, y6⟩ := y
          simp only at d0 d1 d2 d3 d4 d5 d6 hir
          have i1 : (0 : Int) ≤ (k : Int) := by omega
          have i2 : (k : Int) < (n : Int) := by omega
          have hal : Below wr.heap.size wr (wr.alloc (.cells #[.int .i64 y0, .int .i64 y1, .int .i64 y2, .int .i64 y3, .int .i64 y4, .int .i64 y5, .int .i64 y6] 47)) := (Below.refl _ _).alloc (Nat.le_refl _) _
          have HO := Lib.hid (And.intro (hO.next hal) (And.intro (Lies.new wr 47 #[.int .i64 y0, .int .i64 y1, .int .i64 y2, .int .i64 y3, .int .i64 y4, .int .i64 y5, .int .i64 y6]) (show Z ≠ wr.heap.size by have := hO.z.lt; omega)))
          have HA := Lib.hid (And.intro hany (And.intro hsn hir))
          clear hO hany hsn hir hy hal
          go_upto_region 14 with fail
          clear d0 d1 d2 d3 d4 d5 d6
          change Code.wp _ _ _ _ (wr.alloc (.cells #[.int .i64 y0, .int .i64 y1, .int .i64 y2, .int .i64 y3, .int .i64 y4, .int .i64 y5, .int .i64 y6] 47))
          generalize wr.alloc (.cells #[.int .i64 y0, .int .i64 y1, .int .i64 y2, .int .i64 y3, .int .i64 y4, .int .i64 y5, .int .i64 y6] 47) = W4 at HO ⊢
          generalize wr.heap.size = X at HO ⊢
          have e2 := Lies.cell HO.out.2.1 2
          have e4 := Lies.cell HO.out.2.1 4
          have e5 := Lies.cell HO.out.2.1 5
          have e6 := Lies.cell HO.out.2.1 6
          simp only [List.getElem?_toArray, List.getElem?_cons_zero, List.getElem?_cons_succ] at e2 e4 e5 e6
          by_cases h2 : y2 = 2
          · by_cases h6 : y6 = -1
            · have hs := HA.out.2.1
              rw [if_neg (fun h => (HA.out.2.2.1 h).2 h6)] at hs
              have HH := Lib.hid hs
              subst h2 h6
              clear hs
              go_wp2_with fail
              go_roundw
              case rel => exact ⟨k + 1, q, by omega, by omega, by go_num, rfl, by rw [HH.out]; exact HA.out.1, by rw [HH.out]; exact HO.out.1⟩
              case measure => simp [intOf]; omega
            · have b6 : (y6 != -1) = true := by rw [bne_iff_ne]; exact h6
              have hs := HA.out.2.1
              rw [if_pos (HA.out.2.2.2 ⟨h2, h6⟩)] at hs
              subst h2
              by_cases h4 : y4 = v
              · subst h4
                have hF : zF y4 (rds 0 (cs.take (k + 1))) F0 = if y6 < zF y4 (rds 0 (cs.take k)) F0 then y6 else zF y4 (rds 0 (cs.take k)) F0 := by rw [hs, zF_snoc, if_pos (show (rdZ k ⟨y0, y1, 2, y3, y4, y5, y6⟩).value = y4 from rfl)]; rfl
                have hL : zL y4 (rds 0 (cs.take (k + 1))) L0 = if zL y4 (rds 0 (cs.take k)) L0 < y5 then y5 else zL y4 (rds 0 (cs.take k)) L0 := by rw [hs, zL_snoc, if_pos (show (rdZ k ⟨y0, y1, 2, y3, y4, y5, y6⟩).value = y4 from rfl)]; rfl
                have hA2 : zAny y4 (rds 0 (cs.take (k + 1))) = true := by rw [hs, zAny_snoc, Bool.or_eq_true]; exact .inr (beq_iff_eq.2 rfl)
                generalize zF y4 (rds 0 (cs.take k)) F0 = Fk at hF HO
                generalize zL y4 (rds 0 (cs.take k)) L0 = Lk at hL HO
                have HFL := Lib.hid (And.intro hF (And.intro hL hA2))
                clear hs hF hL hA2 h6
                have hwq : IntKind.i64.wrap ((q : Int) + 1) = (q : Int) + 1 := by rw [IntKind.wrap_i64]; omega
                have l1 := Lies.cell HO.out.1.z 1
                have l2 := Lies.cell HO.out.1.z 2
                have z1 := Lies.frozen HO.out.1.z
                simp only [List.getElem?_toArray, List.getElem?_cons_zero, List.getElem?_cons_succ] at l1 l2
                have HO1 := Lib.hid (And.intro (HO.out.1.first y6) (Lies.far HO.out.2.1 (p := ⟨Z, 1, none⟩) (fun e => HO.out.2.2 e.symm) (.int .i64 y6)))
                by_cases hf : y6 < Fk
                · by_cases hl : Lk < y5
                  · have HR := Lib.hid (show ZoS w R Z y4 (zF y4 (rds 0 (cs.take (k + 1))) F0) (zL y4 (rds 0 (cs.take (k + 1))) L0) ((W4.setCell ⟨Z, 1, none⟩ (.int .i64 y6)).setCell ⟨Z, 2, none⟩ (.int .i64 y5)) from by rw [HFL.out.1, if_pos hf, HFL.out.2.1, if_pos hl]; exact HO1.out.1.last y5)
                    go_wp2_with fail
                    go_roundw
                    case rel => exact ⟨k + 1, q + 1, by omega, by omega, by go_num, by go_num, ⟨fun _ => HFL.out.2.2, fun _ => by omega⟩, HR.out⟩
                    case measure => simp [intOf]; omega
                  · have HR := Lib.hid (show ZoS w R Z y4 (zF y4 (rds 0 (cs.take (k + 1))) F0) (zL y4 (rds 0 (cs.take (k + 1))) L0) (W4.setCell ⟨Z, 1, none⟩ (.int .i64 y6)) from by rw [HFL.out.1, if_pos hf, HFL.out.2.1, if_neg hl]; exact HO1.out.1)
                    go_wp2_with fail
                    go_roundw
                    case rel => exact ⟨k + 1, q + 1, by omega, by omega, by go_num, by go_num, ⟨fun _ => HFL.out.2.2, fun _ => by omega⟩, HR.out⟩
                    case measure => simp [intOf]; omega
                · by_cases hl : Lk < y5
                  · have HR := Lib.hid (show ZoS w R Z y4 (zF y4 (rds 0 (cs.take (k + 1))) F0) (zL y4 (rds 0 (cs.take (k + 1))) L0) (W4.setCell ⟨Z, 2, none⟩ (.int .i64 y5)) from by rw [HFL.out.1, if_neg hf, HFL.out.2.1, if_pos hl]; exact HO.out.1.last y5)
                    go_wp2_with fail
                    go_roundw
                    case rel => exact ⟨k + 1, q + 1, by omega, by omega, by go_num, by go_num, ⟨fun _ => HFL.out.2.2, fun _ => by omega⟩, HR.out⟩
                    case measure => simp [intOf]; omega
                  · have HR := Lib.hid (show ZoS w R Z y4 (zF y4 (rds 0 (cs.take (k + 1))) F0) (zL y4 (rds 0 (cs.take (k + 1))) L0) W4 from by rw [HFL.out.1, if_neg hf, HFL.out.2.1, if_neg hl]; exact HO.out.1)
                    go_wp2_with fail
                    go_roundw
                    case rel => exact ⟨k + 1, q + 1, by omega, by omega, by go_num, by go_num, ⟨fun _ => HFL.out.2.2, fun _ => by omega⟩, HR.out⟩
                    case measure => simp [intOf]; omega
              · have b4 : (y4 == v) = false := beq_eq_false_iff_ne.2 h4
                have HR := Lib.hid (show (0 < q ↔ zAny v (rds 0 (cs.take (k + 1))) = true) ∧ ZoS w R Z v (zF v (rds 0 (cs.take (k + 1))) F0) (zL v (rds 0 (cs.take (k + 1))) L0) W4 from by
                  rw [hs, zF_snoc, zL_snoc, zAny_snoc, if_neg (show ¬ (rdZ k ⟨y0, y1, 2, y3, y4, y5, y6⟩).value = v from h4), if_neg (show ¬ (rdZ k ⟨y0, y1, 2, y3, y4, y5, y6⟩).value = v from h4)]
                  rw [show ((rdZ k ⟨y0, y1, 2, y3, y4, y5, y6⟩).value == v) = false from b4, Bool.or_false]
                  exact ⟨HA.out.1, HO.out.1⟩)
                clear hs h4 h6
                go_wp2_with fail
                go_roundw
                case rel => exact ⟨k + 1, q, by omega, by omega, by go_num, rfl, HR.out.1, HR.out.2⟩
                case measure => simp [intOf]; omega
          · have b2 : (y2 == 2) = false := beq_eq_false_iff_ne.2 h2
            have hs := HA.out.2.1
            rw [if_neg (fun h => h2 (HA.out.2.2.1 h).1)] at hs
            have HH := Lib.hid hs
            clear hs h2
            go_wp2_with fail
            go_roundw
            case rel => exact ⟨k + 1, q, by omega, by omega, by go_num, rfl, by rw [HH.out]; exact HA.out.1, by rw [HH.out]; exact HO.out.1⟩
            case measure => simp [intOf]; omega
        · obtain rfl : n = k := by omega
          rw [List.take_of_length_le (by rw [← HN.out.1]; exact Nat.le_refl _)] at hO hany
          have HZ9 := Lib.hid (And.intro hany hO)
          have hzz := HZZ.out
          have HF := Lib.hid hzz
          generalize zF v (rds 0 cs) F0 = F at hO HF HZ9
          generalize zL v (rds 0 cs) L0 = L at hO HF HZ9
          clear hany hzz HZZ
          have l1 := Lies.cell hO.z 1
          have l2 := Lies.cell hO.z 2
          have l3 := Lies.cell hO.z 3
          have z1 := Lies.frozen hO.z
          simp only [List.getElem?_toArray, List.getElem?_cons_zero, List.getElem?_cons_succ] at l1 l2 l3
          have hO3 : Below w.heap.size w (wr.setCell ⟨Z, 3, none⟩ (.bool (decide (F < L)))) ∧ Lies (wr.setCell ⟨Z, 3, none⟩ (.bool (decide (F < L)))) R 35 #[.int .i64 0, .int .i64 0, .int .i64 0, .bool false] ∧ Lies (wr.setCell ⟨Z, 3, none⟩ (.bool (decide (F < L)))) Z 35 #[.int .i64 v, .int .i64 F, .int .i64 L, .bool (decide (F < L))] :=
            ⟨hO.below.setCell (p := ⟨Z, 3, none⟩) (by have := hO.lt; show w.heap.size ≤ Z; omega) _, Lies.far hO.res (p := ⟨Z, 3, none⟩) (by have := hO.lt; show R ≠ Z; omega) _, Lies.set_ hO.z 3 _⟩
          have HO3 := Lib.hid (And.intro hO3 hO.lt)
          clear hO hO3
          go_upto_region 22 with fail
          clear l1 l2 l3 z1
          change Code.wp _ _ _ _ (wr.setCell ⟨Z, 3, none⟩ (.bool (decide (F < L))))
          generalize wr.setCell ⟨Z, 3, none⟩ (.bool (decide (F < L))) = W3 at HO3 ⊢
          generalize decide (F < L) = fw at HO3 HF ⊢
          have l0 := Lies.cell HO3.out.1.2.2 0
          have l1 := Lies.cell HO3.out.1.2.2 1
          have l2 := Lies.cell HO3.out.1.2.2 2
          have l3 := Lies.cell HO3.out.1.2.2 3
          have r0 := Lies.cell HO3.out.1.2.1 0
          have r1 := Lies.cell HO3.out.1.2.1 1
          have r2 := Lies.cell HO3.out.1.2.1 2
          have r3 := Lies.cell HO3.out.1.2.1 3
          have rf := Lies.frozen HO3.out.1.2.1
          simp only [List.getElem?_toArray, List.getElem?_cons_zero, List.getElem?_cons_succ] at l0 l1 l2 l3 r0 r1 r2 r3
          have hL4 : Lies ((((W3.setCell ⟨R, 0, none⟩ (.int .i64 v)).setCell ⟨R, 1, none⟩ (.int .i64 F)).setCell ⟨R, 2, none⟩ (.int .i64 L)).setCell ⟨R, 3, none⟩ (.bool fw)) R 35 #[.int .i64 v, .int .i64 F, .int .i64 L, .bool fw] :=
            Lies.set_ (Lies.set_ (Lies.set_ (Lies.set_ HO3.out.1.2.1 0 _) 1 _) 2 _) 3 _
          have hB4 : Below w.heap.size w ((((W3.setCell ⟨R, 0, none⟩ (.int .i64 v)).setCell ⟨R, 1, none⟩ (.int .i64 F)).setCell ⟨R, 2, none⟩ (.int .i64 L)).setCell ⟨R, 3, none⟩ (.bool fw)) :=
            (((HO3.out.1.1.setCell (p := ⟨R, 0, none⟩) HO3.out.2.1 _).setCell (p := ⟨R, 1, none⟩) HO3.out.2.1 _).setCell (p := ⟨R, 2, none⟩) HO3.out.2.1 _).setCell (p := ⟨R, 3, none⟩) HO3.out.2.1 _
          have H4 := Lib.hid (And.intro hL4 hB4)
          clear hL4 hB4
          obtain ⟨pos, hpos⟩ : ∃ pos, pos = decide (0 < q) := ⟨_, rfl⟩
          have HPOS := Lib.hid hpos
          have hza : zAny v (rds 0 cs) = pos := by
            rw [hpos, Bool.eq_iff_iff, decide_eq_true_iff]
            exact HZ9.out.1.symm
          have hF9 := HF.out
          rw [hza] at hF9
          have HF9 := Lib.hid hF9
          have bq : decide ((0 : Int) < (q : Int)) = pos := by rw [hpos]; exact decide_eq_decide.2 (by omega)
          clear hpos hza hF9 HF HZ9
          cases ok
          · go_wp2_with fail
            generalize (((W3.setCell ⟨R, 0, none⟩ (.int .i64 v)).setCell ⟨R, 1, none⟩ (.int .i64 F)).setCell ⟨R, 2, none⟩ (.int .i64 L)).setCell ⟨R, 3, none⟩ (.bool fw) = W5 at H4 ⊢
            have q0 := Lies.cell H4.out.1 0
            have q1 := Lies.cell H4.out.1 1
            have q2 := Lies.cell H4.out.1 2
            have q3 := Lies.cell H4.out.1 3
            simp only [List.getElem?_toArray, List.getElem?_cons_zero, List.getElem?_cons_succ] at q0 q1 q2 q3
            exact bodyPost_ret (v := .tuple #[znV ⟨v, F, L, fw⟩, .bool false]) (by simp [results, Try.results10, go_sem, q0, q1, q2, q3]) rfl ⟨⟨v, F, L, fw⟩, false, rfl, H4.out.2, by rw [HF9.out]; rfl⟩
          · cases cnt
            · go_wp2_with fail
              generalize (((W3.setCell ⟨R, 0, none⟩ (.int .i64 v)).setCell ⟨R, 1, none⟩ (.int .i64 F)).setCell ⟨R, 2, none⟩ (.int .i64 L)).setCell ⟨R, 3, none⟩ (.bool fw) = W5 at H4 ⊢
              have q0 := Lies.cell H4.out.1 0
              have q1 := Lies.cell H4.out.1 1
              have q2 := Lies.cell H4.out.1 2
              have q3 := Lies.cell H4.out.1 3
              simp only [List.getElem?_toArray, List.getElem?_cons_zero, List.getElem?_cons_succ] at q0 q1 q2 q3
              exact bodyPost_ret (v := .tuple #[znV ⟨v, F, L, fw⟩, .bool (decide (0 < q))]) (by simp [results, Try.results10, go_sem, q0, q1, q2, q3]) rfl ⟨⟨v, F, L, fw⟩, (decide (0 < q)), rfl, H4.out.2, by rw [HF9.out]; simp [HPOS.out]⟩
            · go_wp2_with fail
              generalize (((W3.setCell ⟨R, 0, none⟩ (.int .i64 v)).setCell ⟨R, 1, none⟩ (.int .i64 F)).setCell ⟨R, 2, none⟩ (.int .i64 L)).setCell ⟨R, 3, none⟩ (.bool fw) = W5 at H4 ⊢
              have q0 := Lies.cell H4.out.1 0
              have q1 := Lies.cell H4.out.1 1
              have q2 := Lies.cell H4.out.1 2
              have q3 := Lies.cell H4.out.1 3
              simp only [List.getElem?_toArray, List.getElem?_cons_zero, List.getElem?_cons_succ] at q0 q1 q2 q3
              exact bodyPost_ret (v := .tuple #[znV ⟨v, F, L, fw⟩, .bool true]) (by simp [results, Try.results10, go_sem, q0, q1, q2, q3]) rfl ⟨⟨v, F, L, fw⟩, true, rfl, H4.out.2, by rw [HF9.out]; rfl⟩
end Go.Proofs.Ytphhbojdolhieaa
