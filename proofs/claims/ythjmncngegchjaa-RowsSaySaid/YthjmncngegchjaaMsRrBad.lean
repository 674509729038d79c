/-
  Joined by a program out of: RrBad.
-/
import Derived.Test.YthjmncngegchjaaMsRrStay
import Derived.Test.YthjmncngegchjaaMsBtwRef
import Derived.Test.YthjmncngegchjaaMgAE
import Derived.Test.YthjmncngegchjaaMgAJ
import Derived.Test.YthjmncngegchjaaMgAK
import Derived.Deep.QuietTactic
import Derived.BigQuiet

/-
  Contract of the reference's BadRows.
-/
namespace Go.Proofs.Ythjmncngegchjaa
open Go.RowKit
set_option maxRecDepth 20000

/-- What BadRows keeps. -/
structure BqS (w : World) (R : Nat) (A : Option Addr) (n cap : Nat) (cs : List Cl) (W : World) : Prop where
  below : Below w.heap.size w W
  res : Lies W R 28 #[.int .i64 0, .int .i64 0, .int .i64 0]
  cls : CRd W w.heap.size (.slice A n cap) cs
  lt : w.heap.size ≤ R
section
variable {w : World} {R : Nat} {A : Option Addr} {n cap : Nat} {cs : List Cl} {W w' : World}
theorem BqS.next (h : BqS w R A n cap cs W) (hb : Below W.heap.size W w') : BqS w R A n cap cs w' :=
  ⟨h.below.trans (hb.mono h.below.size), Lies.below h.res hb h.res.lt, h.cls.below (hb.mono h.below.size), h.lt⟩
theorem BqS.drewN (h : BqS w R A n cap cs W) (m : Nat) : BqS w R A n cap cs (W.drewN m) := h.next (belowN (Below.refl _ _) m)
theorem BqS.drew (h : BqS w R A n cap cs W) : BqS w R A n cap cs W.drew := h.next (Below.refl _ _).drew
theorem BqS.own (h : BqS w R A n cap cs W) : CRd W W.heap.size (.slice A n cap) cs := h.cls.mono h.below.size
end
set_option maxHeartbeats 16000000 in
theorem badRows_any {N : Nat} {lv : Value} {cs : List Cl} {w : World} (hg : QueH N cs) (h : CRd w w.heap.size lv cs) :
    Calls Try.prog 11 #[lv] w fun e w' => e = .returned (bzV (badQ cs)) ∧ Below w.heap.size w w' := by
  obtain ⟨A, cap, rfl, m1, m2⟩ := h.is
  unfold maxLen at m2
  obtain ⟨n, hn⟩ : ∃ n, n = cs.length := ⟨_, rfl⟩
  rw [← hn] at h m1 ⊢
  have HN := Lib.hid (And.intro hn hg)
  have m3 : (n : Int) ≤ 9223372036854775807 := by omega
  obtain ⟨Q, hQ⟩ : ∃ Q, Q = badQ cs := ⟨_, rfl⟩
  rw [← hQ]
  obtain ⟨E4, hE4⟩ : ∃ E, E = firstD 7 (emptyF (staysL cs)) 0 cs := ⟨_, rfl⟩
  obtain ⟨E3, hE3⟩ : ∃ E, E = orZ (ordQ cs (valsQ cs) (valsQ cs)) E4 := ⟨_, rfl⟩
  obtain ⟨E2, hE2⟩ : ∃ E, E = orZ (firstD 3 (earlyF cs) 0 cs) E3 := ⟨_, rfl⟩
  obtain ⟨E1, hE1⟩ : ∃ E, E = orZ (firstD 2 (twiceF cs) 0 cs) E2 := ⟨_, rfl⟩
  have hQ1 : Q = orZ (firstD 1 (strayF cs) 0 cs) E1 := by rw [hE1, hE2, hE3, hE4]; exact hQ
  have HQ1 := Lib.hid hQ1
  have HE1 := Lib.hid hE1
  have HE2 := Lib.hid hE2
  have HE3 := Lib.hid hE3
  have HE4 := Lib.hid hE4
  have hb0 : Below w.heap.size w (w.alloc (.cells #[.int .i64 0, .int .i64 0, .int .i64 0] 28)) := (Below.refl _ _).alloc (Nat.le_refl _) _
  obtain ⟨R, hR⟩ : ∃ R, R = w.heap.size := ⟨_, rfl⟩
  have HR := Lib.hid hR
  have HS := Lib.hid (show BqS w R A n cap cs (w.alloc (.cells #[.int .i64 0, .int .i64 0, .int .i64 0] 28)) by rw [hR]; exact ⟨hb0, Lies.new _ _ _, h.below hb0, Nat.le_refl _⟩)
  clear h hn hg m2 hQ hQ1 hE1 hE2 hE3 hE4 hb0 hR
  go_enter Try.func11, Try.ntmps11
  go_upto_region 1 with fail
  change Code.wp _ _ _ _ (w.alloc (.cells #[.int .i64 0, .int .i64 0, .int .i64 0] 28))
  rw [← HR.out]
  generalize w.alloc (.cells #[.int .i64 0, .int .i64 0, .int .i64 0] 28) = W1 at HS ⊢
  go_wp2_with fail
  go_loopw [25] (fun t wr => ∃ k : Nat, k ≤ n ∧ t = .int .i64 k ∧ Q = orZ (firstD 1 (strayF cs) k (cs.drop k)) E1 ∧ (∀ (i : Nat) (c : Cl), i < k → cs[i]? = some c → c.kind = 4 → c.res ≠ -1 → (pAt cs c.res).isSome = true) ∧ BqS w R A n cap cs wr) (fun t _ => n - (intOf t).toNat)
  case atStart => exact ⟨0, by omega, rfl, by rw [List.drop_zero]; exact HQ1.out, fun i c hi => by omega, HS.out⟩
  case round =>
    clear HS
    obtain ⟨k, hk, rfl, hq, hex, hO⟩ := hrel
    by_cases hkn : k < n
    · as_aux_lemma =>
        obtain ⟨y, hy⟩ : ∃ y, cs[k]? = some y := ⟨_, List.getElem?_eq_getElem (by rw [← HN.out.1]; exact hkn)⟩
        rw [drop_cl hy, firstD_cons] at hq
        obtain ⟨g, o, rfl, -, d0, d1, d2, d3, d4, d5, d6⟩ := hO.cls.cl hy
        have hkd := HN.out.2.kind (List.mem_of_getElem? hy)
        have hfr := HN.out.2.frm (List.mem_of_getElem? hy)
        have HY := Lib.hid hy
        obtain ⟨y0, y1, y2, y3, y4, y5, y6⟩ := y
        simp only at d0 d1 d2 d3 d4 d5 d6 hkd hq hfr
        have i1 : (0 : Int) ≤ (k : Int) := by omega
        have i2 : (k : Int) < (n : Int) := by omega
        have hal : Below wr.heap.size wr (wr.alloc (.cells #[.int .i64 y0, .int .i64 y1, .int .i64 y2, .int .i64 y3, .int .i64 y4, .int .i64 y5, .int .i64 y6] 49)) := (Below.refl _ _).alloc (Nat.le_refl _) _
        have HO := Lib.hid (And.intro (hO.next hal) (Lies.new wr 49 #[.int .i64 y0, .int .i64 y1, .int .i64 y2, .int .i64 y3, .int .i64 y4, .int .i64 y5, .int .i64 y6]))
        have HA := Lib.hid (And.intro hq (And.intro hkd hfr))
        clear hO hq hkd hfr hy hal
        go_upto_region 4 with fail
        clear d0 d1 d2 d3 d4 d5 d6
        change Code.wp _ _ _ _ (wr.alloc (.cells #[.int .i64 y0, .int .i64 y1, .int .i64 y2, .int .i64 y3, .int .i64 y4, .int .i64 y5, .int .i64 y6] 49))
        generalize wr.alloc (.cells #[.int .i64 y0, .int .i64 y1, .int .i64 y2, .int .i64 y3, .int .i64 y4, .int .i64 y5, .int .i64 y6] 49) = W4 at HO ⊢
        generalize wr.heap.size = X at HO ⊢
        have HEX := Lib.hid hex
        clear hex
        have e2 := Lies.cell HO.out.2 2
        have e4 := Lies.cell HO.out.2 4
        have e6 := Lies.cell HO.out.2 6
        simp only [List.getElem?_toArray, List.getElem?_cons_zero, List.getElem?_cons_succ] at e2 e4 e6
        by_cases h4 : y2 = 4
        · by_cases hm : y4 = -1
          · have hq := HA.out.1
            rw [if_neg (by intro h; have := h.2; unfold strayF at this; simp [hm] at this)] at hq
            have HH := Lib.hid hq
            subst h4 hm
            clear hq HA
            go_wp2_with fail
            go_roundw
            case rel => exact ⟨k + 1, by omega, by go_num, HH.out, fun i c hi hc q1 q2 => by
                rcases Nat.lt_or_ge i k with h | h
                · exact HEX.out i c h hc q1 q2
                · obtain rfl : i = k := by omega
                  rw [HY.out] at hc
                  injection hc with hc
                  subst hc
                  exact absurd rfl q2, HO.out.1⟩
            case measure => simp [intOf]; omega
          · have hpos : 0 < y4 := by
              have := HA.out.2.1
              omega
            have HP := Lib.hid (putBy_any y4 HO.out.1.own)
            subst h4
            go_wp2_with fail
            refine HP.out.mono ?_
            rintro e w5 ⟨rfl, hb5⟩
            rw [show fAt (isE y4) 0 cs = pAt cs y4 from rfl]
            have HS5 := Lib.hid (HO.out.1.next hb5)
            clear HP hb5 HO e2 e4 e6
            cases hp : pAt cs y4 with
            | none =>
              have hq := HA.out.1
              rw [if_pos ⟨by trivial, by unfold strayF; simp [hp, hm]⟩, orQ_hit (by decide)] at hq
              have HH := Lib.hid (show Q = ⟨1, k, 0⟩ from hq)
              clear hq HA hp HEX hm
              rw [show atI (none : Option Nat) = -1 from rfl]
              have r0 := Lies.cell HS5.out.res 0
              have r1 := Lies.cell HS5.out.res 1
              have r2 := Lies.cell HS5.out.res 2
              have rf := Lies.frozen HS5.out.res
              simp only [List.getElem?_toArray, List.getElem?_cons_zero, List.getElem?_cons_succ] at r0 r1 r2
              have hl := fill3_lies (a := .int .i64 1) (b := .int .i64 k) (c := .int .i64 0) HS5.out.res
              have hbb := fill3_below (a := .int .i64 1) (b := .int .i64 k) (c := .int .i64 0) HS5.out.below (g := R) HS5.out.lt
              have HLB := Lib.hid (And.intro hl hbb)
              clear hl hbb
              go_wp2_with fail
              change bodyPost _ _ _ _ _ (fill3 w5 R (.int .i64 1) (.int .i64 k) (.int .i64 0))
              generalize fill3 w5 R (.int .i64 1) (.int .i64 k) (.int .i64 0) = wz at HLB ⊢
              have q0 := Lies.cell HLB.out.1 0
              have q1 := Lies.cell HLB.out.1 1
              have q2 := Lies.cell HLB.out.1 2
              simp only [List.getElem?_toArray, List.getElem?_cons_zero, List.getElem?_cons_succ] at q0 q1 q2
              exact bodyPost_ret (v := bzV ⟨1, k, 0⟩) (by simp [results, Try.results11, go_sem, q0, q1, q2]) rfl ⟨by rw [HH.out], HLB.out.2⟩
            | some i =>
              have hq := HA.out.1
              rw [if_neg (by intro h; have := h.2; unfold strayF at this; simp [hp] at this)] at hq
              have HH := Lib.hid hq
              have HPP := Lib.hid hp
              clear hq HA hp
              rw [show atI (some i) = (i : Int) from rfl]
              have ineg : ¬ (i : Int) < 0 := by omega
              go_wp2_with fail
              go_roundw
              case rel => exact ⟨k + 1, by omega, by go_num, HH.out, fun i' c hi hc q1 q2 => by
                  rcases Nat.lt_or_ge i' k with h | h
                  · exact HEX.out i' c h hc q1 q2
                  · obtain rfl : i' = k := by omega
                    rw [HY.out] at hc
                    injection hc with hc
                    subst hc
                    rw [HPP.out]
                    rfl, HS5.out⟩
              case measure => simp [intOf]; omega
        · have b4 : (y2 == 4) = false := beq_eq_false_iff_ne.2 h4
          have hq := HA.out.1
          rw [if_neg (fun h => h4 h.1)] at hq
          have HH := Lib.hid hq
          have HK4 := Lib.hid h4
          clear hq HA h4
          go_wp2_with fail
          go_roundw
          case rel => exact ⟨k + 1, by omega, by go_num, HH.out, fun i c hi hc q1 q2 => by
              rcases Nat.lt_or_ge i k with h | h
              · exact HEX.out i c h hc q1 q2
              · obtain rfl : i = k := by omega
                rw [HY.out] at hc
                injection hc with hc
                subst hc
                exact absurd q1 HK4.out, HO.out.1⟩
          case measure => simp [intOf]; omega
    · obtain rfl : n = k := by omega
      rw [List.drop_eq_nil_of_le (by rw [← HN.out.1]; exact Nat.le_refl _)] at hq
      have HQN := Lib.hid (show Q = E1 from hq)
      have HON := Lib.hid (And.intro hex hO)
      clear hq hO hex
      have HEX1 := Lib.hid HON.out.1
      have HON2 := Lib.hid HON.out.2
      clear HON
      have HQ2 := Lib.hid (HQN.out.trans HE1.out)
      clear HQN
      go_wp2_with fail
      go_loopw [50] (fun t wr => ∃ k : Nat, k ≤ n ∧ t = .int .i64 k ∧ Q = orZ (firstD 2 (twiceF cs) k (cs.drop k)) E2 ∧ BqS w R A n cap cs wr) (fun t _ => n - (intOf t).toNat)
      case atStart => exact ⟨0, by omega, rfl, by rw [List.drop_zero]; exact HQ2.out, HON2.out⟩
      case round =>
        clear HON2
        obtain ⟨k, hk, rfl, hq, hO⟩ := hrel
        by_cases hkn : k < n
        · as_aux_lemma =>
            obtain ⟨y, hy⟩ : ∃ y, cs[k]? = some y := ⟨_, List.getElem?_eq_getElem (by rw [← HN.out.1]; exact hkn)⟩
            rw [drop_cl hy, firstD_cons] at hq
            obtain ⟨g, o, rfl, -, d0, d1, d2, d3, d4, d5, d6⟩ := hO.cls.cl hy
            have hkd := HN.out.2.kind (List.mem_of_getElem? hy)
            have hfr := HN.out.2.frm (List.mem_of_getElem? hy)
            have HY := Lib.hid hy
            obtain ⟨y0, y1, y2, y3, y4, y5, y6⟩ := y
            simp only at d0 d1 d2 d3 d4 d5 d6 hkd hq hfr
            have i1 : (0 : Int) ≤ (k : Int) := by omega
            have i2 : (k : Int) < (n : Int) := by omega
            have hal : Below wr.heap.size wr (wr.alloc (.cells #[.int .i64 y0, .int .i64 y1, .int .i64 y2, .int .i64 y3, .int .i64 y4, .int .i64 y5, .int .i64 y6] 49)) := (Below.refl _ _).alloc (Nat.le_refl _) _
            have HO := Lib.hid (And.intro (hO.next hal) (Lies.new wr 49 #[.int .i64 y0, .int .i64 y1, .int .i64 y2, .int .i64 y3, .int .i64 y4, .int .i64 y5, .int .i64 y6]))
            have HA := Lib.hid (And.intro hq (And.intro hkd hfr))
            clear hO hq hkd hfr hy hal
            go_upto_region 10 with fail
            clear d0 d1 d2 d3 d4 d5 d6
            change Code.wp _ _ _ _ (wr.alloc (.cells #[.int .i64 y0, .int .i64 y1, .int .i64 y2, .int .i64 y3, .int .i64 y4, .int .i64 y5, .int .i64 y6] 49))
            generalize wr.alloc (.cells #[.int .i64 y0, .int .i64 y1, .int .i64 y2, .int .i64 y3, .int .i64 y4, .int .i64 y5, .int .i64 y6] 49) = W4 at HO ⊢
            generalize wr.heap.size = X at HO ⊢
            have e2 := Lies.cell HO.out.2 2
            have e4 := Lies.cell HO.out.2 4
            have e6 := Lies.cell HO.out.2 6
            simp only [List.getElem?_toArray, List.getElem?_cons_zero, List.getElem?_cons_succ] at e2 e4 e6
            by_cases h4 : y2 = 4
            · by_cases hm : y4 = -1
              · have hq := HA.out.1
                rw [if_neg (by intro h; have := h.2; unfold twiceF tAt at this; simp [hm] at this)] at hq
                have HH := Lib.hid hq
                subst h4 hm
                clear hq HA
                go_wp2_with fail
                go_roundw
                case rel => exact ⟨k + 1, by omega, by go_num, HH.out, HO.out.1⟩
                case measure => simp [intOf]; omega
              · have hpos : 0 < y4 := by
                  have := HA.out.2.1
                  omega
                have HT := Lib.hid (takenBy_any y4 HO.out.1.own)
                have hts : ∃ t, tAt cs y4 = some t := by
                  cases hx : tAt cs y4 with
                  | some t => exact ⟨t, rfl⟩
                  | none =>
                    rcases tAt_none.1 hx with h | h
                    · exact absurd h hm
                    · have := h _ (List.mem_of_getElem? HY.out)
                      rw [show isD y4 ⟨y0, y1, y2, y3, y4, y5, y6⟩ = true from isD_iff.2 ⟨h4, rfl⟩] at this
                      cases this
                obtain ⟨t, ht⟩ := hts
                have hq := HA.out.1
                unfold twiceF at hq
                simp only [ht, Option.isSome_some, Option.getD_some, Bool.true_and, decide_eq_true_iff] at hq
                have HH0 := Lib.hid hq
                have HTT := Lib.hid ht
                have HM := Lib.hid hm
                subst h4
                clear hq HA ht
                go_wp2_with fail
                refine HT.out.mono ?_
                rintro e w5 ⟨rfl, hb5⟩
                rw [fAt_tAt HM.out, HTT.out, show atI (some t) = (t : Int) from rfl]
                have HS5 := Lib.hid (And.intro (HO.out.1.next hb5) (Lies.below HO.out.2 hb5 HO.out.2.lt))
                clear HT hb5 HO e2 e4 e6
                by_cases htk : t < k
                · have hq := HH0.out
                  rw [if_pos ⟨by trivial, htk⟩, orQ_hit (by decide)] at hq
                  have HH := Lib.hid hq
                  have zt : (t : Int) < (k : Int) := by omega
                  have e4 := Lies.cell HS5.out.2 4
                  simp only [List.getElem?_toArray, List.getElem?_cons_zero, List.getElem?_cons_succ] at e4
                  have HT2 := Lib.hid (takenBy_any y4 HS5.out.1.own)
                  clear hq HH0
                  go_wp2_with fail
                  refine HT2.out.mono ?_
                  rintro e w6 ⟨rfl, hb6⟩
                  rw [fAt_tAt HM.out, HTT.out, show atI (some t) = (t : Int) from rfl]
                  have HS6 := Lib.hid (HS5.out.1.next hb6)
                  clear HT2 hb6 HS5 e4 hm
                  have r0 := Lies.cell HS6.out.res 0
                  have r1 := Lies.cell HS6.out.res 1
                  have r2 := Lies.cell HS6.out.res 2
                  have rf := Lies.frozen HS6.out.res
                  simp only [List.getElem?_toArray, List.getElem?_cons_zero, List.getElem?_cons_succ] at r0 r1 r2
                  have hl := fill3_lies (a := .int .i64 2) (b := .int .i64 k) (c := .int .i64 t) HS6.out.res
                  have hbb := fill3_below (a := .int .i64 2) (b := .int .i64 k) (c := .int .i64 t) HS6.out.below (g := R) HS6.out.lt
                  have HLB := Lib.hid (And.intro hl hbb)
                  clear hl hbb
                  go_wp2_with fail
                  change bodyPost _ _ _ _ _ (fill3 w6 R (.int .i64 2) (.int .i64 k) (.int .i64 t))
                  generalize fill3 w6 R (.int .i64 2) (.int .i64 k) (.int .i64 t) = wz at HLB ⊢
                  have q0 := Lies.cell HLB.out.1 0
                  have q1 := Lies.cell HLB.out.1 1
                  have q2 := Lies.cell HLB.out.1 2
                  simp only [List.getElem?_toArray, List.getElem?_cons_zero, List.getElem?_cons_succ] at q0 q1 q2
                  exact bodyPost_ret (v := bzV ⟨2, k, t⟩) (by simp [results, Try.results11, go_sem, q0, q1, q2]) rfl ⟨by rw [HH.out], HLB.out.2⟩
                · have hq := HH0.out
                  rw [if_neg (fun h => htk h.2)] at hq
                  have HH := Lib.hid hq
                  have zt : ¬ (t : Int) < (k : Int) := by omega
                  clear hq HH0
                  go_wp2_with fail
                  go_roundw
                  case rel => exact ⟨k + 1, by omega, by go_num, HH.out, HS5.out.1⟩
                  case measure => simp [intOf]; omega
            · have b4 : (y2 == 4) = false := beq_eq_false_iff_ne.2 h4
              have hq := HA.out.1
              rw [if_neg (fun h => h4 h.1)] at hq
              have HH := Lib.hid hq
              clear hq HA h4
              go_wp2_with fail
              go_roundw
              case rel => exact ⟨k + 1, by omega, by go_num, HH.out, HO.out.1⟩
              case measure => simp [intOf]; omega
        · obtain rfl : n = k := by omega
          rw [List.drop_eq_nil_of_le (by rw [← HN.out.1]; exact Nat.le_refl _)] at hq
          have HQN := Lib.hid (show Q = E2 from hq)
          have HON := Lib.hid hO
          clear hq hO
          have HQ3 := Lib.hid (HQN.out.trans HE2.out)
          clear HQN
          go_wp2_with fail
          go_loopw [80] (fun t wr => ∃ k : Nat, k ≤ n ∧ t = .int .i64 k ∧ Q = orZ (firstD 3 (earlyF cs) k (cs.drop k)) E3 ∧ BqS w R A n cap cs wr) (fun t _ => n - (intOf t).toNat)
          case atStart => exact ⟨0, by omega, rfl, by rw [List.drop_zero]; exact HQ3.out, HON.out⟩
          case round =>
            clear HON
            obtain ⟨k, hk, rfl, hq, hO⟩ := hrel
            by_cases hkn : k < n
            · as_aux_lemma =>
                obtain ⟨y, hy⟩ : ∃ y, cs[k]? = some y := ⟨_, List.getElem?_eq_getElem (by rw [← HN.out.1]; exact hkn)⟩
                rw [drop_cl hy, firstD_cons] at hq
                obtain ⟨g, o, rfl, -, d0, d1, d2, d3, d4, d5, d6⟩ := hO.cls.cl hy
                have hkd := HN.out.2.kind (List.mem_of_getElem? hy)
                have hfr := HN.out.2.frm (List.mem_of_getElem? hy)
                have HY := Lib.hid hy
                obtain ⟨y0, y1, y2, y3, y4, y5, y6⟩ := y
                simp only at d0 d1 d2 d3 d4 d5 d6 hkd hq hfr
                have i1 : (0 : Int) ≤ (k : Int) := by omega
                have i2 : (k : Int) < (n : Int) := by omega
                have hal : Below wr.heap.size wr (wr.alloc (.cells #[.int .i64 y0, .int .i64 y1, .int .i64 y2, .int .i64 y3, .int .i64 y4, .int .i64 y5, .int .i64 y6] 49)) := (Below.refl _ _).alloc (Nat.le_refl _) _
                have HO := Lib.hid (And.intro (hO.next hal) (Lies.new wr 49 #[.int .i64 y0, .int .i64 y1, .int .i64 y2, .int .i64 y3, .int .i64 y4, .int .i64 y5, .int .i64 y6]))
                have HA := Lib.hid (And.intro hq (And.intro hkd hfr))
                clear hO hq hkd hfr hy hal
                go_upto_region 16 with fail
                clear d0 d1 d2 d3 d4 d5 d6
                change Code.wp _ _ _ _ (wr.alloc (.cells #[.int .i64 y0, .int .i64 y1, .int .i64 y2, .int .i64 y3, .int .i64 y4, .int .i64 y5, .int .i64 y6] 49))
                generalize wr.alloc (.cells #[.int .i64 y0, .int .i64 y1, .int .i64 y2, .int .i64 y3, .int .i64 y4, .int .i64 y5, .int .i64 y6] 49) = W4 at HO ⊢
                generalize wr.heap.size = X at HO ⊢
                by_cases h4 : y2 = 4
                · by_cases hm : y4 = -1
                  · have hq := HA.out.1
                    have hpn : pAt cs (-1) = none := pAt_none.2 fun c hc => by
                      rw [Bool.eq_false_iff]
                      intro he
                      have := HN.out.2.val hc he
                      omega
                    rw [if_neg (by intro h; have := h.2; unfold earlyF at this; simp [hm, hpn] at this)] at hq
                    have HH := Lib.hid hq
                    have e2 := Lies.cell HO.out.2 2
                    have e4 := Lies.cell HO.out.2 4
                    have e6 := Lies.cell HO.out.2 6
                    simp only [List.getElem?_toArray, List.getElem?_cons_zero, List.getElem?_cons_succ] at e2 e4 e6
                    subst h4 hm
                    clear hq HA hpn
                    go_quiet (fail)
                    go_wp2_with fail
                    go_roundw
                    case rel => exact ⟨k + 1, by omega, by go_num, HH.out, HO.out.1.drewN _⟩
                    case measure => simp [intOf]; omega
                  · have hpos : 0 < y4 := by
                      have := HA.out.2.1
                      omega
                    have hps := HEX1.out k _ hkn HY.out h4 hm
                    obtain ⟨i, hpi⟩ := Option.isSome_iff_exists.1 hps
                    obtain ⟨d, hd, hde, hpc⟩ := pAt_at hpi
                    have hq := HA.out.1
                    subst h4
                    have htil : y6 ≠ -1 := HN.out.2.ans _ (List.mem_of_getElem? HY.out) rfl
                    have hef : (earlyF cs k ⟨y0, y1, 4, y3, y4, y5, y6⟩) = ((i : Int), decide (y6 < d.frm)) := by
                      unfold earlyF precB
                      simp only [hpi, hpc, Option.isSome_some, Option.getD_some, Bool.true_and]
                      rw [show (y6 != -1) = true from bne_iff_ne.2 htil, Bool.true_and]
                    rw [hef] at hq
                    have HH0 := Lib.hid hq
                    have HPP := Lib.hid hpi
                    have HCL := Lib.hid (fun W (hW : BqS w R (some ⟨g, o, none⟩) n cap cs W ∧ Lies W X 49 #[.int .i64 y0, .int .i64 y1, .int .i64 4, .int .i64 y3, .int .i64 y4, .int .i64 y5, .int .i64 y6]) => at_cl hW.1.cls hd)
                    have li : (i : Int) < (n : Int) := by have := (List.getElem?_eq_some_iff.1 hd).1; have := HN.out.1; omega
                    have zi : (0 : Int) ≤ (i : Int) := by omega
                    obtain ⟨x0, x1, x2, x3, x4, x5, x6⟩ := d
                    simp only at HCL HH0
                    clear hq HA hps hpi hd hde hpc hef htil
                    refine wp_region_held_drew (S := fun W => BqS w R (some ⟨g, o, none⟩) n cap cs W ∧ Lies W X 49 #[.int .i64 y0, .int .i64 y1, .int .i64 4, .int .i64 y3, .int .i64 y4, .int .i64 y5, .int .i64 y6]) (by kernel_rfl) (And.intro HO.out.1.drew (Lies.drew HO.out.2)) (fun hHeld => ?_)
                    change wpAnyH _ _ _ _ _ 21 _ _ _
                    clear hHeld
                    have HS := Lib.hid (And.intro HO.out.1.drew (Lies.drew HO.out.2))
                    generalize W4.drew = WD at HS ⊢
                    refine takeAt 0 85 (oi := _) (v := ?_) rfl rfl (by kernel_rfl) (by kernel_rfl) (by kernel_rfl) (fun _ _ _ h => h) (by rfl) ?_ (HS.out) ?_
                    rotate_left
                    · (intro w0 hSw; go_simp; try with_reducible rfl)
                    simp only [Act.put, List.setIfInBounds_toArray, List.set_cons_zero, List.set_cons_succ]
                    refine takeAt 1 86 (oi := _) (v := ?_) rfl rfl (by kernel_rfl) (by kernel_rfl) (by kernel_rfl) (fun _ _ _ h => h) (by rfl) ?_ (HS.out) ?_
                    rotate_left
                    · (intro w0 hSw; have c2 := Lies.cell hSw.2 2; simp only [List.getElem?_toArray, List.getElem?_cons_zero, List.getElem?_cons_succ] at c2; go_simp; try with_reducible rfl)
                    simp only [Act.put, List.setIfInBounds_toArray, List.set_cons_zero, List.set_cons_succ]
                    refine takeAt 2 87 (oi := _) (v := ?_) rfl rfl (by kernel_rfl) (by kernel_rfl) (by kernel_rfl) (fun _ _ _ h => h) (by rfl) ?_ (HS.out) ?_
                    rotate_left
                    · (intro w0 hSw; go_simp; try with_reducible rfl)
                    simp only [Act.put, List.setIfInBounds_toArray, List.set_cons_zero, List.set_cons_succ]
                    refine takeAt 3 88 (oi := _) (v := ?_) rfl rfl (by kernel_rfl) (by kernel_rfl) (by kernel_rfl) (fun _ _ _ h => h) (by rfl) ?_ (HS.out) ?_
                    rotate_left
                    · (intro w0 hSw; go_simp; try with_reducible rfl)
                    simp only [Act.put, List.setIfInBounds_toArray, List.set_cons_zero, List.set_cons_succ]
                    refine takeAt 4 89 (oi := _) (v := ?_) rfl rfl (by kernel_rfl) (by kernel_rfl) (by kernel_rfl) (fun _ _ _ h => h) (by rfl) ?_ (HS.out) ?_
                    rotate_left
                    · (intro w0 hSw; go_simp; try with_reducible rfl)
                    simp only [Act.put, List.setIfInBounds_toArray, List.set_cons_zero, List.set_cons_succ]
                    refine takeAt 5 90 (oi := _) (v := ?_) rfl rfl (by kernel_rfl) (by kernel_rfl) (by kernel_rfl) (fun _ _ _ h => h) (by rfl) ?_ (HS.out) ?_
                    rotate_left
                    · (intro w0 hSw; have c4 := Lies.cell hSw.2 4; simp only [List.getElem?_toArray, List.getElem?_cons_zero, List.getElem?_cons_succ] at c4; go_simp; try with_reducible rfl)
                    simp only [Act.put, List.setIfInBounds_toArray, List.set_cons_zero, List.set_cons_succ]
                    refine takeAt 6 91 (oi := _) (v := ?_) rfl rfl (by kernel_rfl) (by kernel_rfl) (by kernel_rfl) (fun _ _ _ h => h) (by rfl) ?_ (HS.out) ?_
                    rotate_left
                    · (intro w0 hSw; go_simp; try with_reducible rfl)
                    simp only [Act.put, List.setIfInBounds_toArray, List.set_cons_zero, List.set_cons_succ]
                    refine takeAt 7 92 (oi := _) (v := ?_) rfl rfl (by kernel_rfl) (by kernel_rfl) (by kernel_rfl) (fun _ _ _ h => h) (by rfl) ?_ (HS.out) ?_
                    rotate_left
                    · (intro w0 hSw; go_simp; try with_reducible rfl)
                    simp only [Act.put, List.setIfInBounds_toArray, List.set_cons_zero, List.set_cons_succ]
                    refine takeAt 8 93 (oi := _) (v := ?_) rfl rfl (by kernel_rfl) (by kernel_rfl) (by kernel_rfl) (fun _ _ _ h => h) (by rfl) ?_ (HS.out) ?_
                    rotate_left
                    · (intro w0 hSw; go_simp; try with_reducible rfl)
                    simp only [Act.put, List.setIfInBounds_toArray, List.set_cons_zero, List.set_cons_succ]
                    refine takeAt 9 94 (oi := _) (v := ?_) rfl rfl (by kernel_rfl) (by kernel_rfl) (by kernel_rfl) (fun _ _ _ h => h) (by rfl) ?_ (HS.out) ?_
                    rotate_left
                    · (intro w0 hSw; go_simp; try with_reducible rfl)
                    simp only [Act.put, List.setIfInBounds_toArray, List.set_cons_zero, List.set_cons_succ]
                    refine takeAt 10 95 (oi := _) (v := ?_) rfl rfl (by kernel_rfl) (by kernel_rfl) (by kernel_rfl) (fun _ _ _ h => h) (by rfl) ?_ (HS.out) ?_
                    rotate_left
                    · (intro w0 hSw; have c6 := Lies.cell hSw.2 6; simp only [List.getElem?_toArray, List.getElem?_cons_zero, List.getElem?_cons_succ] at c6; go_simp; try with_reducible rfl)
                    simp only [Act.put, List.setIfInBounds_toArray, List.set_cons_zero, List.set_cons_succ]
                    refine takeAt 11 96 (oi := _) (v := ?_) rfl rfl (by kernel_rfl) (by kernel_rfl) (by kernel_rfl) (fun _ _ _ h => h) (by rfl) ?_ (HS.out) ?_
                    rotate_left
                    · (intro w0 hSw; go_simp; try with_reducible rfl)
                    simp only [Act.put, List.setIfInBounds_toArray, List.set_cons_zero, List.set_cons_succ]
                    refine takeAt 12 97 (oi := _) (v := ?_) rfl rfl (by kernel_rfl) (by kernel_rfl) (by kernel_rfl) (fun _ _ _ h => h) (by rfl) ?_ (HS.out) ?_
                    rotate_left
                    · (intro w0 hSw; go_simp; try with_reducible rfl)
                    simp only [Act.put, List.setIfInBounds_toArray, List.set_cons_zero, List.set_cons_succ]
                    refine takeAt 13 98 (oi := _) (v := ?_) rfl rfl (by kernel_rfl) (by kernel_rfl) (by kernel_rfl) (fun _ _ _ h => h) (by rfl) ?_ (HS.out) ?_
                    rotate_left
                    · (intro w0 hSw; go_simp; try with_reducible rfl)
                    simp only [Act.put, List.setIfInBounds_toArray, List.set_cons_zero, List.set_cons_succ]
                    refine takeAt 14 99 (oi := _) (v := ?_) rfl rfl (by kernel_rfl) (by kernel_rfl) (by kernel_rfl) (fun _ _ _ h => h) (by rfl) ?_ (HS.out) ?_
                    rotate_left
                    · (intro w0 hSw; have c4 := Lies.cell hSw.2 4; simp only [List.getElem?_toArray, List.getElem?_cons_zero, List.getElem?_cons_succ] at c4; go_simp; try with_reducible rfl)
                    simp only [Act.put, List.setIfInBounds_toArray, List.set_cons_zero, List.set_cons_succ]
                    refine wpAnyH_ready (rs := [15]) (by kernel_rfl) (by simp) ?_
                    refine AllReadyH.cons (o := _) rfl (fun K hK => ?_) AllReadyH.nil
                    go_simp
                    refine ((putBy_any y4 HS.out.1.own).mono ?_)
                    rintro e w9 ⟨rfl, hb9⟩
                    have HS2 := Lib.hid (And.intro (HS.out.1.next hb9) (Lies.below HS.out.2 hb9 HS.out.2.lt))
                    clear hb9 HS
                    have HS := HS2
                    clear HS2
                    rw [show fAt (isE y4) 0 cs = pAt cs y4 from rfl, HPP.out, show atI (some i) = (i : Int) from rfl]
                    refine hK.out _ _ HS.out (fun _ => ?_)
                    clear hK K
                    refine takeAt 16 101 (oi := _) (v := ?_) rfl rfl (by kernel_rfl) (by kernel_rfl) (by kernel_rfl) (fun _ _ _ h => h) (by rfl) ?_ (HS.out) ?_
                    rotate_left
                    · (intro w0 hSw; go_simp; try with_reducible rfl)
                    simp only [Act.put, List.setIfInBounds_toArray, List.set_cons_zero, List.set_cons_succ]
                    refine takeAt 17 102 (oi := _) (v := ?_) rfl rfl (by kernel_rfl) (by kernel_rfl) (by kernel_rfl) (fun _ _ _ h => h) (by rfl) ?_ (HS.out) ?_
                    rotate_left
                    · (intro w0 hSw; go_simp; try with_reducible rfl)
                    simp only [Act.put, List.setIfInBounds_toArray, List.set_cons_zero, List.set_cons_succ]
                    refine takeAt 18 103 (oi := _) (v := ?_) rfl rfl (by kernel_rfl) (by kernel_rfl) (by kernel_rfl) (fun _ _ _ h => h) (by rfl) ?_ (HS.out) ?_
                    rotate_left
                    · (intro w0 hSw; obtain ⟨d0, d1, d2, d3, d4, d5, d6⟩ := HCL.out w0 hSw; go_simp; try with_reducible rfl)
                    simp only [Act.put, List.setIfInBounds_toArray, List.set_cons_zero, List.set_cons_succ]
                    refine takeAt 19 104 (oi := _) (v := ?_) rfl rfl (by kernel_rfl) (by kernel_rfl) (by kernel_rfl) (fun _ _ _ h => h) (by rfl) ?_ (HS.out) ?_
                    rotate_left
                    · (intro w0 hSw; go_simp; try with_reducible rfl)
                    simp only [Act.put, List.setIfInBounds_toArray, List.set_cons_zero, List.set_cons_succ]
                    refine takeAt 20 105 (oi := _) (v := ?_) rfl rfl (by kernel_rfl) (by kernel_rfl) (by kernel_rfl) (fun _ _ _ h => h) (by rfl) ?_ (HS.out) ?_
                    rotate_left
                    · (intro w0 hSw; go_simp; try with_reducible rfl)
                    simp only [Act.put, List.setIfInBounds_toArray, List.set_cons_zero, List.set_cons_succ]
                    refine wpAnyH_done (by kernel_rfl) ?_ _
                    have HS5 := HS
                    clear HS HO HCL
                    by_cases hlt : y6 < x5
                    · have hq := HH0.out
                      rw [if_pos ⟨by trivial, decide_eq_true hlt⟩, orQ_hit (by decide)] at hq
                      have HH := Lib.hid hq
                      have dlt : decide (y6 < x5) = true := decide_eq_true hlt
                      have e4 := Lies.cell HS5.out.2 4
                      simp only [List.getElem?_toArray, List.getElem?_cons_zero, List.getElem?_cons_succ] at e4
                      have HP2 := Lib.hid (putBy_any y4 HS5.out.1.own)
                      clear hq HH0
                      go_wp2_with fail
                      refine HP2.out.mono ?_
                      rintro e w6 ⟨rfl, hb6⟩
                      rw [show fAt (isE y4) 0 cs = pAt cs y4 from rfl, HPP.out, show atI (some i) = (i : Int) from rfl]
                      have HS6 := Lib.hid (HS5.out.1.next hb6)
                      clear HP2 hb6 HS5 e4 hm
                      have r0 := Lies.cell HS6.out.res 0
                      have r1 := Lies.cell HS6.out.res 1
                      have r2 := Lies.cell HS6.out.res 2
                      have rf := Lies.frozen HS6.out.res
                      simp only [List.getElem?_toArray, List.getElem?_cons_zero, List.getElem?_cons_succ] at r0 r1 r2
                      have hl := fill3_lies (a := .int .i64 3) (b := .int .i64 k) (c := .int .i64 i) HS6.out.res
                      have hbb := fill3_below (a := .int .i64 3) (b := .int .i64 k) (c := .int .i64 i) HS6.out.below (g := R) HS6.out.lt
                      have HLB := Lib.hid (And.intro hl hbb)
                      clear hl hbb
                      go_wp2_with fail
                      change bodyPost _ _ _ _ _ (fill3 w6 R (.int .i64 3) (.int .i64 k) (.int .i64 i))
                      generalize fill3 w6 R (.int .i64 3) (.int .i64 k) (.int .i64 i) = wz at HLB ⊢
                      have q0 := Lies.cell HLB.out.1 0
                      have q1 := Lies.cell HLB.out.1 1
                      have q2 := Lies.cell HLB.out.1 2
                      simp only [List.getElem?_toArray, List.getElem?_cons_zero, List.getElem?_cons_succ] at q0 q1 q2
                      exact bodyPost_ret (v := bzV ⟨3, k, i⟩) (by simp [results, Try.results11, go_sem, q0, q1, q2]) rfl ⟨by rw [HH.out], HLB.out.2⟩
                    · have hq := HH0.out
                      rw [if_neg (fun h => hlt (of_decide_eq_true h.2))] at hq
                      have HH := Lib.hid hq
                      have dlt : decide (y6 < x5) = false := decide_eq_false hlt
                      clear hq HH0
                      go_wp2_with fail
                      go_roundw
                      case rel => exact ⟨k + 1, by omega, by go_num, HH.out, HS5.out.1⟩
                      case measure => simp [intOf]; omega
                · have b4 : (y2 == 4) = false := beq_eq_false_iff_ne.2 h4
                  have hq := HA.out.1
                  rw [if_neg (fun h => h4 h.1)] at hq
                  have HH := Lib.hid hq
                  have e2 := Lies.cell HO.out.2 2
                  have e4 := Lies.cell HO.out.2 4
                  have e6 := Lies.cell HO.out.2 6
                  simp only [List.getElem?_toArray, List.getElem?_cons_zero, List.getElem?_cons_succ] at e2 e4 e6
                  clear hq HA h4
                  go_quiet (fail)
                  go_wp2_with fail
                  go_roundw
                  case rel => exact ⟨k + 1, by omega, by go_num, HH.out, HO.out.1.drewN _⟩
                  case measure => simp [intOf]; omega
            · obtain rfl : n = k := by omega
              rw [List.drop_eq_nil_of_le (by rw [← HN.out.1]; exact Nat.le_refl _)] at hq
              have HQN := Lib.hid (show Q = E3 from hq)
              have HON := Lib.hid hO
              clear hq hO
              have HQ4 := Lib.hid (HQN.out.trans HE3.out)
              clear HQN HEX1
              go_wp2_with fail
              go_loopw [9] (fun a wr => ∃ m : Nat, 1 ≤ m ∧ m ≤ 1001 ∧ a = .int .i64 m ∧ Q = orZ (ordQ cs (valsQ cs) (valsFrom cs m)) E4 ∧ BqS w R A n cap cs wr) (fun a _ => 1001 - (intOf a).toNat)
              case atStart => exact ⟨1, by omega, by omega, rfl, by rw [vals_from HN.out.2]; exact HQ4.out, HON.out⟩
              case round =>
                clear HON
                obtain ⟨m, hm0, hm, rfl, hq, hO⟩ := hrel
                by_cases hmn : m < 1001
                · have k1 : (m : Int) ≤ 1000 := by omega
                  have HP := Lib.hid (putBy_any (m : Int) hO.own)
                  have HO := Lib.hid hO
                  have HQ := Lib.hid hq
                  clear hO hq
                  go_wp2_with fail
                  refine HP.out.mono ?_
                  rintro e w5 ⟨rfl, hb5⟩
                  rw [show fAt (isE (m : Int)) 0 cs = pAt cs (m : Int) from rfl]
                  have HO5 := Lib.hid (HO.out.next hb5)
                  clear HP hb5 HO
                  cases hp : pAt cs (m : Int) with
                  | none =>
                    have hq := HQ.out
                    rw [valsFrom_out hmn (by rw [hp]; rfl)] at hq
                    have HH := Lib.hid hq
                    clear hq hp HQ
                    rw [show atI (none : Option Nat) = -1 from rfl]
                    go_wp2_with fail
                    go_roundw
                    case rel => exact ⟨m + 1, by omega, by omega, by go_num, HH.out, HO5.out⟩
                    case measure => simp [intOf]; omega
                  | some i =>
                    obtain ⟨c, hc, hE, hpc⟩ := pAt_at hp
                    have hq := HQ.out
                    rw [valsFrom_in hmn (by rw [hp]; rfl), ordQ_cons, orQ_assoc] at hq
                    obtain ⟨g, o, rfl, -, d0, d1, d2, d3, d4, d5, d6⟩ := HO5.out.cls.cl hc
                    have li : (i : Int) < (n : Int) := by have := (List.getElem?_eq_some_iff.1 hc).1; have := HN.out.1; omega
                    have zi : (0 : Int) ≤ (i : Int) := by omega
                    have zin : ¬ (i : Int) < 0 := by omega
                    have HIC := Lib.hid (And.intro hc hpc)
                    have HQ2 := Lib.hid hq
                    clear hq hp HQ hE hc
                    rw [show atI (some i) = (i : Int) from rfl]
                    by_cases ht : c.til = -1
                    · have hno : ordRow cs (m : Int) (valsQ cs) = noBz := ordRow_no fun b _ => over_open (by rw [hpc]; exact ht) b
                      have hq := HQ2.out
                      rw [hno] at hq
                      have HH := Lib.hid (show Q = orZ (ordQ cs (valsQ cs) (valsFrom cs (m + 1))) E4 from hq)
                      rw [ht] at d6
                      clear hq hno ht HQ2 hpc d0 d1 d2 d3 d4 d5
                      go_wp2_with fail
                      go_roundw
                      case rel => exact ⟨m + 1, by omega, by omega, by go_num, HH.out, HO5.out⟩
                      case measure => simp [intOf]; omega
                    · have HTC := Lib.hid ht
                      have hq := HQ2.out
                      rw [← vals_from HN.out.2] at hq
                      obtain ⟨E5, hE5⟩ : ∃ E, E = orZ (ordQ cs (valsFrom cs 1) (valsFrom cs (m + 1))) E4 := ⟨_, rfl⟩
                      rw [← hE5] at hq
                      rw [vals_from HN.out.2] at hE5
                      have HE5 := Lib.hid hE5
                      have HQ5 := Lib.hid hq
                      have hTb : (c.til == -1) = false := beq_eq_false_iff_ne.2 ht
                      clear hq hE5 HQ2 hpc d0 d1 d2 d3 d4 d5 ht
                      go_upto_region 24 with fail
                      clear d6 hTb
                      go_wp2_with fail
                      go_loopw [11] (fun b wr => ∃ p : Nat, 1 ≤ p ∧ p ≤ 1001 ∧ b = .int .i64 p ∧ Q = orZ (ordRow cs (m : Int) (valsFrom cs p)) E5 ∧ BqS w R (some ⟨g, o, none⟩) n cap cs wr) (fun b _ => 1001 - (intOf b).toNat)
                      case atStart => exact ⟨1, by omega, by omega, rfl, HQ5.out, HO5.out⟩
                      case round =>
                        clear HO5
                        obtain ⟨p, hp0, hpp, rfl, hq, hO⟩ := hrel
                        by_cases hpn : p < 1001
                        · as_aux_lemma =>
                          have k2 : (p : Int) ≤ 1000 := by omega
                          have HP2 := Lib.hid (putBy_any (p : Int) hO.own)
                          have HO := Lib.hid hO
                          have HQ := Lib.hid hq
                          clear hO hq
                          go_wp2_with fail
                          refine HP2.out.mono ?_
                          rintro e w6 ⟨rfl, hb6⟩
                          rw [show fAt (isE (p : Int)) 0 cs = pAt cs (p : Int) from rfl]
                          have HO6 := Lib.hid (HO.out.next hb6)
                          clear HP2 hb6 HO
                          cases hpb : pAt cs (p : Int) with
                          | none =>
                            have hq := HQ.out
                            rw [valsFrom_out hpn (by rw [hpb]; rfl)] at hq
                            have HH := Lib.hid hq
                            clear hq hpb HQ
                            rw [show atI (none : Option Nat) = -1 from rfl]
                            go_upto_region 28 with fail
                            go_quiet (fail)
                            go_wp2_with fail
                            go_roundw
                            case rel => exact ⟨p + 1, by omega, by omega, by go_num, HH.out, HO6.out.drewN _⟩
                            case measure => simp [intOf]; omega
                          | some j =>
                            obtain ⟨d, hd, hdE, hdc⟩ := pAt_at hpb
                            have hq := HQ.out
                            rw [valsFrom_in hpn (by rw [hpb]; rfl), ordRow] at hq
                            have hov : overB cs (p : Int) (m : Int) = (((tAt cs (p : Int)).isSome && precB c d) && (!(tAt cs (m : Int)).isSome || precB (tC cs (p : Int)) (tC cs (m : Int)))) := by unfold overB; rw [HIC.out.2, hdc]
                            have hap := HN.out.2.apart c (List.mem_of_getElem? HIC.out.1) d (List.mem_of_getElem? hd)
                            have HQ2 := Lib.hid hq
                            have HCJ := Lib.hid (fun W (hW : BqS w R (some ⟨g, o, none⟩) n cap cs W) => at_cl hW.cls hd)
                            have HCI := Lib.hid (fun W (hW : BqS w R (some ⟨g, o, none⟩) n cap cs W) => at_cl hW.cls HIC.out.1)
                            have lj : (j : Int) < (n : Int) := by have := (List.getElem?_eq_some_iff.1 hd).1; have := HN.out.1; omega
                            have zj : (0 : Int) ≤ (j : Int) := by omega
                            clear hq hpb HQ hdE hdc
                            rw [show atI (some j) = (j : Int) from rfl]
                            by_cases hlt : d.frm < c.til
                            · have hno : overB cs (p : Int) (m : Int) = false := by
                                rw [hov, show precB c d = false from Bool.eq_false_iff.2 fun h => by have := (precB_iff.1 h).2; omega]
                                simp
                              have hq := HQ2.out
                              rw [hno, if_neg (by decide)] at hq
                              have HH := Lib.hid hq
                              obtain ⟨a0, a1, a2, a3, a4, a5, a6⟩ := HCI.out _ HO6.out
                              obtain ⟨d0, d1, d2, d3, d4, d5, d6⟩ := HCJ.out _ HO6.out
                              obtain ⟨F, hF⟩ : ∃ F, F = d.frm := ⟨_, rfl⟩
                              obtain ⟨T, hT⟩ : ∃ T, T = c.til := ⟨_, rfl⟩
                              rw [← hF] at hlt d5
                              rw [← hT] at hlt a6
                              have dlt : decide (F < T) = true := decide_eq_true hlt
                              clear hq hno hov hap hF hT HQ2 HCI HCJ a0 a1 a2 a3 a4 a5 d0 d1 d2 d3 d4 d6 hd
                              go_upto_region 28 with fail
                              go_quiet (fail)
                              clear d5 a6
                              go_wp2_with fail
                              go_roundw
                              case rel => exact ⟨p + 1, by omega, by omega, by go_num, HH.out, HO6.out.drewN _⟩
                              case measure => simp [intOf]; omega
                            · have hpr : precB c d = true := precB_iff.2 ⟨HTC.out, by omega⟩
                              rw [hpr, Bool.and_true] at hov
                              obtain ⟨T, hT⟩ : ∃ T, T = atI (tAt cs (p : Int)) := ⟨_, rfl⟩
                              have HTP := Lib.hid hT
                              have HOV := Lib.hid hov
                              obtain ⟨F, hF⟩ : ∃ F, F = d.frm := ⟨_, rfl⟩
                              obtain ⟨U, hU⟩ : ∃ U, U = c.til := ⟨_, rfl⟩
                              rw [← hF, ← hU] at hlt
                              rw [← hF] at HCJ
                              rw [← hU] at HCI
                              have dlt : decide (F < U) = false := decide_eq_false hlt
                              clear hpr hov hap hT hd hF hU
                              go_upto_region 28 with fail
                              refine wp_region_held_drew (S := fun W => BqS w R (some ⟨g, o, none⟩) n cap cs W) (by kernel_rfl) (HO6.out.drew) (fun hHeld => ?_)
                              change wpAnyH _ _ _ _ _ 21 _ _ _
                              clear hHeld
                              have HS := Lib.hid (HO6.out.drew)
                              generalize w6.drew = WD at HS ⊢
                              refine takeAt 0 137 (oi := _) (v := ?_) rfl rfl (by kernel_rfl) (by kernel_rfl) (by kernel_rfl) (fun _ _ _ h => h) (by rfl) ?_ (HS.out) ?_
                              rotate_left
                              · (intro w0 hSw; go_simp; try with_reducible rfl)
                              simp only [Act.put, List.setIfInBounds_toArray, List.set_cons_zero, List.set_cons_succ]
                              refine takeAt 1 138 (oi := _) (v := ?_) rfl rfl (by kernel_rfl) (by kernel_rfl) (by kernel_rfl) (fun _ _ _ h => h) (by rfl) ?_ (HS.out) ?_
                              rotate_left
                              · (intro w0 hSw; go_simp; try with_reducible rfl)
                              simp only [Act.put, List.setIfInBounds_toArray, List.set_cons_zero, List.set_cons_succ]
                              refine takeAt 2 139 (oi := _) (v := ?_) rfl rfl (by kernel_rfl) (by kernel_rfl) (by kernel_rfl) (fun _ _ _ h => h) (by rfl) ?_ (HS.out) ?_
                              rotate_left
                              · (intro w0 hSw; go_simp; try with_reducible rfl)
                              simp only [Act.put, List.setIfInBounds_toArray, List.set_cons_zero, List.set_cons_succ]
                              refine takeAt 3 140 (oi := _) (v := ?_) rfl rfl (by kernel_rfl) (by kernel_rfl) (by kernel_rfl) (fun _ _ _ h => h) (by rfl) ?_ (HS.out) ?_
                              rotate_left
                              · (intro w0 hSw; go_simp; try with_reducible rfl)
                              simp only [Act.put, List.setIfInBounds_toArray, List.set_cons_zero, List.set_cons_succ]
                              refine takeAt 4 141 (oi := _) (v := ?_) rfl rfl (by kernel_rfl) (by kernel_rfl) (by kernel_rfl) (fun _ _ _ h => h) (by rfl) ?_ (HS.out) ?_
                              rotate_left
                              · (intro w0 hSw; go_simp; try with_reducible rfl)
                              simp only [Act.put, List.setIfInBounds_toArray, List.set_cons_zero, List.set_cons_succ]
                              refine takeAt 5 142 (oi := _) (v := ?_) rfl rfl (by kernel_rfl) (by kernel_rfl) (by kernel_rfl) (fun _ _ _ h => h) (by rfl) ?_ (HS.out) ?_
                              rotate_left
                              · (intro w0 hSw; go_simp; try with_reducible rfl)
                              simp only [Act.put, List.setIfInBounds_toArray, List.set_cons_zero, List.set_cons_succ]
                              refine takeAt 6 143 (oi := _) (v := ?_) rfl rfl (by kernel_rfl) (by kernel_rfl) (by kernel_rfl) (fun _ _ _ h => h) (by rfl) ?_ (HS.out) ?_
                              rotate_left
                              · (intro w0 hSw; go_simp; try with_reducible rfl)
                              simp only [Act.put, List.setIfInBounds_toArray, List.set_cons_zero, List.set_cons_succ]
                              refine takeAt 7 144 (oi := _) (v := ?_) rfl rfl (by kernel_rfl) (by kernel_rfl) (by kernel_rfl) (fun _ _ _ h => h) (by rfl) ?_ (HS.out) ?_
                              rotate_left
                              · (intro w0 hSw; obtain ⟨d0, d1, d2, d3, d4, d5, d6⟩ := HCJ.out w0 hSw; go_simp; try with_reducible rfl)
                              simp only [Act.put, List.setIfInBounds_toArray, List.set_cons_zero, List.set_cons_succ]
                              refine takeAt 8 145 (oi := _) (v := ?_) rfl rfl (by kernel_rfl) (by kernel_rfl) (by kernel_rfl) (fun _ _ _ h => h) (by rfl) ?_ (HS.out) ?_
                              rotate_left
                              · (intro w0 hSw; go_simp; try with_reducible rfl)
                              simp only [Act.put, List.setIfInBounds_toArray, List.set_cons_zero, List.set_cons_succ]
                              refine takeAt 9 146 (oi := _) (v := ?_) rfl rfl (by kernel_rfl) (by kernel_rfl) (by kernel_rfl) (fun _ _ _ h => h) (by rfl) ?_ (HS.out) ?_
                              rotate_left
                              · (intro w0 hSw; go_simp; try with_reducible rfl)
                              simp only [Act.put, List.setIfInBounds_toArray, List.set_cons_zero, List.set_cons_succ]
                              refine takeAt 10 147 (oi := _) (v := ?_) rfl rfl (by kernel_rfl) (by kernel_rfl) (by kernel_rfl) (fun _ _ _ h => h) (by rfl) ?_ (HS.out) ?_
                              rotate_left
                              · (intro w0 hSw; go_simp; try with_reducible rfl)
                              simp only [Act.put, List.setIfInBounds_toArray, List.set_cons_zero, List.set_cons_succ]
                              refine takeAt 11 148 (oi := _) (v := ?_) rfl rfl (by kernel_rfl) (by kernel_rfl) (by kernel_rfl) (fun _ _ _ h => h) (by rfl) ?_ (HS.out) ?_
                              rotate_left
                              · (intro w0 hSw; go_simp; try with_reducible rfl)
                              simp only [Act.put, List.setIfInBounds_toArray, List.set_cons_zero, List.set_cons_succ]
                              refine takeAt 12 149 (oi := _) (v := ?_) rfl rfl (by kernel_rfl) (by kernel_rfl) (by kernel_rfl) (fun _ _ _ h => h) (by rfl) ?_ (HS.out) ?_
                              rotate_left
                              · (intro w0 hSw; obtain ⟨d0, d1, d2, d3, d4, d5, d6⟩ := HCI.out w0 hSw; go_simp; try with_reducible rfl)
                              simp only [Act.put, List.setIfInBounds_toArray, List.set_cons_zero, List.set_cons_succ]
                              refine takeAt 13 150 (oi := _) (v := ?_) rfl rfl (by kernel_rfl) (by kernel_rfl) (by kernel_rfl) (fun _ _ _ h => h) (by rfl) ?_ (HS.out) ?_
                              rotate_left
                              · (intro w0 hSw; go_simp; try with_reducible rfl)
                              simp only [Act.put, List.setIfInBounds_toArray, List.set_cons_zero, List.set_cons_succ]
                              refine takeAt 14 151 (oi := _) (v := ?_) rfl rfl (by kernel_rfl) (by kernel_rfl) (by kernel_rfl) (fun _ _ _ h => h) (by rfl) ?_ (HS.out) ?_
                              rotate_left
                              · (intro w0 hSw; go_simp; try with_reducible rfl)
                              simp only [Act.put, List.setIfInBounds_toArray, List.set_cons_zero, List.set_cons_succ]
                              refine takeAt 15 152 (oi := _) (v := ?_) rfl rfl (by kernel_rfl) (by kernel_rfl) (by kernel_rfl) (fun _ _ _ h => h) (by rfl) ?_ (HS.out) ?_
                              rotate_left
                              · (intro w0 hSw; go_simp; try with_reducible rfl)
                              simp only [Act.put, List.setIfInBounds_toArray, List.set_cons_zero, List.set_cons_succ]
                              refine takeAt 16 153 (oi := _) (v := ?_) rfl rfl (by kernel_rfl) (by kernel_rfl) (by kernel_rfl) (fun _ _ _ h => h) (by rfl) ?_ (HS.out) ?_
                              rotate_left
                              · (intro w0 hSw; go_simp; try with_reducible rfl)
                              simp only [Act.put, List.setIfInBounds_toArray, List.set_cons_zero, List.set_cons_succ]
                              refine takeAt 17 154 (oi := _) (v := ?_) rfl rfl (by kernel_rfl) (by kernel_rfl) (by kernel_rfl) (fun _ _ _ h => h) (by rfl) ?_ (HS.out) ?_
                              rotate_left
                              · (intro w0 hSw; go_simp; try with_reducible rfl)
                              simp only [Act.put, List.setIfInBounds_toArray, List.set_cons_zero, List.set_cons_succ]
                              refine wpAnyH_ready (rs := [18]) (by kernel_rfl) (by simp) ?_
                              refine AllReadyH.cons (o := _) rfl (fun K hK => ?_) AllReadyH.nil
                              go_simp
                              refine ((takenBy_any (p : Int) HS.out.own).mono ?_)
                              rintro e w9 ⟨rfl, hb9⟩
                              have HS2 := Lib.hid (HS.out.next hb9)
                              clear hb9 HS
                              have HS := HS2
                              clear HS2
                              rw [fAt_tAt (by omega), ← HTP.out]
                              refine hK.out _ _ HS.out (fun _ => ?_)
                              clear hK K
                              refine takeAt 19 156 (oi := _) (v := ?_) rfl rfl (by kernel_rfl) (by kernel_rfl) (by kernel_rfl) (fun _ _ _ h => h) (by rfl) ?_ (HS.out) ?_
                              rotate_left
                              · (intro w0 hSw; go_simp; try with_reducible rfl)
                              simp only [Act.put, List.setIfInBounds_toArray, List.set_cons_zero, List.set_cons_succ]
                              refine takeAt 20 157 (oi := _) (v := ?_) rfl rfl (by kernel_rfl) (by kernel_rfl) (by kernel_rfl) (fun _ _ _ h => h) (by rfl) ?_ (HS.out) ?_
                              rotate_left
                              · (intro w0 hSw; go_simp; try with_reducible rfl)
                              simp only [Act.put, List.setIfInBounds_toArray, List.set_cons_zero, List.set_cons_succ]
                              refine wpAnyH_done (by kernel_rfl) ?_ _
                              have HO7 := HS
                              clear HS HO6 HCI HCJ
                              cases htp : tAt cs (p : Int) with
                              | none =>
                                have hq := HQ2.out
                                rw [HOV.out, htp] at hq
                                have hq2 : Q = orZ (ordRow cs (m : Int) (valsFrom cs (p + 1))) E5 := by
                                  simpa using hq
                                have HH := Lib.hid hq2
                                have hT := HTP.out
                                rw [htp] at hT
                                obtain rfl : T = -1 := hT
                                clear hq hq2 htp HTP HOV HQ2
                                go_wp2_with fail
                                go_roundw
                                case rel => exact ⟨p + 1, by omega, by omega, by go_num, HH.out, HO7.out⟩
                                case measure => simp [intOf]; omega
                              | some tb =>
                                obtain ⟨y, hy, hyD, hyc⟩ := tAt_at htp
                                have hT := HTP.out
                                rw [htp] at hT
                                obtain rfl : T = (tb : Int) := hT
                                have hyt : y.til ≠ -1 := HN.out.2.ans y (List.mem_of_getElem? hy) (isD_iff.1 hyD).1
                                have ztb : ¬ (tb : Int) < 0 := by omega
                                have zt0 : (0 : Int) ≤ (tb : Int) := by omega
                                have ltb : (tb : Int) < (n : Int) := by have := (List.getElem?_eq_some_iff.1 hy).1; have := HN.out.1; omega
                                have HT2 := Lib.hid (takenBy_any (m : Int) HO7.out.own)
                                have HTB := Lib.hid htp
                                have HYC := Lib.hid (And.intro hy (And.intro hyc hyt))
                                clear htp hy hyD hyc hyt
                                go_wp2_with fail
                                refine HT2.out.mono ?_
                                rintro e w8 ⟨rfl, hb8⟩
                                rw [fAt_tAt (by omega)]
                                have HO8 := Lib.hid (HO7.out.next hb8)
                                clear HT2 hb8 HO7
                                cases hta : tAt cs (m : Int) with
                                | none =>
                                  have hq := HQ2.out
                                  rw [HOV.out, HTB.out, hta] at hq
                                  have hq2 : Q = ⟨6, (m : Int), (p : Int)⟩ := by
                                    rw [if_pos (by simp)] at hq
                                    rw [hq, orQ_hit (by decide)]
                                  have HH := Lib.hid hq2
                                  clear hq hq2 hta HOV HQ2 HTB HYC HTP
                                  rw [show atI (none : Option Nat) = -1 from rfl]
                                  go_upto_region 30 with fail
                                  go_quiet (fail)
                                  have HO9 := Lib.hid (HO8.out.drewN nq)
                                  clear HO8
                                  generalize w8.drewN nq = WQ at HO9 ⊢
                                  have r0 := Lies.cell HO9.out.res 0
                                  have r1 := Lies.cell HO9.out.res 1
                                  have r2 := Lies.cell HO9.out.res 2
                                  have rf := Lies.frozen HO9.out.res
                                  simp only [List.getElem?_toArray, List.getElem?_cons_zero, List.getElem?_cons_succ] at r0 r1 r2
                                  have hl := fill3_lies (a := .int .i64 6) (b := .int .i64 m) (c := .int .i64 p) HO9.out.res
                                  have hbb := fill3_below (a := .int .i64 6) (b := .int .i64 m) (c := .int .i64 p) HO9.out.below (g := R) HO9.out.lt
                                  have HLB := Lib.hid (And.intro hl hbb)
                                  clear hl hbb
                                  go_wp2_with fail
                                  change bodyPost _ _ _ _ _ (fill3 WQ R (.int .i64 6) (.int .i64 m) (.int .i64 p))
                                  generalize fill3 WQ R (.int .i64 6) (.int .i64 m) (.int .i64 p) = wz at HLB ⊢
                                  have q0 := Lies.cell HLB.out.1 0
                                  have q1 := Lies.cell HLB.out.1 1
                                  have q2 := Lies.cell HLB.out.1 2
                                  simp only [List.getElem?_toArray, List.getElem?_cons_zero, List.getElem?_cons_succ] at q0 q1 q2
                                  exact bodyPost_ret (v := bzV ⟨6, m, p⟩) (by simp [results, Try.results11, go_sem, q0, q1, q2]) rfl ⟨by rw [HH.out], HLB.out.2⟩
                                | some ta =>
                                  obtain ⟨x, hx, hxD, hxc⟩ := tAt_at hta
                                  have hov := HOV.out
                                  rw [HTB.out, hta, HYC.out.2.1, hxc] at hov
                                  have hov2 : overB cs (p : Int) (m : Int) = decide (y.til < x.frm) := by
                                    rw [hov]
                                    unfold precB
                                    rw [show (y.til != -1) = true from bne_iff_ne.2 HYC.out.2.2]
                                    simp
                                  have hq := HQ2.out
                                  rw [hov2] at hq
                                  have HQ3 := Lib.hid hq
                                  have HCTB := Lib.hid (fun W (hW : BqS w R (some ⟨g, o, none⟩) n cap cs W) => at_cl hW.cls HYC.out.1)
                                  have HCTA := Lib.hid (fun W (hW : BqS w R (some ⟨g, o, none⟩) n cap cs W) => at_cl hW.cls hx)
                                  have zta : (0 : Int) ≤ (ta : Int) := by omega
                                  have zta2 : ¬ (ta : Int) < 0 := by omega
                                  have lta : (ta : Int) < (n : Int) := by have := (List.getElem?_eq_some_iff.1 hx).1; have := HN.out.1; omega
                                  obtain ⟨F2, hF2⟩ : ∃ F, F = x.frm := ⟨_, rfl⟩
                                  obtain ⟨U2, hU2⟩ : ∃ U, U = y.til := ⟨_, rfl⟩
                                  rw [← hF2] at HQ3 HCTA
                                  rw [← hU2] at HQ3 HCTB
                                  clear hq hov hov2 hta hx hxD hxc HOV HQ2 HYC HTP hF2 hU2
                                  rw [show atI (some ta) = (ta : Int) from rfl]
                                  go_upto_region 30 with fail
                                  refine wp_region_held_drew (S := fun W => BqS w R (some ⟨g, o, none⟩) n cap cs W) (by kernel_rfl) (HO8.out.drew) (fun hHeld => ?_)
                                  change wpAnyH _ _ _ _ _ 17 _ _ _
                                  clear hHeld
                                  have HS := Lib.hid (HO8.out.drew)
                                  generalize w8.drew = WD at HS ⊢
                                  refine takeAt 0 161 (oi := _) (v := ?_) rfl rfl (by kernel_rfl) (by kernel_rfl) (by kernel_rfl) (fun _ _ _ h => h) (by rfl) ?_ (HS.out) ?_
                                  rotate_left
                                  · (intro w0 hSw; go_simp; try with_reducible rfl)
                                  simp only [Act.put, List.setIfInBounds_toArray, List.set_cons_zero, List.set_cons_succ]
                                  refine takeAt 1 162 (oi := _) (v := ?_) rfl rfl (by kernel_rfl) (by kernel_rfl) (by kernel_rfl) (fun _ _ _ h => h) (by rfl) ?_ (HS.out) ?_
                                  rotate_left
                                  · (intro w0 hSw; go_simp; try with_reducible rfl)
                                  simp only [Act.put, List.setIfInBounds_toArray, List.set_cons_zero, List.set_cons_succ]
                                  refine takeAt 2 163 (oi := _) (v := ?_) rfl rfl (by kernel_rfl) (by kernel_rfl) (by kernel_rfl) (fun _ _ _ h => h) (by rfl) ?_ (HS.out) ?_
                                  rotate_left
                                  · (intro w0 hSw; go_simp; try with_reducible rfl)
                                  simp only [Act.put, List.setIfInBounds_toArray, List.set_cons_zero, List.set_cons_succ]
                                  refine takeAt 3 164 (oi := _) (v := ?_) rfl rfl (by kernel_rfl) (by kernel_rfl) (by kernel_rfl) (fun _ _ _ h => h) (by rfl) ?_ (HS.out) ?_
                                  rotate_left
                                  · (intro w0 hSw; go_simp; try with_reducible rfl)
                                  simp only [Act.put, List.setIfInBounds_toArray, List.set_cons_zero, List.set_cons_succ]
                                  refine takeAt 4 165 (oi := _) (v := ?_) rfl rfl (by kernel_rfl) (by kernel_rfl) (by kernel_rfl) (fun _ _ _ h => h) (by rfl) ?_ (HS.out) ?_
                                  rotate_left
                                  · (intro w0 hSw; go_simp; try with_reducible rfl)
                                  simp only [Act.put, List.setIfInBounds_toArray, List.set_cons_zero, List.set_cons_succ]
                                  refine takeAt 5 166 (oi := _) (v := ?_) rfl rfl (by kernel_rfl) (by kernel_rfl) (by kernel_rfl) (fun _ _ _ h => h) (by rfl) ?_ (HS.out) ?_
                                  rotate_left
                                  · (intro w0 hSw; go_simp; try with_reducible rfl)
                                  simp only [Act.put, List.setIfInBounds_toArray, List.set_cons_zero, List.set_cons_succ]
                                  refine takeAt 10 171 (oi := _) (v := ?_) rfl rfl (by kernel_rfl) (by kernel_rfl) (by kernel_rfl) (fun _ _ _ h => h) (by rfl) ?_ (HS.out) ?_
                                  rotate_left
                                  · (intro w0 hSw; go_simp; try with_reducible rfl)
                                  simp only [Act.put, List.setIfInBounds_toArray, List.set_cons_zero, List.set_cons_succ]
                                  refine takeAt 11 172 (oi := _) (v := ?_) rfl rfl (by kernel_rfl) (by kernel_rfl) (by kernel_rfl) (fun _ _ _ h => h) (by rfl) ?_ (HS.out) ?_
                                  rotate_left
                                  · (intro w0 hSw; go_simp; try with_reducible rfl)
                                  simp only [Act.put, List.setIfInBounds_toArray, List.set_cons_zero, List.set_cons_succ]
                                  refine takeAt 12 173 (oi := _) (v := ?_) rfl rfl (by kernel_rfl) (by kernel_rfl) (by kernel_rfl) (fun _ _ _ h => h) (by rfl) ?_ (HS.out) ?_
                                  rotate_left
                                  · (intro w0 hSw; go_simp; try with_reducible rfl)
                                  simp only [Act.put, List.setIfInBounds_toArray, List.set_cons_zero, List.set_cons_succ]
                                  refine takeAt 13 174 (oi := _) (v := ?_) rfl rfl (by kernel_rfl) (by kernel_rfl) (by kernel_rfl) (fun _ _ _ h => h) (by rfl) ?_ (HS.out) ?_
                                  rotate_left
                                  · (intro w0 hSw; go_simp; try with_reducible rfl)
                                  simp only [Act.put, List.setIfInBounds_toArray, List.set_cons_zero, List.set_cons_succ]
                                  refine takeAt 14 175 (oi := _) (v := ?_) rfl rfl (by kernel_rfl) (by kernel_rfl) (by kernel_rfl) (fun _ _ _ h => h) (by rfl) ?_ (HS.out) ?_
                                  rotate_left
                                  · (intro w0 hSw; obtain ⟨d0, d1, d2, d3, d4, d5, d6⟩ := HCTA.out w0 hSw; go_simp; try with_reducible rfl)
                                  simp only [Act.put, List.setIfInBounds_toArray, List.set_cons_zero, List.set_cons_succ]
                                  refine wpAnyH_ready (rs := [6]) (by kernel_rfl) (by simp) ?_
                                  refine AllReadyH.cons (o := _) rfl (fun K hK => ?_) AllReadyH.nil
                                  go_simp
                                  refine ((takenBy_any (p : Int) HS.out.own).mono ?_)
                                  rintro e w9 ⟨rfl, hb9⟩
                                  have HS2 := Lib.hid (HS.out.next hb9)
                                  clear hb9 HS
                                  have HS := HS2
                                  clear HS2
                                  rw [fAt_tAt (by omega), HTB.out, show atI (some tb) = (tb : Int) from rfl]
                                  refine hK.out _ _ HS.out (fun _ => ?_)
                                  clear hK K
                                  refine takeAt 7 168 (oi := _) (v := ?_) rfl rfl (by kernel_rfl) (by kernel_rfl) (by kernel_rfl) (fun _ _ _ h => h) (by rfl) ?_ (HS.out) ?_
                                  rotate_left
                                  · (intro w0 hSw; go_simp; try with_reducible rfl)
                                  simp only [Act.put, List.setIfInBounds_toArray, List.set_cons_zero, List.set_cons_succ]
                                  refine takeAt 8 169 (oi := _) (v := ?_) rfl rfl (by kernel_rfl) (by kernel_rfl) (by kernel_rfl) (fun _ _ _ h => h) (by rfl) ?_ (HS.out) ?_
                                  rotate_left
                                  · (intro w0 hSw; go_simp; try with_reducible rfl)
                                  simp only [Act.put, List.setIfInBounds_toArray, List.set_cons_zero, List.set_cons_succ]
                                  refine takeAt 9 170 (oi := _) (v := ?_) rfl rfl (by kernel_rfl) (by kernel_rfl) (by kernel_rfl) (fun _ _ _ h => h) (by rfl) ?_ (HS.out) ?_
                                  rotate_left
                                  · (intro w0 hSw; obtain ⟨d0, d1, d2, d3, d4, d5, d6⟩ := HCTB.out w0 hSw; go_simp; try with_reducible rfl)
                                  simp only [Act.put, List.setIfInBounds_toArray, List.set_cons_zero, List.set_cons_succ]
                                  refine takeAt 15 176 (oi := _) (v := ?_) rfl rfl (by kernel_rfl) (by kernel_rfl) (by kernel_rfl) (fun _ _ _ h => h) (by rfl) ?_ (HS.out) ?_
                                  rotate_left
                                  · (intro w0 hSw; go_simp; try with_reducible rfl)
                                  simp only [Act.put, List.setIfInBounds_toArray, List.set_cons_zero, List.set_cons_succ]
                                  refine takeAt 16 177 (oi := _) (v := ?_) rfl rfl (by kernel_rfl) (by kernel_rfl) (by kernel_rfl) (fun _ _ _ h => h) (by rfl) ?_ (HS.out) ?_
                                  rotate_left
                                  · (intro w0 hSw; go_simp; try with_reducible rfl)
                                  simp only [Act.put, List.setIfInBounds_toArray, List.set_cons_zero, List.set_cons_succ]
                                  refine wpAnyH_done (by kernel_rfl) ?_ _
                                  have HO9 := HS
                                  clear HS HO8 HCTB HCTA
                                  by_cases hl2 : U2 < F2
                                  · have hq := HQ3.out
                                    rw [decide_eq_true hl2, if_pos rfl, orQ_hit (by decide)] at hq
                                    have HH := Lib.hid hq
                                    have dl2 : decide (U2 < F2) = true := decide_eq_true hl2
                                    clear hq HQ3
                                    generalize w9 = WQ at HO9 ⊢
                                    have r0 := Lies.cell HO9.out.res 0
                                    have r1 := Lies.cell HO9.out.res 1
                                    have r2 := Lies.cell HO9.out.res 2
                                    have rf := Lies.frozen HO9.out.res
                                    simp only [List.getElem?_toArray, List.getElem?_cons_zero, List.getElem?_cons_succ] at r0 r1 r2
                                    have hl := fill3_lies (a := .int .i64 6) (b := .int .i64 m) (c := .int .i64 p) HO9.out.res
                                    have hbb := fill3_below (a := .int .i64 6) (b := .int .i64 m) (c := .int .i64 p) HO9.out.below (g := R) HO9.out.lt
                                    have HLB := Lib.hid (And.intro hl hbb)
                                    clear hl hbb
                                    go_wp2_with fail
                                    change bodyPost _ _ _ _ _ (fill3 WQ R (.int .i64 6) (.int .i64 m) (.int .i64 p))
                                    generalize fill3 WQ R (.int .i64 6) (.int .i64 m) (.int .i64 p) = wz at HLB ⊢
                                    have q0 := Lies.cell HLB.out.1 0
                                    have q1 := Lies.cell HLB.out.1 1
                                    have q2 := Lies.cell HLB.out.1 2
                                    simp only [List.getElem?_toArray, List.getElem?_cons_zero, List.getElem?_cons_succ] at q0 q1 q2
                                    exact bodyPost_ret (v := bzV ⟨6, m, p⟩) (by simp [results, Try.results11, go_sem, q0, q1, q2]) rfl ⟨by rw [HH.out], HLB.out.2⟩
                                  · have hq := HQ3.out
                                    rw [decide_eq_false hl2, if_neg (by decide)] at hq
                                    have HH := Lib.hid hq
                                    have dl2 : decide (U2 < F2) = false := decide_eq_false hl2
                                    clear hq HQ3
                                    go_wp2_with fail
                                    go_roundw
                                    case rel => exact ⟨p + 1, by omega, by omega, by go_num, HH.out, HO9.out⟩
                                    case measure => simp [intOf]; omega
                        · obtain rfl : p = 1001 := by omega
                          rw [valsFrom_end] at hq
                          have HH := Lib.hid (show Q = orZ (ordQ cs (valsQ cs) (valsFrom cs (m + 1))) E4 from (show Q = E5 from hq).trans HE5.out)
                          have HO := Lib.hid hO
                          clear hq hO
                          go_wp2_with fail
                          go_roundw
                          case rel => exact ⟨m + 1, by omega, by omega, by go_num, HH.out, HO.out⟩
                          case measure => simp [intOf]; omega
                · have hm9 : m = 1001 := by omega
                  have k9 : ¬ (m : Int) ≤ 1000 := by omega
                  rw [hm9, valsFrom_end] at hq
                  clear hm9
                  have HQ6 := Lib.hid (show Q = firstD 7 (emptyF (staysL cs)) 0 cs from (show Q = E4 from hq).trans HE4.out)
                  have HON := Lib.hid hO
                  clear hq hO
                  go_wp2_with fail
                  go_loopw [183] (fun t wr => ∃ k : Nat, k ≤ n ∧ t = .int .i64 k ∧ Q = firstD 7 (emptyF (staysL cs)) k (cs.drop k) ∧ BqS w R A n cap cs wr) (fun t _ => n - (intOf t).toNat)
                  case atStart => exact ⟨0, by omega, rfl, by rw [List.drop_zero]; exact HQ6.out, HON.out⟩
                  case round =>
                    clear HON
                    obtain ⟨k, hk, rfl, hq, hO⟩ := hrel
                    by_cases hkn : k < n
                    · as_aux_lemma =>
                        obtain ⟨y, hy⟩ : ∃ y, cs[k]? = some y := ⟨_, List.getElem?_eq_getElem (by rw [← HN.out.1]; exact hkn)⟩
                        rw [drop_cl hy, firstD_cons] at hq
                        obtain ⟨g, o, rfl, -, d0, d1, d2, d3, d4, d5, d6⟩ := hO.cls.cl hy
                        have hkd := HN.out.2.kind (List.mem_of_getElem? hy)
                        have hfr := HN.out.2.frm (List.mem_of_getElem? hy)
                        have HY := Lib.hid hy
                        obtain ⟨y0, y1, y2, y3, y4, y5, y6⟩ := y
                        simp only at d0 d1 d2 d3 d4 d5 d6 hkd hq hfr
                        have i1 : (0 : Int) ≤ (k : Int) := by omega
                        have i2 : (k : Int) < (n : Int) := by omega
                        have hal : Below wr.heap.size wr (wr.alloc (.cells #[.int .i64 y0, .int .i64 y1, .int .i64 y2, .int .i64 y3, .int .i64 y4, .int .i64 y5, .int .i64 y6] 49)) := (Below.refl _ _).alloc (Nat.le_refl _) _
                        have HO := Lib.hid (And.intro (hO.next hal) (Lies.new wr 49 #[.int .i64 y0, .int .i64 y1, .int .i64 y2, .int .i64 y3, .int .i64 y4, .int .i64 y5, .int .i64 y6]))
                        have HA := Lib.hid (And.intro hq (And.intro hkd hfr))
                        clear hO hq hkd hfr hy hal
                        go_upto_region 35 with fail
                        clear d0 d1 d2 d3 d4 d5 d6
                        change Code.wp _ _ _ _ (wr.alloc (.cells #[.int .i64 y0, .int .i64 y1, .int .i64 y2, .int .i64 y3, .int .i64 y4, .int .i64 y5, .int .i64 y6] 49))
                        generalize wr.alloc (.cells #[.int .i64 y0, .int .i64 y1, .int .i64 y2, .int .i64 y3, .int .i64 y4, .int .i64 y5, .int .i64 y6] 49) = W4 at HO ⊢
                        generalize wr.heap.size = X at HO ⊢
                        have hty : y2 = 4 → y5 < y6 := fun h4 => by
                          have h1 := HN.out.2.ans _ (List.mem_of_getElem? HY.out) h4
                          have h2 := HA.out.2.2
                          simp only at h1
                          omega
                        have HTY := Lib.hid hty
                        clear hty
                        have e5 := Lies.cell HO.out.2 5
                        simp only [List.getElem?_toArray, List.getElem?_cons_zero, List.getElem?_cons_succ] at e5
                        go_wp2_with fail
                        go_loopw [16, 17] (fun f t wr => ∃ m : Nat, f = .bool (freeTo cs ⟨y0, y1, y2, y3, y4, y5, y6⟩ m) ∧ t = .int .i64 (y5 + m) ∧ (m ≠ 0 → y2 = 4 ∧ y4 = -1 ∧ y5 + m ≤ y6) ∧ BqS w R (some ⟨g, o, none⟩) n cap cs wr ∧ Lies wr X 49 #[.int .i64 y0, .int .i64 y1, .int .i64 y2, .int .i64 y3, .int .i64 y4, .int .i64 y5, .int .i64 y6]) (fun _ t _ => 200 - (intOf t).toNat)
                        case atStart => exact ⟨0, by rw [freeTo_zero], by simp, fun h => absurd rfl h, HO.out.1, HO.out.2⟩
                        case round =>
                          clear HO e5
                          obtain ⟨m, rfl, rfl, hmm, hO, hX⟩ := hrel
                          have e2 := Lies.cell hX 2
                          have e4 := Lies.cell hX 4
                          have e6 := Lies.cell hX 6
                          simp only [List.getElem?_toArray, List.getElem?_cons_zero, List.getElem?_cons_succ] at e2 e4 e6
                          have HO := Lib.hid (And.intro hO hX)
                          have HMM := Lib.hid hmm
                          have HFR := Lib.hid HA.out.2.2
                          clear hO hX hmm
                          by_cases h4 : y2 = 4
                          · by_cases hm1 : y4 = -1
                            · have hy56 := HTY.out h4
                              by_cases hlt : y5 + (m : Int) < y6
                              · subst h4 hm1
                                clear hy56
                                go_upto_region 40 with fail
                                clear e2 e4 e6
                                go_wp2_with fail
                                go_loopw [18, 208] (fun u t wr => ∃ q : Nat, q ≤ n ∧ u = .bool (fullTo cs (cs.take q) (y5 + (m : Int))) ∧ t = .int .i64 q ∧ BqS w R (some ⟨g, o, none⟩) n cap cs wr ∧ Lies wr X 49 #[.int .i64 y0, .int .i64 y1, .int .i64 4, .int .i64 y3, .int .i64 (-1), .int .i64 y5, .int .i64 y6]) (fun _ t _ => n - (intOf t).toNat)
                                case atStart => exact ⟨0, by omega, rfl, rfl, HO.out.1, HO.out.2⟩
                                case round =>
                                  clear HO
                                  obtain ⟨q, hq9, rfl, rfl, hO, hX⟩ := hrel
                                  by_cases hqn : q < n
                                  · as_aux_lemma =>
                                    obtain ⟨x, hx⟩ : ∃ x, cs[q]? = some x := ⟨_, List.getElem?_eq_getElem (by rw [← HN.out.1]; exact hqn)⟩
                                    have hsn := fullTo_snoc hx (y5 + (m : Int))
                                    have hkx := HN.out.2.kind (List.mem_of_getElem? hx)
                                    obtain ⟨d0, d1, d2, d3, d4, d5, d6⟩ := at_cl hO.cls hx
                                    obtain ⟨x0, x1, x2, x3, x4, x5, x6⟩ := x
                                    simp only at d0 d1 d2 d3 d4 d5 d6 hsn hkx
                                    have j1 : (0 : Int) ≤ (q : Int) := by omega
                                    have j2 : (q : Int) < (n : Int) := by omega
                                    generalize fullTo cs (cs.take q) (y5 + (m : Int)) = fu at hsn ⊢
                                    have hal : Below wr.heap.size wr (wr.alloc (.cells #[.int .i64 x0, .int .i64 x1, .int .i64 x2, .int .i64 x3, .int .i64 x4, .int .i64 x5, .int .i64 x6] 49)) := (Below.refl _ _).alloc (Nat.le_refl _) _
                                    have HO := Lib.hid (And.intro (hO.next hal) (And.intro (Lies.below hX hal hX.lt) (Lies.new wr 49 #[.int .i64 x0, .int .i64 x1, .int .i64 x2, .int .i64 x3, .int .i64 x4, .int .i64 x5, .int .i64 x6])))
                                    have HSN := Lib.hid (And.intro hsn hkx)
                                    clear hO hX hx hsn hkx hal
                                    go_upto_region 43 with fail
                                    clear d0 d1 d2 d3 d4 d5 d6
                                    change Code.wp _ _ _ _ (wr.alloc (.cells #[.int .i64 x0, .int .i64 x1, .int .i64 x2, .int .i64 x3, .int .i64 x4, .int .i64 x5, .int .i64 x6] 49))
                                    generalize wr.alloc (.cells #[.int .i64 x0, .int .i64 x1, .int .i64 x2, .int .i64 x3, .int .i64 x4, .int .i64 x5, .int .i64 x6] 49) = W5 at HO ⊢
                                    generalize wr.heap.size = Y at HO ⊢
                                    have f2 := Lies.cell HO.out.2.2 2
                                    have f3 := Lies.cell HO.out.2.2 3
                                    simp only [List.getElem?_toArray, List.getElem?_cons_zero, List.getElem?_cons_succ] at f2 f3
                                    by_cases h3 : x2 = 3
                                    · have hx3 : x3 ≠ -1 := by have := HSN.out.2; omega
                                      have hsn := HSN.out.1
                                      rw [show (x2 == 3) = true from beq_iff_eq.2 h3, Bool.true_and] at hsn
                                      have HST := Lib.hid (stayOf_any hx3 HN.out.2 HO.out.1.own)
                                      have HSN2 := Lib.hid hsn
                                      subst h3
                                      clear hsn hx3 HSN
                                      go_wp2_with fail
                                      refine HST.out.mono ?_
                                      rintro e w6 ⟨sa, sb, ok, rfl, hb6, hsv⟩
                                      have hsn := HSN2.out
                                      rw [hsv] at hsn
                                      have hO6 := HO.out.1.next hb6
                                      have hX6 := Lies.below HO.out.2.1 hb6 HO.out.2.1.lt
                                      have hal6 : Below w6.heap.size w6 (w6.alloc (.cells #[.int .i64 sa, .int .i64 sb] 35)) := (Below.refl _ _).alloc (Nat.le_refl _) _
                                      have HO6 := Lib.hid (And.intro (hO6.next hal6) (And.intro (Lies.below hX6 hal6 hX6.lt) (Lies.new w6 35 #[.int .i64 sa, .int .i64 sb])))
                                      have HS3 := Lib.hid hsn
                                      clear hsn hsv hb6 hO6 hX6 hal6 HST HSN2 HO f2 f3
                                      go_upto_region 45 with fail
                                      change Code.wp _ _ _ _ (w6.alloc (.cells #[.int .i64 sa, .int .i64 sb] 35))
                                      generalize w6.alloc (.cells #[.int .i64 sa, .int .i64 sb] 35) = W7 at HO6 ⊢
                                      generalize w6.heap.size = Z at HO6 ⊢
                                      have s0 := Lies.cell HO6.out.2.2 0
                                      have s1 := Lies.cell HO6.out.2.2 1
                                      simp only [List.getElem?_toArray, List.getElem?_cons_zero, List.getElem?_cons_succ] at s0 s1
                                      cases fu
                                      · cases ok
                                        · have hz := HS3.out
                                          have HZ := Lib.hid (show fullTo cs (cs.take (q + 1)) (y5 + (m : Int)) = false by rw [hz]; rfl)
                                          clear hz HS3
                                          go_wp2_with fail
                                          go_roundw
                                          case rel => exact ⟨q + 1, by omega, by rw [HZ.out], by go_num, HO6.out.1, HO6.out.2.1⟩
                                          case measure => simp [intOf]; omega
                                        · have hz := HS3.out
                                          have HZ := Lib.hid (show fullTo cs (cs.take (q + 1)) (y5 + (m : Int)) = btw sa (y5 + (m : Int)) sb by rw [hz]; simp [btw])
                                          have HBT := Lib.hid (betweenI_any (y5 + (m : Int)) sa sb W7)
                                          clear hz HS3
                                          go_wp2_with fail
                                          refine HBT.out.mono ?_
                                          rintro e w8 ⟨rfl, rfl⟩
                                          go_wp2_with fail
                                          go_roundw
                                          case rel => exact ⟨q + 1, by omega, by rw [HZ.out], by go_num, HO6.out.1, HO6.out.2.1⟩
                                          case measure => simp [intOf]; omega
                                      · have hz := HS3.out
                                        have HZ := Lib.hid (show fullTo cs (cs.take (q + 1)) (y5 + (m : Int)) = true by rw [hz, Bool.true_or])
                                        clear hz HS3
                                        go_wp2_with fail
                                        go_roundw
                                        case rel => exact ⟨q + 1, by omega, by rw [HZ.out], by go_num, HO6.out.1, HO6.out.2.1⟩
                                        case measure => simp [intOf]; omega
                                    · have b3 : (x2 == 3) = false := beq_eq_false_iff_ne.2 h3
                                      have hsn := HSN.out.1
                                      rw [b3, Bool.false_and, Bool.or_false] at hsn
                                      have HZ := Lib.hid hsn
                                      clear hsn HSN h3
                                      go_wp2_with fail
                                      go_roundw
                                      case rel => exact ⟨q + 1, by omega, by rw [HZ.out], by go_num, HO.out.1, HO.out.2.1⟩
                                      case measure => simp [intOf]; omega
                                  · obtain rfl : n = q := by omega
                                    have hfa : fullTo cs (cs.take n) (y5 + (m : Int)) = fullAt (staysL cs) (y5 + (m : Int)) := by rw [List.take_of_length_le (by rw [← HN.out.1]; exact Nat.le_refl _), fullTo_all HN.out.2]
                                    rw [hfa]
                                    have hfs := freeTo_succ cs ⟨y0, y1, 4, y3, -1, y5, y6⟩ m
                                    rw [show ((y5.toNat + m : Nat) : Int) = y5 + (m : Int) by have := HFR.out; omega] at hfs
                                    generalize freeTo cs ⟨y0, y1, 4, y3, -1, y5, y6⟩ m = fr at hfs ⊢
                                    generalize fullAt (staysL cs) (y5 + (m : Int)) = fa at hfs ⊢
                                    have HZ := Lib.hid (And.intro hfs (And.intro hO hX))
                                    have hw : IntKind.i64.wrap (y5 + (m : Int) + 1) = y5 + (m : Int) + 1 := by rw [IntKind.wrap_i64]; have := HFR.out; omega
                                    have HWR := Lib.hid (show y5 + (m : Int) + 1 = y5 + ((m + 1 : Nat) : Int) by omega)
                                    clear hfa hfs hO hX
                                    cases fr
                                    all_goals cases fa
                                    all_goals
                                      go_wp2_with fail
                                      go_roundw
                                      case rel => exact ⟨m + 1, by rw [HZ.out.1]; rfl, by first | (rw [HWR.out]) | go_num | (simp; omega), fun _ => ⟨by trivial, by trivial, by omega⟩, HZ.out.2.1, HZ.out.2.2⟩
                                      case measure => have := HFR.out; simp [intOf]; omega
                              · have hme : m = (y6 - y5).toNat := by
                                  have := HMM.out
                                  by_cases h0 : m = 0
                                  · omega
                                  · have := this h0; omega
                                have hq := HA.out.1
                                have hef := empty_free (cs := cs) (c := ⟨y0, y1, y2, y3, y4, y5, y6⟩) hm1 HFR.out.1 (by show y5 ≤ y6; omega) (by have := HFR.out; show y6 ≤ 200; omega) k
                                rw [show (((⟨y0, y1, y2, y3, y4, y5, y6⟩ : Cl).til - (⟨y0, y1, y2, y3, y4, y5, y6⟩ : Cl).frm).toNat) = m from hme.symm] at hef
                                rw [hef] at hq
                                obtain ⟨fr, hfr⟩ : ∃ fr, fr = freeTo cs ⟨y0, y1, y2, y3, y4, y5, y6⟩ m := ⟨_, rfl⟩
                                rw [← hfr] at hq ⊢
                                have HQE := Lib.hid hq
                                subst h4 hm1
                                clear hq hef hfr hme hy56
                                cases fr
                                · have hq := HQE.out
                                  rw [if_pos ⟨by trivial, rfl⟩] at hq
                                  have HH := Lib.hid (show Q = ⟨7, k, 0⟩ from hq)
                                  have HOF := Lib.hid HO.out.1
                                  clear hq HQE
                                  have r0 := Lies.cell HOF.out.res 0
                                  have r1 := Lies.cell HOF.out.res 1
                                  have r2 := Lies.cell HOF.out.res 2
                                  have rf := Lies.frozen HOF.out.res
                                  simp only [List.getElem?_toArray, List.getElem?_cons_zero, List.getElem?_cons_succ] at r0 r1 r2
                                  have hl := fill3_lies (a := .int .i64 7) (b := .int .i64 k) (c := .int .i64 0) HOF.out.res
                                  have hbb := fill3_below (a := .int .i64 7) (b := .int .i64 k) (c := .int .i64 0) HOF.out.below (g := R) HOF.out.lt
                                  have HLB := Lib.hid (And.intro hl hbb)
                                  clear hl hbb
                                  go_wp2_with fail
                                  change bodyPost _ _ _ _ _ (fill3 wr R (.int .i64 7) (.int .i64 k) (.int .i64 0))
                                  generalize fill3 wr R (.int .i64 7) (.int .i64 k) (.int .i64 0) = wz at HLB ⊢
                                  have q0 := Lies.cell HLB.out.1 0
                                  have q1 := Lies.cell HLB.out.1 1
                                  have q2 := Lies.cell HLB.out.1 2
                                  simp only [List.getElem?_toArray, List.getElem?_cons_zero, List.getElem?_cons_succ] at q0 q1 q2
                                  exact bodyPost_ret (v := bzV ⟨7, k, 0⟩) (by simp [results, Try.results11, go_sem, q0, q1, q2]) rfl ⟨by rw [HH.out], HLB.out.2⟩
                                · have hq := HQE.out
                                  rw [if_neg (fun h => by cases h.2)] at hq
                                  have HH := Lib.hid hq
                                  clear hq HQE
                                  go_wp2_with fail
                                  go_roundw
                                  case rel => exact ⟨k + 1, by omega, by go_num, HH.out, HO.out.1⟩
                                  case measure => simp [intOf]; omega
                            · have b4 : (y4 == -1) = false := beq_eq_false_iff_ne.2 hm1
                              have hq := HA.out.1
                              rw [if_neg (fun h => by have := h.2; unfold emptyF at this; simp [hm1] at this)] at hq
                              have HH := Lib.hid hq
                              subst h4
                              clear hq hm1
                              generalize freeTo cs ⟨y0, y1, 4, y3, y4, y5, y6⟩ m = fr
                              go_wp2_with fail
                              go_roundw
                              case rel => exact ⟨k + 1, by omega, by go_num, HH.out, HO.out.1⟩
                              case measure => simp [intOf]; omega
                          · have b2 : (y2 == 4) = false := beq_eq_false_iff_ne.2 h4
                            have hq := HA.out.1
                            rw [if_neg (fun h => h4 h.1)] at hq
                            have HH := Lib.hid hq
                            clear hq h4
                            generalize freeTo cs ⟨y0, y1, y2, y3, y4, y5, y6⟩ m = fr
                            go_wp2_with fail
                            go_roundw
                            case rel => exact ⟨k + 1, by omega, by go_num, HH.out, HO.out.1⟩
                            case measure => simp [intOf]; omega
                    · obtain rfl : n = k := by omega
                      rw [List.drop_eq_nil_of_le (by rw [← HN.out.1]; exact Nat.le_refl _)] at hq
                      have HQN := Lib.hid (show Q = noBz from hq)
                      have HON := Lib.hid hO
                      clear hq hO
                      have HF := Lib.hid (show Q = ⟨0, 0, 0⟩ from HQN.out)
                      have r0 := Lies.cell HON.out.res 0
                      have r1 := Lies.cell HON.out.res 1
                      have r2 := Lies.cell HON.out.res 2
                      have rf := Lies.frozen HON.out.res
                      simp only [List.getElem?_toArray, List.getElem?_cons_zero, List.getElem?_cons_succ] at r0 r1 r2
                      have hl := fill3_lies (a := .int .i64 0) (b := .int .i64 0) (c := .int .i64 0) HON.out.res
                      have hbb := fill3_below (a := .int .i64 0) (b := .int .i64 0) (c := .int .i64 0) HON.out.below (g := R) HON.out.lt
                      have HLB := Lib.hid (And.intro hl hbb)
                      clear hl hbb
                      go_wp2_with fail
                      change bodyPost _ _ _ _ _ (fill3 wr R (.int .i64 0) (.int .i64 0) (.int .i64 0))
                      generalize fill3 wr R (.int .i64 0) (.int .i64 0) (.int .i64 0) = wz at HLB ⊢
                      have q0 := Lies.cell HLB.out.1 0
                      have q1 := Lies.cell HLB.out.1 1
                      have q2 := Lies.cell HLB.out.1 2
                      simp only [List.getElem?_toArray, List.getElem?_cons_zero, List.getElem?_cons_succ] at q0 q1 q2
                      exact bodyPost_ret (v := bzV ⟨0, 0, 0⟩) (by simp [results, Try.results11, go_sem, q0, q1, q2]) rfl ⟨by rw [HF.out], HLB.out.2⟩
end Go.Proofs.Ythjmncngegchjaa
