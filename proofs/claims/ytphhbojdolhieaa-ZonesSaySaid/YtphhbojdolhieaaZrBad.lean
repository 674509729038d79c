/-
  Contract of the reference's BadZones: reads that nobody wrote for, or that are too early.
-/
import Derived.Test.YtphhbojdolhieaaZrZone
import Derived.Test.YtphhbojdolhieaaZSmall
import Derived.Test.YtphhbojdolhieaaZCross
import Derived.Test.YtphhbojdolhieaaCloneEv
import Derived.Lib.MinMax
import Derived.Deep.QuietTactic
import Derived.BigQuiet
namespace Go.Proofs.Ytphhbojdolhieaa
open Go.RowKit
set_option maxRecDepth 20000

/-- What BadZones keeps. -/
structure BdS (w : World) (R : Nat) (wr : World) : Prop where
  below : Below w.heap.size w wr
  res : Lies wr R 28 #[.int .i64 0, .int .i64 0, .int .i64 0]
theorem BdS.next {w : World} {R : Nat} {wr w' : World} (h : BdS w R wr) (hb : Below wr.heap.size wr w') : BdS w R w' :=
  ⟨h.below.trans (hb.mono h.below.size), Lies.below h.res hb h.res.lt⟩
theorem orZ_hit {a b c : Int} (ha : a ≠ 0) (y : Bz) : orZ ⟨a, b, c⟩ y = ⟨a, b, c⟩ := by
  unfold orZ
  rw [if_pos ha]
theorem orZ_none (y : Bz) : orZ noBz y = y := rfl
theorem orZ_assoc (x y z : Bz) : orZ (orZ x y) z = orZ x (orZ y z) := by
  unfold orZ
  by_cases hx : x.kind ≠ 0
  · rw [if_pos hx, if_pos hx, if_pos hx]
  · rw [if_neg hx, if_neg hx]
theorem crossZ_cons (a : Zn) (l : List Zn) : crossZ (a :: l) = orZ (crossRow a l) (crossZ l) := rfl
theorem insideZ_cons (all : List Zn) (a : Zn) (l : List Zn) : insideZ all (a :: l) = orZ (insideRow a all) (insideZ all l) := rfl
theorem wOf_isNone (cs : List Cl) (v : Int) : (wOf cs v).isNone = (v != 0 && !(wAt v 0 cs).isSome) := by
  unfold wOf
  by_cases h : v = 0
  · rw [if_pos h, h]; rfl
  · rw [if_neg h, bne_iff_ne.2 h]
    cases wAt v 0 cs <;> rfl
theorem BdS.drewN {w : World} {R : Nat} {wr : World} (h : BdS w R wr) (m : Nat) : BdS w R (wr.drewN m) := ⟨belowN h.below m, h.res⟩
theorem RegH.wAt_zero {n : Nat} {cs : List Cl} (h : RegH n cs) : wAt 0 0 cs = none := (wAt_none cs 0).2 fun c hc => by
  rw [Bool.eq_false_iff]
  intro hw
  have h1 := isW_iff.1 hw
  rcases h.kind hc with a | a <;> omega
theorem RegH.wOf_at {n : Nat} {cs : List Cl} (h : RegH n cs) {v : Int} {i : Nat} (hw : wAt v 0 cs = some i) : wOf cs v = some (wrZ i (cs.getD i default)) := by
  unfold wOf
  rw [if_neg (fun e => by rw [e, h.wAt_zero] at hw; cases hw), hw]
  rfl
theorem wOf_at_none {cs : List Cl} {v : Int} (hw : wAt v 0 cs = none) : wOf cs v = none ∨ wOf cs v = some ⟨-1, 0, -1, -1⟩ := by
  unfold wOf
  by_cases h : v = 0
  · rw [if_pos h]; exact .inr rfl
  · rw [if_neg h, hw]; exact .inl rfl
/-- The zones of the first values. -/
def zonesTo (cs : List Cl) (m : Nat) : List Zn := (List.range m).filterMap fun (v : Nat) => zoneV cs v
theorem zonesTo_snoc (cs : List Cl) (m : Nat) : zonesTo cs (m + 1) = zonesTo cs m ++ (zoneV cs m).toList := by
  unfold zonesTo
  rw [List.range_succ, List.filterMap_append]
  cases h : zoneV cs m <;> simp [h]
theorem zonesTo_len (cs : List Cl) (m : Nat) : (zonesTo cs m).length ≤ m := by
  unfold zonesTo
  exact Nat.le_trans (List.length_filterMap_le _ _) (by rw [List.length_range]; exact Nat.le_refl _)
theorem ZnOwn.thenR {w w' : World} {B : Nat} {v : Value} {l : List Zn} (h : ZnOwn w B v l) (hb : Below w.heap.size w w') : ZnOwn w' B v l := by
  refine ⟨h.1, h.2.elim (fun h => .inl h) fun ⟨g, cap, cur, h1, h2, h3, h4, h5, h6, h7⟩ => .inr ⟨g, cap, cur, h1, h2, ?_, h4, h5, h6, h7⟩⟩
  rw [hb.block g (Array.getElem?_eq_some_iff.1 h3).1]
  exact h3
/-- What the loop over values keeps. -/
structure AlS (w : World) (R B : Nat) (mv : Value) (acc : List Zn) (wr : World) : Prop where
  bd : BdS w R wr
  own : ZnOwn wr B mv acc
  sz : w.heap.size ≤ B ∧ R < B ∧ B ≤ wr.heap.size
section
variable {w : World} {R B : Nat} {mv mv' : Value} {acc acc' : List Zn} {wr w' : World}
theorem AlS.next (h : AlS w R B mv acc wr) (hb : Below wr.heap.size wr w') : AlS w R B mv acc w' :=
  ⟨h.bd.next hb, h.own.thenR hb, h.sz.1, h.sz.2.1, Nat.le_trans h.sz.2.2 hb.size⟩
theorem AlS.app (h : AlS w R B mv acc wr) (hb : Below B wr w') (ho : ZnOwn w' B mv' acc') : AlS w R B mv' acc' w' :=
  ⟨⟨h.bd.below.trans (hb.mono h.sz.1), Lies.below h.bd.res hb h.sz.2.1⟩, ho, h.sz.1, h.sz.2.1, Nat.le_trans h.sz.2.2 hb.size⟩
end
/-- What the loops over zones keep. -/
structure ArS (w : World) (R B : Nat) (A : Option Addr) (cap n : Nat) (l : List Zn) (wr : World) : Prop where
  bd : BdS w R wr
  row : ZnRd wr B (.slice A n cap) l
  sz : B ≤ wr.heap.size
theorem ArS.next {w : World} {R B : Nat} {A : Option Addr} {cap n : Nat} {l : List Zn} {wr w' : World} (h : ArS w R B A cap n l wr) (hb : Below wr.heap.size wr w') : ArS w R B A cap n l w' :=
  ⟨h.bd.next hb, h.row.below (hb.mono h.sz), Nat.le_trans h.sz hb.size⟩
set_option maxHeartbeats 16000000 in
theorem badZones_any {N : Nat} {lv : Value} {cs : List Cl} {w : World} (hg : RegH N cs) (h : CRd w w.heap.size lv cs) :
    Calls Try.prog 11 #[lv] w fun e w' => e = .returned (bzV (badZ cs)) ∧ Below w.heap.size w w' := by
  obtain ⟨A, cap, rfl, m1, m2⟩ := h.is
  unfold maxLen at m2
  obtain ⟨n, hn⟩ : ∃ n, n = cs.length := ⟨_, rfl⟩
  rw [← hn] at h m1 ⊢
  have HN := Lib.hid (And.intro hn (And.intro h hg))
  have m3 : (n : Int) ≤ 9223372036854775807 := by omega
  obtain ⟨Q, hQ⟩ : ∃ Q, Q = badZ cs := ⟨_, rfl⟩
  rw [← hQ]
  have HQ := Lib.hid (show Q = orZ (strayZ cs (rds 0 cs)) (orZ (earlyZ cs (rds 0 cs)) (orZ (crossZ (zonesL cs)) (insideZ (zonesL cs) (zonesL cs)))) from hQ)
  have HS := Lib.hid (show BdS w w.heap.size (w.alloc (.cells #[.int .i64 0, .int .i64 0, .int .i64 0] 28)) from ⟨(Below.refl _ _).alloc (Nat.le_refl _) _, Lies.new _ _ _⟩)
  clear h hn hg m2 hQ
  go_enter Try.func11, Try.ntmps11
  go_upto_region 1 with fail
  change Code.wp _ _ _ _ (w.alloc (.cells #[.int .i64 0, .int .i64 0, .int .i64 0] 28))
  generalize w.alloc (.cells #[.int .i64 0, .int .i64 0, .int .i64 0] 28) = W1 at HS ⊢
  obtain ⟨R, hR⟩ : ∃ R, R = w.heap.size := ⟨_, rfl⟩
  have HR := Lib.hid hR
  rw [← hR] at HS ⊢
  clear hR
  have HCI := Lib.hid (show ∃ E, Q = orZ (strayZ cs (rds 0 cs)) E ∧ E = orZ (earlyZ cs (rds 0 cs)) (orZ (crossZ (zonesL cs)) (insideZ (zonesL cs) (zonesL cs))) from ⟨_, HQ.out, rfl⟩)
  obtain ⟨E1, hE1, hE2⟩ := HCI.out
  have HE1 := Lib.hid (And.intro hE1 hE2)
  clear hE1 hE2 HCI
  go_wp2_with fail
  go_loopw [25] (fun t wr => ∃ k : Nat, k ≤ n ∧ t = .int .i64 k ∧ Q = orZ (strayZ cs (rds k (cs.drop k))) E1 ∧ BdS w R wr) (fun t _ => n - (intOf t).toNat)
  case atStart => exact ⟨0, by omega, rfl, by rw [List.drop_zero]; exact HE1.out.1, HS.out⟩
  case round =>
    obtain ⟨k, hk, rfl, hq, hO⟩ := hrel
    by_cases hkn : k < n
    · obtain ⟨y, hy⟩ : ∃ y, cs[k]? = some y := ⟨_, List.getElem?_eq_getElem (by rw [← HN.out.1]; exact hkn)⟩
      have hdrop : cs.drop k = y :: cs.drop (k + 1) := by
        obtain ⟨h2, h3⟩ := List.getElem?_eq_some_iff.1 hy
        rw [List.drop_eq_getElem_cons h2, h3]
      rw [hdrop, rds] at hq
      obtain ⟨g, o, rfl, -, d0, d1, d2, d3, d4, d5, d6⟩ := (HN.out.2.1.below hO.below).cl hy
      have hir := isR_iff (c := y)
      have hrz : rdZ k y = ⟨(k : Int), y.res, y.frm, y.til⟩ := rfl
      rw [hrz] at hq
      have hfr := HN.out.2.2.frm (List.mem_of_getElem? hy)
      obtain ⟨y0, y1, y2, y3, y4, y5, y6⟩ := y
      simp only at d0 d1 d2 d3 d4 d5 d6 hir hq hfr
      generalize hrr : isR ⟨y0, y1, y2, y3, y4, y5, y6⟩ = rr at hq hir
      have i1 : (0 : Int) ≤ (k : Int) := by omega
      have i2 : (k : Int) < (n : Int) := by omega
      have hal : Below wr.heap.size wr (wr.alloc (.cells #[.int .i64 y0, .int .i64 y1, .int .i64 y2, .int .i64 y3, .int .i64 y4, .int .i64 y5, .int .i64 y6] 47)) := (Below.refl _ _).alloc (Nat.le_refl _) _
      have HO := Lib.hid (And.intro (hO.next hal) (Lies.new wr 47 #[.int .i64 y0, .int .i64 y1, .int .i64 y2, .int .i64 y3, .int .i64 y4, .int .i64 y5, .int .i64 y6]))
      have HA := Lib.hid (And.intro hq (And.intro hir hfr))
      clear hO hq hir hy hal hdrop hrz hrr hfr
      go_upto_region 4 with fail
      clear d0 d1 d2 d3 d4 d5 d6
      change Code.wp _ _ _ _ (wr.alloc (.cells #[.int .i64 y0, .int .i64 y1, .int .i64 y2, .int .i64 y3, .int .i64 y4, .int .i64 y5, .int .i64 y6] 47))
      generalize wr.alloc (.cells #[.int .i64 y0, .int .i64 y1, .int .i64 y2, .int .i64 y3, .int .i64 y4, .int .i64 y5, .int .i64 y6] 47) = W4 at HO ⊢
      generalize wr.heap.size = X at HO ⊢
      have e4 := Lies.cell HO.out.2 4
      simp only [List.getElem?_toArray, List.getElem?_cons_zero, List.getElem?_cons_succ] at e4
      have HWR := Lib.hid (writeOf_any y4 ((HN.out.2.1.below HO.out.1.below).mono HO.out.1.below.size))
      go_wp2_with fail
      refine HWR.out.mono ?_
      rintro e w5 ⟨rfl, hb5⟩
      have HP := Lib.hid (And.intro (HO.out.1.next hb5) (Lies.below HO.out.2 hb5 HO.out.2.lt))
      clear e4 hb5 HWR HO
      have e2 := Lies.cell HP.out.2 2
      have e4 := Lies.cell HP.out.2 4
      have e6 := Lies.cell HP.out.2 6
      simp only [List.getElem?_toArray, List.getElem?_cons_zero, List.getElem?_cons_succ] at e2 e4 e6
      obtain ⟨I, hI⟩ : ∃ I : Int, I = (((wAt y4 0 cs).getD 0 : Nat) : Int) := ⟨_, rfl⟩
      obtain ⟨S, hS⟩ : ∃ S, S = (wAt y4 0 cs).isSome := ⟨_, rfl⟩
      rw [← hI, ← hS]
      have HIS := Lib.hid (And.intro hI hS)
      clear hI hS
      by_cases h2 : y2 = 2
      · by_cases h6 : y6 = -1
        · have hr : rr = false := Bool.eq_false_iff.2 fun h => (HA.out.2.1.1 h).2 h6
          have hqq := HA.out.1
          rw [hr, if_neg (by decide)] at hqq
          have HH := Lib.hid hqq
          clear hr hqq HA
          subst h2 h6
          go_wp2_with fail
          go_roundw
          case rel => exact ⟨k + 1, by omega, by go_num, HH.out, HP.out.1⟩
          case measure => simp [intOf]; omega
        · have b6 : (y6 != -1) = true := by rw [bne_iff_ne]; exact h6
          have hr : rr = true := HA.out.2.1.2 ⟨h2, h6⟩
          have hqq := HA.out.1
          rw [hr, if_pos rfl, strayZ, wOf_isNone] at hqq
          by_cases h4 : y4 = 0
          · rw [if_neg (by simp [h4])] at hqq
            have HH := Lib.hid hqq
            clear hr hqq HA h6
            subst h2 h4
            go_wp2_with fail
            go_roundw
            case rel => exact ⟨k + 1, by omega, by go_num, HH.out, HP.out.1⟩
            case measure => simp [intOf]; omega
          · have b4 : (y4 != 0) = true := by rw [bne_iff_ne]; exact h4
            simp only at hqq
            rw [b4, ← HIS.out.2] at hqq
            clear hr h6 h4
            subst h2
            cases S
            · rw [if_pos (by decide), orZ_hit (by decide)] at hqq
              have HH := Lib.hid hqq
              clear hqq HA
              have r0 := Lies.cell HP.out.1.res 0
              have r1 := Lies.cell HP.out.1.res 1
              have r2 := Lies.cell HP.out.1.res 2
              have rf := Lies.frozen HP.out.1.res
              simp only [List.getElem?_toArray, List.getElem?_cons_zero, List.getElem?_cons_succ] at r0 r1 r2
              go_wp2_with fail
              have hl := fill3_lies (a := .int .i64 1) (b := .int .i64 k) (c := .int .i64 0) HP.out.1.res
              have hbb := fill3_below (a := .int .i64 1) (b := .int .i64 k) (c := .int .i64 0) HP.out.1.below (g := R) (by rw [HR.out]; exact Nat.le_refl _)
              change bodyPost _ _ _ _ _ (fill3 w5 R (.int .i64 1) (.int .i64 k) (.int .i64 0))
              generalize fill3 w5 R (.int .i64 1) (.int .i64 k) (.int .i64 0) = wz at hl hbb ⊢
              have q0 := Lies.cell hl 0
              have q1 := Lies.cell hl 1
              have q2 := Lies.cell hl 2
              simp only [List.getElem?_toArray, List.getElem?_cons_zero, List.getElem?_cons_succ] at q0 q1 q2
              exact bodyPost_ret (v := bzV ⟨1, k, 0⟩) (by simp [results, Try.results11, go_sem, q0, q1, q2]) rfl ⟨by rw [HH.out], hbb⟩
            · rw [if_neg (by decide)] at hqq
              have HH := Lib.hid hqq
              clear hqq HA
              go_wp2_with fail
              go_roundw
              case rel => exact ⟨k + 1, by omega, by go_num, HH.out, HP.out.1⟩
              case measure => simp [intOf]; omega
      · have b2 : (y2 == 2) = false := beq_eq_false_iff_ne.2 h2
        have hr : rr = false := Bool.eq_false_iff.2 fun h => h2 (HA.out.2.1.1 h).1
        have hqq := HA.out.1
        rw [hr, if_neg (by decide)] at hqq
        have HH := Lib.hid hqq
        clear hr hqq HA h2
        go_wp2_with fail
        go_roundw
        case rel => exact ⟨k + 1, by omega, by go_num, HH.out, HP.out.1⟩
        case measure => simp [intOf]; omega
    · obtain rfl : n = k := by omega
      rw [List.drop_eq_nil_of_le (by rw [← HN.out.1]; exact Nat.le_refl _), rds, strayZ, orZ_none] at hq
      have HQ2 := Lib.hid (hq.trans HE1.out.2)
      have HO9 := Lib.hid hO
      clear hq hO HE1 HQ HS
      obtain ⟨E3, hE3⟩ : ∃ E, E = orZ (crossZ (zonesL cs)) (insideZ (zonesL cs) (zonesL cs)) := ⟨_, rfl⟩
      have HE2 := Lib.hid (And.intro (show Q = orZ (earlyZ cs (rds 0 cs)) E3 from by rw [hE3]; exact HQ2.out) hE3)
      clear hE3 HQ2
      go_wp2_with fail
      go_loopw [59] (fun t wr => ∃ k : Nat, k ≤ n ∧ t = .int .i64 k ∧ Q = orZ (earlyZ cs (rds k (cs.drop k))) E3 ∧ BdS w R wr) (fun t _ => n - (intOf t).toNat)
      case atStart => exact ⟨0, by omega, rfl, by rw [List.drop_zero]; exact HE2.out.1, HO9.out⟩
      case round =>
        obtain ⟨k, hk, rfl, hq, hO⟩ := hrel
        by_cases hkn : k < n
        · obtain ⟨y, hy⟩ : ∃ y, cs[k]? = some y := ⟨_, List.getElem?_eq_getElem (by rw [← HN.out.1]; exact hkn)⟩
          have hdrop : cs.drop k = y :: cs.drop (k + 1) := by
            obtain ⟨h2, h3⟩ := List.getElem?_eq_some_iff.1 hy
            rw [List.drop_eq_getElem_cons h2, h3]
          rw [hdrop, rds] at hq
          obtain ⟨g, o, rfl, -, d0, d1, d2, d3, d4, d5, d6⟩ := (HN.out.2.1.below hO.below).cl hy
          have hir := isR_iff (c := y)
          have hrz : rdZ k y = ⟨(k : Int), y.res, y.frm, y.til⟩ := rfl
          rw [hrz] at hq
          have hfr := HN.out.2.2.frm (List.mem_of_getElem? hy)
          obtain ⟨y0, y1, y2, y3, y4, y5, y6⟩ := y
          simp only at d0 d1 d2 d3 d4 d5 d6 hir hq hfr
          generalize hrr : isR ⟨y0, y1, y2, y3, y4, y5, y6⟩ = rr at hq hir
          have i1 : (0 : Int) ≤ (k : Int) := by omega
          have i2 : (k : Int) < (n : Int) := by omega
          have hal : Below wr.heap.size wr (wr.alloc (.cells #[.int .i64 y0, .int .i64 y1, .int .i64 y2, .int .i64 y3, .int .i64 y4, .int .i64 y5, .int .i64 y6] 47)) := (Below.refl _ _).alloc (Nat.le_refl _) _
          have HO := Lib.hid (And.intro (hO.next hal) (Lies.new wr 47 #[.int .i64 y0, .int .i64 y1, .int .i64 y2, .int .i64 y3, .int .i64 y4, .int .i64 y5, .int .i64 y6]))
          have HA := Lib.hid (And.intro hq (And.intro hir hfr))
          clear hO hq hir hy hal hdrop hrz hrr hfr
          go_upto_region 11 with fail
          clear d0 d1 d2 d3 d4 d5 d6
          change Code.wp _ _ _ _ (wr.alloc (.cells #[.int .i64 y0, .int .i64 y1, .int .i64 y2, .int .i64 y3, .int .i64 y4, .int .i64 y5, .int .i64 y6] 47))
          generalize wr.alloc (.cells #[.int .i64 y0, .int .i64 y1, .int .i64 y2, .int .i64 y3, .int .i64 y4, .int .i64 y5, .int .i64 y6] 47) = W4 at HO ⊢
          generalize wr.heap.size = X at HO ⊢
          have e4 := Lies.cell HO.out.2 4
          simp only [List.getElem?_toArray, List.getElem?_cons_zero, List.getElem?_cons_succ] at e4
          have HWR := Lib.hid (writeOf_any y4 ((HN.out.2.1.below HO.out.1.below).mono HO.out.1.below.size))
          go_wp2_with fail
          refine HWR.out.mono ?_
          rintro e w5 ⟨rfl, hb5⟩
          have HP := Lib.hid (And.intro (HO.out.1.next hb5) (Lies.below HO.out.2 hb5 HO.out.2.lt))
          clear e4 hb5 HWR HO
          have e2 := Lies.cell HP.out.2 2
          have e4 := Lies.cell HP.out.2 4
          have e6 := Lies.cell HP.out.2 6
          simp only [List.getElem?_toArray, List.getElem?_cons_zero, List.getElem?_cons_succ] at e2 e4 e6
          obtain ⟨I, hI⟩ : ∃ I : Int, I = (((wAt y4 0 cs).getD 0 : Nat) : Int) := ⟨_, rfl⟩
          obtain ⟨S, hS⟩ : ∃ S, S = (wAt y4 0 cs).isSome := ⟨_, rfl⟩
          rw [← hI, ← hS]
          have HIS := Lib.hid (And.intro hI hS)
          clear hI hS
          by_cases h2 : y2 = 2
          · by_cases h6 : y6 = -1
            · have hr : rr = false := Bool.eq_false_iff.2 fun h => (HA.out.2.1.1 h).2 h6
              have hqq := HA.out.1
              rw [hr, if_neg (by decide)] at hqq
              have HH := Lib.hid hqq
              clear hr hqq HA
              subst h2 h6
              go_upto_region 12 with fail
              go_quiet (fail)
              go_wp2_with fail
              go_roundw
              case rel => exact ⟨k + 1, by omega, by go_num, HH.out, HP.out.1.drewN _⟩
              case measure => simp [intOf]; omega
            · have b6 : (y6 != -1) = true := by rw [bne_iff_ne]; exact h6
              have hr : rr = true := HA.out.2.1.2 ⟨h2, h6⟩
              have hqq := HA.out.1
              rw [hr, if_pos rfl, earlyZ] at hqq
              simp only at hqq
              cases hw : wAt y4 0 cs with
              | none =>
                have his := HIS.out.2
                rw [hw] at his
                obtain rfl : S = false := his
                have hqq2 : Q = orZ (earlyZ cs (rds (k + 1) (cs.drop (k + 1)))) E3 := by
                  rcases wOf_at_none hw with e | e
                  · rw [e] at hqq; exact hqq
                  · rw [e] at hqq
                    simp only at hqq
                    rw [if_neg (by have := HA.out.2.2; omega)] at hqq
                    exact hqq
                have HH := Lib.hid hqq2
                clear hr hqq hqq2 HA h6 hw
                subst h2
                go_upto_region 12 with fail
                go_quiet (fail)
                go_wp2_with fail
                go_roundw
                case rel => exact ⟨k + 1, by omega, by go_num, HH.out, HP.out.1.drewN _⟩
                case measure => simp [intOf]; omega
              | some i =>
                have his := HIS.out
                rw [hw] at his
                obtain rfl : S = true := his.2
                obtain rfl : I = (i : Int) := his.1
                rw [HN.out.2.2.wOf_at hw] at hqq
                obtain ⟨_, c, hc, -⟩ := wAt_some cs 0 i hw
                rw [Nat.sub_zero] at hc
                have e : cs.getD i default = c := by rw [List.getD_eq_getElem?_getD, hc]; rfl
                rw [e] at hqq
                have hq9 : Q = orZ (if y6 < c.frm then ⟨3, (k : Int), (i : Int)⟩ else earlyZ cs (rds (k + 1) (cs.drop (k + 1)))) E3 := hqq
                obtain ⟨g', o', hA, -, d0, d1, d2, d3, d4, d5, d6⟩ := (HN.out.2.1.below HP.out.1.below).cl hc
                injection hA with hA
                injection hA with hA1 hA2
                subst hA1 hA2
                have j1 : (0 : Int) ≤ (i : Int) := by omega
                have j2 : (i : Int) < (n : Int) := by rw [HN.out.1]; have := (List.getElem?_eq_some_iff.1 hc).1; omega
                generalize c.frm = cf at d5 hq9
                clear hr hqq HA h6 hw his e hc d0 d1 d2 d3 d4 d6
                subst h2
                by_cases hlt : y6 < cf
                · rw [if_pos hlt, orZ_hit (by decide)] at hq9
                  have HH := Lib.hid hq9
                  have dlt : decide (y6 < cf) = true := decide_eq_true hlt
                  clear hq9
                  go_upto_region 12 with fail
                  go_quiet (fail)
                  clear d5 e2 e4 e6
                  have HP2 := Lib.hid (HP.out.1.drewN nq)
                  clear HP
                  generalize w5.drewN nq = WQ at HP2 ⊢
                  have r0 := Lies.cell HP2.out.res 0
                  have r1 := Lies.cell HP2.out.res 1
                  have r2 := Lies.cell HP2.out.res 2
                  have rf := Lies.frozen HP2.out.res
                  simp only [List.getElem?_toArray, List.getElem?_cons_zero, List.getElem?_cons_succ] at r0 r1 r2
                  go_wp2_with fail
                  have hl := fill3_lies (a := .int .i64 3) (b := .int .i64 k) (c := .int .i64 i) HP2.out.res
                  have hbb := fill3_below (a := .int .i64 3) (b := .int .i64 k) (c := .int .i64 i) HP2.out.below (g := R) (by rw [HR.out]; exact Nat.le_refl _)
                  change bodyPost _ _ _ _ _ (fill3 WQ R (.int .i64 3) (.int .i64 k) (.int .i64 i))
                  generalize fill3 WQ R (.int .i64 3) (.int .i64 k) (.int .i64 i) = wz at hl hbb ⊢
                  have q0 := Lies.cell hl 0
                  have q1 := Lies.cell hl 1
                  have q2 := Lies.cell hl 2
                  simp only [List.getElem?_toArray, List.getElem?_cons_zero, List.getElem?_cons_succ] at q0 q1 q2
                  exact bodyPost_ret (v := bzV ⟨3, k, i⟩) (by simp [results, Try.results11, go_sem, q0, q1, q2]) rfl ⟨by rw [HH.out], hbb⟩
                · rw [if_neg hlt] at hq9
                  have HH := Lib.hid hq9
                  have dlt : decide (y6 < cf) = false := decide_eq_false hlt
                  clear hq9
                  go_upto_region 12 with fail
                  go_quiet (fail)
                  go_wp2_with fail
                  go_roundw
                  case rel => exact ⟨k + 1, by omega, by go_num, HH.out, HP.out.1.drewN _⟩
                  case measure => simp [intOf]; omega
          · have b2 : (y2 == 2) = false := beq_eq_false_iff_ne.2 h2
            have hr : rr = false := Bool.eq_false_iff.2 fun h => h2 (HA.out.2.1.1 h).1
            have hqq := HA.out.1
            rw [hr, if_neg (by decide)] at hqq
            have HH := Lib.hid hqq
            clear hr hqq HA h2
            go_upto_region 12 with fail
            go_quiet (fail)
            go_wp2_with fail
            go_roundw
            case rel => exact ⟨k + 1, by omega, by go_num, HH.out, HP.out.1.drewN _⟩
            case measure => simp [intOf]; omega
        · obtain rfl : n = k := by omega
          rw [List.drop_eq_nil_of_le (by rw [← HN.out.1]; exact Nat.le_refl _), rds, earlyZ, orZ_none] at hq
          have HQ3 := Lib.hid (hq.trans HE2.out.2)
          have HOA := Lib.hid hO
          clear hq hO HE2 HO9
          obtain ⟨B, hB⟩ : ∃ B, B = wr.heap.size := ⟨_, rfl⟩
          have HA0 := Lib.hid (show AlS w R B (.slice none 0 0) (zonesTo cs 0) wr from ⟨HOA.out, ZnOwn.nil _ _, by rw [hB]; exact HOA.out.below.size, by rw [hB]; exact HOA.out.res.lt, by rw [hB]; exact Nat.le_refl _⟩)
          clear hB
          go_wp2_with fail
          go_loopw [96, 11] (fun t mv wr => ∃ k : Nat, k ≤ 1001 ∧ t = .int .i64 k ∧ AlS w R B mv (zonesTo cs k) wr) (fun t _ _ => 1001 - (intOf t).toNat)
          case atStart => exact ⟨0, by omega, rfl, HA0.out⟩
          case round =>
            obtain ⟨k, hk, rfl, hO⟩ := hrel
            by_cases hkn : k < 1001
            · have HZO := Lib.hid (zoneOf_any (k : Int) HN.out.2.2 ((HN.out.2.1.below hO.bd.below).mono hO.bd.below.size))
              have hsn := zonesTo_snoc cs k
              have hle := zonesTo_len cs k
              generalize zonesTo cs k = acc at hO hsn hle
              have HO := Lib.hid hO
              have HSN := Lib.hid (And.intro hsn hle)
              clear hO hsn hle HA0
              have k1 : (k : Int) < 1001 := by omega
              go_wp2_with fail
              refine HZO.out.mono ?_
              rintro e w5 ⟨z, ok, rfl, hb5, hzv⟩
              obtain ⟨q0, q1, q2, q3⟩ := z
              have hO3 := HO.out.next hb5
              have hal3 : Below w5.heap.size w5 (w5.alloc (.cells #[.int .i64 q0, .int .i64 q1, .int .i64 q2, .bool q3] 35)) := (Below.refl _ _).alloc (Nat.le_refl _) _
              have HO3 := Lib.hid (And.intro (hO3.next hal3) (Lies.new w5 35 #[.int .i64 q0, .int .i64 q1, .int .i64 q2, .bool q3]))
              have HZV := Lib.hid hzv
              clear hO3 hal3 hzv hb5 HZO HO
              go_upto_region 20 with fail
              change Code.wp _ _ _ _ (w5.alloc (.cells #[.int .i64 q0, .int .i64 q1, .int .i64 q2, .bool q3] 35))
              generalize w5.alloc (.cells #[.int .i64 q0, .int .i64 q1, .int .i64 q2, .bool q3] 35) = W3 at HO3 ⊢
              generalize w5.heap.size = X at HO3 ⊢
              have e0 := Lies.cell HO3.out.2 0
              have e1 := Lies.cell HO3.out.2 1
              have e2 := Lies.cell HO3.out.2 2
              have e3 := Lies.cell HO3.out.2 3
              simp only [List.getElem?_toArray, List.getElem?_cons_zero, List.getElem?_cons_succ] at e0 e1 e2 e3
              cases ok
              · have hz := HSN.out.1
                rw [HZV.out, if_neg (by decide)] at hz
                have HZ := Lib.hid hz
                clear hz e0 e1 e2 e3
                go_wp2_with fail
                go_roundw
                case rel => exact ⟨k + 1, by omega, by go_num, by rw [HZ.out]; simpa using HO3.out.1⟩
                case measure => simp [intOf]; omega
              · have hz := HSN.out.1
                rw [HZV.out, if_pos rfl] at hz
                have HZ := Lib.hid hz
                clear hz
                have hO4 := HO3.out.1.next ((Below.refl _ _).alloc (Nat.le_refl _) (.cells #[.int .i64 q0, .int .i64 q1, .int .i64 q2, .bool q3] 35))
                have hown := hO4.own
                have hsz := hO4.sz.2.2
                have hnew := new_cells W3 35 (znCs ⟨q0, q1, q2, q3⟩)
                obtain ⟨Av, cv, hvv⟩ := own_slice_zn hO4.own
                have hal := HSN.out.2
                subst hvv
                have HO4 := Lib.hid hO4
                clear hO4
                go_wp2_with (at_builtin; refine wpList_app_zn rfl (.tmp 106) (.tmp 108) rfl B W3.heap.size _ acc ⟨q0, q1, q2, q3⟩ rfl rfl hown hnew (by omega) hsz ?_; intro v' w6 ho6 hb6 _)
                go_roundw
                case rel => exact ⟨k + 1, by omega, by go_num, by rw [HZ.out]; exact HO4.out.app hb6 ho6⟩
                case measure => simp [intOf]; omega
            · obtain rfl : k = 1001 := by omega
              have hzz : zonesTo cs 1001 = zonesL cs := rfl
              rw [hzz] at hO
              obtain ⟨Az, cz, hmv⟩ := own_slice_zn hO.own
              subst hmv
              obtain ⟨M, hM⟩ : ∃ M, M = (zonesL cs).length := ⟨_, rfl⟩
              have hM2 : M ≤ 1001 := by rw [hM, ← hzz]; exact zonesTo_len cs 1001
              have hrow := hO.own.rd
              rw [← hM] at hrow ⊢
              have hcz := hrow.is
              have m5 : M ≤ cz := by
                obtain ⟨_, _, e, q1, _⟩ := hcz
                injection e with _ e1 e2
                omega
              obtain ⟨Zs, hZs⟩ : ∃ Zs, Zs = zonesL cs := ⟨_, rfl⟩
              rw [← hZs] at hrow hM
              have HZS := Lib.hid (And.intro hZs (show ∀ a ∈ Zs, a.fwd = decide (a.first < a.last) from fun a ha => (HN.out.2.2.zone_pair (hZs ▸ ha) (hZs ▸ ha)).2))
              have HQ4 := Lib.hid (show Q = orZ (crossZ Zs) (insideZ Zs Zs) from by rw [hZs]; exact HQ3.out)
              obtain ⟨B2, hB2⟩ : ∃ B, B = wr.heap.size := ⟨_, rfl⟩
              have HA1 := Lib.hid (show ArS w R B2 Az cz M Zs wr from ⟨hO.bd, by rw [hB2]; exact hrow, by rw [hB2]; exact Nat.le_refl _⟩)
              have HM := Lib.hid hM
              clear hO hzz hM hrow hcz hZs hB2 HA0
              go_wp2_with fail
              go_loopw [113] (fun t wr => ∃ i : Nat, i ≤ M ∧ t = .int .i64 i ∧ Q = orZ (crossZ (Zs.drop i)) (insideZ Zs Zs) ∧ ArS w R B2 Az cz M Zs wr) (fun t _ => M - (intOf t).toNat)
              case atStart => exact ⟨0, by omega, rfl, by rw [List.drop_zero]; exact HQ4.out, HA1.out⟩
              case round =>
                obtain ⟨i, hi, rfl, hq, hO⟩ := hrel
                by_cases hin : i < M
                · obtain ⟨x, hx⟩ : ∃ x, Zs[i]? = some x := ⟨_, List.getElem?_eq_getElem (by rw [← HM.out]; exact hin)⟩
                  have hdrop : Zs.drop i = x :: Zs.drop (i + 1) := by
                    obtain ⟨h2, h3⟩ := List.getElem?_eq_some_iff.1 hx
                    rw [List.drop_eq_getElem_cons h2, h3]
                  rw [hdrop, crossZ_cons, orZ_assoc] at hq
                  obtain ⟨g, o, rfl, -, d0, d1, d2, d3⟩ := zn_at hO.row hx
                  have hfx := HZS.out.2 x (List.mem_of_getElem? hx)
                  obtain ⟨x0, x1, x2, x3⟩ := x
                  simp only at d0 d1 d2 d3 hfx
                  have i1 : (0 : Int) ≤ (i : Int) := by omega
                  have i2 : (i : Int) < (M : Int) := by omega
                  have hal : Below wr.heap.size wr (wr.alloc (.cells #[.int .i64 x0, .int .i64 x1, .int .i64 x2, .bool x3] 35)) := (Below.refl _ _).alloc (Nat.le_refl _) _
                  have HO := Lib.hid (And.intro (hO.next hal) (Lies.new wr 35 #[.int .i64 x0, .int .i64 x1, .int .i64 x2, .bool x3]))
                  obtain ⟨E5, hE5⟩ : ∃ E, E = orZ (crossZ (Zs.drop (i + 1))) (insideZ Zs Zs) := ⟨_, rfl⟩
                  rw [← hE5] at hq
                  have HQQ := Lib.hid (And.intro hq (And.intro hE5 hfx))
                  clear hO hx hdrop hq hal hE5 hfx
                  go_upto_region 26 with fail
                  clear d0 d1 d2 d3
                  change Code.wp _ _ _ _ (wr.alloc (.cells #[.int .i64 x0, .int .i64 x1, .int .i64 x2, .bool x3] 35))
                  generalize wr.alloc (.cells #[.int .i64 x0, .int .i64 x1, .int .i64 x2, .bool x3] 35) = W4 at HO ⊢
                  generalize wr.heap.size = X at HO ⊢
                  have hsl := zslice g o M cz i hin m5
                  have hzd := fun (W : World) (h : ArS w R B2 (some ⟨g, o, none⟩) cz M Zs W) => zdrop h.row HM.out hin m5
                  obtain ⟨SA, hSA⟩ : ∃ SA : Option Addr, SA = if cz = i + 1 then some ⟨g, o, none⟩ else some ⟨g, o + (i + 1) * 4, none⟩ := ⟨_, rfl⟩
                  simp only [← hSA] at hsl hzd
                  have HZD := Lib.hid hzd
                  clear hzd hSA
                  go_wp2_with fail
                  go_loopw [123] (fun t wq => ∃ j : Nat, j ≤ (M - (i + 1)) ∧ t = .int .i64 j ∧ Q = orZ (crossRow ⟨x0, x1, x2, x3⟩ ((Zs.drop (i + 1)).drop j)) E5 ∧ ArS w R B2 (some ⟨g, o, none⟩) cz M Zs wq ∧ Lies wq X 35 #[.int .i64 x0, .int .i64 x1, .int .i64 x2, .bool x3]) (fun t _ => (M - (i + 1)) - (intOf t).toNat)
                  case atStart => exact ⟨0, by omega, rfl, by rw [List.drop_zero]; exact HQQ.out.1, HO.out.1, HO.out.2⟩
                  case round =>
                    obtain ⟨j, hj, rfl, hq, hO, hL⟩ := hrel
                    by_cases hjn : j < (M - (i + 1))
                    · obtain ⟨y, hy⟩ : ∃ y, (Zs.drop (i + 1))[j]? = some y := ⟨_, List.getElem?_eq_getElem (by rw [List.length_drop, ← HM.out]; exact hjn)⟩
                      have hdrop : (Zs.drop (i + 1)).drop j = y :: (Zs.drop (i + 1)).drop (j + 1) := by
                        obtain ⟨h2, h3⟩ := List.getElem?_eq_some_iff.1 hy
                        rw [List.drop_eq_getElem_cons h2, h3]
                      rw [hdrop, crossRow] at hq
                      obtain ⟨g', o', hA, -, d0, d1, d2, d3⟩ := zn_at (HZD.out _ hO) hy
                      subst hA
                      have hfy := HZS.out.2 y (List.mem_of_mem_drop (List.mem_of_getElem? hy))
                      obtain ⟨y0, y1, y2, y3⟩ := y
                      simp only at d0 d1 d2 d3 hfy
                      have j1 : (0 : Int) ≤ (j : Int) := by omega
                      have j2 : (j : Int) < ((M - (i + 1) : Nat) : Int) := by omega
                      have hal : Below wr.heap.size wr (wr.alloc (.cells #[.int .i64 y0, .int .i64 y1, .int .i64 y2, .bool y3] 35)) := (Below.refl _ _).alloc (Nat.le_refl _) _
                      have HO := Lib.hid (And.intro (hO.next hal) (And.intro (Lies.new wr 35 #[.int .i64 y0, .int .i64 y1, .int .i64 y2, .bool y3]) (Lies.below hL hal hL.lt)))
                      have HY := Lib.hid (And.intro hq hfy)
                      clear hO hL hy hdrop hq hal hfy
                      go_upto_region 29 with fail
                      clear d0 d1 d2 d3
                      change Code.wp _ _ _ _ (wr.alloc (.cells #[.int .i64 y0, .int .i64 y1, .int .i64 y2, .bool y3] 35))
                      generalize wr.alloc (.cells #[.int .i64 y0, .int .i64 y1, .int .i64 y2, .bool y3] 35) = W5 at HO ⊢
                      generalize wr.heap.size = Y at HO ⊢
                      have e0 := Lies.cell HO.out.2.1 0
                      have e1 := Lies.cell HO.out.2.1 1
                      have e2 := Lies.cell HO.out.2.1 2
                      have e3 := Lies.cell HO.out.2.1 3
                      have c0 := Lies.cell HO.out.2.2 0
                      have c1 := Lies.cell HO.out.2.2 1
                      have c2 := Lies.cell HO.out.2.2 2
                      have c3 := Lies.cell HO.out.2.2 3
                      have r0 := Lies.cell HO.out.1.bd.res 0
                      have r1 := Lies.cell HO.out.1.bd.res 1
                      have r2 := Lies.cell HO.out.1.bd.res 2
                      have rf := Lies.frozen HO.out.1.bd.res
                      simp only [List.getElem?_toArray, List.getElem?_cons_zero, List.getElem?_cons_succ] at e0 e1 e2 e3 c0 c1 c2 c3 r0 r1 r2
                      cases x3
                      · have hq := HY.out.1
                        rw [if_neg (by simp)] at hq
                        have HH := Lib.hid hq
                        clear hq HY r0 r1 r2 rf
                        go_wp2_with fail
                        go_roundw
                        case rel => exact ⟨j + 1, by omega, by go_num, HH.out, HO.out.1, HO.out.2.2⟩
                        case measure => simp [intOf]; omega
                      · cases y3
                        · have hq := HY.out.1
                          rw [if_neg (by simp)] at hq
                          have HH := Lib.hid hq
                          clear hq HY r0 r1 r2 rf
                          go_wp2_with fail
                          go_roundw
                          case rel => exact ⟨j + 1, by omega, by go_num, HH.out, HO.out.1, HO.out.2.2⟩
                          case measure => simp [intOf]; omega
                        · have hmm : lapZ ⟨x0, x1, x2, true⟩ ⟨y0, y1, y2, true⟩ = true ↔ max x1 y1 < min x2 y2 := by
                            have f1 : x1 < x2 := of_decide_eq_true HQQ.out.2.2.symm
                            have f2 : y1 < y2 := of_decide_eq_true HY.out.2.symm
                            unfold lapZ
                            rw [decide_eq_true_iff, Int.max_lt, Int.lt_min, Int.lt_min]
                            simp only
                            omega
                          by_cases hlap : max x1 y1 < min x2 y2
                          · have hq := HY.out.1
                            rw [hmm.2 hlap, if_pos (by simp), orZ_hit (by decide)] at hq
                            have HH := Lib.hid hq
                            clear hq HY hmm
                            go_wp2_with fail
                            have hl := fill3_lies (a := .int .i64 4) (b := .int .i64 x0) (c := .int .i64 y0) HO.out.1.bd.res
                            have hbb := fill3_below (a := .int .i64 4) (b := .int .i64 x0) (c := .int .i64 y0) HO.out.1.bd.below (g := R) (by rw [HR.out]; exact Nat.le_refl _)
                            change bodyPost _ _ _ _ _ (fill3 W5 R (.int .i64 4) (.int .i64 x0) (.int .i64 y0))
                            generalize fill3 W5 R (.int .i64 4) (.int .i64 x0) (.int .i64 y0) = wz at hl hbb ⊢
                            have q0 := Lies.cell hl 0
                            have q1 := Lies.cell hl 1
                            have q2 := Lies.cell hl 2
                            simp only [List.getElem?_toArray, List.getElem?_cons_zero, List.getElem?_cons_succ] at q0 q1 q2
                            exact bodyPost_ret (v := bzV ⟨4, x0, y0⟩) (by simp [results, Try.results11, go_sem, q0, q1, q2]) rfl ⟨by rw [HH.out], hbb⟩
                          · have hq := HY.out.1
                            rw [Bool.eq_false_iff.2 (fun h => hlap (hmm.1 h)), if_neg (by simp)] at hq
                            have HH := Lib.hid hq
                            clear hq HY hmm r0 r1 r2 rf
                            go_wp2_with fail
                            go_roundw
                            case rel => exact ⟨j + 1, by omega, by go_num, HH.out, HO.out.1, HO.out.2.2⟩
                            case measure => simp [intOf]; omega
                    · obtain rfl : j = M - (i + 1) := by omega
                      rw [List.drop_eq_nil_of_le (by rw [List.length_drop, ← HM.out]; exact Nat.le_refl _), crossRow, orZ_none] at hq
                      have HH := Lib.hid (And.intro (hq.trans HQQ.out.2.1) hO)
                      clear hq hO hL
                      go_wp2_with fail
                      go_roundw
                      case rel => exact ⟨i + 1, by omega, by go_num, HH.out.1, HH.out.2⟩
                      case measure => simp [intOf]; omega
                · obtain rfl : i = M := by omega
                  rw [List.drop_eq_nil_of_le (by rw [← HM.out]; exact Nat.le_refl _), crossZ, orZ_none] at hq
                  have HQ5 := Lib.hid hq
                  have HA2 := Lib.hid hO
                  clear hq hO HA1 HQ4
                  go_wp2_with fail
                  go_loopw [155] (fun t wr => ∃ k : Nat, k ≤ i ∧ t = .int .i64 k ∧ Q = insideZ Zs (Zs.drop k) ∧ ArS w R B2 Az cz i Zs wr) (fun t _ => i - (intOf t).toNat)
                  case atStart => exact ⟨0, by omega, rfl, by rw [List.drop_zero]; exact HQ5.out, HA2.out⟩
                  case round =>
                    obtain ⟨k, hk, rfl, hq, hO⟩ := hrel
                    by_cases hkn : k < i
                    · obtain ⟨x, hx⟩ : ∃ x, Zs[k]? = some x := ⟨_, List.getElem?_eq_getElem (by rw [← HM.out]; exact hkn)⟩
                      have hdrop : Zs.drop k = x :: Zs.drop (k + 1) := by
                        obtain ⟨h2, h3⟩ := List.getElem?_eq_some_iff.1 hx
                        rw [List.drop_eq_getElem_cons h2, h3]
                      rw [hdrop, insideZ_cons] at hq
                      obtain ⟨g, o, rfl, -, d0, d1, d2, d3⟩ := zn_at hO.row hx
                      obtain ⟨x0, x1, x2, x3⟩ := x
                      simp only at d0 d1 d2 d3
                      have i1 : (0 : Int) ≤ (k : Int) := by omega
                      have i2 : (k : Int) < (i : Int) := by omega
                      have hal : Below wr.heap.size wr (wr.alloc (.cells #[.int .i64 x0, .int .i64 x1, .int .i64 x2, .bool x3] 35)) := (Below.refl _ _).alloc (Nat.le_refl _) _
                      have HO := Lib.hid (And.intro (hO.next hal) (Lies.new wr 35 #[.int .i64 x0, .int .i64 x1, .int .i64 x2, .bool x3]))
                      obtain ⟨E6, hE6⟩ : ∃ E, E = insideZ Zs (Zs.drop (k + 1)) := ⟨_, rfl⟩
                      rw [← hE6] at hq
                      have HQQ := Lib.hid (And.intro hq hE6)
                      clear hO hx hdrop hq hal hE6
                      go_upto_region 36 with fail
                      clear d0 d1 d2 d3
                      change Code.wp _ _ _ _ (wr.alloc (.cells #[.int .i64 x0, .int .i64 x1, .int .i64 x2, .bool x3] 35))
                      generalize wr.alloc (.cells #[.int .i64 x0, .int .i64 x1, .int .i64 x2, .bool x3] 35) = W4 at HO ⊢
                      generalize wr.heap.size = X at HO ⊢
                      go_wp2_with fail
                      go_loopw [161] (fun t wq => ∃ j : Nat, j ≤ i ∧ t = .int .i64 j ∧ Q = orZ (insideRow ⟨x0, x1, x2, x3⟩ (Zs.drop j)) E6 ∧ ArS w R B2 (some ⟨g, o, none⟩) cz i Zs wq ∧ Lies wq X 35 #[.int .i64 x0, .int .i64 x1, .int .i64 x2, .bool x3]) (fun t _ => i - (intOf t).toNat)
                      case atStart => exact ⟨0, by omega, rfl, by rw [List.drop_zero]; exact HQQ.out.1, HO.out.1, HO.out.2⟩
                      case round =>
                        obtain ⟨j, hj, rfl, hq, hO, hL⟩ := hrel
                        by_cases hjn : j < i
                        · obtain ⟨y, hy⟩ : ∃ y, Zs[j]? = some y := ⟨_, List.getElem?_eq_getElem (by rw [← HM.out]; exact hjn)⟩
                          have hdrop : Zs.drop j = y :: Zs.drop (j + 1) := by
                            obtain ⟨h2, h3⟩ := List.getElem?_eq_some_iff.1 hy
                            rw [List.drop_eq_getElem_cons h2, h3]
                          rw [hdrop, insideRow] at hq
                          obtain ⟨g', o', hA, -, d0, d1, d2, d3⟩ := zn_at hO.row hy
                          injection hA with hA
                          injection hA with hA1 hA2
                          subst hA1 hA2
                          obtain ⟨y0, y1, y2, y3⟩ := y
                          simp only at d0 d1 d2 d3
                          have j1 : (0 : Int) ≤ (j : Int) := by omega
                          have j2 : (j : Int) < (i : Int) := by omega
                          have hal : Below wr.heap.size wr (wr.alloc (.cells #[.int .i64 y0, .int .i64 y1, .int .i64 y2, .bool y3] 35)) := (Below.refl _ _).alloc (Nat.le_refl _) _
                          have HO := Lib.hid (And.intro (hO.next hal) (And.intro (Lies.new wr 35 #[.int .i64 y0, .int .i64 y1, .int .i64 y2, .bool y3]) (Lies.below hL hal hL.lt)))
                          have HY := Lib.hid hq
                          clear hO hL hy hdrop hq hal
                          go_upto_region 39 with fail
                          clear d0 d1 d2 d3
                          change Code.wp _ _ _ _ (wr.alloc (.cells #[.int .i64 y0, .int .i64 y1, .int .i64 y2, .bool y3] 35))
                          generalize wr.alloc (.cells #[.int .i64 y0, .int .i64 y1, .int .i64 y2, .bool y3] 35) = W5 at HO ⊢
                          generalize wr.heap.size = Y at HO ⊢
                          have e0 := Lies.cell HO.out.2.1 0
                          have e1 := Lies.cell HO.out.2.1 1
                          have e2 := Lies.cell HO.out.2.1 2
                          have e3 := Lies.cell HO.out.2.1 3
                          have c0 := Lies.cell HO.out.2.2 0
                          have c1 := Lies.cell HO.out.2.2 1
                          have c2 := Lies.cell HO.out.2.2 2
                          have c3 := Lies.cell HO.out.2.2 3
                          have r0 := Lies.cell HO.out.1.bd.res 0
                          have r1 := Lies.cell HO.out.1.bd.res 1
                          have r2 := Lies.cell HO.out.1.bd.res 2
                          have rf := Lies.frozen HO.out.1.bd.res
                          simp only [List.getElem?_toArray, List.getElem?_cons_zero, List.getElem?_cons_succ] at e0 e1 e2 e3 c0 c1 c2 c3 r0 r1 r2
                          have ROUNDS : ∀ {p : Prop}, p → p := id
                          cases x3
                          · have hq := HY.out
                            rw [if_neg (by simp)] at hq
                            have HH := Lib.hid hq
                            clear hq HY r0 r1 r2 rf ROUNDS
                            go_wp2_with fail
                            go_roundw
                            case rel => exact ⟨j + 1, by omega, by go_num, HH.out, HO.out.1, HO.out.2.2⟩
                            case measure => simp [intOf]; omega
                          · cases y3
                            · by_cases l1 : x1 < y2
                              · by_cases l2 : y1 < x2
                                · have hq := HY.out
                                  rw [show lapZ ⟨x0, x1, x2, true⟩ ⟨y0, y1, y2, false⟩ = true from decide_eq_true ⟨l1, l2⟩, if_pos (by simp), orZ_hit (by decide)] at hq
                                  have HH := Lib.hid hq
                                  clear hq HY ROUNDS
                                  go_wp2_with fail
                                  have hl := fill3_lies (a := .int .i64 5) (b := .int .i64 x0) (c := .int .i64 y0) HO.out.1.bd.res
                                  have hbb := fill3_below (a := .int .i64 5) (b := .int .i64 x0) (c := .int .i64 y0) HO.out.1.bd.below (g := R) (by rw [HR.out]; exact Nat.le_refl _)
                                  change bodyPost _ _ _ _ _ (fill3 W5 R (.int .i64 5) (.int .i64 x0) (.int .i64 y0))
                                  generalize fill3 W5 R (.int .i64 5) (.int .i64 x0) (.int .i64 y0) = wz at hl hbb ⊢
                                  have q0 := Lies.cell hl 0
                                  have q1 := Lies.cell hl 1
                                  have q2 := Lies.cell hl 2
                                  simp only [List.getElem?_toArray, List.getElem?_cons_zero, List.getElem?_cons_succ] at q0 q1 q2
                                  exact bodyPost_ret (v := bzV ⟨5, x0, y0⟩) (by simp [results, Try.results11, go_sem, q0, q1, q2]) rfl ⟨by rw [HH.out], hbb⟩
                                · have hq := HY.out
                                  rw [show lapZ ⟨x0, x1, x2, true⟩ ⟨y0, y1, y2, false⟩ = false from decide_eq_false (fun h => l2 h.2), if_neg (by simp)] at hq
                                  have HH := Lib.hid hq
                                  clear hq HY r0 r1 r2 rf ROUNDS
                                  go_wp2_with fail
                                  go_roundw
                                  case rel => exact ⟨j + 1, by omega, by go_num, HH.out, HO.out.1, HO.out.2.2⟩
                                  case measure => simp [intOf]; omega
                              · have hq := HY.out
                                rw [show lapZ ⟨x0, x1, x2, true⟩ ⟨y0, y1, y2, false⟩ = false from decide_eq_false (fun h => l1 h.1), if_neg (by simp)] at hq
                                have HH := Lib.hid hq
                                clear hq HY r0 r1 r2 rf ROUNDS
                                go_wp2_with fail
                                go_roundw
                                case rel => exact ⟨j + 1, by omega, by go_num, HH.out, HO.out.1, HO.out.2.2⟩
                                case measure => simp [intOf]; omega
                            · have hq := HY.out
                              rw [if_neg (by simp)] at hq
                              have HH := Lib.hid hq
                              clear hq HY r0 r1 r2 rf ROUNDS
                              go_wp2_with fail
                              go_roundw
                              case rel => exact ⟨j + 1, by omega, by go_num, HH.out, HO.out.1, HO.out.2.2⟩
                              case measure => simp [intOf]; omega
                        · obtain rfl : j = i := by omega
                          rw [List.drop_eq_nil_of_le (by rw [← HM.out]; exact Nat.le_refl _), insideRow, orZ_none] at hq
                          have HH := Lib.hid (And.intro (hq.trans HQQ.out.2) hO)
                          clear hq hO hL
                          go_wp2_with fail
                          go_roundw
                          case rel => exact ⟨k + 1, by omega, by go_num, HH.out.1, HH.out.2⟩
                          case measure => simp [intOf]; omega
                    · obtain rfl : k = i := by omega
                      rw [List.drop_eq_nil_of_le (by rw [← HM.out]; exact Nat.le_refl _), insideZ] at hq
                      have HH := Lib.hid (And.intro hq hO)
                      have r0 := Lies.cell hO.bd.res 0
                      have r1 := Lies.cell hO.bd.res 1
                      have r2 := Lies.cell hO.bd.res 2
                      have rf := Lies.frozen hO.bd.res
                      simp only [List.getElem?_toArray, List.getElem?_cons_zero, List.getElem?_cons_succ] at r0 r1 r2
                      clear hq hO
                      go_wp2_with fail
                      have hl := fill3_lies (a := .int .i64 0) (b := .int .i64 0) (c := .int .i64 0) HH.out.2.bd.res
                      have hbb := fill3_below (a := .int .i64 0) (b := .int .i64 0) (c := .int .i64 0) HH.out.2.bd.below (g := R) (by rw [HR.out]; exact Nat.le_refl _)
                      change bodyPost _ _ _ _ _ (fill3 wr R (.int .i64 0) (.int .i64 0) (.int .i64 0))
                      generalize fill3 wr R (.int .i64 0) (.int .i64 0) (.int .i64 0) = wz at hl hbb ⊢
                      have q0 := Lies.cell hl 0
                      have q1 := Lies.cell hl 1
                      have q2 := Lies.cell hl 2
                      simp only [List.getElem?_toArray, List.getElem?_cons_zero, List.getElem?_cons_succ] at q0 q1 q2
                      exact bodyPost_ret (v := bzV ⟨0, 0, 0⟩) (by simp [results, Try.results11, go_sem, q0, q1, q2]) rfl ⟨by rw [HH.out.1]; rfl, hbb⟩
end Go.Proofs.Ytphhbojdolhieaa
