/-
  Joined by a program out of: BagRef.
-/
import Derived.Test.YtfgangkpebkicaaGreatDoorMgAV
import Derived.Test.YtfgangkpebkicaaGreatDoorMgAB

/-
  Contracts of the reference's BagCalls and BagEvents.
-/
namespace Go.Proofs.YtfgangkpebkicaaGreatDoor
open Go.RowKit
set_option maxRecDepth 20000

theorem ownV_take {cs : List Cl} {k : Nat} {c : Cl} (h : cs[k]? = some c) (v : Int) : ownV (cs.take (k + 1)) v = if c.arg = v then ownV (cs.take k) v ++ [c] else ownV (cs.take k) v := by
  unfold ownV
  rw [List.take_add_one, h, Option.toList_some, List.filter_append]
  by_cases e : c.arg = v <;> simp [e]
set_option maxHeartbeats 4000000 in
theorem bgcalls_any {B : Nat} {v : Value} {cs : List Cl} {w : World} (h : CRd w B v cs) (hB : B ≤ w.heap.size) (hc : cs.length ≤ 200) (q : Int) :
    Calls Tryz.prog 11 #[v, .int .i64 q] w fun e w' => ∃ v', e = .returned v' ∧ COwn w' w.heap.size v' (ownV cs q) ∧ Below w.heap.size w w' := by
  obtain ⟨A, c, rfl, m1, m2⟩ := h.is
  unfold maxLen at m2
  have H := Lib.hid (h.mono hB)
  clear h
  obtain ⟨L, hL⟩ : ∃ L, L = cs.length := ⟨_, rfl⟩
  rw [← hL]
  rw [← hL] at m1 hc
  have HL := Lib.hid hL
  clear hL
  go_enter Tryz.func11, Tryz.ntmps11
  go_wp2_with fail
  go_loopw [5, 10] (fun v i wr => ∃ (k : Nat) (v0 : Value), k ≤ L ∧ i = .int .i64 k ∧ v0 = v ∧ COwn wr w.heap.size v0 (ownV (cs.take k) q) ∧ Below w.heap.size w wr) (fun _ i _ => L - (intOf i).toNat)
  case atStart => exact ⟨0, _, by omega, rfl, rfl, World.ownsRow_nil _ _ _ _, Below.refl _ _⟩
  case round =>
    obtain ⟨k, v0, hk, rfl, rfl, ho, hb⟩ := hrel
    by_cases hkL : k < L
    · obtain ⟨x, hx⟩ : ∃ x, cs[k]? = some x := ⟨_, List.getElem?_eq_getElem (by rw [← HL.out]; exact hkL)⟩
      have h' := H.out.below hb
      rw [← HL.out] at h'
      obtain ⟨g, o, rfl, -, d0, d1, d2, d3, d4, d5, d6⟩ := h'.cl hx
      have i1 : (0 : Int) ≤ (k : Int) := by omega
      have i2 : (k : Int) < (L : Int) := by omega
      have hst := ownV_take hx q
      have hpl : (ownV (cs.take k) q).length ≤ 65536 := by
        have h1 : (ownV (cs.take k) q).length ≤ (cs.take k).length := List.length_filter_le _ _
        have h2 := List.length_take_le k cs
        omega
      obtain ⟨x0, x1, x2, x3, x4, x5, x6⟩ := x
      have hba : Below wr.heap.size wr (wr.alloc (.cells #[.int .i64 x0, .int .i64 x1, .int .i64 x2, .int .i64 x3, .int .i64 x4, .int .i64 x5, .int .i64 x6] 58)) := (Below.refl _ _).alloc (Nat.le_refl _) _
      have HW := Lib.hid (And.intro (hb.trans (hba.mono hb.size)) (And.intro (ho.then_ hba) (Lies.new wr 58 #[.int .i64 x0, .int .i64 x1, .int .i64 x2, .int .i64 x3, .int .i64 x4, .int .i64 x5, .int .i64 x6])))
      have HB := Lib.hid (And.intro hst hpl)
      clear h' hx ho hb hst hpl hba
      go_upto_region 5 with fail
      clear d0 d1 d2 d3 d4 d5 d6
      change Code.wp _ _ _ _ (wr.alloc (.cells #[.int .i64 x0, .int .i64 x1, .int .i64 x2, .int .i64 x3, .int .i64 x4, .int .i64 x5, .int .i64 x6] 58))
      generalize wr.alloc (.cells #[.int .i64 x0, .int .i64 x1, .int .i64 x2, .int .i64 x3, .int .i64 x4, .int .i64 x5, .int .i64 x6] 58) = W2 at HW ⊢
      generalize wr.heap.size = X at HW ⊢
      have e0 := Lies.cell HW.out.2.2 0
      have e1 := Lies.cell HW.out.2.2 1
      have e2 := Lies.cell HW.out.2.2 2
      have e3 := Lies.cell HW.out.2.2 3
      have e4 := Lies.cell HW.out.2.2 4
      have e5 := Lies.cell HW.out.2.2 5
      have e6 := Lies.cell HW.out.2.2 6
      simp only [List.getElem?_toArray, List.getElem?_cons_zero, List.getElem?_cons_succ] at e0 e1 e2 e3 e4 e5 e6
      by_cases hq : x3 = q
      · have hz : (x3 == q) = true := by rw [beq_iff_eq]; exact hq
        have HQ := Lib.hid hq
        have HOW := Lib.hid (HW.out.2.1.alloc (.cells (clCs ⟨x0, x1, x2, x3, x4, x5, x6⟩).toArray 58))
        have HWA := Lib.hid (HW.out.1.alloc HW.out.1.size (.cells (clCs ⟨x0, x1, x2, x3, x4, x5, x6⟩).toArray 58))
        have HNC := Lib.hid (new_cells W2 58 (clCs ⟨x0, x1, x2, x3, x4, x5, x6⟩))
        clear hq
        go_wp2_with (at_builtin; refine wpList_app_cl rfl (.tmp 18) (.tmp 20) rfl w.heap.size W2.heap.size _ (ownV (cs.take k) q) ⟨x0, x1, x2, x3, x4, x5, x6⟩ rfl rfl HOW.out HNC.out HB.out.2 HWA.out.size ?_; intro v' w5 ho5 hb5 hg5; have HN := Lib.hid (And.intro ho5 hb5); clear ho5 hb5 hg5)
        go_roundw
        case rel =>
          refine ⟨k + 1, _, by omega, by go_num, rfl, ?_, HWA.out.trans HN.out.2⟩
          rw [HB.out.1, if_pos HQ.out]
          exact HN.out.1
        case measure => simp [intOf]; omega
      · have hz : (x3 == q) = false := by rw [beq_eq_false_iff_ne]; exact hq
        have HQ := Lib.hid hq
        clear hq
        go_wp2_with fail
        go_roundw
        case rel =>
          refine ⟨k + 1, _, by omega, by go_num, rfl, ?_, HW.out.1⟩
          rw [HB.out.1, if_neg HQ.out]
          exact HW.out.2.1
        case measure => simp [intOf]; omega
    · obtain rfl : k = L := by omega
      have HB := Lib.hid (And.intro ho hb)
      clear ho hb
      go_wp2_with fail
      go_ret
      refine ⟨_, rfl, ?_, HB.out.2⟩
      have := HB.out.1
      rw [HL.out, List.take_length] at this
      exact this
/-! ### The events of calls -/
def hitC (k : Nat) (y : Cl) : Bool := y.frm == (k : Int) || y.til == (k : Int)
def refE (own : List Cl) (l : List Ev) (k : Nat) : List Ev := (List.range k).flatMap fun i => List.replicate (own.countP (hitC i)) (l.getD i default)
theorem refE_succ (own : List Cl) (l : List Ev) (k : Nat) : refE own l (k + 1) = refE own l k ++ List.replicate (own.countP (hitC k)) (l.getD k default) := by
  unfold refE
  rw [List.range_succ, List.flatMap_append]
  simp
theorem refE_len {own : List Cl} (h : ∀ i, own.countP (hitC i) ≤ 1) (l : List Ev) : ∀ k, (refE own l k).length ≤ k
  | 0 => by simp [refE]
  | k + 1 => by
    rw [refE_succ, List.length_append, List.length_replicate]
    have := refE_len h l k
    have := h k
    omega
theorem count_take {own : List Cl} {j : Nat} {y : Cl} (h : own[j]? = some y) (i : Nat) : (own.take (j + 1)).countP (hitC i) = (own.take j).countP (hitC i) + if hitC i y = true then 1 else 0 := by
  rw [List.take_add_one, h, Option.toList_some, List.countP_append]
  congr 1
  cases hh : hitC i y <;> simp [hh]
structure BeI (w : World) (X : Nat) (acc : List Ev) (x : Ev) (own : List Cl) (i j : Nat) (v : Value) (wr : World) : Prop where
  below : Below w.heap.size w wr
  sz : w.heap.size ≤ X ∧ X < wr.heap.size
  either : ((own.take j).countP (hitC i) = 0 ∧ EOwn wr w.heap.size v acc ∧ Lies wr X 37 (evCs x).toArray ∧ some X ≠ v.ownBlock) ∨ ((own.take j).countP (hitC i) = 1 ∧ EOwn wr w.heap.size v (acc ++ [x]))
theorem BeI.next {w : World} {X : Nat} {acc : List Ev} {x : Ev} {own : List Cl} {i j : Nat} {v : Value} {wr w' : World} (h : BeI w X acc x own i j v wr) (hb : Below wr.heap.size wr w') : BeI w X acc x own i j v w' :=
  ⟨h.below.trans (hb.mono h.below.size), ⟨h.sz.1, Nat.lt_of_lt_of_le h.sz.2 hb.size⟩, h.either.elim (fun ⟨a, b, c, d⟩ => .inl ⟨a, b.then_ hb, Lies.below c hb c.lt, d⟩) fun ⟨a, b⟩ => .inr ⟨a, b.then_ hb⟩⟩
theorem own_unlike {w : World} {B : Nat} {v : Value} {l : List Ev} (h : EOwn w B v l) {P : Nat} (hP : w.heap.size ≤ P) : some P ≠ v.ownBlock := by
  intro e
  have := (World.ownsRow.lt h P e.symm).2
  omega
set_option maxHeartbeats 4000000 in
theorem bgevents_any {lv cv : Value} {l : List Ev} {own : List Cl} {w : World} (hl : ERd w w.heap.size lv l) (hc : CRd w w.heap.size cv own) (hL200 : l.length ≤ 200) (hN200 : own.length ≤ 200) (h1 : ∀ i, own.countP (hitC i) ≤ 1) :
    Calls Tryz.prog 10 #[lv, cv] w fun e w' => ∃ v', e = .returned v' ∧ EOwn w' w.heap.size v' (refE own l l.length) ∧ Below w.heap.size w w' := by
  obtain ⟨Al, cl, rfl, m1, m2⟩ := hl.is
  obtain ⟨Ac, cc, rfl, m3, m4⟩ := hc.is
  unfold maxLen at m2 m4
  have H := Lib.hid (And.intro hl hc)
  clear hl hc
  obtain ⟨L, hL⟩ : ∃ L, L = l.length := ⟨_, rfl⟩
  obtain ⟨N, hN⟩ : ∃ N, N = own.length := ⟨_, rfl⟩
  rw [← hL] at H m1 hL200 ⊢
  rw [← hN] at H m3 hN200 ⊢
  have HL := Lib.hid (And.intro hL hN)
  have HU := Lib.hid h1
  clear hL hN h1
  go_enter Tryz.func10, Tryz.ntmps10
  go_wp2_with fail
  go_loopw [5, 12] (fun v i wr => ∃ (k : Nat) (v0 : Value), k ≤ L ∧ i = .int .i64 k ∧ v0 = v ∧ EOwn wr w.heap.size v0 (refE own l k) ∧ Below w.heap.size w wr) (fun _ i _ => L - (intOf i).toNat)
  case atStart => exact ⟨0, _, by omega, rfl, rfl, World.ownsRow_nil _ _ _ _, Below.refl _ _⟩
  case round =>
    obtain ⟨k, v0, hk, rfl, rfl, ho, hb⟩ := hrel
    by_cases hkL : k < L
    · obtain ⟨x, hx⟩ : ∃ x, l[k]? = some x := ⟨_, List.getElem?_eq_getElem (by rw [← HL.out.1]; exact hkL)⟩
      obtain ⟨g, o, rfl, -, d0, d1, d2, d3⟩ := (H.out.1.below hb).ev hx
      have i1 : (0 : Int) ≤ (k : Int) := by omega
      have i2 : (k : Int) < (L : Int) := by omega
      have hst := refE_succ own l k
      rw [show l.getD k default = x by rw [List.getD_eq_getElem?_getD, hx]; rfl] at hst
      have hpl := refE_len HU.out l k
      obtain ⟨acc, hacc⟩ : ∃ acc, acc = refE own l k := ⟨_, rfl⟩
      rw [← hacc] at hst hpl ho
      have hba : Below wr.heap.size wr (wr.alloc (.cells (evCs x).toArray 37)) := (Below.refl _ _).alloc (Nat.le_refl _) _
      have hI : BeI w wr.heap.size acc x own k 0 v0 (wr.alloc (.cells (evCs x).toArray 37)) :=
        ⟨hb.trans (hba.mono hb.size), ⟨hb.size, by simp⟩, .inl ⟨by simp, ho.then_ hba, Lies.new _ _ _, own_unlike ho (Nat.le_refl _)⟩⟩
      have HI := Lib.hid hI
      have HB := Lib.hid (And.intro hst hpl)
      have HX := Lib.hid hb
      clear hx ho hb hst hpl hba hI hacc
      obtain ⟨x0, x1, x2, x3⟩ := x
      go_upto_region 5 with fail
      clear d0 d1 d2 d3
      change Code.wp _ _ _ _ (wr.alloc (.cells #[.int .i64 x0, .int .i64 x1, .int .i64 x2, .int .i64 x3] 37))
      have hI := HI.out
      change BeI w wr.heap.size acc ⟨x0, x1, x2, x3⟩ own k 0 v0 (wr.alloc (.cells #[.int .i64 x0, .int .i64 x1, .int .i64 x2, .int .i64 x3] 37)) at hI
      clear HI
      generalize wr.alloc (.cells #[.int .i64 x0, .int .i64 x1, .int .i64 x2, .int .i64 x3] 37) = W1 at hI ⊢
      have HWX := Lib.hid HX.out.size
      obtain ⟨X, hX⟩ : ∃ X, X = wr.heap.size := ⟨_, rfl⟩
      rw [← hX] at hI HWX ⊢
      clear HX hX
      have HI := Lib.hid hI
      clear hI
      go_wp2_with fail
      go_loopw [5, 19] (fun v i wr => ∃ j : Nat, j ≤ N ∧ i = .int .i64 j ∧ BeI w X acc ⟨x0, x1, x2, x3⟩ own k j v wr) (fun _ i _ => N - (intOf i).toNat)
      case atStart => exact ⟨0, by omega, rfl, HI.out⟩
      case round =>
        clear HI
        obtain ⟨j, hj, rfl, hI⟩ := hrel
        by_cases hjN : j < N
        · obtain ⟨y, hy⟩ : ∃ y, own[j]? = some y := ⟨_, List.getElem?_eq_getElem (by rw [← HL.out.2]; exact hjN)⟩
          obtain ⟨g2, o2, rfl, -, d0, d1, d2, d3, d4, d5, d6⟩ := (H.out.2.below hI.below).cl hy
          have i3 : (0 : Int) ≤ (j : Int) := by omega
          have i4 : (j : Int) < (N : Int) := by omega
          have hct := count_take hy k
          have hmono : (own.take (j + 1)).countP (hitC k) ≤ 1 := by
            have h1 := HU.out k
            have h2 : (own.take (j + 1)).countP (hitC k) ≤ own.countP (hitC k) := (List.take_sublist _ _).countP_le
            omega
          obtain ⟨y0, y1, y2, y3, y4, y5, y6⟩ := y
          have hba : Below wr.heap.size wr (wr.alloc (.cells #[.int .i64 y0, .int .i64 y1, .int .i64 y2, .int .i64 y3, .int .i64 y4, .int .i64 y5, .int .i64 y6] 58)) := (Below.refl _ _).alloc (Nat.le_refl _) _
          have HW := Lib.hid (And.intro (hI.next hba) (Lies.new wr 58 #[.int .i64 y0, .int .i64 y1, .int .i64 y2, .int .i64 y3, .int .i64 y4, .int .i64 y5, .int .i64 y6]))
          have HC := Lib.hid (And.intro hct hmono)
          clear hy hI hct hmono hba
          go_upto_region 8 with fail
          clear d0 d1 d2 d3 d4 d5 d6
          change Code.wp _ _ _ _ (wr.alloc (.cells #[.int .i64 y0, .int .i64 y1, .int .i64 y2, .int .i64 y3, .int .i64 y4, .int .i64 y5, .int .i64 y6] 58))
          generalize wr.alloc (.cells #[.int .i64 y0, .int .i64 y1, .int .i64 y2, .int .i64 y3, .int .i64 y4, .int .i64 y5, .int .i64 y6] 58) = W2 at HW ⊢
          generalize wr.heap.size = Y at HW ⊢
          have e5 := Lies.cell HW.out.2 5
          have e6 := Lies.cell HW.out.2 6
          simp only [List.getElem?_toArray, List.getElem?_cons_zero, List.getElem?_cons_succ] at e5 e6
          cases hh : hitC k ⟨y0, y1, y2, y3, y4, y5, y6⟩
          · have ht1 : (y5 == (k : Int)) = false := by unfold hitC at hh; rw [Bool.or_eq_false_iff] at hh; exact hh.1
            have ht2 : (y6 == (k : Int)) = false := by unfold hitC at hh; rw [Bool.or_eq_false_iff] at hh; exact hh.2
            have hct := HC.out.1
            rw [hh, if_neg (by decide), Nat.add_zero] at hct
            have HH := Lib.hid hct
            clear hh hct
            go_wp2_with fail
            go_roundw
            case rel =>
              refine ⟨j + 1, by omega, by go_num, HW.out.1.below, HW.out.1.sz, ?_⟩
              rw [HH.out]
              exact HW.out.1.either
            case measure => simp [intOf]; omega
          · have hct := HC.out.1
            rw [hh, if_pos rfl] at hct
            have hei : (own.take j).countP (hitC k) = 0 ∧ EOwn W2 w.heap.size u5 acc ∧ Lies W2 X 37 (evCs ⟨x0, x1, x2, x3⟩).toArray ∧ some X ≠ u5.ownBlock := HW.out.1.either.resolve_right fun h => by
              have := HC.out.2
              omega
            have HEI := Lib.hid hei
            have HH := Lib.hid (show (own.take (j + 1)).countP (hitC k) = 1 by omega)
            have f0 := Lies.cell hei.2.2.1 0
            have f1 := Lies.cell hei.2.2.1 1
            have f2 := Lies.cell hei.2.2.1 2
            have f3 := Lies.cell hei.2.2.1 3
            simp only [List.getElem?_toArray, List.getElem?_cons_zero, List.getElem?_cons_succ] at f0 f1 f2 f3
            have HOW := Lib.hid (hei.2.1.alloc (.cells (evCs ⟨x0, x1, x2, x3⟩).toArray 37))
            have HWA := Lib.hid (HW.out.1.below.alloc HW.out.1.below.size (.cells (evCs ⟨x0, x1, x2, x3⟩).toArray 37))
            have HNC := Lib.hid (new_cells W2 37 (evCs ⟨x0, x1, x2, x3⟩))
            have hlen : acc.length ≤ 65536 := by have := HB.out.2; omega
            have HLN := Lib.hid hlen
            obtain ⟨v5, hv5⟩ : ∃ v5, v5 = u5 := ⟨_, rfl⟩
            have hdone : ∀ v' w5, EOwn w5 w.heap.size v' (acc ++ [⟨x0, x1, x2, x3⟩]) → Below w.heap.size (W2.alloc (.cells (evCs ⟨x0, x1, x2, x3⟩).toArray 37)) w5 → BeI w X acc ⟨x0, x1, x2, x3⟩ own k (j + 1) v' w5 := fun v' w5 ho5 hb5 =>
              ⟨HWA.out.trans hb5, ⟨HWX.out, Nat.lt_of_lt_of_le (Nat.lt_of_lt_of_le HW.out.1.sz.2 (by simp)) hb5.size⟩, .inr ⟨HH.out, ho5⟩⟩
            have HD := Lib.hid hdone
            clear hei hct hlen hdone hv5
            by_cases t1 : y5 = (k : Int)
            · have ht1 : (y5 == (k : Int)) = true := by rw [beq_iff_eq]; exact t1
              clear hh t1
              go_wp2_with (at_builtin; refine wpList_app_ev rfl (.tmp 33) (.tmp 35) rfl w.heap.size W2.heap.size _ acc ⟨x0, x1, x2, x3⟩ rfl rfl HOW.out HNC.out HLN.out HWA.out.size ?_; intro v' w5 ho5 hb5 hg5; have HN := Lib.hid (And.intro ho5 hb5); clear ho5 hb5 hg5)
              go_roundw
              case rel => exact ⟨j + 1, by omega, by go_num, HD.out _ _ HN.out.1 HN.out.2⟩
              case measure => simp [intOf]; omega
            · have ht1 : (y5 == (k : Int)) = false := by rw [beq_eq_false_iff_ne]; exact t1
              have ht2 : (y6 == (k : Int)) = true := by unfold hitC at hh; simp only at hh; rw [ht1, Bool.false_or] at hh; exact hh
              clear hh t1
              go_wp2_with (at_builtin; refine wpList_app_ev rfl (.tmp 33) (.tmp 35) rfl w.heap.size W2.heap.size _ acc ⟨x0, x1, x2, x3⟩ rfl rfl HOW.out HNC.out HLN.out HWA.out.size ?_; intro v' w5 ho5 hb5 hg5; have HN := Lib.hid (And.intro ho5 hb5); clear ho5 hb5 hg5)
              go_roundw
              case rel => exact ⟨j + 1, by omega, by go_num, HD.out _ _ HN.out.1 HN.out.2⟩
              case measure => simp [intOf]; omega
        · obtain rfl : j = N := by omega
          have hfull : own.take j = own := by rw [HL.out.2, List.take_length]
          have hei := hI.either
          rw [hfull] at hei
          have hfin : EOwn wr w.heap.size u5 (refE own l (k + 1)) := by
            rw [HB.out.1]
            rcases hei with ⟨h1, h2, _⟩ | ⟨h1, h2⟩
            · rw [h1, List.replicate_zero, List.append_nil]
              exact h2
            · rw [h1]
              exact h2
          have HF := Lib.hid (And.intro hfin hI.below)
          clear hfin hei hI hfull
          go_wp2_with fail
          go_roundw
          case rel => exact ⟨k + 1, _, by omega, by go_num, rfl, HF.out.1, HF.out.2⟩
          case measure => simp [intOf]; omega
    · obtain rfl : k = L := by omega
      have HB := Lib.hid (And.intro ho hb)
      clear ho hb
      go_wp2_with fail
      go_ret
      exact ⟨_, rfl, HB.out.1, HB.out.2⟩
/-- The events of the calls of number v are its part. -/
theorem refE_bag {l : List Ev} (h : (callsOf [4] l).2.2 = 0) (v : Int) : (∀ i, (ownV (callsOf [4] l).1 v).countP (hitC i) ≤ 1) ∧ refE (ownV (callsOf [4] l).1 v) l l.length = bagL l v := by
  have hB := calls_bagH h
  have hone : ∀ i (c d : Cl), c ∈ (callsOf [4] l).1 → d ∈ (callsOf [4] l).1 → hitC i c = true → hitC i d = true → c = d := fun i c d hc hd h1 h2 => by
    have h3 := bag_one h hc hd
    have h4 := bag_one h hd hc
    unfold hitC at h1 h2
    rw [Bool.or_eq_true, beq_iff_eq, beq_iff_eq] at h1 h2
    rcases h1 with h1 | h1
    · rcases h2 with h2 | h2
      · exact h3.1 (h1.trans h2.symm)
      · exact absurd (h2.trans h1.symm) h4.2.2
    · rcases h2 with h2 | h2
      · exact absurd (h1.trans h2.symm) h3.2.2
      · exact h3.2.1 (by omega) (h1.trans h2.symm)
  have hnd : (callsOf [4] l).1.Pairwise fun c d => c ≠ d := by
    rw [List.pairwise_iff_getElem]
    intro i j hi hj hij e
    have hu := calls_unlike h i j _ _ (List.getElem?_eq_getElem hi) (List.getElem?_eq_getElem hj)
    have := hu.1 (by rw [e])
    omega
  have hcount : ∀ i, (ownV (callsOf [4] l).1 v).countP (hitC i) = if bagK (callsOf [4] l).1 v (i : Int) = true then 1 else 0 := fun i => by
    by_cases hk : bagK (callsOf [4] l).1 v (i : Int) = true
    · rw [if_pos hk]
      obtain ⟨c, hc, hv, hz⟩ := bagK_iff.1 hk
      have hhit : hitC i c = true := by
        unfold hitC
        rw [Bool.or_eq_true, beq_iff_eq, beq_iff_eq]
        rcases hz with hz | ⟨_, hz⟩
        · exact .inl hz
        · exact .inr hz
      rw [List.countP_eq_length_filter]
      have hsub : (ownV (callsOf [4] l).1 v).filter (hitC i) = [c] := by
        have hmem : ∀ d, d ∈ (ownV (callsOf [4] l).1 v).filter (hitC i) ↔ d = c := fun d => by
          rw [List.mem_filter, ownV_mem]
          constructor
          · rintro ⟨⟨h1, _⟩, h2⟩
            exact hone i d c h1 hc h2 hhit
          · rintro rfl
            exact ⟨⟨hc, hv⟩, hhit⟩
        have hnd2 : ((ownV (callsOf [4] l).1 v).filter (hitC i)).Pairwise fun c d => c ≠ d := (hnd.filter _).filter _
        generalize (ownV (callsOf [4] l).1 v).filter (hitC i) = fl at hmem hnd2
        cases fl with
        | nil => exact absurd ((hmem c).2 rfl) List.not_mem_nil
        | cons a r =>
          have ha := (hmem a).1 List.mem_cons_self
          subst ha
          cases r with
          | nil => rfl
          | cons b r =>
            have hb := (hmem b).1 (List.mem_cons_of_mem _ List.mem_cons_self)
            exact absurd hb.symm ((List.pairwise_cons.1 hnd2).1 b List.mem_cons_self)
      rw [hsub]
      rfl
    · rw [if_neg hk, List.countP_eq_zero]
      intro c hc hh
      obtain ⟨hc1, hc2⟩ := ownV_mem.1 hc
      refine hk (bagK_iff.2 ⟨c, hc1, hc2, ?_⟩)
      unfold hitC at hh
      rw [Bool.or_eq_true, beq_iff_eq, beq_iff_eq] at hh
      rcases hh with hh | hh
      · exact .inl hh
      · exact .inr ⟨by omega, hh⟩
  refine ⟨fun i => by rw [hcount i]; split <;> omega, ?_⟩
  have key : ∀ k, k ≤ l.length → refE (ownV (callsOf [4] l).1 v) l k = subL (bagK (callsOf [4] l).1 v) 0 (l.take k) := by
    intro k
    induction k with
    | zero => intro _; simp [refE, subL]
    | succ k ih =>
      intro hk
      rw [refE_succ, ih (by omega), subL_take (List.getElem?_eq_getElem (show k < l.length by omega)), hcount k]
      rw [show l.getD k default = l[k] by rw [List.getD_eq_getElem?_getD, List.getElem?_eq_getElem (show k < l.length by omega)]; rfl]
      split
      · rfl
      · rw [List.replicate_zero, List.append_nil]
  rw [key l.length (Nat.le_refl _), List.take_length]
  rfl
end Go.Proofs.YtfgangkpebkicaaGreatDoor
