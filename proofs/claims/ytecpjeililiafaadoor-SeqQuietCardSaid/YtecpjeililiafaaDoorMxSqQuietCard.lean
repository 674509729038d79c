/-
  Joined by a program out of: RefCalm, SqQuietW, SqQuietCard.
-/
import Derived.Test.YtecpjeililiafaaDoorMgBQ
import Derived.Test.YtecpjeililiafaaDoorMgBN
import Derived.Test.YtecpjeililiafaaDoorMgAX
import Derived.Test.YtecpjeililiafaaDoorTie
import Derived.Test.YtecpjeililiafaaDoorCards
import Derived.SevenTiedAt
import Derived.Stop.Joined

/-
  Contracts of the reference's CalmOf, CalmRel.
-/
namespace Go.Proofs.YtecpjeililiafaaDoor
open Go.RowKit
set_option maxRecDepth 20000

theorem quietB_any (cs : List Cl) (t : Int) : quietB cs t = (cs.any (fun y => decide (y.frm ≤ t)) && !cs.any (fun y => decide (y.frm ≤ t ∧ (y.til = -1 ∨ t < y.til)))) := by
  unfold quietB
  congr 1
  rw [List.all_eq_not_any_not]
  congr 2
  funext y
  rw [Bool.eq_iff_iff]
  simp only [Bool.not_eq_true', decide_eq_false_iff_not, decide_eq_true_iff]
  constructor
  · intro h
    have h1 : y.frm ≤ t := Classical.byContradiction fun h2 => h fun h3 => absurd h3 h2
    refine ⟨h1, ?_⟩
    apply Classical.byContradiction
    intro h2
    exact h fun _ => ⟨fun e => h2 (.inl e), by omega⟩
  · rintro ⟨h1, h2⟩ h3
    have := h3 h1
    rcases h2 with h2 | h2 <;> omega
def begJ (cs : List Cl) (t : Int) (j : Nat) : Bool := (cs.take j).any fun y => decide (y.frm ≤ t)
def opnJ (cs : List Cl) (t : Int) (j : Nat) : Bool := (cs.take j).any fun y => decide (y.frm ≤ t ∧ (y.til = -1 ∨ t < y.til))
theorem begJ_succ {cs : List Cl} {t : Int} {j : Nat} {y : Cl} (hy : cs[j]? = some y) : begJ cs t (j + 1) = (begJ cs t j || decide (y.frm ≤ t)) := by
  unfold begJ
  rw [List.take_add_one, hy, List.any_append]
  simp
theorem opnJ_succ {cs : List Cl} {t : Int} {j : Nat} {y : Cl} (hy : cs[j]? = some y) : opnJ cs t (j + 1) = (opnJ cs t j || decide (y.frm ≤ t ∧ (y.til = -1 ∨ t < y.til))) := by
  unfold opnJ
  rw [List.take_add_one, hy, List.any_append]
  simp
set_option maxHeartbeats 8000000 in
theorem calmOf_any {B : Nat} {v : Value} {cs : List Cl} {w : World} (h : CRd w B v cs) (hB : B ≤ w.heap.size) (hl : cs.length ≤ 1000) (hf : ∀ c ∈ cs, 0 ≤ c.frm ∧ c.frm ≤ 1000) :
    Calls Tryd.prog 42 #[v] w fun e w' => ∃ v, e = .returned v ∧ NOwn w' w.heap.size v (cs.map (epochC cs)) ∧ Below w.heap.size w w' := by
  obtain ⟨A, c, rfl, -, -⟩ := h.is
  have H := Lib.hid (And.intro h hB)
  obtain ⟨m, hm⟩ : ∃ m, m = cs.length := ⟨_, rfl⟩
  rw [← hm] at hl ⊢
  have HM := Lib.hid (And.intro hm hf)
  clear h hB hm hf
  go_enter Tryd.func42, Tryd.ntmps42
  go_wp2_with fail
  go_loopw [14, 3] (fun t ov wr => ∃ k : Nat, k ≤ m ∧ t = .int .i64 k ∧ NOwn wr w.heap.size ov ((cs.take k).map (epochC cs)) ∧ Below w.heap.size w wr) (fun t _ _ => m - (intOf t).toNat)
  case atStart => exact ⟨0, by omega, rfl, NOwn.nil _ _, Below.refl _ _⟩
  case round =>
    obtain ⟨k, hk, rfl, hown, hb⟩ := hrel
    by_cases hkm : k < m
    · obtain ⟨x, hx⟩ : ∃ x, cs[k]? = some x := ⟨_, List.getElem?_eq_getElem (by rw [← HM.out.1]; exact hkm)⟩
      have hfx := HM.out.2 x (List.mem_of_getElem? hx)
      have htk : (cs.take (k + 1)).map (epochC cs) = (cs.take k).map (epochC cs) ++ [epochC cs x] := by rw [List.take_add_one, hx, List.map_append]; rfl
      have h' := H.out.1.below (hb.mono H.out.2)
      rw [← HM.out.1] at h'
      obtain ⟨g, o, rfl, -, d0, d1, d2, d3, d4, d5, d6⟩ := h'.cl hx
      obtain ⟨F, hF⟩ : ∃ F : Nat, x.frm = (F : Int) := ⟨x.frm.toNat, by omega⟩
      have hep : epochC cs x = ((quietN cs F : Nat) : Int) := by unfold epochC; rw [hF, Int.toNat_natCast]
      rw [hep] at htk
      have HTK := Lib.hid htk
      have HOW := Lib.hid (And.intro hown hb)
      obtain ⟨x0, x1, x2, x3, x4, x5, x6⟩ := x
      simp only at hF d0 d1 d2 d3 d4 d5 d6 hfx
      subst hF
      have hF1 : F ≤ 1000 := by omega
      have i1 : (0 : Int) ≤ (k : Int) := by omega
      have i2 : (k : Int) < (m : Int) := by omega
      have hal : Below wr.heap.size wr (wr.alloc (.cells (clCs ⟨x0, x1, x2, x3, x4, F, x6⟩).toArray 57)) := (Below.refl _ _).alloc (Nat.le_refl _) _
      have hnew : Lies (wr.alloc (.cells (clCs ⟨x0, x1, x2, x3, x4, F, x6⟩).toArray 57)) wr.heap.size 57 (clCs ⟨x0, x1, x2, x3, x4, F, x6⟩).toArray := Lies.new _ _ _
      have HO := Lib.hid (And.intro (hown.alloc (.cells (clCs ⟨x0, x1, x2, x3, x4, F, x6⟩).toArray 57)) (hb.trans (hal.mono hb.size)))
      clear hown hb hx htk h' hep hal hfx HOW
      go_upto_region 5 with fail
      change Code.wp _ _ _ _ (wr.alloc (.cells (clCs ⟨x0, x1, x2, x3, x4, F, x6⟩).toArray 57))
      generalize wr.alloc (.cells (clCs ⟨x0, x1, x2, x3, x4, F, x6⟩).toArray 57) = W1 at hnew HO ⊢
      generalize wr.heap.size = X at hnew ⊢
      have e5 : W1.cell? ⟨X, 5, none⟩ = some (.int .i64 F) := Lies.cell hnew 5
      clear d0 d1 d2 d3 d4 d5 d6 hnew
      go_wp2_with fail
      obtain ⟨wo, hwo⟩ : ∃ wo : World, wo = W1 := ⟨_, rfl⟩
      go_loopw [20, 6] (fun t nv wr => ∃ p : Nat, p ≤ F ∧ t = .int .i64 p ∧ nv = .int .i64 (quietN cs p : Nat) ∧ Below W1.heap.size W1 wr) (fun t _ _ => F - (intOf t).toNat)
      case atStart => exact ⟨0, by omega, rfl, rfl, Below.refl _ _⟩
      case round =>
        obtain ⟨p, hp, rfl, rfl, hb1⟩ := hrel
        have hqn : quietN cs p ≤ p := by unfold quietN; exact Nat.le_trans List.countP_le_length (by simp)
        have hqs := quietN_succ cs p
        by_cases hpF : p < F
        · have i3 : (p : Int) < (F : Int) := by omega
          have HB1 := Lib.hid hb1
          have HQS := Lib.hid hqs
          clear hb1 hqs
          generalize hN : quietN cs p = N at hqn HQS ⊢
          clear hN
          go_wp2_with fail
          obtain ⟨W5, rfl⟩ : ∃ W5, W5 = wr := ⟨_, rfl⟩
          go_loopw [25, 8, 9] (fun t bv qv wr => ∃ j : Nat, j ≤ m ∧ t = .int .i64 j ∧ bv = .bool (begJ cs p j) ∧ qv = .bool (opnJ cs p j) ∧ Below W1.heap.size W1 wr) (fun t _ _ _ => m - (intOf t).toNat)
          case atStart => exact ⟨0, by omega, rfl, rfl, rfl, HB1.out⟩
          case round =>
            obtain ⟨j, hj, rfl, rfl, rfl, hb2⟩ := hrel
            by_cases hjm : j < m
            · obtain ⟨y, hy⟩ : ∃ y, cs[j]? = some y := ⟨_, List.getElem?_eq_getElem (by rw [← HM.out.1]; exact hjm)⟩
              have hbj := begJ_succ (t := (p : Int)) hy
              have hoj := opnJ_succ (t := (p : Int)) hy
              have hbw := HO.out.2.trans (hb2.mono HO.out.2.size)
              have h' := H.out.1.below (hbw.mono H.out.2)
              rw [← HM.out.1] at h'
              obtain ⟨g', o', hA, -, d0, d1, d2, d3, d4, d5, d6⟩ := h'.cl hy
              injection hA with hA
              injection hA with hA1 hA2
              subst hA1
              subst hA2
              obtain ⟨y0, y1, y2, y3, y4, y5, y6⟩ := y
              simp only at d0 d1 d2 d3 d4 d5 d6 hbj hoj
              have j1 : (0 : Int) ≤ (j : Int) := by omega
              have j2 : (j : Int) < (m : Int) := by omega
              have hal : Below wr.heap.size wr (wr.alloc (.cells (clCs ⟨y0, y1, y2, y3, y4, y5, y6⟩).toArray 57)) := (Below.refl _ _).alloc (Nat.le_refl _) _
              have hnew : Lies (wr.alloc (.cells (clCs ⟨y0, y1, y2, y3, y4, y5, y6⟩).toArray 57)) wr.heap.size 57 (clCs ⟨y0, y1, y2, y3, y4, y5, y6⟩).toArray := Lies.new _ _ _
              have HB2 := Lib.hid (hb2.trans (hal.mono hb2.size))
              clear hy hb2 hbw h' hal
              go_upto_region 13 with fail
              change Code.wp _ _ _ _ (wr.alloc (.cells (clCs ⟨y0, y1, y2, y3, y4, y5, y6⟩).toArray 57))
              generalize wr.alloc (.cells (clCs ⟨y0, y1, y2, y3, y4, y5, y6⟩).toArray 57) = W2 at hnew HB2 ⊢
              generalize wr.heap.size = X2 at hnew ⊢
              have c5 : W2.cell? ⟨X2, 5, none⟩ = some (.int .i64 y5) := Lies.cell hnew 5
              have c6 : W2.cell? ⟨X2, 6, none⟩ = some (.int .i64 y6) := Lies.cell hnew 6
              clear d0 d1 d2 d3 d4 d5 d6 hnew
              have HBJ := Lib.hid hbj
              have HOJ := Lib.hid hoj
              clear hbj hoj
              generalize begJ cs p j = bb at HBJ ⊢
              generalize opnJ cs p j = oo at HOJ ⊢
              cases bb
              · cases oo
                · skip
                  by_cases hf : y5 ≤ (p : Int)
                  · by_cases ht : y6 = -1
                    · have HNB : Hid (decide (y5 ≤ (p : Int)) = true) := Lib.hid (decide_eq_true hf)
                      have HNO : Hid (decide (y5 ≤ (p : Int) ∧ (y6 = -1 ∨ (p : Int) < y6)) = true) := Lib.hid (decide_eq_true ⟨hf, .inl ht⟩)
                      have hz : (y6 == -1) = true := by rw [beq_iff_eq]; exact ht
                      clear ht
                      go_wp2_with fail
                      go_roundw
                      case rel => exact ⟨j + 1, by omega, by go_num, by rw [HBJ.out, HNB.out]; rfl, by rw [HOJ.out, HNO.out]; rfl, HB2.out⟩
                      case measure => simp [intOf]; omega
                    · have hz : (y6 == -1) = false := by rw [beq_eq_false_iff_ne]; exact ht
                      by_cases hg : (p : Int) < y6
                      · have HNB : Hid (decide (y5 ≤ (p : Int)) = true) := Lib.hid (decide_eq_true hf)
                        have HNO : Hid (decide (y5 ≤ (p : Int) ∧ (y6 = -1 ∨ (p : Int) < y6)) = true) := Lib.hid (decide_eq_true ⟨hf, .inr hg⟩)
                        clear ht
                        go_wp2_with fail
                        go_roundw
                        case rel => exact ⟨j + 1, by omega, by go_num, by rw [HBJ.out, HNB.out]; rfl, by rw [HOJ.out, HNO.out]; rfl, HB2.out⟩
                        case measure => simp [intOf]; omega
                      · have HNB : Hid (decide (y5 ≤ (p : Int)) = true) := Lib.hid (decide_eq_true hf)
                        have HNO : Hid (decide (y5 ≤ (p : Int) ∧ (y6 = -1 ∨ (p : Int) < y6)) = false) := Lib.hid (decide_eq_false fun h => by rcases h.2 with h | h; exact ht h; exact hg h)
                        clear ht
                        go_wp2_with fail
                        go_roundw
                        case rel => exact ⟨j + 1, by omega, by go_num, by rw [HBJ.out, HNB.out]; rfl, by rw [HOJ.out, HNO.out]; rfl, HB2.out⟩
                        case measure => simp [intOf]; omega
                  · have HNB : Hid (decide (y5 ≤ (p : Int)) = false) := Lib.hid (decide_eq_false hf)
                    have HNO : Hid (decide (y5 ≤ (p : Int) ∧ (y6 = -1 ∨ (p : Int) < y6)) = false) := Lib.hid (decide_eq_false fun h => hf h.1)
                    go_wp2_with fail
                    go_roundw
                    case rel => exact ⟨j + 1, by omega, by go_num, by rw [HBJ.out, HNB.out]; rfl, by rw [HOJ.out, HNO.out]; rfl, HB2.out⟩
                    case measure => simp [intOf]; omega
                · skip
                  by_cases hf : y5 ≤ (p : Int)
                  · by_cases ht : y6 = -1
                    · have HNB : Hid (decide (y5 ≤ (p : Int)) = true) := Lib.hid (decide_eq_true hf)
                      have HNO : Hid (decide (y5 ≤ (p : Int) ∧ (y6 = -1 ∨ (p : Int) < y6)) = true) := Lib.hid (decide_eq_true ⟨hf, .inl ht⟩)
                      have hz : (y6 == -1) = true := by rw [beq_iff_eq]; exact ht
                      clear ht
                      go_wp2_with fail
                      go_roundw
                      case rel => exact ⟨j + 1, by omega, by go_num, by rw [HBJ.out, HNB.out]; rfl, by rw [HOJ.out, HNO.out]; rfl, HB2.out⟩
                      case measure => simp [intOf]; omega
                    · have hz : (y6 == -1) = false := by rw [beq_eq_false_iff_ne]; exact ht
                      by_cases hg : (p : Int) < y6
                      · have HNB : Hid (decide (y5 ≤ (p : Int)) = true) := Lib.hid (decide_eq_true hf)
                        have HNO : Hid (decide (y5 ≤ (p : Int) ∧ (y6 = -1 ∨ (p : Int) < y6)) = true) := Lib.hid (decide_eq_true ⟨hf, .inr hg⟩)
                        clear ht
                        go_wp2_with fail
                        go_roundw
                        case rel => exact ⟨j + 1, by omega, by go_num, by rw [HBJ.out, HNB.out]; rfl, by rw [HOJ.out, HNO.out]; rfl, HB2.out⟩
                        case measure => simp [intOf]; omega
                      · have HNB : Hid (decide (y5 ≤ (p : Int)) = true) := Lib.hid (decide_eq_true hf)
                        have HNO : Hid (decide (y5 ≤ (p : Int) ∧ (y6 = -1 ∨ (p : Int) < y6)) = false) := Lib.hid (decide_eq_false fun h => by rcases h.2 with h | h; exact ht h; exact hg h)
                        clear ht
                        go_wp2_with fail
                        go_roundw
                        case rel => exact ⟨j + 1, by omega, by go_num, by rw [HBJ.out, HNB.out]; rfl, by rw [HOJ.out, HNO.out]; rfl, HB2.out⟩
                        case measure => simp [intOf]; omega
                  · have HNB : Hid (decide (y5 ≤ (p : Int)) = false) := Lib.hid (decide_eq_false hf)
                    have HNO : Hid (decide (y5 ≤ (p : Int) ∧ (y6 = -1 ∨ (p : Int) < y6)) = false) := Lib.hid (decide_eq_false fun h => hf h.1)
                    go_wp2_with fail
                    go_roundw
                    case rel => exact ⟨j + 1, by omega, by go_num, by rw [HBJ.out, HNB.out]; rfl, by rw [HOJ.out, HNO.out]; rfl, HB2.out⟩
                    case measure => simp [intOf]; omega
              · cases oo
                · skip
                  by_cases hf : y5 ≤ (p : Int)
                  · by_cases ht : y6 = -1
                    · have HNB : Hid (decide (y5 ≤ (p : Int)) = true) := Lib.hid (decide_eq_true hf)
                      have HNO : Hid (decide (y5 ≤ (p : Int) ∧ (y6 = -1 ∨ (p : Int) < y6)) = true) := Lib.hid (decide_eq_true ⟨hf, .inl ht⟩)
                      have hz : (y6 == -1) = true := by rw [beq_iff_eq]; exact ht
                      clear ht
                      go_wp2_with fail
                      go_roundw
                      case rel => exact ⟨j + 1, by omega, by go_num, by rw [HBJ.out, HNB.out]; rfl, by rw [HOJ.out, HNO.out]; rfl, HB2.out⟩
                      case measure => simp [intOf]; omega
                    · have hz : (y6 == -1) = false := by rw [beq_eq_false_iff_ne]; exact ht
                      by_cases hg : (p : Int) < y6
                      · have HNB : Hid (decide (y5 ≤ (p : Int)) = true) := Lib.hid (decide_eq_true hf)
                        have HNO : Hid (decide (y5 ≤ (p : Int) ∧ (y6 = -1 ∨ (p : Int) < y6)) = true) := Lib.hid (decide_eq_true ⟨hf, .inr hg⟩)
                        clear ht
                        go_wp2_with fail
                        go_roundw
                        case rel => exact ⟨j + 1, by omega, by go_num, by rw [HBJ.out, HNB.out]; rfl, by rw [HOJ.out, HNO.out]; rfl, HB2.out⟩
                        case measure => simp [intOf]; omega
                      · have HNB : Hid (decide (y5 ≤ (p : Int)) = true) := Lib.hid (decide_eq_true hf)
                        have HNO : Hid (decide (y5 ≤ (p : Int) ∧ (y6 = -1 ∨ (p : Int) < y6)) = false) := Lib.hid (decide_eq_false fun h => by rcases h.2 with h | h; exact ht h; exact hg h)
                        clear ht
                        go_wp2_with fail
                        go_roundw
                        case rel => exact ⟨j + 1, by omega, by go_num, by rw [HBJ.out, HNB.out]; rfl, by rw [HOJ.out, HNO.out]; rfl, HB2.out⟩
                        case measure => simp [intOf]; omega
                  · have HNB : Hid (decide (y5 ≤ (p : Int)) = false) := Lib.hid (decide_eq_false hf)
                    have HNO : Hid (decide (y5 ≤ (p : Int) ∧ (y6 = -1 ∨ (p : Int) < y6)) = false) := Lib.hid (decide_eq_false fun h => hf h.1)
                    go_wp2_with fail
                    go_roundw
                    case rel => exact ⟨j + 1, by omega, by go_num, by rw [HBJ.out, HNB.out]; rfl, by rw [HOJ.out, HNO.out]; rfl, HB2.out⟩
                    case measure => simp [intOf]; omega
                · skip
                  by_cases hf : y5 ≤ (p : Int)
                  · by_cases ht : y6 = -1
                    · have HNB : Hid (decide (y5 ≤ (p : Int)) = true) := Lib.hid (decide_eq_true hf)
                      have HNO : Hid (decide (y5 ≤ (p : Int) ∧ (y6 = -1 ∨ (p : Int) < y6)) = true) := Lib.hid (decide_eq_true ⟨hf, .inl ht⟩)
                      have hz : (y6 == -1) = true := by rw [beq_iff_eq]; exact ht
                      clear ht
                      go_wp2_with fail
                      go_roundw
                      case rel => exact ⟨j + 1, by omega, by go_num, by rw [HBJ.out, HNB.out]; rfl, by rw [HOJ.out, HNO.out]; rfl, HB2.out⟩
                      case measure => simp [intOf]; omega
                    · have hz : (y6 == -1) = false := by rw [beq_eq_false_iff_ne]; exact ht
                      by_cases hg : (p : Int) < y6
                      · have HNB : Hid (decide (y5 ≤ (p : Int)) = true) := Lib.hid (decide_eq_true hf)
                        have HNO : Hid (decide (y5 ≤ (p : Int) ∧ (y6 = -1 ∨ (p : Int) < y6)) = true) := Lib.hid (decide_eq_true ⟨hf, .inr hg⟩)
                        clear ht
                        go_wp2_with fail
                        go_roundw
                        case rel => exact ⟨j + 1, by omega, by go_num, by rw [HBJ.out, HNB.out]; rfl, by rw [HOJ.out, HNO.out]; rfl, HB2.out⟩
                        case measure => simp [intOf]; omega
                      · have HNB : Hid (decide (y5 ≤ (p : Int)) = true) := Lib.hid (decide_eq_true hf)
                        have HNO : Hid (decide (y5 ≤ (p : Int) ∧ (y6 = -1 ∨ (p : Int) < y6)) = false) := Lib.hid (decide_eq_false fun h => by rcases h.2 with h | h; exact ht h; exact hg h)
                        clear ht
                        go_wp2_with fail
                        go_roundw
                        case rel => exact ⟨j + 1, by omega, by go_num, by rw [HBJ.out, HNB.out]; rfl, by rw [HOJ.out, HNO.out]; rfl, HB2.out⟩
                        case measure => simp [intOf]; omega
                  · have HNB : Hid (decide (y5 ≤ (p : Int)) = false) := Lib.hid (decide_eq_false hf)
                    have HNO : Hid (decide (y5 ≤ (p : Int) ∧ (y6 = -1 ∨ (p : Int) < y6)) = false) := Lib.hid (decide_eq_false fun h => hf h.1)
                    go_wp2_with fail
                    go_roundw
                    case rel => exact ⟨j + 1, by omega, by go_num, by rw [HBJ.out, HNB.out]; rfl, by rw [HOJ.out, HNO.out]; rfl, HB2.out⟩
                    case measure => simp [intOf]; omega
            · obtain rfl : m = j := by omega
              have e1 : begJ cs p m = cs.any (fun y => decide (y.frm ≤ (p : Int))) := by unfold begJ; rw [List.take_of_length_le (by rw [← HM.out.1]; exact Nat.le_refl _)]
              have e2 : opnJ cs p m = cs.any (fun y => decide (y.frm ≤ (p : Int) ∧ (y.til = -1 ∨ (p : Int) < y.til))) := by unfold opnJ; rw [List.take_of_length_le (by rw [← HM.out.1]; exact Nat.le_refl _)]
              have hq := quietB_any cs (p : Int)
              rw [← e1, ← e2] at hq
              have HB2 := Lib.hid hb2
              have HQ := Lib.hid hq
              clear e1 e2 hq hb2
              generalize begJ cs p m = bb at HQ ⊢
              generalize opnJ cs p m = oo at HQ ⊢
              cases bb
              · have hs := HQS.out
                rw [if_neg (by rw [HQ.out]; simp)] at hs
                have HS := Lib.hid hs
                clear hs
                go_wp2_with fail
                go_roundw
                case rel => exact ⟨p + 1, by omega, by go_num, by rw [HS.out]; rfl, HB2.out⟩
                case measure => simp [intOf]; omega
              · cases oo
                · have hs := HQS.out
                  rw [if_pos (by rw [HQ.out]; rfl)] at hs
                  have HS := Lib.hid hs
                  clear hs
                  go_wp2_with fail
                  go_roundw
                  case rel => exact ⟨p + 1, by omega, by go_num, by rw [HS.out]; go_num, HB2.out⟩
                  case measure => simp [intOf]; omega
                · have hs := HQS.out
                  rw [if_neg (by rw [HQ.out]; simp)] at hs
                  have HS := Lib.hid hs
                  clear hs
                  go_wp2_with fail
                  go_roundw
                  case rel => exact ⟨p + 1, by omega, by go_num, by rw [HS.out]; rfl, HB2.out⟩
                  case measure => simp [intOf]; omega
        · obtain rfl : F = p := by omega
          have HB1 := Lib.hid hb1
          have HTL := Lib.hid (show ((cs.take k).map (epochC cs)).length ≤ 1000 by rw [List.length_map, List.length_take]; omega)
          have HOW := Lib.hid (And.intro (HO.out.1.below hb1) (HO.out.2.trans (hb1.mono HO.out.2.size)))
          clear hb1 hqs
          go_wp2_with (at_builtin; refine wpList_app_int rfl (.tmp 63) (.tmp 65) rfl w.heap.size wr.heap.size _ _ ((quietN cs F : Nat) : Int) rfl rfl (HOW.out.1.alloc (.cells #[.int .i64 ((quietN cs F : Nat) : Int)] 3)) (new_int wr 3 ((quietN cs F : Nat) : Int)) (by have := HTL.out; omega) (by have := HOW.out.2.size; simp; omega) ?_; intro v1 z1 ho1 hb3)
          have HY := Lib.hid (And.intro ho1 ((HOW.out.2.alloc HOW.out.2.size _).trans hb3))
          clear ho1 hb3
          go_wp2_with fail
          go_roundw
          case rel => exact ⟨k + 1, by omega, by go_num, by rw [HTK.out]; exact HY.out.1, HY.out.2⟩
          case measure => simp [intOf]; omega
    · obtain rfl : m = k := by omega
      rw [List.take_of_length_le (by rw [← HM.out.1]; exact Nat.le_refl _)] at hown
      have HX := Lib.hid (And.intro hown hb)
      clear hown hb
      go_wp2_with fail
      go_ret
      exact ⟨_, rfl, HX.out.1, HX.out.2⟩
set_option maxHeartbeats 4000000 in
theorem calmRel_any {B : Nat} {v : Value} {l : List Cl} {w : World} (h : CRd w B v l) (hB : B ≤ w.heap.size) (hl : l.length ≤ 12) (hf : ∀ c ∈ l, 0 ≤ c.frm ∧ c.frm ≤ 1000) :
    Calls Tryd.prog 40 #[v] w fun e w' => e = .returned (relV l.length (relP (calmB l) l.length)) ∧ Below w.heap.size w w' := by
  have hb0 : Below w.heap.size w (w.alloc (.cells (relCs 0 fun _ => 0) 36)) := (Below.refl _ _).alloc (Nat.le_refl _) _
  have HCO := Lib.hid (calmOf_any (h.below (hb0.mono hB)) (Nat.le_trans hB hb0.size) (by omega) hf)
  have hsame : relP (fun i j => decide ((l.map (epochC l)).getD i 0 < (l.map (epochC l)).getD j 0)) l.length = relP (calmB l) l.length := relP_same fun i j hi hj => by
    have key : ∀ i, i < l.length → (l.map (epochC l)).getD i 0 = epochC l (l.getD i default) := fun i hi => by
      rw [List.getD_eq_getElem?_getD, List.getElem?_map, getD_some hi]
      rfl
    unfold calmB
    rw [key i hi, key j hj]
  have hml : (l.map (epochC l)).length = l.length := List.length_map _
  rw [← hsame]
  generalize l.map (epochC l) = es at HCO hml ⊢
  obtain ⟨A, c, rfl, -, -⟩ := h.is
  obtain ⟨m, hm⟩ : ∃ m, m = l.length := ⟨_, rfl⟩
  rw [← hm] at hl hml HCO ⊢
  have HM := Lib.hid hml
  have hr0 : RelB (w.alloc (.cells (relCs 0 fun _ => 0) 36)) w.heap.size 0 (fun _ => 0) := Lies.new _ _ _
  have H0 := Lib.hid (And.intro hb0 hr0)
  clear h hB hf hsame hml hm hb0 hr0
  go_enter Tryd.func40, Tryd.ntmps40
  go_wp2_with fail
  refine HCO.out.mono ?_
  rintro e w1 ⟨ev, rfl, hev, hb1⟩
  have hnr := hev.rd
  obtain ⟨Ae, ce, rfl, -, -⟩ := hnr.is
  have hO : ORel w w.heap.size w1.heap.size m (upP (fun i j => decide (es.getD i 0 < es.getD j 0)) m 0 0) (w1.alloc (.cells (relCs m fun _ => 0) 36)) := by
    rw [upP_none]
    have h2 := H0.out.1.trans (hb1.mono H0.out.1.size)
    have h3 : RelB w1 w.heap.size 0 (fun _ => 0) := Lies.below H0.out.2 hb1 H0.out.2.lt
    exact ⟨h2.alloc h2.size _, Lies.alloc h3 _, Lies.new _ _ _, Nat.le_refl _, h3.lt⟩
  have hnr2 : NRd (w1.alloc (.cells (relCs m fun _ => 0) 36)) w1.heap.size (.slice Ae es.length ce) es := hnr.below ((Below.refl _ _).alloc (Nat.le_refl _) _)
  rw [HM.out] at hnr2 ⊢
  have HO := Lib.hid hO
  have HE := Lib.hid hnr2
  clear hev hb1 hnr hO hnr2 HCO H0
  go_wp2_with fail
  have hO := HO.out
  have hE0 := HE.out
  clear HO HE
  change Code.wp _ _ _ _ (w1.alloc (.cells (relCs m fun _ => 0) 36))
  generalize w1.alloc (.cells (relCs m fun _ => 0) 36) = W at hO hE0 ⊢
  generalize w1.heap.size = G at hO hE0 ⊢
  go_loopw [14] (fun i wr => ∃ k : Nat, k ≤ m ∧ i = .int .i64 k ∧ ORel w w.heap.size G m (upP (fun i j => decide (es.getD i 0 < es.getD j 0)) m k 0) wr ∧ NRd wr G (.slice Ae m ce) es) (fun i _ => m - (intOf i).toNat)
  case atStart => exact ⟨0, by omega, rfl, hO, hE0⟩
  case round =>
    clear hO hE0
    obtain ⟨k, hk, rfl, hO, hE0⟩ := hrel
    by_cases hkm : k < m
    · obtain ⟨x, hx⟩ : ∃ x, es[k]? = some x := ⟨_, List.getElem?_eq_getElem (by rw [HM.out]; exact hkm)⟩
      have HO := Lib.hid (And.intro hO hE0)
      have HX := Lib.hid hx
      clear hO hE0 hx
      have i1 : (0 : Int) ≤ (k : Int) := by omega
      have i2 : (k : Int) < (m : Int) := by omega
      have k12 : (k : Int) < 12 := by omega
      go_wp2_with fail
      obtain ⟨wo, rfl⟩ : ∃ wo : World, wo = wr := ⟨_, rfl⟩
      go_loopw [19] (fun i wr => ∃ j : Nat, j ≤ m ∧ i = .int .i64 j ∧ ORel w w.heap.size G m (upP (fun i j => decide (es.getD i 0 < es.getD j 0)) m k j) wr ∧ NRd wr G (.slice Ae m ce) es) (fun i _ => m - (intOf i).toNat)
      case atStart => exact ⟨0, by omega, rfl, HO.out⟩
      case round =>
        clear HO
        obtain ⟨j, hj, rfl, hO, hE0⟩ := hrel
        by_cases hjm : j < m
        · obtain ⟨y, hy⟩ : ∃ y, es[j]? = some y := ⟨_, List.getElem?_eq_getElem (by rw [HM.out]; exact hjm)⟩
          obtain ⟨g, o, hA, hgl, d0⟩ := hE0.num HX.out
          obtain ⟨g', o', hA', -, c0⟩ := hE0.num hy
          subst hA
          injection hA' with hA'
          injection hA' with hA1 hA2
          subst hA1
          subst hA2
          have hst := upP_step (fun i j => decide (es.getD i 0 < es.getD j 0)) m k j
          rw [show es.getD k 0 = x by rw [List.getD_eq_getElem?_getD, HX.out]; rfl, show es.getD j 0 = y by rw [List.getD_eq_getElem?_getD, hy]; rfl] at hst
          have j1 : (0 : Int) ≤ (j : Int) := by omega
          have j2 : (j : Int) < (m : Int) := by omega
          have hk12 : k < 12 := by omega
          have HJ := Lib.hid (upP_row_lt (fun i j => decide (es.getD i 0 < es.getD j 0)) m k j)
          have HO := Lib.hid (And.intro hO (And.intro hE0 hgl))
          generalize htt : decide (x < y) = tt at hst
          have HS := Lib.hid hst
          clear hst hy hO hE0 hgl
          cases tt
          · have hs := HS.out
            rw [if_neg (by decide)] at hs
            have HS2 := Lib.hid hs
            have hxy : ¬ x < y := of_decide_eq_false htt
            clear hs HS htt
            go_wp2_with fail
            go_quiet (fail)
            go_wp2_with fail
            go_roundw
            case rel => exact ⟨j + 1, by omega, by go_num, by rw [HS2.out]; exact HO.out.1.drewN _, HO.out.2.1.below (belowN (Below.refl _ _) _)⟩
            case measure => simp [intOf]; omega
          · have hs := HS.out
            rw [if_pos rfl] at hs
            have HS2 := Lib.hid hs
            have hxy : x < y := of_decide_eq_true htt
            clear hs HS htt
            go_wp2_with fail
            go_quiet (fail)
            have hO := HO.out.1.drewN nq
            have hE0 : NRd (wr.drewN nq) G (.slice (some ⟨g, o, none⟩) m ce) es := HO.out.2.1.below (belowN (Below.refl _ _) _)
            have hgl := HO.out.2.2
            clear d0 c0 HO
            generalize wr.drewN nq = w4 at hO hE0 ⊢
            have ck := hO.own.row' hk12
            have fk := hO.own.free (1 + k)
            have hlt := HJ.out
            have HOO := Lib.hid (And.intro hO (And.intro hE0 hgl))
            have hGl := hO.own.lt
            clear hO hE0 hgl
            generalize hxx : upP (fun i j => decide (es.getD i 0 < es.getD j 0)) m k j k = z at ck hlt HS2
            have HXX := Lib.hid hxx
            have ho := add_pow z j hlt (by omega)
            have hp := pow_u16 j (by omega)
            clear hxx
            go_wp2_with fail
            go_region
            have h1 : ORel w w.heap.size G m (upP (fun i j => decide (es.getD i 0 < es.getD j 0)) m k (j + 1)) (w4.setCell ⟨G, 1 + k, none⟩ (.int .u16 ((z ||| 2 ^ j : Nat) : Int))).drew := by
              rw [HS2.out]
              exact (HOO.out.1.set_ hk12 _).drew
            have h2 : NRd (w4.setCell ⟨G, 1 + k, none⟩ (.int .u16 ((z ||| 2 ^ j : Nat) : Int))).drew G (.slice (some ⟨g, o, none⟩) m ce) es := HOO.out.2.1.below ((Below.refl _ _).setCell (p := ⟨G, 1 + k, none⟩) (Nat.le_refl _) _).drew
            clear ck fk ho hp
            generalize (w4.setCell ⟨G, 1 + k, none⟩ (.int .u16 ((z ||| 2 ^ j : Nat) : Int))).drew = w5 at h1 h2 ⊢
            have HX2 := Lib.hid (And.intro h1 h2)
            clear h1 h2 hGl
            go_wp2_with fail
            go_roundw
            case rel => exact ⟨j + 1, by omega, by go_num, HX2.out⟩
            case measure => simp [intOf]; omega
        · obtain rfl : j = m := by omega
          rw [upP_end] at hO
          have HZ := Lib.hid (And.intro hO hE0)
          clear hO hE0
          go_wp2_with fail
          go_roundw
          case rel => exact ⟨k + 1, by omega, by go_num, HZ.out⟩
          case measure => simp [intOf]; omega
    · obtain rfl : k = m := by omega
      rw [upP_all] at hO
      have hr := hO.res.size
      obtain ⟨r0, r1, r2, r3, r4, r5, r6, r7, r8, r9, r10, r11⟩ := hO.res.rows
      have hc := hO.own.size
      obtain ⟨c0, c1, c2, c3, c4, c5, c6, c7, c8, c9, c10, c11⟩ := hO.own.rows
      have hf := hO.res.free
      go_wp2_with fail
      clear hr r0 r1 r2 r3 r4 r5 r6 r7 r8 r9 r10 r11 hc c0 c1 c2 c3 c4 c5 c6 c7 c8 c9 c10 c11 hf
      refine post_fill (W := wr) (g := w.heap.size) k (relP (fun i j => decide (es.getD i 0 < es.getD j 0)) k) hO.res hO.below (by omega) ?_
      intro wz hz hbz
      have hs := hz.size
      obtain ⟨c0, c1, c2, c3, c4, c5, c6, c7, c8, c9, c10, c11⟩ := hz.rows
      exact bodyPost_ret (v := relV k (relP (fun i j => decide (es.getD i 0 < es.getD j 0)) k))
        (by simp [results, Tryd.results40, go_sem, hs, c0, c1, c2, c3, c4, c5, c6, c7, c8, c9, c10, c11]) rfl ⟨rfl, hbz⟩
end Go.Proofs.YtecpjeililiafaaDoor

/-
  The walk of the law SeqQuiet.
-/
namespace Go.Proofs.YtecpjeililiafaaDoor
open Go.RowKit
set_option maxRecDepth 20000

set_option maxHeartbeats 4000000 in
theorem sqquiet_any {tv lv : Value} {ts : List Int} {l : List Ev} {w : World} (ht : NRd w w.heap.size tv ts) (hl : ERd w w.heap.size lv l) (hp : Pow10 w.heap.size w) :
    Calls Tryd.prog 7 #[tv, lv] w fun e w' => e = .returned (.bool true) ∧ Below w.heap.size w w' := by
  obtain ⟨At, capt, rfl, -, -⟩ := ht.is
  obtain ⟨Al, capl, rfl, hl1, hl2⟩ := hl.is
  unfold maxLen at hl2
  have HT := Lib.hid (And.intro ht (And.intro hl hp))
  have HR := Lib.hid (calm_any ht hl)
  obtain ⟨tl, htl⟩ : ∃ tl, tl = ts.length := ⟨_, rfl⟩
  obtain ⟨L, hL⟩ : ∃ L, L = l.length := ⟨_, rfl⟩
  rw [← htl, ← hL] at HR HT
  rw [← htl, ← hL]
  clear ht hl hp htl hL hl1
  go_enter Tryd.func7, Tryd.ntmps7
  go_wp2_with fail
  refine HR.out.mono ?_
  rintro e w1 ⟨hb1, nv, rfl, hnv⟩
  have hn1 := hnv.rd
  have hes0 := @calms_of ts l
  obtain ⟨es, hes⟩ : ∃ es, es = (if searchE (callsOf ts l) = 0 then calmsL l else []) := ⟨_, rfl⟩
  rw [← hes] at hn1
  obtain ⟨An, capn, rfl, -, -⟩ := hn1.is
  obtain ⟨q, hq⟩ : ∃ q, q = es.length := ⟨_, rfl⟩
  have HNV := Lib.hid hn1
  rw [← hq] at HNV ⊢
  have HQ := Lib.hid hq
  have H1 := Lib.hid hb1
  have HF := Lib.hid (quiet_any ((HT.out.1.below H1.out).mono H1.out.size) ((HT.out.2.1.below H1.out).mono H1.out.size) ((HT.out.2.2.on H1.out).mono H1.out.size))
  clear hb1 HR hnv hn1 hq
  go_wp2_with fail
  refine HF.out.mono ?_
  rintro e w2 ⟨hb2, v, rfl, hv⟩
  have H2 := Lib.hid (H1.out.trans (hb2.mono H1.out.size))
  have HN2 := Lib.hid ((HNV.out.below hb2).mono hb2.size)
  have hv2 := hv.rd
  obtain ⟨Av, capv, rfl, -, -⟩ := hv2.is
  obtain ⟨k, hk⟩ : ∃ k, k = (fndL (calmB (callsOf ts l).1) ts (callsOf ts l)).length := ⟨_, rfl⟩
  have HV2 := Lib.hid hv2
  rw [← hk] at HV2 ⊢
  have HK := Lib.hid hk
  have HS := Lib.hid (searched_any ((HT.out.1.below H2.out).mono H2.out.size) ((HT.out.2.1.below H2.out).mono H2.out.size))
  clear hb2 hv hv2 HF hk HNV
  go_wp2_with fail
  refine HS.out.mono ?_
  rintro e w3 ⟨hb3, cv, rfl, hcv⟩
  have H3 := Lib.hid (H2.out.trans (hb3.mono H2.out.size))
  have HV3 := Lib.hid ((HV2.out.below hb3).mono hb3.size)
  have HN3 := Lib.hid ((HN2.out.below hb3).mono hb3.size)
  by_cases hE : searchE (callsOf ts l) = 0
  · have hc3 := hcv hE
    obtain ⟨Ac, capc, rfl, -, -⟩ := hc3.is
    obtain ⟨q1, q2⟩ := search_ok.1 hE
    have hok := calls_callOk q1
    have hord := (calls_orderly q1).1
    have hl200 := (calls_orderly q1).2
    have hfr : ∀ c ∈ (callsOf ts l).1, 0 ≤ c.frm ∧ c.frm ≤ 1000 := fun c hc => by
      have := hord.tidy c hc
      omega
    have hty : ∀ t ∈ ts, 1 ≤ t ∧ t ≤ 5 := by
      have h1 := (calls_zero q1).1
      unfold typesB at h1
      simp only [Bool.and_eq_true, List.all_eq_true, decide_eq_true_eq] at h1
      exact h1.2
    rw [if_pos hE, hes0 q1] at hes
    have hfo : foundO (calmB (callsOf ts l).1) ts (callsOf ts l).1 = findG (befP (calmB (callsOf ts l).1) (callsOf ts l).1) ts (callsOf ts l).1 (callsOf ts l).1.length (startP ts) := find_G _ _
    have hfb : fndB (calmB (callsOf ts l).1) ts (callsOf ts l) = (foundO (calmB (callsOf ts l).1) ts (callsOf ts l).1).isSome := by unfold fndB; rw [decide_eq_true hE]; rfl
    have hfl : fndL (calmB (callsOf ts l).1) ts (callsOf ts l) = asSteps ((foundO (calmB (callsOf ts l).1) ts (callsOf ts l).1).getD []) := by unfold fndL; rw [if_pos hE]
    rw [hfb]
    rw [hE]
    rw [hfl] at HV3
    rw [hfo] at HV3 ⊢
    generalize (callsOf ts l).1 = cs at hc3 q2 hok hord hfr HV3 hes ⊢
    have HES := Lib.hid hes
    have HFR := Lib.hid hfr
    obtain ⟨n, hn⟩ : ∃ n, n = cs.length := ⟨_, rfl⟩
    have HCR := Lib.hid (calmRel_any hc3 (Nat.le_refl _) (by omega) hfr)
    have HC3 := Lib.hid hc3
    rw [← hn] at HCR HC3 ⊢
    have HN := Lib.hid (And.intro hn (And.intro q2 (And.intro hok (And.intro hord hty))))
    clear hb3 hcv HS HV2 HN2 hE q1 q2 hok hord hty hfo hfb hfl hc3 hn hes hfr hes0 hl200
    obtain ⟨r, hr⟩ : ∃ r, r = relP (calmB cs) n := ⟨_, rfl⟩
    rw [← hr] at HCR
    have HRR := Lib.hid hr
    clear hr
    go_wp2_with fail
    refine HCR.out.mono ?_
    rintro e w4 ⟨rfl, hb4⟩
    have H4 := Lib.hid (H3.out.trans (hb4.mono H3.out.size))
    have hirr : ∀ i, (r i).testBit i = false := fun i => by
      rw [HRR.out, relP_bit, show calmB cs i i = false from decide_eq_false fun h => by omega, Bool.and_false]
    have hal7 : Below w4.heap.size w4 (w4.alloc (.cells #[] 42)) := (Below.refl _ _).alloc (Nat.le_refl _) _
    have hst := hb4.trans (hal7.mono hb4.size)
    have H7 := Lib.hid (H4.out.trans (hal7.mono H4.out.size))
    have HV7 := Lib.hid ((HV3.out.below hst).mono hst.size)
    have HN7 := Lib.hid ((HN3.out.below hst).mono hst.size)
    have HC7 := Lib.hid ((HC3.out.below hst).mono hst.size)
    have hb1 : ∀ k, k < cs.length → ∀ i, i < cs.length → ((befP (calmB cs) cs k).testBit i = (r i).testBit k) := fun k hk i hi => by
      unfold befP
      rw [HRR.out, ← HN.out.1, relP_bit, relP_bit, Bool.and_comm (decide (k < n))]
    have hb2 : ∀ k i, cs.length ≤ i → (befP (calmB cs) cs k).testBit i = false := fun k i hi => by
      unfold befP
      rw [relP_bit, decide_eq_false (p := i < cs.length) (by omega), Bool.and_false, Bool.false_and]
    have HLO := Lib.hid (lo_any (b := befP (calmB cs) cs) (by have := HN.out.2.1; have := HN.out.1; omega) hirr HN.out.2.2.2.2 HN.out.2.2.1 hb1 hb2 cs.length [] (startP ts) Legal.start (by simp)
      ((HT.out.1.below H7.out).mono H7.out.size) HC7.out (own_empty w4).rd)
    rw [← HN.out.1] at HLO
    unfold LoPost at HLO
    clear hirr hal7 hb1 hb2 HV3 HC3 HN3 hb4 hst HCR
    rw [← HN.out.1] at HV7
    cases hG : findG (befP (calmB cs) cs) ts cs n (startP ts) with
    | none =>
      rw [hG] at HLO HV7
      simp only [Option.isSome_none]
      clear hG
      go_wp2_with fail
      refine HLO.out.mono ?_
      rintro e w8 ⟨hb8, ⟨-, rfl⟩ | ⟨S, a, N, c, h, -⟩⟩
      · skip
        have H8 := Lib.hid (H7.out.trans (hb8.mono H7.out.size))
        have HV8 := Lib.hid ((HV7.out.below hb8).mono hb8.size)
        have HN8 := Lib.hid ((HN7.out.below hb8).mono hb8.size)
        have HC8 := Lib.hid ((HC7.out.below hb8).mono hb8.size)
        have HCO := Lib.hid (calmOf_any HC8.out (Nat.le_refl _) (by have := HN.out.2.1; omega) HFR.out)
        clear HLO HV7 HC7 HN7 hb8
        go_wp2_with fail
        refine HCO.out.mono ?_
        rintro e w9 ⟨nv, rfl, hnv, hb9⟩
        have H9 := Lib.hid (H8.out.trans (hb9.mono H8.out.size))
        have hnr := hnv.rd
        have hei := eqInt_any ((HN8.out.below hb9).mono hb9.size) hnr
        rw [decide_eq_true HES.out] at hei
        obtain ⟨A9, c9, rfl, -, -⟩ := hnr.is
        obtain ⟨k9, hk9⟩ : ∃ k9, k9 = (cs.map (epochC cs)).length := ⟨_, rfl⟩
        rw [← hk9] at hei ⊢
        have HEI := Lib.hid hei
        have HV9 := Lib.hid ((HV8.out.below hb9).mono hb9.size)
        clear HCO hnv hb9 hnr HV8 HC8 HN8 hei hk9
        go_wp2_with fail
        refine HEI.out.mono ?_
        rintro e w10 ⟨rfl, hb10⟩
        have H10 := Lib.hid (H9.out.trans (hb10.mono H9.out.size))
        have HEQ := Lib.hid (eqSt_any ((HV9.out.below hb10).mono hb10.size) (LRd.nil w10 0))
        rw [show decide (asSteps ((none : Option (List (Nat × Int))).getD []) = []) = true from rfl] at HEQ
        clear HEI hb10 HV9
        have hq1 := fun W : World => st_nil_ne W
        go_wp2_with fail
        refine HEQ.out.mono ?_
        rintro e w11 ⟨rfl, hb11⟩
        have H11 := Lib.hid (H10.out.trans (hb11.mono H10.out.size))
        clear hb11 HEQ
        go_wp2_with fail
        go_ret
        exact ⟨rfl, H11.out⟩
      · cases h
    | some S0 =>
      rw [hG] at HLO HV7
      simp only [Option.isSome_some]
      clear hG
      go_wp2_with fail
      refine HLO.out.mono ?_
      rintro e w8 ⟨hb8, ⟨h, -⟩ | ⟨S, a, N, c, h, rfl, hS⟩⟩
      · cases h
      · obtain rfl := Option.some.inj h
        rw [List.nil_append] at hS
        have H8 := Lib.hid (H7.out.trans (hb8.mono H7.out.size))
        have HV8 := Lib.hid ((HV7.out.below hb8).mono hb8.size)
        have HN8 := Lib.hid ((HN7.out.below hb8).mono hb8.size)
        have HC8 := Lib.hid ((HC7.out.below hb8).mono hb8.size)
        have HS8 := Lib.hid hS
        clear hS h
        have HCO := Lib.hid (calmOf_any HC8.out (Nat.le_refl _) (by have := HN.out.2.1; omega) HFR.out)
        clear HLO HV7 HC7 HN7 hb8
        go_wp2_with fail
        refine HCO.out.mono ?_
        rintro e w9 ⟨nv, rfl, hnv, hb9⟩
        have H9 := Lib.hid (H8.out.trans (hb9.mono H8.out.size))
        have hnr := hnv.rd
        have hei := eqInt_any ((HN8.out.below hb9).mono hb9.size) hnr
        rw [decide_eq_true HES.out] at hei
        obtain ⟨A9, c9, rfl, -, -⟩ := hnr.is
        obtain ⟨k9, hk9⟩ : ∃ k9, k9 = (cs.map (epochC cs)).length := ⟨_, rfl⟩
        rw [← hk9] at hei ⊢
        have HEI := Lib.hid hei
        have HV9 := Lib.hid ((HV8.out.below hb9).mono hb9.size)
        have HS9 := Lib.hid ((HS8.out.below hb9).mono hb9.size)
        clear HCO hnv hb9 hnr HV8 HC8 HN8 hei hk9
        go_wp2_with fail
        refine HEI.out.mono ?_
        rintro e w10 ⟨rfl, hb10⟩
        have H10 := Lib.hid (H9.out.trans (hb10.mono H9.out.size))
        have HEQ := Lib.hid (eqSt_any ((HV9.out.below hb10).mono hb10.size) (HS9.out.below hb10))
        rw [show decide (asSteps ((some S0).getD []) = asSteps S0) = true from decide_eq_true rfl] at HEQ
        clear HEI hb10 HV9
        have hq2 := fun (W : World) => st_some_ne a N c W
        go_wp2_with fail
        refine HEQ.out.mono ?_
        rintro e w11 ⟨rfl, hb11⟩
        have H11 := Lib.hid (H10.out.trans (hb11.mono H10.out.size))
        clear hb11 HEQ
        go_wp2_with fail
        go_ret
        exact ⟨rfl, H11.out⟩
  · obtain ⟨q1, q2, q3⟩ := fnd_bad (p := calmB (callsOf ts l).1) (ts := ts) hE []
    have hk0 : k = 0 := by rw [HK.out, q2]; rfl
    have hq0 : q = 0 := by rw [HQ.out, hes, if_neg hE]; rfl
    rw [q1]
    have HKK := Lib.hid (And.intro hk0 hq0)
    subst hk0
    subst hq0
    generalize hEE : searchE (callsOf ts l) = E at hE ⊢
    have HE := Lib.hid (show ¬ E = 0 from hE)
    have hz : (E == 0) = false := by rw [beq_eq_false_iff_ne]; exact hE
    clear q1 q2 q3 hEE hE hcv HS hb3 hes hes0
    go_wp2_with fail
    go_ret
    exact ⟨rfl, H3.out⟩
end Go.Proofs.YtecpjeililiafaaDoor

/-
  The tied card of aliblaw.SeqQuiet: whatever is handed in (the listed tables reading as the program's own text lays them), the law answers true and leaves its arguments as they were.
-/
namespace Go.Proofs.YtecpjeililiafaaDoor
open Go.ChangeShapes Go.WideShapes Go.ChangeAt Go.RowKit
set_option maxRecDepth 20000

theorem seqQuiet_knob : ownKnob Tryd.prog.godebug = none := by kernel_rfl

set_option maxRecDepth 100000 in
theorem seqQuiet_lifted (os : Os) (started : os.Started) (H : Type) (enc : TypeId × Value → H) :
    ReturnsInHanded {} Tryd.checked os 7 .any (fun w args => (Rows.seqQuietSpec.pre enc Tryd.prog Tryd.f7 [] false w args ∧ laidMetH Tryd.prog tab3Laid w) ∧ sizedMet enc Tryd.prog Tryd.f7 (OpenSpec.ofChange Rows.seqQuietSpec) false w args)
      (Rows.seqQuietSpec.post enc Tryd.prog Tryd.f7 false true false false) := by
  refine returnsInHanded_of_change_and (C := Tryd.checked) (X := fun w _ => laidMetH Tryd.prog tab3Laid w) (fun _ _ _ hh h => h.of_heap hh) seqQuiet_knob started (by kernel_rfl) Tryd.func7
    (ChangeSpec.witness_shaped (enc := enc) (C := Tryd.checked) (os := os) (X := fun w _ => laidMetH Tryd.prog tab3Laid w) false (World.laidAll Tryd.prog os tab3Laid) #[.slice none 0 0, .slice none 0 0] 8 (World.laidAll_os _ _ _)
      (World.shaped_of_ZipB (by kernel_rfl) (by kernel_rfl)) (by kernel_rfl) (by kernel_rfl) (by kernel_rfl)
      (by rw [MakeChecks.laidMetH_plain _ _ _ (by kernel_rfl)]; exact laidMet_laidAll _ (by kernel_rfl) (by kernel_rfl))) ?_
  intro W base args ds gs before hval0 hW _ _ hL _
  have hval : ∀ (j : Nat) t v, Tryd.f7.params[j]? = some t → args[j]? = some v → Value.okWide Tryd.prog W .any base t v := hval0
  have hW' := hW
  have hlt := hW.lt
  obtain ⟨p, q, hA0, hV, rfl, _, _⟩ := hW
  have hA : DataW.TrodAll enc Tryd.prog W 0 (fun _ => true) true Tryd.f7.params.toList args.toList ds p := hA0
  rw [Tryd.params7] at hA hval
  obtain ⟨v0, v1, d0, d1, p0, p1, rfl, rfl, rfl, h0, h1⟩ := trodAll_two hA
  obtain ⟨rfl, rfl⟩ := trodVars_none hV
  obtain ⟨l0, hL0⟩ := open_nums (hval 0 22 v0 rfl rfl) h0
  obtain ⟨l1, hL1⟩ := open_evs (hval 1 23 v1 rfl rfl) h1
  have hT := pow_of_laid hL
  clear hA0 hval0
  simp only [List.append_nil] at hW' hlt
  refine (sqquiet_any hL0 hL1 hT).mono fun e W' ⟨he, hb⟩ => ?_
  subst he
  refine ⟨_, rfl, end_of_below (pa := p0 ++ p1) (pv := []) hW' hb (by simp) (fun _ _ _ => ?_) (fun sp hsp => ?_) (fun _ _ => rfl) (ok_one (by kernel_rfl) rfl (okWide_bool_mk Tryd.underlying4 _))⟩
  · exact trodAll_mk1 (shut_bool Tryd.underlying4 _)
  · skip
    have hk0 := WideElems.Trod_stays laidOutIt (by kernel_rfl) (of_decide_eq_true (by kernel_rfl)) h0 (fun x hx => hb.same (hlt x (List.mem_append.2 (.inl hx)))) (fun x hx => hsp x (List.mem_append.2 (.inl hx)))
    have hk1 := WideElems.Trod_stays laidOutIt (by kernel_rfl) (of_decide_eq_true (by kernel_rfl)) h1 (fun x hx => hb.same (hlt x (List.mem_append.2 (.inr hx)))) (fun x hx => hsp x (List.mem_append.2 (.inr hx)))
    have := trodAll_mk2 hk0 hk1
    exact this

theorem seqQuiet_holds : Rows.SeqQuietSaid :=
  OpenClaim.holds_of_wide 7 Tryd.f7 rfl rfl rfl rfl rfl rfl rfl ⟨rfl, rfl, rfl, rfl, rfl⟩ rfl rfl rfl rfl rfl (by kernel_rfl) Tryd.func7 (by kernel_rfl)
    (of_decide_eq_true (by kernel_rfl)) (by unfold Func.isWrapper; first | (rw [if_pos (by decide +kernel)]; kernel_rfl) | (rw [if_neg (by decide +kernel)]; exact ⟨rfl, rfl⟩))
    (fun os started H enc _ => seqQuiet_lifted os started H enc)

theorem seqQuiet_card : Rows.SeqQuietCardSaid :=
  Claim7.holds_tied_plain_at .later [] [.data, .data, .data] true Rows.seqQuietCard.stood.harness false seqQuiet_holds (fun _ h => by cases h) (by kernel_rfl) (fun _ h => by cases h) seqQuiet_row_tie rfl ⟨rfl, rfl⟩ (by kernel_rfl) rfl
    (fun f fn hf hfn => by
      obtain rfl : f = 7 := Option.some.inj ((show Tryd.prog.funcNamed "alibi/aliblaw.SeqQuiet" = some 7 by kernel_rfl).symm.trans hf) |>.symm
      obtain rfl : fn = Tryd.f7 := (Option.some.inj (Tryd.func7.symm.trans hfn)).symm
      exact ⟨by kernel_rfl, fun j t ht => by
        rw [Tryd.params7] at ht
        have hm : t ∈ [22, 23] := by simpa using Array.mem_of_getElem? ht
        have hall : ([22, 23].all fun u => !Tryd.prog.wantsStandIn u) = true := by kernel_rfl
        exact (show Tryd.prog.wantsStandIn t = false by simpa using List.all_eq_true.1 hall t hm)⟩)
    (by kernel_rfl)
#print axioms seqQuiet_card
end Go.Proofs.YtecpjeililiafaaDoor
