/-
  alibkeep.HistorySpans answers true, whatever is handed in.
-/
import Derived.Test.YtndcgliopckllaaAppSp
import Derived.Test.YtndcgliopckllaaAheadOf
import Derived.Test.YtndcgliopckllaaLivesH
import Derived.Test.YtndcgliopckllaaOk
import Derived.Test.YtndcgliopckllaaSame
namespace Go.Proofs.Ytndcgliopckllaa
open Go.RowKit
set_option maxRecDepth 20000

/-- The calls read; the relation lies in block R. -/
structure HsS (w0 : World) (v : Value) (c : List Cl) (R m : Nat) (a : Nat → Nat) (w : World) : Prop where
  below : Below w0.heap.size w0 w
  calls : CRd w R v c
  rel : RelB w R m a
  far : w0.heap.size ≤ R
theorem HsS.over {w0 w w' : World} {v : Value} {c : List Cl} {R m : Nat} {a : Nat → Nat} (h : HsS w0 v c R m a w) (hb : Below (R + 1) w w') : HsS w0 v c R m a w' := by
  have hR := h.far
  exact ⟨h.below.trans (hb.mono (by omega)), h.calls.below (hb.mono (by omega)), Lies.below h.rel hb (by omega), h.far⟩
theorem HsS.next {w0 w w' : World} {v : Value} {c : List Cl} {R m : Nat} {a : Nat → Nat} (h : HsS w0 v c R m a w) (hb : Below w.heap.size w w') : HsS w0 v c R m a w' :=
  h.over (hb.mono h.rel.lt)
theorem HsS.rd {w0 w : World} {v : Value} {c : List Cl} {R m : Nat} {a : Nat → Nat} (h : HsS w0 v c R m a w) : CRd w w.heap.size v c := h.calls.mono (Nat.le_of_lt h.rel.lt)
theorem HsS.alloc {w0 w : World} {v : Value} {c : List Cl} {R m : Nat} {a : Nat → Nat} (h : HsS w0 v c R m a w) (o : Obj) : HsS w0 v c R m a (w.alloc o) := h.next ((Below.refl _ _).alloc (Nat.le_refl _) o)
theorem POwn.apart {w : World} {B P : Nat} {v : Value} {l : List (Int × Int)} {t : TypeId} {cs : Array Value} (h : POwn w B v l) (hl : Lies w P t cs) (ht : t ≠ 61) : some P ≠ v.ownBlock := by
  rcases h.2 with ⟨rfl, h0⟩ | ⟨g', cap, cur, rfl, h1, h2, h3, h4, h5, h6⟩
  · simp [Value.ownBlock]
  · intro e
    simp only [Value.ownBlock, Option.some.injEq] at e
    subst e
    unfold Lies at hl
    rw [h2] at hl
    injection hl with hl
    injection hl with _ hl _
    exact ht hl.symm
theorem shr_bit {s i : Nat} (hs : s < 65536) (h : s.testBit i = true) : (bits BinOp.and IntKind.u16 ((s : Int) / 2 ^ i) 1 == 0) = false := by
  have h1 := has_val s i hs
  rw [h, Int.toNat_natCast] at h1
  rw [bne_iff_ne] at h1
  rw [beq_eq_false_iff_ne]
  exact h1

theorem ok_any_at (W : World) (G : Nat) (hG : G = W.heap.size) : Calls Try.prog 25 #[.slice (some ⟨G, 0, none⟩) 2 2] (W.alloc (.cells #[.int .i64 0, .int .i64 0] 25)) fun e w' => e = .returned (.bool true) ∧ (W.alloc (.cells #[.int .i64 0, .int .i64 0] 25)) = w' := by
  subst hG
  exact ok_zero (IRd.fresh W 25 [0, 0] 2 rfl #[.int .i64 0, .int .i64 0] rfl) (by simp) (by simp)
theorem decide_two (a b : Int) : decide (∀ x ∈ [a, b], x = 0) = (a == 0 && b == 0) := by
  rw [Bool.eq_iff_iff]
  simp

set_option maxHeartbeats 8000000 in
theorem hspans_any {tv lv : Value} {ts : List Int} {l : List Ev} {w : World} (ht : NRd w w.heap.size tv ts) (hl : ERd w w.heap.size lv l) :
    Calls Try.prog 8 #[tv, lv] w fun e w' => e = .returned (.bool true) ∧ Below w.heap.size w w' := by
  obtain ⟨At, capt, rfl, m1, m2⟩ := ht.is
  obtain ⟨Al, capl, rfl, m3, m4⟩ := hl.is
  have HC := Lib.hid (calls_any ht hl)
  clear ht hl m1 m2 m3
  obtain ⟨L, hL⟩ : ∃ L, L = l.length := ⟨_, rfl⟩
  rw [← hL]
  rw [← hL] at HC
  have HLL := Lib.hid hL
  clear hL m4
  go_enter Try.func8, Try.ntmps8
  go_wp2_with fail
  refine HC.out.mono ?_
  rintro e w1 ⟨v1, rfl, hb1, hr1⟩
  have H1 := Lib.hid (And.intro hb1 hr1)
  clear HC hb1 hr1
  by_cases h12 : 12 < (callsOf ts l).1.length
  · have HA := Lib.hid (ahead_many H1.out.2 h12)
    generalize (callsOf ts l).2.2 = E
    generalize (callsOf ts l).2.1 = a
    go_wp2_with fail
    refine HA.out.mono ?_
    rintro e w2 ⟨rfl, hb2⟩
    have H2 := Lib.hid (H1.out.1.trans (hb2.mono H1.out.1.size))
    clear hb2 HA
    go_wp2_with fail
    refine (lives_any _).mono ?_
    rintro e w3 ⟨rfl, hb3⟩
    have H3 := Lib.hid ((H2.out.alloc H2.out.size _).trans (hb3.mono (by have := H2.out.size; simp; omega)))
    clear hb3 H2
    have hok := ok_not (IRd.fresh w3 25 [E, 2] 2 rfl #[.int .i64 E, .int .i64 2] rfl) (x := 2) (by simp) (by decide) (by simp)
    have HOK := Lib.hid hok
    clear hok
    go_wp2_with fail
    refine HOK.out.mono ?_
    rintro e w4 ⟨rfl, rfl⟩
    go_wp2_with fail
    refine (lives_any _).mono ?_
    rintro e w5 ⟨rfl, hb5⟩
    have H5 := Lib.hid ((H3.out.alloc H3.out.size _).trans (hb5.mono (by have := H3.out.size; simp; omega)))
    clear hb5
    go_wp2_with fail
    go_ret
    exact ⟨rfl, H5.out⟩
  · have hn : (callsOf ts l).1.length ≤ 12 := by omega
    have HA := Lib.hid (ahead_few H1.out.2 (Nat.le_refl _) hn)
    by_cases h0 : (callsOf ts l).2.2 = 0
    · obtain ⟨ho, h200⟩ := calls_orderly h0
      rw [h0]
      rw [← HLL.out] at ho h200
      generalize (callsOf ts l).2.1 = a
      have H1' := H1.out
      clear H1 h0 h12
      generalize (callsOf ts l).1 = c at ho hn HA H1' ⊢
      have H1 := Lib.hid H1'
      have HO := Lib.hid ho
      clear ho H1'
      go_wp2_with fail
      refine HA.out.mono ?_
      rintro e w2 ⟨rfl, hb2⟩
      have hS : HsS w v1 c w2.heap.size c.length (relP (aheadB c) c.length) (w2.alloc (.cells (relCs c.length (relP (aheadB c) c.length)) 41)) := by
        have h1 := H1.out.1.trans (hb2.mono H1.out.1.size)
        have hba := (Below.refl w2.heap.size w2).alloc (Nat.le_refl _) (.cells (relCs c.length (relP (aheadB c) c.length)) 41)
        exact ⟨h1.alloc h1.size _, ((H1.out.2.below hb2).mono hb2.size).below hba, Lies.new _ _ _, h1.size⟩
      have HS := Lib.hid hS
      clear hb2 HA hS H1
      obtain ⟨m, hm⟩ : ∃ m, m = c.length := ⟨_, rfl⟩
      rw [← hm]
      rw [← hm] at HS hn
      have HM := Lib.hid hm
      clear hm
      generalize hR : relP (aheadB c) m = r at HS ⊢
      have HR := Lib.hid hR
      clear hR
      go_wp2_with fail
      have hS := HS.out
      clear HS
      change Calls _ _ _ (w2.alloc (.cells (relCs m r) 41)) _
      generalize w2.alloc (.cells (relCs m r) 41) = W at hS ⊢
      generalize w2.heap.size = R at hS ⊢
      have HS := Lib.hid hS
      clear hS
      refine (lives_any _).mono ?_
      rintro e w3 ⟨rfl, hb3⟩
      have HS3 := Lib.hid (HS.out.next hb3)
      clear hb3 HS
      have hok := ok_zero (IRd.fresh w3 25 [0, 0] 2 rfl #[.int .i64 0, .int .i64 0] rfl) (by simp) (by simp)
      have HOK := Lib.hid hok
      have HS4 := Lib.hid (HS3.out.alloc (.cells #[.int .i64 0, .int .i64 0] 25))
      obtain ⟨A1, c1, rfl, hk1, hk2⟩ := HS3.out.rd.is
      rw [← HM.out] at hk1
      unfold maxLen at hk2
      rw [← HM.out] at HS4 ⊢
      clear hok HS3
      go_wp2_with fail
      refine HOK.out.mono ?_
      rintro e w4 ⟨rfl, rfl⟩
      go_wp2_with fail
      have hS5 := HS4.out
      clear HS4 HOK
      generalize w3.alloc (.cells #[.int .i64 0, .int .i64 0] 25) = W5 at hS5 ⊢
      go_loopw [10, 45] (fun v i wr => ∃ (k : Nat) (v0 : Value), k ≤ m ∧ i = .int .i64 k ∧ v0 = v ∧ POwn wr (R + 1) v0 (spansL L (c.take k)) ∧ HsS w (.slice A1 m c1) c R m r wr) (fun _ i _ => m - (intOf i).toNat)
      case atStart => exact ⟨0, _, by omega, rfl, rfl, World.ownsRow_nil _ _ _ _, hS5⟩
      case round =>
        clear hS5
        obtain ⟨k, v0, hk, rfl, rfl, hP, hS⟩ := hrel
        by_cases hkm : k < m
        · obtain ⟨x, hx⟩ : ∃ x, c[k]? = some x := ⟨_, List.getElem?_eq_getElem (by rw [← HM.out]; exact hkm)⟩
          obtain ⟨g1, o1, rfl, -, d0, d1, d2, d3, d4, d5, d6⟩ := hS.calls.cl hx
          have i1 : (0 : Int) ≤ (k : Int) := by omega
          have i2 : (k : Int) < (m : Int) := by omega
          have hln : (spansL L (c.take k)).length ≤ 65536 := by
            unfold spansL
            rw [List.length_map]
            have := List.length_take_le k c
            omega
          have hRl := hS.rel.lt
          obtain ⟨x0, x1, x2, x3, x4, x5, x6⟩ := x
          have hkc : k ≤ c1 := by omega
          by_cases hxt : x6 = -1
          · have hx6 : (x6 == -1) = true := by rw [beq_iff_eq]; exact hxt
            have hto : endOf L ⟨x0, x1, x2, x3, x4, x5, x6⟩ = (L : Int) := if_pos hxt
            have hst := spansL_take (L := L) hx
            rw [hto] at hst
            have HX := Lib.hid (And.intro hx hst)
            have hl1 := Lies.new wr 33 (clCs ⟨x0, x1, x2, x3, x4, x5, x6⟩).toArray
            have HP2 := Lib.hid ((hP.alloc (.cells (clCs ⟨x0, x1, x2, x3, x4, x5, x6⟩).toArray 33)).alloc (.cells (spCs (x5, (L : Int))).toArray 61))
            have HS2 := Lib.hid ((hS.alloc (.cells (clCs ⟨x0, x1, x2, x3, x4, x5, x6⟩).toArray 33)).alloc (.cells (spCs (x5, (L : Int))).toArray 61))
            have HL1 := Lib.hid (Lies.alloc hl1 (.cells (spCs (x5, (L : Int))).toArray 61))
            have HNC := Lib.hid (new_cells (wr.alloc (.cells (clCs ⟨x0, x1, x2, x3, x4, x5, x6⟩).toArray 33)) 61 (spCs (x5, (L : Int))))
            have HLN := Lib.hid hln
            have HSZ := Lib.hid (show R + 1 ≤ ((wr.alloc (.cells (clCs ⟨x0, x1, x2, x3, x4, x5, x6⟩).toArray 33)).alloc (.cells (spCs (x5, (L : Int))).toArray 61)).heap.size by simp; omega)
            clear hx hst hto hP hS hl1 hln hxt
            go_wp2_with (at_builtin; refine wpList_app_sp rfl (.tmp 56) (.tmp 61) rfl (R + 1) (wr.heap.size + 1) _ (spansL L (c.take k)) (x5, (L : Int)) rfl rfl HP2.out (by simp) HLN.out HSZ.out ?_; intro v' w5 ho5 hb5 hg5; have HN := Lib.hid (And.intro ho5 (And.intro (HS2.out.over hb5) (Lies.keep HL1.out (hg5.block wr.heap.size HL1.out.lt (HP2.out.apart HL1.out (by decide)))))); clear ho5 hb5 hg5)
            have hN := HN.out
            clear HN HP2 HS2 HL1 HNC HSZ d0 d1 d2 d3 d4 d5 d6
            generalize wr.heap.size = P at hN ⊢
            obtain ⟨hP, hS, hl1⟩ := hN
            go_loopw [67] (fun i wr => ∃ j : Nat, j ≤ k ∧ i = .int .i64 j ∧ POwn wr (R + 1) v' (spansL L (c.take k) ++ [(x5, (L : Int))]) ∧ HsS w (.slice (some ⟨g1, o1, none⟩) m c1) c R m r wr ∧ Lies wr P 33 (clCs ⟨x0, x1, x2, x3, x4, x5, x6⟩).toArray) (fun i _ => k - (intOf i).toNat)
            case atStart => exact ⟨0, by omega, rfl, hP, hS, hl1⟩
            case round =>
              clear hP hS hl1
              obtain ⟨j, hj, rfl, hP, hS, hl1⟩ := hrel
              by_cases hjk : j < k
              · obtain ⟨y, hy⟩ : ∃ y, c[j]? = some y := ⟨_, List.getElem?_eq_getElem (by rw [← HM.out]; omega)⟩
                obtain ⟨g2, o2, hA, -, d0, d1, d2, d3, d4, d5, d6⟩ := hS.calls.cl hy
                injection hA with hA
                injection hA with hA1 hA2
                subst hA1
                subst hA2
                have j1 : (0 : Int) ≤ (j : Int) := by omega
                have j2 : (j : Int) < (k : Int) := by omega
                have j3 : (j : Int) < 12 := by omega
                have hj12 : j < 12 := by omega
                have hrow := hS.rel.row' hj12
                have q0 : wr.cell? ⟨P, 0, none⟩ = some (.int .i64 x0) := Lies.cell hl1 0
                have hPl := hl1.lt
                have hRl := hS.rel.lt
                obtain ⟨y0, y1, y2, y3, y4, y5, y6⟩ := y
                have hba : Below wr.heap.size wr (wr.alloc (.cells (clCs ⟨y0, y1, y2, y3, y4, y5, y6⟩).toArray 33)) := (Below.refl _ _).alloc (Nat.le_refl _) _
                have hob : x0 = y0 → (r j).testBit k = true := fun e => by
                  have h1 := own_bit HO.out hjk hy HX.out.1 (by exact e.symm)
                  rw [← HM.out, HR.out] at h1
                  exact h1
                have hr16 : r j < 65536 := by rw [← HR.out]; exact relP_lt _ hn j
                have HK := Lib.hid (And.intro (hP.then_ hba) (And.intro (hS.next hba) (Lies.below hl1 hba hl1.lt)))
                clear hy hP hS hl1 hba
                by_cases t1 : x0 = y0
                · have hbit := shr_bit hr16 (hob t1)
                  generalize r j = z at hrow hbit
                  clear hob hr16
                  subst t1
                  go_wp2_with fail
                  go_roundw
                  case rel => exact ⟨j + 1, by omega, by go_num, HK.out⟩
                  case measure => simp [intOf]; omega
                · have hz : (x0 == y0) = false := by rw [beq_eq_false_iff_ne]; exact t1
                  clear hob hr16 t1
                  go_wp2_with fail
                  go_roundw
                  case rel => exact ⟨j + 1, by omega, by go_num, HK.out⟩
                  case measure => simp [intOf]; omega
              · obtain rfl : j = k := by omega
                have HK := Lib.hid (And.intro hP hS)
                clear hP hS hl1
                go_wp2_with fail
                go_roundw
                case rel => exact ⟨j + 1, _, by omega, by go_num, rfl, by rw [HX.out.2]; exact HK.out.1, HK.out.2⟩
                case measure => simp [intOf]; omega
          · have hx6 : (x6 == -1) = false := by rw [beq_eq_false_iff_ne]; exact hxt
            have hto : endOf L ⟨x0, x1, x2, x3, x4, x5, x6⟩ = x6 := if_neg hxt
            have hst := spansL_take (L := L) hx
            rw [hto] at hst
            have HX := Lib.hid (And.intro hx hst)
            have hl1 := Lies.new wr 33 (clCs ⟨x0, x1, x2, x3, x4, x5, x6⟩).toArray
            have HP2 := Lib.hid ((hP.alloc (.cells (clCs ⟨x0, x1, x2, x3, x4, x5, x6⟩).toArray 33)).alloc (.cells (spCs (x5, x6)).toArray 61))
            have HS2 := Lib.hid ((hS.alloc (.cells (clCs ⟨x0, x1, x2, x3, x4, x5, x6⟩).toArray 33)).alloc (.cells (spCs (x5, x6)).toArray 61))
            have HL1 := Lib.hid (Lies.alloc hl1 (.cells (spCs (x5, x6)).toArray 61))
            have HNC := Lib.hid (new_cells (wr.alloc (.cells (clCs ⟨x0, x1, x2, x3, x4, x5, x6⟩).toArray 33)) 61 (spCs (x5, x6)))
            have HLN := Lib.hid hln
            have HSZ := Lib.hid (show R + 1 ≤ ((wr.alloc (.cells (clCs ⟨x0, x1, x2, x3, x4, x5, x6⟩).toArray 33)).alloc (.cells (spCs (x5, x6)).toArray 61)).heap.size by simp; omega)
            clear hx hst hto hP hS hl1 hln hxt
            go_wp2_with (at_builtin; refine wpList_app_sp rfl (.tmp 56) (.tmp 61) rfl (R + 1) (wr.heap.size + 1) _ (spansL L (c.take k)) (x5, x6) rfl rfl HP2.out (by simp) HLN.out HSZ.out ?_; intro v' w5 ho5 hb5 hg5; have HN := Lib.hid (And.intro ho5 (And.intro (HS2.out.over hb5) (Lies.keep HL1.out (hg5.block wr.heap.size HL1.out.lt (HP2.out.apart HL1.out (by decide)))))); clear ho5 hb5 hg5)
            have hN := HN.out
            clear HN HP2 HS2 HL1 HNC HSZ d0 d1 d2 d3 d4 d5 d6
            generalize wr.heap.size = P at hN ⊢
            obtain ⟨hP, hS, hl1⟩ := hN
            go_loopw [67] (fun i wr => ∃ j : Nat, j ≤ k ∧ i = .int .i64 j ∧ POwn wr (R + 1) v' (spansL L (c.take k) ++ [(x5, x6)]) ∧ HsS w (.slice (some ⟨g1, o1, none⟩) m c1) c R m r wr ∧ Lies wr P 33 (clCs ⟨x0, x1, x2, x3, x4, x5, x6⟩).toArray) (fun i _ => k - (intOf i).toNat)
            case atStart => exact ⟨0, by omega, rfl, hP, hS, hl1⟩
            case round =>
              clear hP hS hl1
              obtain ⟨j, hj, rfl, hP, hS, hl1⟩ := hrel
              by_cases hjk : j < k
              · obtain ⟨y, hy⟩ : ∃ y, c[j]? = some y := ⟨_, List.getElem?_eq_getElem (by rw [← HM.out]; omega)⟩
                obtain ⟨g2, o2, hA, -, d0, d1, d2, d3, d4, d5, d6⟩ := hS.calls.cl hy
                injection hA with hA
                injection hA with hA1 hA2
                subst hA1
                subst hA2
                have j1 : (0 : Int) ≤ (j : Int) := by omega
                have j2 : (j : Int) < (k : Int) := by omega
                have j3 : (j : Int) < 12 := by omega
                have hj12 : j < 12 := by omega
                have hrow := hS.rel.row' hj12
                have q0 : wr.cell? ⟨P, 0, none⟩ = some (.int .i64 x0) := Lies.cell hl1 0
                have hPl := hl1.lt
                have hRl := hS.rel.lt
                obtain ⟨y0, y1, y2, y3, y4, y5, y6⟩ := y
                have hba : Below wr.heap.size wr (wr.alloc (.cells (clCs ⟨y0, y1, y2, y3, y4, y5, y6⟩).toArray 33)) := (Below.refl _ _).alloc (Nat.le_refl _) _
                have hob : x0 = y0 → (r j).testBit k = true := fun e => by
                  have h1 := own_bit HO.out hjk hy HX.out.1 (by exact e.symm)
                  rw [← HM.out, HR.out] at h1
                  exact h1
                have hr16 : r j < 65536 := by rw [← HR.out]; exact relP_lt _ hn j
                have HK := Lib.hid (And.intro (hP.then_ hba) (And.intro (hS.next hba) (Lies.below hl1 hba hl1.lt)))
                clear hy hP hS hl1 hba
                by_cases t1 : x0 = y0
                · have hbit := shr_bit hr16 (hob t1)
                  generalize r j = z at hrow hbit
                  clear hob hr16
                  subst t1
                  go_wp2_with fail
                  go_roundw
                  case rel => exact ⟨j + 1, by omega, by go_num, HK.out⟩
                  case measure => simp [intOf]; omega
                · have hz : (x0 == y0) = false := by rw [beq_eq_false_iff_ne]; exact t1
                  clear hob hr16 t1
                  go_wp2_with fail
                  go_roundw
                  case rel => exact ⟨j + 1, by omega, by go_num, HK.out⟩
                  case measure => simp [intOf]; omega
              · obtain rfl : j = k := by omega
                have HK := Lib.hid (And.intro hP hS)
                clear hP hS hl1
                go_wp2_with fail
                go_roundw
                case rel => exact ⟨j + 1, _, by omega, by go_num, rfl, by rw [HX.out.2]; exact HK.out.1, HK.out.2⟩
                case measure => simp [intOf]; omega
        · obtain rfl : k = m := by omega
          have hall : spansL L (c.take k) = spansL L c := by rw [HM.out, List.take_length]
          rw [hall] at hP
          have hlen : (spansL L c).length = k := by unfold spansL; rw [List.length_map, HM.out]
          have hrd := hP.rd
          rw [hlen] at hrd
          have hE := spans_ok HO.out h200 (by rw [← HM.out]; exact hn)
          have hrel := spans_rel HO.out
          rw [← HM.out] at hE hrel
          rw [HR.out] at hrel
          have hof := of_ok hrd (Nat.le_refl _) hE
          rw [hrel] at hof
          have HOF := Lib.hid hof
          obtain ⟨hg, hcl, hcy⟩ := rel_good HO.out (by rw [← HM.out]; exact hn)
          rw [← HM.out, HR.out] at hg hcl hcy
          have hclose := fun W => close_no k r W hg hcy
          rw [hcl] at hclose
          have HCL := Lib.hid hclose
          have HSS := Lib.hid hS
          clear hall hlen hrd hE hrel hof hP hS hg hcl hcy hclose
          go_wp2_with fail
          refine HOF.out.mono ?_
          rintro e w6 ⟨rfl, hb6⟩
          have hS6 := HSS.out.next hb6
          have hba : Below w6.heap.size w6 (w6.alloc (.cells (relCs k r) 41)) := (Below.refl _ _).alloc (Nat.le_refl _) _
          have H7 := Lib.hid (And.intro (hS6.next hba) (Lies.new w6 41 (relCs k r)))
          have c0 := hS6.rel.size
          obtain ⟨c1, c2, c3, c4, c5, c6, c7, c8, c9, c10, c11, c12⟩ := hS6.rel.rows
          have hRl := hS6.rel.lt
          clear hS6 hba hb6 HSS HOF
          go_wp2_with fail
          clear c0 c1 c2 c3 c4 c5 c6 c7 c8 c9 c10 c11 c12
          change Calls _ _ _ (w6.alloc (.cells (relCs k r) 41)) _
          have H7' := H7.out
          clear H7
          generalize w6.alloc (.cells (relCs k r) 41) = W7 at H7' ⊢
          generalize w6.heap.size = Q at H7' ⊢
          refine (HCL.out W7).mono ?_
          rintro e w8 ⟨rfl, hb8⟩
          have hba : Below w8.heap.size w8 (w8.alloc (.cells (relCs k r) 41)) := (Below.refl _ _).alloc (Nat.le_refl _) _
          have hS8 := (H7'.1.next hb8).next hba
          have hq8 := Lies.below (Lies.below H7'.2 hb8 H7'.2.lt) hba (Lies.below H7'.2 hb8 H7'.2.lt).lt
          have H9 := Lib.hid (And.intro hS8 (show RelB _ Q k r from hq8))
          clear hb8 hba H7' hS8 hq8 hRl
          have HOK := Lib.hid (fun (W : World) (G : Nat) (hG : G = W.heap.size) => ok_any_at W G hG)
          go_wp2_with fail
          have H9' := H9.out
          clear H9
          change Calls _ _ _ ((w8.alloc (.cells (relCs k r) 41)).alloc (.cells #[.int .i64 0, .int .i64 0] 25)) _
          have hG9 : w8.heap.size + 1 = (w8.alloc (.cells (relCs k r) 41)).heap.size := (World.size_alloc _ _).symm
          generalize w8.alloc (.cells (relCs k r) 41) = W9 at H9' hG9 ⊢
          have h10 := (H9'.1.alloc (.cells #[.int .i64 0, .int .i64 0] 25))
          have q10 : RelB (W9.alloc (.cells #[.int .i64 0, .int .i64 0] 25)) Q k r := Lies.alloc H9'.2 _
          refine (HOK.out W9 _ hG9).mono ?_
          rintro e w10 ⟨rfl, rfl⟩
          clear H9'
          generalize W9.alloc (.cells #[.int .i64 0, .int .i64 0] 25) = W10 at h10 q10 ⊢
          have c0 := h10.rel.size
          obtain ⟨c1, c2, c3, c4, c5, c6, c7, c8, c9, c10, c11, c12⟩ := h10.rel.rows
          have d0 := q10.size
          obtain ⟨d1, d2, d3, d4, d5, d6, d7, d8, d9, d10, d11, d12⟩ := q10.rows
          have hqq := fun W => rows_same (r 0 : Nat) (r 1 : Nat) (r 2 : Nat) (r 3 : Nat) (r 4 : Nat) (r 5 : Nat) (r 6 : Nat) (r 7 : Nat) (r 8 : Nat) (r 9 : Nat) (r 10 : Nat) (r 11 : Nat) W
          have H10 := Lib.hid h10
          clear h10 q10
          go_wp2_with fail
          go_ret
          exact ⟨rfl, H10.out.below⟩
    -- AN ERROR OF Calls
    · generalize (callsOf ts l).2.1 = a
      have hz : ((callsOf ts l).2.2 == 0) = false := by rw [beq_eq_false_iff_ne]; exact h0
      have hE0 : (callsOf ts l).2.2 ≠ 0 := h0
      generalize (callsOf ts l).2.2 = E at hz hE0 ⊢
      have HE0 := Lib.hid hE0
      clear h0 h12 hE0
      go_wp2_with fail
      refine HA.out.mono ?_
      rintro e w2 ⟨rfl, hb2⟩
      have H2 := Lib.hid (H1.out.1.trans (hb2.mono H1.out.1.size))
      clear hb2 HA
      generalize relP (aheadB (callsOf ts l).1) (callsOf ts l).1.length = r
      generalize (callsOf ts l).1.length = m
      go_wp2_with fail
      refine (lives_any _).mono ?_
      rintro e w3 ⟨rfl, hb3⟩
      have H3 := Lib.hid ((H2.out.alloc H2.out.size _).trans (hb3.mono (by have := H2.out.size; simp; omega)))
      clear hb3 H2
      have hok := ok_not (IRd.fresh w3 25 [E, 0] 2 rfl #[.int .i64 E, .int .i64 0] rfl) (x := E) (by simp) HE0.out (by simp)
      have HOK := Lib.hid hok
      clear hok
      go_wp2_with fail
      refine HOK.out.mono ?_
      rintro e w4 ⟨rfl, rfl⟩
      go_wp2_with fail
      refine (lives_any _).mono ?_
      rintro e w5 ⟨rfl, hb5⟩
      have H5 := Lib.hid ((H3.out.alloc H3.out.size _).trans (hb5.mono (by have := H3.out.size; simp; omega)))
      clear hb5
      go_wp2_with fail
      go_ret
      exact ⟨rfl, H5.out⟩
end Go.Proofs.Ytndcgliopckllaa
