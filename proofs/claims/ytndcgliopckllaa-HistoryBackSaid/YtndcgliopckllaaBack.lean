/-
  alibkeep.HistoryBack answers true, whatever is handed in.
-/
import Derived.Test.YtndcgliopckllaaLivesH
import Derived.Test.YtndcgliopckllaaBackPure
import Derived.Test.YtndcgliopckllaaEqEv
import Derived.Test.YtndcgliopckllaaEnd
namespace Go.Proofs.Ytndcgliopckllaa
open Go.RowKit
set_option maxRecDepth 20000

theorem calls_at {ts : List Int} {l : List Ev} (h : (callsOf ts l).2.2 = 0) : (callsOf ts l).2.1 = 0 := by
  obtain ⟨h1, h2, h3⟩ := calls_zero h
  rw [h3] at h ⊢
  rcases run_at (ts := ts) l 0 [] with hh | hh
  · exact hh.2
  · exact absurd h hh.1
theorem events_none {l : List Cl} (h : (eventsL l).2 ≠ 0) : (eventsL l).1 = [] := by
  unfold eventsL at h ⊢
  by_cases h1 : 200 < l.length
  · rw [if_pos h1]
  · rw [if_neg h1] at h ⊢
    cases hp : placeL l with
    | none => rfl
    | some es =>
      rw [hp] at h
      simp only at h ⊢
      split
      · rename_i hh
        rw [if_pos hh] at h
        exact absurd rfl h
      · rfl
/-- What is known of each call for which events were told. -/
theorem events_each {l : List Cl} (h : (eventsL l).2 = 0) : ∀ c ∈ l, 0 ≤ c.thing ∧ c.thing < 4 ∧ 1 ≤ kindType c.kind ∧ kindType c.kind ≤ 5 := by
  obtain ⟨h1, h2⟩ := calls_events h
  have hk := calls_kinds h1
  obtain ⟨g1, g2, g3⟩ := calls_zero h1
  have h0 := h1
  rw [g3] at h0
  have ht := (run_kept _ 0 [] (fun c hc => by simp at hc) h0).2
  rw [← g3, h2] at ht
  rw [h2] at hk
  intro c hc
  have a := ht c hc
  have b := hk c hc
  have := kindType_le c.kind
  have hlen : ((typesForL l).length : Int) = 4 := by rw [typesForL_len]; rfl
  rw [hlen] at a
  refine ⟨a.1, a.2.1, ?_, this.2⟩
  unfold kindType
  repeat' split
  all_goals omega
/-- The types while one call is tried. -/
def tyJ (ts : List Int) (c : Cl) (j : Nat) : List Int := if kindType c.kind < (j : Int) then tyStep ts c else ts

set_option maxHeartbeats 8000000 in
theorem hback_any {tv lv cv : Value} {ts : List Int} {l : List Ev} {cs : List Cl} {w : World} (ht : NRd w w.heap.size tv ts) (hl : ERd w w.heap.size lv l) (hc : CRd w w.heap.size cv cs) :
    Calls Try.prog 5 #[tv, lv, cv] w fun e w' => e = .returned (.bool true) ∧ Below w.heap.size w w' := by
  obtain ⟨Ac, capc, rfl, m1, m2⟩ := hc.is
  unfold maxLen at m2
  have HL := Lib.hid hl
  have HCL := Lib.hid hc
  have HC := Lib.hid (calls_any ht hl)
  clear ht hl hc
  obtain ⟨N, hN⟩ : ∃ N, N = cs.length := ⟨_, rfl⟩
  rw [← hN]
  rw [← hN] at m1 HCL
  have HN := Lib.hid hN
  clear hN
  go_enter Try.func5, Try.ntmps5
  go_wp2_with fail
  refine HC.out.mono ?_
  rintro e w1 ⟨v1, rfl, hb1, hr1⟩
  have H1 := Lib.hid (And.intro hb1 hr1)
  have HZ := Lib.hid (fun h : (callsOf ts l).2.2 = 0 => And.intro (events_calls h) (calls_at h))
  clear HC hb1 hr1
  generalize callsOf ts l = o at H1 HZ ⊢
  obtain ⟨c1, at_, er⟩ := o
  simp only at H1 HZ ⊢
  by_cases hE : er = 0
  · subst hE
    have hz := HZ.out rfl
    obtain ⟨hz1, rfl⟩ := hz
    have HV := Lib.hid (events_any H1.out.2)
    rw [hz1] at HV
    clear HZ hz1
    go_wp2_with fail
    refine HV.out.mono ?_
    rintro e w2 ⟨v2, rfl, hb2, hr2⟩
    have H2 := Lib.hid (And.intro (H1.out.1.trans (hb2.mono H1.out.1.size)) hr2)
    have HQ := Lib.hid (eqEv_any hr2 ((HL.out.below H2.out.1).mono H2.out.1.size))
    clear HV hb2 hr2 H1
    go_wp2_with fail
    refine HQ.out.mono ?_
    rintro e w3 ⟨rfl, hb3⟩
    simp only [decide_true]
    have HB := Lib.hid (H2.out.1.trans (hb3.mono H2.out.1.size))
    have HV := Lib.hid (events_any ((HCL.out.below HB.out).mono HB.out.size))
    have HP := Lib.hid (And.intro (@events_each cs) (And.intro (@events_none cs) (@calls_events cs)))
    clear hb3 HQ H2 HL
    generalize eventsL cs = o at HV HP ⊢
    obtain ⟨x, er⟩ := o
    simp only at HV HP
    go_wp2_with fail
    refine HV.out.mono ?_
    rintro e w4 ⟨v4, rfl, hb4, hr4⟩
    have H4 := Lib.hid (And.intro (HB.out.trans (hb4.mono HB.out.size)) hr4)
    clear HV hb4 hr4 HB
    go_wp2_with fail
    refine (lives_any _).mono ?_
    rintro e w5 ⟨rfl, hb5⟩
    have H5 := Lib.hid (And.intro (H4.out.1.trans (hb5.mono H4.out.1.size)) ((H4.out.2.below hb5).mono hb5.size))
    clear hb5 H4
    by_cases hE : er = 0
    · subst hE
      go_wp2_with fail
      have hl0 : Lies (w5.alloc (.cells #[.int .i64 1, .int .i64 1, .int .i64 1, .int .i64 1] 3)) w5.heap.size 3 (numCs (typesForL (cs.take 0))) := Lies.new w5 3 #[.int .i64 1, .int .i64 1, .int .i64 1, .int .i64 1]
      have hb0 : Below w5.heap.size w5 (w5.alloc (.cells #[.int .i64 1, .int .i64 1, .int .i64 1, .int .i64 1] 3)) := (Below.refl _ _).alloc (Nat.le_refl _) _
      generalize w5.alloc (.cells #[.int .i64 1, .int .i64 1, .int .i64 1, .int .i64 1] 3) = W6 at hl0 hb0 ⊢
      obtain ⟨G, hG⟩ : ∃ G, G = w5.heap.size := ⟨_, rfl⟩
      rw [← hG] at hl0 hb0 ⊢
      have HG := Lib.hid hG
      have H6 := Lib.hid (And.intro hb0 hl0)
      clear hG hl0 hb0
      go_loopw [67] (fun i wr => ∃ k : Nat, k ≤ N ∧ i = .int .i64 k ∧ Below G w5 wr ∧ Lies wr G 3 (numCs (typesForL (cs.take k)))) (fun i _ => N - (intOf i).toNat)
      case atStart => exact ⟨0, by omega, rfl, H6.out⟩
      case round =>
        clear H6
        obtain ⟨k, hk, rfl, hb, hl⟩ := hrel
        by_cases hkN : k < N
        · obtain ⟨x, hx⟩ : ∃ x, cs[k]? = some x := ⟨_, List.getElem?_eq_getElem (by rw [← HN.out]; exact hkN)⟩
          have h' := (HCL.out.below H5.out.1).below (hb.mono (by rw [HG.out]; exact H5.out.1.size))
          obtain ⟨g, o, rfl, -, d0, d1, d2, d3, d4, d5, d6⟩ := h'.cl hx
          have i1 : (0 : Int) ≤ (k : Int) := by omega
          have i2 : (k : Int) < (N : Int) := by omega
          have hst := typesForL_take hx
          have hlen := typesForL_len (cs.take k)
          have hea := HP.out.1 (by first | rfl | trivial) x (List.mem_of_getElem? hx)
          obtain ⟨x0, x1, x2, x3, x4, x5, x6⟩ := x
          simp only at d0 d1 d2 d3 d4 d5 d6 hea
          obtain ⟨t, rfl⟩ : ∃ t : Nat, x1 = (t : Int) := ⟨x1.toNat, by omega⟩
          have t1 : (0 : Int) ≤ (t : Int) := hea.1
          have t2 : (t : Int) < 4 := hea.2.1
          have hba : Below wr.heap.size wr (wr.alloc (.cells (clCs ⟨x0, t, x2, x3, x4, x5, x6⟩).toArray 33)) := (Below.refl _ _).alloc (Nat.le_refl _) _
          have HW := Lib.hid (And.intro (hb.trans (hba.mono (Nat.le_of_lt hl.lt))) (And.intro (Lies.below hl hba hl.lt) (Lies.new wr 33 (clCs ⟨x0, t, x2, x3, x4, x5, x6⟩).toArray)))
          have HS := Lib.hid (And.intro hst (And.intro hlen (And.intro hea.2.2 hl.lt)))
          clear h' hx hb hl hst hlen hba hea
          go_wp2_with fail
          have HW' := HW.out
          clear HW d0 d1 d2 d3 d4 d5 d6
          change Code.wp _ _ _ _ (wr.alloc (.cells (clCs ⟨x0, t, x2, x3, x4, x5, x6⟩).toArray 33))
          generalize wr.alloc (.cells (clCs ⟨x0, t, x2, x3, x4, x5, x6⟩).toArray 33) = W2 at HW' ⊢
          have hPG : G < wr.heap.size := HS.out.2.2.2
          generalize wr.heap.size = P at HW' hPG ⊢
          go_loopw [17] (fun j wj => ∃ q : Nat, 1 ≤ q ∧ q ≤ 6 ∧ j = .int .i64 q ∧ Below G w5 wj ∧ Lies wj P 33 (clCs ⟨x0, t, x2, x3, x4, x5, x6⟩).toArray ∧ Lies wj G 3 (numCs (tyJ (typesForL (cs.take k)) ⟨x0, t, x2, x3, x4, x5, x6⟩ q))) (fun j _ => 6 - (intOf j).toNat)
          case atStart => exact ⟨1, by omega, by omega, rfl, HW'.1, HW'.2.2, by
            have h := HW'.2.1
            unfold tyJ
            rw [if_neg (by have := HS.out.2.2.1.1; simp only at this ⊢; omega)]
            exact h⟩
          case round =>
            clear HW'
            obtain ⟨q, q1, q6, rfl, hb, hbox, hl⟩ := hrel
            have j1 : (1 : Int) ≤ (q : Int) := by omega
            by_cases hq : q ≤ 5
            · have j2 : (q : Int) ≤ 5 := by omega
              have c1 := Lies.cell hbox 1
              have c2 := Lies.cell hbox 2
              simp only [List.getElem?_toArray, List.getElem?_cons_succ, List.getElem?_cons_zero] at c1 c2
              by_cases hk : kindType x2 = (q : Int)
              · have hf : fitsB (q : Int) x2 = true := decide_eq_true ⟨by omega, hk.symm⟩
                have hstep : tyJ (typesForL (cs.take k)) ⟨x0, t, x2, x3, x4, x5, x6⟩ (q + 1) = (tyJ (typesForL (cs.take k)) ⟨x0, t, x2, x3, x4, x5, x6⟩ q).set t (q : Int) := by
                  unfold tyJ tyStep
                  simp only
                  rw [if_pos (show kindType x2 < ((q + 1 : Nat) : Int) by omega), if_neg (show ¬ kindType x2 < (q : Int) by omega), if_pos (show 0 ≤ (t : Int) ∧ (t : Int) ≤ 3 by omega), hk, Int.toNat_natCast]
                have hlc : wr.cell? ⟨G, t, none⟩ = some (.int .i64 ((tyJ (typesForL (cs.take k)) ⟨x0, t, x2, x3, x4, x5, x6⟩ q).getD t 0)) := by
                  have hq : t < (tyJ (typesForL (cs.take k)) ⟨x0, t, x2, x3, x4, x5, x6⟩ q).length := by
                    have := HS.out.2.1
                    unfold tyJ
                    split
                    · rw [tyStep_len]; omega
                    · omega
                  rw [Lies.cell hl]
                  simp [numCs, List.getD, hq]
                have hfz : wr.frozen? ⟨G, t, none⟩ = false := Lies.frozen hl t
                have HT := Lib.hid hstep
                have HH := Lib.hid (And.intro hb (And.intro hbox hl))
                clear hstep hb hbox hl hk
                go_wp2_with fail
                refine (fits_any _ _ _).mono ?_
                rintro e w' ⟨rfl, rfl⟩
                rw [hf]
                go_wp2_with fail
                go_roundw
                case rel =>
                  refine ⟨q + 1, by omega, by omega, by go_num, HH.out.1.setCell (Nat.le_refl _) _, Lies.far HH.out.2.1 (by show P ≠ G; omega) _, ?_⟩
                  rw [HT.out, ← numCs_set]
                  exact Lies.set_ HH.out.2.2 t _
                case measure => simp [intOf]; omega
              · have hf : fitsB (q : Int) x2 = false := decide_eq_false (fun h => hk h.2.symm)
                have hstep : tyJ (typesForL (cs.take k)) ⟨x0, t, x2, x3, x4, x5, x6⟩ (q + 1) = tyJ (typesForL (cs.take k)) ⟨x0, t, x2, x3, x4, x5, x6⟩ q := by
                  unfold tyJ
                  simp only
                  by_cases h : kindType x2 < (q : Int)
                  · rw [if_pos (by omega), if_pos h]
                  · rw [if_neg (by omega), if_neg h]
                have HT := Lib.hid hstep
                have HH := Lib.hid (And.intro hb (And.intro hbox hl))
                clear hstep hb hbox hl hk
                go_wp2_with fail
                refine (fits_any _ _ _).mono ?_
                rintro e w' ⟨rfl, rfl⟩
                rw [hf]
                go_wp2_with fail
                go_roundw
                case rel => exact ⟨q + 1, by omega, by omega, by go_num, HH.out.1, HH.out.2.1, by rw [HT.out]; exact HH.out.2.2⟩
                case measure => simp [intOf]; omega
            · obtain rfl : q = 6 := by omega
              have HH := Lib.hid (And.intro hb hl)
              clear hb hbox hl
              go_wp2_with fail
              go_roundw
              case rel => exact ⟨k + 1, by omega, by go_num, HH.out.1, by
                have h := HH.out.2
                rw [HS.out.1]
                unfold tyJ at h
                rw [if_pos (by have := HS.out.2.2.1.2; simp only at this ⊢; omega)] at h
                exact h⟩
              case measure => simp [intOf]; omega
        · obtain rfl : k = N := by omega
          have hts := nums_rd hl (typesForL_len _).symm (by unfold maxLen; omega)
          rw [List.take_of_length_le (by rw [← HN.out]; exact Nat.le_refl _)] at hts
          have H7 := Lib.hid (H5.out.1.trans (hb.mono (by rw [HG.out]; exact H5.out.1.size)))
          have HX := Lib.hid (calls_any hts ((H5.out.2.below (hb.mono (by rw [HG.out]; exact Nat.le_refl _))).mono hb.size))
          have HY := Lib.hid (HP.out.2.2 (by first | rfl | trivial))
          clear hb hl hts
          go_wp2_with fail
          refine HX.out.mono ?_
          rintro e w8 ⟨v8, rfl, hb8, hr8⟩
          have H8 := Lib.hid (And.intro (H7.out.trans (hb8.mono H7.out.size)) hr8)
          clear HX hb8 hr8 H7
          have hy := HY.out
          generalize callsOf (typesForL cs) x = o at hy H8 ⊢
          obtain ⟨c8, a8, e8⟩ := o
          obtain ⟨rfl, rfl⟩ := hy
          simp only at H8 ⊢
          have HQ := Lib.hid (eqCl_any H8.out.2 ((HCL.out.below H8.out.1).mono H8.out.1.size))
          clear HY
          go_wp2_with fail
          refine HQ.out.mono ?_
          rintro e w9 ⟨rfl, hb9⟩
          simp only [decide_true]
          have H9 := Lib.hid (H8.out.1.trans (hb9.mono H8.out.1.size))
          clear HQ hb9 H8
          go_wp2_with fail
          go_ret
          exact ⟨rfl, H9.out⟩
    · have hx := HP.out.2.1 hE
      subst hx
      obtain ⟨A4, k4, rfl, -, -⟩ := H5.out.2.is
      have hEb : (er != 0) = true := by rw [bne_iff_ne]; exact hE
      go_wp2_with fail
      refine (lives_any _).mono ?_
      rintro e w6 ⟨rfl, hb6⟩
      have H6 := Lib.hid (H5.out.1.trans (hb6.mono H5.out.1.size))
      clear hb6 H5
      go_wp2_with fail
      go_ret
      exact ⟨rfl, H6.out⟩
  · have hEb0 : (er == 0) = false := by rw [beq_eq_false_iff_ne]; exact hE
    have HB := Lib.hid H1.out.1
    have HV := Lib.hid (events_any ((HCL.out.below HB.out).mono HB.out.size))
    have HP := Lib.hid (And.intro (@events_each cs) (And.intro (@events_none cs) (@calls_events cs)))
    clear H1 HZ HL
    generalize eventsL cs = o at HV HP ⊢
    obtain ⟨x, er'⟩ := o
    simp only at HV HP
    go_wp2_with fail
    refine HV.out.mono ?_
    rintro e w4 ⟨v4, rfl, hb4, hr4⟩
    have H4 := Lib.hid (And.intro (HB.out.trans (hb4.mono HB.out.size)) hr4)
    clear HV hb4 hr4 HB
    go_wp2_with fail
    refine (lives_any _).mono ?_
    rintro e w5 ⟨rfl, hb5⟩
    have H5 := Lib.hid (And.intro (H4.out.1.trans (hb5.mono H4.out.1.size)) ((H4.out.2.below hb5).mono hb5.size))
    clear hb5 H4
    by_cases hE' : er' = 0
    · subst hE'
      go_wp2_with fail
      have hl0 : Lies (w5.alloc (.cells #[.int .i64 1, .int .i64 1, .int .i64 1, .int .i64 1] 3)) w5.heap.size 3 (numCs (typesForL (cs.take 0))) := Lies.new w5 3 #[.int .i64 1, .int .i64 1, .int .i64 1, .int .i64 1]
      have hb0 : Below w5.heap.size w5 (w5.alloc (.cells #[.int .i64 1, .int .i64 1, .int .i64 1, .int .i64 1] 3)) := (Below.refl _ _).alloc (Nat.le_refl _) _
      generalize w5.alloc (.cells #[.int .i64 1, .int .i64 1, .int .i64 1, .int .i64 1] 3) = W6 at hl0 hb0 ⊢
      obtain ⟨G, hG⟩ : ∃ G, G = w5.heap.size := ⟨_, rfl⟩
      rw [← hG] at hl0 hb0 ⊢
      have HG := Lib.hid hG
      have H6 := Lib.hid (And.intro hb0 hl0)
      clear hG hl0 hb0
      go_loopw [67] (fun i wr => ∃ k : Nat, k ≤ N ∧ i = .int .i64 k ∧ Below G w5 wr ∧ Lies wr G 3 (numCs (typesForL (cs.take k)))) (fun i _ => N - (intOf i).toNat)
      case atStart => exact ⟨0, by omega, rfl, H6.out⟩
      case round =>
        clear H6
        obtain ⟨k, hk, rfl, hb, hl⟩ := hrel
        by_cases hkN : k < N
        · obtain ⟨x, hx⟩ : ∃ x, cs[k]? = some x := ⟨_, List.getElem?_eq_getElem (by rw [← HN.out]; exact hkN)⟩
          have h' := (HCL.out.below H5.out.1).below (hb.mono (by rw [HG.out]; exact H5.out.1.size))
          obtain ⟨g, o, rfl, -, d0, d1, d2, d3, d4, d5, d6⟩ := h'.cl hx
          have i1 : (0 : Int) ≤ (k : Int) := by omega
          have i2 : (k : Int) < (N : Int) := by omega
          have hst := typesForL_take hx
          have hlen := typesForL_len (cs.take k)
          have hea := HP.out.1 (by first | rfl | trivial) x (List.mem_of_getElem? hx)
          obtain ⟨x0, x1, x2, x3, x4, x5, x6⟩ := x
          simp only at d0 d1 d2 d3 d4 d5 d6 hea
          obtain ⟨t, rfl⟩ : ∃ t : Nat, x1 = (t : Int) := ⟨x1.toNat, by omega⟩
          have t1 : (0 : Int) ≤ (t : Int) := hea.1
          have t2 : (t : Int) < 4 := hea.2.1
          have hba : Below wr.heap.size wr (wr.alloc (.cells (clCs ⟨x0, t, x2, x3, x4, x5, x6⟩).toArray 33)) := (Below.refl _ _).alloc (Nat.le_refl _) _
          have HW := Lib.hid (And.intro (hb.trans (hba.mono (Nat.le_of_lt hl.lt))) (And.intro (Lies.below hl hba hl.lt) (Lies.new wr 33 (clCs ⟨x0, t, x2, x3, x4, x5, x6⟩).toArray)))
          have HS := Lib.hid (And.intro hst (And.intro hlen (And.intro hea.2.2 hl.lt)))
          clear h' hx hb hl hst hlen hba hea
          go_wp2_with fail
          have HW' := HW.out
          clear HW d0 d1 d2 d3 d4 d5 d6
          change Code.wp _ _ _ _ (wr.alloc (.cells (clCs ⟨x0, t, x2, x3, x4, x5, x6⟩).toArray 33))
          generalize wr.alloc (.cells (clCs ⟨x0, t, x2, x3, x4, x5, x6⟩).toArray 33) = W2 at HW' ⊢
          have hPG : G < wr.heap.size := HS.out.2.2.2
          generalize wr.heap.size = P at HW' hPG ⊢
          go_loopw [17] (fun j wj => ∃ q : Nat, 1 ≤ q ∧ q ≤ 6 ∧ j = .int .i64 q ∧ Below G w5 wj ∧ Lies wj P 33 (clCs ⟨x0, t, x2, x3, x4, x5, x6⟩).toArray ∧ Lies wj G 3 (numCs (tyJ (typesForL (cs.take k)) ⟨x0, t, x2, x3, x4, x5, x6⟩ q))) (fun j _ => 6 - (intOf j).toNat)
          case atStart => exact ⟨1, by omega, by omega, rfl, HW'.1, HW'.2.2, by
            have h := HW'.2.1
            unfold tyJ
            rw [if_neg (by have := HS.out.2.2.1.1; simp only at this ⊢; omega)]
            exact h⟩
          case round =>
            clear HW'
            obtain ⟨q, q1, q6, rfl, hb, hbox, hl⟩ := hrel
            have j1 : (1 : Int) ≤ (q : Int) := by omega
            by_cases hq : q ≤ 5
            · have j2 : (q : Int) ≤ 5 := by omega
              have c1 := Lies.cell hbox 1
              have c2 := Lies.cell hbox 2
              simp only [List.getElem?_toArray, List.getElem?_cons_succ, List.getElem?_cons_zero] at c1 c2
              by_cases hk : kindType x2 = (q : Int)
              · have hf : fitsB (q : Int) x2 = true := decide_eq_true ⟨by omega, hk.symm⟩
                have hstep : tyJ (typesForL (cs.take k)) ⟨x0, t, x2, x3, x4, x5, x6⟩ (q + 1) = (tyJ (typesForL (cs.take k)) ⟨x0, t, x2, x3, x4, x5, x6⟩ q).set t (q : Int) := by
                  unfold tyJ tyStep
                  simp only
                  rw [if_pos (show kindType x2 < ((q + 1 : Nat) : Int) by omega), if_neg (show ¬ kindType x2 < (q : Int) by omega), if_pos (show 0 ≤ (t : Int) ∧ (t : Int) ≤ 3 by omega), hk, Int.toNat_natCast]
                have hlc : wr.cell? ⟨G, t, none⟩ = some (.int .i64 ((tyJ (typesForL (cs.take k)) ⟨x0, t, x2, x3, x4, x5, x6⟩ q).getD t 0)) := by
                  have hq : t < (tyJ (typesForL (cs.take k)) ⟨x0, t, x2, x3, x4, x5, x6⟩ q).length := by
                    have := HS.out.2.1
                    unfold tyJ
                    split
                    · rw [tyStep_len]; omega
                    · omega
                  rw [Lies.cell hl]
                  simp [numCs, List.getD, hq]
                have hfz : wr.frozen? ⟨G, t, none⟩ = false := Lies.frozen hl t
                have HT := Lib.hid hstep
                have HH := Lib.hid (And.intro hb (And.intro hbox hl))
                clear hstep hb hbox hl hk
                go_wp2_with fail
                refine (fits_any _ _ _).mono ?_
                rintro e w' ⟨rfl, rfl⟩
                rw [hf]
                go_wp2_with fail
                go_roundw
                case rel =>
                  refine ⟨q + 1, by omega, by omega, by go_num, HH.out.1.setCell (Nat.le_refl _) _, Lies.far HH.out.2.1 (by show P ≠ G; omega) _, ?_⟩
                  rw [HT.out, ← numCs_set]
                  exact Lies.set_ HH.out.2.2 t _
                case measure => simp [intOf]; omega
              · have hf : fitsB (q : Int) x2 = false := decide_eq_false (fun h => hk h.2.symm)
                have hstep : tyJ (typesForL (cs.take k)) ⟨x0, t, x2, x3, x4, x5, x6⟩ (q + 1) = tyJ (typesForL (cs.take k)) ⟨x0, t, x2, x3, x4, x5, x6⟩ q := by
                  unfold tyJ
                  simp only
                  by_cases h : kindType x2 < (q : Int)
                  · rw [if_pos (by omega), if_pos h]
                  · rw [if_neg (by omega), if_neg h]
                have HT := Lib.hid hstep
                have HH := Lib.hid (And.intro hb (And.intro hbox hl))
                clear hstep hb hbox hl hk
                go_wp2_with fail
                refine (fits_any _ _ _).mono ?_
                rintro e w' ⟨rfl, rfl⟩
                rw [hf]
                go_wp2_with fail
                go_roundw
                case rel => exact ⟨q + 1, by omega, by omega, by go_num, HH.out.1, HH.out.2.1, by rw [HT.out]; exact HH.out.2.2⟩
                case measure => simp [intOf]; omega
            · obtain rfl : q = 6 := by omega
              have HH := Lib.hid (And.intro hb hl)
              clear hb hbox hl
              go_wp2_with fail
              go_roundw
              case rel => exact ⟨k + 1, by omega, by go_num, HH.out.1, by
                have h := HH.out.2
                rw [HS.out.1]
                unfold tyJ at h
                rw [if_pos (by have := HS.out.2.2.1.2; simp only at this ⊢; omega)] at h
                exact h⟩
              case measure => simp [intOf]; omega
        · obtain rfl : k = N := by omega
          have hts := nums_rd hl (typesForL_len _).symm (by unfold maxLen; omega)
          rw [List.take_of_length_le (by rw [← HN.out]; exact Nat.le_refl _)] at hts
          have H7 := Lib.hid (H5.out.1.trans (hb.mono (by rw [HG.out]; exact H5.out.1.size)))
          have HX := Lib.hid (calls_any hts ((H5.out.2.below (hb.mono (by rw [HG.out]; exact Nat.le_refl _))).mono hb.size))
          have HY := Lib.hid (HP.out.2.2 (by first | rfl | trivial))
          clear hb hl hts
          go_wp2_with fail
          refine HX.out.mono ?_
          rintro e w8 ⟨v8, rfl, hb8, hr8⟩
          have H8 := Lib.hid (And.intro (H7.out.trans (hb8.mono H7.out.size)) hr8)
          clear HX hb8 hr8 H7
          have hy := HY.out
          generalize callsOf (typesForL cs) x = o at hy H8 ⊢
          obtain ⟨c8, a8, e8⟩ := o
          obtain ⟨rfl, rfl⟩ := hy
          simp only at H8 ⊢
          have HQ := Lib.hid (eqCl_any H8.out.2 ((HCL.out.below H8.out.1).mono H8.out.1.size))
          clear HY
          go_wp2_with fail
          refine HQ.out.mono ?_
          rintro e w9 ⟨rfl, hb9⟩
          simp only [decide_true]
          have H9 := Lib.hid (H8.out.1.trans (hb9.mono H8.out.1.size))
          clear HQ hb9 H8
          go_wp2_with fail
          go_ret
          exact ⟨rfl, H9.out⟩
    · have hx := HP.out.2.1 hE'
      subst hx
      obtain ⟨A4, k4, rfl, -, -⟩ := H5.out.2.is
      have hEb : (er' != 0) = true := by rw [bne_iff_ne]; exact hE'
      go_wp2_with fail
      refine (lives_any _).mono ?_
      rintro e w6 ⟨rfl, hb6⟩
      have H6 := Lib.hid (H5.out.1.trans (hb6.mono H5.out.1.size))
      clear hb6 H5
      go_wp2_with fail
      go_ret
      exact ⟨rfl, H6.out⟩
end Go.Proofs.Ytndcgliopckllaa
