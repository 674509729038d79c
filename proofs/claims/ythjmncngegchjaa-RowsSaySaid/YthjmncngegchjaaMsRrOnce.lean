/-
  Joined by a program out of: RrOnce.
-/
import Derived.Test.YthjmncngegchjaaMsCallsOf
import Derived.Test.YthjmncngegchjaaMgAE
import Derived.Deep.CutRange

/-
  Contract of the reference's OncePut.
-/
namespace Go.Proofs.Ythjmncngegchjaa
open Go.RowKit
set_option maxRecDepth 20000

/-- What OncePut answers. -/
def PutPost (w : World) (l : List Ev) (e : Ending) (w' : World) : Prop :=
  ∃ v, e = .returned (.tuple #[v, .int .i64 (rowsE l)]) ∧ Below w.heap.size w w' ∧ (rowsE l = 0 → CRd w' w'.heap.size v (callsOf [2] l).1)
/-- Two that put the same. -/
theorem ok_same {cs : List Cl} {i j : Nat} {c d : Cl} (hij : i < j) (hc : cs[i]? = some c) (hd : cs[j]? = some d) (h1 : c.kind = 3) (h2 : d.kind = 3) (he : c.arg = d.arg) : okQ cs = false := by
  rw [Bool.eq_false_iff]
  intro h
  have h3 := okQ_all.1 h j (List.getElem?_eq_some_iff.1 hd).1
  rw [okAt_some hd, if_pos h2, Bool.not_eq_true', Option.isSome_eq_false_iff, Option.isNone_iff_eq_none, pAt_none] at h3
  have h4 := h3 c (List.mem_of_getElem? (i := i) (by rw [List.getElem?_take, if_pos hij]; exact hc))
  rw [isE_iff.2 ⟨h1, he⟩] at h4
  cases h4
/-- One that takes and is not answered. -/
theorem ok_open {cs : List Cl} {j : Nat} {d : Cl} (hd : cs[j]? = some d) (h1 : d.kind = 4) (h2 : d.til = -1) : okQ cs = false := by
  rw [Bool.eq_false_iff]
  intro h
  have h3 := okQ_all.1 h j (List.getElem?_eq_some_iff.1 hd).1
  rw [okAt_some hd, if_neg (by omega), h2] at h3
  cases h3
theorem ok_next {cs : List Cl} {j : Nat} {d : Cl} (hd : cs[j]? = some d) (hk : d.kind = 3 ∨ d.kind = 4) (h1 : ¬ (d.kind = 4 ∧ d.til = -1)) (h2 : ∀ (a : Nat) (c : Cl), a < j → cs[a]? = some c → c.kind = 3 → d.kind = 3 → c.arg ≠ d.arg) : okAt cs j = true := by
  rw [okAt_some hd]
  split
  · rename_i h3
    rw [Bool.not_eq_true', Option.isSome_eq_false_iff, Option.isNone_iff_eq_none, pAt_none]
    intro c hc
    obtain ⟨a, ha⟩ := List.getElem?_of_mem hc
    rw [List.getElem?_take] at ha
    split at ha
    · rename_i haj
      rw [Bool.eq_false_iff]
      intro he
      exact h2 a c haj ha (isE_iff.1 he).1 h3 (isE_iff.1 he).2
    · cases ha
  · rename_i h3
    rw [bne_iff_ne]
    intro h4
    exact h1 ⟨hk.resolve_left h3, h4⟩
set_option maxHeartbeats 4000000 in
theorem oncePut_any {lv : Value} {l : List Ev} {w : World} (hl : ERd w w.heap.size lv l) :
    Calls Try.prog 9 #[lv] w (PutPost w l) := by
  have HL := Lib.hid hl
  have HNL := Lib.hid (fun W : World => LRd.of_lit (f := intCs) (s := 1) (w := W) (l := [2]) (fun _ => rfl) 3 (cs := #[.int .i64 2]) rfl (n := 1) rfl (by unfold maxLen; omega))
  obtain ⟨Al, capl, rfl, m1, m2⟩ := hl.is
  unfold maxLen at m2
  obtain ⟨L, hL⟩ : ∃ L, L = l.length := ⟨_, rfl⟩
  rw [← hL] at HL m1 ⊢
  clear hl hL
  have hb4 : Below w.heap.size w (w.alloc (.cells #[.int .i64 2] 3)) := (Below.refl _ _).alloc (Nat.le_refl _) _
  have hn4 := (HNL.out w).mono (B' := (w.alloc (.cells #[.int .i64 2] 3)).heap.size) (by simp)
  have HCA := Lib.hid (callsOf_any hn4 ((HL.out.below hb4).mono hb4.size))
  have H4 := Lib.hid hb4
  clear hb4 hn4
  go_enter Try.func9, Try.ntmps9
  go_wp2_with fail
  refine HCA.out.mono ?_
  rintro e w5 ⟨vc, rfl, hb5, hcr⟩
  generalize hat : (callsOf [2] l).2.1 = at1
  clear hat
  have hzE : rowsE l = if (callsOf [2] l).2.2 ≠ 0 then (callsOf [2] l).2.2 else if okQ (callsOf [2] l).1 = true then 0 else 6 := rfl
  have hkd : (callsOf [2] l).2.2 = 0 → ∀ c ∈ (callsOf [2] l).1, c.kind = 3 ∨ c.kind = 4 := fun h c hc => que_34 (calls_callOk h c hc)
  obtain ⟨F, hF⟩ : ∃ F, F = (callsOf [2] l).2.2 := ⟨_, rfl⟩
  obtain ⟨cs, hcs⟩ : ∃ cs, cs = (callsOf [2] l).1 := ⟨_, rfl⟩
  rw [← hF, ← hcs] at hzE hkd
  have HKD := Lib.hid hkd
  clear hkd
  rw [← hF]
  rw [← hcs] at hcr
  obtain ⟨Ac, cc, rfl, c1, c2⟩ := hcr.is
  unfold maxLen at c2
  obtain ⟨n, hn⟩ : ∃ n, n = cs.length := ⟨_, rfl⟩
  rw [← hn] at hcr c1 ⊢
  have H5 := Lib.hid (And.intro (H4.out.trans (hb5.mono H4.out.size)) hcr)
  have HE := Lib.hid (And.intro hzE (And.intro hcs hn))
  clear hcr hb5 H4 hzE hF hcs hn HCA HNL HL
  by_cases hF0 : F = 0
  · subst hF0
    have m3 : (n : Int) ≤ 9223372036854775807 := by omega
    go_wp2_with fail
    go_loopw [23] (fun t wr => ∃ j : Nat, j ≤ n ∧ t = .int .i64 j ∧ (∀ k, k < j → okAt cs k = true) ∧ Below w5.heap.size w5 wr) (fun t _ => n - (intOf t).toNat)
    case atStart => exact ⟨0, by omega, rfl, fun k h => by omega, Below.refl _ _⟩
    case round =>
      obtain ⟨j, hj, rfl, ho, hb⟩ := hrel
      by_cases hjn : j < n
      · obtain ⟨y, hy⟩ : ∃ y, cs[j]? = some y := ⟨_, List.getElem?_eq_getElem (by rw [← HE.out.2.2]; exact hjn)⟩
        obtain ⟨g, o, rfl, hg, d0, d1, d2, d3, d4, d5, d6⟩ := (H5.out.2.below hb).cl hy
        have HY := Lib.hid (And.intro hy ho)
        obtain ⟨y0, y1, y2, y3, y4, y5, y6⟩ := y
        simp only at d0 d1 d2 d3 d4 d5 d6
        have i1 : (0 : Int) ≤ (j : Int) := by omega
        have i2 : (j : Int) < (n : Int) := by omega
        have i3 : (j : Int) ≤ (cc : Int) := by omega
        have hal := hb.alloc hb.size (.cells #[.int .i64 y0, .int .i64 y1, .int .i64 y2, .int .i64 y3, .int .i64 y4, .int .i64 y5, .int .i64 y6] 49)
        have HB := Lib.hid (And.intro hal (Lies.new wr 49 #[.int .i64 y0, .int .i64 y1, .int .i64 y2, .int .i64 y3, .int .i64 y4, .int .i64 y5, .int .i64 y6]))
        have HS := Lib.hid hb.size
        clear hy ho hb hal
        go_upto_region 7 with fail
        change Code.wp _ _ _ _ (wr.alloc (.cells #[.int .i64 y0, .int .i64 y1, .int .i64 y2, .int .i64 y3, .int .i64 y4, .int .i64 y5, .int .i64 y6] 49))
        generalize wr.alloc (.cells #[.int .i64 y0, .int .i64 y1, .int .i64 y2, .int .i64 y3, .int .i64 y4, .int .i64 y5, .int .i64 y6] 49) = W2 at HB ⊢
        generalize wr.heap.size = X at HB HS ⊢
        clear d0 d1 d2 d3 d4 d5 d6
        have e2 := Lies.cell HB.out.2 2
        have e6 := Lies.cell HB.out.2 6
        simp only [List.getElem?_toArray, List.getElem?_cons_zero, List.getElem?_cons_succ] at e2 e6
        by_cases h4 : y2 = 4
        · have b4 : (y2 == 4) = true := beq_iff_eq.2 h4
          by_cases h6 : y6 = -1
          · have hz := HE.out.1
            rw [if_neg (by decide), ok_open HY.out.1 h4 h6, if_neg (by decide)] at hz
            have HZ := Lib.hid hz
            subst h4 h6
            clear hz
            go_wp2_with fail
            go_ret2
            exact ⟨_, by rw [HZ.out]; rfl, H5.out.1.trans (HB.out.1.mono H5.out.1.size), fun h => by rw [HZ.out] at h; cases h⟩
          · have b6 : (y6 == -1) = false := beq_eq_false_iff_ne.2 h6
            have HNK := Lib.hid (show ¬ (y2 = 4 ∧ y6 = -1) from fun h => h6 h.2)
            clear h6 h4
            go_upto_region 9 with fail
            clear e2 e6 b4 b6
            go_wp2_with fail
            go_loopw [40] (fun t wr2 => ∃ i : Nat, i ≤ j ∧ t = .int .i64 i ∧ (∀ (a : Nat) (c : Cl), a < i → cs[a]? = some c → c.kind = 3 → y2 = 3 → c.arg ≠ y3) ∧ Below w5.heap.size w5 wr2 ∧ Lies wr2 X 49 #[.int .i64 y0, .int .i64 y1, .int .i64 y2, .int .i64 y3, .int .i64 y4, .int .i64 y5, .int .i64 y6]) (fun t _ => j - (intOf t).toNat)
            case atStart => exact ⟨0, by omega, rfl, fun a c h => by omega, HB.out.1, HB.out.2⟩
            case round =>
              obtain ⟨i, hi, rfl, hno, hb2, hlx⟩ := hrel
              by_cases hij : i < j
              · obtain ⟨x, hx⟩ : ∃ x, cs[i]? = some x := ⟨_, List.getElem?_eq_getElem (by rw [← HE.out.2.2]; omega)⟩
                obtain ⟨g', o', hA, hg', d0, d1, d2, d3, d4, d5, d6⟩ := (H5.out.2.below hb2).cl hx
                injection hA with hA
                injection hA with hA1 hA2
                subst hA1 hA2
                have HX := Lib.hid (And.intro hx hno)
                obtain ⟨x0, x1, x2, x3, x4, x5, x6⟩ := x
                simp only at d0 d1 d2 d3 d4 d5 d6
                have k1 : (0 : Int) ≤ (i : Int) := by omega
                have k2 : (i : Int) < (j : Int) := by omega
                have hal := hb2.alloc hb2.size (.cells #[.int .i64 x0, .int .i64 x1, .int .i64 x2, .int .i64 x3, .int .i64 x4, .int .i64 x5, .int .i64 x6] 49)
                have HC := Lib.hid (And.intro hal (And.intro (Lies.alloc hlx (.cells #[.int .i64 x0, .int .i64 x1, .int .i64 x2, .int .i64 x3, .int .i64 x4, .int .i64 x5, .int .i64 x6] 49)) (Lies.new wr 49 #[.int .i64 x0, .int .i64 x1, .int .i64 x2, .int .i64 x3, .int .i64 x4, .int .i64 x5, .int .i64 x6])))
                clear hx hno hb2 hlx hal
                go_upto_region 12 with fail
                change Code.wp _ _ _ _ (wr.alloc (.cells #[.int .i64 x0, .int .i64 x1, .int .i64 x2, .int .i64 x3, .int .i64 x4, .int .i64 x5, .int .i64 x6] 49))
                generalize wr.alloc (.cells #[.int .i64 x0, .int .i64 x1, .int .i64 x2, .int .i64 x3, .int .i64 x4, .int .i64 x5, .int .i64 x6] 49) = W4 at HC ⊢
                generalize wr.heap.size = X4 at HC ⊢
                clear d0 d1 d2 d3 d4 d5 d6
                have e2 := Lies.cell HC.out.2.1 2
                have e3 := Lies.cell HC.out.2.1 3
                have f2 := Lies.cell HC.out.2.2 2
                have f3 := Lies.cell HC.out.2.2 3
                simp only [List.getElem?_toArray, List.getElem?_cons_zero, List.getElem?_cons_succ] at e2 e3 f2 f3
                by_cases h1 : y2 = 3
                · by_cases h2 : x2 = 3
                  · by_cases h3 : y3 = x3
                    · have hz := HE.out.1
                      rw [if_neg (by decide), ok_same hij HX.out.1 HY.out.1 h2 h1 h3.symm, if_neg (by decide)] at hz
                      have HZ := Lib.hid hz
                      subst h1 h2 h3
                      clear hz
                      go_wp2_with fail
                      go_ret2
                      exact ⟨_, by rw [HZ.out]; rfl, H5.out.1.trans (HC.out.1.mono H5.out.1.size), fun h => by rw [HZ.out] at h; cases h⟩
                    · have b3 : (y3 == x3) = false := beq_eq_false_iff_ne.2 h3
                      have H3 := Lib.hid h3
                      subst h1 h2
                      clear h3
                      go_wp2_with fail
                      go_roundw
                      case rel => exact ⟨i + 1, by omega, by go_num, fun a c ha hc q1 q2 => by
                        rcases Nat.lt_or_ge a i with h | h
                        · exact HX.out.2 a c h hc q1 rfl
                        · obtain rfl : a = i := by omega
                          rw [HX.out.1] at hc
                          injection hc with hc
                          subst hc
                          exact fun h => H3.out h.symm, HC.out.1, HC.out.2.1⟩
                      case measure => simp [intOf]; omega
                  · have b2 : (x2 == 3) = false := beq_eq_false_iff_ne.2 h2
                    have H3 := Lib.hid h2
                    subst h1
                    clear h2
                    go_wp2_with fail
                    go_roundw
                    case rel => exact ⟨i + 1, by omega, by go_num, fun a c ha hc q1 q2 => by
                      rcases Nat.lt_or_ge a i with h | h
                      · exact HX.out.2 a c h hc q1 rfl
                      · obtain rfl : a = i := by omega
                        rw [HX.out.1] at hc
                        injection hc with hc
                        subst hc
                        exact absurd q1 H3.out, HC.out.1, HC.out.2.1⟩
                    case measure => simp [intOf]; omega
                · have b1 : (y2 == 3) = false := beq_eq_false_iff_ne.2 h1
                  have H3 := Lib.hid h1
                  clear h1
                  go_wp2_with fail
                  go_roundw
                  case rel => exact ⟨i + 1, by omega, by go_num, fun a c ha hc q1 q2 => absurd q2 H3.out, HC.out.1, HC.out.2.1⟩
                  case measure => simp [intOf]; omega
              · obtain rfl : i = j := by omega
                have HNO := Lib.hid (And.intro hno hb2)
                clear hno hb2 hlx
                go_wp2_with fail
                go_roundw
                case rel => exact ⟨i + 1, by omega, by go_num, fun k hk => by
                  rcases Nat.lt_or_ge k i with h | h
                  · exact HY.out.2 k h
                  · obtain rfl : k = i := by omega
                    exact ok_next HY.out.1 (HKD.out (by first | trivial | rfl) _ (List.mem_of_getElem? HY.out.1)) HNK.out (fun a c ha hc q1 q2 => HNO.out.1 a c ha hc q1 q2), HNO.out.2⟩
                case measure => simp [intOf]; omega
        · have b4 : (y2 == 4) = false := beq_eq_false_iff_ne.2 h4
          have HNK := Lib.hid (show ¬ (y2 = 4 ∧ y6 = -1) from fun h => h4 h.1)
          clear h4
          go_upto_region 9 with fail
          clear e2 e6 b4
          go_wp2_with fail
          go_loopw [40] (fun t wr2 => ∃ i : Nat, i ≤ j ∧ t = .int .i64 i ∧ (∀ (a : Nat) (c : Cl), a < i → cs[a]? = some c → c.kind = 3 → y2 = 3 → c.arg ≠ y3) ∧ Below w5.heap.size w5 wr2 ∧ Lies wr2 X 49 #[.int .i64 y0, .int .i64 y1, .int .i64 y2, .int .i64 y3, .int .i64 y4, .int .i64 y5, .int .i64 y6]) (fun t _ => j - (intOf t).toNat)
          case atStart => exact ⟨0, by omega, rfl, fun a c h => by omega, HB.out.1, HB.out.2⟩
          case round =>
            obtain ⟨i, hi, rfl, hno, hb2, hlx⟩ := hrel
            by_cases hij : i < j
            · obtain ⟨x, hx⟩ : ∃ x, cs[i]? = some x := ⟨_, List.getElem?_eq_getElem (by rw [← HE.out.2.2]; omega)⟩
              obtain ⟨g', o', hA, hg', d0, d1, d2, d3, d4, d5, d6⟩ := (H5.out.2.below hb2).cl hx
              injection hA with hA
              injection hA with hA1 hA2
              subst hA1 hA2
              have HX := Lib.hid (And.intro hx hno)
              obtain ⟨x0, x1, x2, x3, x4, x5, x6⟩ := x
              simp only at d0 d1 d2 d3 d4 d5 d6
              have k1 : (0 : Int) ≤ (i : Int) := by omega
              have k2 : (i : Int) < (j : Int) := by omega
              have hal := hb2.alloc hb2.size (.cells #[.int .i64 x0, .int .i64 x1, .int .i64 x2, .int .i64 x3, .int .i64 x4, .int .i64 x5, .int .i64 x6] 49)
              have HC := Lib.hid (And.intro hal (And.intro (Lies.alloc hlx (.cells #[.int .i64 x0, .int .i64 x1, .int .i64 x2, .int .i64 x3, .int .i64 x4, .int .i64 x5, .int .i64 x6] 49)) (Lies.new wr 49 #[.int .i64 x0, .int .i64 x1, .int .i64 x2, .int .i64 x3, .int .i64 x4, .int .i64 x5, .int .i64 x6])))
              clear hx hno hb2 hlx hal
              go_upto_region 12 with fail
              change Code.wp _ _ _ _ (wr.alloc (.cells #[.int .i64 x0, .int .i64 x1, .int .i64 x2, .int .i64 x3, .int .i64 x4, .int .i64 x5, .int .i64 x6] 49))
              generalize wr.alloc (.cells #[.int .i64 x0, .int .i64 x1, .int .i64 x2, .int .i64 x3, .int .i64 x4, .int .i64 x5, .int .i64 x6] 49) = W4 at HC ⊢
              generalize wr.heap.size = X4 at HC ⊢
              clear d0 d1 d2 d3 d4 d5 d6
              have e2 := Lies.cell HC.out.2.1 2
              have e3 := Lies.cell HC.out.2.1 3
              have f2 := Lies.cell HC.out.2.2 2
              have f3 := Lies.cell HC.out.2.2 3
              simp only [List.getElem?_toArray, List.getElem?_cons_zero, List.getElem?_cons_succ] at e2 e3 f2 f3
              by_cases h1 : y2 = 3
              · by_cases h2 : x2 = 3
                · by_cases h3 : y3 = x3
                  · have hz := HE.out.1
                    rw [if_neg (by decide), ok_same hij HX.out.1 HY.out.1 h2 h1 h3.symm, if_neg (by decide)] at hz
                    have HZ := Lib.hid hz
                    subst h1 h2 h3
                    clear hz
                    go_wp2_with fail
                    go_ret2
                    exact ⟨_, by rw [HZ.out]; rfl, H5.out.1.trans (HC.out.1.mono H5.out.1.size), fun h => by rw [HZ.out] at h; cases h⟩
                  · have b3 : (y3 == x3) = false := beq_eq_false_iff_ne.2 h3
                    have H3 := Lib.hid h3
                    subst h1 h2
                    clear h3
                    go_wp2_with fail
                    go_roundw
                    case rel => exact ⟨i + 1, by omega, by go_num, fun a c ha hc q1 q2 => by
                      rcases Nat.lt_or_ge a i with h | h
                      · exact HX.out.2 a c h hc q1 rfl
                      · obtain rfl : a = i := by omega
                        rw [HX.out.1] at hc
                        injection hc with hc
                        subst hc
                        exact fun h => H3.out h.symm, HC.out.1, HC.out.2.1⟩
                    case measure => simp [intOf]; omega
                · have b2 : (x2 == 3) = false := beq_eq_false_iff_ne.2 h2
                  have H3 := Lib.hid h2
                  subst h1
                  clear h2
                  go_wp2_with fail
                  go_roundw
                  case rel => exact ⟨i + 1, by omega, by go_num, fun a c ha hc q1 q2 => by
                    rcases Nat.lt_or_ge a i with h | h
                    · exact HX.out.2 a c h hc q1 rfl
                    · obtain rfl : a = i := by omega
                      rw [HX.out.1] at hc
                      injection hc with hc
                      subst hc
                      exact absurd q1 H3.out, HC.out.1, HC.out.2.1⟩
                  case measure => simp [intOf]; omega
              · have b1 : (y2 == 3) = false := beq_eq_false_iff_ne.2 h1
                have H3 := Lib.hid h1
                clear h1
                go_wp2_with fail
                go_roundw
                case rel => exact ⟨i + 1, by omega, by go_num, fun a c ha hc q1 q2 => absurd q2 H3.out, HC.out.1, HC.out.2.1⟩
                case measure => simp [intOf]; omega
            · obtain rfl : i = j := by omega
              have HNO := Lib.hid (And.intro hno hb2)
              clear hno hb2 hlx
              go_wp2_with fail
              go_roundw
              case rel => exact ⟨i + 1, by omega, by go_num, fun k hk => by
                rcases Nat.lt_or_ge k i with h | h
                · exact HY.out.2 k h
                · obtain rfl : k = i := by omega
                  exact ok_next HY.out.1 (HKD.out (by first | trivial | rfl) _ (List.mem_of_getElem? HY.out.1)) HNK.out (fun a c ha hc q1 q2 => HNO.out.1 a c ha hc q1 q2), HNO.out.2⟩
              case measure => simp [intOf]; omega
      · obtain rfl : n = j := by omega
        have hz := HE.out.1
        rw [if_neg (by decide), if_pos (okQ_all.2 (by rw [← HE.out.2.2]; exact ho))] at hz
        have HZ := Lib.hid hz
        have HB := Lib.hid hb
        clear hz ho hb
        go_wp2_with fail
        go_ret2
        exact ⟨_, by rw [HZ.out]; rfl, H5.out.1.trans (HB.out.mono H5.out.1.size), fun _ => by rw [← HE.out.2.1]; exact (H5.out.2.below HB.out).mono HB.out.size⟩
  · have hz := HE.out.1
    rw [if_pos hF0] at hz
    have HZ := Lib.hid (And.intro hz hF0)
    have bF : (F != 0) = true := by rw [bne_iff_ne]; exact hF0
    clear hz hF0
    go_wp2_with fail
    go_ret2
    exact ⟨_, by rw [HZ.out.1]; rfl, H5.out.1, fun h => absurd (HZ.out.1.symm.trans h) HZ.out.2⟩
end Go.Proofs.Ythjmncngegchjaa
