/-
  Contract of the reference's OnceWritten.
-/
import Derived.Test.YtphhbojdolhieaaCallsOf
import Derived.Test.YtphhbojdolhieaaZOpenP
import Derived.Deep.CutRange
namespace Go.Proofs.Ytphhbojdolhieaa
open Go.RowKit
set_option maxRecDepth 20000

/-- What OnceWritten answers. -/
def OncePost (w : World) (l : List Ev) (e : Ending) (w' : World) : Prop :=
  ∃ v, e = .returned (.tuple #[v, .int .i64 (zonesE l)]) ∧ Below w.heap.size w w' ∧ (zonesE l = 0 → CRd w' w'.heap.size v (callsOf [1] l).1)
/-- Of the first k calls no two write the same. -/
def OnceTo (cs : List Cl) (k : Nat) : Prop := ∀ (i j : Nat) (c d : Cl), i < j → j < k → cs[i]? = some c → cs[j]? = some d → c.kind = 1 → d.kind = 1 → c.arg ≠ d.arg
theorem onceTo_all {cs : List Cl} (h : OnceTo cs cs.length) : onceZ cs = true := by
  rw [once_iff]
  intro i j c d hc hd h1 h2 he
  have hi := (List.getElem?_eq_some_iff.1 hc).1
  have hj := (List.getElem?_eq_some_iff.1 hd).1
  rcases Nat.lt_trichotomy i j with hij | hij | hij
  · exact absurd he (h i j c d hij hj hc hd h1 h2)
  · exact hij
  · exact absurd he.symm (h j i d c hij hi hd hc h2 h1)
theorem once_notW {cs : List Cl} {i j : Nat} {c d : Cl} (hij : i < j) (hc : cs[i]? = some c) (hd : cs[j]? = some d) (h1 : c.kind = 1) (h2 : d.kind = 1) (he : c.arg = d.arg) : onceZ cs = false := by
  rw [Bool.eq_false_iff]
  intro h
  have := once_iff.1 h i j c d hc hd h1 h2 he
  omega
set_option maxHeartbeats 4000000 in
theorem once_any {lv : Value} {l : List Ev} {w : World} (hl : ERd w w.heap.size lv l) :
    Calls Try.prog 9 #[lv] w (OncePost w l) := by
  have HL := Lib.hid hl
  have HNL := Lib.hid (fun W : World => LRd.of_lit (f := intCs) (s := 1) (w := W) (l := [1]) (fun _ => rfl) 3 (cs := #[.int .i64 1]) rfl (n := 1) rfl (by unfold maxLen; omega))
  obtain ⟨Al, capl, rfl, m1, m2⟩ := hl.is
  unfold maxLen at m2
  obtain ⟨L, hL⟩ : ∃ L, L = l.length := ⟨_, rfl⟩
  rw [← hL] at HL m1 ⊢
  clear hl hL
  have hb4 : Below w.heap.size w (w.alloc (.cells #[.int .i64 1] 3)) := (Below.refl _ _).alloc (Nat.le_refl _) _
  have hn4 := (HNL.out w).mono (B' := (w.alloc (.cells #[.int .i64 1] 3)).heap.size) (by simp)
  have HCA := Lib.hid (callsOf_any hn4 ((HL.out.below hb4).mono hb4.size))
  have H4 := Lib.hid hb4
  clear hb4 hn4
  go_enter Try.func9, Try.ntmps9
  go_wp2_with fail
  refine HCA.out.mono ?_
  rintro e w5 ⟨vc, rfl, hb5, hcr⟩
  generalize hat : (callsOf [1] l).2.1 = at1
  clear hat
  have hzE : zonesE l = if (callsOf [1] l).2.2 ≠ 0 then (callsOf [1] l).2.2 else if onceZ (callsOf [1] l).1 = true then 0 else 6 := rfl
  obtain ⟨F, hF⟩ : ∃ F, F = (callsOf [1] l).2.2 := ⟨_, rfl⟩
  obtain ⟨cs, hcs⟩ : ∃ cs, cs = (callsOf [1] l).1 := ⟨_, rfl⟩
  rw [← hF, ← hcs] at hzE
  rw [← hF]
  rw [← hcs] at hcr
  obtain ⟨Ac, cc, rfl, c1, c2⟩ := hcr.is
  unfold maxLen at c2
  obtain ⟨n, hn⟩ : ∃ n, n = cs.length := ⟨_, rfl⟩
  rw [← hn] at hcr c1 ⊢
  have H5 := Lib.hid (And.intro (H4.out.trans (hb5.mono H4.out.size)) hcr)
  have HE := Lib.hid (And.intro hzE (And.intro hcs hn))
  clear hcr hb5 H4 hzE hF hcs hn HCA HNL HL
  by_cases hF0 : F = 0
  · subst hF0
    have m3 : (n : Int) ≤ 9223372036854775807 := by omega
    go_wp2_with fail
    go_loopw [23] (fun t wr => ∃ j : Nat, j ≤ n ∧ t = .int .i64 j ∧ OnceTo cs j ∧ Below w5.heap.size w5 wr) (fun t _ => n - (intOf t).toNat)
    case atStart => exact ⟨0, by omega, rfl, fun i j c d _ h => by omega, Below.refl _ _⟩
    case round =>
      obtain ⟨j, hj, rfl, ho, hb⟩ := hrel
      by_cases hjn : j < n
      · obtain ⟨y, hy⟩ : ∃ y, cs[j]? = some y := ⟨_, List.getElem?_eq_getElem (by rw [← HE.out.2.2]; exact hjn)⟩
        obtain ⟨g, o, rfl, hg, d0, d1, d2, d3, d4, d5, d6⟩ := (H5.out.2.below hb).cl hy
        have HY := Lib.hid (And.intro hy ho)
        obtain ⟨y0, y1, y2, y3, y4, y5, y6⟩ := y
        simp only at d0 d1 d2 d3 d4 d5 d6
        have i1 : (0 : Int) ≤ (j : Int) := by omega
        have i2 : (j : Int) < (n : Int) := by omega
        have i3 : (j : Int) ≤ (cc : Int) := by omega
        have hal := hb.alloc hb.size (.cells #[.int .i64 y0, .int .i64 y1, .int .i64 y2, .int .i64 y3, .int .i64 y4, .int .i64 y5, .int .i64 y6] 47)
        have HB := Lib.hid (And.intro hal (Lies.new wr 47 #[.int .i64 y0, .int .i64 y1, .int .i64 y2, .int .i64 y3, .int .i64 y4, .int .i64 y5, .int .i64 y6]))
        have HS := Lib.hid hb.size
        clear hy ho hb hal
        go_upto_region 8 with fail
        change Code.wp _ _ _ _ (wr.alloc (.cells #[.int .i64 y0, .int .i64 y1, .int .i64 y2, .int .i64 y3, .int .i64 y4, .int .i64 y5, .int .i64 y6] 47))
        generalize wr.alloc (.cells #[.int .i64 y0, .int .i64 y1, .int .i64 y2, .int .i64 y3, .int .i64 y4, .int .i64 y5, .int .i64 y6] 47) = W2 at HB ⊢
        generalize wr.heap.size = X at HB HS ⊢
        clear d0 d1 d2 d3 d4 d5 d6
        go_loopw [32] (fun t wr2 => ∃ i : Nat, i ≤ j ∧ t = .int .i64 i ∧ (∀ (a : Nat) (c : Cl), a < i → cs[a]? = some c → c.kind = 1 → y2 = 1 → c.arg ≠ y3) ∧ Below w5.heap.size w5 wr2 ∧ Lies wr2 X 47 #[.int .i64 y0, .int .i64 y1, .int .i64 y2, .int .i64 y3, .int .i64 y4, .int .i64 y5, .int .i64 y6]) (fun t _ => j - (intOf t).toNat)
        case atStart => exact ⟨0, by omega, rfl, fun a c h => by omega, HB.out.1, HB.out.2⟩
        case round =>
          obtain ⟨i, hi, rfl, hno, hb2, hlx⟩ := hrel
          by_cases hij : i < j
          · obtain ⟨x, hx⟩ : ∃ x, cs[i]? = some x := ⟨_, List.getElem?_eq_getElem (by rw [← HE.out.2.2]; omega)⟩
            obtain ⟨g', o', hA, hg', d0, d1, d2, d3, d4, d5, d6⟩ := (H5.out.2.below hb2).cl hx
            injection hA with hA
            injection hA with hA1 hA2
            subst hA1 hA2
            have HX := Lib.hid (And.intro hx hno)
            obtain ⟨x0, x1, x2, x3, x4, x5, x6⟩ := x
            simp only at d0 d1 d2 d3 d4 d5 d6
            have k1 : (0 : Int) ≤ (i : Int) := by omega
            have k2 : (i : Int) < (j : Int) := by omega
            have hal := hb2.alloc hb2.size (.cells #[.int .i64 x0, .int .i64 x1, .int .i64 x2, .int .i64 x3, .int .i64 x4, .int .i64 x5, .int .i64 x6] 47)
            have HC := Lib.hid (And.intro hal (And.intro (Lies.alloc hlx (.cells #[.int .i64 x0, .int .i64 x1, .int .i64 x2, .int .i64 x3, .int .i64 x4, .int .i64 x5, .int .i64 x6] 47)) (Lies.new wr 47 #[.int .i64 x0, .int .i64 x1, .int .i64 x2, .int .i64 x3, .int .i64 x4, .int .i64 x5, .int .i64 x6])))
            clear hx hno hb2 hlx hal
            go_upto_region 10 with fail
            change Code.wp _ _ _ _ (wr.alloc (.cells #[.int .i64 x0, .int .i64 x1, .int .i64 x2, .int .i64 x3, .int .i64 x4, .int .i64 x5, .int .i64 x6] 47))
            generalize wr.alloc (.cells #[.int .i64 x0, .int .i64 x1, .int .i64 x2, .int .i64 x3, .int .i64 x4, .int .i64 x5, .int .i64 x6] 47) = W4 at HC ⊢
            generalize wr.heap.size = X4 at HC ⊢
            clear d0 d1 d2 d3 d4 d5 d6
            have e2 := Lies.cell HC.out.2.1 2
            have e3 := Lies.cell HC.out.2.1 3
            have f2 := Lies.cell HC.out.2.2 2
            have f3 := Lies.cell HC.out.2.2 3
            simp only [List.getElem?_toArray, List.getElem?_cons_zero, List.getElem?_cons_succ] at e2 e3 f2 f3
            by_cases h1 : y2 = 1
            · by_cases h2 : x2 = 1
              · by_cases h3 : y3 = x3
                · have hz := HE.out.1
                  rw [if_neg (by decide), once_notW hij HX.out.1 HY.out.1 h2 h1 h3.symm, if_neg (by decide)] at hz
                  have HZ := Lib.hid hz
                  subst h1 h2 h3
                  clear hz
                  go_wp2_with fail
                  go_ret2
                  exact ⟨_, by rw [HZ.out]; rfl, H5.out.1.trans (HC.out.1.mono H5.out.1.size), fun h => by rw [HZ.out] at h; cases h⟩
                · have b3 : (y3 == x3) = false := beq_eq_false_iff_ne.2 h3
                  have H3 := Lib.hid h3
                  subst h1 h2
                  clear h3
                  go_wp2_with fail
                  go_roundw
                  case rel => exact ⟨i + 1, by omega, by go_num, fun a c ha hc q1 q2 => by
                    rcases Nat.lt_or_ge a i with h | h
                    · exact HX.out.2 a c h hc q1 rfl
                    · obtain rfl : a = i := by omega
                      rw [HX.out.1] at hc
                      injection hc with hc
                      subst hc
                      exact fun h => H3.out h.symm, HC.out.1, HC.out.2.1⟩
                  case measure => simp [intOf]; omega
              · have b2 : (x2 == 1) = false := beq_eq_false_iff_ne.2 h2
                have H3 := Lib.hid h2
                subst h1
                clear h2
                go_wp2_with fail
                go_roundw
                case rel => exact ⟨i + 1, by omega, by go_num, fun a c ha hc q1 q2 => by
                  rcases Nat.lt_or_ge a i with h | h
                  · exact HX.out.2 a c h hc q1 rfl
                  · obtain rfl : a = i := by omega
                    rw [HX.out.1] at hc
                    injection hc with hc
                    subst hc
                    exact absurd q1 H3.out, HC.out.1, HC.out.2.1⟩
                case measure => simp [intOf]; omega
            · have b1 : (y2 == 1) = false := beq_eq_false_iff_ne.2 h1
              have H3 := Lib.hid h1
              clear h1
              go_wp2_with fail
              go_roundw
              case rel => exact ⟨i + 1, by omega, by go_num, fun a c ha hc q1 q2 => absurd q2 H3.out, HC.out.1, HC.out.2.1⟩
              case measure => simp [intOf]; omega
          · obtain rfl : i = j := by omega
            have HNO := Lib.hid (And.intro hno hb2)
            clear hno hb2 hlx
            go_wp2_with fail
            go_roundw
            case rel => exact ⟨i + 1, by omega, by go_num, fun a b c d hab hb hc hd q1 q2 => by
              rcases Nat.lt_or_ge b i with h | h
              · exact HY.out.2 a b c d hab h hc hd q1 q2
              · obtain rfl : b = i := by omega
                rw [HY.out.1] at hd
                injection hd with hd
                subst hd
                exact HNO.out.1 a c hab hc q1 q2, HNO.out.2⟩
            case measure => simp [intOf]; omega
      · obtain rfl : n = j := by omega
        have hz := HE.out.1
        rw [if_neg (by decide), if_pos (onceTo_all (by rw [← HE.out.2.2]; exact ho))] at hz
        have HZ := Lib.hid hz
        have HB := Lib.hid hb
        clear hz ho hb
        go_wp2_with fail
        go_ret2
        exact ⟨_, by rw [HZ.out]; rfl, H5.out.1.trans (HB.out.mono H5.out.1.size), fun _ => by rw [← HE.out.2.1]; exact (H5.out.2.below HB.out).mono HB.out.size⟩
  · have hz := HE.out.1
    rw [if_pos hF0] at hz
    have HZ := Lib.hid (And.intro hz hF0)
    have bF : (F != 0) = true := by rw [bne_iff_ne]; exact hF0
    clear hz hF0
    go_wp2_with fail
    go_ret2
    exact ⟨_, by rw [HZ.out.1]; rfl, H5.out.1, fun h => absurd (HZ.out.1.symm.trans h) HZ.out.2⟩
end Go.Proofs.Ytphhbojdolhieaa
