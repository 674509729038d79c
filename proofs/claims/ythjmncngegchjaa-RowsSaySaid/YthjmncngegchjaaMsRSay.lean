/-
  Joined by a program out of: RSay.
-/
import Derived.Test.YthjmncngegchjaaMgAQ
import Derived.Test.YthjmncngegchjaaMgAR
import Derived.Test.YthjmncngegchjaaMsRrOnce
import Derived.Test.YthjmncngegchjaaMsRrBad

/-
  aliblaw.RowsSay answers true, whatever is handed in.
-/
namespace Go.Proofs.Ythjmncngegchjaa
open Go.RowKit Go.Maps
set_option maxRecDepth 20000

/-- The certain times of the first values. -/
def staysTo (cs : List Cl) (m : Nat) : List (Int × Int) := (List.range m).filterMap fun (v : Nat) => stayV cs (v : Int)
theorem staysTo_snoc (cs : List Cl) (m : Nat) : staysTo cs (m + 1) = staysTo cs m ++ (stayV cs (m : Int)).toList := by
  unfold staysTo
  rw [List.range_succ, List.filterMap_append]
  cases h : stayV cs (m : Int) <;> simp [h]
theorem staysTo_len (cs : List Cl) (m : Nat) : (staysTo cs m).length ≤ m := by
  unfold staysTo
  exact Nat.le_trans (List.length_filterMap_le _ _) (by rw [List.length_range]; exact Nat.le_refl _)
theorem staysTo_all (cs : List Cl) : staysTo cs 1001 = staysL cs := by
  unfold staysTo staysL valsQ
  rw [List.filterMap_filter, List.filterMap_map]
  refine congrArg (fun f => List.filterMap f (List.range 1001)) (funext fun v => ?_)
  simp only [Function.comp]
  by_cases h : (pAt cs (v : Int)).isSome = true
  · rw [if_pos h]
  · rw [if_neg h]
    unfold stayV
    exact if_neg fun h2 => h h2.1
theorem SnOwn.thenR {w w' : World} {B : Nat} {v : Value} {l : List (Int × Int)} (h : SnOwn w B v l) (hb : Below w.heap.size w w') : SnOwn w' B v l := h.then_ hb
/-- What RowsSay keeps. -/
structure RqS (w : World) (G B : Nat) (bc : Array Value) (Az : Option Addr) (cz M : Nat) (Zs : List (Int × Int)) (vc : Value) (cs : List Cl) (mv : Value) (acc : List (Int × Int)) (wr : World) : Prop where
  below : Below w.heap.size w wr
  bad : Lies wr G 28 bc
  zs : SnRd wr B (.slice Az M cz) Zs
  cls : CRd wr B vc cs
  own : SnOwn wr B mv acc
  sz : w.heap.size ≤ B ∧ G < B ∧ B ≤ wr.heap.size
section
variable {w : World} {G B : Nat} {bc : Array Value} {Az : Option Addr} {cz M : Nat} {Zs : List (Int × Int)} {vc : Value} {cs : List Cl} {mv mv' : Value} {acc acc' : List (Int × Int)} {wr w' : World}
theorem RqS.app (h : RqS w G B bc Az cz M Zs vc cs mv acc wr) (hb : Below B wr w') (ho : SnOwn w' B mv' acc') : RqS w G B bc Az cz M Zs vc cs mv' acc' w' :=
  ⟨h.below.trans (hb.mono h.sz.1), Lies.below h.bad hb h.sz.2.1, h.zs.below hb, h.cls.below hb, ho, h.sz.1, h.sz.2.1, Nat.le_trans h.sz.2.2 hb.size⟩
theorem RqS.next (h : RqS w G B bc Az cz M Zs vc cs mv acc wr) (hb : Below wr.heap.size wr w') : RqS w G B bc Az cz M Zs vc cs mv acc w' :=
  h.app (hb.mono h.sz.2.2) (h.own.thenR hb)
end
set_option maxHeartbeats 16000000 in
theorem rsay_any {lv : Value} {l : List Ev} {w : World} (hl : ERd w w.heap.size lv l) :
    Calls Try.prog 3 #[lv] w fun e w' => e = .returned (.bool true) ∧ Below w.heap.size w w' := by
  obtain ⟨Al, capl, rfl, m1, m2⟩ := hl.is
  unfold maxLen at m2
  have HZF := Lib.hid (rstaysF_any hl)
  have HL := Lib.hid hl
  obtain ⟨L, hL⟩ : ∃ L, L = l.length := ⟨_, rfl⟩
  rw [← hL] at HZF HL m1 ⊢
  clear hl hL
  obtain ⟨E, hE⟩ : ∃ E, E = rowsE l := ⟨_, rfl⟩
  have HE := Lib.hid hE
  clear hE
  go_enter Try.func3, Try.ntmps3
  go_wp2_with fail
  refine HZF.out.mono ?_
  rintro e w1 ⟨hb1, hz⟩
  obtain ⟨Az, M, cz, Zs, rfl, hzr, hMl, hz1, hz2⟩ : ∃ (Az : Option Addr) (M cz : Nat) (Zs : List (Int × Int)), e = .returned (.tuple #[.slice Az M cz, .int .i64 E]) ∧ SnRd w1 w1.heap.size (.slice Az M cz) Zs ∧ M = Zs.length ∧ (E = 0 → Zs = staysL (callsOf [2] l).1) ∧ (E ≠ 0 → M = 0) := by
    rcases hz with ⟨h1, h2⟩ | ⟨h1, v, h2, h3⟩
    · exact ⟨none, 0, 0, [], by rw [h2, HE.out], LRd.nil _ _, rfl, fun h => absurd (HE.out.symm.trans h) h1, fun _ => rfl⟩
    · obtain ⟨A, c, rfl, _⟩ := h3.is
      exact ⟨A, _, c, _, by rw [h2, HE.out, h1], h3, rfl, fun _ => rfl, fun h => absurd (HE.out.trans h1) h⟩
  have H1 := Lib.hid (And.intro hb1 (And.intro hzr (And.intro hMl (And.intro hz1 hz2))))
  have HC := Lib.hid (rcheck_any ((HL.out.below hb1).mono hb1.size))
  clear hb1 hz hzr hMl hz1 hz2 HZF
  go_wp2_with fail
  refine HC.out.mono ?_
  intro e w2 hck
  obtain ⟨b, k, x, y, rfl, hb2, hok, hbad⟩ := hck.forms
  rw [← HE.out] at hok hbad ⊢
  have h2 := H1.out.1.trans (hb2.mono H1.out.1.size)
  have hal : Below w2.heap.size w2 (w2.alloc (.cells #[.int .i64 k, .int .i64 x, .int .i64 y] 28)) := (Below.refl _ _).alloc (Nat.le_refl _) _
  have H2 := Lib.hid (And.intro (h2.trans (hal.mono h2.size)) (And.intro (Lies.new w2 28 #[.int .i64 k, .int .i64 x, .int .i64 y]) (((H1.out.2.1.below hb2).below (hal.mono hb2.size)).mono (Nat.le_trans hb2.size hal.size))))
  have HK := Lib.hid (And.intro hok hbad)
  clear hb2 hck h2 hal hok hbad HC
  go_upto_region 3 with fail
  change Code.wp _ _ _ _ (w2.alloc (.cells #[.int .i64 k, .int .i64 x, .int .i64 y] 28))
  generalize w2.alloc (.cells #[.int .i64 k, .int .i64 x, .int .i64 y] 28) = W3 at H2 ⊢
  generalize w2.heap.size = G at H2 ⊢
  have HON := Lib.hid (oncePut_any ((HL.out.below H2.out.1).mono H2.out.1.size))
  go_wp2_with fail
  refine HON.out.mono ?_
  rintro e w4 ⟨vc, rfl, hb4, hcr⟩
  rw [← HE.out] at hcr ⊢
  have H4 := Lib.hid (And.intro (H2.out.1.trans (hb4.mono H2.out.1.size)) (And.intro (Lies.below H2.out.2.1 hb4 H2.out.2.1.lt) (And.intro ((H2.out.2.2.below hb4).mono hb4.size) hcr)))
  clear hb4 hcr HON H2
  by_cases hE0 : E = 0
  · subst hE0
    have hz0 := HE.out.symm
    have HBN := Lib.hid (fun h0 : k = 0 => badQ_none hz0 (HK.out.1 rfl).2 h0)
    have hreg := rowsE_que hz0
    have hcr := H4.out.2.2.2 rfl
    have hkk := HK.out.1 rfl
    have hzs := H1.out.2.2.2.1 rfl
    obtain ⟨cs, hcs⟩ : ∃ cs, cs = (callsOf [2] l).1 := ⟨_, rfl⟩
    rw [← hcs] at hreg hcr hkk hzs
    obtain ⟨B, hB⟩ : ∃ B, B = w4.heap.size := ⟨_, rfl⟩
    have HA0 := Lib.hid (show RqS w G B #[.int .i64 k, .int .i64 x, .int .i64 y] Az cz M Zs vc cs (.slice none 0 0) (staysTo cs 0) w4 from ⟨H4.out.1, H4.out.2.1, by rw [hB]; exact H4.out.2.2.1, by rw [hB]; exact hcr, SnOwn.nil _ _, by rw [hB]; exact H4.out.1.size, by rw [hB]; exact H4.out.2.1.lt, by rw [hB]; exact Nat.le_refl _⟩)
    have hcri := hcr.is
    obtain ⟨Ac, cc, hvc, _⟩ := hcri
    have HREG := Lib.hid (And.intro hreg (And.intro hkk hzs))
    have HVC := Lib.hid hvc
    clear hz0 hreg hcr hkk hzs hcs hB hvc H1 HK H4 HL HE
    go_wp2_with fail
    go_loopw [55, 10] (fun t mv wr => ∃ j : Nat, j ≤ 1001 ∧ t = .int .i64 j ∧ RqS w G B #[.int .i64 k, .int .i64 x, .int .i64 y] Az cz M Zs vc cs mv (staysTo cs j) wr) (fun t _ _ => 1001 - (intOf t).toNat)
    case atStart => exact ⟨0, by omega, rfl, HA0.out⟩
    case round =>
      obtain ⟨j, hj, rfl, hO⟩ := hrel
      by_cases hjn : j < 1001
      · have HZO := Lib.hid (stayOf_any (v := (j : Int)) (by omega) HREG.out.1 (hO.cls.mono hO.sz.2.2))
        have hsn := staysTo_snoc cs j
        have hle := staysTo_len cs j
        generalize staysTo cs j = acc at hO hsn hle
        have HO := Lib.hid hO
        have HSN := Lib.hid (And.intro hsn hle)
        clear hO hsn hle HA0
        have k1 : (j : Int) < 1001 := by omega
        go_wp2_with fail
        refine HZO.out.mono ?_
        rintro e w5 ⟨q0, q1, ok, rfl, hb5, hzv⟩
        have hO3 := HO.out.next hb5
        have hal3 : Below w5.heap.size w5 (w5.alloc (.cells #[.int .i64 q0, .int .i64 q1] 35)) := (Below.refl _ _).alloc (Nat.le_refl _) _
        have HO3 := Lib.hid (And.intro (hO3.next hal3) (Lies.new w5 35 #[.int .i64 q0, .int .i64 q1]))
        have HZV := Lib.hid hzv
        clear hO3 hal3 hzv hb5 HZO HO
        go_upto_region 11 with fail
        change Code.wp _ _ _ _ (w5.alloc (.cells #[.int .i64 q0, .int .i64 q1] 35))
        generalize w5.alloc (.cells #[.int .i64 q0, .int .i64 q1] 35) = W3 at HO3 ⊢
        generalize w5.heap.size = X at HO3 ⊢
        have e0 := Lies.cell HO3.out.2 0
        have e1 := Lies.cell HO3.out.2 1
        simp only [List.getElem?_toArray, List.getElem?_cons_zero, List.getElem?_cons_succ] at e0 e1
        cases ok
        · have hz := HSN.out.1
          rw [HZV.out, if_neg (by decide)] at hz
          have HZ := Lib.hid hz
          clear hz e0 e1
          go_wp2_with fail
          go_roundw
          case rel => exact ⟨j + 1, by omega, by go_num, by rw [HZ.out]; simpa using HO3.out.1⟩
          case measure => simp [intOf]; omega
        · have hz := HSN.out.1
          rw [HZV.out, if_pos rfl] at hz
          have HZ := Lib.hid hz
          clear hz
          have hO4 := HO3.out.1.next ((Below.refl _ _).alloc (Nat.le_refl _) (.cells #[.int .i64 q0, .int .i64 q1] 35))
          have hown := hO4.own
          have hsz := hO4.sz.2.2
          have hnew := new_cells W3 35 (snCs (q0, q1))
          obtain ⟨Av, cv, hvv⟩ := own_slice_sn hO4.own
          have hal := HSN.out.2
          subst hvv
          have HO4 := Lib.hid hO4
          clear hO4
          go_wp2_with (at_builtin; refine wpList_app_sn rfl (.tmp 65) (.tmp 67) rfl B W3.heap.size _ acc (q0, q1) rfl rfl hown hnew (by omega) hsz ?_; intro v' w6 ho6 hb6 _)
          go_roundw
          case rel => exact ⟨j + 1, by omega, by go_num, by rw [HZ.out]; exact HO4.out.app hb6 ho6⟩
          case measure => simp [intOf]; omega
      · obtain rfl : j = 1001 := by omega
        have hzz : staysTo cs 1001 = staysL cs := staysTo_all cs
        rw [hzz] at hO
        have HBZ := Lib.hid (badRows_any HREG.out.1 (hO.cls.mono hO.sz.2.2))
        rw [HREG.out.2.1.2] at HBZ
        have HO := Lib.hid hO
        clear hO hzz HA0
        go_wp2_with fail
        refine HBZ.out.mono ?_
        rintro e w7 ⟨rfl, hb7⟩
        have hO7 := HO.out.next hb7
        have hal7 : Below w7.heap.size w7 (w7.alloc (.cells #[.int .i64 k, .int .i64 x, .int .i64 y] 28)) := (Below.refl _ _).alloc (Nat.le_refl _) _
        have HO7 := Lib.hid (And.intro (hO7.next hal7) (Lies.new w7 28 #[.int .i64 k, .int .i64 x, .int .i64 y]))
        clear hO7 hal7 hb7 HBZ HO
        go_upto_region 15 with fail
        change Code.wp _ _ _ _ (w7.alloc (.cells #[.int .i64 k, .int .i64 x, .int .i64 y] 28))
        generalize w7.alloc (.cells #[.int .i64 k, .int .i64 x, .int .i64 y] 28) = W8 at HO7 ⊢
        generalize w7.heap.size = Y at HO7 ⊢
        have HEQ := Lib.hid (eqSn_any HO7.out.1.zs HO7.out.1.own.rd)
        rw [decide_eq_true HREG.out.2.2] at HEQ
        go_wp2_with fail
        refine HEQ.out.mono ?_
        rintro e w9 ⟨rfl, hb9⟩
        have HO9 := Lib.hid (And.intro (HO7.out.1.next hb9) (Lies.below HO7.out.2 hb9 HO7.out.2.lt))
        clear hb9 HEQ HO7
        have f0 := Lies.cell HO9.out.1.bad 0
        have f1 := Lies.cell HO9.out.1.bad 1
        have f2 := Lies.cell HO9.out.1.bad 2
        have g0 := Lies.cell HO9.out.2 0
        have g1 := Lies.cell HO9.out.2 1
        have g2 := Lies.cell HO9.out.2 2
        simp only [List.getElem?_toArray, List.getElem?_cons_zero, List.getElem?_cons_succ] at f0 f1 f2 g0 g1 g2
        by_cases hk0 : k = 0
        · obtain ⟨n1, n2⟩ := HBN.out hk0
          have n0 := hk0
          have hbb := HREG.out.2.1.1
          subst n0 n1 n2
          obtain rfl : b = true := hbb
          clear hk0
          go_wp2_with fail
          go_ret
          exact ⟨rfl, HO9.out.1.below⟩
        · have hbb := HREG.out.2.1.1
          have bk : (k == 0) = false := beq_eq_false_iff_ne.2 hk0
          rw [bk] at hbb
          subst hbb
          clear hk0
          go_wp2_with fail
          go_ret
          exact ⟨rfl, HO9.out.1.below⟩
  · have bE : (E != 0) = true := by rw [bne_iff_ne]; exact hE0
    obtain ⟨rfl, rfl, rfl, rfl⟩ := HK.out.2 hE0
    obtain rfl : M = 0 := H1.out.2.2.2.2 hE0
    have f0 := Lies.cell H4.out.2.1 0
    have f1 := Lies.cell H4.out.2.1 1
    have f2 := Lies.cell H4.out.2.1 2
    simp only [List.getElem?_toArray, List.getElem?_cons_zero, List.getElem?_cons_succ] at f0 f1 f2
    clear hE0
    go_wp2_with fail
    go_ret
    exact ⟨rfl, H4.out.1⟩
end Go.Proofs.Ythjmncngegchjaa
