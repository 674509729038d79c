/-
  The walk of ObjectPlays.
-/
import Derived.Test.YtebcnhnkpmbgdaaOSteps
import Derived.Test.YtebcnhnkpmbgdaaObjPlay
namespace Go.Proofs.Ytebcnhnkpmbgdaa
open Go.RowKit
set_option maxRecDepth 20000

theorem begin_ok {typ : Int} (h : btw 1 typ 5 = true) : stateE typ (beginL typ) = 0 := by
  rcases typ_ways typ with rfl | rfl | rfl | rfl | rfl | ⟨_, _, _, _, _, h'⟩
  · decide
  · decide
  · decide
  · decide
  · decide
  · rw [h'] at h; cases h

set_option maxHeartbeats 4000000 in
theorem played_any {lv : Value} {l : List Dd} {w : World} {typ : Int} (hb : btw 1 typ 5 = true) (hl : DRd w w.heap.size lv l) :
    Calls Try.prog 26 #[.int .i64 typ, lv] w fun e w' => e = .returned (.int .i64 (playN typ l : Nat)) ∧ Below w.heap.size w w' := by
  obtain ⟨Al, capl, rfl, m3, m4⟩ := hl.is
  unfold maxLen at m4
  have HL := Lib.hid hl
  have HB := Lib.hid (begin_ok hb)
  have e2 : playN typ l = playFrom typ (beginL typ) l := rfl
  generalize hp : playN typ l = P at e2 ⊢
  have HP := Lib.hid e2
  clear hl hb e2 hp
  go_enter Try.func26, Try.ntmps26
  go_wp2_with fail
  refine (begin_any _ _).mono ?_
  rintro e w1 ⟨v1, rfl, hr1, hb1⟩
  obtain ⟨L, hL⟩ : ∃ L, L = l.length := ⟨_, rfl⟩
  have HLL := Lib.hid hL
  have H1 := Lib.hid (And.intro hr1 hb1)
  rw [← hL] at m3
  clear hr1 hb1
  go_wp2_with fail
  rw [← hL]
  clear hL
  have H10 := H1.out
  clear H1
  go_loopw [5, 15] (fun sv i wr => ∃ (k : Nat) (s : List Int), k ≤ L ∧ i = .int .i64 k ∧ P = k + playFrom typ s (l.drop k) ∧ stateE typ s = 0 ∧ NRd wr wr.heap.size sv s ∧ Below w.heap.size w wr) (fun _ i _ => L - (intOf i).toNat)
  case atStart => exact ⟨0, beginL typ, by omega, rfl, by rw [HP.out]; simp, HB.out, H10.1, H10.2⟩
  case round =>
    clear H10
    obtain ⟨k, s, hk, rfl, hplay, hst, hN, hB⟩ := hrel
    obtain ⟨As, cs, rfl, m1, m2⟩ := hN.is
    have HA := Lib.hid (And.intro hplay (And.intro hN (And.intro hB hst)))
    clear m1 m2 hplay hN hst
    by_cases hkL : k < L
    · have hkl : k < l.length := by rw [← HLL.out]; exact hkL
      obtain ⟨x, hx⟩ : ∃ x, l[k]? = some x := ⟨_, List.getElem?_eq_getElem hkl⟩
      have hxe : l[k] = x := (List.getElem?_eq_some_iff.1 hx).2
      have hL' := HL.out.below hB
      rw [← HLL.out] at hL'
      obtain ⟨gl, o', rfl, hgl, d0, d1, d2⟩ := hL'.dd hx
      have hst := play_drop (typ := typ) (s := s) hkl
      rw [hxe] at hst
      have i1 : (0 : Int) ≤ (k : Int) := by omega
      have i2 : (k : Int) < (L : Int) := by omega
      obtain ⟨xk, xa, xr⟩ := x
      simp only at hst d0 d1 d2
      have est : stepO typ s xk xa = if (fitsB typ xk && takesB xk xa) = false then ([], 0, 3) else stepped s xk xa := by
        unfold stepO
        rw [if_neg (by rw [HA.out.2.2.2]; decide)]
      have hok := fun h => (stepO_ok (typ := typ) (s := s) (kind := xk) (arg := xa) h).1
      have hask := fun (W : World) => asked_any typ xk xa W
      have HBX := Lib.hid (hB.alloc hB.size (.cells (ddCs ⟨xk, xa, xr⟩).toArray 61))
      have hNX : NRd (wr.alloc (.cells (ddCs ⟨xk, xa, xr⟩).toArray 61)) (wr.alloc (.cells (ddCs ⟨xk, xa, xr⟩).toArray 61)).heap.size (.slice As s.length cs) s := NRd.alloc HA.out.2.1 _
      have HNX := Lib.hid hNX
      have HL2 := Lib.hid (Lies.new wr 61 (ddCs ⟨xk, xa, xr⟩).toArray)
      cases hi : fitsB typ xk && takesB xk xa
      · rw [hi, if_pos rfl] at est
        rw [est] at hst
        rw [hi] at hask
        rw [if_pos (Or.inl (by decide))] at hst
        have HX := Lib.hid hst
        have HK := Lib.hid hask
        clear hx hxe hL' hst hB hok hask est hi hNX
        go_wp2_with fail
        refine (HK.out _).mono ?_
        rintro e w2 ⟨rfl, hb2⟩
        have H2 := Lib.hid (HBX.out.trans (hb2.mono HBX.out.size))
        clear hb2
        go_wp2_with fail
        go_ret
        have e : P = k := by rw [HA.out.1, HX.out]; rfl
        exact ⟨by rw [e]; rfl, H2.out⟩
      · rw [hi, if_neg (by decide)] at est
        rw [est] at hst hok
        have hF := fun (W : World) (h : Below (wr.alloc (.cells (ddCs ⟨xk, xa, xr⟩).toArray 61)).heap.size (wr.alloc (.cells (ddCs ⟨xk, xa, xr⟩).toArray 61)) W) => refStep_any (nrdOn hNX h) HA.out.2.2.2 hi
        rw [hi] at hask
        unfold RefPost at hF
        generalize stepped s xk xa = o at hst hok hF
        obtain ⟨s', r, er⟩ := o
        simp only at hst hok hF
        have HX := Lib.hid (And.intro hst hok)
        have HK := Lib.hid hask
        have HF := Lib.hid hF
        clear hx hxe hL' hst hB hok hask est hi hNX hF
        go_wp2_with fail
        refine (HK.out _).mono ?_
        rintro e w2 ⟨rfl, hb2⟩
        have hl2 := HL2.out.below hb2 (by simp)
        have b0 : w2.cell? ⟨wr.heap.size, 0, none⟩ = some (.int .i64 xk) := by rw [hl2.cell]; rfl
        have b1 : w2.cell? ⟨wr.heap.size, 1, none⟩ = some (.int .i64 xa) := by rw [hl2.cell]; rfl
        have H2 := Lib.hid (And.intro hl2 hb2)
        clear hb2 hl2
        go_wp2_with fail
        refine (HF.out _ H2.out.2).mono ?_
        rintro e w3 ⟨v3, rfl, hr3, hb3⟩
        obtain ⟨A3, c3, rfl, m1, m2⟩ := hr3.is
        have hl3 := H2.out.1.below hb3 H2.out.1.lt
        have c2' : w3.cell? ⟨wr.heap.size, 2, none⟩ = some (.int .i64 xr) := by rw [hl3.cell]; rfl
        have H3 := Lib.hid (And.intro hr3 (blwOn (blwOn HA.out.2.2.1 (((Below.refl wr.heap.size wr).alloc (Nat.le_refl _) _).trans (H2.out.2.mono (by simp)))) hb3))
        clear m1 m2 hr3 hb3 hl3 b0 b1
        by_cases hz : er = 0
        · subst hz
          by_cases hr : r = xr
          · subst hr
            go_wp2_with fail
            go_roundw
            case rel => exact ⟨k + 1, s', by omega, by go_num, by
              rw [HA.out.1, HX.out.1, if_neg (by simp)]
              omega, HX.out.2 (by first | rfl | trivial), H3.out⟩
            case measure => simp [intOf]; omega
          · have hz : (r != xr) = true := by rw [bne_iff_ne]; exact hr
            have HR := Lib.hid hr
            clear hr
            go_wp2_with fail
            go_ret
            have e : P = k := by rw [HA.out.1, HX.out.1, if_pos (Or.inr HR.out)]; rfl
            exact ⟨by rw [e]; rfl, H3.out.2⟩
        · have hz' : (er != 0) = true := by rw [bne_iff_ne]; exact hz
          have HR := Lib.hid hz
          clear hz
          go_wp2_with fail
          go_ret
          have e : P = k := by rw [HA.out.1, HX.out.1, if_pos (Or.inl HR.out)]; rfl
          exact ⟨by rw [e]; rfl, H3.out.2⟩
    · obtain rfl : k = L := by omega
      have e : P = k := by
        rw [HA.out.1, HLL.out, List.drop_length]
        rfl
      have HE := Lib.hid e
      clear e hB
      go_wp2_with fail
      go_ret
      exact ⟨by rw [HE.out]; rfl, HA.out.2.2.1⟩

set_option maxHeartbeats 2000000 in
theorem oplays_any {lv : Value} {l : List Dd} {w : World} (typ : Int) (hl : DRd w w.heap.size lv l) :
    Calls Try.prog 5 #[.int .i64 typ, lv] w fun e w' => e = .returned (.bool true) ∧ Below w.heap.size w w' := by
  obtain ⟨Al, capl, rfl, m3, m4⟩ := hl.is
  have hP := play_any typ hl
  cases hb : btw 1 typ 5
  · have e1 : startE typ = 1 := by unfold startE; rw [hb]; rfl
    have e2 : playR typ l = 0 := by unfold playR; rw [hb]; rfl
    rw [e1, e2] at hP
    have HP := Lib.hid hP
    have HBW := Lib.hid (fun W : World => btwn_false W hb)
    clear hP e1 e2 hb hl
    go_enter Try.func5, Try.ntmps5
    go_wp2_with fail
    refine HP.out.mono ?_
    rintro e w1 ⟨rfl, hb1⟩
    have H1 := Lib.hid hb1
    clear hb1
    go_wp2_with fail
    refine (HBW.out _).mono ?_
    rintro e w2 ⟨rfl, rfl⟩
    go_wp2_with fail
    go_ret
    exact ⟨rfl, H1.out⟩
  · have e1 : startE typ = 0 := by unfold startE; rw [hb]; rfl
    have e2 : playR typ l = playN typ l := by unfold playR; rw [hb]; rfl
    have hQ := fun (W : World) (h : Below w.heap.size w W) => played_any hb ((LRd.below hl h).mono h.size)
    rw [e1, e2] at hP
    generalize playN typ l = n at hP hQ
    have z : ((n : Int) == (n : Int)) = true := by simp
    have HP := Lib.hid hP
    have HQ := Lib.hid hQ
    have HBW := Lib.hid (fun W : World => btwn_true W hb)
    clear hP hQ e1 e2 hb hl
    go_enter Try.func5, Try.ntmps5
    go_wp2_with fail
    refine HP.out.mono ?_
    rintro e w1 ⟨rfl, hb1⟩
    have H1 := Lib.hid hb1
    clear hb1
    go_wp2_with fail
    refine (HBW.out _).mono ?_
    rintro e w2 ⟨rfl, rfl⟩
    go_wp2_with fail
    refine (HQ.out _ H1.out).mono ?_
    rintro e w3 ⟨rfl, hb3⟩
    have H3 := Lib.hid (blwOn H1.out hb3)
    clear hb3
    go_wp2_with fail
    go_ret
    exact ⟨rfl, H3.out⟩
end Go.Proofs.Ytebcnhnkpmbgdaa
