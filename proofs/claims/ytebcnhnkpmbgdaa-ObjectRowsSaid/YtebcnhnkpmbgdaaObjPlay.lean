/-
  Contract of object.Play.
-/
import Derived.Test.YtebcnhnkpmbgdaaObjStep
namespace Go.Proofs.Ytebcnhnkpmbgdaa
open Go.RowKit
set_option maxRecDepth 20000

abbrev ddCs (d : Dd) : List Value := [.int .i64 d.kind, .int .i64 d.arg, .int .i64 d.res]
/-- A slice that reads as a list of what is done. -/
abbrev DRd (w : World) (B : Nat) (v : Value) (l : List Dd) : Prop := LRd 3 ddCs w B v l
theorem LRd.dd {w : World} {B : Nat} {A : Option Addr} {n cap k : Nat} {l : List Dd} (h : DRd w B (.slice A n cap) l) {x : Dd} (hk : l[k]? = some x) : ∃ g o, A = some ⟨g, o, none⟩ ∧ g < B ∧ w.cell? ⟨g, o + k * 3, none⟩ = some (.int .i64 x.kind) ∧ w.cell? ⟨g, o + k * 3 + 1, none⟩ = some (.int .i64 x.arg) ∧ w.cell? ⟨g, o + k * 3 + 2, none⟩ = some (.int .i64 x.res) := by
  obtain ⟨g, o, hA, hg, hc⟩ := LRd.at_ h hk
  exact ⟨g, o, hA, hg, hc 0 _ rfl, hc 1 _ rfl, hc 2 _ rfl⟩

/-- What Play answers. -/
def playR (typ : Int) (l : List Dd) : Nat := if btw 1 typ 5 = true then playN typ l else 0
theorem play_drop {typ : Int} {s : List Int} {l : List Dd} {k : Nat} (hk : k < l.length) : playFrom typ s (l.drop k) = if (stepO typ s l[k].kind l[k].arg).2.2 ≠ 0 ∨ (stepO typ s l[k].kind l[k].arg).2.1 ≠ l[k].res then 0 else playFrom typ (stepO typ s l[k].kind l[k].arg).1 (l.drop (k + 1)) + 1 := by
  rw [List.drop_eq_getElem_cons hk, playFrom]

set_option maxHeartbeats 4000000 in
theorem play_any {lv : Value} {l : List Dd} {w : World} (typ : Int) (hl : DRd w w.heap.size lv l) :
    Calls Try.prog 25 #[.int .i64 typ, lv] w fun e w' => e = .returned (.tuple #[.int .i64 (playR typ l : Nat), .int .i64 (startE typ)]) ∧ Below w.heap.size w w' := by
  obtain ⟨Al, capl, rfl, m3, m4⟩ := hl.is
  unfold maxLen at m4
  have HS := Lib.hid (start_any typ w)
  unfold StartPost at HS
  have HL := Lib.hid hl
  clear hl
  cases hb : btw 1 typ 5
  · have e1 : startE typ = 1 := by unfold startE; rw [hb]; rfl
    have e2 : playR typ l = 0 := by unfold playR; rw [hb]; rfl
    rw [e1] at HS
    rw [e1, e2]
    clear hb e1 e2
    go_enter Try.func25, Try.ntmps25
    go_wp2_with fail
    refine HS.out.mono ?_
    rintro e w1 ⟨v1, rfl, ho1, hb1⟩
    have H1 := Lib.hid hb1
    clear ho1 hb1 HS
    go_wp2_with fail
    go_ret2
    exact ⟨rfl, H1.out⟩
  · have e1 : startE typ = 0 := by unfold startE; rw [hb]; rfl
    have e2 : playR typ l = playFrom typ (beginL typ) l := by unfold playR; rw [hb]; rfl
    rw [e1] at HS
    rw [e1]
    generalize hp : playR typ l = P at e2 ⊢
    have HP := Lib.hid e2
    clear hb e1 e2 hp
    go_enter Try.func25, Try.ntmps25
    go_wp2_with fail
    refine HS.out.mono ?_
    rintro e w1 ⟨v1, rfl, ho1, hb1⟩
    obtain ⟨L, hL⟩ : ∃ L, L = l.length := ⟨_, rfl⟩
    have HLL := Lib.hid hL
    obtain ⟨A1, c1, rfl, m1, m2⟩ := ho1.rd.is
    have H1 := Lib.hid (And.intro ho1.rd hb1)
    rw [← hL] at m3
    clear ho1 hb1 HS m1 m2
    go_wp2_with fail
    rw [← hL]
    clear hL
    have H10 := H1.out
    clear H1
    go_loopw [6, 23] (fun sv i wr => ∃ (k : Nat) (s : List Int), k ≤ L ∧ i = .int .i64 k ∧ P = k + playFrom typ s (l.drop k) ∧ NRd wr wr.heap.size sv s ∧ Below w.heap.size w wr) (fun _ i _ => L - (intOf i).toNat)
    case atStart => exact ⟨0, beginL typ, by omega, rfl, by rw [HP.out]; simp, H10.1, H10.2⟩
    case round =>
      clear H10
      obtain ⟨k, s, hk, rfl, hplay, hN, hB⟩ := hrel
      obtain ⟨As, cs, rfl, m1, m2⟩ := hN.is
      have HA := Lib.hid (And.intro hplay (And.intro hN hB))
      clear m1 m2 hplay hN
      by_cases hkL : k < L
      · have hkl : k < l.length := by rw [← HLL.out]; exact hkL
        obtain ⟨x, hx⟩ : ∃ x, l[k]? = some x := ⟨_, List.getElem?_eq_getElem hkl⟩
        have hxe : l[k] = x := (List.getElem?_eq_some_iff.1 hx).2
        have hL' := HL.out.below hB
        rw [← HLL.out] at hL'
        obtain ⟨gl, o', rfl, hgl, d0, d1, d2⟩ := hL'.dd hx
        have hst := play_drop (typ := typ) (s := s) hkl
        rw [hxe] at hst
        have i1 : (0 : Int) ≤ (k : Int) := by omega
        have i2 : (k : Int) < (L : Int) := by omega
        obtain ⟨xk, xa, xr⟩ := x
        simp only at hst d0 d1 d2
        have hc := step_any typ xk xa (NRd.alloc HA.out.2.1 (.cells (ddCs ⟨xk, xa, xr⟩).toArray 61))
        generalize stepO typ s xk xa = o at hst hc
        obtain ⟨s', r, er⟩ := o
        unfold StepPost at hc
        simp only at hst hc
        have HX := Lib.hid (And.intro hst hc)
        have HBX := Lib.hid (hB.alloc hB.size (.cells (ddCs ⟨xk, xa, xr⟩).toArray 61))
        have hl2 := Lies.new wr 61 (ddCs ⟨xk, xa, xr⟩).toArray
        have HL2 := Lib.hid hl2
        clear hx hxe hL' hst hc hB hl2
        go_wp2_with fail
        refine HX.out.2.mono ?_
        rintro e w2 ⟨v2, rfl, ho2, hb2⟩
        obtain ⟨A2, c2, rfl, m1, m2⟩ := ho2.rd.is
        have hl3 := HL2.out.below hb2 (by simp)
        have c2' : w2.cell? ⟨wr.heap.size, 2, none⟩ = some (.int .i64 xr) := by rw [hl3.cell]; rfl
        have H2 := Lib.hid (And.intro ho2.rd (HBX.out.trans (hb2.mono HBX.out.size)))
        clear m1 m2 ho2 hb2 hl3
        by_cases hz : er = 0
        · subst hz
          by_cases hr : r = xr
          · subst hr
            go_wp2_with fail
            go_roundw
            case rel => exact ⟨k + 1, s', by omega, by go_num, by
              rw [HA.out.1, HX.out.1, if_neg (by simp)]
              omega, H2.out⟩
            case measure => simp [intOf]; omega
          · have hz : (r != xr) = true := by rw [bne_iff_ne]; exact hr
            have HR := Lib.hid hr
            clear hr
            go_wp2_with fail
            go_ret2
            have e : P = k := by rw [HA.out.1, HX.out.1, if_pos (Or.inr HR.out)]; rfl
            exact ⟨by rw [e]; rfl, H2.out.2⟩
        · have hz' : (er != 0) = true := by rw [bne_iff_ne]; exact hz
          have HR := Lib.hid hz
          clear hz
          go_wp2_with fail
          go_ret2
          have e : P = k := by rw [HA.out.1, HX.out.1, if_pos (Or.inl HR.out)]; rfl
          exact ⟨by rw [e]; rfl, H2.out.2⟩
      · obtain rfl : k = L := by omega
        have e : P = k := by
          rw [HA.out.1, HLL.out, List.drop_length]
          rfl
        have HE := Lib.hid e
        clear e hB
        go_wp2_with fail
        go_ret2
        exact ⟨by rw [HE.out]; rfl, HA.out.2.2⟩
end Go.Proofs.Ytebcnhnkpmbgdaa
