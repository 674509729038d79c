/-
  Joined by a program out of: RefAny, ObjPlayPure, Played.
-/
import Derived.Test.YtfgangkpebkicaaGreatDoorMsSteppedPure
import Derived.Test.YtfgangkpebkicaaGreatDoorMsRefSet
import Derived.Test.YtfgangkpebkicaaGreatDoorMgAM
import Derived.Test.YtfgangkpebkicaaGreatDoorMgAK

/-
  The reference's step, of any kind that belongs to the type, at a state that may be.
-/
namespace Go.Proofs.YtfgangkpebkicaaGreatDoor
open Go.RowKit
set_option maxRecDepth 20000
theorem nrdOn {w w' : World} {v : Value} {l : List Int} (h : NRd w w.heap.size v l) (hb : Below w.heap.size w w') : NRd w' w'.heap.size v l := (LRd.below h hb).mono hb.size
theorem blwOn {w W W' : World} (h : Below w.heap.size w W) (hb : Below W.heap.size W W') : Below w.heap.size w W' := h.trans (hb.mono h.size)
/-- The reference's step, of a kind that belongs to the type, at a state that may be. -/
theorem refStep_any {v : Value} {l : List Int} {w : World} {typ kind arg : Int} (hr : NRd w w.heap.size v l) (he : stateE typ l = 0) (hi : (fitsB typ kind && takesB kind arg) = true) :
    Calls Tryz.prog 31 #[v, .int .i64 kind, .int .i64 arg] w (RefPost w (stepped l kind arg)) := by
  obtain ⟨ht, hn, hv⟩ := stateE_ok.1 he
  obtain ⟨hf, hk⟩ := Bool.and_eq_true_iff.1 hi
  obtain ⟨k1, k2, k3, k4, k5⟩ := fits_ways hf
  have ty : typ = 1 ∨ typ = 2 ∨ typ = 3 ∨ typ = 4 ∨ typ = 5 := by omega
  rcases ty with rfl | rfl | rfl | rfl | rfl
  · have h1 := ((valid_one rfl).1 hv).1
    rcases k1 rfl with rfl | rfl
    · exact ref1 hr arg
    · exact ref2 hr arg (by omega)
  · rcases k2 rfl with rfl | rfl
    · exact ref3 hr arg hn
    · exact ref4 hr arg
  · rcases k3 rfl with rfl | rfl
    · exact ref5 hr arg hn
    · exact ref6 hr arg
  · have hs := ((valid_row rfl).1 hv).2 rfl
    rcases k4 rfl with rfl | rfl | rfl
    · exact ref7 hr arg hn hs
    · exact ref8 hr arg hn hs
    · exact ref9 hr arg hn hs
  · obtain ⟨h1, h2, h3⟩ := (valid_one rfl).1 hv
    rw [k5 rfl]
    exact ref10 hr arg h1 h2 h3
end Go.Proofs.YtfgangkpebkicaaGreatDoor

/-
  Slices of what is done; plays, plainly.
-/
namespace Go.Proofs.YtfgangkpebkicaaGreatDoor
open Go.RowKit
set_option maxRecDepth 20000
abbrev ddCs (d : Dd) : List Value := [.int .i64 d.kind, .int .i64 d.arg, .int .i64 d.res]
/-- A slice that reads as a list of what is done. -/
abbrev DRd (w : World) (B : Nat) (v : Value) (l : List Dd) : Prop := LRd 3 ddCs w B v l
theorem LRd.dd {w : World} {B : Nat} {A : Option Addr} {n cap k : Nat} {l : List Dd} (h : DRd w B (.slice A n cap) l) {x : Dd} (hk : l[k]? = some x) : ∃ g o, A = some ⟨g, o, none⟩ ∧ g < B ∧ w.cell? ⟨g, o + k * 3, none⟩ = some (.int .i64 x.kind) ∧ w.cell? ⟨g, o + k * 3 + 1, none⟩ = some (.int .i64 x.arg) ∧ w.cell? ⟨g, o + k * 3 + 2, none⟩ = some (.int .i64 x.res) := by
  obtain ⟨g, o, hA, hg, hc⟩ := LRd.at_ h hk
  exact ⟨g, o, hA, hg, hc 0 _ rfl, hc 1 _ rfl, hc 2 _ rfl⟩
theorem play_drop {typ : Int} {s : List Int} {l : List Dd} {k : Nat} (hk : k < l.length) : playFrom typ s (l.drop k) = if (stepO typ s l[k].kind l[k].arg).2.2 ≠ 0 ∨ (stepO typ s l[k].kind l[k].arg).2.1 ≠ l[k].res then 0 else playFrom typ (stepO typ s l[k].kind l[k].arg).1 (l.drop (k + 1)) + 1 := by
  rw [List.drop_eq_getElem_cons hk, playFrom]
end Go.Proofs.YtfgangkpebkicaaGreatDoor

/-
  Contract of the reference's Played.
-/
namespace Go.Proofs.YtfgangkpebkicaaGreatDoor
open Go.RowKit
set_option maxRecDepth 20000
theorem begin_ok {typ : Int} (h : btw 1 typ 5 = true) : stateE typ (beginL typ) = 0 := by
  rcases typ_ways typ with rfl | rfl | rfl | rfl | rfl | ⟨_, _, _, _, _, h'⟩
  · decide
  · decide
  · decide
  · decide
  · decide
  · rw [h'] at h; cases h
set_option maxHeartbeats 4000000 in
theorem played_any {lv : Value} {l : List Dd} {w : World} {typ : Int} (hb : btw 1 typ 5 = true) (hl : DRd w w.heap.size lv l) :
    Calls Tryz.prog 39 #[.int .i64 typ, lv] w fun e w' => e = .returned (.int .i64 (playN typ l : Nat)) ∧ Below w.heap.size w w' := by
  obtain ⟨Al, capl, rfl, m3, m4⟩ := hl.is
  unfold maxLen at m4
  have HL := Lib.hid hl
  have HB := Lib.hid (begin_ok hb)
  have e2 : playN typ l = playFrom typ (beginL typ) l := rfl
  generalize hp : playN typ l = P at e2 ⊢
  have HP := Lib.hid e2
  clear hl hb e2 hp
  go_enter Tryz.func39, Tryz.ntmps39
  go_wp2_with fail
  refine (begin_any _ _).mono ?_
  rintro e w1 ⟨v1, rfl, hr1, hb1⟩
  obtain ⟨L, hL⟩ : ∃ L, L = l.length := ⟨_, rfl⟩
  have HLL := Lib.hid hL
  have H1 := Lib.hid (And.intro hr1 hb1)
  rw [← hL] at m3
  clear hr1 hb1
  go_wp2_with fail
  rw [← hL]
  clear hL
  have H10 := H1.out
  clear H1
  go_loopw [5, 15] (fun sv i wr => ∃ (k : Nat) (s : List Int), k ≤ L ∧ i = .int .i64 k ∧ P = k + playFrom typ s (l.drop k) ∧ stateE typ s = 0 ∧ NRd wr wr.heap.size sv s ∧ Below w.heap.size w wr) (fun _ i _ => L - (intOf i).toNat)
  case atStart => exact ⟨0, beginL typ, by omega, rfl, by rw [HP.out]; simp, HB.out, H10.1, H10.2⟩
  case round =>
    clear H10
    obtain ⟨k, s, hk, rfl, hplay, hst, hN, hB⟩ := hrel
    obtain ⟨As, cs, rfl, m1, m2⟩ := hN.is
    have HA := Lib.hid (And.intro hplay (And.intro hN (And.intro hB hst)))
    clear m1 m2 hplay hN hst
    by_cases hkL : k < L
    · have hkl : k < l.length := by rw [← HLL.out]; exact hkL
      obtain ⟨x, hx⟩ : ∃ x, l[k]? = some x := ⟨_, List.getElem?_eq_getElem hkl⟩
      have hxe : l[k] = x := (List.getElem?_eq_some_iff.1 hx).2
      have hL' := HL.out.below hB
      rw [← HLL.out] at hL'
      obtain ⟨gl, o', rfl, hgl, d0, d1, d2⟩ := hL'.dd hx
      have hst := play_drop (typ := typ) (s := s) hkl
      rw [hxe] at hst
      have i1 : (0 : Int) ≤ (k : Int) := by omega
      have i2 : (k : Int) < (L : Int) := by omega
      obtain ⟨xk, xa, xr⟩ := x
      simp only at hst d0 d1 d2
      have est : stepO typ s xk xa = if (fitsB typ xk && takesB xk xa) = false then ([], 0, 3) else stepped s xk xa := by
        unfold stepO
        rw [if_neg (by rw [HA.out.2.2.2]; decide)]
      have hok := fun h => (stepO_ok (typ := typ) (s := s) (kind := xk) (arg := xa) h).1
      have hask := fun (W : World) => asked_any typ xk xa W
      have HBX := Lib.hid (hB.alloc hB.size (.cells (ddCs ⟨xk, xa, xr⟩).toArray 70))
      have hNX : NRd (wr.alloc (.cells (ddCs ⟨xk, xa, xr⟩).toArray 70)) (wr.alloc (.cells (ddCs ⟨xk, xa, xr⟩).toArray 70)).heap.size (.slice As s.length cs) s := NRd.alloc HA.out.2.1 _
      have HNX := Lib.hid hNX
      have HL2 := Lib.hid (Lies.new wr 70 (ddCs ⟨xk, xa, xr⟩).toArray)
      cases hi : fitsB typ xk && takesB xk xa
      · rw [hi, if_pos rfl] at est
        rw [est] at hst
        rw [hi] at hask
        rw [if_pos (Or.inl (by decide))] at hst
        have HX := Lib.hid hst
        have HK := Lib.hid hask
        clear hx hxe hL' hst hB hok hask est hi hNX
        go_wp2_with fail
        refine (HK.out _).mono ?_
        rintro e w2 ⟨rfl, hb2⟩
        have H2 := Lib.hid (HBX.out.trans (hb2.mono HBX.out.size))
        clear hb2
        go_wp2_with fail
        go_ret
        have e : P = k := by rw [HA.out.1, HX.out]; rfl
        exact ⟨by rw [e]; rfl, H2.out⟩
      · rw [hi, if_neg (by decide)] at est
        rw [est] at hst hok
        have hF := fun (W : World) (h : Below (wr.alloc (.cells (ddCs ⟨xk, xa, xr⟩).toArray 70)).heap.size (wr.alloc (.cells (ddCs ⟨xk, xa, xr⟩).toArray 70)) W) => refStep_any (nrdOn hNX h) HA.out.2.2.2 hi
        rw [hi] at hask
        unfold RefPost at hF
        generalize stepped s xk xa = o at hst hok hF
        obtain ⟨s', r, er⟩ := o
        simp only at hst hok hF
        have HX := Lib.hid (And.intro hst hok)
        have HK := Lib.hid hask
        have HF := Lib.hid hF
        clear hx hxe hL' hst hB hok hask est hi hNX hF
        go_wp2_with fail
        refine (HK.out _).mono ?_
        rintro e w2 ⟨rfl, hb2⟩
        have hl2 := HL2.out.below hb2 (by simp)
        have b0 : w2.cell? ⟨wr.heap.size, 0, none⟩ = some (.int .i64 xk) := by rw [hl2.cell]; rfl
        have b1 : w2.cell? ⟨wr.heap.size, 1, none⟩ = some (.int .i64 xa) := by rw [hl2.cell]; rfl
        have H2 := Lib.hid (And.intro hl2 hb2)
        clear hb2 hl2
        go_wp2_with fail
        refine (HF.out _ H2.out.2).mono ?_
        rintro e w3 ⟨v3, rfl, hr3, hb3⟩
        obtain ⟨A3, c3, rfl, m1, m2⟩ := hr3.is
        have hl3 := H2.out.1.below hb3 H2.out.1.lt
        have c2' : w3.cell? ⟨wr.heap.size, 2, none⟩ = some (.int .i64 xr) := by rw [hl3.cell]; rfl
        have H3 := Lib.hid (And.intro hr3 (blwOn (blwOn HA.out.2.2.1 (((Below.refl wr.heap.size wr).alloc (Nat.le_refl _) _).trans (H2.out.2.mono (by simp)))) hb3))
        clear m1 m2 hr3 hb3 hl3 b0 b1
        by_cases hz : er = 0
        · subst hz
          by_cases hr : r = xr
          · subst hr
            go_wp2_with fail
            go_roundw
            case rel => exact ⟨k + 1, s', by omega, by go_num, by
              rw [HA.out.1, HX.out.1, if_neg (by simp)]
              omega, HX.out.2 (by first | rfl | trivial), H3.out⟩
            case measure => simp [intOf]; omega
          · have hz : (r != xr) = true := by rw [bne_iff_ne]; exact hr
            have HR := Lib.hid hr
            clear hr
            go_wp2_with fail
            go_ret
            have e : P = k := by rw [HA.out.1, HX.out.1, if_pos (Or.inr HR.out)]; rfl
            exact ⟨by rw [e]; rfl, H3.out.2⟩
        · have hz' : (er != 0) = true := by rw [bne_iff_ne]; exact hz
          have HR := Lib.hid hz
          clear hz
          go_wp2_with fail
          go_ret
          have e : P = k := by rw [HA.out.1, HX.out.1, if_pos (Or.inl HR.out)]; rfl
          exact ⟨by rw [e]; rfl, H3.out.2⟩
    · obtain rfl : k = L := by omega
      have e : P = k := by
        rw [HA.out.1, HLL.out, List.drop_length]
        rfl
      have HE := Lib.hid e
      clear e hB
      go_wp2_with fail
      go_ret
      exact ⟨by rw [HE.out]; rfl, HA.out.2.2.1⟩
end Go.Proofs.YtfgangkpebkicaaGreatDoor
