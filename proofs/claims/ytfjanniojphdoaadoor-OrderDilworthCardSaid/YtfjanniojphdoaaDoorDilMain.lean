/-
  alibkeep.OrderDilworth answers true where nothing is round; whatever the relation.
-/
import Derived.Test.YtfjanniojphdoaaDoorDilWalk
namespace Go.Proofs.YtfjanniojphdoaaDoor
open Go.RowKit
set_option maxRecDepth 20000

structure DmR (w0 : World) (n : Nat) (a c : Nat → Nat) (C : Nat) (v1 v2 : Value) (xs ys : List Int) (w : World) : Prop where
  o : DlR w0 n a w
  rel : RelB w C n c
  ra : IRd w w.heap.size v1 xs
  rb : IRd w w.heap.size v2 ys
theorem DmR.next {w0 w w' : World} {n : Nat} {a c : Nat → Nat} {C : Nat} {v1 v2 : Value} {xs ys : List Int} (h : DmR w0 n a c C v1 v2 xs ys w) (hb : Below w.heap.size w w') : DmR w0 n a c C v1 v2 xs ys w' :=
  ⟨h.o.next hb, Lies.below h.rel hb h.rel.lt, (h.ra.below hb).mono hb.size, (h.rb.below hb).mono hb.size⟩

set_option maxHeartbeats 16000000 in
theorem dil_no (n : Nat) (a : Nat → Nat) (w : World) (h : Good n a) (hy : cyc (clo n a) n = false) (hT : Tab w) (hpos : 0 < w.heap.size) :
    Calls Tryd.prog 5 #[relV n a] w fun e w' => e = .returned (.bool true) ∧ Below w.heap.size w w' := by
  have hn := h.le
  have HT := Lib.hid (And.intro hT hpos)
  have HG := Lib.hid (And.intro h hy)
  have hW : DlR w n a (w.alloc (.cells (relCs n a) 25)) := ⟨(Below.refl _ _).alloc (Nat.le_refl _) _, Lies.new _ _ _⟩
  have HR := Lib.hid hW
  clear hT hpos hW h hy
  go_enter Tryd.func5, Tryd.ntmps5
  go_wp2_with fail
  refine (apart_no n a _ HG.out.1 HG.out.2 (HR.out.tab HT.out) (HR.out.pos HT.out)).mono ?_
  rintro e w1 ⟨v1, rfl, ho1, hb'⟩
  have HA1 := Lib.hid ho1.rd
  have HR := Lib.hid (HR.out.next hb')
  clear hb' ho1
  have c0 := HR.out.box.size
  obtain ⟨c1, c2, c3, c4, c5, c6, c7, c8, c9, c10, c11, c12⟩ := HR.out.box.rows
  go_wp2_with fail
  clear c0 c1 c2 c3 c4 c5 c6 c7 c8 c9 c10 c11 c12
  refine (chains_no n a _ HG.out.1 HG.out.2 (HR.out.tab HT.out) (HR.out.pos HT.out)).mono ?_
  rintro e w2 ⟨v2, rfl, ho2, hb'⟩
  have hcap : ∃ A k, v2 = .slice A n k ∧ n ≤ k := by
    have hl : (listed n (chainsOf n (clo n a)).nu).length = n := by simp [listed]
    rcases ho2.2 with ⟨e, h0⟩ | ⟨g, cap, cur, e, _, _, h4, _⟩
    · exact ⟨none, 0, by rw [e, ← hl, h0], by omega⟩
    · exact ⟨_, cap, by rw [e, hl], by omega⟩
  obtain ⟨A2, k2, rfl, hk2⟩ := hcap
  have HA2 := Lib.hid (And.intro ((HA1.out.below hb').mono hb'.size) ho2.rd)
  have HR := Lib.hid (HR.out.next hb')
  clear hb' ho2 HA1
  have c0 := HR.out.box.size
  obtain ⟨c1, c2, c3, c4, c5, c6, c7, c8, c9, c10, c11, c12⟩ := HR.out.box.rows
  go_wp2_with fail
  clear c0 c1 c2 c3 c4 c5 c6 c7 c8 c9 c10 c11 c12
  refine (close_no n a _ HG.out.1 HG.out.2).mono ?_
  rintro e w3 ⟨rfl, hb'⟩
  have hF := chains_found HG.out.1 HG.out.2
  have hwi : (itemsUp (wide n (clo n a)) n).length = pop (wide n (clo n a)) := items_wide hn _
  have hwa := (anti_iff (clo n a) (wide n (clo n a)) n).1 (wide_most (c := clo n a) (n := n) (2 ^ n)).1
  have hgc := HG.out.1.clo
  obtain ⟨nu, hnu⟩ : ∃ nu, nu = (chainsOf n (clo n a)).nu := ⟨_, rfl⟩
  rw [← hnu] at hF HA2
  obtain ⟨c, hc⟩ : ∃ c, c = clo n a := ⟨_, rfl⟩
  rw [← hc] at hF hwi hwa HA2 hgc ⊢
  have hit := items_at (wide n c) n
  obtain ⟨xs, hxs⟩ : ∃ xs, xs = itemsUp (wide n c) n := ⟨_, rfl⟩
  rw [← hxs] at hit HA2 hwi
  have hpair : ∀ s t, s < xs.length → t < xs.length → ∃ p q, p < n ∧ q < n ∧ xs.getD s 0 = ((p : Nat) : Int) ∧ xs.getD t 0 = ((q : Nat) : Int) ∧ (c p).testBit q = false := fun s t hs ht => by
    obtain ⟨p, hp, e1, b1⟩ := hit s hs
    obtain ⟨q, hq, e2, b2⟩ := hit t ht
    refine ⟨p, q, hp, hq, e1, e2, ?_⟩
    have h3 := congrArg (fun z => z.testBit q) (hwa p hp b1)
    simp only [Nat.testBit_and, Nat.zero_testBit, b2, Bool.and_true] at h3
    exact h3
  have hmx : maxI nu n = (xs.length : Int) := by rw [maxI_is hF, hwi]
  have hlt := maxI_lt hF
  have hK16 : pop (wide n c) ≤ 16 := popN_le 16 _
  have HP := Lib.hid (And.intro hF (And.intro hpair (And.intro hmx (And.intro hlt (And.intro hgc hK16)))))
  clear hF hwi hwa hgc hit hpair hmx hlt hK16 hxs hc hnu
  obtain ⟨C, hC⟩ : ∃ C, C = w3.heap.size := ⟨_, rfl⟩
  have hM : DmR w n a c C v1 (.slice A2 n k2) xs (listed n nu) (w3.alloc (.cells (relCs n c) 25)) := by
    have hb2 := hb'.alloc hb'.size (.cells (relCs n c) 25)
    exact ⟨HR.out.next hb2, by rw [hC]; exact Lies.new _ _ _, (HA2.out.1.below hb2).mono hb2.size, (HA2.out.2.below hb2).mono hb2.size⟩
  have HM := Lib.hid hM
  clear hb' hM HA2 HR
  go_wp2_with fail
  rw [← hC]
  clear hC
  have hM := HM.out
  clear HM
  change Calls _ _ _ (w3.alloc (.cells (relCs n c) 25)) _
  generalize w3.alloc (.cells (relCs n c) 25) = W3 at hM ⊢
  have HM := Lib.hid hM
  clear hM
  refine (lives_true _ (HM.out.o.tab HT.out) (HM.out.o.pos HT.out)).mono ?_
  rintro e w4 ⟨rfl, hb'⟩
  have HM := Lib.hid (HM.out.next hb')
  clear hb'
  go_wp2_with fail
  refine (ok_zero (IRd.fresh w4 26 [0, 0, 0] _ rfl _ rfl) (by decide) (by decide)).mono ?_
  rintro e w5 ⟨rfl, rfl⟩
  have HM := Lib.hid (HM.out.next ((Below.refl _ _).alloc (Nat.le_refl _) (.cells #[.int .i64 0, .int .i64 0, .int .i64 0] 26)))
  obtain ⟨A1, k1, rfl⟩ := ird_is HM.out.ra
  have c0 := HM.out.o.box.size
  have clt := HM.out.o.box.lt
  go_wp2_with fail
  have hM := HM.out
  clear HM c0 clt
  change Code.wp _ _ _ _ (w4.alloc (.cells #[.int .i64 0, .int .i64 0, .int .i64 0] 26))
  generalize w4.alloc (.cells #[.int .i64 0, .int .i64 0, .int .i64 0] 26) = W5 at hM ⊢
  go_loopw [10, 62] (fun p t wr => ∃ i : Nat, i ≤ n ∧ t = .int .i64 i ∧ p = .int .i64 (maxI nu i) ∧ DmR w n a c C (.slice A1 xs.length k1) (.slice A2 n k2) xs (listed n nu) wr) (fun _ t _ => n - (intOf t).toNat)
  case atStart => exact ⟨0, by omega, rfl, rfl, hM⟩
  case round =>
    clear hM
    obtain ⟨i, hi, rfl, rfl, hM⟩ := hrel
    by_cases hin : i < n
    · obtain ⟨g2, rfl, hg⟩ := ird_addr hM.rb (by omega)
      have d1 := ird_cells hM.rb hin
      rw [listedD hin] at d1
      have HM := Lib.hid hM
      clear hM hg
      obtain ⟨kk, hkk, hke⟩ := HP.out.1.lt i hin
      have hK16 := HP.out.2.2.2.2.2
      have hml := HP.out.2.2.2.1 i (by omega)
      have hst : (if maxI nu i < nu i + 1 then nu i + 1 else maxI nu i) = maxI nu (i + 1) := rfl
      have hw : IntKind.i64.wrap (nu i + 1) = nu i + 1 := by rw [IntKind.wrap_i64, hke]; omega
      generalize hX : nu i = X at d1 hst hw
      generalize hM2 : maxI nu (i + 1) = M2 at hst
      have HM2 := Lib.hid hM2
      clear hM2
      generalize maxI nu i = M at hst hml ⊢
      have HX := Lib.hid hX
      clear hX hke hkk hml hK16
      have i1 : (0 : Int) ≤ (i : Int) := by omega
      have i2 : (i : Int) < (n : Int) := by omega
      have i3 : (i : Int) ≤ (k2 : Int) := by omega
      go_wp2_with fail
      have hM := HM.out
      clear HM d1 hst hw
      obtain ⟨wo, rfl⟩ : ∃ wo : World, wo = wr := ⟨_, rfl⟩
      go_loopw [75] (fun t wr => ∃ j : Nat, j ≤ i ∧ t = .int .i64 j ∧ DmR w n a c C (.slice A1 xs.length k1) (.slice (some ⟨g2, 0, none⟩) n k2) xs (listed n nu) wr) (fun t _ => i - (intOf t).toNat)
      case atStart => exact ⟨0, by omega, rfl, hM⟩
      case round =>
        clear hM
        obtain ⟨j, hj, rfl, hM⟩ := hrel
        by_cases hji : j < i
        · have d1 := ird_cells hM.rb (show j < n by omega)
          rw [listedD (show j < n by omega)] at d1
          have r0 := hM.rel.size
          obtain ⟨r1, r2, r3, r4, r5, r6, r7, r8, r9, r10, r11, r12⟩ := hM.rel.rows
          have HM := Lib.hid hM
          clear hM
          have hre := HP.out.1.rel i j hin (by omega) (by omega)
          rw [HX.out] at hre
          generalize nu j = Y at d1 hre
          have j1 : (0 : Int) ≤ (j : Int) := by omega
          have j2 : (j : Int) < (i : Int) := by omega
          have a12 : i < 12 := by omega
          have b12 : j < 12 := by omega
          by_cases hXY : X = Y
          · have hrr := hre hXY
            clear hre
            subst hXY
            cases e1 : (c i).testBit j
            · have e2 : (c j).testBit i = true := by
                rcases hrr with h | h
                · rw [e1] at h; cases h
                · exact h
              clear hrr
              go_wp2_with (go_at_call 21; refine (ahead_any _ c _ _ _ (by omega) (by omega)).mono ?_; rintro e w' ⟨rfl, hb'⟩; clear r0 r1 r2 r3 r4 r5 r6 r7 r8 r9 r10 r11 r12; have hM' := HM.out.next hb'; have r0 := hM'.rel.size; obtain ⟨r1, r2, r3, r4, r5, r6, r7, r8, r9, r10, r11, r12⟩ := hM'.rel.rows; have HM := Lib.hid hM'; clear hM' hb')
              go_roundw
              case rel => exact ⟨j + 1, by omega, by go_num, HM.out⟩
              case measure => simp [intOf]; omega
            · clear hrr
              go_wp2_with (go_at_call 21; refine (ahead_any _ c _ _ _ (by omega) (by omega)).mono ?_; rintro e w' ⟨rfl, hb'⟩; clear r0 r1 r2 r3 r4 r5 r6 r7 r8 r9 r10 r11 r12; have hM' := HM.out.next hb'; have r0 := hM'.rel.size; obtain ⟨r1, r2, r3, r4, r5, r6, r7, r8, r9, r10, r11, r12⟩ := hM'.rel.rows; have HM := Lib.hid hM'; clear hM' hb')
              go_roundw
              case rel => exact ⟨j + 1, by omega, by go_num, HM.out⟩
              case measure => simp [intOf]; omega
          · have hz : (X == Y) = false := by rw [beq_eq_false_iff_ne]; exact hXY
            clear hre
            go_wp2_with fail
            go_roundw
            case rel => exact ⟨j + 1, by omega, by go_num, HM.out⟩
            case measure => simp [intOf]; omega
        · obtain rfl : i = j := by omega
          have HM := Lib.hid hM
          clear hM
          go_wp2_with fail
          go_roundw
          case rel => exact ⟨i + 1, by omega, by go_num, by rw [HM2.out], HM.out⟩
          case measure => simp [intOf]; omega
    · obtain rfl : n = i := by omega
      rw [HP.out.2.2.1]
      have hL16 : xs.length ≤ 16 := by
        have h1 := (HP.out.2.2.2.1 n (Nat.le_refl _)).1
        rw [HP.out.2.2.1] at h1
        have := HP.out.2.2.2.2.2
        omega
      have HM := Lib.hid hM
      clear hM
      go_wp2_with fail
      have hM := HM.out
      clear HM
      obtain ⟨wo, rfl⟩ : ∃ wo : World, wo = wr := ⟨_, rfl⟩
      go_loopw [101] (fun t wr => ∃ s : Nat, s ≤ xs.length ∧ t = .int .i64 s ∧ DmR w n a c C (.slice A1 xs.length k1) (.slice A2 n k2) xs (listed n nu) wr) (fun t _ => xs.length - (intOf t).toNat)
      case atStart => exact ⟨0, by omega, rfl, hM⟩
      case round =>
        clear hM
        obtain ⟨s, hs, rfl, hM⟩ := hrel
        have HPP := Lib.hid HP.out.2.1
        by_cases hsl : s < xs.length
        · obtain ⟨g1, rfl, hg⟩ := ird_addr hM.ra (by omega)
          have d1 := ird_cells hM.ra hsl
          have HM := Lib.hid hM
          clear hM hg
          obtain ⟨p, -, hp, -, ep, -, -⟩ := HPP.out s s hsl hsl
          rw [ep] at d1
          have HEP := Lib.hid ep
          clear ep
          have i1 : (0 : Int) ≤ (s : Int) := by omega
          have i2 : (s : Int) < (xs.length : Int) := by omega
          go_wp2_with fail
          have hM := HM.out
          clear HM d1
          obtain ⟨wo2, rfl⟩ : ∃ wo : World, wo = wr := ⟨_, rfl⟩
          go_loopw [107] (fun t wr => ∃ q : Nat, q ≤ xs.length ∧ t = .int .i64 q ∧ DmR w n a c C (.slice (some ⟨g1, 0, none⟩) xs.length k1) (.slice A2 n k2) xs (listed n nu) wr) (fun t _ => xs.length - (intOf t).toNat)
          case atStart => exact ⟨0, by omega, rfl, hM⟩
          case round =>
            clear hM
            obtain ⟨t, ht, rfl, hM⟩ := hrel
            by_cases htl : t < xs.length
            · have d1 := ird_cells hM.ra htl
              have b0 := hM.o.box.size
              have r0 := hM.rel.size
              obtain ⟨r1, r2, r3, r4, r5, r6, r7, r8, r9, r10, r11, r12⟩ := hM.rel.rows
              have HM := Lib.hid hM
              clear hM
              obtain ⟨p', q, hp', hq, ep, eq, hno⟩ := HPP.out s t hsl htl
              rw [HEP.out] at ep
              have hpp : p' = p := by omega
              subst hpp
              rw [eq] at d1
              clear ep eq
              have i3 : (0 : Int) ≤ (t : Int) := by omega
              have i4 : (t : Int) < (xs.length : Int) := by omega
              have k1' : ¬ (p' : Int) < 0 := by omega
              have k2' : ¬ (q : Int) < 0 := by omega
              have k3' : ¬ (n : Int) ≤ (p' : Int) := by omega
              have k4' : ¬ (n : Int) ≤ (q : Int) := by omega
              have p12 : p' < 12 := by omega
              have q15 : q ≤ 15 := by omega
              go_wp2_with (go_at_call 21; refine (ahead_any _ c _ _ _ (by omega) (by omega)).mono ?_; rintro e w' ⟨rfl, hb'⟩; have HM := Lib.hid (HM.out.next hb'); clear hb')
              go_roundw
              case rel => exact ⟨t + 1, by omega, by go_num, HM.out⟩
              case measure => simp [intOf]; omega
            · have htL : xs.length = t := by omega
              have HM := Lib.hid hM
              clear hM
              go_wp2_with fail
              go_roundw
              case rel => exact ⟨s + 1, by omega, by go_num, HM.out⟩
              case measure => simp [intOf]; omega
        · have hsL : xs.length = s := by omega
          have HM := Lib.hid hM
          clear hM
          go_wp2_with fail
          go_ret
          exact ⟨rfl, HM.out.o.below⟩

theorem dil_all (n : Int) (a : Nat → Nat) (w : World) (ha : ∀ i, a i < 65536) (hT : Tab w) (hpos : 0 < w.heap.size) :
    Calls Tryd.prog 5 #[relV n a] w fun e w' => e = .returned (.bool true) ∧ Below w.heap.size w w' := by
  rcases check_ways n a ha with ⟨E, hE, _, hc⟩ | ⟨m, rfl, h⟩
  · exact dil_err n a 0 (fun _ => 0) false E E w hE (fails_check hE hc) (fun w => close_err n a E w hE hc) hT hpos
  · cases hy : cyc (clo m a) m with
    | true => exact dil_err m a m (clo m a) true 4 0 w rfl (fails_round h hy) (fun w => close_yes m a w h hy) hT hpos
    | false => exact dil_no m a w h hy hT hpos
end Go.Proofs.YtfjanniojphdoaaDoor
