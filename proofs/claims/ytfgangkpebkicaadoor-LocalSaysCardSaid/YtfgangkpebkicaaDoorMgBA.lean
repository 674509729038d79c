/-
  Joined by a program out of: LoB.
-/
import Derived.Test.YtfgangkpebkicaaDoorMgAZ
import Derived.Test.YtfgangkpebkicaaDoorMgAW

/-
  One step of LeastOrder: what it answers is a row of its own.
-/
namespace Go.Proofs.YtfgangkpebkicaaDoor
open Go.RowKit
set_option maxRecDepth 20000

theorem TOwn.lowerB {w : World} {B B' : Nat} {v : Value} {l : List (Int × Int)} (h : TOwn w B v l) (hB : B' ≤ B) : TOwn w B' v l :=
  ⟨h.1, h.2.elim (fun h => .inl h) fun ⟨g, cap, cur, h1, h2, h3⟩ => .inr ⟨g, cap, cur, h1, Nat.le_trans hB h2, h3⟩⟩
theorem TOwn.onB {w w' : World} {B : Nat} {v : Value} {l : List (Int × Int)} (h : TOwn w B v l) (hb : Below w.heap.size w w') : TOwn w' B v l := h.below hb
/-- What LeastOrder answers, a row of its own. -/
def LoPostB (w : World) (B : Nat) (o : Option (List (Nat × Int))) (ws : List (Int × Int)) (e : Ending) (w' : World) : Prop :=
  Below w.heap.size w w' ∧ ((o = none ∧ e = .returned (.slice none 0 0)) ∨ ∃ S a N c, o = some S ∧ e = .returned (.slice (some a) N c) ∧ TOwn w' B (.slice (some a) N c) (ws ++ asSteps S))
set_option maxHeartbeats 16000000 in
theorem lo_coreB {ts : List Int} {cs : List Cl} {r b : Nat → Nat} (hn : cs.length ≤ 12) (hirr : ∀ i, (r i).testBit i = false) (hty : ∀ t ∈ ts, 1 ≤ t ∧ t ≤ 5) (hok : ∀ c ∈ cs, CallOk ts c)
    (hb : ∀ k, k < cs.length → ∀ i, i < cs.length → ((b k).testBit i = (r i).testBit k)) (hb2 : ∀ k i, cs.length ≤ i → (b k).testBit i = false)
    {B : Nat} {ws : List (Int × Int)} {p : Pt} (hleg : Legal ts cs r ws p) {go : Pt → Option (List (Nat × Int))}
    (ih : ∀ k, k < cs.length → mayG b ts cs p k = true → ∀ {w : World} {tv cv : Value} {a : Addr} {N c : Nat}, NRd w w.heap.size tv ts → CRd w w.heap.size cv cs → B ≤ w.heap.size → TOwn w B (.slice (some a) N c) (ws ++ [((k : Int), (thingO ts cs p k).2.1)]) →
      Calls Tryd.prog 22 #[tv, cv, relV cs.length r, .slice (some a) N c] w (LoPostB w B (go (nextP ts cs p k)) (ws ++ [((k : Int), (thingO ts cs p k).2.1)])))
    {w : World} {tv cv : Value} {a0 : Addr} {M c0 : Nat} (ht : NRd w w.heap.size tv ts) (hc : CRd w w.heap.size cv cs) (hBw : B ≤ w.heap.size) (hwo : TOwn w B (.slice (some a0) M c0) ws) :
    Calls Tryd.prog 22 #[tv, cv, relV cs.length r, .slice (some a0) M c0] w (LoPostB w B (if fullB cs p = true then some [] else tryG b go ts cs p cs.length 0) ws) := by
  unfold LoPostB at *
  have hw : SRd w w.heap.size (.slice (some a0) M c0) ws := hwo.rd
  have HOWN := Lib.hid (And.intro hBw hwo)
  clear hwo hBw
  obtain ⟨At, capt, rfl, ht1, ht2⟩ := ht.is
  obtain ⟨Ac, capc, rfl, hc1, hc2⟩ := hc.is
  have hM : M = ws.length := by
    obtain ⟨A9, c9, e9, -, -⟩ := hw.is
    injection e9
  have hcap : M ≤ 9223372036854775807 := by
    obtain ⟨A9, c9, e9, h1, h2⟩ := hw.is
    unfold maxLen at h2
    omega
  unfold maxLen at ht2 hc2
  obtain ⟨tl, htl⟩ : ∃ tl, tl = ts.length := ⟨_, rfl⟩
  obtain ⟨n, hnn⟩ : ∃ n, n = cs.length := ⟨_, rfl⟩
  have HRO := Lib.hid (fun (W : World) (hh : Below w.heap.size w W) => ro_any ((ht.below hh).mono hh.size) ((hc.below hh).mono hh.size) ((hw.below hh).mono hh.size) hn hirr hty (fun c hc => (hok c hc).thing))
  have HT := Lib.hid (And.intro ht (And.intro hc hw))
  have HI := Lib.hid ih
  have HWL := Lib.hid (show ws.length ≤ 12 from Nat.le_trans (rite_small hleg) hn)
  have HLG := Lib.hid (And.intro hleg (And.intro hirr (And.intro hty hok)))
  have HBB := Lib.hid (And.intro hb hb2)
  rw [← htl, ← hnn] at HT
  rw [← htl, ← hnn] at HRO
  rw [← htl] at ht1
  rw [← hnn] at hc1
  have hn12 : n ≤ 12 := by rw [hnn]; exact hn
  rw [← htl, ← hnn]
  have HTL := Lib.hid htl
  have HNN := Lib.hid hnn
  have HMM := Lib.hid hM
  obtain ⟨R0, hR0⟩ : ∃ R0, R0 = (if fullB cs p = true then some [] else tryG b go ts cs p n 0) := ⟨_, rfl⟩
  have w1 : (n : Int) ≤ 9223372036854775807 := by omega
  have w2 : (tl : Int) ≤ 9223372036854775807 := by omega
  have w3 : (M : Int) ≤ 9223372036854775807 := by omega
  have hl0 : LoR w n r (w.alloc (.cells (relCs n r) 46)) := ⟨(Below.refl _ _).alloc (Nat.le_refl _) _, Lies.new _ _ _⟩
  have HL0 := Lib.hid hl0
  have hR := hl0.rel
  have c0' := hR.size
  obtain ⟨c1, c2, c3, c4, c5, c6, c7, c8, c9, c10, c11, c12⟩ := hR.rows
  rw [← hR0]
  have HR00 := Lib.hid hR0
  clear ht hc hw hn hirr hty hok hb hb2 hleg ih htl hnn hM ht1 ht2 hc1 hc2 hl0 hR hcap hR0
  go_enter Tryd.func22, Tryd.ntmps22
  go_wp2_with fail
  clear c0' c1 c2 c3 c4 c5 c6 c7 c8 c9 c10 c11 c12
  refine (HRO.out _ HL0.out.below).mono ?_
  rintro e w1' ⟨bb, rfl, hiff, hb1⟩
  have HL1 := Lib.hid (HL0.out.next hb1)
  have hfull : bb = fullB cs p := by
    rw [Bool.eq_iff_iff, hiff]
    exact HLG.out.1.right (by rw [← HNN.out]; omega)
  clear hiff hb1 HRO HL0
  cases hfb : fullB cs p
  · rw [hfb] at hfull
    subst hfull
    have hR := HR00.out
    rw [hfb, if_neg (by decide)] at hR
    obtain ⟨R, hRR⟩ : ∃ R, R = tryG b go ts cs p n 0 := ⟨_, rfl⟩
    rw [← hRR] at hR
    have HR0 := Lib.hid hR
    have HRR := Lib.hid hRR
    clear hfb hR hRR HR00
    go_wp2_with fail
    go_loopw [29] (fun t wr => ∃ k : Nat, k ≤ n ∧ t = .int .i64 k ∧ tryG b go ts cs p (n - k) k = R ∧ LoR w n r wr) (fun t _ => n - (intOf t).toNat)
    case atStart => exact ⟨0, by omega, rfl, HRR.out.symm, HL1.out⟩
    case round =>
      clear HL1
      obtain ⟨k, hk, rfl, htk, hL⟩ := hrel
      have HTK := Lib.hid htk
      by_cases hkn : k < n
      · have hkc : k < cs.length := by rw [← HNN.out]; exact hkn
        have hy := getD_some hkc
        have hok := HLG.out.2.2.2 _ (List.mem_of_getElem? hy)
        have hrc := HT.out.2.1.below hL.below
        obtain ⟨gc, oc, rfl, -, e0, e1, e2, e3, e4, e5, e6⟩ := hrc.cl hy
        have hto := HLG.out.1.thing (k := k) (by have := hok.thing; omega)
        have hmq := fun hnm => may_ref HLG.out.1 (by rw [← HNN.out]; omega) hkc (HBB.out.1 k hkc) (HBB.out.2 k) hnm
        obtain ⟨y, hyy⟩ : ∃ y, y = cs.getD k default := ⟨_, rfl⟩
        rw [← hyy] at e0 e1 e2 e3 e4 e5 e6 hok hto hmq
        obtain ⟨y0, y1, y2, y3, y4, y5, y6⟩ := y
        simp only at e0 e1 e2 e3 e4 e5 e6 hto hmq
        have hth := hok.thing
        have hfi := hok.fits
        have hta := hok.takes
        simp only at hth hfi hta
        have i1 : (0 : Int) ≤ (k : Int) := by omega
        have i2 : (k : Int) < (n : Int) := by omega
        have HKC := Lib.hid hkc
        have HY := Lib.hid hyy
        have HTO := Lib.hid (And.intro hto (And.intro hth (And.intro hfi hta)))
        have HMQ0 := Lib.hid hmq
        obtain ⟨P, hP⟩ : ∃ P, P = wr.heap.size := ⟨_, rfl⟩
        obtain ⟨W2, hW2⟩ : ∃ W2, W2 = (wr.alloc (.cells #[.int .i64 (k : Int)] 3)).alloc (.cells #[.int .i64 y0, .int .i64 y1, .int .i64 y2, .int .i64 y3, .int .i64 y4, .int .i64 y5, .int .i64 y6] 51) := ⟨_, rfl⟩
        have hk2 : LoK w n r P k y0 y1 y2 y3 y4 y5 y6 W2 := by
          rw [hW2, hP]
          refine ⟨(hL.next ((Below.refl _ _).alloc (Nat.le_refl _) _)).next ((Below.refl _ _).alloc (Nat.le_refl _) _), Lies.alloc (Lies.new _ _ _) _, ?_⟩
          have := Lies.new (wr.alloc (.cells #[.int .i64 (k : Int)] 3)) 51 #[.int .i64 y0, .int .i64 y1, .int .i64 y2, .int .i64 y3, .int .i64 y4, .int .i64 y5, .int .i64 y6]
          rwa [World.size_alloc] at this
        have HK2 := Lib.hid hk2
        clear htk hL hy hok hrc hto hmq hyy hkc hk2 hth hfi hta
        go_upto_region 6 with fail
        rw [← hW2, ← hP]
        clear hW2 hP e0 e1 e2 e3 e4 e5 e6
        have HC2 := Lib.hid (lcont1_any ((HT.out.2.2.below HK2.out.lo.below).mono HK2.out.lo.below.size) HK2.out.cells.1 (Lies.lt HK2.out.bk))
        by_cases hmem : (k : Int) ∈ ws.map (·.1)
        · have HTR := Lib.hid ((tryG_no hkn (may_in HLG.out.1 HKC.out hmem)).symm.trans HTK.out)
          rw [decide_eq_true hmem] at HC2
          clear hmem
          go_wp2_with fail
          refine HC2.out.mono ?_
          rintro e w3 ⟨rfl, hb3⟩
          have HL3 := Lib.hid (HK2.out.next hb3).lo
          clear hb3 HC2
          go_wp2_with fail
          go_roundw
          case rel => exact ⟨k + 1, by omega, by go_num, HTR.out, HL3.out⟩
          case measure => simp [intOf]; omega
        · have HMQ := Lib.hid (HMQ0.out hmem)
          rw [decide_eq_false hmem] at HC2
          clear hmem
          go_wp2_with fail
          refine HC2.out.mono ?_
          rintro e w3 ⟨rfl, hb3⟩
          have HK3 := Lib.hid (HK2.out.next hb3)
          clear hb3 HC2 HK2
          obtain ⟨th, hth⟩ : ∃ th : Nat, y1 = (th : Int) := ⟨y1.toNat, by have := HTO.out.2.1; omega⟩
          subst hth
          have htl' : th < ts.length := by have := HTO.out.2.1; omega
          have hge := getD_lt htl'
          have hty := HLG.out.2.2.1 _ (List.mem_of_getElem? hge)
          have hrt := HT.out.1.below HK3.out.lo.below
          obtain ⟨gt, ot, rfl, -, d0⟩ := hrt.num hge
          obtain ⟨ty, htye⟩ : ∃ ty, ty = ts.getD th 0 := ⟨_, rfl⟩
          rw [← htye] at d0 hty
          have i3 : (0 : Int) ≤ (th : Int) := by omega
          have i4 : (th : Int) < (tl : Int) := by rw [HTL.out]; omega
          obtain ⟨q0, q1, q2, q3, q4, q6⟩ := HK3.out.cells
          have HTY := Lib.hid (And.intro htye (And.intro hty htl'))
          clear hge hty hrt htye htl'
          go_wp2_with fail
          refine (begin_any ty w3).mono ?_
          rintro e w4 ⟨v4, rfl, hs4, hb4⟩
          have HK4 := Lib.hid (HK3.out.next hb4)
          clear d0 q0 q1 q2 q3 q4 q6 hb4
          obtain ⟨A4, cap4, e4, -, -⟩ := hs4.is
          obtain ⟨l4, hl4⟩ : ∃ l4, l4 = (beginL ty).length := ⟨_, rfl⟩
          rw [← hl4] at e4
          subst e4
          have HS4 := Lib.hid hs4
          clear hs4 hl4
          obtain ⟨W4, rfl⟩ : ∃ W4, W4 = wr := ⟨_, rfl⟩
          go_wp2_with fail
          go_loopw [11, 45] (fun v t wr => ∃ (m : Nat) (A : Option Addr) (N cap : Nat), m ≤ M ∧ v = .slice A N cap ∧ t = .int .i64 m ∧ NRd wr wr.heap.size (.slice A N cap) (stateFrom ty (beginL ty) (ownD cs th (ws.take m))) ∧ LoK w n r P k y0 (th : Int) y2 y3 y4 y5 y6 wr) (fun _ t _ => M - (intOf t).toNat)
          case atStart => exact ⟨0, A4, l4, cap4, by omega, rfl, rfl, HS4.out, HK4.out⟩
          case round =>
            clear HS4 HK4
            obtain ⟨m, A, N, cap, hm, rfl, rfl, hst, hL⟩ := hrel
            have HST0 := Lib.hid hst
            have HLW := Lib.hid hL
            clear hst hL
            have hvalid : ∀ u, stateE ty (stateFrom ty (beginL ty) (ownD cs th (ws.take u))) = 0 := fun u => by
              have hg := HLG.out.1.goes th HTY.out.2.2
              rw [← HTY.out.1, ← List.take_append_drop u ws, ownD_append] at hg
              exact goes_valid _ _ (begin_ok (btw_iff.2 HTY.out.2.1)) (goes_prefix hg)
            by_cases hmM : m < M
            · obtain ⟨x, hx⟩ : ∃ x, ws[m]? = some x := ⟨_, List.getElem?_eq_getElem (by rw [← HMM.out]; exact hmM)⟩
              have hr := HT.out.2.2.below HLW.out.lo.below
              obtain ⟨g, o, ea, -, d0, d1⟩ := hr.sp hx
              injection ea with ea
              subst ea
              have hxr := HLG.out.1.rng x (List.mem_of_getElem? hx)
              have htk := ownD_take (cs := cs) (t := th) hx
              obtain ⟨x0, x1⟩ := x
              simp only at d0 d1 hxr
              obtain ⟨kk, rfl⟩ : ∃ kk : Nat, x0 = (kk : Int) := ⟨x0.toNat, by omega⟩
              have hkc2 : kk < cs.length := by omega
              have hkn2 : kk < n := by rw [HNN.out]; exact hkc2
              have hy := getD_some hkc2
              have hok := HLG.out.2.2.2 _ (List.mem_of_getElem? hy)
              have hrc := HT.out.2.1.below HLW.out.lo.below
              obtain ⟨g2, o2, ec, -, e0, e1, e2, e3, e4, e5, e6⟩ := hrc.cl hy
              injection ec with ec
              injection ec with ec1 ec2
              subst ec1 ec2
              unfold ddC atC at htk
              simp only [Int.toNat_natCast] at htk
              generalize cs.getD kk default = z at e0 e1 e2 e3 e4 e5 e6 hok htk
              obtain ⟨z0, z1, z2, z3, z4, z5, z6⟩ := z
              have hth2 := hok.thing
              have hfi2 := hok.fits
              have hta2 := hok.takes
              simp only at e0 e1 e2 e3 e4 e5 e6 htk hth2 hfi2 hta2
              have HTK2 := Lib.hid htk
              have i5 : (0 : Int) ≤ (m : Int) := by omega
              have i6 : (m : Int) < (M : Int) := by omega
              have i7 : (0 : Int) ≤ (kk : Int) := by omega
              have i8 : (kk : Int) < (n : Int) := by omega
              obtain ⟨W5, hW5⟩ : ∃ W5, W5 = (wr.alloc (.cells #[.int .i64 (kk : Int), .int .i64 x1] 38)).alloc (.cells #[.int .i64 z0, .int .i64 z1, .int .i64 z2, .int .i64 z3, .int .i64 z4, .int .i64 z5, .int .i64 z6] 51) := ⟨_, rfl⟩
              have hba : Below wr.heap.size wr W5 := by rw [hW5]; exact ((Below.refl _ _).alloc (Nat.le_refl _) _).alloc (by simp) _
              have hcl : Lies W5 (wr.heap.size + 1) 51 #[.int .i64 z0, .int .i64 z1, .int .i64 z2, .int .i64 z3, .int .i64 z4, .int .i64 z5, .int .i64 z6] := by
                rw [hW5]
                have := Lies.new (wr.alloc (.cells #[.int .i64 (kk : Int), .int .i64 x1] 38)) 51 #[.int .i64 z0, .int .i64 z1, .int .i64 z2, .int .i64 z3, .int .i64 z4, .int .i64 z5, .int .i64 z6]
                rwa [World.size_alloc] at this
              have HL5 := Lib.hid (And.intro (HLW.out.next hba) (And.intro hcl (nrdOn HST0.out hba)))
              have HV := Lib.hid (And.intro (hvalid m) (And.intro hth2 (And.intro hfi2 hta2)))
              have E0 : ∀ o2, (wr.alloc o2).cell? ⟨gc, oc + kk * 7, none⟩ = some (.int .i64 z0) := fun _ => Lib.cell?_alloc_some _ e0
              have E1 : ∀ o2, (wr.alloc o2).cell? ⟨gc, oc + kk * 7 + 1, none⟩ = some (.int .i64 z1) := fun _ => Lib.cell?_alloc_some _ e1
              have E2 : ∀ o2, (wr.alloc o2).cell? ⟨gc, oc + kk * 7 + 2, none⟩ = some (.int .i64 z2) := fun _ => Lib.cell?_alloc_some _ e2
              have E3 : ∀ o2, (wr.alloc o2).cell? ⟨gc, oc + kk * 7 + 3, none⟩ = some (.int .i64 z3) := fun _ => Lib.cell?_alloc_some _ e3
              have E4 : ∀ o2, (wr.alloc o2).cell? ⟨gc, oc + kk * 7 + 4, none⟩ = some (.int .i64 z4) := fun _ => Lib.cell?_alloc_some _ e4
              have E5 : ∀ o2, (wr.alloc o2).cell? ⟨gc, oc + kk * 7 + 5, none⟩ = some (.int .i64 z5) := fun _ => Lib.cell?_alloc_some _ e5
              have E6 : ∀ o2, (wr.alloc o2).cell? ⟨gc, oc + kk * 7 + 6, none⟩ = some (.int .i64 z6) := fun _ => Lib.cell?_alloc_some _ e6
              clear hx hr hxr htk hy hok hrc hvalid e0 e1 e2 e3 e4 e5 e6 hth2 hfi2 hta2 hba hcl hkc2
              go_upto_region 12 with fail
              rw [← hW5]
              clear hW5 E0 E1 E2 E3 E4 E5 E6 d0 d1
              obtain ⟨P5, hP5⟩ : ∃ P5, P5 = wr.heap.size + 1 := ⟨_, rfl⟩
              rw [← hP5] at HL5 ⊢
              clear hP5
              have s1 : W5.cell? ⟨P5, 1, none⟩ = some (.int .i64 z1) := Lies.cell HL5.out.2.1 1
              have s2 : W5.cell? ⟨P5, 2, none⟩ = some (.int .i64 z2) := Lies.cell HL5.out.2.1 2
              have s3 : W5.cell? ⟨P5, 3, none⟩ = some (.int .i64 z3) := Lies.cell HL5.out.2.1 3
              obtain ⟨q0, q1, q2, q3, q4, q6⟩ := HL5.out.1.cells
              by_cases hzt : z1 = (th : Int)
              · have b1 : (z1 == (th : Int)) = true := by rw [beq_iff_eq]; exact hzt
                have hfz : (fitsB ty z2 && takesB z2 z3) = true := by
                  rw [HV.out.2.2.2, Bool.and_true, HTY.out.1]
                  have h9 := HV.out.2.2.1
                  rw [hzt, Int.toNat_natCast] at h9
                  exact h9
                have HRS := Lib.hid (refStep_any HL5.out.2.2 HV.out.1 hfz)
                have HZT := Lib.hid (And.intro hzt hfz)
                clear hzt hfz
                go_wp2_with fail
                refine HRS.out.mono ?_
                rintro e w6 ⟨v6, rfl, hs6, hb6⟩
                have HK6 := Lib.hid (HL5.out.1.next hb6)
                obtain ⟨A6, cap6, e6, -, -⟩ := hs6.is
                obtain ⟨l6, hl6⟩ : ∃ l6, l6 = (stepped (stateFrom ty (beginL ty) (ownD cs th (ws.take m))) z2 z3).1.length := ⟨_, rfl⟩
                rw [← hl6] at e6
                subst e6
                have HS6 := Lib.hid hs6
                clear hb6 hs6 hl6 HRS s1 s2 s3 q0 q1 q2 q3 q4 q6
                generalize (stepped (stateFrom ty (beginL ty) (ownD cs th (ws.take m))) z2 z3).2.1 = rr
                generalize (stepped (stateFrom ty (beginL ty) (ownD cs th (ws.take m))) z2 z3).2.2 = ee
                go_wp2_with fail
                go_roundw
                case rel =>
                  refine ⟨m + 1, A6, l6, cap6, by omega, rfl, by go_num, ?_, HK6.out⟩
                  rw [HTK2.out, if_pos (by rw [HZT.out.1, Int.toNat_natCast]), stateFrom_snoc]
                  have e9 : stepO ty (stateFrom ty (beginL ty) (ownD cs th (ws.take m))) z2 z3 = stepped (stateFrom ty (beginL ty) (ownD cs th (ws.take m))) z2 z3 := by
                    unfold stepO
                    rw [if_neg (by rw [HV.out.1]; decide), if_neg (by rw [HZT.out.2]; decide)]
                  simp only
                  rw [e9]
                  exact HS6.out
                case measure => simp [intOf]; omega
              · have b1 : (z1 == (th : Int)) = false := by rw [beq_eq_false_iff_ne]; exact hzt
                have HZT := Lib.hid hzt
                clear hzt
                go_wp2_with fail
                go_roundw
                case rel =>
                  refine ⟨m + 1, A, N, cap, by omega, rfl, by go_num, ?_, HL5.out.1⟩
                  rw [HTK2.out, if_neg (fun h => HZT.out (by have := HV.out.2.1; omega))]
                  exact HL5.out.2.2
                case measure => simp [intOf]; omega
            · obtain rfl : M = m := by omega
              have hv9 := hvalid M
              rw [HMM.out, List.take_length] at hv9
              have hst9 := HST0.out
              rw [HMM.out, List.take_length] at hst9
              have hto := HTO.out.1
              simp only [Int.toNat_natCast] at hto
              rw [← HTY.out.1] at hto
              have hfk : (fitsB ty y2 && takesB y2 y3) = true := by
                rw [HTO.out.2.2.2, Bool.and_true, HTY.out.1]
                have h9 := HTO.out.2.2.1
                rw [Int.toNat_natCast] at h9
                exact h9
              have e9 : thingO ts cs p k = stepped (stateFrom ty (beginL ty) (ownD cs th ws)) y2 y3 := by
                rw [hto]
                unfold stepO
                rw [if_neg (by rw [hv9]; decide), if_neg (by rw [hfk]; decide)]
              have HRS := Lib.hid (refStep_any hst9 hv9 hfk)
              rw [← e9] at HRS
              obtain ⟨nv, hnv⟩ : ∃ nv, nv = (thingO ts cs p k).2.1 := ⟨_, rfl⟩
              obtain ⟨ev, hev⟩ : ∃ ev, ev = (thingO ts cs p k).2.2 := ⟨_, rfl⟩
              have hmq9 := HMQ.out
              rw [← hnv, ← hev] at hmq9
              unfold RefPost at HRS
              rw [← hnv, ← hev] at HRS
              have hmq10 : mayG b ts cs p k = ((ev == 0 && (y6 == -1 || nv == y4)) && allB r ws k cs.length) := hmq9
              obtain ⟨q0, q1, q2, q3, q4, q6⟩ := HLW.out.cells
              have HNV := Lib.hid hnv
              have HMQX := Lib.hid hmq10
              clear hv9 hst9 hto hfk e9 hnv hev hmq9 hmq10 hvalid hm HST0
              go_wp2_with fail
              refine HRS.out.mono ?_
              rintro e w7 ⟨v7, rfl, -, hb7⟩
              have HLV := Lib.hid (HLW.out.next hb7)
              clear hb7 HRS q0 q1 q2 q3 q4 q6
              have HMQ := HMQX
              clear HMQX HLW
              have HLW := HLV
              clear HLV
              obtain ⟨q0, q1, q2, q3, q4, q6⟩ := HLW.out.cells
              by_cases hev : ev = 0
              · have b1 : (ev == 0) = true := by rw [beq_iff_eq]; exact hev
                by_cases hti : y6 = -1
                · have b2 : (y6 == -1) = true := by rw [beq_iff_eq]; exact hti
                  have HFIT := Lib.hid (show (ev == 0 && (y6 == -1 || nv == y4)) = true by rw [b1, b2]; rfl)
                  clear hev hti
                  go_wp2_with fail
                  clear q0 q1 q2 q3 q4 q6
                  obtain ⟨W7, rfl⟩ : ∃ W7, W7 = wr := ⟨_, rfl⟩
                  go_wp2_with fail
                  go_loopw [18, 95] (fun v t wr => ∃ i : Nat, i ≤ n ∧ t = .int .i64 i ∧ v = .bool (allB r ws k i) ∧ LoK w n r P k y0 (th : Int) y2 y3 y4 y5 y6 wr) (fun _ t _ => n - (intOf t).toNat)
                  case atStart => exact ⟨0, by omega, rfl, by rw [allB_zero], HLW.out⟩
                  case round =>
                    obtain ⟨i, hi, rfl, rfl, hL⟩ := hrel
                    have HLI := Lib.hid hL
                    clear hL
                    by_cases hin : i < n
                    · have j1 : (0 : Int) ≤ (i : Int) := by omega
                      have j2 : (i : Int) < (n : Int) := by omega
                      obtain ⟨W8, hW8⟩ : ∃ W8, W8 = wr.alloc (.cells #[.int .i64 (i : Int)] 3) := ⟨_, rfl⟩
                      have hl8 : LoK w n r P k y0 (th : Int) y2 y3 y4 y5 y6 W8 := by rw [hW8]; exact HLI.out.next ((Below.refl _ _).alloc (Nat.le_refl _) _)
                      have hx8 : Lies W8 wr.heap.size 3 #[.int .i64 (i : Int)] := by rw [hW8]; exact Lies.new _ _ _
                      have HL8 := Lib.hid (And.intro hl8 hx8)
                      clear hl8 hx8
                      go_upto_region 20 with fail
                      rw [← hW8]
                      clear hW8
                      have hR8 := HL8.out.1.lo.rel
                      have c0 := hR8.size
                      obtain ⟨c1, c2, c3, c4, c5, c6, c7, c8, c9, c10, c11, c12⟩ := hR8.rows
                      have p0 := HL8.out.1.cells.1
                      have p1 : W8.cell? ⟨wr.heap.size, 0, none⟩ = some (.int .i64 (i : Int)) := Lies.cell HL8.out.2 0
                      obtain ⟨P8, hP8⟩ : ∃ P8, P8 = wr.heap.size := ⟨_, rfl⟩
                      rw [← hP8] at p1 HL8 ⊢
                      clear hR8 hP8
                      go_wp2_with fail
                      refine (ahead_any n r i k W8 (by omega) (by omega)).mono ?_
                      rintro e w9 ⟨rfl, hb9⟩
                      clear c0 c1 c2 c3 c4 c5 c6 c7 c8 c9 c10 c11 c12 p0 p1
                      have HL9 := Lib.hid (And.intro (HL8.out.1.next hb9) (Lies.below HL8.out.2 hb9 (Lies.lt HL8.out.2)))
                      clear hb9
                      cases hbit : (r i).testBit k
                      · have HAL := Lib.hid (allB_yes (r := r) (ws := ws) (k := k) (m := i) (fun h => by rw [hbit] at h; cases h))
                        go_wp2_with fail
                        go_roundw
                        case rel => exact ⟨i + 1, by omega, by go_num, by rw [HAL.out], HL9.out.1⟩
                        case measure => simp [intOf]; omega
                      · have HC9 := Lib.hid (lcont2_any ((HT.out.2.2.below HL9.out.1.lo.below).mono HL9.out.1.lo.below.size) (show w9.cell? ⟨P8, 0, none⟩ = some (.int .i64 (i : Int)) from Lies.cell HL9.out.2 0) (Lies.lt HL9.out.2))
                        by_cases hmi : (i : Int) ∈ ws.map (·.1)
                        · rw [decide_eq_true hmi] at HC9
                          have HAL := Lib.hid (allB_yes (r := r) (ws := ws) (k := k) (m := i) (fun _ => hmi))
                          clear hmi
                          go_wp2_with fail
                          refine HC9.out.mono ?_
                          rintro e w10 ⟨rfl, hb10⟩
                          have HL10 := Lib.hid (HL9.out.1.next hb10)
                          clear hb10 HC9
                          go_wp2_with fail
                          go_roundw
                          case rel => exact ⟨i + 1, by omega, by go_num, by rw [HAL.out], HL10.out⟩
                          case measure => simp [intOf]; omega
                        · rw [decide_eq_false hmi] at HC9
                          have HAL := Lib.hid (allB_no (r := r) (ws := ws) (k := k) (m := i) hbit hmi)
                          clear hmi
                          go_wp2_with fail
                          refine HC9.out.mono ?_
                          rintro e w10 ⟨rfl, hb10⟩
                          have HL10 := Lib.hid (HL9.out.1.next hb10)
                          clear hb10 HC9
                          go_wp2_with fail
                          go_roundw
                          case rel => exact ⟨i + 1, by omega, by go_num, by rw [HAL.out], HL10.out⟩
                          case measure => simp [intOf]; omega
                    · obtain rfl : n = i := by omega
                      clear hi
                      cases hall : allB r ws k n
                      · have hmf : mayG b ts cs p k = false := by rw [HMQ.out, ← HNN.out, hall, Bool.and_false]
                        have HTR := Lib.hid ((tryG_no hkn hmf).symm.trans HTK.out)
                        clear hmf hall
                        go_wp2_with fail
                        go_roundw
                        case rel => exact ⟨k + 1, by omega, by go_num, HTR.out, HLI.out.lo⟩
                        case measure => simp [intOf]; omega
                      · have HMAY := Lib.hid (show mayG b ts cs p k = true by rw [HMQ.out, ← HNN.out, hall, HFIT.out]; rfl)
                        clear hall
                        go_wp2_with fail
                        have HST := Lib.hid (fun (W : World) (hh : LoK w n r P k y0 (th : Int) y2 y3 y4 y5 y6 W) => show LoS w.heap.size P n r k W from ⟨hh.lo.rel, hh.cells.1⟩)
                        refine wp_region_held_drew (S := LoS w.heap.size P n r k) (by kernel_rfl) (HST.out _ (HLI.out.next (Below.refl _ _).drew)) (fun hHeld => ?_)
                        change wpAnyH _ _ _ _ _ 13 _ _ _
                        clear hHeld
                        have HLD := Lib.hid (HLI.out.next (Below.refl _ _).drew)
                        generalize wr.drew = WD at HLD ⊢
                        have HLT := Lib.hid (show P + 1 < WD.heap.size ∧ w.heap.size < WD.heap.size from ⟨Lies.lt HLD.out.bc, Lies.lt HLD.out.lo.rel⟩)
                        refine takeAt 0 110 (oi := _) (v := ?_) rfl rfl (by kernel_rfl) (by kernel_rfl) (by kernel_rfl) (fun _ _ _ h => h) (by rfl) ?_ (HST.out _ HLD.out) ?_
                        rotate_left
                        · (intro w hSw; obtain ⟨hRl, p1⟩ := hSw; go_simp; try with_reducible rfl)
                        simp only [Act.put, List.setIfInBounds_toArray, List.set_cons_zero, List.set_cons_succ]
                        refine takeAt 1 111 (oi := _) (v := ?_) rfl rfl (by kernel_rfl) (by kernel_rfl) (by kernel_rfl) (fun _ _ _ h => h) (by rfl) ?_ (HST.out _ HLD.out) ?_
                        rotate_left
                        · (intro w hSw; obtain ⟨hRl, p1⟩ := hSw; go_simp; try with_reducible rfl)
                        simp only [Act.put, List.setIfInBounds_toArray, List.set_cons_zero, List.set_cons_succ]
                        refine takeAt 2 112 (oi := _) (v := ?_) rfl rfl (by kernel_rfl) (by kernel_rfl) (by kernel_rfl) (fun _ _ _ h => h) (by rfl) ?_ (HST.out _ HLD.out) ?_
                        rotate_left
                        · (intro w hSw; obtain ⟨hRl, p1⟩ := hSw; have c0 := hRl.size; obtain ⟨c1, c2, c3, c4, c5, c6, c7, c8, c9, c10, c11, c12⟩ := hRl.rows; go_simp; try with_reducible rfl)
                        simp only [Act.put, List.setIfInBounds_toArray, List.set_cons_zero, List.set_cons_succ]
                        refine takeAt 4 114 (oi := _) (v := ?_) rfl rfl (by kernel_rfl) (by kernel_rfl) (by kernel_rfl) (fun _ _ _ h => h) (by rfl) ?_ (HST.out _ HLD.out) ?_
                        rotate_left
                        · (intro w hSw; obtain ⟨hRl, p1⟩ := hSw; go_simp; try with_reducible rfl)
                        simp only [Act.put, List.setIfInBounds_toArray, List.set_cons_zero, List.set_cons_succ]
                        refine takeAt 6 116 (oi := _) (v := ?_) rfl rfl (by kernel_rfl) (by kernel_rfl) (by kernel_rfl) (fun _ _ _ h => h) (by rfl) ?_ (HST.out _ HLD.out) ?_
                        rotate_left
                        · (intro w hSw; obtain ⟨hRl, p1⟩ := hSw; go_simp; try with_reducible rfl)
                        simp only [Act.put, List.setIfInBounds_toArray, List.set_cons_zero, List.set_cons_succ]
                        refine takeAt 7 117 (oi := _) (v := ?_) rfl rfl (by kernel_rfl) (by kernel_rfl) (by kernel_rfl) (fun _ _ _ h => h) (by rfl) ?_ (HST.out _ HLD.out) ?_
                        rotate_left
                        · (intro w hSw; obtain ⟨hRl, p1⟩ := hSw; go_simp; try with_reducible rfl)
                        simp only [Act.put, List.setIfInBounds_toArray, List.set_cons_zero, List.set_cons_succ]
                        refine takeAt 8 118 (oi := _) (v := ?_) rfl rfl (by kernel_rfl) (by kernel_rfl) (by kernel_rfl) (fun _ _ _ h => h) (by rfl) ?_ (HST.out _ HLD.out) ?_
                        rotate_left
                        · (intro w hSw; obtain ⟨hRl, p1⟩ := hSw; go_simp; try with_reducible rfl)
                        simp only [Act.put, List.setIfInBounds_toArray, List.set_cons_zero, List.set_cons_succ]
                        refine wpAnyH_ready (rs := [3, 9]) (by kernel_rfl) (by simp) ?_
                        refine AllReadyH.cons (o := _) rfl (fun K hK => ?_) (AllReadyH.cons (o := _) rfl (fun K hK => ?_) AllReadyH.nil)
                        · go_simp
                          obtain ⟨W3, hW3⟩ : ∃ W3, W3 = WD.alloc (.cells #[] 38) := ⟨_, rfl⟩
                          have hk3 : LoK w n r P k y0 (th : Int) y2 y3 y4 y5 y6 W3 := by rw [hW3]; exact HLD.out.next ((Below.refl _ _).alloc (Nat.le_refl _) _)
                          have hs3 : W3.heap.size = WD.heap.size + 1 := by rw [hW3, World.size_alloc]
                          have he3 : TOwn W3 WD.heap.size (.slice (some ⟨WD.heap.size, 0, none⟩) 0 0) [] := by rw [hW3]; exact own_empty WD
                          rw [← hW3]
                          have HK3 := Lib.hid hk3
                          have HE3 := Lib.hid (And.intro he3 hs3)
                          clear hW3 hk3 hs3 he3
                          refine hK.out _ _ (HST.out _ HK3.out) (fun _ => ?_)
                          clear hK K
                          refine wpAnyH_ready (rs := [5, 9]) (by kernel_rfl) (by simp) ?_
                          refine AllReadyH.cons (o := _) rfl (fun K hK => ?_) (AllReadyH.cons (o := _) rfl (fun K hK => ?_) AllReadyH.nil)
                          · obtain ⟨v5, w5, hrun5, ho5, hb5⟩ := run_app_sps 34 HE3.out.1 ((HT.out.2.2.below HK3.out.lo.below).mono HK3.out.lo.below.size) (by have := HMM.out; have := HWL.out; simp; omega) (by have := HE3.out.2; omega) (by simp)
                            rw [List.nil_append] at ho5
                            have hk5 : LoK w n r P k y0 (th : Int) y2 y3 y4 y5 y6 w5 := HK3.out.next_own hb5 HLT.out
                            have HRUN5 := Lib.hid hrun5
                            have HK5 := Lib.hid hk5
                            have HO5 := Lib.hid (And.intro ho5 (show WD.heap.size ≤ w5.heap.size by have := hb5.size; have := HE3.out.2; omega))
                            clear hrun5 hk5 ho5 hb5
                            refine step_run_app (by rfl) (.tmp 113) (.tmp 114) _ _ (by rfl) _ _ (by rfl) (by rfl) _ _ HRUN5.out ?_
                            refine hK.out _ _ (HST.out _ HK5.out) (fun _ => ?_)
                            clear hK K
                            refine wpAnyH_ready (rs := [9]) (by kernel_rfl) (by simp) ?_
                            refine AllReadyH.cons (o := _) rfl (fun K hK => ?_) AllReadyH.nil
                            go_simp
                            obtain ⟨w6, hW6⟩ : ∃ w6, w6 = w5.alloc (.cells #[.int .i64 (k : Int), .int .i64 nv] 38) := ⟨_, rfl⟩
                            have hk6 : LoK w n r P k y0 (th : Int) y2 y3 y4 y5 y6 w6 := by rw [hW6]; exact HK5.out.next ((Below.refl _ _).alloc (Nat.le_refl _) _)
                            have hl6 : SRd w6 (w5.heap.size + 1) (.slice (some ⟨w5.heap.size, 0, none⟩) 1 1) [((k : Int), nv)] := by rw [hW6]; exact srd_lies (Lies.new _ _ _)
                            have ho6 : TOwn w6 WD.heap.size v5 ws := by rw [hW6]; exact HO5.out.1.alloc _
                            have hs6 : WD.heap.size ≤ w6.heap.size := by rw [hW6, World.size_alloc]; have := HO5.out.2; omega
                            rw [← hW6]
                            have HK6 := Lib.hid hk6
                            have HO6 := Lib.hid (And.intro ho6 (And.intro hl6 (And.intro hs6 HLT.out)))
                            clear hW6 hk6 hl6 ho6 hs6
                            refine hK.out _ _ (HST.out _ HK6.out) (fun _ => ?_)
                            clear hK K
                            refine wpAnyH_ready (rs := [10]) (by kernel_rfl) (by simp) ?_
                            refine AllReadyH.cons (o := _) rfl (fun K hK => ?_) AllReadyH.nil
                            obtain ⟨v10, w10, hrun10, ho10, hb10⟩ := run_app_sps 34 HO6.out.1 HO6.out.2.1 (by have := HMM.out; have := HWL.out; simp; omega) HO6.out.2.2.1 (by simp)
                            obtain ⟨g10, c10, e10, -, -⟩ := own_block_lo ho10 (by simp)
                            obtain ⟨N10, hN10⟩ : ∃ N10, N10 = (ws ++ [((k : Int), nv)]).length := ⟨_, rfl⟩
                            rw [← hN10] at e10
                            subst e10
                            have hk10 : LoK w n r P k y0 (th : Int) y2 y3 y4 y5 y6 w10 := HK6.out.next_own hb10 HO6.out.2.2.2
                            have HRUN10 := Lib.hid hrun10
                            have HK10 := Lib.hid hk10
                            have HO10 := Lib.hid (TOwn.lowerB (B' := B) ho10 (by have := HOWN.out.1; have := HLT.out.2; omega))
                            clear hN10 hrun10 ho10 hb10 hk10
                            refine step_run_app (by rfl) (.tmp 115) (.tmp 119) _ _ (by rfl) _ _ (by rfl) (by rfl) _ _ HRUN10.out ?_
                            refine hK.out _ _ (HST.out _ HK10.out) (fun _ => ?_)
                            clear hK K
                            have HIH := Lib.hid (HI.out k HKC.out HMAY.out ((HT.out.1.below HK10.out.lo.below).mono HK10.out.lo.below.size) ((HT.out.2.1.below HK10.out.lo.below).mono HK10.out.lo.below.size) (Nat.le_trans HOWN.out.1 HK10.out.lo.below.size) (show TOwn w10 B (.slice (some ⟨g10, 0, none⟩) N10 c10) (ws ++ [((k : Int), (thingO ts cs p k).2.1)]) by rw [← HNV.out]; exact HO10.out))
                            rw [← HNN.out] at HIH
                            refine wpAnyH_ready (rs := [11]) (by kernel_rfl) (by simp) ?_
                            refine AllReadyH.cons (o := _) rfl (fun K hK => ?_) AllReadyH.nil
                            go_simp
                            refine HIH.out.mono ?_
                            rintro e w11 ⟨hb11, ⟨hgo, rfl⟩ | ⟨S, a, N, c, hgo, rfl, hS⟩⟩
                            · have HK11 := Lib.hid (HK10.out.next hb11)
                              have HGO := Lib.hid hgo
                              clear hb11 HIH hgo
                              refine hK.out _ _ (HST.out _ HK11.out) (fun _ => ?_)
                              clear hK K
                              refine takeAt 12 20 (oi := _) (v := ?_) rfl rfl (by kernel_rfl) (by kernel_rfl) (by kernel_rfl) (fun _ _ _ h => h) (by rfl) ?_ (HST.out _ HK11.out) ?_
                              rotate_left
                              · (intro w hSw; obtain ⟨hRl, p1⟩ := hSw; go_simp; try with_reducible rfl)
                              simp only [Act.put, List.setIfInBounds_toArray]
                              refine wpAnyH_done (by kernel_rfl) ?_ _
                              have hq1 := fun W : World => st_nil_ne W
                              have HTR := Lib.hid (show tryG b go ts cs p (n - (k + 1)) (k + 1) = R by
                                have h9 := HTK.out
                                rw [tryG_yes hkn HMAY.out, HGO.out] at h9
                                exact h9)
                              go_wp2_with fail
                              go_roundw
                              case rel => exact ⟨k + 1, by omega, by go_num, HTR.out, HK11.out.lo⟩
                              case measure => simp [intOf]; omega
                            · have HK11 := Lib.hid (HK10.out.next hb11)
                              have HGO := Lib.hid (And.intro hgo hS)
                              clear hb11 HIH hgo hS
                              refine hK.out _ _ (HST.out _ HK11.out) (fun _ => ?_)
                              clear hK K
                              refine takeAt 12 20 (oi := _) (v := ?_) rfl rfl (by kernel_rfl) (by kernel_rfl) (by kernel_rfl) (fun _ _ _ h => h) (by rfl) ?_ (HST.out _ HK11.out) ?_
                              rotate_left
                              · (intro w hSw; obtain ⟨hRl, p1⟩ := hSw; go_simp; try with_reducible rfl)
                              simp only [Act.put, List.setIfInBounds_toArray]
                              refine wpAnyH_done (by kernel_rfl) ?_ _
                              have hq2 := fun (W : World) => st_some_ne a N c W
                              go_wp2_with fail
                              go_ret
                              refine ⟨HK11.out.lo.below, .inr ⟨(k, nv) :: S, a, N, c, ?_, rfl, ?_⟩⟩
                              · rw [HR0.out]
                                have h9 := HTK.out
                                rw [tryG_yes hkn HMAY.out, HGO.out.1] at h9
                                rw [← h9, HNV.out]
                              · rw [asSteps_cons]
                                have h9 := HGO.out.2
                                rw [List.append_assoc, ← HNV.out] at h9
                                exact h9
                          · go_simp
                            obtain ⟨W5, hW5⟩ : ∃ W5, W5 = W3.alloc (.cells #[.int .i64 (k : Int), .int .i64 nv] 38) := ⟨_, rfl⟩
                            have hk5 : LoK w n r P k y0 (th : Int) y2 y3 y4 y5 y6 W5 := by rw [hW5]; exact HK3.out.next ((Below.refl _ _).alloc (Nat.le_refl _) _)
                            have hl5 : Lies W5 W3.heap.size 38 #[.int .i64 (k : Int), .int .i64 nv] := by rw [hW5]; exact Lies.new _ _ _
                            have he5 : TOwn W5 WD.heap.size (.slice (some ⟨WD.heap.size, 0, none⟩) 0 0) [] := by rw [hW5]; exact HE3.out.1.alloc _
                            have hs5 : WD.heap.size ≤ W5.heap.size := by rw [hW5, World.size_alloc]; have := HE3.out.2; omega
                            rw [← hW5]
                            have HK5 := Lib.hid hk5
                            have HE5 := Lib.hid (And.intro he5 (And.intro hs5 (And.intro hl5 (show some W3.heap.size ≠ (Value.slice (some ⟨WD.heap.size, 0, none⟩) 0 0).ownBlock by simp [Value.ownBlock]; have := HE3.out.2; omega))))
                            clear hW5 hk5 hl5 he5 hs5
                            refine hK.out _ _ (HST.out _ HK5.out) (fun _ => ?_)
                            clear hK K
                            refine wpAnyH_ready (rs := [5]) (by kernel_rfl) (by simp) ?_
                            refine AllReadyH.cons (o := _) rfl (fun K hK => ?_) AllReadyH.nil
                            obtain ⟨v5, w6, hrun6, ho6, hb6, hg6⟩ := run_app_spsG 34 HE5.out.1 ((HT.out.2.2.below HK5.out.lo.below).mono HK5.out.lo.below.size) (by have := HMM.out; have := HWL.out; simp; omega) HE5.out.2.1 (by simp)
                            rw [List.nil_append] at ho6
                            have hk6 : LoK w n r P k y0 (th : Int) y2 y3 y4 y5 y6 w6 := HK5.out.next_own hb6 HLT.out
                            have hl6 := srd_lies (HE5.out.2.2.1.grownS hg6 HE5.out.2.2.2)
                            have HRUN6 := Lib.hid hrun6
                            have HK6 := Lib.hid hk6
                            have HO6 := Lib.hid (And.intro ho6 (And.intro hl6 (And.intro (Nat.le_trans HE5.out.2.1 hb6.size) HLT.out)))
                            clear hrun6 ho6 hb6 hg6 hk6 hl6
                            refine step_run_app (by rfl) (.tmp 113) (.tmp 114) _ _ (by rfl) _ _ (by rfl) (by rfl) _ _ HRUN6.out ?_
                            refine hK.out _ _ (HST.out _ HK6.out) (fun _ => ?_)
                            clear hK K
                            refine wpAnyH_ready (rs := [10]) (by kernel_rfl) (by simp) ?_
                            refine AllReadyH.cons (o := _) rfl (fun K hK => ?_) AllReadyH.nil
                            obtain ⟨v10, w10, hrun10, ho10, hb10⟩ := run_app_sps 34 HO6.out.1 HO6.out.2.1 (by have := HMM.out; have := HWL.out; simp; omega) HO6.out.2.2.1 (by simp)
                            obtain ⟨g10, c10, e10, -, -⟩ := own_block_lo ho10 (by simp)
                            obtain ⟨N10, hN10⟩ : ∃ N10, N10 = (ws ++ [((k : Int), nv)]).length := ⟨_, rfl⟩
                            rw [← hN10] at e10
                            subst e10
                            have hk10 : LoK w n r P k y0 (th : Int) y2 y3 y4 y5 y6 w10 := HK6.out.next_own hb10 HO6.out.2.2.2
                            have HRUN10 := Lib.hid hrun10
                            have HK10 := Lib.hid hk10
                            have HO10 := Lib.hid (TOwn.lowerB (B' := B) ho10 (by have := HOWN.out.1; have := HLT.out.2; omega))
                            clear hN10 hrun10 ho10 hb10 hk10
                            refine step_run_app (by rfl) (.tmp 115) (.tmp 119) _ _ (by rfl) _ _ (by rfl) (by rfl) _ _ HRUN10.out ?_
                            refine hK.out _ _ (HST.out _ HK10.out) (fun _ => ?_)
                            clear hK K
                            have HIH := Lib.hid (HI.out k HKC.out HMAY.out ((HT.out.1.below HK10.out.lo.below).mono HK10.out.lo.below.size) ((HT.out.2.1.below HK10.out.lo.below).mono HK10.out.lo.below.size) (Nat.le_trans HOWN.out.1 HK10.out.lo.below.size) (show TOwn w10 B (.slice (some ⟨g10, 0, none⟩) N10 c10) (ws ++ [((k : Int), (thingO ts cs p k).2.1)]) by rw [← HNV.out]; exact HO10.out))
                            rw [← HNN.out] at HIH
                            refine wpAnyH_ready (rs := [11]) (by kernel_rfl) (by simp) ?_
                            refine AllReadyH.cons (o := _) rfl (fun K hK => ?_) AllReadyH.nil
                            go_simp
                            refine HIH.out.mono ?_
                            rintro e w11 ⟨hb11, ⟨hgo, rfl⟩ | ⟨S, a, N, c, hgo, rfl, hS⟩⟩
                            · have HK11 := Lib.hid (HK10.out.next hb11)
                              have HGO := Lib.hid hgo
                              clear hb11 HIH hgo
                              refine hK.out _ _ (HST.out _ HK11.out) (fun _ => ?_)
                              clear hK K
                              refine takeAt 12 20 (oi := _) (v := ?_) rfl rfl (by kernel_rfl) (by kernel_rfl) (by kernel_rfl) (fun _ _ _ h => h) (by rfl) ?_ (HST.out _ HK11.out) ?_
                              rotate_left
                              · (intro w hSw; obtain ⟨hRl, p1⟩ := hSw; go_simp; try with_reducible rfl)
                              simp only [Act.put, List.setIfInBounds_toArray]
                              refine wpAnyH_done (by kernel_rfl) ?_ _
                              have hq1 := fun W : World => st_nil_ne W
                              have HTR := Lib.hid (show tryG b go ts cs p (n - (k + 1)) (k + 1) = R by
                                have h9 := HTK.out
                                rw [tryG_yes hkn HMAY.out, HGO.out] at h9
                                exact h9)
                              go_wp2_with fail
                              go_roundw
                              case rel => exact ⟨k + 1, by omega, by go_num, HTR.out, HK11.out.lo⟩
                              case measure => simp [intOf]; omega
                            · have HK11 := Lib.hid (HK10.out.next hb11)
                              have HGO := Lib.hid (And.intro hgo hS)
                              clear hb11 HIH hgo hS
                              refine hK.out _ _ (HST.out _ HK11.out) (fun _ => ?_)
                              clear hK K
                              refine takeAt 12 20 (oi := _) (v := ?_) rfl rfl (by kernel_rfl) (by kernel_rfl) (by kernel_rfl) (fun _ _ _ h => h) (by rfl) ?_ (HST.out _ HK11.out) ?_
                              rotate_left
                              · (intro w hSw; obtain ⟨hRl, p1⟩ := hSw; go_simp; try with_reducible rfl)
                              simp only [Act.put, List.setIfInBounds_toArray]
                              refine wpAnyH_done (by kernel_rfl) ?_ _
                              have hq2 := fun (W : World) => st_some_ne a N c W
                              go_wp2_with fail
                              go_ret
                              refine ⟨HK11.out.lo.below, .inr ⟨(k, nv) :: S, a, N, c, ?_, rfl, ?_⟩⟩
                              · rw [HR0.out]
                                have h9 := HTK.out
                                rw [tryG_yes hkn HMAY.out, HGO.out.1] at h9
                                rw [← h9, HNV.out]
                              · rw [asSteps_cons]
                                have h9 := HGO.out.2
                                rw [List.append_assoc, ← HNV.out] at h9
                                exact h9
                        · go_simp
                          obtain ⟨W3, hW3⟩ : ∃ W3, W3 = WD.alloc (.cells #[.int .i64 (k : Int), .int .i64 nv] 38) := ⟨_, rfl⟩
                          have hk3 : LoK w n r P k y0 (th : Int) y2 y3 y4 y5 y6 W3 := by rw [hW3]; exact HLD.out.next ((Below.refl _ _).alloc (Nat.le_refl _) _)
                          have hs3 : W3.heap.size = WD.heap.size + 1 := by rw [hW3, World.size_alloc]
                          have hl3 : Lies W3 WD.heap.size 38 #[.int .i64 (k : Int), .int .i64 nv] := by rw [hW3]; exact Lies.new _ _ _
                          rw [← hW3]
                          have HK3 := Lib.hid hk3
                          have HE3 := Lib.hid (And.intro hl3 hs3)
                          clear hW3 hk3 hs3 hl3
                          refine hK.out _ _ (HST.out _ HK3.out) (fun _ => ?_)
                          clear hK K
                          refine wpAnyH_ready (rs := [3]) (by kernel_rfl) (by simp) ?_
                          refine AllReadyH.cons (o := _) rfl (fun K hK => ?_) AllReadyH.nil
                          go_simp
                          obtain ⟨W5, hW5⟩ : ∃ W5, W5 = W3.alloc (.cells #[] 38) := ⟨_, rfl⟩
                          have hk5 : LoK w n r P k y0 (th : Int) y2 y3 y4 y5 y6 W5 := by rw [hW5]; exact HK3.out.next ((Below.refl _ _).alloc (Nat.le_refl _) _)
                          have hl5 : Lies W5 WD.heap.size 38 #[.int .i64 (k : Int), .int .i64 nv] := by rw [hW5]; exact Lies.alloc HE3.out.1 _
                          have he5 : TOwn W5 W3.heap.size (.slice (some ⟨W3.heap.size, 0, none⟩) 0 0) [] := by rw [hW5]; exact own_empty W3
                          have hs5 : W3.heap.size ≤ W5.heap.size := by rw [hW5, World.size_alloc]; omega
                          rw [← hW5]
                          have HK5 := Lib.hid hk5
                          have HLT2 := Lib.hid (show P + 1 < W3.heap.size ∧ w.heap.size < W3.heap.size by have h1 := HLT.out.1; have h2 := HLT.out.2; have := HE3.out.2; exact ⟨by omega, by omega⟩)
                          have HE5 := Lib.hid (And.intro he5 (And.intro hs5 (And.intro hl5 (show some WD.heap.size ≠ (Value.slice (some ⟨W3.heap.size, 0, none⟩) 0 0).ownBlock by simp [Value.ownBlock]; have := HE3.out.2; omega))))
                          clear hW5 hk5 hl5 he5 hs5
                          refine hK.out _ _ (HST.out _ HK5.out) (fun _ => ?_)
                          clear hK K
                          refine wpAnyH_ready (rs := [5]) (by kernel_rfl) (by simp) ?_
                          refine AllReadyH.cons (o := _) rfl (fun K hK => ?_) AllReadyH.nil
                          obtain ⟨v5, w6, hrun6, ho6, hb6, hg6⟩ := run_app_spsG 34 HE5.out.1 ((HT.out.2.2.below HK5.out.lo.below).mono HK5.out.lo.below.size) (by have := HMM.out; have := HWL.out; simp; omega) HE5.out.2.1 (by simp)
                          rw [List.nil_append] at ho6
                          have hk6 : LoK w n r P k y0 (th : Int) y2 y3 y4 y5 y6 w6 := HK5.out.next_own hb6 HLT2.out
                          have hl6 := srd_lies (HE5.out.2.2.1.grownS hg6 HE5.out.2.2.2)
                          have HRUN6 := Lib.hid hrun6
                          have HK6 := Lib.hid hk6
                          have HO6 := Lib.hid (And.intro ho6 (And.intro hl6 (And.intro (Nat.le_trans HE5.out.2.1 hb6.size) HLT2.out)))
                          clear hrun6 ho6 hb6 hg6 hk6 hl6
                          refine step_run_app (by rfl) (.tmp 113) (.tmp 114) _ _ (by rfl) _ _ (by rfl) (by rfl) _ _ HRUN6.out ?_
                          refine hK.out _ _ (HST.out _ HK6.out) (fun _ => ?_)
                          clear hK K
                          refine wpAnyH_ready (rs := [10]) (by kernel_rfl) (by simp) ?_
                          refine AllReadyH.cons (o := _) rfl (fun K hK => ?_) AllReadyH.nil
                          obtain ⟨v10, w10, hrun10, ho10, hb10⟩ := run_app_sps 34 HO6.out.1 HO6.out.2.1 (by have := HMM.out; have := HWL.out; simp; omega) HO6.out.2.2.1 (by simp)
                          obtain ⟨g10, c10, e10, -, -⟩ := own_block_lo ho10 (by simp)
                          obtain ⟨N10, hN10⟩ : ∃ N10, N10 = (ws ++ [((k : Int), nv)]).length := ⟨_, rfl⟩
                          rw [← hN10] at e10
                          subst e10
                          have hk10 : LoK w n r P k y0 (th : Int) y2 y3 y4 y5 y6 w10 := HK6.out.next_own hb10 HO6.out.2.2.2
                          have HRUN10 := Lib.hid hrun10
                          have HK10 := Lib.hid hk10
                          have HO10 := Lib.hid (TOwn.lowerB (B' := B) ho10 (by have := HOWN.out.1; have := HLT2.out.2; omega))
                          clear hN10 hrun10 ho10 hb10 hk10
                          refine step_run_app (by rfl) (.tmp 115) (.tmp 119) _ _ (by rfl) _ _ (by rfl) (by rfl) _ _ HRUN10.out ?_
                          refine hK.out _ _ (HST.out _ HK10.out) (fun _ => ?_)
                          clear hK K
                          have HIH := Lib.hid (HI.out k HKC.out HMAY.out ((HT.out.1.below HK10.out.lo.below).mono HK10.out.lo.below.size) ((HT.out.2.1.below HK10.out.lo.below).mono HK10.out.lo.below.size) (Nat.le_trans HOWN.out.1 HK10.out.lo.below.size) (show TOwn w10 B (.slice (some ⟨g10, 0, none⟩) N10 c10) (ws ++ [((k : Int), (thingO ts cs p k).2.1)]) by rw [← HNV.out]; exact HO10.out))
                          rw [← HNN.out] at HIH
                          refine wpAnyH_ready (rs := [11]) (by kernel_rfl) (by simp) ?_
                          refine AllReadyH.cons (o := _) rfl (fun K hK => ?_) AllReadyH.nil
                          go_simp
                          refine HIH.out.mono ?_
                          rintro e w11 ⟨hb11, ⟨hgo, rfl⟩ | ⟨S, a, N, c, hgo, rfl, hS⟩⟩
                          · have HK11 := Lib.hid (HK10.out.next hb11)
                            have HGO := Lib.hid hgo
                            clear hb11 HIH hgo
                            refine hK.out _ _ (HST.out _ HK11.out) (fun _ => ?_)
                            clear hK K
                            refine takeAt 12 20 (oi := _) (v := ?_) rfl rfl (by kernel_rfl) (by kernel_rfl) (by kernel_rfl) (fun _ _ _ h => h) (by rfl) ?_ (HST.out _ HK11.out) ?_
                            rotate_left
                            · (intro w hSw; obtain ⟨hRl, p1⟩ := hSw; go_simp; try with_reducible rfl)
                            simp only [Act.put, List.setIfInBounds_toArray]
                            refine wpAnyH_done (by kernel_rfl) ?_ _
                            have hq1 := fun W : World => st_nil_ne W
                            have HTR := Lib.hid (show tryG b go ts cs p (n - (k + 1)) (k + 1) = R by
                              have h9 := HTK.out
                              rw [tryG_yes hkn HMAY.out, HGO.out] at h9
                              exact h9)
                            go_wp2_with fail
                            go_roundw
                            case rel => exact ⟨k + 1, by omega, by go_num, HTR.out, HK11.out.lo⟩
                            case measure => simp [intOf]; omega
                          · have HK11 := Lib.hid (HK10.out.next hb11)
                            have HGO := Lib.hid (And.intro hgo hS)
                            clear hb11 HIH hgo hS
                            refine hK.out _ _ (HST.out _ HK11.out) (fun _ => ?_)
                            clear hK K
                            refine takeAt 12 20 (oi := _) (v := ?_) rfl rfl (by kernel_rfl) (by kernel_rfl) (by kernel_rfl) (fun _ _ _ h => h) (by rfl) ?_ (HST.out _ HK11.out) ?_
                            rotate_left
                            · (intro w hSw; obtain ⟨hRl, p1⟩ := hSw; go_simp; try with_reducible rfl)
                            simp only [Act.put, List.setIfInBounds_toArray]
                            refine wpAnyH_done (by kernel_rfl) ?_ _
                            have hq2 := fun (W : World) => st_some_ne a N c W
                            go_wp2_with fail
                            go_ret
                            refine ⟨HK11.out.lo.below, .inr ⟨(k, nv) :: S, a, N, c, ?_, rfl, ?_⟩⟩
                            · rw [HR0.out]
                              have h9 := HTK.out
                              rw [tryG_yes hkn HMAY.out, HGO.out.1] at h9
                              rw [← h9, HNV.out]
                            · rw [asSteps_cons]
                              have h9 := HGO.out.2
                              rw [List.append_assoc, ← HNV.out] at h9
                              exact h9
                · have b2 : (y6 == -1) = false := by rw [beq_eq_false_iff_ne]; exact hti
                  by_cases hre : nv = y4
                  · have b3 : (nv == y4) = true := by rw [beq_iff_eq]; exact hre
                    have HFIT := Lib.hid (show (ev == 0 && (y6 == -1 || nv == y4)) = true by rw [b1, b2, b3]; rfl)
                    clear hev hti hre
                    go_wp2_with fail
                    clear q0 q1 q2 q3 q4 q6
                    obtain ⟨W7, rfl⟩ : ∃ W7, W7 = wr := ⟨_, rfl⟩
                    go_wp2_with fail
                    go_loopw [18, 95] (fun v t wr => ∃ i : Nat, i ≤ n ∧ t = .int .i64 i ∧ v = .bool (allB r ws k i) ∧ LoK w n r P k y0 (th : Int) y2 y3 y4 y5 y6 wr) (fun _ t _ => n - (intOf t).toNat)
                    case atStart => exact ⟨0, by omega, rfl, by rw [allB_zero], HLW.out⟩
                    case round =>
                      obtain ⟨i, hi, rfl, rfl, hL⟩ := hrel
                      have HLI := Lib.hid hL
                      clear hL
                      by_cases hin : i < n
                      · have j1 : (0 : Int) ≤ (i : Int) := by omega
                        have j2 : (i : Int) < (n : Int) := by omega
                        obtain ⟨W8, hW8⟩ : ∃ W8, W8 = wr.alloc (.cells #[.int .i64 (i : Int)] 3) := ⟨_, rfl⟩
                        have hl8 : LoK w n r P k y0 (th : Int) y2 y3 y4 y5 y6 W8 := by rw [hW8]; exact HLI.out.next ((Below.refl _ _).alloc (Nat.le_refl _) _)
                        have hx8 : Lies W8 wr.heap.size 3 #[.int .i64 (i : Int)] := by rw [hW8]; exact Lies.new _ _ _
                        have HL8 := Lib.hid (And.intro hl8 hx8)
                        clear hl8 hx8
                        go_upto_region 20 with fail
                        rw [← hW8]
                        clear hW8
                        have hR8 := HL8.out.1.lo.rel
                        have c0 := hR8.size
                        obtain ⟨c1, c2, c3, c4, c5, c6, c7, c8, c9, c10, c11, c12⟩ := hR8.rows
                        have p0 := HL8.out.1.cells.1
                        have p1 : W8.cell? ⟨wr.heap.size, 0, none⟩ = some (.int .i64 (i : Int)) := Lies.cell HL8.out.2 0
                        obtain ⟨P8, hP8⟩ : ∃ P8, P8 = wr.heap.size := ⟨_, rfl⟩
                        rw [← hP8] at p1 HL8 ⊢
                        clear hR8 hP8
                        go_wp2_with fail
                        refine (ahead_any n r i k W8 (by omega) (by omega)).mono ?_
                        rintro e w9 ⟨rfl, hb9⟩
                        clear c0 c1 c2 c3 c4 c5 c6 c7 c8 c9 c10 c11 c12 p0 p1
                        have HL9 := Lib.hid (And.intro (HL8.out.1.next hb9) (Lies.below HL8.out.2 hb9 (Lies.lt HL8.out.2)))
                        clear hb9
                        cases hbit : (r i).testBit k
                        · have HAL := Lib.hid (allB_yes (r := r) (ws := ws) (k := k) (m := i) (fun h => by rw [hbit] at h; cases h))
                          go_wp2_with fail
                          go_roundw
                          case rel => exact ⟨i + 1, by omega, by go_num, by rw [HAL.out], HL9.out.1⟩
                          case measure => simp [intOf]; omega
                        · have HC9 := Lib.hid (lcont2_any ((HT.out.2.2.below HL9.out.1.lo.below).mono HL9.out.1.lo.below.size) (show w9.cell? ⟨P8, 0, none⟩ = some (.int .i64 (i : Int)) from Lies.cell HL9.out.2 0) (Lies.lt HL9.out.2))
                          by_cases hmi : (i : Int) ∈ ws.map (·.1)
                          · rw [decide_eq_true hmi] at HC9
                            have HAL := Lib.hid (allB_yes (r := r) (ws := ws) (k := k) (m := i) (fun _ => hmi))
                            clear hmi
                            go_wp2_with fail
                            refine HC9.out.mono ?_
                            rintro e w10 ⟨rfl, hb10⟩
                            have HL10 := Lib.hid (HL9.out.1.next hb10)
                            clear hb10 HC9
                            go_wp2_with fail
                            go_roundw
                            case rel => exact ⟨i + 1, by omega, by go_num, by rw [HAL.out], HL10.out⟩
                            case measure => simp [intOf]; omega
                          · rw [decide_eq_false hmi] at HC9
                            have HAL := Lib.hid (allB_no (r := r) (ws := ws) (k := k) (m := i) hbit hmi)
                            clear hmi
                            go_wp2_with fail
                            refine HC9.out.mono ?_
                            rintro e w10 ⟨rfl, hb10⟩
                            have HL10 := Lib.hid (HL9.out.1.next hb10)
                            clear hb10 HC9
                            go_wp2_with fail
                            go_roundw
                            case rel => exact ⟨i + 1, by omega, by go_num, by rw [HAL.out], HL10.out⟩
                            case measure => simp [intOf]; omega
                      · obtain rfl : n = i := by omega
                        clear hi
                        cases hall : allB r ws k n
                        · have hmf : mayG b ts cs p k = false := by rw [HMQ.out, ← HNN.out, hall, Bool.and_false]
                          have HTR := Lib.hid ((tryG_no hkn hmf).symm.trans HTK.out)
                          clear hmf hall
                          go_wp2_with fail
                          go_roundw
                          case rel => exact ⟨k + 1, by omega, by go_num, HTR.out, HLI.out.lo⟩
                          case measure => simp [intOf]; omega
                        · have HMAY := Lib.hid (show mayG b ts cs p k = true by rw [HMQ.out, ← HNN.out, hall, HFIT.out]; rfl)
                          clear hall
                          go_wp2_with fail
                          have HST := Lib.hid (fun (W : World) (hh : LoK w n r P k y0 (th : Int) y2 y3 y4 y5 y6 W) => show LoS w.heap.size P n r k W from ⟨hh.lo.rel, hh.cells.1⟩)
                          refine wp_region_held_drew (S := LoS w.heap.size P n r k) (by kernel_rfl) (HST.out _ (HLI.out.next (Below.refl _ _).drew)) (fun hHeld => ?_)
                          change wpAnyH _ _ _ _ _ 13 _ _ _
                          clear hHeld
                          have HLD := Lib.hid (HLI.out.next (Below.refl _ _).drew)
                          generalize wr.drew = WD at HLD ⊢
                          have HLT := Lib.hid (show P + 1 < WD.heap.size ∧ w.heap.size < WD.heap.size from ⟨Lies.lt HLD.out.bc, Lies.lt HLD.out.lo.rel⟩)
                          refine takeAt 0 110 (oi := _) (v := ?_) rfl rfl (by kernel_rfl) (by kernel_rfl) (by kernel_rfl) (fun _ _ _ h => h) (by rfl) ?_ (HST.out _ HLD.out) ?_
                          rotate_left
                          · (intro w hSw; obtain ⟨hRl, p1⟩ := hSw; go_simp; try with_reducible rfl)
                          simp only [Act.put, List.setIfInBounds_toArray, List.set_cons_zero, List.set_cons_succ]
                          refine takeAt 1 111 (oi := _) (v := ?_) rfl rfl (by kernel_rfl) (by kernel_rfl) (by kernel_rfl) (fun _ _ _ h => h) (by rfl) ?_ (HST.out _ HLD.out) ?_
                          rotate_left
                          · (intro w hSw; obtain ⟨hRl, p1⟩ := hSw; go_simp; try with_reducible rfl)
                          simp only [Act.put, List.setIfInBounds_toArray, List.set_cons_zero, List.set_cons_succ]
                          refine takeAt 2 112 (oi := _) (v := ?_) rfl rfl (by kernel_rfl) (by kernel_rfl) (by kernel_rfl) (fun _ _ _ h => h) (by rfl) ?_ (HST.out _ HLD.out) ?_
                          rotate_left
                          · (intro w hSw; obtain ⟨hRl, p1⟩ := hSw; have c0 := hRl.size; obtain ⟨c1, c2, c3, c4, c5, c6, c7, c8, c9, c10, c11, c12⟩ := hRl.rows; go_simp; try with_reducible rfl)
                          simp only [Act.put, List.setIfInBounds_toArray, List.set_cons_zero, List.set_cons_succ]
                          refine takeAt 4 114 (oi := _) (v := ?_) rfl rfl (by kernel_rfl) (by kernel_rfl) (by kernel_rfl) (fun _ _ _ h => h) (by rfl) ?_ (HST.out _ HLD.out) ?_
                          rotate_left
                          · (intro w hSw; obtain ⟨hRl, p1⟩ := hSw; go_simp; try with_reducible rfl)
                          simp only [Act.put, List.setIfInBounds_toArray, List.set_cons_zero, List.set_cons_succ]
                          refine takeAt 6 116 (oi := _) (v := ?_) rfl rfl (by kernel_rfl) (by kernel_rfl) (by kernel_rfl) (fun _ _ _ h => h) (by rfl) ?_ (HST.out _ HLD.out) ?_
                          rotate_left
                          · (intro w hSw; obtain ⟨hRl, p1⟩ := hSw; go_simp; try with_reducible rfl)
                          simp only [Act.put, List.setIfInBounds_toArray, List.set_cons_zero, List.set_cons_succ]
                          refine takeAt 7 117 (oi := _) (v := ?_) rfl rfl (by kernel_rfl) (by kernel_rfl) (by kernel_rfl) (fun _ _ _ h => h) (by rfl) ?_ (HST.out _ HLD.out) ?_
                          rotate_left
                          · (intro w hSw; obtain ⟨hRl, p1⟩ := hSw; go_simp; try with_reducible rfl)
                          simp only [Act.put, List.setIfInBounds_toArray, List.set_cons_zero, List.set_cons_succ]
                          refine takeAt 8 118 (oi := _) (v := ?_) rfl rfl (by kernel_rfl) (by kernel_rfl) (by kernel_rfl) (fun _ _ _ h => h) (by rfl) ?_ (HST.out _ HLD.out) ?_
                          rotate_left
                          · (intro w hSw; obtain ⟨hRl, p1⟩ := hSw; go_simp; try with_reducible rfl)
                          simp only [Act.put, List.setIfInBounds_toArray, List.set_cons_zero, List.set_cons_succ]
                          refine wpAnyH_ready (rs := [3, 9]) (by kernel_rfl) (by simp) ?_
                          refine AllReadyH.cons (o := _) rfl (fun K hK => ?_) (AllReadyH.cons (o := _) rfl (fun K hK => ?_) AllReadyH.nil)
                          · go_simp
                            obtain ⟨W3, hW3⟩ : ∃ W3, W3 = WD.alloc (.cells #[] 38) := ⟨_, rfl⟩
                            have hk3 : LoK w n r P k y0 (th : Int) y2 y3 y4 y5 y6 W3 := by rw [hW3]; exact HLD.out.next ((Below.refl _ _).alloc (Nat.le_refl _) _)
                            have hs3 : W3.heap.size = WD.heap.size + 1 := by rw [hW3, World.size_alloc]
                            have he3 : TOwn W3 WD.heap.size (.slice (some ⟨WD.heap.size, 0, none⟩) 0 0) [] := by rw [hW3]; exact own_empty WD
                            rw [← hW3]
                            have HK3 := Lib.hid hk3
                            have HE3 := Lib.hid (And.intro he3 hs3)
                            clear hW3 hk3 hs3 he3
                            refine hK.out _ _ (HST.out _ HK3.out) (fun _ => ?_)
                            clear hK K
                            refine wpAnyH_ready (rs := [5, 9]) (by kernel_rfl) (by simp) ?_
                            refine AllReadyH.cons (o := _) rfl (fun K hK => ?_) (AllReadyH.cons (o := _) rfl (fun K hK => ?_) AllReadyH.nil)
                            · obtain ⟨v5, w5, hrun5, ho5, hb5⟩ := run_app_sps 34 HE3.out.1 ((HT.out.2.2.below HK3.out.lo.below).mono HK3.out.lo.below.size) (by have := HMM.out; have := HWL.out; simp; omega) (by have := HE3.out.2; omega) (by simp)
                              rw [List.nil_append] at ho5
                              have hk5 : LoK w n r P k y0 (th : Int) y2 y3 y4 y5 y6 w5 := HK3.out.next_own hb5 HLT.out
                              have HRUN5 := Lib.hid hrun5
                              have HK5 := Lib.hid hk5
                              have HO5 := Lib.hid (And.intro ho5 (show WD.heap.size ≤ w5.heap.size by have := hb5.size; have := HE3.out.2; omega))
                              clear hrun5 hk5 ho5 hb5
                              refine step_run_app (by rfl) (.tmp 113) (.tmp 114) _ _ (by rfl) _ _ (by rfl) (by rfl) _ _ HRUN5.out ?_
                              refine hK.out _ _ (HST.out _ HK5.out) (fun _ => ?_)
                              clear hK K
                              refine wpAnyH_ready (rs := [9]) (by kernel_rfl) (by simp) ?_
                              refine AllReadyH.cons (o := _) rfl (fun K hK => ?_) AllReadyH.nil
                              go_simp
                              obtain ⟨w6, hW6⟩ : ∃ w6, w6 = w5.alloc (.cells #[.int .i64 (k : Int), .int .i64 nv] 38) := ⟨_, rfl⟩
                              have hk6 : LoK w n r P k y0 (th : Int) y2 y3 y4 y5 y6 w6 := by rw [hW6]; exact HK5.out.next ((Below.refl _ _).alloc (Nat.le_refl _) _)
                              have hl6 : SRd w6 (w5.heap.size + 1) (.slice (some ⟨w5.heap.size, 0, none⟩) 1 1) [((k : Int), nv)] := by rw [hW6]; exact srd_lies (Lies.new _ _ _)
                              have ho6 : TOwn w6 WD.heap.size v5 ws := by rw [hW6]; exact HO5.out.1.alloc _
                              have hs6 : WD.heap.size ≤ w6.heap.size := by rw [hW6, World.size_alloc]; have := HO5.out.2; omega
                              rw [← hW6]
                              have HK6 := Lib.hid hk6
                              have HO6 := Lib.hid (And.intro ho6 (And.intro hl6 (And.intro hs6 HLT.out)))
                              clear hW6 hk6 hl6 ho6 hs6
                              refine hK.out _ _ (HST.out _ HK6.out) (fun _ => ?_)
                              clear hK K
                              refine wpAnyH_ready (rs := [10]) (by kernel_rfl) (by simp) ?_
                              refine AllReadyH.cons (o := _) rfl (fun K hK => ?_) AllReadyH.nil
                              obtain ⟨v10, w10, hrun10, ho10, hb10⟩ := run_app_sps 34 HO6.out.1 HO6.out.2.1 (by have := HMM.out; have := HWL.out; simp; omega) HO6.out.2.2.1 (by simp)
                              obtain ⟨g10, c10, e10, -, -⟩ := own_block_lo ho10 (by simp)
                              obtain ⟨N10, hN10⟩ : ∃ N10, N10 = (ws ++ [((k : Int), nv)]).length := ⟨_, rfl⟩
                              rw [← hN10] at e10
                              subst e10
                              have hk10 : LoK w n r P k y0 (th : Int) y2 y3 y4 y5 y6 w10 := HK6.out.next_own hb10 HO6.out.2.2.2
                              have HRUN10 := Lib.hid hrun10
                              have HK10 := Lib.hid hk10
                              have HO10 := Lib.hid (TOwn.lowerB (B' := B) ho10 (by have := HOWN.out.1; have := HLT.out.2; omega))
                              clear hN10 hrun10 ho10 hb10 hk10
                              refine step_run_app (by rfl) (.tmp 115) (.tmp 119) _ _ (by rfl) _ _ (by rfl) (by rfl) _ _ HRUN10.out ?_
                              refine hK.out _ _ (HST.out _ HK10.out) (fun _ => ?_)
                              clear hK K
                              have HIH := Lib.hid (HI.out k HKC.out HMAY.out ((HT.out.1.below HK10.out.lo.below).mono HK10.out.lo.below.size) ((HT.out.2.1.below HK10.out.lo.below).mono HK10.out.lo.below.size) (Nat.le_trans HOWN.out.1 HK10.out.lo.below.size) (show TOwn w10 B (.slice (some ⟨g10, 0, none⟩) N10 c10) (ws ++ [((k : Int), (thingO ts cs p k).2.1)]) by rw [← HNV.out]; exact HO10.out))
                              rw [← HNN.out] at HIH
                              refine wpAnyH_ready (rs := [11]) (by kernel_rfl) (by simp) ?_
                              refine AllReadyH.cons (o := _) rfl (fun K hK => ?_) AllReadyH.nil
                              go_simp
                              refine HIH.out.mono ?_
                              rintro e w11 ⟨hb11, ⟨hgo, rfl⟩ | ⟨S, a, N, c, hgo, rfl, hS⟩⟩
                              · have HK11 := Lib.hid (HK10.out.next hb11)
                                have HGO := Lib.hid hgo
                                clear hb11 HIH hgo
                                refine hK.out _ _ (HST.out _ HK11.out) (fun _ => ?_)
                                clear hK K
                                refine takeAt 12 20 (oi := _) (v := ?_) rfl rfl (by kernel_rfl) (by kernel_rfl) (by kernel_rfl) (fun _ _ _ h => h) (by rfl) ?_ (HST.out _ HK11.out) ?_
                                rotate_left
                                · (intro w hSw; obtain ⟨hRl, p1⟩ := hSw; go_simp; try with_reducible rfl)
                                simp only [Act.put, List.setIfInBounds_toArray]
                                refine wpAnyH_done (by kernel_rfl) ?_ _
                                have hq1 := fun W : World => st_nil_ne W
                                have HTR := Lib.hid (show tryG b go ts cs p (n - (k + 1)) (k + 1) = R by
                                  have h9 := HTK.out
                                  rw [tryG_yes hkn HMAY.out, HGO.out] at h9
                                  exact h9)
                                go_wp2_with fail
                                go_roundw
                                case rel => exact ⟨k + 1, by omega, by go_num, HTR.out, HK11.out.lo⟩
                                case measure => simp [intOf]; omega
                              · have HK11 := Lib.hid (HK10.out.next hb11)
                                have HGO := Lib.hid (And.intro hgo hS)
                                clear hb11 HIH hgo hS
                                refine hK.out _ _ (HST.out _ HK11.out) (fun _ => ?_)
                                clear hK K
                                refine takeAt 12 20 (oi := _) (v := ?_) rfl rfl (by kernel_rfl) (by kernel_rfl) (by kernel_rfl) (fun _ _ _ h => h) (by rfl) ?_ (HST.out _ HK11.out) ?_
                                rotate_left
                                · (intro w hSw; obtain ⟨hRl, p1⟩ := hSw; go_simp; try with_reducible rfl)
                                simp only [Act.put, List.setIfInBounds_toArray]
                                refine wpAnyH_done (by kernel_rfl) ?_ _
                                have hq2 := fun (W : World) => st_some_ne a N c W
                                go_wp2_with fail
                                go_ret
                                refine ⟨HK11.out.lo.below, .inr ⟨(k, nv) :: S, a, N, c, ?_, rfl, ?_⟩⟩
                                · rw [HR0.out]
                                  have h9 := HTK.out
                                  rw [tryG_yes hkn HMAY.out, HGO.out.1] at h9
                                  rw [← h9, HNV.out]
                                · rw [asSteps_cons]
                                  have h9 := HGO.out.2
                                  rw [List.append_assoc, ← HNV.out] at h9
                                  exact h9
                            · go_simp
                              obtain ⟨W5, hW5⟩ : ∃ W5, W5 = W3.alloc (.cells #[.int .i64 (k : Int), .int .i64 nv] 38) := ⟨_, rfl⟩
                              have hk5 : LoK w n r P k y0 (th : Int) y2 y3 y4 y5 y6 W5 := by rw [hW5]; exact HK3.out.next ((Below.refl _ _).alloc (Nat.le_refl _) _)
                              have hl5 : Lies W5 W3.heap.size 38 #[.int .i64 (k : Int), .int .i64 nv] := by rw [hW5]; exact Lies.new _ _ _
                              have he5 : TOwn W5 WD.heap.size (.slice (some ⟨WD.heap.size, 0, none⟩) 0 0) [] := by rw [hW5]; exact HE3.out.1.alloc _
                              have hs5 : WD.heap.size ≤ W5.heap.size := by rw [hW5, World.size_alloc]; have := HE3.out.2; omega
                              rw [← hW5]
                              have HK5 := Lib.hid hk5
                              have HE5 := Lib.hid (And.intro he5 (And.intro hs5 (And.intro hl5 (show some W3.heap.size ≠ (Value.slice (some ⟨WD.heap.size, 0, none⟩) 0 0).ownBlock by simp [Value.ownBlock]; have := HE3.out.2; omega))))
                              clear hW5 hk5 hl5 he5 hs5
                              refine hK.out _ _ (HST.out _ HK5.out) (fun _ => ?_)
                              clear hK K
                              refine wpAnyH_ready (rs := [5]) (by kernel_rfl) (by simp) ?_
                              refine AllReadyH.cons (o := _) rfl (fun K hK => ?_) AllReadyH.nil
                              obtain ⟨v5, w6, hrun6, ho6, hb6, hg6⟩ := run_app_spsG 34 HE5.out.1 ((HT.out.2.2.below HK5.out.lo.below).mono HK5.out.lo.below.size) (by have := HMM.out; have := HWL.out; simp; omega) HE5.out.2.1 (by simp)
                              rw [List.nil_append] at ho6
                              have hk6 : LoK w n r P k y0 (th : Int) y2 y3 y4 y5 y6 w6 := HK5.out.next_own hb6 HLT.out
                              have hl6 := srd_lies (HE5.out.2.2.1.grownS hg6 HE5.out.2.2.2)
                              have HRUN6 := Lib.hid hrun6
                              have HK6 := Lib.hid hk6
                              have HO6 := Lib.hid (And.intro ho6 (And.intro hl6 (And.intro (Nat.le_trans HE5.out.2.1 hb6.size) HLT.out)))
                              clear hrun6 ho6 hb6 hg6 hk6 hl6
                              refine step_run_app (by rfl) (.tmp 113) (.tmp 114) _ _ (by rfl) _ _ (by rfl) (by rfl) _ _ HRUN6.out ?_
                              refine hK.out _ _ (HST.out _ HK6.out) (fun _ => ?_)
                              clear hK K
                              refine wpAnyH_ready (rs := [10]) (by kernel_rfl) (by simp) ?_
                              refine AllReadyH.cons (o := _) rfl (fun K hK => ?_) AllReadyH.nil
                              obtain ⟨v10, w10, hrun10, ho10, hb10⟩ := run_app_sps 34 HO6.out.1 HO6.out.2.1 (by have := HMM.out; have := HWL.out; simp; omega) HO6.out.2.2.1 (by simp)
                              obtain ⟨g10, c10, e10, -, -⟩ := own_block_lo ho10 (by simp)
                              obtain ⟨N10, hN10⟩ : ∃ N10, N10 = (ws ++ [((k : Int), nv)]).length := ⟨_, rfl⟩
                              rw [← hN10] at e10
                              subst e10
                              have hk10 : LoK w n r P k y0 (th : Int) y2 y3 y4 y5 y6 w10 := HK6.out.next_own hb10 HO6.out.2.2.2
                              have HRUN10 := Lib.hid hrun10
                              have HK10 := Lib.hid hk10
                              have HO10 := Lib.hid (TOwn.lowerB (B' := B) ho10 (by have := HOWN.out.1; have := HLT.out.2; omega))
                              clear hN10 hrun10 ho10 hb10 hk10
                              refine step_run_app (by rfl) (.tmp 115) (.tmp 119) _ _ (by rfl) _ _ (by rfl) (by rfl) _ _ HRUN10.out ?_
                              refine hK.out _ _ (HST.out _ HK10.out) (fun _ => ?_)
                              clear hK K
                              have HIH := Lib.hid (HI.out k HKC.out HMAY.out ((HT.out.1.below HK10.out.lo.below).mono HK10.out.lo.below.size) ((HT.out.2.1.below HK10.out.lo.below).mono HK10.out.lo.below.size) (Nat.le_trans HOWN.out.1 HK10.out.lo.below.size) (show TOwn w10 B (.slice (some ⟨g10, 0, none⟩) N10 c10) (ws ++ [((k : Int), (thingO ts cs p k).2.1)]) by rw [← HNV.out]; exact HO10.out))
                              rw [← HNN.out] at HIH
                              refine wpAnyH_ready (rs := [11]) (by kernel_rfl) (by simp) ?_
                              refine AllReadyH.cons (o := _) rfl (fun K hK => ?_) AllReadyH.nil
                              go_simp
                              refine HIH.out.mono ?_
                              rintro e w11 ⟨hb11, ⟨hgo, rfl⟩ | ⟨S, a, N, c, hgo, rfl, hS⟩⟩
                              · have HK11 := Lib.hid (HK10.out.next hb11)
                                have HGO := Lib.hid hgo
                                clear hb11 HIH hgo
                                refine hK.out _ _ (HST.out _ HK11.out) (fun _ => ?_)
                                clear hK K
                                refine takeAt 12 20 (oi := _) (v := ?_) rfl rfl (by kernel_rfl) (by kernel_rfl) (by kernel_rfl) (fun _ _ _ h => h) (by rfl) ?_ (HST.out _ HK11.out) ?_
                                rotate_left
                                · (intro w hSw; obtain ⟨hRl, p1⟩ := hSw; go_simp; try with_reducible rfl)
                                simp only [Act.put, List.setIfInBounds_toArray]
                                refine wpAnyH_done (by kernel_rfl) ?_ _
                                have hq1 := fun W : World => st_nil_ne W
                                have HTR := Lib.hid (show tryG b go ts cs p (n - (k + 1)) (k + 1) = R by
                                  have h9 := HTK.out
                                  rw [tryG_yes hkn HMAY.out, HGO.out] at h9
                                  exact h9)
                                go_wp2_with fail
                                go_roundw
                                case rel => exact ⟨k + 1, by omega, by go_num, HTR.out, HK11.out.lo⟩
                                case measure => simp [intOf]; omega
                              · have HK11 := Lib.hid (HK10.out.next hb11)
                                have HGO := Lib.hid (And.intro hgo hS)
                                clear hb11 HIH hgo hS
                                refine hK.out _ _ (HST.out _ HK11.out) (fun _ => ?_)
                                clear hK K
                                refine takeAt 12 20 (oi := _) (v := ?_) rfl rfl (by kernel_rfl) (by kernel_rfl) (by kernel_rfl) (fun _ _ _ h => h) (by rfl) ?_ (HST.out _ HK11.out) ?_
                                rotate_left
                                · (intro w hSw; obtain ⟨hRl, p1⟩ := hSw; go_simp; try with_reducible rfl)
                                simp only [Act.put, List.setIfInBounds_toArray]
                                refine wpAnyH_done (by kernel_rfl) ?_ _
                                have hq2 := fun (W : World) => st_some_ne a N c W
                                go_wp2_with fail
                                go_ret
                                refine ⟨HK11.out.lo.below, .inr ⟨(k, nv) :: S, a, N, c, ?_, rfl, ?_⟩⟩
                                · rw [HR0.out]
                                  have h9 := HTK.out
                                  rw [tryG_yes hkn HMAY.out, HGO.out.1] at h9
                                  rw [← h9, HNV.out]
                                · rw [asSteps_cons]
                                  have h9 := HGO.out.2
                                  rw [List.append_assoc, ← HNV.out] at h9
                                  exact h9
                          · go_simp
                            obtain ⟨W3, hW3⟩ : ∃ W3, W3 = WD.alloc (.cells #[.int .i64 (k : Int), .int .i64 nv] 38) := ⟨_, rfl⟩
                            have hk3 : LoK w n r P k y0 (th : Int) y2 y3 y4 y5 y6 W3 := by rw [hW3]; exact HLD.out.next ((Below.refl _ _).alloc (Nat.le_refl _) _)
                            have hs3 : W3.heap.size = WD.heap.size + 1 := by rw [hW3, World.size_alloc]
                            have hl3 : Lies W3 WD.heap.size 38 #[.int .i64 (k : Int), .int .i64 nv] := by rw [hW3]; exact Lies.new _ _ _
                            rw [← hW3]
                            have HK3 := Lib.hid hk3
                            have HE3 := Lib.hid (And.intro hl3 hs3)
                            clear hW3 hk3 hs3 hl3
                            refine hK.out _ _ (HST.out _ HK3.out) (fun _ => ?_)
                            clear hK K
                            refine wpAnyH_ready (rs := [3]) (by kernel_rfl) (by simp) ?_
                            refine AllReadyH.cons (o := _) rfl (fun K hK => ?_) AllReadyH.nil
                            go_simp
                            obtain ⟨W5, hW5⟩ : ∃ W5, W5 = W3.alloc (.cells #[] 38) := ⟨_, rfl⟩
                            have hk5 : LoK w n r P k y0 (th : Int) y2 y3 y4 y5 y6 W5 := by rw [hW5]; exact HK3.out.next ((Below.refl _ _).alloc (Nat.le_refl _) _)
                            have hl5 : Lies W5 WD.heap.size 38 #[.int .i64 (k : Int), .int .i64 nv] := by rw [hW5]; exact Lies.alloc HE3.out.1 _
                            have he5 : TOwn W5 W3.heap.size (.slice (some ⟨W3.heap.size, 0, none⟩) 0 0) [] := by rw [hW5]; exact own_empty W3
                            have hs5 : W3.heap.size ≤ W5.heap.size := by rw [hW5, World.size_alloc]; omega
                            rw [← hW5]
                            have HK5 := Lib.hid hk5
                            have HLT2 := Lib.hid (show P + 1 < W3.heap.size ∧ w.heap.size < W3.heap.size by have h1 := HLT.out.1; have h2 := HLT.out.2; have := HE3.out.2; exact ⟨by omega, by omega⟩)
                            have HE5 := Lib.hid (And.intro he5 (And.intro hs5 (And.intro hl5 (show some WD.heap.size ≠ (Value.slice (some ⟨W3.heap.size, 0, none⟩) 0 0).ownBlock by simp [Value.ownBlock]; have := HE3.out.2; omega))))
                            clear hW5 hk5 hl5 he5 hs5
                            refine hK.out _ _ (HST.out _ HK5.out) (fun _ => ?_)
                            clear hK K
                            refine wpAnyH_ready (rs := [5]) (by kernel_rfl) (by simp) ?_
                            refine AllReadyH.cons (o := _) rfl (fun K hK => ?_) AllReadyH.nil
                            obtain ⟨v5, w6, hrun6, ho6, hb6, hg6⟩ := run_app_spsG 34 HE5.out.1 ((HT.out.2.2.below HK5.out.lo.below).mono HK5.out.lo.below.size) (by have := HMM.out; have := HWL.out; simp; omega) HE5.out.2.1 (by simp)
                            rw [List.nil_append] at ho6
                            have hk6 : LoK w n r P k y0 (th : Int) y2 y3 y4 y5 y6 w6 := HK5.out.next_own hb6 HLT2.out
                            have hl6 := srd_lies (HE5.out.2.2.1.grownS hg6 HE5.out.2.2.2)
                            have HRUN6 := Lib.hid hrun6
                            have HK6 := Lib.hid hk6
                            have HO6 := Lib.hid (And.intro ho6 (And.intro hl6 (And.intro (Nat.le_trans HE5.out.2.1 hb6.size) HLT2.out)))
                            clear hrun6 ho6 hb6 hg6 hk6 hl6
                            refine step_run_app (by rfl) (.tmp 113) (.tmp 114) _ _ (by rfl) _ _ (by rfl) (by rfl) _ _ HRUN6.out ?_
                            refine hK.out _ _ (HST.out _ HK6.out) (fun _ => ?_)
                            clear hK K
                            refine wpAnyH_ready (rs := [10]) (by kernel_rfl) (by simp) ?_
                            refine AllReadyH.cons (o := _) rfl (fun K hK => ?_) AllReadyH.nil
                            obtain ⟨v10, w10, hrun10, ho10, hb10⟩ := run_app_sps 34 HO6.out.1 HO6.out.2.1 (by have := HMM.out; have := HWL.out; simp; omega) HO6.out.2.2.1 (by simp)
                            obtain ⟨g10, c10, e10, -, -⟩ := own_block_lo ho10 (by simp)
                            obtain ⟨N10, hN10⟩ : ∃ N10, N10 = (ws ++ [((k : Int), nv)]).length := ⟨_, rfl⟩
                            rw [← hN10] at e10
                            subst e10
                            have hk10 : LoK w n r P k y0 (th : Int) y2 y3 y4 y5 y6 w10 := HK6.out.next_own hb10 HO6.out.2.2.2
                            have HRUN10 := Lib.hid hrun10
                            have HK10 := Lib.hid hk10
                            have HO10 := Lib.hid (TOwn.lowerB (B' := B) ho10 (by have := HOWN.out.1; have := HLT2.out.2; omega))
                            clear hN10 hrun10 ho10 hb10 hk10
                            refine step_run_app (by rfl) (.tmp 115) (.tmp 119) _ _ (by rfl) _ _ (by rfl) (by rfl) _ _ HRUN10.out ?_
                            refine hK.out _ _ (HST.out _ HK10.out) (fun _ => ?_)
                            clear hK K
                            have HIH := Lib.hid (HI.out k HKC.out HMAY.out ((HT.out.1.below HK10.out.lo.below).mono HK10.out.lo.below.size) ((HT.out.2.1.below HK10.out.lo.below).mono HK10.out.lo.below.size) (Nat.le_trans HOWN.out.1 HK10.out.lo.below.size) (show TOwn w10 B (.slice (some ⟨g10, 0, none⟩) N10 c10) (ws ++ [((k : Int), (thingO ts cs p k).2.1)]) by rw [← HNV.out]; exact HO10.out))
                            rw [← HNN.out] at HIH
                            refine wpAnyH_ready (rs := [11]) (by kernel_rfl) (by simp) ?_
                            refine AllReadyH.cons (o := _) rfl (fun K hK => ?_) AllReadyH.nil
                            go_simp
                            refine HIH.out.mono ?_
                            rintro e w11 ⟨hb11, ⟨hgo, rfl⟩ | ⟨S, a, N, c, hgo, rfl, hS⟩⟩
                            · have HK11 := Lib.hid (HK10.out.next hb11)
                              have HGO := Lib.hid hgo
                              clear hb11 HIH hgo
                              refine hK.out _ _ (HST.out _ HK11.out) (fun _ => ?_)
                              clear hK K
                              refine takeAt 12 20 (oi := _) (v := ?_) rfl rfl (by kernel_rfl) (by kernel_rfl) (by kernel_rfl) (fun _ _ _ h => h) (by rfl) ?_ (HST.out _ HK11.out) ?_
                              rotate_left
                              · (intro w hSw; obtain ⟨hRl, p1⟩ := hSw; go_simp; try with_reducible rfl)
                              simp only [Act.put, List.setIfInBounds_toArray]
                              refine wpAnyH_done (by kernel_rfl) ?_ _
                              have hq1 := fun W : World => st_nil_ne W
                              have HTR := Lib.hid (show tryG b go ts cs p (n - (k + 1)) (k + 1) = R by
                                have h9 := HTK.out
                                rw [tryG_yes hkn HMAY.out, HGO.out] at h9
                                exact h9)
                              go_wp2_with fail
                              go_roundw
                              case rel => exact ⟨k + 1, by omega, by go_num, HTR.out, HK11.out.lo⟩
                              case measure => simp [intOf]; omega
                            · have HK11 := Lib.hid (HK10.out.next hb11)
                              have HGO := Lib.hid (And.intro hgo hS)
                              clear hb11 HIH hgo hS
                              refine hK.out _ _ (HST.out _ HK11.out) (fun _ => ?_)
                              clear hK K
                              refine takeAt 12 20 (oi := _) (v := ?_) rfl rfl (by kernel_rfl) (by kernel_rfl) (by kernel_rfl) (fun _ _ _ h => h) (by rfl) ?_ (HST.out _ HK11.out) ?_
                              rotate_left
                              · (intro w hSw; obtain ⟨hRl, p1⟩ := hSw; go_simp; try with_reducible rfl)
                              simp only [Act.put, List.setIfInBounds_toArray]
                              refine wpAnyH_done (by kernel_rfl) ?_ _
                              have hq2 := fun (W : World) => st_some_ne a N c W
                              go_wp2_with fail
                              go_ret
                              refine ⟨HK11.out.lo.below, .inr ⟨(k, nv) :: S, a, N, c, ?_, rfl, ?_⟩⟩
                              · rw [HR0.out]
                                have h9 := HTK.out
                                rw [tryG_yes hkn HMAY.out, HGO.out.1] at h9
                                rw [← h9, HNV.out]
                              · rw [asSteps_cons]
                                have h9 := HGO.out.2
                                rw [List.append_assoc, ← HNV.out] at h9
                                exact h9
                  · have b3 : (nv == y4) = false := by rw [beq_eq_false_iff_ne]; exact hre
                    have HFAL := Lib.hid (show mayG b ts cs p k = false by rw [HMQ.out, b1, b2, b3]; rfl)
                    clear hev hti hre
                    go_wp2_with fail
                    clear q0 q1 q2 q3 q4 q6
                    obtain ⟨W7, rfl⟩ : ∃ W7, W7 = wr := ⟨_, rfl⟩
                    go_wp2_with fail
                    go_loopw [18, 95] (fun v t wr => ∃ i : Nat, i ≤ n ∧ t = .int .i64 i ∧ v = .bool false ∧ LoK w n r P k y0 (th : Int) y2 y3 y4 y5 y6 wr) (fun _ t _ => n - (intOf t).toNat)
                    case atStart => exact ⟨0, by omega, rfl, rfl, HLW.out⟩
                    case round =>
                      obtain ⟨i, hi, rfl, rfl, hL⟩ := hrel
                      have HLI := Lib.hid hL
                      clear hL
                      by_cases hin : i < n
                      · have j1 : (0 : Int) ≤ (i : Int) := by omega
                        have j2 : (i : Int) < (n : Int) := by omega
                        obtain ⟨W8, hW8⟩ : ∃ W8, W8 = wr.alloc (.cells #[.int .i64 (i : Int)] 3) := ⟨_, rfl⟩
                        have hl8 : LoK w n r P k y0 (th : Int) y2 y3 y4 y5 y6 W8 := by rw [hW8]; exact HLI.out.next ((Below.refl _ _).alloc (Nat.le_refl _) _)
                        have hx8 : Lies W8 wr.heap.size 3 #[.int .i64 (i : Int)] := by rw [hW8]; exact Lies.new _ _ _
                        have HL8 := Lib.hid (And.intro hl8 hx8)
                        clear hl8 hx8
                        go_upto_region 20 with fail
                        rw [← hW8]
                        clear hW8
                        have hR8 := HL8.out.1.lo.rel
                        have c0 := hR8.size
                        obtain ⟨c1, c2, c3, c4, c5, c6, c7, c8, c9, c10, c11, c12⟩ := hR8.rows
                        have p0 := HL8.out.1.cells.1
                        have p1 : W8.cell? ⟨wr.heap.size, 0, none⟩ = some (.int .i64 (i : Int)) := Lies.cell HL8.out.2 0
                        obtain ⟨P8, hP8⟩ : ∃ P8, P8 = wr.heap.size := ⟨_, rfl⟩
                        rw [← hP8] at p1 HL8 ⊢
                        clear hR8 hP8
                        go_wp2_with fail
                        refine (ahead_any n r i k W8 (by omega) (by omega)).mono ?_
                        rintro e w9 ⟨rfl, hb9⟩
                        clear c0 c1 c2 c3 c4 c5 c6 c7 c8 c9 c10 c11 c12 p0 p1
                        have HL9 := Lib.hid (And.intro (HL8.out.1.next hb9) (Lies.below HL8.out.2 hb9 (Lies.lt HL8.out.2)))
                        clear hb9
                        cases hbit : (r i).testBit k
                        · skip
                          go_wp2_with fail
                          go_roundw
                          case rel => exact ⟨i + 1, by omega, by go_num, rfl, HL9.out.1⟩
                          case measure => simp [intOf]; omega
                        · have HC9 := Lib.hid (lcont2_any ((HT.out.2.2.below HL9.out.1.lo.below).mono HL9.out.1.lo.below.size) (show w9.cell? ⟨P8, 0, none⟩ = some (.int .i64 (i : Int)) from Lies.cell HL9.out.2 0) (Lies.lt HL9.out.2))
                          by_cases hmi : (i : Int) ∈ ws.map (·.1)
                          · rw [decide_eq_true hmi] at HC9
                            skip
                            clear hmi
                            go_wp2_with fail
                            refine HC9.out.mono ?_
                            rintro e w10 ⟨rfl, hb10⟩
                            have HL10 := Lib.hid (HL9.out.1.next hb10)
                            clear hb10 HC9
                            go_wp2_with fail
                            go_roundw
                            case rel => exact ⟨i + 1, by omega, by go_num, rfl, HL10.out⟩
                            case measure => simp [intOf]; omega
                          · rw [decide_eq_false hmi] at HC9
                            skip
                            clear hmi
                            go_wp2_with fail
                            refine HC9.out.mono ?_
                            rintro e w10 ⟨rfl, hb10⟩
                            have HL10 := Lib.hid (HL9.out.1.next hb10)
                            clear hb10 HC9
                            go_wp2_with fail
                            go_roundw
                            case rel => exact ⟨i + 1, by omega, by go_num, rfl, HL10.out⟩
                            case measure => simp [intOf]; omega
                      · obtain rfl : n = i := by omega
                        clear hi
                        have HTR := Lib.hid ((tryG_no hkn HFAL.out).symm.trans HTK.out)
                        go_wp2_with fail
                        go_roundw
                        case rel => exact ⟨k + 1, by omega, by go_num, HTR.out, HLI.out.lo⟩
                        case measure => simp [intOf]; omega
              · have b1 : (ev == 0) = false := by rw [beq_eq_false_iff_ne]; exact hev
                have HFAL := Lib.hid (show mayG b ts cs p k = false by rw [HMQ.out, b1]; rfl)
                clear hev
                go_wp2_with fail
                clear q0 q1 q2 q3 q4 q6
                obtain ⟨W7, rfl⟩ : ∃ W7, W7 = wr := ⟨_, rfl⟩
                go_wp2_with fail
                go_loopw [18, 95] (fun v t wr => ∃ i : Nat, i ≤ n ∧ t = .int .i64 i ∧ v = .bool false ∧ LoK w n r P k y0 (th : Int) y2 y3 y4 y5 y6 wr) (fun _ t _ => n - (intOf t).toNat)
                case atStart => exact ⟨0, by omega, rfl, rfl, HLW.out⟩
                case round =>
                  obtain ⟨i, hi, rfl, rfl, hL⟩ := hrel
                  have HLI := Lib.hid hL
                  clear hL
                  by_cases hin : i < n
                  · have j1 : (0 : Int) ≤ (i : Int) := by omega
                    have j2 : (i : Int) < (n : Int) := by omega
                    obtain ⟨W8, hW8⟩ : ∃ W8, W8 = wr.alloc (.cells #[.int .i64 (i : Int)] 3) := ⟨_, rfl⟩
                    have hl8 : LoK w n r P k y0 (th : Int) y2 y3 y4 y5 y6 W8 := by rw [hW8]; exact HLI.out.next ((Below.refl _ _).alloc (Nat.le_refl _) _)
                    have hx8 : Lies W8 wr.heap.size 3 #[.int .i64 (i : Int)] := by rw [hW8]; exact Lies.new _ _ _
                    have HL8 := Lib.hid (And.intro hl8 hx8)
                    clear hl8 hx8
                    go_upto_region 20 with fail
                    rw [← hW8]
                    clear hW8
                    have hR8 := HL8.out.1.lo.rel
                    have c0 := hR8.size
                    obtain ⟨c1, c2, c3, c4, c5, c6, c7, c8, c9, c10, c11, c12⟩ := hR8.rows
                    have p0 := HL8.out.1.cells.1
                    have p1 : W8.cell? ⟨wr.heap.size, 0, none⟩ = some (.int .i64 (i : Int)) := Lies.cell HL8.out.2 0
                    obtain ⟨P8, hP8⟩ : ∃ P8, P8 = wr.heap.size := ⟨_, rfl⟩
                    rw [← hP8] at p1 HL8 ⊢
                    clear hR8 hP8
                    go_wp2_with fail
                    refine (ahead_any n r i k W8 (by omega) (by omega)).mono ?_
                    rintro e w9 ⟨rfl, hb9⟩
                    clear c0 c1 c2 c3 c4 c5 c6 c7 c8 c9 c10 c11 c12 p0 p1
                    have HL9 := Lib.hid (And.intro (HL8.out.1.next hb9) (Lies.below HL8.out.2 hb9 (Lies.lt HL8.out.2)))
                    clear hb9
                    cases hbit : (r i).testBit k
                    · skip
                      go_wp2_with fail
                      go_roundw
                      case rel => exact ⟨i + 1, by omega, by go_num, rfl, HL9.out.1⟩
                      case measure => simp [intOf]; omega
                    · have HC9 := Lib.hid (lcont2_any ((HT.out.2.2.below HL9.out.1.lo.below).mono HL9.out.1.lo.below.size) (show w9.cell? ⟨P8, 0, none⟩ = some (.int .i64 (i : Int)) from Lies.cell HL9.out.2 0) (Lies.lt HL9.out.2))
                      by_cases hmi : (i : Int) ∈ ws.map (·.1)
                      · rw [decide_eq_true hmi] at HC9
                        skip
                        clear hmi
                        go_wp2_with fail
                        refine HC9.out.mono ?_
                        rintro e w10 ⟨rfl, hb10⟩
                        have HL10 := Lib.hid (HL9.out.1.next hb10)
                        clear hb10 HC9
                        go_wp2_with fail
                        go_roundw
                        case rel => exact ⟨i + 1, by omega, by go_num, rfl, HL10.out⟩
                        case measure => simp [intOf]; omega
                      · rw [decide_eq_false hmi] at HC9
                        skip
                        clear hmi
                        go_wp2_with fail
                        refine HC9.out.mono ?_
                        rintro e w10 ⟨rfl, hb10⟩
                        have HL10 := Lib.hid (HL9.out.1.next hb10)
                        clear hb10 HC9
                        go_wp2_with fail
                        go_roundw
                        case rel => exact ⟨i + 1, by omega, by go_num, rfl, HL10.out⟩
                        case measure => simp [intOf]; omega
                  · obtain rfl : n = i := by omega
                    clear hi
                    have HTR := Lib.hid ((tryG_no hkn HFAL.out).symm.trans HTK.out)
                    go_wp2_with fail
                    go_roundw
                    case rel => exact ⟨k + 1, by omega, by go_num, HTR.out, HLI.out.lo⟩
                    case measure => simp [intOf]; omega
      · obtain rfl : n = k := by omega
        have hT : R = none := by rw [← htk, Nat.sub_self, tryG]
        have HTT := Lib.hid hT
        have HLZ := Lib.hid hL
        clear htk hL hT
        go_wp2_with fail
        go_ret
        exact ⟨HLZ.out.below, .inl ⟨HR0.out.trans HTT.out, rfl⟩⟩
  · rw [hfb] at hfull
    subst hfull
    have hR := HR00.out
    rw [hfb, if_pos rfl] at hR
    have HR := Lib.hid hR
    clear hfb hR HR00
    go_wp2_with fail
    go_ret
    refine ⟨HL1.out.below, .inr ⟨[], a0, M, c0, HR.out, rfl, ?_⟩⟩
    rw [show asSteps [] = [] from rfl, List.append_nil]
    exact HOWN.out.2.onB HL1.out.below
end Go.Proofs.YtfgangkpebkicaaDoor
