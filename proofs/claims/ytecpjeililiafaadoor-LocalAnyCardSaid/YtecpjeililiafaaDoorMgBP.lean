/-
  Joined by a program out of: LJoin, EqInt, Bools.
-/
import Derived.Test.YtecpjeililiafaaDoorMgBL
import Derived.Test.YtecpjeililiafaaDoorMgAA
import Derived.Test.YtecpjeililiafaaDoorMgBB

/-
  Contract of local.Join.
-/
namespace Go.Proofs.YtecpjeililiafaaDoor
open Go.RowKit Go.Maps
set_option maxRecDepth 20000

theorem pickF_step {F : Int → Option Int} {xs : List Int} {k : Nat} {x : Int} (h : xs[k]? = some x) : pickF F (xs.take (k + 1)) = pickF F (xs.take k) ++ (match F x with | some r => [(x, r)] | none => []) := by
  unfold pickF
  rw [List.take_add_one, h, List.filterMap_append]
  cases hF : F x <;> simp [hF]
theorem pickF_len (F : Int → Option Int) (xs : List Int) : (pickF F xs).length ≤ xs.length := List.length_filterMap_le _ _
theorem lsL_rng (b : Nat → Nat) (n : Nat) (hb : n ≤ 16) : ∀ k, ∀ x ∈ lsL b n k, 0 ≤ x ∧ x ≤ 16
  | 0, x, h => by simp [lsL] at h
  | k + 1, x, h => by
    rw [lsL, List.mem_append] at h
    rcases h with h | h
    · exact lsL_rng b n hb k x h
    · rw [List.mem_singleton] at h
      subst h
      have := nextOf_le (rdyUp b (lsD b n k) n) (rdyUp_lt b _ 16 n hb)
      omega
theorem IRd.at_ {w : World} {B n cap : Nat} {A : Option Addr} {xs : List Int} (h : IRd w B (.slice A n cap) xs) {k : Nat} {x : Int} (hk : xs[k]? = some x) : ∃ g, A = some ⟨g, 0, none⟩ ∧ g < B ∧ w.cell? ⟨g, k, none⟩ = some (.int .i64 x) := by
  obtain ⟨A', cap', e, h2⟩ := h
  injection e with e1 e2 e3
  have hl := (List.getElem?_eq_some_iff.1 hk).1
  obtain ⟨g, hA, hg, hc⟩ := h2 (by omega)
  refine ⟨g, e1.trans hA, hg, ?_⟩
  rw [hc k hl, List.getD_eq_getElem?_getD, hk]
  rfl
theorem tab_pos {w : World} (h : Tab w) : 0 < w.heap.size := by
  rcases Nat.eq_zero_or_pos w.heap.size with h0 | h0
  · have := h 0 (by decide)
    simp [World.cell?, h0] at this
  · exact h0
/-- What the last loop keeps. -/
structure JnK (w : World) (B b n : Nat) (A : Option Addr) (m cap : Nat) (xs : List Int) (F : Int → Option Int) (v : Value) (k : Nat) (wr : World) : Prop where
  below : Below w.heap.size w wr
  ext : IRd wr B (.slice A m cap) xs
  map : ∃ c, JMap wr b c F ∧ b < B
  own : TOwn wr B v (pickF F (xs.take k))
  sz : B ≤ wr.heap.size
  ge : w.heap.size ≤ B
theorem JnK.next {w : World} {B b n : Nat} {A : Option Addr} {m cap : Nat} {xs : List Int} {F : Int → Option Int} {v : Value} {k : Nat} {wr w' : World} (h : JnK w B b n A m cap xs F v k wr) (hb : Below wr.heap.size wr w') : JnK w B b n A m cap xs F v k w' :=
  ⟨h.below.trans (hb.mono h.below.size), h.ext.below (hb.mono h.sz), by obtain ⟨c, h1, h2⟩ := h.map; exact ⟨c, h1.below hb, h2⟩, h.own.below hb, Nat.le_trans h.sz hb.size, h.ge⟩
theorem JnK.app {w : World} {B b n : Nat} {A : Option Addr} {m cap : Nat} {xs : List Int} {F : Int → Option Int} {v v' : Value} {k k' : Nat} {wr w' : World} (h : JnK w B b n A m cap xs F v k wr) (hb : Below B wr w') (ho : TOwn w' B v' (pickF F (xs.take k'))) : JnK w B b n A m cap xs F v' k' w' :=
  ⟨h.below.trans (hb.mono h.ge), h.ext.below hb, by obtain ⟨c, h1, h2⟩ := h.map; exact ⟨c, h1.keep (hb.block b h2), h2⟩, ho, Nat.le_trans h.sz hb.size, h.ge⟩

set_option maxHeartbeats 4000000 in
theorem ljoin_any {tv lv wv : Value} {ts : List Int} {l : List Ev} {ww : List (List (Int × Int))} {w : World} (ht : NRd w w.heap.size tv ts) (hl : ERd w w.heap.size lv l) (hw : QRd w w.heap.size wv ww) (hT : Tab w) :
    Calls Tryd.prog 32 #[tv, lv, wv] w (JoinPost w (joinO ts l ww)) := by
  have HO := Lib.hid (lopen_any ht hl)
  have hse : joinO ts l ww = if openE ts l ≠ 0 then ([], false, openE ts l) else if ww.length ≠ ts.length then ([], false, 3) else joinC (callsOf ts l).1 ww := rfl
  have hfew : openE ts l = 0 → (callsOf ts l).1.length ≤ 12 ∧ ts.length ≤ 4 := fun h => ⟨(openE_zero h).2.1, calls_types (openE_zero h).1⟩
  generalize joinO ts l ww = R at hse ⊢
  generalize openE ts l = X at HO hse hfew
  generalize (callsOf ts l).1 = cs at HO hse hfew
  have HSE := Lib.hid (And.intro hse hfew)
  clear hse hfew
  obtain ⟨At, capt, rfl, -, -⟩ := ht.is
  obtain ⟨Al, capl, rfl, -, -⟩ := hl.is
  obtain ⟨Aw, capw, rfl, hw1, hw2⟩ := hw.is
  unfold maxLen at hw2
  have HW := Lib.hid (And.intro hw (And.intro hT (tab_pos hT)))
  clear ht hl hw hT
  obtain ⟨tl, htl⟩ : ∃ tl, tl = ts.length := ⟨_, rfl⟩
  obtain ⟨m, hm⟩ : ∃ m, m = ww.length := ⟨_, rfl⟩
  rw [← htl, ← hm] at HSE
  rw [← htl] at HO
  rw [← hm] at HW hw1
  rw [← htl, ← hm]
  have HM := Lib.hid hm
  clear htl hm
  generalize l.length = L at HO ⊢
  go_enter Tryd.func32, Tryd.ntmps32
  go_wp2_with fail
  refine HO.out.mono ?_
  rintro e w1 ⟨hb1, v, rfl, hcr, hnil⟩
  clear HO
  by_cases hX : X = 0
  · subst hX
    obtain ⟨hse, hfew⟩ := HSE.out
    obtain ⟨hn, htl⟩ := hfew rfl
    rw [if_neg (by simp)] at hse
    obtain ⟨Ac, cc, rfl, -, -⟩ := (hcr rfl).is
    have HC := Lib.hid (And.intro hb1 (hcr rfl))
    have HN := Lib.hid (And.intro hn htl)
    clear HSE hfew hb1 hcr hnil hn
    by_cases hmt : m = tl
    · obtain rfl := hmt
      have hzz : ((m : Int) != (m : Int)) = false := by rw [bne_eq_false_iff_eq]
      rw [if_neg (by omega)] at hse
      have HR := Lib.hid hse
      clear hse
      have HCOL := Lib.hid (lcollect_any HC.out.2 ((HW.out.1.below HC.out.1).mono HC.out.1.size) HN.out.1 (by have := HN.out.2; have := HM.out; omega))
      have HREL := Lib.hid (fun (W : World) (h : Below w1.heap.size w1 W) hr => lrelate_any ((HC.out.2.below h).mono h.size) (((HW.out.1.below HC.out.1).mono HC.out.1.size).below h |>.mono h.size) HN.out.1 hr)
      generalize hcn : cs.length = n at HCOL HREL HN HC ⊢
      have HCN := Lib.hid hcn
      clear hcn
      go_wp2_with fail
      refine HCOL.out.mono ?_
      rintro e w2 ⟨hb2, ⟨hF, rfl⟩ | ⟨F, b, c, hF, rfl, hj, hc12⟩⟩
      · have hR := HR.out
        unfold joinC at hR
        rw [hF] at hR
        have HRR := Lib.hid hR
        have HB := Lib.hid (HC.out.1.trans (hb2.mono HC.out.1.size))
        clear hb2 hF hR HCOL HREL
        go_wp2_with fail
        go_ret3
        exact ⟨HB.out, _, by rw [HRR.out] <;> rfl, by rw [HRR.out]; exact LRd.nil _ _⟩
      · have hR := HR.out
        unfold joinC at hR
        rw [hF] at hR
        have hrr := HREL.out w2 hb2 (HCN.out ▸ col_rng hF)
        have hgood : Good n (jnR cs ww) := by unfold jnR; rw [HCN.out]; exact good_relP _ HN.out.1
        have hjr : relP (relF (aheadB cs) ww) n = jnR cs ww := by unfold jnR; rw [HCN.out]
        rw [hjr] at hrr
        rw [HCN.out] at hR
        have HRE := Lib.hid hrr
        have HG := Lib.hid hgood
        have HB2 := Lib.hid (And.intro (HC.out.1.trans (hb2.mono HC.out.1.size)) (And.intro hj hc12))
        clear hF hrr hgood hjr HCOL HREL hb2 hj hc12 HR
        generalize jnR cs ww = a at hR HRE HG
        have HR := Lib.hid hR
        clear hR
        go_wp2_with fail
        refine HRE.out.mono ?_
        rintro e w3 ⟨rfl, hb3⟩
        have hj3 := HB2.out.2.1.below hb3
        have hb03 := HB2.out.1.trans (hb3.mono HB2.out.1.size)
        have HB3 := Lib.hid (And.intro hb03 (And.intro hj3 HB2.out.2.2))
        clear HRE HB2 hb3 hj3 hb03
        cases hy : cyc (clo n a) n
        · have hR := HR.out
          rw [hy, if_neg (by decide)] at hR
          have HLL := Lib.hid (fun (W : World) (hT : Tab W) (hp : 0 < W.heap.size) => least_no n a W HG.out hy hT hp)
          have hrg := lsL_rng (rev n (clo n a)) n (by have := HN.out.1; omega) n
          have hlen := lsL_length (rev n (clo n a)) n n
          generalize lsL (rev n (clo n a)) n n = xs at hR HLL hrg hlen
          have HRR := Lib.hid hR
          have HXS := Lib.hid (And.intro hrg hlen)
          have hal : Below w3.heap.size w3 (w3.alloc (.cells (relCs n a) 36)) := (Below.refl _ _).alloc (Nat.le_refl _) _
          have HAL := Lib.hid hal
          have HT3 := Lib.hid (HW.out.2.1.below (HB3.out.1.trans (hal.mono HB3.out.1.size)) HW.out.2.2)
          clear hR hy HR hrg hlen hal
          go_wp2_with fail
          refine (HLL.out _ HT3.out (by simp)).mono ?_
          rintro e w4 ⟨v4, rfl, hown, hb4⟩
          have hrd := hown.rd
          obtain ⟨Ax, capx, rfl, hx1⟩ := id hrd
          rw [HXS.out.2]
          rw [HXS.out.2] at hown hrd
          have hb34 := HAL.out.trans (hb4.mono (by simp))
          have HB4 := Lib.hid (And.intro (HB3.out.1.trans (hb34.mono HB3.out.1.size)) (And.intro (HB3.out.2.1.below hb34) (And.intro HB3.out.2.2 hrd)))
          clear hown hrd hx1 hb4 hb34 HB3 HLL HAL HT3
          have HMK := Lib.hid (fun K hK => made_steps K hK w4)
          go_wp2_with (at_len; refine JMap.lenAt rfl _ rfl HB4.out.2.1 rfl ?_; intro K hK; have hmk := HMK.out K (by have := HB4.out.2.2.1; omega))
          have hJ0 : JnK w w4.heap.size b n Ax n capx xs F (.slice (some ⟨w4.heap.size, 0, none⟩) 0 K) 0 (w4.alloc (.cells (stepCs K) 42)) := by
            have h := HB4.out
            have hb : Below w4.heap.size w4 (w4.alloc (.cells (stepCs K) 42)) := (Below.refl _ _).alloc (Nat.le_refl _) _
            exact ⟨h.1.trans (hb.mono h.1.size), h.2.2.2.below hb, ⟨_, h.2.1.below hb, h.2.1.lt⟩, TOwn.made w4 K (by have := h.2.2.1; omega), hb.size, h.1.size⟩
          change Code.wp _ _ _ _ (w4.alloc (.cells (stepCs K) 42))
          generalize w4.alloc (.cells (stepCs K) 42) = W at hJ0 ⊢
          generalize w4.heap.size = B at hJ0 ⊢
          clear HMK hmk hK
          go_loopw [15, 66] (fun v i wr => ∃ k : Nat, k ≤ n ∧ i = .int .i64 k ∧ JnK w B b n Ax n capx xs F v k wr) (fun _ i _ => n - (intOf i).toNat)
          case atStart => exact ⟨0, by omega, rfl, hJ0⟩
          case round =>
            clear hJ0
            obtain ⟨k, hk, rfl, hJ⟩ := hrel
            by_cases hkn : k < n
            · obtain ⟨x, hx⟩ : ∃ x, xs[k]? = some x := ⟨_, List.getElem?_eq_getElem (by rw [HXS.out.2]; exact hkn)⟩
              have hxr := HXS.out.1 x (List.mem_of_getElem? hx)
              obtain ⟨g, rfl, hg, d0⟩ := hJ.ext.at_ hx
              have hst := pickF_step (F := F) hx
              obtain ⟨c, hjm, hbB⟩ := hJ.map
              have hpl : (pickF F (xs.take k)).length ≤ 1000 := by
                have h1 := pickF_len F (xs.take k)
                rw [List.length_take, HXS.out.2] at h1
                have := HN.out.1
                omega
              have hn12 := HN.out.1
              have i1 : (0 : Int) ≤ (k : Int) := by omega
              have i2 : (k : Int) < (n : Int) := by omega
              have hal : ∀ z r : Int, Below wr.heap.size wr (wr.alloc (.cells #[.int .i64 z, .int .i64 r] 42)) := fun z r => (Below.refl _ _).alloc (Nat.le_refl _) _
              have HJ := Lib.hid (And.intro hJ (And.intro hjm (And.intro hpl hal)))
              have HXR := Lib.hid hxr
              clear hJ hjm hbB hpl hal hx hxr hg
              cases hF : F x with
              | none =>
                rw [hF] at hst
                have HS := Lib.hid (And.intro hst hF)
                clear hst hF
                go_wp2_with (at_lookup; refine JMap.look rfl _ _ rfl HJ.out.2.1 x (by have := HXR.out; omega) (by have := HXR.out; omega) rfl rfl ?_; intro z r _; rw [HS.out.2])
                go_roundw
                case rel => exact ⟨k + 1, by omega, by go_num, (HJ.out.1.next (HJ.out.2.2.2 z r)).app (Below.refl _ _) (by rw [HS.out.1, List.append_nil]; exact (HJ.out.1.next (HJ.out.2.2.2 z r)).own)⟩
                case measure => simp [intOf]; omega
              | some r0 =>
                rw [hF] at hst
                have HS := Lib.hid (And.intro hst hF)
                clear hst hF
                go_upto_region 22 with (at_lookup; refine JMap.look rfl _ _ rfl HJ.out.2.1 x (by have := HXR.out; omega) (by have := HXR.out; omega) rfl rfl ?_; intro z r hzr; rw [HS.out.2]; have hz2 := hzr (by rw [HS.out.2]; rfl))
                obtain ⟨hz1, hz3⟩ := hz2
                rw [HS.out.2] at hz3
                injection hz3 with hz3
                subst hz3
                have hJ2 := HJ.out.1.next (HJ.out.2.2.2 x r0)
                have hnew : Lies (wr.alloc (.cells #[.int .i64 x, .int .i64 r0] 42)) wr.heap.size 42 #[.int .i64 x, .int .i64 r0] := Lies.new _ _ _
                change Code.wp _ _ _ _ (wr.alloc (.cells #[.int .i64 x, .int .i64 r0] 42))
                clear hzr hz1
                generalize wr.alloc (.cells #[.int .i64 x, .int .i64 r0] 42) = W2 at hJ2 hnew ⊢
                have c0 : W2.cell? ⟨wr.heap.size, 0, none⟩ = some (.int .i64 x) := Lies.cell hnew 0
                have c1 : W2.cell? ⟨wr.heap.size, 1, none⟩ = some (.int .i64 r0) := Lies.cell hnew 1
                generalize wr.heap.size = X at c0 c1 ⊢
                have HJ2 := Lib.hid (And.intro hJ2 HJ.out.2.2.1)
                clear hJ2 hnew d0 HJ
                go_wp2_with (at_builtin; refine wpList_app_t rfl (.tmp 77) (.tmp 79) rfl B W2.heap.size _ _ x r0 rfl rfl (HJ2.out.1.own.alloc _) (Lies.new _ _ _) HJ2.out.2 (by have := HJ2.out.1.sz; simp; omega) ?_; intro v' w5 ho5 hb5)
                go_roundw
                case rel => exact ⟨k + 1, by omega, by go_num, (HJ2.out.1.next ((Below.refl _ _).alloc (Nat.le_refl _) _)).app hb5 (by rw [HS.out.1]; exact ho5)⟩
                case measure => simp [intOf]; omega
            · obtain rfl : k = n := by omega
              have HJ := Lib.hid hJ
              clear hJ
              go_wp2_with fail
              go_ret3
              have hfull : pickF F (xs.take k) = pickF F xs := by rw [List.take_of_length_le (by rw [HXS.out.2]; exact Nat.le_refl _)]
              exact ⟨HJ.out.below, _, by rw [HRR.out] <;> rfl, by rw [HRR.out]; exact hfull ▸ HJ.out.own.rd⟩
        · have hR := HR.out
          rw [hy, if_pos rfl] at hR
          have HRR := Lib.hid hR
          have HF := Lib.hid (fun W : World => least_err n a 4 W rfl (fails_round HG.out hy))
          clear hR hy HR
          go_wp2_with fail
          refine (HF.out _).mono ?_
          rintro e w4 ⟨rfl, hb4⟩
          have HB4 := Lib.hid (HB3.out.1.trans ((((Below.refl _ _).alloc (Nat.le_refl _) _).trans (hb4.mono (by simp))).mono HB3.out.1.size))
          clear hb4
          go_wp2_with fail
          go_ret3
          exact ⟨HB4.out, _, by rw [HRR.out] <;> rfl, by rw [HRR.out]; exact LRd.nil _ _⟩
    · have hzz : ((m : Int) != (tl : Int)) = true := by rw [bne_iff_ne]; omega
      rw [if_pos (by omega)] at hse
      have HR := Lib.hid hse
      clear hse
      go_wp2_with fail
      go_ret3
      exact ⟨HC.out.1, _, by rw [HR.out] <;> rfl, by rw [HR.out]; exact LRd.nil _ _⟩
  · obtain ⟨hse, -⟩ := HSE.out
    rw [if_pos hX] at hse
    obtain rfl := hnil hX
    have hXz : (X != 0) = true := by rw [bne_iff_ne]; exact hX
    have HR := Lib.hid hse
    have HB := Lib.hid hb1
    clear hse hb1 hcr hnil
    go_wp2_with fail
    go_ret3
    exact ⟨HB.out, _, by rw [HR.out] <;> rfl, by rw [HR.out]; exact LRd.nil _ _⟩
end Go.Proofs.YtecpjeililiafaaDoor

/-
  slices.Equal of two lists of integers.
-/
namespace Go.Proofs.YtecpjeililiafaaDoor
open Go.RowKit
set_option maxRecDepth 20000

theorem ext_eq {α : Type} {xs ys : List α} (hl : xs.length = ys.length) (h : ∀ (j : Nat) (x y : α), xs[j]? = some x → ys[j]? = some y → x = y) : xs = ys := by
  apply List.ext_getElem hl
  intro j h1 h2
  exact h j _ _ (List.getElem?_eq_getElem h1) (List.getElem?_eq_getElem h2)

set_option maxHeartbeats 2000000 in
theorem eqInt_any {B1 B2 : Nat} {v1 v2 : Value} {xs ys : List Int} {w : World} (h1 : NRd w B1 v1 xs) (h2 : NRd w B2 v2 ys) :
    Calls Tryd.prog 41 #[v1, v2] w fun e w' => e = .returned (.bool (decide (xs = ys))) ∧ Below w.heap.size w w' := by
  obtain ⟨A1, c1, rfl, m1, m2⟩ := h1.is
  obtain ⟨A2, c2, rfl, m3, m4⟩ := h2.is
  unfold maxLen at m2 m4
  have H1 := Lib.hid h1
  have H2 := Lib.hid h2
  clear h1 h2
  obtain ⟨n, hn⟩ : ∃ n, n = xs.length := ⟨_, rfl⟩
  obtain ⟨n', hn'⟩ : ∃ n, n = ys.length := ⟨_, rfl⟩
  rw [← hn, ← hn']
  rw [← hn] at m1
  rw [← hn'] at m3
  have HN := Lib.hid hn
  have HN' := Lib.hid hn'
  clear hn hn'
  by_cases hl : n = n'
  · subst hl
    go_enter Tryd.func41, Tryd.ntmps41
    go_wp2_with fail
    go_loopw [13] (fun i wr => ∃ k : Nat, k ≤ n ∧ i = .int .i64 k ∧ (∀ (j : Nat) (x y : Int), j < k → xs[j]? = some x → ys[j]? = some y → x = y) ∧ ∃ nq, wr = w.drewN nq) (fun i _ => n - (intOf i).toNat)
    case atStart => exact ⟨0, by omega, rfl, fun j x y hj => by omega, 0, rfl⟩
    case round =>
      obtain ⟨k, hk, rfl, ha, nq, rfl⟩ := hrel
      have HA := Lib.hid ha
      clear ha
      by_cases hkn : k < n
      · obtain ⟨x, hx⟩ : ∃ x, xs[k]? = some x := ⟨_, List.getElem?_eq_getElem (by rw [← HN.out]; exact hkn)⟩
        obtain ⟨y, hy⟩ : ∃ y, ys[k]? = some y := ⟨_, List.getElem?_eq_getElem (by rw [← HN'.out]; exact hkn)⟩
        have h1' := H1.out
        have h2' := H2.out
        rw [← HN.out] at h1'
        rw [← HN'.out] at h2'
        obtain ⟨g1, o1, rfl, -, b0⟩ := h1'.num hx
        obtain ⟨g2, o2, rfl, -, d0⟩ := h2'.num hy
        have HX := Lib.hid (And.intro hx hy)
        clear h1' h2' hx hy
        have i1 : (0 : Int) ≤ (k : Int) := by omega
        have i2 : (k : Int) < (n : Int) := by omega
        by_cases hxy : x = y
        · have HXY := Lib.hid hxy
          subst hxy
          go_wp2_with fail
          go_quiet (fail)
          go_wp2_with fail
          go_roundw
          case rel => exact ⟨k + 1, by omega, by go_num, fun j a b hj ha hb => by
            rcases Nat.lt_or_ge j k with h | h
            · exact HA.out j a b h ha hb
            · obtain rfl : j = k := by omega
              rw [HX.out.1] at ha
              rw [HX.out.2] at hb
              exact Option.some.inj (ha.symm.trans hb), _, rfl⟩
          case measure => simp [intOf]; omega
        · have hz : (x != y) = true := by rw [bne_iff_ne]; exact hxy
          have HXY := Lib.hid hxy
          clear hxy
          go_wp2_with fail
          go_quiet (fail)
          go_wp2_with fail
          go_ret
          exact ⟨ret_bool (decide_eq_false (fun e => HXY.out (by
              have h1 := HX.out.1
              rw [e, HX.out.2] at h1
              exact (Option.some.inj h1).symm))).symm, belowN (belowN (Below.refl _ _) _) _⟩
      · obtain rfl : k = n := by omega
        go_wp2_with fail
        go_ret
        exact ⟨ret_bool (decide_eq_true (ext_eq (HN.out.symm.trans HN'.out) (fun j x y hx hy => HA.out j x y (by rw [HN.out]; exact (List.getElem?_eq_some_iff.1 hx).1) hx hy))).symm, belowN (Below.refl _ _) _⟩
  · have hz : ((n : Int) != (n' : Int)) = true := by rw [bne_iff_ne]; omega
    have hne : decide (xs = ys) = false := decide_eq_false (fun e => hl (by rw [HN.out, HN'.out, e]))
    rw [hne]
    clear hne hl
    go_enter Tryd.func41, Tryd.ntmps41
    go_wp2_with fail
    go_ret
    exact ⟨rfl, Below.refl _ _⟩
theorem eqInt_same {B1 B2 : Nat} {v1 v2 : Value} {xs : List Int} {w : World} (h1 : NRd w B1 v1 xs) (h2 : NRd w B2 v2 xs) :
    Calls Tryd.prog 41 #[v1, v2] w fun e w' => e = .returned (.bool true) ∧ Below w.heap.size w w' := by
  have := eqInt_any h1 h2
  rwa [decide_eq_true rfl] at this
end Go.Proofs.YtecpjeililiafaaDoor

/-
  Rows of truths: slices.Equal, slices.Contains.
-/
namespace Go.Proofs.YtecpjeililiafaaDoor
open Go.RowKit
set_option maxRecDepth 20000

abbrev blCs (b : Bool) : List Value := [.bool b]
abbrev BlRd (w : World) (B : Nat) (v : Value) (l : List Bool) : Prop := LRd 1 blCs w B v l
theorem LRd.bl {w : World} {B n cap : Nat} {A : Option Addr} {l : List Bool} (h : BlRd w B (.slice A n cap) l) {k : Nat} {x : Bool} (hk : l[k]? = some x) : ∃ g o, A = some ⟨g, o, none⟩ ∧ g < B ∧ w.cell? ⟨g, o + k, none⟩ = some (.bool x) := by
  obtain ⟨g, o, hA, hg, hc⟩ := h.at_ hk
  refine ⟨g, o, hA, hg, ?_⟩
  have := hc 0 _ rfl
  simpa using this
theorem BTab.rd {w : World} {g N : Nat} {S : Nat → Bool} (h : BTab w g N S) (hN : N ≤ 1000) : BlRd w w.heap.size (.slice (some ⟨g, 0, none⟩) N N) ((List.range N).map S) := by
  refine ⟨some ⟨g, 0, none⟩, N, by rw [List.length_map, List.length_range], by simp, by unfold maxLen; omega, fun _ => ⟨g, 0, rfl, h.lt, fun k x hx j u hu => ?_⟩⟩
  have hk : k < N := by
    have := (List.getElem?_eq_some_iff.1 hx).1
    simpa using this
  rw [List.getElem?_map, List.getElem?_range hk] at hx
  injection hx with hx
  subst hx
  match j, hu with
  | 0, hu =>
    injection hu with hu
    subst hu
    have := h.cell hk
    simpa using this
set_option maxHeartbeats 2000000 in
theorem eqBl_any {B1 B2 : Nat} {v1 v2 : Value} {xs ys : List Bool} {w : World} (h1 : BlRd w B1 v1 xs) (h2 : BlRd w B2 v2 ys) :
    Calls Tryd.prog 59 #[v1, v2] w fun e w' => e = .returned (.bool (decide (xs = ys))) ∧ Below w.heap.size w w' := by
  obtain ⟨A1, c1, rfl, m1, m2⟩ := h1.is
  obtain ⟨A2, c2, rfl, m3, m4⟩ := h2.is
  unfold maxLen at m2 m4
  have H1 := Lib.hid h1
  have H2 := Lib.hid h2
  clear h1 h2
  obtain ⟨n, hn⟩ : ∃ n, n = xs.length := ⟨_, rfl⟩
  obtain ⟨n', hn'⟩ : ∃ n, n = ys.length := ⟨_, rfl⟩
  rw [← hn, ← hn']
  rw [← hn] at m1
  rw [← hn'] at m3
  have HN := Lib.hid hn
  have HN' := Lib.hid hn'
  clear hn hn'
  by_cases hl : n = n'
  · subst hl
    go_enter Tryd.func59, Tryd.ntmps59
    go_wp2_with fail
    go_loopw [13] (fun i wr => ∃ k : Nat, k ≤ n ∧ i = .int .i64 k ∧ (∀ (j : Nat) (x y : Bool), j < k → xs[j]? = some x → ys[j]? = some y → x = y) ∧ ∃ nq, wr = w.drewN nq) (fun i _ => n - (intOf i).toNat)
    case atStart => exact ⟨0, by omega, rfl, fun j x y hj => by omega, 0, rfl⟩
    case round =>
      obtain ⟨k, hk, rfl, ha, nq, rfl⟩ := hrel
      have HA := Lib.hid ha
      clear ha
      by_cases hkn : k < n
      · obtain ⟨x, hx⟩ : ∃ x, xs[k]? = some x := ⟨_, List.getElem?_eq_getElem (by rw [← HN.out]; exact hkn)⟩
        obtain ⟨y, hy⟩ : ∃ y, ys[k]? = some y := ⟨_, List.getElem?_eq_getElem (by rw [← HN'.out]; exact hkn)⟩
        have h1' := H1.out
        have h2' := H2.out
        rw [← HN.out] at h1'
        rw [← HN'.out] at h2'
        obtain ⟨g1, o1, rfl, -, b0⟩ := h1'.bl hx
        obtain ⟨g2, o2, rfl, -, d0⟩ := h2'.bl hy
        have HX := Lib.hid (And.intro hx hy)
        clear h1' h2' hx hy
        have i1 : (0 : Int) ≤ (k : Int) := by omega
        have i2 : (k : Int) < (n : Int) := by omega
        by_cases hxy : x = y
        · have HXY := Lib.hid hxy
          subst hxy
          go_wp2_with fail
          go_quiet (fail)
          go_wp2_with fail
          go_roundw
          case rel => exact ⟨k + 1, by omega, by go_num, fun j a b hj ha hb => by
            rcases Nat.lt_or_ge j k with h | h
            · exact HA.out j a b h ha hb
            · obtain rfl : j = k := by omega
              rw [HX.out.1] at ha
              rw [HX.out.2] at hb
              exact Option.some.inj (ha.symm.trans hb), _, rfl⟩
          case measure => simp [intOf]; omega
        · have hz : (x != y) = true := by rw [bne_iff_ne]; exact hxy
          have HXY := Lib.hid hxy
          clear hxy
          cases x
          · cases y
            · exact absurd rfl HXY.out
            · skip
              go_wp2_with fail
              go_quiet (fail)
              go_wp2_with fail
              go_ret
              exact ⟨ret_bool (decide_eq_false (fun e => HXY.out (by
                  have h1 := HX.out.1
                  rw [e, HX.out.2] at h1
                  exact (Option.some.inj h1).symm))).symm, belowN (belowN (Below.refl _ _) _) _⟩
          · cases y
            · skip
              go_wp2_with fail
              go_quiet (fail)
              go_wp2_with fail
              go_ret
              exact ⟨ret_bool (decide_eq_false (fun e => HXY.out (by
                  have h1 := HX.out.1
                  rw [e, HX.out.2] at h1
                  exact (Option.some.inj h1).symm))).symm, belowN (belowN (Below.refl _ _) _) _⟩
            · exact absurd rfl HXY.out
      · obtain rfl : k = n := by omega
        go_wp2_with fail
        go_ret
        exact ⟨ret_bool (decide_eq_true (ext_eq (HN.out.symm.trans HN'.out) (fun j x y hx hy => HA.out j x y (by rw [HN.out]; exact (List.getElem?_eq_some_iff.1 hx).1) hx hy))).symm, belowN (Below.refl _ _) _⟩
  · have hz : ((n : Int) != (n' : Int)) = true := by rw [bne_iff_ne]; omega
    have hne : decide (xs = ys) = false := decide_eq_false (fun e => hl (by rw [HN.out, HN'.out, e]))
    rw [hne]
    clear hne hl
    go_enter Tryd.func59, Tryd.ntmps59
    go_wp2_with fail
    go_ret
    exact ⟨rfl, Below.refl _ _⟩
set_option maxHeartbeats 1000000 in
theorem indexBl_any {B : Nat} {v : Value} {xs : List Bool} {w : World} (h : BlRd w B v xs) (x : Bool) :
    Calls Tryd.prog 84 #[v, .bool x] w fun e w' => ∃ r : Int, e = .returned (.int .i64 r) ∧ decide (0 ≤ r) = decide (x ∈ xs) ∧ Below w.heap.size w w' := by
  obtain ⟨A, cap, rfl, m1, m2⟩ := h.is
  unfold maxLen at m2
  obtain ⟨L, hL⟩ : ∃ L, L = xs.length := ⟨_, rfl⟩
  have HC := Lib.hid h
  have HLL := Lib.hid hL
  rw [← hL] at m1 ⊢
  clear h hL
  go_enter Tryd.func84, Tryd.ntmps84
  go_wp2_with fail
  go_loopw [8] (fun i wr => ∃ k : Nat, k ≤ L ∧ i = .int .i64 k ∧ (∀ (j : Nat) (y : Bool), j < k → xs[j]? = some y → y ≠ x) ∧ Below w.heap.size w wr) (fun i _ => L - (intOf i).toNat)
  case atStart => exact ⟨0, by omega, rfl, fun j y hj => by omega, Below.refl _ _⟩
  case round =>
    obtain ⟨k, hk, rfl, ha, hb⟩ := hrel
    by_cases hkn : k < L
    · obtain ⟨y, hy⟩ : ∃ y, xs[k]? = some y := ⟨_, List.getElem?_eq_getElem (by rw [← HLL.out]; exact hkn)⟩
      have hr := HC.out
      rw [← HLL.out] at hr
      obtain ⟨g, o, rfl, hg, d0⟩ := hr.bl hy
      have hgw : g < w.heap.size := World.block_lt_of_cell? w ⟨g, o + k, none⟩ d0
      have d1 : wr.cell? ⟨g, o + k, none⟩ = some (.bool y) := (hb.cell (p := ⟨g, o + k, none⟩) hgw).trans d0
      have i1 : (0 : Int) ≤ (k : Int) := by omega
      have i2 : (k : Int) < (L : Int) := by omega
      have HA := Lib.hid (And.intro ha (And.intro hb hy))
      clear ha hb hy hr d0
      by_cases hxy : x = y
      · have hz : (x == y) = true := by rw [beq_iff_eq]; exact hxy
        have HX := Lib.hid hxy
        clear hxy
        go_wp2_with fail
        go_ret
        refine ⟨k, rfl, ?_, HA.out.2.1⟩
        rw [decide_eq_true i1]
        exact (decide_eq_true (by rw [HX.out]; exact List.mem_of_getElem? HA.out.2.2)).symm
      · have hz : (x == y) = false := by rw [beq_eq_false_iff_ne]; exact hxy
        have HX := Lib.hid hxy
        clear hxy
        go_wp2_with fail
        go_roundw
        case rel => exact ⟨k + 1, by omega, by go_num, fun j z hj hz => by
          rcases Nat.lt_or_ge j k with h | h
          · exact HA.out.1 j z h hz
          · obtain rfl : j = k := by omega
            rw [HA.out.2.2] at hz
            injection hz with hz
            subst hz
            exact fun e => HX.out e.symm, HA.out.2.1⟩
        case measure => simp [intOf]; omega
    · obtain rfl : k = L := by omega
      have HA := Lib.hid (And.intro ha hb)
      clear ha hb
      go_wp2_with fail
      go_ret
      refine ⟨-1, rfl, ?_, HA.out.2⟩
      rw [decide_eq_false (show ¬ (0 : Int) ≤ -1 by omega)]
      refine (decide_eq_false fun hm => ?_).symm
      obtain ⟨j, hj, e⟩ := List.getElem_of_mem hm
      exact HA.out.1 j x (by rw [HLL.out]; exact hj) (by rw [List.getElem?_eq_getElem hj, e]) rfl

theorem containsBl_any {B : Nat} {v : Value} {xs : List Bool} {w : World} (h : BlRd w B v xs) (x : Bool) :
    Calls Tryd.prog 55 #[v, .bool x] w fun e w' => e = .returned (.bool (decide (x ∈ xs))) ∧ Below w.heap.size w w' := by
  have hi := indexBl_any h x
  clear h
  go_enter Tryd.func55, Tryd.ntmps55
  go_wp2_with fail
  refine hi.mono ?_
  rintro e w1 ⟨r, rfl, hr, hb⟩
  have HB := Lib.hid (And.intro hb hr)
  clear hi hb hr
  by_cases h0 : (0 : Int) ≤ r
  · go_wp2_with fail
    go_ret
    exact ⟨ret_bool (by rw [← HB.out.2] <;> simp [h0]), HB.out.1⟩
  · go_wp2_with fail
    go_ret
    exact ⟨ret_bool (by rw [← HB.out.2] <;> simp [h0]), HB.out.1⟩
end Go.Proofs.YtecpjeililiafaaDoor
