/-
  Joined by a program out of: RStays, BTab, IRd, RBools.
-/
import Derived.Test.YthjmncngegchjaaMgAN
import Derived.Test.YthjmncngegchjaaMgAM
import Derived.Test.YthjmncngegchjaaMgAE
import Derived.Deep.AppendLies
import Derived.Test.YthjmncngegchjaaProg
import Derived.WalkKit
import Derived.Deep.QuietTactic
import Derived.BigQuiet
import Derived.Lib.Hide

/-
  Contract of (*rows.record).stays.
-/
namespace Go.Proofs.Ythjmncngegchjaa
open Go.RowKit Go.Maps
set_option maxRecDepth 20000

/-- What the loop of stays keeps. -/
structure RsyR (w : World) (B Q : Nat) (A : Option Addr) (cap n : Nat) (cs : List Cl) (M1 M2 : Nat) (D : Nat) (V : Option Addr) (len capv : Nat) (v : Value) (acc : List (Int × Int)) (W : World) : Prop where
  rec_ : OvS w B Q A cap n cs M1 M2 W
  keys : NRd W D (.slice V len capv) (valsQ cs)
  own : SnOwn W D v acc
  sz : D ≤ W.heap.size
  lt : w.heap.size ≤ D ∧ Q < D
section
variable {w : World} {B Q : Nat} {A : Option Addr} {cap n : Nat} {cs : List Cl} {M1 M2 : Nat} {D : Nat} {V : Option Addr} {len capv : Nat} {v v' : Value} {acc acc' : List (Int × Int)} {W w' : World}
theorem RsyR.next (h : RsyR w B Q A cap n cs M1 M2 D V len capv v acc W) (hb : Below W.heap.size W w') : RsyR w B Q A cap n cs M1 M2 D V len capv v acc w' :=
  ⟨h.rec_.next hb, h.keys.below (hb.mono h.sz), h.own.then_ hb, Nat.le_trans h.sz hb.size, h.lt⟩
theorem RsyR.drew (h : RsyR w B Q A cap n cs M1 M2 D V len capv v acc W) : RsyR w B Q A cap n cs M1 M2 D V len capv v acc W.drew :=
  ⟨h.rec_.drew, h.keys, h.own, h.sz, h.lt⟩
theorem RsyR.app (h : RsyR w B Q A cap n cs M1 M2 D V len capv v acc W) (hb : Below D W w') (ho : SnOwn w' D v' acc') : RsyR w B Q A cap n cs M1 M2 D V len capv v' acc' w' := by
  have h1 := h.sz; have h2 := h.lt
  have hr := h.rec_.rec_
  have hs := hr.sz
  obtain ⟨m1, a1, a2⟩ := hr.enq
  obtain ⟨m2, b1, b2⟩ := hr.deq
  exact ⟨⟨⟨Lies.below hr.rcd hb (by omega), hr.cls.below (hb.mono (by omega)), ⟨m1, a1, a2.belowB hb (by omega)⟩, ⟨m2, b1, b2.belowB hb (by omega)⟩, hs⟩, h.rec_.below.trans (hb.mono h2.1)⟩, h.keys.below hb, ho, Nat.le_trans h1 hb.size, h2⟩
end
/-- The times of these values. -/
def staysF (cs : List Cl) (ks : List Int) : List (Int × Int) := ks.filterMap (stayV cs)
theorem staysF_cons (cs : List Cl) (k : Int) (ks : List Int) : staysF cs (k :: ks) = (match stayV cs k with | some s => [s] | none => []) ++ staysF cs ks := by
  unfold staysF
  rw [List.filterMap_cons]
  cases stayV cs k <;> rfl
set_option maxHeartbeats 16000000 in
theorem rstays_any {w : World} {B Q : Nat} {A : Option Addr} {cap n : Nat} {cs : List Cl} {M1 M2 : Nat} (h : Rec w B Q 1000 A cap n cs M1 M2 (numF (pAt cs)) (numF (tAt cs))) (hn : n = cs.length) (hv : ∀ x, (pAt cs x).isSome = true → 0 ≤ x ∧ x ≤ 1000) (hf : ∀ c ∈ cs, 0 ≤ c.frm ∧ c.frm ≤ 200) :
    Calls Try.prog 20 #[.pointer (some ⟨Q, 0, none⟩)] w fun e w' => ∃ v, e = .returned v ∧ SnRd w' w'.heap.size v (staysL cs) ∧ Below w.heap.size w w' ∧ ∃ D, w.heap.size ≤ D ∧ SnOwn w' D v (staysL cs) := by
  have HK := Lib.hid (rvals_any h hv)
  have H0 := Lib.hid (show OvS w B Q A cap n cs M1 M2 w from ⟨h, Below.refl _ _⟩)
  have HN := Lib.hid (And.intro hn hf)
  have HVL := Lib.hid (valsQ_len cs)
  clear h hn hv hf
  go_enter Try.func20, Try.ntmps20
  go_wp2_with fail
  refine HK.out.mono ?_
  rintro e w1 ⟨v, rfl, hks, hb1⟩
  obtain ⟨V, capv, rfl, -, hc9⟩ := hks.is
  unfold maxLen at hc9
  obtain ⟨len, hlen⟩ : ∃ len, len = (valsQ cs).length := ⟨_, rfl⟩
  rw [← hlen] at hks ⊢
  have hlen2 : len ≤ 1001 := by rw [hlen]; exact HVL.out
  have h0 : RsyR w B Q A cap n cs M1 M2 w1.heap.size V len capv (.slice none 0 0) [] w1 := ⟨H0.out.next hb1, hks, SnOwn.nil _ _, Nat.le_refl _, hb1.size, by have := (H0.out.next hb1).rec_.rcd.lt; exact this⟩
  have HL := Lib.hid hlen
  clear HK H0 hks hb1 hlen
  generalize w1.heap.size = D at h0
  go_wp2_with fail
  go_loopw [3, 13] (fun v i wr => ∃ (k : Nat) (acc : List (Int × Int)), k ≤ len ∧ i = .int .i64 k ∧ acc.length ≤ k ∧ acc ++ staysF cs ((valsQ cs).drop k) = staysL cs ∧ RsyR w B Q A cap n cs M1 M2 D V len capv v acc wr) (fun _ i _ => len - (intOf i).toNat)
  case atStart => exact ⟨0, [], by omega, rfl, by simp, by rw [List.drop_zero, List.nil_append]; rfl, h0⟩
  case round =>
    clear h0
    obtain ⟨k, acc, hk, rfl, hal, hac, hO⟩ := hrel
    by_cases hkn : k < len
    · obtain ⟨x, hx⟩ : ∃ x, (valsQ cs)[k]? = some x := ⟨_, List.getElem?_eq_getElem (by rw [← HL.out]; exact hkn)⟩
      rw [drop_at hx, staysF_cons] at hac
      have hxm := List.mem_of_getElem? hx
      have hxr := vals_rng hxm
      obtain ⟨i, c, a1, a2, a3, a4⟩ := p_get (mem_vals0 hxm)
      have hsv : stayV cs x = if c.til ≠ -1 ∧ c.til ≤ (if (tAt cs x).isSome = true then (tC cs x).frm - 1 else 199) then some (c.til, if (tAt cs x).isSome = true then (tC cs x).frm - 1 else 199) else none := by
        unfold stayV
        rw [a3, a4]
        simp only [Option.isSome_some, true_and]
      obtain ⟨gk, ok_, hA, -, d0⟩ := hO.keys.num hx
      subst hA
      obtain ⟨g, o, hA, -⟩ := hO.rec_.rec_.cls.cl a1
      subst hA
      have HEN := Lib.hid (fun W (hW : RsyR w B Q (some ⟨g, o, none⟩) cap n cs M1 M2 D (some ⟨gk, ok_, none⟩) len capv u3 acc W) => by have := hW.rec_.enq x hxr; rw [a3] at this; exact this)
      have HDE := Lib.hid (fun W (hW : RsyR w B Q (some ⟨g, o, none⟩) cap n cs M1 M2 D (some ⟨gk, ok_, none⟩) len capv u3 acc W) => hW.rec_.deq x hxr)
      have HCL := Lib.hid (fun W (hW : RsyR w B Q (some ⟨g, o, none⟩) cap n cs M1 M2 D (some ⟨gk, ok_, none⟩) len capv u3 acc W) => at_cl hW.rec_.rec_.cls a1)
      have li : (i : Int) < (n : Int) := by have := (List.getElem?_eq_some_iff.1 a1).1; have := HN.out.1; omega
      have zi : (0 : Int) ≤ (i : Int) := by omega
      have i1 : (0 : Int) ≤ (k : Int) := by omega
      have i2 : (k : Int) < (len : Int) := by omega
      obtain ⟨x0, x1, x2, x3, x4, x5, x6⟩ := c
      simp only at hsv HCL
      have HO := Lib.hid (And.intro hO (And.intro hac hal))
      have HSV0 := Lib.hid hsv
      clear hO hac hx hxm hxr a1 a2 a3 a4 hsv hal
      go_upto_region 5 with fail
      clear d0
      refine wp_region_held_drew (S := fun W => RsyR w B Q (some ⟨g, o, none⟩) cap n cs M1 M2 D (some ⟨gk, ok_, none⟩) len capv u3 acc W) (by kernel_rfl) (HO.out.1.drew) (fun hHeld => ?_)
      change wpAnyH _ _ _ _ _ 14 _ _ _
      clear hHeld
      have HS := Lib.hid (HO.out.1.drew)
      generalize wr.drew = WD at HS ⊢
      refine takeAt 0 17 (oi := _) (v := ?_) rfl rfl (by kernel_rfl) (by kernel_rfl) (by kernel_rfl) (fun _ _ _ h => h) (by rfl) ?_ (HS.out) ?_
      rotate_left
      · (intro w0 hSw; go_simp; try with_reducible rfl)
      simp only [Act.put, List.setIfInBounds_toArray, List.set_cons_zero, List.set_cons_succ]
      refine takeAt 1 18 (oi := _) (v := ?_) rfl rfl (by kernel_rfl) (by kernel_rfl) (by kernel_rfl) (fun _ _ _ h => h) (by rfl) ?_ (HS.out) ?_
      rotate_left
      · (intro w0 hSw; go_simp; try with_reducible rfl)
      simp only [Act.put, List.setIfInBounds_toArray, List.set_cons_zero, List.set_cons_succ]
      refine takeAt 2 19 (oi := _) (v := ?_) rfl rfl (by kernel_rfl) (by kernel_rfl) (by kernel_rfl) (fun _ _ _ h => h) (by rfl) ?_ (HS.out) ?_
      rotate_left
      · (intro w0 hSw; go_simp; try with_reducible rfl)
      simp only [Act.put, List.setIfInBounds_toArray, List.set_cons_zero, List.set_cons_succ]
      refine takeAt 3 20 (oi := _) (v := ?_) rfl rfl (by kernel_rfl) (by kernel_rfl) (by kernel_rfl) (fun _ _ _ h => h) (by rfl) ?_ (HS.out) ?_
      rotate_left
      · (intro w0 hSw; have r0 := Lies.cell hSw.rec_.rec_.rcd 0; simp only [List.getElem?_toArray, List.getElem?_cons_zero] at r0; go_simp; try with_reducible rfl)
      simp only [Act.put, List.setIfInBounds_toArray, List.set_cons_zero, List.set_cons_succ]
      refine takeAt 4 21 (oi := _) (v := ?_) rfl rfl (by kernel_rfl) (by kernel_rfl) (by kernel_rfl) (fun _ _ _ h => h) (by rfl) ?_ (HS.out) ?_
      rotate_left
      · (intro w0 hSw; go_simp; try with_reducible rfl)
      simp only [Act.put, List.setIfInBounds_toArray, List.set_cons_zero, List.set_cons_succ]
      refine takeAt 5 22 (oi := _) (v := ?_) rfl rfl (by kernel_rfl) (by kernel_rfl) (by kernel_rfl) (fun _ _ _ h => h) (by rfl) ?_ (HS.out) ?_
      rotate_left
      · (intro w0 hSw; go_simp; try with_reducible rfl)
      simp only [Act.put, List.setIfInBounds_toArray, List.set_cons_zero, List.set_cons_succ]
      refine takeAt 6 23 (oi := _) (v := ?_) rfl rfl (by kernel_rfl) (by kernel_rfl) (by kernel_rfl) (fun _ _ _ h => h) (by rfl) ?_ (HS.out) ?_
      rotate_left
      · (intro w0 hSw; go_simp; try with_reducible rfl)
      simp only [Act.put, List.setIfInBounds_toArray, List.set_cons_zero, List.set_cons_succ]
      refine takeAt 7 24 (oi := _) (v := ?_) rfl rfl (by kernel_rfl) (by kernel_rfl) (by kernel_rfl) (fun _ _ _ h => h) (by rfl) ?_ (HS.out) ?_
      rotate_left
      · (intro w0 hSw; have r1 := Lies.cell hSw.rec_.rec_.rcd 1; simp only [List.getElem?_toArray, List.getElem?_cons_zero, List.getElem?_cons_succ] at r1; go_simp; try with_reducible rfl)
      simp only [Act.put, List.setIfInBounds_toArray, List.set_cons_zero, List.set_cons_succ]
      refine takeAt 8 25 (oi := _) (v := ?_) rfl rfl (by kernel_rfl) (by kernel_rfl) (by kernel_rfl) (fun _ _ _ h => h) (by rfl) ?_ (HS.out) ?_
      rotate_left
      · (intro w0 hSw; go_simp; try with_reducible rfl)
      simp only [Act.put, List.setIfInBounds_toArray, List.set_cons_zero, List.set_cons_succ]
      refine takeAt 9 26 (oi := _) (v := ?_) rfl rfl (by kernel_rfl) (by kernel_rfl) (by kernel_rfl) (fun _ _ _ h => h) (by rfl) ?_ (HS.out) ?_
      rotate_left
      · (intro w0 hSw; have lk := HEN.out w0 hSw; go_simp; try with_reducible rfl)
      simp only [Act.put, List.setIfInBounds_toArray, List.set_cons_zero, List.set_cons_succ]
      refine takeAt 10 27 (oi := _) (v := ?_) rfl rfl (by kernel_rfl) (by kernel_rfl) (by kernel_rfl) (fun _ _ _ h => h) (by rfl) ?_ (HS.out) ?_
      rotate_left
      · (intro w0 hSw; go_simp; try with_reducible rfl)
      simp only [Act.put, List.setIfInBounds_toArray, List.set_cons_zero, List.set_cons_succ]
      refine takeAt 11 28 (oi := _) (v := ?_) rfl rfl (by kernel_rfl) (by kernel_rfl) (by kernel_rfl) (fun _ _ _ h => h) (by rfl) ?_ (HS.out) ?_
      rotate_left
      · (intro w0 hSw; obtain ⟨d0, d1, d2, d3, d4, d5, d6⟩ := HCL.out w0 hSw; go_simp; try with_reducible rfl)
      simp only [Act.put, List.setIfInBounds_toArray, List.set_cons_zero, List.set_cons_succ]
      have HS1 := Lib.hid (HS.out.next ((Below.refl _ _).alloc (Nat.le_refl _) (.cells #[.int .i64 0, .int .i64 0, .int .i64 0, .int .i64 0, .int .i64 0, .int .i64 0, .int .i64 0] 49)))
      have HS2 := Lib.hid (And.intro (HS.out.next ((Below.refl _ _).alloc (Nat.le_refl _) (.cells #[.int .i64 x0, .int .i64 x1, .int .i64 x2, .int .i64 x3, .int .i64 x4, .int .i64 x5, .int .i64 x6] 49))) (Lies.new WD 49 #[.int .i64 x0, .int .i64 x1, .int .i64 x2, .int .i64 x3, .int .i64 x4, .int .i64 x5, .int .i64 x6]))
      refine wpAnyH_ready (rs := [12]) (by kernel_rfl) (by simp) ?_
      refine AllReadyH.cons (o := _) rfl (fun K hK => ?_) AllReadyH.nil
      go_simp
      refine hK.out _ _ HS1.out (fun _ => ?_)
      clear hK K
      refine wpAnyH_ready (rs := [13]) (by kernel_rfl) (by simp) ?_
      refine AllReadyH.cons (o := _) rfl (fun K hK => ?_) AllReadyH.nil
      go_simp
      refine hK.out _ _ HS2.out.1 (fun _ => ?_)
      clear hK K
      refine wpAnyH_done (by kernel_rfl) ?_ _
      have HG := Lib.hid (And.intro HS.out.sz (And.intro HS.out.lt (fun g hg => (World.ownsRow.lt HS.out.own g hg).2)))
      clear HS HS1 HEN HCL
      have HAC0 := Lib.hid HO.out.2
      clear HO
      obtain ⟨W3, hW3⟩ : ∃ W3, W3 = (WD.alloc (.cells #[.int .i64 x0, .int .i64 x1, .int .i64 x2, .int .i64 x3, .int .i64 x4, .int .i64 x5, .int .i64 x6] 49)).alloc (.cells #[.int .i64 x6, .int .i64 199] 35) := ⟨_, rfl⟩
      have H3 := Lib.hid (show RsyR w B Q (some ⟨g, o, none⟩) cap n cs M1 M2 D (some ⟨gk, ok_, none⟩) len capv u3 acc W3 ∧ Lies W3 WD.heap.size 49 #[.int .i64 x0, .int .i64 x1, .int .i64 x2, .int .i64 x3, .int .i64 x4, .int .i64 x5, .int .i64 x6] ∧ Lies W3 (WD.heap.size + 1) 35 #[.int .i64 x6, .int .i64 199] by
        rw [hW3]
        refine ⟨HS2.out.1.next ((Below.refl _ _).alloc (Nat.le_refl _) _), Lies.alloc HS2.out.2 _, ?_⟩
        have := Lies.new (WD.alloc (.cells #[.int .i64 x0, .int .i64 x1, .int .i64 x2, .int .i64 x3, .int .i64 x4, .int .i64 x5, .int .i64 x6] 49)) 35 #[.int .i64 x6, .int .i64 199]
        rw [World.size_alloc] at this
        exact this)
      have e6 := Lies.cell HS2.out.2 6
      simp only [List.getElem?_toArray, List.getElem?_cons_zero, List.getElem?_cons_succ] at e6
      have HW3 := Lib.hid hW3
      clear hW3 HS2
      go_upto_region 7 with fail
      change Code.wp _ _ _ _ ((WD.alloc (.cells #[.int .i64 x0, .int .i64 x1, .int .i64 x2, .int .i64 x3, .int .i64 x4, .int .i64 x5, .int .i64 x6] 49)).alloc (.cells #[.int .i64 x6, .int .i64 199] 35))
      rw [← HW3.out]
      clear HW3 e6
      obtain ⟨Y, hY⟩ : ∃ Y, Y = WD.heap.size + 1 := ⟨_, rfl⟩
      rw [← hY] at H3 ⊢
      have HYX := Lib.hid (show WD.heap.size < Y by omega)
      clear hY
      generalize WD.heap.size = X at H3 HYX HG ⊢
      have hde := HDE.out W3 H3.out.1
      obtain ⟨okt, hokt⟩ : ∃ okt, okt = (tAt cs x).isSome := ⟨_, rfl⟩
      obtain ⟨z, hz⟩ : ∃ z, z = (tAt cs x).getD 0 := ⟨_, rfl⟩
      rw [← hokt, ← hz] at hde
      have r2 := Lies.cell H3.out.1.rec_.rec_.rcd 2
      simp only [List.getElem?_toArray, List.getElem?_cons_zero, List.getElem?_cons_succ] at r2
      have HOK := Lib.hid (And.intro hokt hz)
      clear hokt hz HDE
      go_upto_region 8 with fail
      clear hde r2
      cases okt
      · have HSV := Lib.hid (show stayV cs x = if x6 ≠ -1 ∧ x6 ≤ 199 then some (x6, 199) else none by rw [HSV0.out, ← HOK.out.1]; rfl)
        have HAC := Lib.hid HAC0.out
        have H5 := H3
        clear HSV0 HOK HAC0 H3 HYX HG
        generalize W3 = W5 at H5 ⊢
        have e0 := Lies.cell H5.out.2.1 0
        have e1 := Lies.cell H5.out.2.1 1
        have e2 := Lies.cell H5.out.2.1 2
        have e3 := Lies.cell H5.out.2.1 3
        have e4 := Lies.cell H5.out.2.1 4
        have e5 := Lies.cell H5.out.2.1 5
        have e6 := Lies.cell H5.out.2.1 6
        simp only [List.getElem?_toArray, List.getElem?_cons_zero, List.getElem?_cons_succ] at e0 e1 e2 e3 e4 e5 e6
        have HRS := Lib.hid (rresp_any ⟨x0, x1, x2, x3, x4, x5, x6⟩ W5)
        go_wp2_with fail
        refine HRS.out.mono ?_
        rintro e w6 ⟨rfl, hb6⟩
        have H6 := Lib.hid (And.intro (H5.out.1.next hb6) (Lies.below H5.out.2.2 hb6 H5.out.2.2.lt))
        clear HRS H5 hb6 e0 e1 e2 e3 e4 e5 e6
        have f0 := Lies.cell H6.out.2 0
        have f1 := Lies.cell H6.out.2 1
        simp only [List.getElem?_toArray, List.getElem?_cons_zero, List.getElem?_cons_succ] at f0 f1
        simp only
        by_cases ht : x6 = -1
        · have hz : (x6 != -1) = false := by rw [ht]; rfl
          rw [hz]
          have hac := HAC.out.1
          rw [HSV.out, if_neg (fun h => h.1 ht)] at hac
          have HZ := Lib.hid (And.intro hac (And.intro H6.out.1 HAC.out.2))
          clear hac ht hz H6 HAC HSV
          go_wp2_with fail
          go_roundw
          case rel => exact ⟨k + 1, acc, by omega, by go_num, by have := HZ.out.2.2; omega, HZ.out.1, HZ.out.2.1⟩
          case measure => simp [intOf]; omega
        · have hz : (x6 != -1) = true := by rw [bne_iff_ne]; exact ht
          rw [hz]
          by_cases hle : x6 ≤ 199
          · have hac := HAC.out.1
            rw [HSV.out, if_pos ⟨ht, hle⟩] at hac
            have HZ := Lib.hid (And.intro hac HAC.out.2)
            have hO4 := H6.out.1.next ((Below.refl _ _).alloc (Nat.le_refl _) (.cells #[.int .i64 x6, .int .i64 (199)] 35))
            have hown := hO4.own
            have hsz := hO4.sz
            have hnew := new_cells w6 35 (snCs (x6, 199))
            obtain ⟨Av, cv, hvv⟩ := own_slice_sn hO4.own
            have hal := HAC.out.2
            rw [hvv] at hown ⊢
            have HO4 := Lib.hid hO4
            clear hO4 hac ht hz H6 HAC HSV
            go_wp2_with (at_builtin; refine wpList_app_sn rfl (.tmp 61) (.tmp 63) rfl D w6.heap.size _ acc (x6, 199) rfl rfl hown hnew (by omega) hsz ?_; intro v' w7 ho7 hb7 _)
            go_roundw
            case rel => exact ⟨k + 1, acc ++ [(x6, 199)], by omega, by go_num, by rw [List.length_append]; simp; omega, by rw [List.append_assoc]; exact HZ.out.1, HO4.out.app hb7 ho7⟩
            case measure => simp [intOf]; omega
          · have hd : decide (x6 ≤ 199) = false := decide_eq_false hle
            have hac := HAC.out.1
            rw [HSV.out, if_neg (fun h => hle h.2)] at hac
            have HZ := Lib.hid (And.intro hac (And.intro H6.out.1 HAC.out.2))
            clear hac ht hz hle H6 HAC HSV
            go_wp2_with fail
            go_roundw
            case rel => exact ⟨k + 1, acc, by omega, by go_num, by have := HZ.out.2.2; omega, HZ.out.1, HZ.out.2.1⟩
            case measure => simp [intOf]; omega
      · obtain ⟨j, d, b1, b2, b3, b4, _⟩ := t_get HOK.out.1.symm
        have ez : z = j := by rw [HOK.out.2, b3]; rfl
        subst ez
        have HSV := Lib.hid (show stayV cs x = if x6 ≠ -1 ∧ x6 ≤ d.frm - 1 then some (x6, d.frm - 1) else none by rw [HSV0.out, ← HOK.out.1, b4]; rfl)
        have hdf := HN.out.2 d (List.mem_of_getElem? b1)
        have hcl := at_cl H3.out.1.rec_.rec_.cls b1
        have lz : (z : Int) < (n : Int) := by have := (List.getElem?_eq_some_iff.1 b1).1; have := HN.out.1; omega
        have zz : (0 : Int) ≤ (z : Int) := by omega
        obtain ⟨y0, y1, y2, y3, y4, y5, y6⟩ := d
        simp only at hcl hdf HSV
        obtain ⟨d0, d1, d2, d3, d4, d5, d6⟩ := hcl
        have r0 := Lies.cell H3.out.1.rec_.rec_.rcd 0
        have f0 := Lies.cell H3.out.2.2 0
        have f1 := Lies.cell H3.out.2.2 1
        have ff : ∀ i, W3.frozen? ⟨Y, i, none⟩ = false := fun i => Lies.frozen H3.out.2.2 i
        simp only [List.getElem?_toArray, List.getElem?_cons_zero, List.getElem?_cons_succ] at r0 f0 f1
        have hwz : IntKind.i64.wrap (y5 - 1) = y5 - 1 := by rw [IntKind.wrap_i64]; omega
        obtain ⟨W5, hW5⟩ : ∃ W5, W5 = W3.setCell ⟨Y, 1, none⟩ (.int .i64 (y5 - 1)) := ⟨_, rfl⟩
        have hYY : D ≤ X ∧ X < Y := ⟨HG.out.1, HYX.out⟩
        have H5 := Lib.hid (show RsyR w B Q (some ⟨g, o, none⟩) cap n cs M1 M2 D (some ⟨gk, ok_, none⟩) len capv u3 acc W5 ∧ Lies W5 X 49 #[.int .i64 x0, .int .i64 x1, .int .i64 x2, .int .i64 x3, .int .i64 x4, .int .i64 x5, .int .i64 x6] ∧ Lies W5 Y 35 #[.int .i64 x6, .int .i64 (y5 - 1)] by
          have hbY : Below Y W3 W5 := by rw [hW5]; exact (Below.refl _ _).setCell (p := ⟨Y, 1, none⟩) (Nat.le_refl _) _
          refine ⟨H3.out.1.app (hbY.mono (by omega)) ?_, ?_, ?_⟩
          · rw [hW5]
            refine World.ownsRow.kept H3.out.1.own (row := some Y) ⟨rfl, rfl, rfl, by rw [World.size_setCell]; exact Nat.le_refl _, fun j _ hne => Below.heap_setCell W3 _ _ j (fun e => hne (by rw [e]))⟩ ?_
            cases hv : u3.ownBlock with
            | none => exact .inl rfl
            | some g =>
              right
              have := HG.out.2.2 g hv
              intro e
              injection e with e
              omega
          · exact Lies.below H3.out.2.1 hbY (by omega)
          · rw [hW5]
            exact Lies.cast (Lies.set_ H3.out.2.2 1 (.int .i64 (y5 - 1))) (by simp))
        have HAC := Lib.hid HAC0.out
        have HW5 := Lib.hid hW5
        clear b1 b2 b3 b4 HSV0 HOK HAC0 H3 HYX HG hW5 hYY
        go_upto_region 10 with fail
        change Code.wp _ _ _ _ (W3.setCell ⟨Y, 1, none⟩ (.int .i64 (y5 - 1)))
        rw [← HW5.out]
        clear HW5 d0 d1 d2 d3 d4 d5 d6 r0 f0 f1 ff
        have e0 := Lies.cell H5.out.2.1 0
        have e1 := Lies.cell H5.out.2.1 1
        have e2 := Lies.cell H5.out.2.1 2
        have e3 := Lies.cell H5.out.2.1 3
        have e4 := Lies.cell H5.out.2.1 4
        have e5 := Lies.cell H5.out.2.1 5
        have e6 := Lies.cell H5.out.2.1 6
        simp only [List.getElem?_toArray, List.getElem?_cons_zero, List.getElem?_cons_succ] at e0 e1 e2 e3 e4 e5 e6
        have HRS := Lib.hid (rresp_any ⟨x0, x1, x2, x3, x4, x5, x6⟩ W5)
        go_wp2_with fail
        refine HRS.out.mono ?_
        rintro e w6 ⟨rfl, hb6⟩
        have H6 := Lib.hid (And.intro (H5.out.1.next hb6) (Lies.below H5.out.2.2 hb6 H5.out.2.2.lt))
        clear HRS H5 hb6 e0 e1 e2 e3 e4 e5 e6
        have f0 := Lies.cell H6.out.2 0
        have f1 := Lies.cell H6.out.2 1
        simp only [List.getElem?_toArray, List.getElem?_cons_zero, List.getElem?_cons_succ] at f0 f1
        simp only
        by_cases ht : x6 = -1
        · have hz : (x6 != -1) = false := by rw [ht]; rfl
          rw [hz]
          have hac := HAC.out.1
          rw [HSV.out, if_neg (fun h => h.1 ht)] at hac
          have HZ := Lib.hid (And.intro hac (And.intro H6.out.1 HAC.out.2))
          clear hac ht hz H6 HAC HSV
          go_wp2_with fail
          go_roundw
          case rel => exact ⟨k + 1, acc, by omega, by go_num, by have := HZ.out.2.2; omega, HZ.out.1, HZ.out.2.1⟩
          case measure => simp [intOf]; omega
        · have hz : (x6 != -1) = true := by rw [bne_iff_ne]; exact ht
          rw [hz]
          by_cases hle : x6 ≤ y5 - 1
          · have hac := HAC.out.1
            rw [HSV.out, if_pos ⟨ht, hle⟩] at hac
            have HZ := Lib.hid (And.intro hac HAC.out.2)
            have hO4 := H6.out.1.next ((Below.refl _ _).alloc (Nat.le_refl _) (.cells #[.int .i64 x6, .int .i64 (y5 - 1)] 35))
            have hown := hO4.own
            have hsz := hO4.sz
            have hnew := new_cells w6 35 (snCs (x6, y5 - 1))
            obtain ⟨Av, cv, hvv⟩ := own_slice_sn hO4.own
            have hal := HAC.out.2
            rw [hvv] at hown ⊢
            have HO4 := Lib.hid hO4
            clear hO4 hac ht hz H6 HAC HSV
            go_wp2_with (at_builtin; refine wpList_app_sn rfl (.tmp 61) (.tmp 63) rfl D w6.heap.size _ acc (x6, y5 - 1) rfl rfl hown hnew (by omega) hsz ?_; intro v' w7 ho7 hb7 _)
            go_roundw
            case rel => exact ⟨k + 1, acc ++ [(x6, y5 - 1)], by omega, by go_num, by rw [List.length_append]; simp; omega, by rw [List.append_assoc]; exact HZ.out.1, HO4.out.app hb7 ho7⟩
            case measure => simp [intOf]; omega
          · have hd : decide (x6 ≤ y5 - 1) = false := decide_eq_false hle
            have hac := HAC.out.1
            rw [HSV.out, if_neg (fun h => hle h.2)] at hac
            have HZ := Lib.hid (And.intro hac (And.intro H6.out.1 HAC.out.2))
            clear hac ht hz hle H6 HAC HSV
            go_wp2_with fail
            go_roundw
            case rel => exact ⟨k + 1, acc, by omega, by go_num, by have := HZ.out.2.2; omega, HZ.out.1, HZ.out.2.1⟩
            case measure => simp [intOf]; omega
    · obtain rfl : len = k := by omega
      have hnil : (valsQ cs).drop len = [] := List.drop_eq_nil_of_le (by rw [← HL.out]; exact Nat.le_refl _)
      rw [hnil, show staysF cs [] = [] from rfl, List.append_nil] at hac
      have HO := Lib.hid (And.intro hO hac)
      clear hO hac hnil
      obtain ⟨Av, cv, rfl⟩ := own_slice_sn HO.out.1.own
      go_wp2_with fail
      go_ret
      refine ⟨_, rfl, ?_, HO.out.1.rec_.below, D, HO.out.1.lt.1, ?_⟩
      · rw [← HO.out.2]
        exact HO.out.1.own.rd
      · rw [← HO.out.2]
        exact HO.out.1.own
end Go.Proofs.Ythjmncngegchjaa

/-
  Tables of truths.
-/
namespace Go.Proofs.Ythjmncngegchjaa
open Go.RowKit
set_option maxRecDepth 20000

/-- The cells of a table of N truths. -/
def bitCs (N : Nat) (S : Nat → Bool) : Array Value := (Array.range N).map fun i => .bool (S i)
def BTab (w : World) (g N : Nat) (S : Nat → Bool) : Prop := Lies w g 4 (bitCs N S)
theorem bitCs_get (N : Nat) (S : Nat → Bool) (i : Nat) (h : i < N) : (bitCs N S)[i]? = some (.bool (S i)) := by
  simp [bitCs, h]
theorem bitCs_set (N : Nat) (S : Nat → Bool) (i : Nat) (x : Bool) : (bitCs N S).setIfInBounds i (.bool x) = bitCs N (fun j => if j = i then x else S j) := by
  apply Array.ext_getElem?
  intro j
  rw [Array.getElem?_setIfInBounds]
  by_cases h : i = j
  · subst h
    by_cases hi : i < N <;> simp [bitCs, hi]
  · rw [if_neg h]
    by_cases hj : j < N <;> simp [bitCs, hj, show ¬ j = i from fun e => h e.symm]
theorem BTab.cell {w : World} {g N : Nat} {S : Nat → Bool} (h : BTab w g N S) {i : Nat} (hi : i < N) : w.cell? ⟨g, i, none⟩ = some (.bool (S i)) := by
  rw [Lies.cell h, bitCs_get N S i hi]
theorem BTab.set_ {w : World} {g N : Nat} {S : Nat → Bool} (h : BTab w g N S) (i : Nat) (x : Bool) : BTab (w.setCell ⟨g, i, none⟩ (.bool x)) g N (fun j => if j = i then x else S j) :=
  Lies.cast (Lies.set_ h i (.bool x)) (bitCs_set N S i x)

theorem info_bool : (Try.prog.info? 4).map (fun i => (i.zero, i.size, i.bytes)) = some (some (.bool false), 1, 1) := by kernel_rfl
theorem made_bools (N : Nat) (l : Int) (hl : l = N) (hN : N ≤ 65536) (w : World) :
    (Instr.makeSlice 47 (.int .i64 l) (.int .i64 l)).run Try.prog w = .ok (.slice (some ⟨w.heap.size, 0, none⟩) N N) (w.alloc (.cells (bitCs N fun _ => false) 4)) := by
  obtain ⟨i0, hi, hz0, hz1, hz2⟩ := info_parts info_bool
  subst hl
  rw [run_make w 47 4 i0 (.bool false) Try.underlying47 hi hz0 .i64 .i64 N N (by omega) (by omega) (by rw [hz2]; omega) (by omega), hz1]
  simp only [Int.toNat_natCast, Nat.mul_one]
  congr 3
  apply Array.ext
  · simp [bitCs, madeCells]
  · intro j h1 h2
    simp [bitCs, madeCells, Value.cells, Nat.mod_one]

end Go.Proofs.Ythjmncngegchjaa

/-
  Slices that read as a list of integers.
-/
namespace Go.Proofs.Ythjmncngegchjaa
open Go.RowKit
set_option maxRecDepth 20000
/-- The value v is a slice that reads as the integers xs, in a block below B. -/
def IRd (w : World) (B : Nat) (v : Value) (xs : List Int) : Prop :=
  ∃ A cap, v = .slice A xs.length cap ∧ (0 < xs.length → ∃ g, A = some ⟨g, 0, none⟩ ∧ g < B ∧ ∀ j, j < xs.length → w.cell? ⟨g, j, none⟩ = some (.int .i64 (xs.getD j 0)))
theorem IRd.below {w w' : World} {B : Nat} {v : Value} {xs : List Int} (h : IRd w B v xs) (hb : Below B w w') : IRd w' B v xs := by
  obtain ⟨A, cap, hv, h2⟩ := h
  refine ⟨A, cap, hv, fun h0 => ?_⟩
  obtain ⟨g, hA, hg, hc⟩ := h2 h0
  exact ⟨g, hA, hg, fun j hj => (hb.cell (p := ⟨g, j, none⟩) hg).trans (hc j hj)⟩
theorem IRd.mono {w : World} {B B' : Nat} {v : Value} {xs : List Int} (h : IRd w B v xs) (hB : B ≤ B') : IRd w B' v xs := by
  obtain ⟨A, cap, hv, h2⟩ := h
  refine ⟨A, cap, hv, fun h0 => ?_⟩
  obtain ⟨g, hA, hg, hc⟩ := h2 h0
  exact ⟨g, hA, by omega, hc⟩
end Go.Proofs.Ythjmncngegchjaa

/-
  slices.Index and slices.Contains over truths.
-/
namespace Go.Proofs.Ythjmncngegchjaa
open Go.RowKit
set_option maxRecDepth 20000

set_option maxHeartbeats 1000000 in
theorem bindex_any {F a n cap N : Nat} {S : Nat → Bool} {t : TypeId} {w : World} (h : Lies w F t (bitCs N S)) (hN : a + n ≤ N) (hn : n ≤ 1000000) (x : Bool) :
    Calls Try.prog 55 #[.slice (some ⟨F, a, none⟩) n cap, .bool x] w fun e w' => ∃ r : Int, e = .returned (.int .i64 r) ∧ ((0 ≤ r ∧ ∃ k, k < n ∧ S (a + k) = x) ∨ (r = -1 ∧ ∀ k, k < n → S (a + k) ≠ x)) ∧ Below w.heap.size w w' := by
  have HC := Lib.hid (And.intro h hN)
  clear h hN
  go_enter Try.func55, Try.ntmps55
  go_wp2_with fail
  go_loopw [8] (fun i wr => ∃ k : Nat, k ≤ n ∧ i = .int .i64 k ∧ (∀ j, j < k → S (a + j) ≠ x) ∧ Below w.heap.size w wr) (fun i _ => n - (intOf i).toNat)
  case atStart => exact ⟨0, by omega, rfl, fun j hj => by omega, Below.refl _ _⟩
  case round =>
    obtain ⟨k, hk, rfl, ha, hb⟩ := hrel
    by_cases hkn : k < n
    · have d1 := Lies.cell (Lies.below HC.out.1 hb HC.out.1.lt) (a + k)
      rw [bitCs_get _ _ _ (by have := HC.out.2; omega)] at d1
      have i1 : (0 : Int) ≤ (k : Int) := by omega
      have i2 : (k : Int) < (n : Int) := by omega
      generalize hy : S (a + k) = y at d1
      have HA := Lib.hid (And.intro ha (And.intro hb hy))
      clear ha hb hy
      by_cases hxy : x = y
      · have hz : (x == y) = true := by rw [beq_iff_eq]; exact hxy
        have HX := Lib.hid hxy
        clear hxy
        go_wp2_with fail
        go_ret
        exact ⟨k, rfl, .inl ⟨i1, k, hkn, HA.out.2.2.trans HX.out.symm⟩, HA.out.2.1⟩
      · have hz : (x == y) = false := by rw [beq_eq_false_iff_ne]; exact hxy
        have HX := Lib.hid hxy
        clear hxy
        go_wp2_with fail
        go_roundw
        case rel => exact ⟨k + 1, by omega, by go_num, fun j hj => by
          rcases Nat.lt_or_ge j k with h | h
          · exact HA.out.1 j h
          · obtain rfl : j = k := by omega
            rw [HA.out.2.2]
            exact fun e => HX.out e.symm, HA.out.2.1⟩
        case measure => simp [intOf]; omega
    · obtain rfl : k = n := by omega
      have HA := Lib.hid (And.intro ha hb)
      clear ha hb
      go_wp2_with fail
      go_ret
      exact ⟨-1, rfl, .inr ⟨rfl, HA.out.1⟩, HA.out.2⟩
theorem bcontains_any {F a n cap N : Nat} {S : Nat → Bool} {t : TypeId} {w : World} (h : Lies w F t (bitCs N S)) (hN : a + n ≤ N) (hn : n ≤ 1000000) (x : Bool) :
    Calls Try.prog 46 #[.slice (some ⟨F, a, none⟩) n cap, .bool x] w fun e w' => ∃ b : Bool, e = .returned (.bool b) ∧ (b = true ↔ ∃ k, k < n ∧ S (a + k) = x) ∧ Below w.heap.size w w' := by
  have hi := Lib.hid (bindex_any (cap := cap) h hN hn x)
  clear h
  go_enter Try.func46, Try.ntmps46
  go_wp2_with fail
  refine hi.out.mono ?_
  rintro e w1 ⟨r, rfl, hr, hb⟩
  rcases hr with ⟨h0, hk⟩ | ⟨rfl, hk⟩
  · have HB := Lib.hid (And.intro hb hk)
    clear hi hb hk
    go_wp2_with fail
    go_ret
    exact ⟨true, rfl, ⟨fun _ => HB.out.2, fun _ => rfl⟩, HB.out.1⟩
  · have HB := Lib.hid (And.intro hb hk)
    clear hi hb hk
    go_wp2_with fail
    go_ret
    exact ⟨false, rfl, ⟨fun h => (by cases h), fun ⟨k, h1, h2⟩ => absurd h2 (HB.out.2 k h1)⟩, HB.out.1⟩
end Go.Proofs.Ythjmncngegchjaa
