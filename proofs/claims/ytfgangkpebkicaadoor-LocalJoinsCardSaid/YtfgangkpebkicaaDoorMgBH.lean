/-
  Joined by a program out of: LJnsW.
-/
import Derived.Test.YtfgangkpebkicaaDoorMgBA
import Derived.Test.YtfgangkpebkicaaDoorMgBE
import Derived.Test.YtfgangkpebkicaaDoorMgBF
import Derived.Test.YtfgangkpebkicaaDoorMgBG

/-
  The walk of LocalJoins (begun: up to the loops).
-/
namespace Go.Proofs.YtfgangkpebkicaaDoor
open Go.RowKit Go.Maps
set_option maxRecDepth 20000

/-- A relation written over one. -/
def fillRel (W : World) (K : Nat) (n : Int) (a : Nat → Nat) : World := ((((((((((((((W).setCell ⟨K, 0, none⟩ (.int .i64 n)).setCell ⟨K, 1, none⟩ (.int .u16 (a 0))).setCell ⟨K, 2, none⟩ (.int .u16 (a 1))).setCell ⟨K, 3, none⟩ (.int .u16 (a 2))).setCell ⟨K, 4, none⟩ (.int .u16 (a 3))).setCell ⟨K, 5, none⟩ (.int .u16 (a 4))).setCell ⟨K, 6, none⟩ (.int .u16 (a 5))).setCell ⟨K, 7, none⟩ (.int .u16 (a 6))).setCell ⟨K, 8, none⟩ (.int .u16 (a 7))).setCell ⟨K, 9, none⟩ (.int .u16 (a 8))).setCell ⟨K, 10, none⟩ (.int .u16 (a 9))).setCell ⟨K, 11, none⟩ (.int .u16 (a 10))).setCell ⟨K, 12, none⟩ (.int .u16 (a 11)))
theorem fillRel_below {B : Nat} {w0 W : World} {K : Nat} {n : Int} {a : Nat → Nat} (h : Below B w0 W) (hK : B ≤ K) : Below B w0 (fillRel W K n a) := by
  unfold fillRel
  exact (((((((((((((h.setCell (p := ⟨K, 0, none⟩) hK _).setCell (p := ⟨K, 1, none⟩) hK _).setCell (p := ⟨K, 2, none⟩) hK _).setCell (p := ⟨K, 3, none⟩) hK _).setCell (p := ⟨K, 4, none⟩) hK _).setCell (p := ⟨K, 5, none⟩) hK _).setCell (p := ⟨K, 6, none⟩) hK _).setCell (p := ⟨K, 7, none⟩) hK _).setCell (p := ⟨K, 8, none⟩) hK _).setCell (p := ⟨K, 9, none⟩) hK _).setCell (p := ⟨K, 10, none⟩) hK _).setCell (p := ⟨K, 11, none⟩) hK _).setCell (p := ⟨K, 12, none⟩) hK _)
theorem fillRel_lies {W : World} {K : Nat} {n n0 : Int} {a a0 : Nat → Nat} (h : RelB W K n0 a0) : RelB (fillRel W K n a) K n a := by
  unfold fillRel RelB
  exact Lies.cast (Lies.set_ (Lies.set_ (Lies.set_ (Lies.set_ (Lies.set_ (Lies.set_ (Lies.set_ (Lies.set_ (Lies.set_ (Lies.set_ (Lies.set_ (Lies.set_ (Lies.set_ h 0 _) 1 _) 2 _) 3 _) 4 _) 5 _) 6 _) 7 _) 8 _) 9 _) 10 _) 11 _) 12 _) (by simp [relCs])
/-- What the walk of LocalJoins keeps. -/
structure JsS (w : World) (b K : Nat) (Vj : Value) (Rl : List (Int × Int)) (Vc : Value) (cs : List Cl) (m : Nat) (F : Int → Option Int) (nn : Nat) (rel : Nat → Nat → Bool) (W : World) : Prop where
  below : Below w.heap.size w W
  map : NMap W b m F
  must : RelB W K nn (relP rel nn)
  res : SRd W b Vj Rl
  cls : CRd W b Vc cs
  sz : w.heap.size ≤ b ∧ b < K
section
variable {w : World} {b K : Nat} {Vj : Value} {Rl : List (Int × Int)} {Vc : Value} {cs : List Cl} {m m' : Nat} {F F' : Int → Option Int} {nn : Nat} {rel rel' : Nat → Nat → Bool} {W w' : World}
theorem below_setRow {B : Nat} {a W : World} (h : Below B a W) {g : Nat} (hg : B ≤ g) (c : Array Value) : Below B a (W.setRow g c) :=
  h.trans ⟨rfl, rfl, rfl, by simp, fun k hk => setRow_other W g k c (by omega)⟩
theorem JsS.next (h : JsS w b K Vj Rl Vc cs m F nn rel W) (hb : Below W.heap.size W w') : JsS w b K Vj Rl Vc cs m F nn rel w' :=
  ⟨h.below.trans (hb.mono h.below.size), h.map.below hb, Lies.below h.must hb h.must.lt, h.res.below (hb.mono (Nat.le_of_lt h.map.lt)), h.cls.below (hb.mono (Nat.le_of_lt h.map.lt)), h.sz⟩
theorem JsS.drew (h : JsS w b K Vj Rl Vc cs m F nn rel W) : JsS w b K Vj Rl Vc cs m F nn rel W.drew := h.next (Below.refl _ _).drew
theorem JsS.put (h : JsS w b K Vj Rl Vc cs m F nn rel W) (hm : NMap w' b m' F') (hg : W.grownBy w' (some b)) : JsS w b K Vj Rl Vc cs m' F' nn rel w' := by
  have hb : Below b W w' := (Below.refl b W).grown hg (Nat.le_of_lt h.map.lt) (fun k hk => by injection hk with hk; omega)
  refine ⟨h.below.trans (hb.mono h.sz.1), hm, ?_, h.res.below hb, h.cls.below hb, h.sz⟩
  have hk : w'.heap[K]? = W.heap[K]? := hg.block K h.must.lt (by have := h.sz.2; intro e; injection e with e; omega)
  exact hk.trans h.must
/-- One bit more in must. -/
theorem JsS.bit (h : JsS w b K Vj Rl Vc cs m F nn rel W) {a q : Nat} (ha : a < nn) (hq : q < nn) (hn : nn ≤ 12) : JsS w b K Vj Rl Vc cs m F nn (setP rel a q) (W.setCell ⟨K, 1 + a, none⟩ (.int .u16 ((relP rel nn a ||| 2 ^ q : Nat) : Int))) := by
  have h1 := h.sz
  have hb : Below b W (W.setCell ⟨K, 1 + a, none⟩ (.int .u16 ((relP rel nn a ||| 2 ^ q : Nat) : Int))) := (Below.refl _ _).setCell (p := ⟨K, 1 + a, none⟩) (Nat.le_of_lt h1.2) _
  refine ⟨h.below.trans (hb.mono h1.1), h.map.keep (Below.heap_setCell W ⟨K, 1 + a, none⟩ _ b (by simp only; omega)), ?_, h.res.below hb, h.cls.below hb, h1⟩
  rw [relP_set ha hq]
  exact h.must.set' (by omega) _
end
theorem ints_nil_ne (w : World) : (binOp .neq 22 (.slice none 0 0) (.slice none 0 0)).run Tryd.prog w = .ok (.bool false) w := by kernel_rfl
theorem ints_some_ne (a : Addr) (m c : Nat) (w : World) : (binOp .neq 22 (.slice (some a) m c) (.slice none 0 0)).run Tryd.prog w = .ok (.bool true) w := by kernel_rfl
theorem chsF_lt {a : Nat → Nat} {n : Nat} : ∀ (f : Nat) (D E : List Nat), chsF a n f D = some E → (∀ d ∈ D, d < n) → (∀ e ∈ E, e < n) ∧ E.length = D.length + f
  | 0, D, E, h, hd => by
    rw [chsF] at h
    injection h with h
    subst h
    exact ⟨hd, rfl⟩
  | f + 1, D, E, h, hd => by
    rw [chsF] at h
    split at h
    · rename_i i hi
      have hin : i < n := List.mem_range.1 (List.mem_of_find?_eq_some hi)
      obtain ⟨h1, h2⟩ := chsF_lt f (D ++ [i]) E h (fun d hdm => by
        rcases List.mem_append.1 hdm with hdm | hdm
        · exact hd d hdm
        · rw [List.mem_singleton] at hdm
          rw [hdm]
          exact hin)
      refine ⟨h1, ?_⟩
      rw [h2, List.length_append]
      simp
      omega
    · cases h
set_option maxHeartbeats 16000000 in
theorem ljoins_any {tv lv wv : Value} {ts : List Int} {l : List Ev} {ww : List (List (Int × Int))} {w : World} (ht : NRd w w.heap.size tv ts) (hl : ERd w w.heap.size lv l) (hw : QRd w w.heap.size wv ww) (hwf : ∀ l ∈ ww, ∀ x ∈ l, (Lit.int .i64 x.1).wf = true) (hT : Tab w) :
    Calls Tryd.prog 4 #[tv, lv, wv] w fun e w' => e = .returned (.bool true) ∧ Below w.heap.size w w' := by
  have HJ := Lib.hid (ljoin_any ht hl hw hT)
  have HIN := Lib.hid (And.intro ht (And.intro hl hw))
  have HWF := Lib.hid hwf
  clear hwf
  obtain ⟨At, capt, rfl, t1, t2⟩ := ht.is
  obtain ⟨Al, capl, rfl, -, -⟩ := hl.is
  obtain ⟨Aw, capw, rfl, w1, w2⟩ := hw.is
  unfold maxLen at t2 w2
  obtain ⟨tl, htl⟩ : ∃ tl, tl = ts.length := ⟨_, rfl⟩
  obtain ⟨L, hL⟩ : ∃ L, L = l.length := ⟨_, rfl⟩
  obtain ⟨W, hW⟩ : ∃ W, W = ww.length := ⟨_, rfl⟩
  rw [← htl, ← hL, ← hW] at HJ HIN
  rw [← htl, ← hL, ← hW]
  rw [← htl] at t1
  rw [← hW] at w1
  have HLN := Lib.hid (And.intro htl (And.intro hL hW))
  clear ht hl hw hT htl hL hW
  go_enter Tryd.func4, Tryd.ntmps4
  go_wp2_with fail
  refine HJ.out.mono ?_
  rintro e z1 ⟨hb1, v, rfl, hv⟩
  have hse : joinO ts l ww = if openE ts l ≠ 0 then ([], false, openE ts l) else if ww.length ≠ ts.length then ([], false, 3) else joinC (callsOf ts l).1 ww := rfl
  have hfew : openE ts l = 0 → (callsOf ts l).1.length ≤ 12 := fun h => (openE_zero h).2.1
  have HLO := Lib.hid (locals_any ((HIN.out.1.below hb1).mono hb1.size) ((HIN.out.2.1.below hb1).mono hb1.size))
  generalize joinO ts l ww = R at hse hv ⊢
  obtain ⟨Rl, Rb, Re⟩ := R
  simp only at hv ⊢
  generalize openE ts l = X at hse hfew HLO
  generalize (callsOf ts l).1 = cs at hse hfew HLO
  obtain ⟨Av, cv, rfl, -, -⟩ := hv.is
  have H1 := Lib.hid (And.intro hb1 (And.intro hv (And.intro hse hfew)))
  clear hb1 hv hse hfew HJ
  go_wp2_with fail
  refine HLO.out.mono ?_
  rintro e z2 ⟨hb2, vc, rfl, hc1, hc2⟩
  have H2 := Lib.hid (And.intro (H1.out.1.trans (hb2.mono H1.out.1.size)) (And.intro ((H1.out.2.1.below hb2).mono hb2.size) (And.intro hc1 hc2)))
  clear hb2 hc1 hc2 HLO
  have hmm := @run_makeMap Tryd.prog
  have hM1 : Below z2.heap.size z2 (z2.alloc (.map #[] 0)) := (Below.refl _ _).alloc (Nat.le_refl _) _
  have HM := Lib.hid (And.intro hM1 (NMap.made z2))
  clear hM1
  go_upto_region 4 with fail
  clear hmm
  change Code.wp _ _ _ _ (z2.alloc (.map #[] 0))
  generalize z2.alloc (.map #[] 0) = z3 at HM ⊢
  have hal : Below z3.heap.size z3 (z3.alloc (.cells (relCs 0 (fun _ => 0)) 46)) := (Below.refl _ _).alloc (Nat.le_refl _) _
  have H3 := Lib.hid (show Below w.heap.size w (z3.alloc (.cells (relCs 0 (fun _ => 0)) 46)) ∧ NMap (z3.alloc (.cells (relCs 0 (fun _ => 0)) 46)) z2.heap.size 0 (fun _ => none) ∧ RelB (z3.alloc (.cells (relCs 0 (fun _ => 0)) 46)) z3.heap.size 0 (fun _ => 0) ∧ SRd (z3.alloc (.cells (relCs 0 (fun _ => 0)) 46)) z2.heap.size (.slice Av Rl.length cv) Rl ∧ (X = 0 → CRd (z3.alloc (.cells (relCs 0 (fun _ => 0)) 46)) z2.heap.size vc cs) ∧ (w.heap.size ≤ z2.heap.size ∧ z2.heap.size < z3.heap.size) from by
    have h3 : Below z2.heap.size z2 (z3.alloc (.cells (relCs 0 (fun _ => 0)) 46)) := HM.out.1.alloc HM.out.1.size _
    exact ⟨H2.out.1.trans (h3.mono H2.out.1.size), HM.out.2.below hal, Lies.new _ _ _, H2.out.2.1.below h3, fun h => (H2.out.2.2.1 h).below h3, H2.out.1.size, HM.out.2.lt⟩)
  clear hal
  go_upto_region 5 with fail
  change Code.wp _ _ _ _ (z3.alloc (.cells (relCs 0 (fun _ => 0)) 46))
  generalize z3.alloc (.cells (relCs 0 (fun _ => 0)) 46) = z4 at H3 ⊢
  generalize z3.heap.size = K at H3 ⊢
  generalize z2.heap.size = b at H3 ⊢
  clear H2 HM
  by_cases hX : X = 0
  · subst hX
    have hse := H1.out.2.2.1
    rw [if_neg (by decide)] at hse
    have hn12 := H1.out.2.2.2 rfl
    have hcv := H3.out.2.2.2.2.1 rfl
    have hzb : b ≤ z4.heap.size := Nat.le_of_lt H3.out.2.1.lt
    have HCR := Lib.hid (callrel_any hcv hzb hn12)
    obtain ⟨nn, hnn⟩ : ∃ nn, nn = cs.length := ⟨_, rfl⟩
    obtain ⟨Ac, cc, rfl, c1, c2⟩ := hcv.is
    unfold maxLen at c2
    rw [← hnn] at HCR hn12 c1 hcv H3 ⊢
    have HSE := Lib.hid (And.intro hse (And.intro hnn hn12))
    clear hse hnn hcv hn12 hzb
    go_wp2_with fail
    refine HCR.out.mono ?_
    rintro e z5 ⟨rfl, hb5⟩
    have hlr : RelB z5 K 0 (fun _ => 0) := Lies.below H3.out.2.2.1 hb5 H3.out.2.2.1.lt
    have hset : RelB (fillRel z5 K nn (relP (aheadB cs) nn)) K nn (relP (aheadB cs) nn) := fillRel_lies hlr
    have hbb : Below b z5 (fillRel z5 K nn (relP (aheadB cs) nn)) := fillRel_below (Below.refl _ _) (Nat.le_of_lt H3.out.2.2.2.2.2.2)
    have hb4 : Below b z4 z5 := hb5.mono (Nat.le_of_lt H3.out.2.1.lt)
    have hnm : NMap (fillRel z5 K nn (relP (aheadB cs) nn)) b 0 (fun _ => none) := (H3.out.2.1.below hb5).keep ((fillRel_below (Below.refl K z5) (Nat.le_refl K)).block b H3.out.2.2.2.2.2.2)
    have hJ : JsS w b K (.slice Av Rl.length cv) Rl (.slice Ac nn cc) cs 0 (fun _ => none) nn (mustQ cs [] []) (fillRel z5 K nn (relP (aheadB cs) nn)) :=
      ⟨(H3.out.1.trans (hb4.mono H3.out.2.2.2.2.2.1)).trans (hbb.mono H3.out.2.2.2.2.2.1), hnm, by rw [mustQ_nil]; exact hset, (H3.out.2.2.2.1.below hb4).below hbb, ((H3.out.2.2.2.2.1 (by trivial)).below hb4).below hbb, H3.out.2.2.2.2.2⟩
    have HJ := Lib.hid hJ
    have HR := Lib.hid hlr
    clear HCR hset hbb hb4 hnm hJ hlr hb5 H3
    have rf : ∀ i, z5.frozen? ⟨K, i, none⟩ = false := fun i => Lies.frozen HR.out i
    have r0 := Lies.cell HR.out 0
    have r1 := Lies.cell HR.out 1
    have r2 := Lies.cell HR.out 2
    have r3 := Lies.cell HR.out 3
    have r4 := Lies.cell HR.out 4
    have r5 := Lies.cell HR.out 5
    have r6 := Lies.cell HR.out 6
    have r7 := Lies.cell HR.out 7
    have r8 := Lies.cell HR.out 8
    have r9 := Lies.cell HR.out 9
    have r10 := Lies.cell HR.out 10
    have r11 := Lies.cell HR.out 11
    have r12 := Lies.cell HR.out 12
    simp only [relCs, List.getElem?_toArray, List.getElem?_cons_zero, List.getElem?_cons_succ] at r0 r1 r2 r3 r4 r5 r6 r7 r8 r9 r10 r11 r12
    go_upto_region 7 with fail
    change Code.wp _ _ _ _ (fillRel z5 K nn (relP (aheadB cs) nn))
    clear rf r0 r1 r2 r3 r4 r5 r6 r7 r8 r9 r10 r11 r12
    generalize fillRel z5 K nn (relP (aheadB cs) nn) = z6 at HJ ⊢
    clear HR
    by_cases hWT : W = tl
    · have hse := HSE.out.1
      rw [if_neg (by have := HLN.out; omega)] at hse
      obtain ⟨C, hC⟩ : ∃ C, C = colF cs (flatF 0 ww) (fun _ => none) := ⟨_, rfl⟩
      have HCC := Lib.hid hC
      have HSJ := Lib.hid hse
      have bW : ((W : Int) != (tl : Int)) = false := by rw [bne_eq_false_iff_eq]; omega
      have h0 : JsS w b K (.slice Av Rl.length cv) Rl (.slice Ac nn cc) cs (cntF (fun _ => none) nn) (fun _ => none) nn (mustQ cs (ww.take 0) []) z6 := by
        rw [show cntF (fun _ => none) nn = 0 from List.countP_eq_zero.2 (fun _ _ h => by cases h)]
        exact HJ.out
      have HJ0 := Lib.hid h0
      clear hse hC HJ h0 hWT
      go_wp2_with fail
      go_loopw [14, 11] (fun t sy wr => ∃ k : Nat, k ≤ W ∧ t = .int .i64 k ∧ Below w.heap.size w wr ∧ ((sy = .int .i64 0 ∧ ∃ F, colF cs (flatF k (ww.drop k)) F = C ∧ JsS w b K (.slice Av Rl.length cv) Rl (.slice Ac nn cc) cs (cntF F nn) F nn (mustQ cs (ww.take k) []) wr) ∨ (sy = .int .i64 3 ∧ C = none))) (fun t _ _ => W - (intOf t).toNat)
      case atStart => exact ⟨0, by omega, rfl, HJ0.out.below, .inl ⟨rfl, fun _ => none, by rw [List.drop_zero, HCC.out], HJ0.out⟩⟩
      case round =>
        clear HJ0
        obtain ⟨k, hk, rfl, hbl, hcase⟩ := hrel
        have HBL := Lib.hid hbl
        clear hbl
        rcases hcase with ⟨rfl, F, hcol, hO⟩ | ⟨rfl, hC0⟩
        · by_cases hkW : k < W
          · obtain ⟨l, hx⟩ : ∃ l, ww[k]? = some l := ⟨_, List.getElem?_eq_getElem (by rw [← HLN.out.2.2]; exact hkW)⟩
            have hdrop : ww.drop k = l :: ww.drop (k + 1) := by
              obtain ⟨h2, h3⟩ := List.getElem?_eq_some_iff.1 hx
              rw [List.drop_eq_getElem_cons h2, h3]
            rw [hdrop, flatF] at hcol
            have htk : ww.take (k + 1) = ww.take k ++ [l] := by rw [List.take_add_one, hx]; rfl
            obtain ⟨g, o, Al, cl, rfl, hg, d0, hrow⟩ := (HIN.out.2.2.below hO.below).at_ hx
            have i1 : (0 : Int) ≤ (k : Int) := by omega
            have i2 : (k : Int) < (W : Int) := by omega
            obtain ⟨LL, hLL⟩ : ∃ LL, LL = l.length := ⟨_, rfl⟩
            have hLcl : LL ≤ cl ∧ cl ≤ 9223372036854775807 := by
              obtain ⟨_, _, e0, h1, h2⟩ := hrow.is
              injection e0 with _ _ e0
              subst e0
              unfold maxLen at h2
              rw [hLL]
              omega
            rw [← hLL] at d0 hrow
            have hrow0 : SRd w w.heap.size (.slice Al LL cl) l ∧ w.cell? ⟨g, o + k, none⟩ = some (.slice Al LL cl) := by
              obtain ⟨g', o', Al', cl', e1, _, d0', h'⟩ := HIN.out.2.2.at_ hx
              injection e1 with e1
              injection e1 with e1 e2
              subst e1 e2
              have d1 := hO.below.cell (p := ⟨g, o + k, none⟩) hg
              rw [d0, d0'] at d1
              injection d1 with d1
              injection d1 with d1 d2 d3
              subst d1 d3
              rw [← hLL] at h' d0'
              exact ⟨h', d0'⟩
            have hwfl := HWF.out l (List.mem_of_getElem? hx)
            have HRW := Lib.hid (And.intro hrow0.1 (And.intro hLL (And.intro hrow0.2 (And.intro hg hwfl))))
            have HB := Lib.hid (And.intro hO (And.intro hcol htk))
            clear hx hdrop hcol hrow hrow0 hLL hO htk hwfl hg
            go_wp2_with fail
            go_loopw [11, 67] (fun sy t wr => ∃ (j : Nat) (F : Int → Option Int), j ≤ LL ∧ t = .int .i64 j ∧ sy = .int .i64 0 ∧ colF cs ((l.drop j).map (fun x => (k, x)) ++ flatF (k + 1) (ww.drop (k + 1))) F = C ∧ (∀ x ∈ l.take j, 0 ≤ x.1 ∧ x.1 < (nn : Int)) ∧ JsS w b K (.slice Av Rl.length cv) Rl (.slice Ac nn cc) cs (cntF F nn) F nn (mustQ cs (ww.take k) (l.take j)) wr) (fun _ t _ => LL - (intOf t).toNat)
            case atStart => exact ⟨0, F, by omega, rfl, rfl, HB.out.2.1, fun x h => absurd h List.not_mem_nil, HB.out.1⟩
            case round =>
              obtain ⟨j, F, hj, rfl, rfl, hcol, hrng, hO⟩ := hrel
              by_cases hjL : j < LL
              · obtain ⟨x, hx⟩ : ∃ x, l[j]? = some x := ⟨_, List.getElem?_eq_getElem (by rw [← HRW.out.2.1]; exact hjL)⟩
                have hdrop : l.drop j = x :: l.drop (j + 1) := by
                  obtain ⟨h2, h3⟩ := List.getElem?_eq_some_iff.1 hx
                  rw [List.drop_eq_getElem_cons h2, h3]
                have hltk : l.take (j + 1) = l.take j ++ [x] := by rw [List.take_add_one, hx]; rfl
                rw [hdrop, List.map_cons, List.cons_append, colF] at hcol
                obtain ⟨g2, o2, rfl, hg2, x0, x1⟩ := (HRW.out.1.below hO.below).sp hx
                have hwfx := HRW.out.2.2.2.2 x (List.mem_of_getElem? hx)
                obtain ⟨q1, q2⟩ := x
                simp only at x0 x1 hcol hwfx hltk
                have j1 : (0 : Int) ≤ (j : Int) := by omega
                have j2 : (j : Int) < (LL : Int) := by omega
                have hal : Below wr.heap.size wr (wr.alloc (.cells #[.int .i64 q1, .int .i64 q2] 38)) := (Below.refl _ _).alloc (Nat.le_refl _) _
                have HO := Lib.hid (And.intro (hO.next hal) (And.intro (Lies.new wr 38 #[.int .i64 q1, .int .i64 q2]) (And.intro hO.must.lt (And.intro hltk (And.intro hrng hwfx)))))
                have HCO := Lib.hid hcol
                clear hO hx hdrop hal hltk hrng hwfx hcol hg2
                go_upto_region 16 with fail
                change Code.wp _ _ _ _ (wr.alloc (.cells #[.int .i64 q1, .int .i64 q2] 38))
                generalize wr.alloc (.cells #[.int .i64 q1, .int .i64 q2] 38) = W2 at HO ⊢
                generalize wr.heap.size = X at HO ⊢
                have c0 : W2.cell? ⟨X, 0, none⟩ = some (.int .i64 q1) := Lies.cell HO.out.2.1 0
                have c1 : W2.cell? ⟨X, 1, none⟩ = some (.int .i64 q2) := Lies.cell HO.out.2.1 1
                clear x0 x1
                cases hF : (F q1).isSome
                · have HF := Lib.hid hF
                  clear hF
                  go_upto_region 17 with (at_lookup; refine NMap.look rfl _ _ rfl HO.out.1.map q1 HO.out.2.2.2.2.2 rfl rfl ?_; intro r _; rw [HF.out])
                  have hw1 : IntKind.i64.wrap ((nn : Int) - 1) = (nn : Int) - 1 := by rw [IntKind.wrap_i64]; have := HSE.out.2.2; omega
                  go_wp2_with fail
                  refine (betweenI_any q1 0 ((nn : Int) - 1) _).mono ?_
                  rintro e w' ⟨rfl, rfl⟩
                  cases hbt : btw 0 q1 ((nn : Int) - 1)
                  · have hbn := btw_not.1 hbt
                    have hcn : C = none := by
                      have h := HCO.out
                      rw [if_pos (.inl (by have := HSE.out.2.1; omega))] at h
                      exact h.symm
                    clear hbt hbn hw1
                    have HCN := Lib.hid (hcn : C = none)
                    clear hcn
                    go_wp2_with fail
                    go_roundw
                    case rel => exact ⟨k + 1, by omega, by go_num, HO.out.1.below, .inr ⟨rfl, HCN.out⟩⟩
                    case measure => simp [intOf]; omega
                  · have hbn := btw_iff.1 hbt
                    obtain ⟨q, rfl⟩ : ∃ q : Nat, q1 = (q : Int) := ⟨q1.toNat, by omega⟩
                    have hqn : q < nn := by omega
                    obtain ⟨y, hy⟩ : ∃ y, cs[q]? = some y := ⟨_, List.getElem?_eq_getElem (by have := HSE.out.2.1; omega)⟩
                    have hrc := HO.out.1.cls
                    obtain ⟨g3, o3, rfl, -, y0, y1, -⟩ := hrc.cl hy
                    have hyd : cs.getD q default = y := by rw [List.getD_eq_getElem?_getD, hy]; rfl
                    have hcr := HCO.out
                    rw [Int.toNat_natCast, hyd] at hcr
                    generalize y.thing = yt at y1 hcr
                    have hq0 : (0 : Int) ≤ (q : Int) := by omega
                    have hq1 : (q : Int) < (nn : Int) := by omega
                    clear hbt hw1 hy hyd y0 hrc hbn
                    by_cases h3 : yt = (k : Int)
                    · have hz : (yt != (k : Int)) = false := by rw [bne_eq_false_iff_eq]; exact h3
                      rw [if_neg (fun h => by rcases h with h | h; exact h ⟨by omega, by have := HSE.out.2.1; omega⟩; exact h h3), if_neg (by rw [HF.out]; decide)] at hcr
                      have HCR := Lib.hid hcr
                      clear hcr h3
                      go_upto_region 20 with (at_mapUpdate; refine NMap.put rfl _ _ _ rfl HO.out.1.map (q : Int) q2 (by omega) (by have := HSE.out.2.2; omega) (by have := cntF_le F nn; have := HSE.out.2.2; omega) rfl rfl rfl ?_; intro w4 hm4 hg4)
                      have hJ4 := HO.out.1.put hm4 hg4
                      rw [← cntF_put hqn HF.out q2] at hJ4
                      have hX4 : Lies w4 X 38 #[.int .i64 (q : Int), .int .i64 q2] := Lies.keep HO.out.2.1 (hg4.block X (Lies.lt HO.out.2.1) (fun e => by injection e with e; have := HO.out.2.2.1; have := hJ4.sz; omega))
                      have d04 := (hJ4.below.cell (p := ⟨g, o + k, none⟩) HRW.out.2.2.2.1).trans HRW.out.2.2.1
                      obtain ⟨F2, hF2⟩ : ∃ F2 : Int → Option Int, F2 = fun c => if c = (q : Int) then some q2 else F c := ⟨_, rfl⟩
                      rw [← hF2] at hJ4
                      have HF2 := Lib.hid hF2
                      have HJ4 := Lib.hid (And.intro hJ4 hX4)
                      have j3 : j ≤ cl := by omega
                      have j4 : (j : Int) ≤ (cl : Int) := by omega
                      clear hm4 hg4 hJ4 hX4 d0 c0 c1 y1 hz hF2
                      go_wp2_with fail
                      obtain ⟨wo, hwo⟩ : ∃ wo, wo = w4 := ⟨_, rfl⟩
                      go_loopw [111] (fun t wr => ∃ m : Nat, m ≤ j ∧ t = .int .i64 m ∧ JsS w b K (.slice Av Rl.length cv) Rl (.slice (some ⟨g3, o3, none⟩) nn cc) cs (cntF F2 nn) F2 nn (mustM cs (ww.take k) (l.take j) q m) wr ∧ Lies wr X 38 #[.int .i64 (q : Int), .int .i64 q2]) (fun t _ => j - (intOf t).toNat)
                      case atStart => exact ⟨0, by omega, rfl, by rw [mustM_zero]; exact HJ4.out.1, HJ4.out.2⟩
                      case round =>
                        clear HJ4 hwo
                        obtain ⟨m, hm, rfl, hM, hXl⟩ := hrel
                        by_cases hmj : m < j
                        · obtain ⟨y, hy⟩ : ∃ y, l[m]? = some y := ⟨_, List.getElem?_eq_getElem (by rw [← HRW.out.2.1]; omega)⟩
                          have hy2 : (l.take j)[m]? = some y := by rw [List.getElem?_take, if_pos hmj]; exact hy
                          have hyr := HO.out.2.2.2.2.1 y (List.mem_of_getElem? hy2)
                          obtain ⟨g5, o5, e5, -, z0, z1⟩ := (HRW.out.1.below hM.below).sp hy
                          injection e5 with e5
                          injection e5 with e5 e6
                          subst e5 e6
                          have hms := mustM_succ cs (ww.take k) q hy2
                          obtain ⟨yq, yr⟩ := y
                          simp only at z0 z1 hyr hms
                          obtain ⟨a, rfl⟩ : ∃ a : Nat, yq = (a : Int) := ⟨yq.toNat, by omega⟩
                          have han : a < nn := by omega
                          have hset : mustM cs (ww.take k) (l.take j) q (m + 1) = setP (mustM cs (ww.take k) (l.take j) q m) a q := by
                            funext i j2
                            rw [hms i j2]
                            unfold setP
                            rw [Int.toNat_natCast]
                            congr 1
                            rw [Bool.eq_iff_iff, Bool.and_eq_true, Bool.and_eq_true, beq_iff_eq, beq_iff_eq, decide_eq_true_iff, decide_eq_true_iff]
                            exact ⟨fun h => ⟨h.1.symm, h.2.symm⟩, fun h => ⟨h.1.symm, h.2.symm⟩⟩
                          have m1 : (0 : Int) ≤ (m : Int) := by omega
                          have m2 : (m : Int) < (j : Int) := by omega
                          have hn12 : nn ≤ 12 := HSE.out.2.2
                          have hal : Below wr.heap.size wr (wr.alloc (.cells #[.int .i64 (a : Int), .int .i64 yr] 38)) := (Below.refl _ _).alloc (Nat.le_refl _) _
                          have HM := Lib.hid (And.intro (hM.next hal) (And.intro (Lies.below hXl hal hXl.lt) (And.intro (Lies.new wr 38 #[.int .i64 (a : Int), .int .i64 yr]) hset)))
                          clear hy hy2 hyr hM hXl hal hset hms
                          go_upto_region 23 with fail
                          change Code.wp _ _ _ _ (wr.alloc (.cells #[.int .i64 (a : Int), .int .i64 yr] 38))
                          generalize wr.alloc (.cells #[.int .i64 (a : Int), .int .i64 yr] 38) = W5 at HM ⊢
                          generalize wr.heap.size = Y at HM ⊢
                          have e0 := Lies.cell HM.out.2.2.1 0
                          have c0 := Lies.cell HM.out.2.1 0
                          simp only [List.getElem?_toArray, List.getElem?_cons_zero] at e0 c0
                          have ck := HM.out.1.must.row' (k := a) (by omega)
                          have fk := HM.out.1.must.free (1 + a)
                          have hlt := relP_lt (mustM cs (ww.take k) (l.take j) q m) hn12 a
                          have hbit := HM.out.1.bit han hqn hn12
                          rw [← HM.out.2.2.2] at hbit
                          generalize hxx : relP (mustM cs (ww.take k) (l.take j) q m) nn a = z at ck hlt hbit
                          have ho := or_pow z q hlt (by omega)
                          have hp := pow_u16 q (by omega)
                          have HBT := Lib.hid (And.intro hbit (Lies.far HM.out.2.1 (p := ⟨K, 1 + a, none⟩) (by have := HO.out.2.2.1; simp only; omega) (.int .u16 ((z ||| 2 ^ q : Nat) : Int))))
                          have a0 : (0 : Int) ≤ (a : Int) := by omega
                          have a1 : (a : Int) < 12 := by omega
                          clear z0 z1 hxx hbit d04 HM
                          go_wp2_with fail
                          go_region
                          have h1 : JsS w b K (.slice Av Rl.length cv) Rl (.slice (some ⟨g3, o3, none⟩) nn cc) cs (cntF F2 nn) F2 nn (mustM cs (ww.take k) (l.take j) q (m + 1)) (W5.setCell ⟨K, 1 + a, none⟩ (.int .u16 ((z ||| 2 ^ q : Nat) : Int))).drew ∧ Lies (W5.setCell ⟨K, 1 + a, none⟩ (.int .u16 ((z ||| 2 ^ q : Nat) : Int))).drew X 38 #[.int .i64 (q : Int), .int .i64 q2] := ⟨HBT.out.1.drew, Lies.drew HBT.out.2⟩
                          clear ck fk ho hp e0 c0 hlt
                          generalize (W5.setCell ⟨K, 1 + a, none⟩ (.int .u16 ((z ||| 2 ^ q : Nat) : Int))).drew = W6 at h1 ⊢
                          have HX6 := Lib.hid h1
                          clear h1 HBT
                          go_wp2_with fail
                          go_roundw
                          case rel => exact ⟨m + 1, by omega, by go_num, HX6.out.1, HX6.out.2⟩
                          case measure => simp [intOf]; omega
                        · obtain rfl : m = j := by omega
                          have hall := mustM_all cs (ww.take k) (l.take m) ((q : Int), q2)
                          rw [List.length_take, Nat.min_eq_left (by rw [← HRW.out.2.1]; omega)] at hall
                          simp only [Int.toNat_natCast] at hall
                          rw [hall, ← HO.out.2.2.2.1] at hM
                          have HM := Lib.hid hM
                          have hrn : ∀ x ∈ l.take (m + 1), 0 ≤ x.1 ∧ x.1 < (nn : Int) := fun x hx => by
                            rw [HO.out.2.2.2.1] at hx
                            rcases List.mem_append.1 hx with hx | hx
                            · exact HO.out.2.2.2.2.1 x hx
                            · rw [List.mem_singleton] at hx
                              subst hx
                              exact ⟨by simp only; omega, by simp only; omega⟩
                          have HRN := Lib.hid hrn
                          clear hM hXl hall hrn d04
                          go_wp2_with fail
                          go_roundw
                          case rel => exact ⟨m + 1, F2, by omega, by go_num, rfl, by rw [HF2.out]; exact HCR.out, HRN.out, HM.out⟩
                          case measure => simp [intOf]; omega
                    · have hz : (yt != (k : Int)) = true := by rw [bne_iff_ne]; exact h3
                      have hcn : C = none := by
                        rw [if_pos (.inr h3)] at hcr
                        exact hcr.symm
                      clear hcr h3
                      have HCN := Lib.hid (hcn : C = none)
                      clear hcn
                      go_wp2_with fail
                      go_roundw
                      case rel => exact ⟨k + 1, by omega, by go_num, HO.out.1.below, .inr ⟨rfl, HCN.out⟩⟩
                      case measure => simp [intOf]; omega
                · have HF := Lib.hid hF
                  have hcn : C = none := by
                    have h := HCO.out
                    split at h
                    · exact h.symm
                    · first | exact h.symm | (rw [if_pos hF] at h; exact h.symm)
                  clear hF
                  go_upto_region 17 with (at_lookup; refine NMap.look rfl _ _ rfl HO.out.1.map q1 HO.out.2.2.2.2.2 rfl rfl ?_; intro r _; rw [HF.out])
                  have HCN := Lib.hid (hcn : C = none)
                  clear hcn
                  go_wp2_with fail
                  go_roundw
                  case rel => exact ⟨k + 1, by omega, by go_num, HO.out.1.below, .inr ⟨rfl, HCN.out⟩⟩
                  case measure => simp [intOf]; omega
              · have hjLL : j = LL := by omega
                rw [hjLL] at hcol hO
                rw [HRW.out.2.1, List.drop_length, List.map_nil, List.nil_append] at hcol
                rw [HRW.out.2.1, List.take_length, mustQ_done, ← HB.out.2.2] at hO
                have HE := Lib.hid (And.intro hO hcol)
                clear hO hcol hrng
                go_wp2_with fail
                go_roundw
                case rel => exact ⟨k + 1, by omega, by go_num, HE.out.1.below, .inl ⟨rfl, F, HE.out.2, HE.out.1⟩⟩
                case measure => simp [intOf]; omega
          · obtain rfl : k = W := by omega
            have hww : ww.take k = ww := by rw [HLN.out.2.2, List.take_length]
            have hC : C = some F := by rw [← hcol, show ww.drop k = [] from List.drop_eq_nil_of_le (by rw [← HLN.out.2.2]; exact Nat.le_refl _)]; rfl
            rw [hww] at hO
            have hjc := HSJ.out
            unfold joinC at hjc
            rw [← HCC.out, hC] at hjc
            simp only at hjc
            have hmc := must_chosen (ww := ww) (by rw [← HSE.out.2.1]; exact HSE.out.2.2) (col_rng (by rw [← HCC.out]; exact hC))
            rw [← HSE.out.2.1] at hmc hjc
            obtain ⟨r, hr⟩ : ∃ r, r = relP (mustQ cs ww []) nn := ⟨_, rfl⟩
            rw [← hr] at hmc
            obtain ⟨O, hOO⟩ : ∃ O, O = chsF r nn nn [] := ⟨_, rfl⟩
            rw [← hOO] at hmc
            have hres : (O = none → Rl = [] ∧ Rb = false ∧ Re = 0) ∧ ∀ E, O = some E → Rl = pickF F (intsN E) ∧ Rb = true ∧ Re = 0 := by
              cases hcy : cyc (clo nn (jnR cs ww)) nn
              · rw [hcy, if_neg (by decide)] at hmc hjc
                injection hjc with e1 e2
                injection e2 with e2 e3
                refine ⟨fun h => ?_, fun E h => ?_⟩
                · rw [h] at hmc; cases hmc
                · rw [h, Option.map_some] at hmc
                  injection hmc with hmc
                  exact ⟨by rw [e1, ← hmc]; rfl, e2, e3⟩
              · rw [hcy, if_pos rfl] at hmc hjc
                injection hjc with e1 e2
                injection e2 with e2 e3
                refine ⟨fun _ => ⟨e1, e2, e3⟩, fun E h => ?_⟩
                rw [h] at hmc; cases hmc
            have hrb : RelB wr K nn r := by rw [hr]; exact hO.must
            have c0 := hrb.size
            obtain ⟨c1, c2, c3, c4, c5, c6, c7, c8, c9, c10, c11, c12⟩ := hrb.rows
            have hch := chosen_any (n := nn) (a := r) (w := wr) HSE.out.2.2
            rw [← hOO] at hch
            have HCH := Lib.hid hch
            have HO := Lib.hid hO
            have HR := Lib.hid (And.intro hres hOO)
            clear hww hC hO hjc hmc hres hOO hrb hch hcol HSJ HCC hr hkW
            go_wp2_with fail
            refine HCH.out.mono ?_
            rintro e w8 ⟨hb8, ⟨hn, rfl⟩ | ⟨E, A, c, hE, rfl, hir⟩⟩
            · obtain ⟨rfl, rfl, rfl⟩ := HR.out.1.1 hn
              have HB8 := Lib.hid (HO.out.below.trans (hb8.mono HO.out.below.size))
              have HEQ := Lib.hid (eqSt_any ((HO.out.res.below (hb8.mono (Nat.le_of_lt HO.out.map.lt))).mono (Nat.le_refl b)) (LRd.nil w8 0))
              have hq1 := fun W : World => ints_nil_ne W
              clear c0 c1 c2 c3 c4 c5 c6 c7 c8 c9 c10 c11 c12 hn HCH HR hb8
              go_wp2_with fail
              go_loopw [22, 146] (fun v i wr => v = .slice none 0 0 ∧ i = .int .i64 0 ∧ wr = w8) (fun _ _ _ => 0)
              case atStart => exact ⟨rfl, rfl, rfl⟩
              case round =>
                obtain ⟨rfl, rfl, rfl⟩ := hrel
                go_wp2_with fail
                refine HEQ.out.mono ?_
                rintro e w9 ⟨rfl, hb9⟩
                simp only [decide_true]
                have H9 := Lib.hid (HB8.out.trans (hb9.mono HB8.out.size))
                clear hb9 HEQ
                go_wp2_with fail
                go_ret
                exact ⟨rfl, H9.out⟩
            · obtain ⟨hR1, rfl, rfl⟩ := HR.out.1.2 E hE
              obtain ⟨hE1, hE2⟩ := chsF_lt nn [] E (by rw [← HR.out.2, hE]) (fun d h => absurd h List.not_mem_nil)
              obtain ⟨N, hN⟩ : ∃ N, N = E.length := ⟨_, rfl⟩
              rw [← hN] at hir ⊢
              have hN12 : N ≤ 12 := by have := HSE.out.2.2; rw [hN, hE2]; simp; omega
              have hil : (intsN E).length = N := by rw [intsN_len]; exact hN.symm
              have hbw8 := HO.out.below.trans (hb8.mono HO.out.below.size)
              have hmap8 := HO.out.map.below hb8
              have hres8 := HO.out.res.below (hb8.mono (Nat.le_of_lt HO.out.map.lt))
              have hbl8 := hmap8.lt
              obtain ⟨B8, hB8⟩ : ∃ B8, B8 = w8.heap.size := ⟨_, rfl⟩
              rw [← hB8] at hir hbl8
              have hwB : w.heap.size ≤ B8 := by rw [hB8]; exact hbw8.size
              have H8 := Lib.hid (And.intro hbw8 (And.intro hmap8 (And.intro hres8 (And.intro hir (And.intro hbl8 (And.intro hwB hB8))))))
              have HE := Lib.hid (And.intro hR1 (And.intro hE1 hil))
              have hq2 := fun W : World => ints_some_ne A N c W
              clear c0 c1 c2 c3 c4 c5 c6 c7 c8 c9 c10 c11 c12 HCH HR hb8 hbw8 hmap8 hres8 hir hbl8 hwB hR1 hE1 hE2 hN hE HO hil
              go_wp2_with fail
              go_loopw [22, 146] (fun v i wr => ∃ (m : Nat) (v0 : Value), m ≤ N ∧ i = .int .i64 m ∧ v0 = v ∧ TOwn wr B8 v0 (pickF F ((intsN E).take m)) ∧ Below w.heap.size w wr ∧ Below B8 w8 wr) (fun _ i _ => N - (intOf i).toNat)
              case atStart => exact ⟨0, _, by omega, rfl, rfl, TOwn.nil _ _, H8.out.1, Below.refl _ _⟩
              case round =>
                clear hB8
                obtain ⟨m, v0, hm, rfl, rfl, how, hb, hbb⟩ := hrel
                have hsz : B8 ≤ wr.heap.size := by rw [H8.out.2.2.2.2.2.2]; exact hbb.size
                by_cases hmN : m < N
                · obtain ⟨x, hx⟩ : ∃ x, (intsN E)[m]? = some x := ⟨_, List.getElem?_eq_getElem (by rw [HE.out.2.2]; exact hmN)⟩
                  have hxr : 0 ≤ x ∧ x < 12 := by
                    have h1 := List.mem_of_getElem? hx
                    unfold intsN at h1
                    obtain ⟨i, hi, rfl⟩ := List.mem_map.1 h1
                    have := HE.out.2.1 i hi
                    have := HSE.out.2.2
                    omega
                  obtain ⟨A', cap', he, hcl⟩ := H8.out.2.2.2.1.below hbb
                  injection he with he1 he2 he3
                  obtain ⟨gE, hA, -, hcc⟩ := hcl (by rw [HE.out.2.2]; omega)
                  have d9 := hcc m (by rw [HE.out.2.2]; exact hmN)
                  rw [show (intsN E).getD m 0 = x by rw [List.getD_eq_getElem?_getD, hx]; rfl] at d9
                  rw [← he1] at hA
                  injection hA with hA
                  subst hA
                  have hst := pickF_step (F := F) hx
                  have hpl : (pickF F ((intsN E).take m)).length ≤ 1000 := by
                    have h1 := pickF_len F ((intsN E).take m)
                    rw [List.length_take] at h1
                    omega
                  have i1 : (0 : Int) ≤ (m : Int) := by omega
                  have i2 : (m : Int) < (N : Int) := by omega
                  have hmw := H8.out.2.1.keep (hbb.block b H8.out.2.2.2.2.1)
                  have hwfx : (Lit.int .i64 x).wf = true := WalkArith.wf_i64 (by omega)
                  have HJ := Lib.hid (And.intro how (And.intro hb (And.intro hbb (And.intro hsz (And.intro hpl (And.intro hmw hwfx))))))
                  clear how hb hbb hsz hpl hmw hwfx hx hcl hcc he1 he2 he3 hxr
                  cases hFx : F x with
                  | none =>
                    rw [hFx] at hst
                    have HS := Lib.hid (And.intro hst hFx)
                    clear hst hFx
                    go_wp2_with (at_lookup; refine NMap.look rfl _ _ rfl HJ.out.2.2.2.2.2.1 x HJ.out.2.2.2.2.2.2 rfl rfl ?_; intro r _; rw [HS.out.2])
                    go_roundw
                    case rel => exact ⟨m + 1, _, by omega, by go_num, rfl, by rw [HS.out.1, List.append_nil]; exact HJ.out.1, HJ.out.2.1, HJ.out.2.2.1⟩
                    case measure => simp [intOf]; omega
                  | some r0 =>
                    rw [hFx] at hst
                    have HS := Lib.hid (And.intro hst hFx)
                    clear hst hFx
                    go_upto_region 34 with (at_lookup; refine NMap.look rfl _ _ rfl HJ.out.2.2.2.2.2.1 x HJ.out.2.2.2.2.2.2 rfl rfl ?_; intro r hzr; rw [HS.out.2]; have hz2 := hzr (by rw [HS.out.2]; rfl))
                    rw [HS.out.2] at hz2
                    injection hz2 with hz2
                    subst hz2
                    have hal : Below wr.heap.size wr (wr.alloc (.cells #[.int .i64 x, .int .i64 r0] 38)) := (Below.refl _ _).alloc (Nat.le_refl _) _
                    have HW := Lib.hid (And.intro (HJ.out.2.1.trans (hal.mono HJ.out.2.1.size)) (And.intro (HJ.out.2.2.1.trans (hal.mono HJ.out.2.2.2.1)) (Nat.le_trans HJ.out.2.2.2.1 hal.size)))
                    have HOW := Lib.hid (HJ.out.1.alloc (.cells #[.int .i64 x, .int .i64 r0] 38))
                    have HNW := Lib.hid (Lies.new wr 38 #[.int .i64 x, .int .i64 r0])
                    clear hal hzr
                    go_wp2_with (at_builtin; refine wpList_app_t rfl (.tmp 157) (.tmp 161) rfl B8 wr.heap.size _ _ x r0 rfl rfl HOW.out HNW.out HJ.out.2.2.2.2.1 HW.out.2.2 ?_; intro v' w5 ho5 hb5; have HN5 := Lib.hid (And.intro ho5 hb5); clear ho5 hb5)
                    go_roundw
                    case rel => exact ⟨m + 1, _, by omega, by go_num, rfl, by rw [HS.out.1]; exact HN5.out.1, HW.out.1.trans (HN5.out.2.mono H8.out.2.2.2.2.2.1), HW.out.2.1.trans HN5.out.2⟩
                    case measure => simp [intOf]; omega
                · obtain rfl : m = N := by omega
                  have hfull : (intsN E).take m = intsN E := List.take_of_length_le (by rw [HE.out.2.2]; exact Nat.le_refl _)
                  rw [hfull, ← HE.out.1] at how
                  have heq := eqSt_any (H8.out.2.2.1.below (hbb.mono (Nat.le_of_lt H8.out.2.2.2.2.1))) how.rd
                  simp only [decide_true] at heq
                  have HEQ := Lib.hid heq
                  have HB := Lib.hid hb
                  clear how hb hbb hsz heq hfull
                  go_wp2_with fail
                  refine HEQ.out.mono ?_
                  rintro e w9 ⟨rfl, hb9⟩
                  have H9 := Lib.hid (HB.out.trans (hb9.mono HB.out.size))
                  clear hb9 HEQ HB
                  go_wp2_with fail
                  go_ret
                  exact ⟨rfl, H9.out⟩
        · have hse := HSJ.out
          unfold joinC at hse
          rw [← HCC.out, hC0] at hse
          injection hse with e1 e2
          injection e2 with e2 e3
          subst e1 e2 e3
          clear hC0 HSJ HCC
          by_cases hkW : k < W
          · have i2 : (k : Int) < (W : Int) := by omega
            go_wp2_with fail
            go_ret
            exact ⟨rfl, HBL.out⟩
          · obtain rfl : k = W := by omega
            go_wp2_with fail
            go_ret
            exact ⟨rfl, HBL.out⟩
    · have hse := HSE.out.1
      rw [if_pos (by have := HLN.out; omega)] at hse
      have bW : ((W : Int) != (tl : Int)) = true := by rw [bne_iff_ne]; omega
      injection hse with e1 e2
      injection e2 with e2 e3
      subst e1 e2 e3
      clear H1 HSE
      go_wp2_with fail
      go_loopw [14, 11] (fun t sy wr => ∃ k : Nat, k ≤ W ∧ t = .int .i64 k ∧ sy = .int .i64 3 ∧ JsS w b K (.slice Av 0 cv) [] (.slice Ac nn cc) cs 0 (fun _ => none) nn (mustQ cs [] []) wr) (fun t _ _ => W - (intOf t).toNat)
      case atStart => exact ⟨0, by omega, rfl, rfl, HJ.out⟩
      case round =>
        obtain ⟨k, hk, rfl, rfl, hO⟩ := hrel
        have HB := Lib.hid hO.below
        clear hO HJ
        by_cases hkW : k < W
        · have i2 : (k : Int) < (W : Int) := by omega
          go_wp2_with fail
          go_ret
          exact ⟨rfl, HB.out⟩
        · obtain rfl : k = W := by omega
          go_wp2_with fail
          go_ret
          exact ⟨rfl, HB.out⟩
  · have hse := H1.out.2.2.1
    rw [if_pos hX] at hse
    have bX : (X == 0) = false := beq_eq_false_iff_ne.2 hX
    have bY : (X != 0) = true := by rw [bne_iff_ne]; exact hX
    injection hse with e1 e2
    injection e2 with e2 e3
    subst e1 e2 e3
    have HB := Lib.hid H3.out.1
    clear H1 H3 hX
    go_wp2_with fail
    go_loopw [14, 11] (fun t sy wr => ∃ k : Nat, k ≤ W ∧ t = .int .i64 k ∧ sy = .int .i64 Re ∧ wr = z4) (fun t _ _ => W - (intOf t).toNat)
    case atStart => exact ⟨0, by omega, rfl, rfl, rfl⟩
    case round =>
      obtain ⟨k, hk, rfl, rfl, rfl⟩ := hrel
      by_cases hkW : k < W
      · have i2 : (k : Int) < (W : Int) := by omega
        go_wp2_with fail
        go_ret
        exact ⟨rfl, HB.out⟩
      · obtain rfl : k = W := by omega
        go_wp2_with fail
        go_ret
        exact ⟨rfl, HB.out⟩
end Go.Proofs.YtfgangkpebkicaaDoor
