/-
  Joined by a program out of: LinOpen, LinStart.
-/
import Derived.Test.YtfpnklcjkjfniaaDoorMgAF
import Derived.Test.YtfpnklcjkjfniaaDoorMgAI
import Derived.Deep.CutRange
import Derived.Test.YtfpnklcjkjfniaaDoorMgAJ

/-
  Contract of search.open.
-/
namespace Go.Proofs.YtfpnklcjkjfniaaDoor
open Go.RowKit
set_option maxRecDepth 20000

/-- The error of a search. -/
def searchE (o : List Cl × Nat × Int) : Int := if o.2.2 ≠ 0 then o.2.2 else if 9 < o.1.length then 2 else 0
def OpenPost (w : World) (tv : Value) (o : List Cl × Nat × Int) (e : Ending) (w' : World) : Prop :=
  Below w.heap.size w w' ∧ ((searchE o ≠ 0 ∧ e = .returned (.tuple #[srV (.slice none 0 0) (.slice none 0 0) (fun _ => 0) 0, .int .i64 (searchE o)])) ∨
    (searchE o = 0 ∧ ∃ cv, e = .returned (.tuple #[srV tv cv (befP o.1) (ansP o.1), .int .i64 0]) ∧ CRd w' w'.heap.size cv o.1))
theorem pick_succ (p : Nat → Bool) (m : Nat) : pickS p (m + 1) = if p m = true then pickS p m ||| 2 ^ m else pickS p m := rfl
/-- While the record is made. -/
structure OpR (w0 : World) (tv cv : Value) (cs : List Cl) (G X : Nat) (b : Nat → Nat) (an : Nat) (wr : World) : Prop where
  below : Below w0.heap.size w0 wr
  res : SrB wr w0.heap.size (.slice none 0 0) (.slice none 0 0) (fun _ => 0) 0
  ah : RelB wr G cs.length (relP (aheadB cs) cs.length)
  own : SrB wr X tv cv b an
  rc : CRd wr G cv cs
  rg : w0.heap.size < G
  gx : G < X
section
variable {w0 wr w' : World} {tv cv : Value} {cs : List Cl} {G X : Nat} {b : Nat → Nat} {an : Nat}
theorem OpR.next (h : OpR w0 tv cv cs G X b an wr) (hb : Below wr.heap.size wr w') : OpR w0 tv cv cs G X b an w' :=
  ⟨h.below.trans (hb.mono h.below.size), Lies.below h.res hb h.res.lt, Lies.below h.ah hb h.ah.lt, Lies.below h.own hb h.own.lt, h.rc.below (hb.mono (Nat.le_of_lt h.ah.lt)), h.rg, h.gx⟩
theorem OpR.setB (h : OpR w0 tv cv cs G X b an wr) {k : Nat} (hk : k < 9) (x : Nat) : OpR w0 tv cv cs G X (fun i => if i = k then x else b i) an (wr.setCell ⟨X, 2 + k, none⟩ (.int .u16 (x : Nat))) :=
  ⟨h.below.setCell (p := ⟨X, 2 + k, none⟩) (by have := h.rg; have := h.gx; show w0.heap.size ≤ X; omega) _, Lies.far h.res (by have := h.rg; have := h.gx; show w0.heap.size ≠ X; omega) _, Lies.far h.ah (by have := h.gx; show G ≠ X; omega) _, h.own.setB hk x, h.rc.below ((Below.refl _ _).setCell (p := ⟨X, 2 + k, none⟩) (Nat.le_of_lt h.gx) _), h.rg, h.gx⟩
theorem OpR.setA (h : OpR w0 tv cv cs G X b an wr) (x : Nat) : OpR w0 tv cv cs G X b x (wr.setCell ⟨X, 11, none⟩ (.int .u16 (x : Nat))) :=
  ⟨h.below.setCell (p := ⟨X, 11, none⟩) (by have := h.rg; have := h.gx; show w0.heap.size ≤ X; omega) _, Lies.far h.res (by have := h.rg; have := h.gx; show w0.heap.size ≠ X; omega) _, Lies.far h.ah (by have := h.gx; show G ≠ X; omega) _, h.own.setA x, h.rc.below ((Below.refl _ _).setCell (p := ⟨X, 11, none⟩) (Nat.le_of_lt h.gx) _), h.rg, h.gx⟩
theorem OpR.drew (h : OpR w0 tv cv cs G X b an wr) : OpR w0 tv cv cs G X b an wr.drew := ⟨h.below.drew, h.res, h.ah, h.own, h.rc.below (Below.refl _ _).drew, h.rg, h.gx⟩
theorem OpR.congr {b' : Nat → Nat} (h : OpR w0 tv cv cs G X b an wr) (e : ∀ i, i < 9 → b i = b' i) : OpR w0 tv cv cs G X b' an wr := ⟨h.below, h.res, h.ah, h.own.congr e, h.rc, h.rg, h.gx⟩
end

theorem fillS_far {wr : World} {q g : Nat} (h : g ≠ q) (tv cv : Value) (b : Nat → Nat) (an : Nat) : (fillS wr q tv cv b an).heap[g]? = wr.heap[g]? := by
  have key : ∀ (W : World) (i : Nat) (u : Value), (W.setCell ⟨q, i, none⟩ u).heap[g]? = W.heap[g]? := fun W i u => Below.heap_setCell W ⟨q, i, none⟩ u g h
  unfold fillS
  rw [key, key, key, key, key, key, key, key, key, key, key, key]
theorem calls_far {wr : World} {B q : Nat} {v : Value} {l : List Cl} (h : CRd wr B v l) (hz : SrB wr q (.slice none 0 0) (.slice none 0 0) (fun _ => 0) 0) (tv cv : Value) (b : Nat → Nat) (an : Nat) : CRd (fillS wr q tv cv b an) B v l := by
  obtain ⟨A, cap, hv, h0, h1, h2⟩ := h
  refine ⟨A, cap, hv, h0, h1, fun hp => ?_⟩
  obtain ⟨g, o, hA, hg, hc⟩ := h2 hp
  have hne : g ≠ q := by
    rintro rfl
    have h3 := hc 0 l[0] (List.getElem?_eq_getElem hp) 0 _ rfl
    rw [Lies.cell hz] at h3
    have h4 := Array.getElem?_eq_some_iff.1 h3
    obtain ⟨h5, h6⟩ := h4
    have h7 : o + 0 * 7 + 0 < 12 := by simpa using h5
    generalize o + 0 * 7 + 0 = k at h3 h7
    have h8 : k = 0 ∨ k = 1 ∨ k = 2 ∨ k = 3 ∨ k = 4 ∨ k = 5 ∨ k = 6 ∨ k = 7 ∨ k = 8 ∨ k = 9 ∨ k = 10 ∨ k = 11 := by omega
    rcases h8 with rfl | rfl | rfl | rfl | rfl | rfl | rfl | rfl | rfl | rfl | rfl | rfl <;> simp [srCs] at h3
  have hsame := fillS_far (wr := wr) hne tv cv b an
  refine ⟨g, o, hA, hg, fun k x hk j u hu => ?_⟩
  rw [← hc k x hk j u hu]
  simp only [World.cell?, hsame]

set_option maxHeartbeats 8000000 in
theorem open_any {tv lv : Value} {ts : List Int} {l : List Ev} {w : World} (ht : NRd w w.heap.size tv ts) (hl : ERd w w.heap.size lv l) :
    Calls Tryd.prog 42 #[tv, lv] w (OpenPost w tv (callsOf ts l)) := by
  have hb0 : Below w.heap.size w (w.alloc (.cells (srCs (.slice none 0 0) (.slice none 0 0) (fun _ => 0) 0) 79)) := (Below.refl _ _).alloc (Nat.le_refl _) _
  have hc := calls_any ((ht.below hb0).mono hb0.size) ((hl.below hb0).mono hb0.size)
  have hr0 : SrB (w.alloc (.cells (srCs (.slice none 0 0) (.slice none 0 0) (fun _ => 0) 0) 79)) w.heap.size (.slice none 0 0) (.slice none 0 0) (fun _ => 0) 0 := Lies.new _ _ _
  generalize callsOf ts l = o at hc ⊢
  have HH := Lib.hid (And.intro hb0 hr0)
  have HCL := Lib.hid hc
  obtain ⟨At, capt, rfl, m1, m2⟩ := ht.is
  obtain ⟨Al, capl, rfl, m3, m4⟩ := hl.is
  clear hb0 hr0 hc ht hl m1 m2 m3 m4
  generalize ts.length = tl at HCL ⊢
  generalize hAl : Value.slice Al l.length capl = lv at HCL ⊢
  clear hAl
  go_enter Tryd.func42, Tryd.ntmps42
  go_wp2_with fail
  refine HCL.out.mono ?_
  rintro e w1 ⟨v, rfl, hb1, hcr⟩
  have hb : Below w.heap.size w w1 := HH.out.1.trans (hb1.mono HH.out.1.size)
  have hr1 : SrB w1 w.heap.size (.slice none 0 0) (.slice none 0 0) (fun _ => 0) 0 := Lies.below HH.out.2 hb1 HH.out.2.lt
  obtain ⟨cs, m, E⟩ := o
  obtain ⟨A, c, rfl, -, -⟩ := hcr.is
  simp only at hcr ⊢
  have hs : w1.cell? ⟨w.heap.size, 0, none⟩ = some (.slice none 0 0) := Lies.cell hr1 0
  have hcc := hr1.cells
  have hf := hr1.free
  have HR := Lib.hid (And.intro hb (And.intro hr1 hcr))
  clear HCL HH hb1 hb hr1 hcr hs
  by_cases hE : E = 0
  · subst hE
    by_cases h9 : 9 < cs.length
    · have h9' : (9 : Int) < (cs.length : Int) := by omega
      obtain ⟨q0, q1, q2, q3, q4, q5, q6, q7, q8, q9, q10, q11⟩ := hcc
      go_wp2_with fail
      clear q0 q1 q2 q3 q4 q5 q6 q7 q8 q9 q10 q11 hf
      have hz := HR.out.2.1.fill (.slice none 0 0) (.slice none 0 0) (fun _ => 0) 0
      have hbz := fillS_below HR.out.1 (g := w.heap.size) (Nat.le_refl _) (.slice none 0 0) (.slice none 0 0) (fun _ => 0) 0
      change bodyPost _ _ _ _ _ (fillS w1 w.heap.size (.slice none 0 0) (.slice none 0 0) (fun _ => 0) 0)
      generalize fillS w1 w.heap.size (.slice none 0 0) (.slice none 0 0) (fun _ => 0) 0 = wz at hz hbz ⊢
      obtain ⟨q0, q1, q2, q3, q4, q5, q6, q7, q8, q9, q10, q11⟩ := hz.cells
      exact bodyPost_ret (v := .tuple #[srV (.slice none 0 0) (.slice none 0 0) (fun _ => 0) 0, .int .i64 2])
        (by simp [results, Tryd.results42, go_sem, q0, q1, q2, q3, q4, q5, q6, q7, q8, q9, q10, q11]) rfl ⟨hbz, .inl ⟨by unfold searchE; simp [h9], by unfold searchE; simp [h9]⟩⟩
    · have h9' : ¬ (9 : Int) < (cs.length : Int) := by omega
      go_wp2_with fail
      refine (ahead_few HR.out.2.2 (Nat.le_refl _) (by omega)).mono ?_
      rintro e w2 ⟨rfl, hb2⟩
      have hz2 : SrB w2 w.heap.size (.slice none 0 0) (.slice none 0 0) (fun _ => 0) 0 := Lies.below HR.out.2.1 hb2 HR.out.2.1.lt
      have hO0 : OpR w (.slice At tl capt) (.slice A cs.length c) cs w2.heap.size (w2.heap.size + 1) (revs cs.length (relP (aheadB cs) cs.length) 0) (pickS (fun i => decide ((cs.getD i default).til ≠ -1)) 0) ((w2.alloc (.cells (relCs cs.length (relP (aheadB cs) cs.length)) 36)).alloc (.cells (srCs (.slice At tl capt) (.slice A cs.length c) (fun _ => 0) 0) 79)) := by
        have h2 := Lies.new (w2.alloc (.cells (relCs cs.length (relP (aheadB cs) cs.length)) 36)) 79 (srCs (.slice At tl capt) (.slice A cs.length c) (fun _ => 0) 0)
        rw [World.size_alloc] at h2
        have hbw2 : Below w.heap.size w w2 := HR.out.1.trans (hb2.mono HR.out.1.size)
        have hcr2 : CRd w2 w2.heap.size (.slice A cs.length c) cs := (HR.out.2.2.below hb2).mono hb2.size
        exact ⟨(hbw2.alloc hbw2.size _).alloc (by have := hbw2.size; simp; omega) _, Lies.alloc (Lies.alloc hz2 _) _, Lies.alloc (Lies.new _ _ _) _, h2, hcr2.below (((Below.refl _ _).alloc (Nat.le_refl _) _).alloc (by simp) _), hz2.lt, by omega⟩
      have HO := Lib.hid hO0
      clear hcc hf HR hb2 hz2 hO0
      go_wp2_with fail
      have hO := HO.out
      clear HO
      change Code.wp _ _ _ _ ((w2.alloc (.cells (relCs cs.length (relP (aheadB cs) cs.length)) 36)).alloc (.cells (srCs (.slice At tl capt) (.slice A cs.length c) (fun _ => 0) 0) 79))
      generalize (w2.alloc (.cells (relCs cs.length (relP (aheadB cs) cs.length)) 36)).alloc (.cells (srCs (.slice At tl capt) (.slice A cs.length c) (fun _ => 0) 0) 79) = W at hO ⊢
      obtain ⟨X, hX⟩ : ∃ X, X = w2.heap.size + 1 := ⟨_, rfl⟩
      rw [← hX] at hO ⊢
      clear hX
      generalize w2.heap.size = G at hO ⊢
      obtain ⟨n, hn⟩ : ∃ n, n = cs.length := ⟨_, rfl⟩
      have HN := Lib.hid hn
      rw [← hn] at hO ⊢
      have hn9 : n ≤ 9 := by omega
      generalize hrel : relP (aheadB cs) n = R at hO
      have hRl : ∀ i, R i < 65536 := fun i => by rw [← hrel]; exact relP_lt _ (by omega) i
      have HRE := Lib.hid (And.intro hrel hRl)
      clear hn hrel hRl h9 h9'
      go_loopw [43] (fun t wr => ∃ i : Nat, i ≤ n ∧ t = .int .i64 i ∧ OpR w (.slice At tl capt) (.slice A n c) cs G X (revs n R i) (pickS (fun i => decide ((cs.getD i default).til ≠ -1)) i) wr) (fun t _ => n - (intOf t).toNat)
      case atStart => exact ⟨0, by omega, rfl, hO⟩
      case round =>
        clear hO
        obtain ⟨i, hi, rfl, hO⟩ := hrel
        by_cases hin : i < n
        · obtain ⟨x, hx⟩ : ∃ x, cs[i]? = some x := ⟨_, List.getElem?_eq_getElem (by rw [← HN.out]; exact hin)⟩
          have hxd : cs.getD i default = x := by rw [List.getD_eq_getElem?_getD, hx]; rfl
          obtain ⟨g, o, rfl, -, d0, d1, d2, d3, d4, d5, d6⟩ := hO.rc.cl hx
          have hst := pick_succ (fun i => decide ((cs.getD i default).til ≠ -1)) i
          simp only [hxd] at hst
          have HST := Lib.hid hst
          have HO := Lib.hid hO
          obtain ⟨x0, x1, x2, x3, x4, x5, x6⟩ := x
          simp only at HST
          have i1 : (0 : Int) ≤ (i : Int) := by omega
          have i2 : (i : Int) < (n : Int) := by omega
          clear hO hx hxd hst
          go_wp2_with fail
          change Calls _ _ _ (wr.alloc (.cells (clCs ⟨x0, x1, x2, x3, x4, x5, x6⟩).toArray 57)) _
          have hO1 := HO.out.next ((Below.refl _ _).alloc (Nat.le_refl _) (.cells (clCs ⟨x0, x1, x2, x3, x4, x5, x6⟩).toArray 57))
          clear HO d0 d1 d2 d3 d4 d5 d6
          generalize wr.alloc (.cells (clCs ⟨x0, x1, x2, x3, x4, x5, x6⟩).toArray 57) = W3 at hO1 ⊢
          generalize wr.heap.size = P2
          refine (lresp_any ⟨x0, x1, x2, x3, x4, x5, x6⟩ W3).mono ?_
          rintro e w4 ⟨rfl, hb4⟩
          have hO := hO1.next hb4
          clear hO1 hb4
          have ca := hO.own.ans
          have fa := hO.own.free 11
          have hal : pickS (fun i => decide ((cs.getD i default).til ≠ -1)) i < 65536 := pickS_lt16 _ (by omega)
          have HOO := Lib.hid hO
          clear hO
          generalize pickS (fun i => decide ((cs.getD i default).til ≠ -1)) i = z at ca hal HOO HST
          have ho := or_pow z i hal (by omega)
          have hp := pow_u16 i (by omega)
          go_upto_if 49 with fail
          go_cut [43] from 43 to 77 (fun t wx => t = .int .i64 i ∧ OpR w (.slice At tl capt) (.slice (some ⟨g, o, none⟩) n c) cs G X (revs n R i) (pickS (fun i => decide ((cs.getD i default).til ≠ -1)) (i + 1)) wx)
          case first =>
            by_cases t1 : x6 = -1
            · have hz : (x6 != -1) = false := by rw [bne_eq_false_iff_eq]; exact t1
              have hs := HST.out
              rw [if_neg (by simp [t1])] at hs
              have HS2 := Lib.hid hs
              rw [hz]
              clear hs t1 hz
              go_wp2_with fail
              go_meet
              exact ⟨rfl, by rw [HS2.out]; exact HOO.out⟩
            · have hz : (x6 != -1) = true := by rw [bne_iff_ne]; exact t1
              have hs := HST.out
              rw [if_pos (by simp [t1])] at hs
              have HS2 := Lib.hid hs
              rw [hz]
              clear hs t1 hz
              go_wp2_with fail
              go_region
              go_wp2
              go_meet
              exact ⟨rfl, by rw [HS2.out]; exact (HOO.out.setA _).drew⟩
          case rest =>
            obtain ⟨rfl, hO⟩ := hcut
            clear ca fa ho hp HOO hal HST
            generalize hz2 : pickS (fun i => decide ((cs.getD i default).til ≠ -1)) (i + 1) = z2 at hO ⊢
            have HZ2 := Lib.hid hz2
            clear hz2
            go_wp2_with fail
            go_loopw [58] (fun t wr => ∃ j : Nat, j ≤ n ∧ t = .int .i64 j ∧ OpR w (.slice At tl capt) (.slice (some ⟨g, o, none⟩) n c) cs G X (stepR j R i (revs n R i)) z2 wr) (fun t _ => n - (intOf t).toNat)
            case atStart => exact ⟨0, by omega, rfl, by rw [stepR_zero]; exact hO⟩
            case round =>
              clear hO
              obtain ⟨j, hj, rfl, hO⟩ := hrel
              by_cases hjn : j < n
              · have hah := hO.ah
                rw [← HN.out, HRE.out.1] at hah
                have ck := hah.row' (k := i) (by omega)
                have cb := hO.own.row (k := j) (by omega)
                have fb := hO.own.free (2 + j)
                rw [stepR_at] at cb
                have hlm : revs n R i j < 65536 := revs_lt n R 16 j i (by omega)
                have ho := or_pow (revs n R i j) i hlm (by omega)
                have hp := pow_u16 i (by omega)
                have j1 : (0 : Int) ≤ (j : Int) := by omega
                have j2 : (j : Int) < 9 := by omega
                have i3 : (i : Int) < 12 := by omega
                have hs := stepR_succ j R i (revs n R i)
                have HO := Lib.hid hO
                cases hb : (R i).testBit j
                · rw [hb] at hs
                  have HS := Lib.hid hs
                  have Hb := Lib.hid hb
                  clear hs hb hO hah
                  go_wp2_with fail
                  refine (lhas_any (R i) j _ (HRE.out.2 i) (by omega)).mono ?_
                  rw [Hb.out]
                  rintro e w' ⟨rfl, rfl⟩
                  go_wp2_with fail
                  go_roundw
                  case rel => exact ⟨j + 1, by omega, by go_num, HO.out.congr (fun x hx => by rw [HS.out]; split <;> simp_all [stepR_at])⟩
                  case measure => simp [intOf]; omega
                · rw [hb] at hs
                  have HS := Lib.hid hs
                  have Hb := Lib.hid hb
                  clear hs hb hO hah
                  go_wp2_with fail
                  refine (lhas_any (R i) j _ (HRE.out.2 i) (by omega)).mono ?_
                  rw [Hb.out]
                  rintro e w' ⟨rfl, rfl⟩
                  go_wp2_with fail
                  go_region
                  go_wp2
                  go_roundw
                  case rel => exact ⟨j + 1, by omega, by go_num, (OpR.drew (HO.out.setB (k := j) (by omega) _)).congr (fun x hx => by rw [HS.out]; split <;> simp_all)⟩
                  case measure => simp [intOf]; omega
              · obtain rfl : n = j := by omega
                have HO := Lib.hid hO
                clear hO
                go_wp2_with fail
                go_roundw
                case rel => exact ⟨i + 1, by omega, by go_num, by rw [HZ2.out]; exact HO.out⟩
                case measure => simp [intOf]; omega
        · obtain rfl : n = i := by omega
          generalize hz1 : pickS (fun i => decide ((cs.getD i default).til ≠ -1)) n = z1 at hO
          generalize hb1 : revs n R n = b1 at hO
          have HZ1 := Lib.hid (And.intro hz1 hb1)
          clear hz1 hb1
          have hq := hO.res.cells
          obtain ⟨q0, q1, q2, q3, q4, q5, q6, q7, q8, q9, q10, q11⟩ := hq
          obtain ⟨p0, p1, p2, p3, p4, p5, p6, p7, p8, p9, p10, p11⟩ := hO.own.cells
          have hf := hO.res.free
          have HO := Lib.hid hO
          clear hO
          go_wp2_with fail
          clear q0 q1 q2 q3 q4 q5 q6 q7 q8 q9 q10 q11 hf p0 p1 p2 p3 p4 p5 p6 p7 p8 p9 p10 p11
          have hz := HO.out.res.fill (.slice At tl capt) (.slice A n c) b1 z1
          have hbz := fillS_below HO.out.below (g := w.heap.size) (Nat.le_refl _) (.slice At tl capt) (.slice A n c) b1 z1
          have hcz := calls_far HO.out.rc HO.out.res (.slice At tl capt) (.slice A n c) b1 z1
          have hGs : G ≤ (fillS wr w.heap.size (.slice At tl capt) (.slice A n c) b1 z1).heap.size := Nat.le_trans (Nat.le_of_lt HO.out.ah.lt) (fillS_below (Below.refl 0 wr) (g := w.heap.size) (Nat.zero_le _) (.slice At tl capt) (.slice A n c) b1 z1).size
          change bodyPost _ _ _ _ _ (fillS wr w.heap.size (.slice At tl capt) (.slice A n c) b1 z1)
          generalize fillS wr w.heap.size (.slice At tl capt) (.slice A n c) b1 z1 = wz at hz hbz hcz hGs ⊢
          obtain ⟨q0, q1, q2, q3, q4, q5, q6, q7, q8, q9, q10, q11⟩ := hz.cells
          have e1 : befP cs = b1 := by rw [bef_rev, ← HN.out, HRE.out.1, ← HZ1.out.2]; rfl
          have e2 : ansP cs = z1 := by unfold ansP; rw [← HN.out, ← HZ1.out.1]
          exact bodyPost_ret (v := .tuple #[srV (.slice At tl capt) (.slice A n c) b1 z1, .int .i64 0])
            (by simp [results, Tryd.results42, go_sem, q0, q1, q2, q3, q4, q5, q6, q7, q8, q9, q10, q11]) rfl ⟨hbz, .inr ⟨by unfold searchE; have := HN.out; simp; omega, _, by rw [e1, e2], hcz.mono hGs⟩⟩
  · have hE' : (E != 0) = true := by rw [bne_iff_ne]; exact hE
    obtain ⟨q0, q1, q2, q3, q4, q5, q6, q7, q8, q9, q10, q11⟩ := hcc
    go_wp2_with fail
    clear q0 q1 q2 q3 q4 q5 q6 q7 q8 q9 q10 q11 hf
    have hz := HR.out.2.1.fill (.slice none 0 0) (.slice none 0 0) (fun _ => 0) 0
    have hbz := fillS_below HR.out.1 (g := w.heap.size) (Nat.le_refl _) (.slice none 0 0) (.slice none 0 0) (fun _ => 0) 0
    change bodyPost _ _ _ _ _ (fillS w1 w.heap.size (.slice none 0 0) (.slice none 0 0) (fun _ => 0) 0)
    generalize fillS w1 w.heap.size (.slice none 0 0) (.slice none 0 0) (fun _ => 0) 0 = wz at hz hbz ⊢
    obtain ⟨q0, q1, q2, q3, q4, q5, q6, q7, q8, q9, q10, q11⟩ := hz.cells
    exact bodyPost_ret (v := .tuple #[srV (.slice none 0 0) (.slice none 0 0) (fun _ => 0) 0, .int .i64 E])
      (by simp [results, Tryd.results42, go_sem, q0, q1, q2, q3, q4, q5, q6, q7, q8, q9, q10, q11]) rfl ⟨hbz, .inl ⟨by unfold searchE; rw [if_pos hE]; exact hE, by unfold searchE; rw [if_pos hE]⟩⟩
end Go.Proofs.YtfpnklcjkjfniaaDoor

/-
  Contract of (*record).start.
-/
namespace Go.Proofs.YtfpnklcjkjfniaaDoor
open Go.RowKit
set_option maxRecDepth 20000

/-- The states of the first k things. -/
def firstS (ts : List Int) (k i : Nat) : List Int := if i < k then beginL (ts.getD i 0) else []
structure StR (w : World) (ts : List Int) (k : Nat) (s : Nat → Value) (wr : World) : Prop where
  below : Below w.heap.size w wr
  res : PtB wr w.heap.size 0 nilS
  own : PtB wr (w.heap.size + 1) 0 s
  st : ∀ i, i < 4 → NAw (fun g => w.heap.size + 1 < g) wr (s i) (firstS ts k i)
theorem StR.next {w wr w' : World} {ts : List Int} {k : Nat} {s : Nat → Value} (h : StR w ts k s wr) (hb : Below wr.heap.size wr w') : StR w ts k s w' :=
  ⟨h.below.trans (hb.mono h.below.size), Lies.below h.res hb h.res.lt, Lies.below h.own hb h.own.lt, fun i hi => (h.st i hi).next hb⟩
theorem StR.put {w wr : World} {ts : List Int} {k : Nat} {s : Nat → Value} (h : StR w ts k s wr) (hk : k < 4) {v : Value} (hv : NAw (fun g => w.heap.size + 1 < g) wr v (beginL (ts.getD k 0))) : StR w ts (k + 1) (fun i => if i = k then v else s i) (wr.setCell ⟨w.heap.size + 1, 1 + k, none⟩ v) := by
  refine ⟨h.below.setCell (p := ⟨w.heap.size + 1, 1 + k, none⟩) (by show w.heap.size ≤ w.heap.size + 1; omega) _, Lies.far h.res (by show w.heap.size ≠ w.heap.size + 1; omega) _, h.own.setS hk v, fun i hi => ?_⟩
  have hne : ∀ g : Nat, w.heap.size + 1 < g → g ≠ w.heap.size + 1 := fun g hg => by omega
  by_cases e : i = k
  · subst e
    simp only [if_true]
    have := hv.setCell ⟨w.heap.size + 1, 1 + i, none⟩ v hne
    unfold firstS
    rw [if_pos (by omega)]
    exact this
  · have := (h.st i hi).setCell ⟨w.heap.size + 1, 1 + k, none⟩ v hne
    simp only [e, if_false]
    have e2 : firstS ts (k + 1) i = firstS ts k i := by
      unfold firstS
      by_cases h1 : i < k
      · rw [if_pos h1, if_pos (by omega)]
      · rw [if_neg h1, if_neg (by omega)]
    rw [e2]
    exact this

set_option maxHeartbeats 4000000 in
theorem lstart_any {w : World} {Q : Nat} {tv cv : Value} {ts : List Int} {cs : List Cl} (hR : RecAt w Q tv cv ts cs) (hts : ts.length ≤ 4) :
    Calls Tryd.prog 43 #[.pointer (some ⟨Q, 0, none⟩)] w fun e w' => ∃ pv, e = .returned pv ∧ PtRd (fun g => w.heap.size + 1 < g) w' pv (startP ts) ∧ Below w.heap.size w w' := by
  obtain ⟨At, capt, rfl, m1, m2⟩ := hR.rt.is
  obtain ⟨tl, hl⟩ : ∃ tl, tl = ts.length := ⟨_, rfl⟩
  rw [← hl] at hR hts m1
  have h1 : StR w ts 0 nilS ((w.alloc (.cells (ptCs 0 nilS) 84)).alloc (.cells (ptCs 0 nilS) 84)) := by
    have h2 := Lies.new (w.alloc (.cells (ptCs 0 nilS) 84)) 84 (ptCs 0 nilS)
    rw [World.size_alloc] at h2
    exact ⟨((Below.refl _ _).alloc (Nat.le_refl _) _).alloc (by simp) _, Lies.alloc (Lies.new _ _ _) _, h2, fun i _ => NAw.nil _ _⟩
  have c0 : ∀ o o', ((w.alloc o).alloc o').cell? ⟨Q, 0, none⟩ = some (.slice At tl capt) := fun o o' => (Below.cell (((Below.refl w.heap.size w).alloc (Nat.le_refl _) o).alloc (by simp) o') (p := ⟨Q, 0, none⟩) hR.lt).trans hR.c0
  have HR := Lib.hid hR
  have HL := Lib.hid hl
  have H1 := Lib.hid h1
  clear hR hl h1
  go_enter Tryd.func43, Tryd.ntmps43
  go_wp2_with fail
  have hS := H1.out
  clear H1 c0
  change Code.wp _ _ _ _ ((w.alloc (.cells (ptCs 0 nilS) 84)).alloc (.cells (ptCs 0 nilS) 84))
  generalize (w.alloc (.cells (ptCs 0 nilS) 84)).alloc (.cells (ptCs 0 nilS) 84) = W at hS ⊢
  go_loopw [11] (fun t wr => ∃ k : Nat, k ≤ tl ∧ t = .int .i64 k ∧ ∃ s, StR w ts k s wr) (fun t _ => tl - (intOf t).toNat)
  case atStart => exact ⟨0, by omega, rfl, nilS, hS⟩
  case round =>
    clear hS
    obtain ⟨k, hk, rfl, s, hS⟩ := hrel
    by_cases hkt : k < tl
    · obtain ⟨x, hx⟩ : ∃ x, ts[k]? = some x := ⟨_, List.getElem?_eq_getElem (by rw [← HL.out]; exact hkt)⟩
      obtain ⟨g, o, rfl, -, d0⟩ := (HR.out.rt.below hS.below).num hx
      have hxd : ts.getD k 0 = x := by rw [List.getD_eq_getElem?_getD, hx]; rfl
      have HXD := Lib.hid hxd
      have i1 : (0 : Int) ≤ (k : Int) := by omega
      have i2 : (k : Int) < (tl : Int) := by omega
      have HS := Lib.hid hS
      clear hS hx hxd
      go_wp2_with fail
      refine (start_any x wr).mono ?_
      rintro e w2 ⟨v, rfl, ho, hb⟩
      obtain ⟨A9, k9, rfl, -⟩ := ho.rd.is
      have hS2 := HS.out.next hb
      have hv : NAw (fun g => w.heap.size + 1 < g) w2 (.slice A9 (beginL x).length k9) (beginL (ts.getD k 0)) := by
        rw [HXD.out]
        exact (NAw.of_own ho).imp (fun g _ hg => by have := HS.out.own.lt; omega)
      have hfr := hS2.own.free (1 + k)
      have hce := hS2.own.row (k := k) (by omega)
      have i3 : (k : Int) < 4 := by omega
      have H2 := Lib.hid (And.intro hS2 hv)
      clear HS hb ho hS2 hv d0
      go_wp2_with fail
      go_roundw
      case rel => exact ⟨k + 1, by omega, by go_num, _, H2.out.1.put (by omega) H2.out.2⟩
      case measure => simp [intOf]; omega
    · obtain rfl : tl = k := by omega
      obtain ⟨q0, q1, q2, q3, q4⟩ := hS.res.cells
      have hf := hS.res.free
      have hst := hS.st
      have hown := PtB.four hS.own
      have hat := fun i hi => four_at s (i := i) hi
      obtain ⟨B0, k0, e0, -⟩ := hst 0 (by omega)
      obtain ⟨B1, k1, e1, -⟩ := hst 1 (by omega)
      obtain ⟨B2, k2, e2, -⟩ := hst 2 (by omega)
      obtain ⟨B3, k3, e3, -⟩ := hst 3 (by omega)
      rw [e0, e1, e2, e3] at hown hat
      generalize (firstS ts tl 0).length = l0 at hown hat
      generalize (firstS ts tl 1).length = l1 at hown hat
      generalize (firstS ts tl 2).length = l2 at hown hat
      generalize (firstS ts tl 3).length = l3 at hown hat
      have p0 : wr.cell? ⟨w.heap.size + 1, 0, none⟩ = some (.int .u16 0) := hown.cells.1
      have p1 : wr.cell? ⟨w.heap.size + 1, 1, none⟩ = some (.slice B0 l0 k0) := hown.cells.2.1
      have p2 : wr.cell? ⟨w.heap.size + 1, 2, none⟩ = some (.slice B1 l1 k1) := hown.cells.2.2.1
      have p3 : wr.cell? ⟨w.heap.size + 1, 3, none⟩ = some (.slice B2 l2 k2) := hown.cells.2.2.2.1
      have p4 : wr.cell? ⟨w.heap.size + 1, 4, none⟩ = some (.slice B3 l3 k3) := hown.cells.2.2.2.2
      have HS := Lib.hid hS
      have HAT := Lib.hid hat
      clear hS hst hown hat e0 e1 e2 e3
      go_wp2_with fail
      clear q0 q1 q2 q3 q4 hf p0 p1 p2 p3 p4
      have hz := HS.out.res.fill 0 (four (.slice B0 l0 k0) (.slice B1 l1 k1) (.slice B2 l2 k2) (.slice B3 l3 k3))
      have hbz := fillP_below HS.out.below (g := w.heap.size) (Nat.le_refl _) 0 (four (.slice B0 l0 k0) (.slice B1 l1 k1) (.slice B2 l2 k2) (.slice B3 l3 k3))
      have hsz : wr.heap.size ≤ (fillP wr w.heap.size 0 (four (.slice B0 l0 k0) (.slice B1 l1 k1) (.slice B2 l2 k2) (.slice B3 l3 k3))).heap.size := (fillP_below (Below.refl 0 wr) (g := w.heap.size) (Nat.zero_le _) 0 (four (.slice B0 l0 k0) (.slice B1 l1 k1) (.slice B2 l2 k2) (.slice B3 l3 k3))).size
      have hfa := fun g (hg : g ≠ w.heap.size) => fillP_far (w := wr) hg 0 (four (.slice B0 l0 k0) (.slice B1 l1 k1) (.slice B2 l2 k2) (.slice B3 l3 k3))
      change bodyPost _ _ _ _ _ (fillP wr w.heap.size 0 (four (.slice B0 l0 k0) (.slice B1 l1 k1) (.slice B2 l2 k2) (.slice B3 l3 k3)))
      generalize fillP wr w.heap.size 0 (four (.slice B0 l0 k0) (.slice B1 l1 k1) (.slice B2 l2 k2) (.slice B3 l3 k3)) = wz at hz hbz hsz hfa ⊢
      have q0 : wz.cell? ⟨w.heap.size, 0, none⟩ = some (.int .u16 0) := hz.cells.1
      have q1 : wz.cell? ⟨w.heap.size, 1, none⟩ = some (.slice B0 l0 k0) := hz.cells.2.1
      have q2 : wz.cell? ⟨w.heap.size, 2, none⟩ = some (.slice B1 l1 k1) := hz.cells.2.2.1
      have q3 : wz.cell? ⟨w.heap.size, 3, none⟩ = some (.slice B2 l2 k2) := hz.cells.2.2.2.1
      have q4 : wz.cell? ⟨w.heap.size, 4, none⟩ = some (.slice B3 l3 k3) := hz.cells.2.2.2.2
      refine bodyPost_ret (v := ptV 0 (four (.slice B0 l0 k0) (.slice B1 l1 k1) (.slice B2 l2 k2) (.slice B3 l3 k3)))
        (by simp [results, Tryd.results43, go_sem, q0, q1, q2, q3, q4, four]) rfl ⟨_, rfl, ⟨_, rfl, fun i hi => ?_⟩, hbz⟩
      rw [HAT.out i hi]
      have h3 := (HS.out.st i hi).keep hsz (fun g hg _ => hfa g (by omega))
      have e5 : (startP ts).st i = firstS ts tl i := by
        show (if i < ts.length then beginL (ts.getD i 0) else []) = _
        unfold firstS
        rw [← HL.out]
      rw [e5]
      exact h3
end Go.Proofs.YtfpnklcjkjfniaaDoor
