/-
  Joined by a program out of: ROnly.
-/
import Derived.Test.YthjmncngegchjaaMgAR
import Derived.Test.YthjmncngegchjaaMgAT
import Derived.Lib.MinMax

/-
  alibkeep.RowsOnly answers true, whatever is handed in.
-/
namespace Go.Proofs.Ythjmncngegchjaa
open Go.RowKit Go.Maps
set_option maxRecDepth 20000

/-- What the loops keep. -/
structure OnR (w : World) (B G : Nat) (Al : Option Addr) (L capl : Nat) (l : List Ev) (Ak : Option Addr) (nk capk : Nat) (ks : List Int) (A : Option Addr) (n cap : Nat) (cs : List Cl) (S : Nat → Bool) (W : World) : Prop where
  below : Below w.heap.size w W
  evs : ERd W B (.slice Al L capl) l
  nums : NRd W B (.slice Ak nk capk) ks
  cls : CRd W B (.slice A n cap) cs
  tab : BTab W G L S
  sz : w.heap.size ≤ G ∧ B ≤ G
section
variable {w : World} {B G : Nat} {Al : Option Addr} {L capl : Nat} {l : List Ev} {Ak : Option Addr} {nk capk : Nat} {ks : List Int} {A : Option Addr} {n cap : Nat} {cs : List Cl} {S S' : Nat → Bool} {W w' : World}
theorem OnR.next (h : OnR w B G Al L capl l Ak nk capk ks A n cap cs S W) (hb : Below W.heap.size W w') : OnR w B G Al L capl l Ak nk capk ks A n cap cs S w' := by
  have h1 := h.sz
  have h2 := Lies.lt h.tab
  exact ⟨h.below.trans (hb.mono (by omega)), h.evs.below (hb.mono (by omega)), h.nums.below (hb.mono (by omega)), h.cls.below (hb.mono (by omega)), Lies.below h.tab hb (Lies.lt h.tab), h1⟩
theorem OnR.over (h : OnR w B G Al L capl l Ak nk capk ks A n cap cs S W) (hb : Below (G + 1) W w') : OnR w B G Al L capl l Ak nk capk ks A n cap cs S w' := by
  have h1 := h.sz
  exact ⟨h.below.trans (hb.mono (by omega)), h.evs.below (hb.mono (by omega)), h.nums.below (hb.mono (by omega)), h.cls.below (hb.mono (by omega)), Lies.below h.tab hb (by omega), h1⟩
theorem OnR.set_ (h : OnR w B G Al L capl l Ak nk capk ks A n cap cs S W) (i : Nat) (x : Bool) : OnR w B G Al L capl l Ak nk capk ks A n cap cs (fun j => if j = i then x else S j) (W.setCell ⟨G, i, none⟩ (.bool x)) := by
  have h1 := h.sz
  have hb : Below G W (W.setCell ⟨G, i, none⟩ (.bool x)) := (Below.refl _ _).setCell (p := ⟨G, i, none⟩) (Nat.le_refl _) _
  exact ⟨h.below.trans (hb.mono h1.1), h.evs.below (hb.mono h1.2), h.nums.below (hb.mono h1.2), h.cls.below (hb.mono h1.2), BTab.set_ h.tab i x, h1⟩
theorem OnR.congr (h : OnR w B G Al L capl l Ak nk capk ks A n cap cs S W) (e : ∀ i, i < L → S i = S' i) : OnR w B G Al L capl l Ak nk capk ks A n cap cs S' W := by
  refine ⟨h.below, h.evs, h.nums, h.cls, Lies.cast h.tab ?_, h.sz⟩
  apply Array.ext_getElem?
  intro j
  by_cases hj : j < L
  · rw [bitCs_get _ _ _ hj, bitCs_get _ _ _ hj, e j hj]
  · simp [bitCs, hj]
end
theorem in_contains (ks : List Int) (c : Cl) : decide (max c.arg c.res ∈ ks) = decide (valQ c ∈ ks) := rfl
set_option maxHeartbeats 16000000 in
theorem ronly_any {lv sv : Value} {l : List Ev} {ks : List Int} {w : World} (hl : ERd w w.heap.size lv l) (hk : NRd w w.heap.size sv ks) :
    Calls Try.prog 5 #[lv, sv] w fun e w' => e = .returned (.bool true) ∧ Below w.heap.size w w' := by
  have HC := Lib.hid (rcheck_any hl)
  have HL := Lib.hid (And.intro hl hk)
  have HNL := Lib.hid (fun W : World => LRd.of_lit (f := intCs) (s := 1) (w := W) (l := [2]) (fun _ => rfl) 3 (cs := #[.int .i64 2]) rfl (n := 1) rfl (by unfold maxLen; omega))
  obtain ⟨Al, capl, rfl, m1, m2⟩ := hl.is
  obtain ⟨Ak, capk, rfl, n1, n2⟩ := hk.is
  unfold maxLen at m2 n2
  obtain ⟨L, hL⟩ : ∃ L, L = l.length := ⟨_, rfl⟩
  obtain ⟨nk, hnk⟩ : ∃ nk, nk = ks.length := ⟨_, rfl⟩
  rw [← hL, ← hnk] at HL
  rw [← hL] at HC m1 ⊢
  rw [← hnk] at n1 ⊢
  have HLL := Lib.hid (And.intro hL hnk)
  clear hl hk hL hnk
  go_enter Try.func5, Try.ntmps5
  go_wp2_with fail
  refine HC.out.mono ?_
  intro e w1 hck
  obtain ⟨b, k, x, y, rfl, hb1, hok, hno⟩ := hck.forms
  have HK := Lib.hid (And.intro hok hno)
  have hba := hb1.alloc hb1.size (.cells #[.int .i64 k, .int .i64 x, .int .i64 y] 28)
  have H1 := Lib.hid hba
  obtain ⟨E, hE⟩ : ∃ E, E = rowsE l := ⟨_, rfl⟩
  rw [← hE] at HK ⊢
  have HE := Lib.hid hE
  clear HC hok hb1 hck hE hba hno
  go_wp2_with fail
  change Calls _ _ _ ((w1.alloc (.cells #[.int .i64 k, .int .i64 x, .int .i64 y] 28)).alloc (.cells #[.int .i64 2] 3)) _
  rw [← World.size_alloc w1 (.cells #[.int .i64 k, .int .i64 x, .int .i64 y] 28)]
  generalize w1.alloc (.cells #[.int .i64 k, .int .i64 x, .int .i64 y] 28) = W2 at H1 ⊢
  have hb3 : Below w.heap.size w (W2.alloc (.cells #[.int .i64 2] 3)) := H1.out.alloc H1.out.size _
  have hn3 := (HNL.out W2).mono (B' := (W2.alloc (.cells #[.int .i64 2] 3)).heap.size) (by simp)
  have HF := Lib.hid (calls_any hn3 ((HL.out.1.below hb3).mono hb3.size))
  have H3 := Lib.hid hb3
  clear hb3 hn3 H1
  generalize W2.heap.size = G2 at HF ⊢
  generalize W2.alloc (.cells #[.int .i64 2] 3) = W3 at HF H3 ⊢
  refine HF.out.mono ?_
  rintro e w4 ⟨v, rfl, hb4, hcr⟩
  obtain ⟨A, cap, rfl, p1, p2⟩ := hcr.is
  unfold maxLen at p2
  obtain ⟨n, hn⟩ : ∃ n, n = (callsOf [2] l).1.length := ⟨_, rfl⟩
  rw [← hn] at hcr p1 ⊢
  have H4 := Lib.hid (And.intro (H3.out.trans (hb4.mono H3.out.size)) hcr)
  have hE0 : E = 0 → (callsOf [2] l).2.2 = 0 := fun e0 => (rowsE_calls (HE.out.symm.trans e0)).1
  have HNN := Lib.hid hn
  obtain ⟨E0, he0⟩ : ∃ E0, E0 = (callsOf [2] l).2.2 := ⟨_, rfl⟩
  obtain ⟨at1, hat1⟩ : ∃ a, a = (callsOf [2] l).2.1 := ⟨_, rfl⟩
  rw [← he0] at hE0 ⊢
  rw [← hat1]
  have HE0 := Lib.hid (And.intro hE0 he0)
  clear hcr HF H3 hb4 hn hE0 he0 hat1
  go_wp2_with fail
  refine (rlives_any w4).mono ?_
  rintro e w5 ⟨rfl, hb5⟩
  have H5 := Lib.hid (And.intro (H4.out.1.trans (hb5.mono H4.out.1.size)) ((H4.out.2.below hb5).mono hb5.size))
  clear hb5 H4
  have hal5 : Below w5.heap.size w5 (w5.alloc (.cells #[.int .i64 E, .int .i64 E0] 24)) := (Below.refl _ _).alloc (Nat.le_refl _) _
  have HOK := Lib.hid (ok_any (IRd.fresh w5 24 [E, E0] 2 rfl #[.int .i64 E, .int .i64 E0] rfl) (by simp))
  have H6 := Lib.hid (And.intro (H5.out.1.trans (hal5.mono H5.out.1.size)) ((H5.out.2.below hal5).mono hal5.size))
  clear hal5 H5
  by_cases hE0 : E = 0
  · have hz0 := HE0.out.1 hE0
    subst hE0
    subst hz0
    obtain ⟨hbk, hbad⟩ := HK.out.1 rfl
    rw [show decide (∀ x ∈ [(0 : Int), 0], x = 0) = true by decide] at HOK
    have HBD := Lib.hid (And.intro hbk hbad)
    clear hbk hbad HK
    go_wp2_with fail
    refine HOK.out.mono ?_
    rintro e w6 ⟨rfl, rfl⟩
    generalize w5.alloc (.cells #[.int .i64 0, .int .i64 0] 24) = W6 at H6 ⊢
    clear HOK
    cases b
    · go_wp2_with fail
      refine (rlives_any W6).mono ?_
      rintro e w7 ⟨rfl, hb7⟩
      have H7 := Lib.hid (H6.out.1.trans (hb7.mono H6.out.1.size))
      clear hb7
      go_wp2_with fail
      go_ret
      exact ⟨rfl, H7.out⟩
    · have hrow : rowsE l = 0 := HE.out.symm
      have hkind : (badQ (callsOf [2] l).1).kind = 0 := by
        rw [HBD.out.2]
        exact eq_of_beq HBD.out.1.symm
      have hq := rowsE_que hrow
      have hL200 : L ≤ 200 := by rw [HLL.out.1]; exact hq.n200
      have hsub := sub_out (kv := fun v => decide (v ∈ ks)) hrow
      have HG := Lib.hid (And.intro hsub.rowsE (hsub.good hkind))
      obtain ⟨cs, hcs⟩ : ∃ cs, cs = (callsOf [2] l).1 := ⟨_, rfl⟩
      rw [← hcs] at hq
      have hfr : ∀ c ∈ cs, 0 ≤ c.frm ∧ c.frm < (L : Int) ∧ c.til < (L : Int) ∧ (c.til = -1 ∨ c.frm < c.til) := fun c hc => by
        have h1 := hq.ord.tidy c hc
        have h2 := hq.ord.ends c hc
        rw [HLL.out.1]
        exact ⟨h1.2.2.1, h1.2.1, h1.1, h2⟩
      rw [← hcs] at HG HNN H6
      have HFR := Lib.hid hfr
      have hmk := made_bools L (L : Int) rfl (by omega) W6
      have hb8 : Below W6.heap.size W6 (W6.alloc (.cells (bitCs L fun _ => false) 4)) := (Below.refl _ _).alloc (Nat.le_refl _) _
      have h0 : OnR w W6.heap.size W6.heap.size Al L capl l Ak nk capk ks A n cap cs (fun _ => false) (W6.alloc (.cells (bitCs L fun _ => false) 4)) := by
        have hbw := H6.out.1.trans (hb8.mono H6.out.1.size)
        exact ⟨hbw, ((HL.out.1.below hbw).mono H6.out.1.size), ((HL.out.2.below hbw).mono H6.out.1.size), H6.out.2.below hb8, Lies.new _ _ _, ⟨H6.out.1.size, Nat.le_refl _⟩⟩
      have H0 := Lib.hid h0
      clear h0 hb8 hsub hkind hrow hq hfr hcs HBD H6
      go_wp2_with fail
      clear hmk
      have h0 := H0.out
      clear H0
      change Code.wp _ _ _ _ (W6.alloc (.cells (bitCs L fun _ => false) 4))
      generalize W6.alloc (.cells (bitCs L fun _ => false) 4) = W7 at h0 ⊢
      generalize W6.heap.size = G at h0 ⊢
      go_loopw [53] (fun i wr => ∃ k : Nat, k ≤ n ∧ i = .int .i64 k ∧ OnR w G G Al L capl l Ak nk capk ks A n cap cs (fun i => outP (fun v => decide (v ∈ ks)) (cs.take k) (i : Int)) wr) (fun i _ => n - (intOf i).toNat)
      case atStart => exact ⟨0, by omega, rfl, h0⟩
      case round =>
        clear h0
        obtain ⟨k, hkn0, rfl, hO⟩ := hrel
        by_cases hkn : k < n
        · obtain ⟨c, hc⟩ : ∃ c, cs[k]? = some c := ⟨_, List.getElem?_eq_getElem (by rw [← HNN.out]; exact hkn)⟩
          have hfc := HFR.out c (List.mem_of_getElem? hc)
          have hot := outP_take (kv := fun v => decide (v ∈ ks)) hc
          obtain ⟨g, o, hA, -, d0, d1, d2, d3, d4, d5, d6⟩ := hO.cls.cl hc
          subst hA
          have hiq : valQ c = max c.arg c.res := rfl
          obtain ⟨x0, x1, x2, x3, x4, x5, x6⟩ := c
          simp only at d0 d1 d2 d3 d4 d5 d6 hfc hot hiq
          obtain ⟨f, rfl⟩ : ∃ f : Nat, x5 = (f : Int) := ⟨x5.toNat, by omega⟩
          have i1 : (0 : Int) ≤ (k : Int) := by omega
          have i2 : (k : Int) < (n : Int) := by omega
          have f1 : (0 : Int) ≤ (f : Int) := by omega
          have f2 : (f : Int) < (L : Int) := by omega
          have hal : Below wr.heap.size wr (wr.alloc (.cells #[.int .i64 x0, .int .i64 x1, .int .i64 x2, .int .i64 x3, .int .i64 x4, .int .i64 (f : Int), .int .i64 x6] 49)) := (Below.refl _ _).alloc (Nat.le_refl _) _
          have HO := Lib.hid (And.intro (hO.next hal) (And.intro (Lies.new wr 49 #[.int .i64 x0, .int .i64 x1, .int .i64 x2, .int .i64 x3, .int .i64 x4, .int .i64 (f : Int), .int .i64 x6]) (Lies.lt hO.tab)))
          rw [hiq] at hot
          have HOT := Lib.hid hot
          have HFC := Lib.hid hfc
          clear hO hc hal hot hfc hiq
          go_upto_region 9 with fail
          clear d0 d1 d2 d3 d4 d5 d6
          change Code.wp _ _ _ _ (wr.alloc (.cells #[.int .i64 x0, .int .i64 x1, .int .i64 x2, .int .i64 x3, .int .i64 x4, .int .i64 (f : Int), .int .i64 x6] 49))
          generalize wr.alloc (.cells #[.int .i64 x0, .int .i64 x1, .int .i64 x2, .int .i64 x3, .int .i64 x4, .int .i64 (f : Int), .int .i64 x6] 49) = W8 at HO ⊢
          generalize wr.heap.size = Y at HO ⊢
          have HCN := Lib.hid (fun z => containsN_any (x := z) HO.out.1.nums (by have := HO.out.1.sz; have := Lies.lt HO.out.1.tab; omega))
          have e3 := Lies.cell HO.out.2.1 3
          have e4 := Lies.cell HO.out.2.1 4
          simp only [List.getElem?_toArray, List.getElem?_cons_zero, List.getElem?_cons_succ] at e3 e4
          go_wp2_with fail
          refine (HCN.out _).mono ?_
          rintro e w9 ⟨rfl, hb9⟩
          have hO9 := HO.out.1.next hb9
          have hX9 := Lies.below HO.out.2.1 hb9 HO.out.2.1.lt
          have HNE := Lib.hid HO.out.2.2
          clear HCN HO hb9 e3 e4
          obtain ⟨q, hq⟩ : ∃ q, q = decide (max x3 x4 ∈ ks) := ⟨_, rfl⟩
          rw [← hq] at HOT ⊢
          clear hq
          cases q
          · -- of no such value
            have e5 := Lies.cell hX9 5
            have e6 := Lies.cell hX9 6
            simp only [List.getElem?_toArray, List.getElem?_cons_zero, List.getElem?_cons_succ] at e5 e6
            have b0 := Lies.cell hO9.tab f
            rw [bitCs_get _ _ _ (by omega)] at b0
            have bf : ∀ i, w9.frozen? ⟨G, i, none⟩ = false := fun i => Lies.frozen hO9.tab i
            generalize outP (fun v => decide (v ∈ ks)) (cs.take k) (f : Int) = bb at b0
            have hO10 := hO9.set_ f true
            have hne : Y ≠ G := by have := HNE.out; omega
            have hX10 : Lies (w9.setCell ⟨G, f, none⟩ (.bool true)) Y 49 #[.int .i64 x0, .int .i64 x1, .int .i64 x2, .int .i64 x3, .int .i64 x4, .int .i64 (f : Int), .int .i64 x6] := Lies.far hX9 (p := ⟨G, f, none⟩) (by simp; omega) _
            have H10 := Lib.hid (And.intro hO10 hX10)
            clear hO9 hX9 hO10 hX10
            by_cases ht : x6 = -1
            · have hz : (x6 != -1) = false := by rw [ht]; rfl
              have HZ := Lib.hid (H10.out.1.congr (S' := fun i => outP (fun v => decide (v ∈ ks)) (cs.take (k + 1)) (i : Int)) fun i _ => by
                rw [HOT.out]
                by_cases e : i = f
                · rw [if_pos e, e]; simp
                · rw [if_neg e]
                  have : ((f : Int) == (i : Int)) = false := by rw [beq_eq_false_iff_ne]; omega
                  rw [this, ht]
                  simp)
              have e6b := Lies.cell H10.out.2 6
              simp only [List.getElem?_toArray, List.getElem?_cons_zero, List.getElem?_cons_succ] at e6b
              clear ht H10 hne
              go_wp2_with fail
              go_roundw
              case rel => exact ⟨k + 1, by omega, by go_num, HZ.out⟩
              case measure => simp [intOf]; omega
            · have hz : (x6 != -1) = true := by rw [bne_iff_ne]; exact ht
              obtain ⟨t, rfl⟩ : ∃ t : Nat, x6 = (t : Int) := ⟨x6.toNat, by have := HFC.out; omega⟩
              have t1 : (0 : Int) ≤ (t : Int) := by omega
              have t2 : (t : Int) < (L : Int) := by have := HFC.out; omega
              have e6b := Lies.cell H10.out.2 6
              simp only [List.getElem?_toArray, List.getElem?_cons_zero, List.getElem?_cons_succ] at e6b
              have b1 := Lies.cell H10.out.1.tab t
              rw [bitCs_get _ _ _ (by omega)] at b1
              have bf1 : ∀ i, (w9.setCell ⟨G, f, none⟩ (.bool true)).frozen? ⟨G, i, none⟩ = false := fun i => Lies.frozen H10.out.1.tab i
              generalize (if t = f then true else outP (fun v => decide (v ∈ ks)) (cs.take k) (t : Int)) = bc at b1
              have HZ := Lib.hid ((H10.out.1.set_ t true).congr (S' := fun i => outP (fun v => decide (v ∈ ks)) (cs.take (k + 1)) (i : Int)) fun i _ => by
                rw [HOT.out]
                by_cases e2 : i = t
                · rw [if_pos e2, e2]
                  have : ((t : Int) != -1) = true := by rw [bne_iff_ne]; omega
                  rw [this]
                  simp
                · rw [if_neg e2]
                  have h2 : ((t : Int) == (i : Int)) = false := by rw [beq_eq_false_iff_ne]; omega
                  rw [h2]
                  by_cases e : i = f
                  · rw [if_pos e, e]; simp
                  · rw [if_neg e]
                    have : ((f : Int) == (i : Int)) = false := by rw [beq_eq_false_iff_ne]; omega
                    rw [this]
                    simp)
              clear ht H10 hne
              go_wp2_with fail
              go_roundw
              case rel => exact ⟨k + 1, by omega, by go_num, HZ.out⟩
              case measure => simp [intOf]; omega
          · -- of such a value
            have HZ := Lib.hid (hO9.congr (S' := fun i => outP (fun v => decide (v ∈ ks)) (cs.take (k + 1)) (i : Int)) fun i _ => by
              rw [HOT.out]
              simp)
            clear hO9 hX9
            go_wp2_with fail
            go_roundw
            case rel => exact ⟨k + 1, by omega, by go_num, HZ.out⟩
            case measure => simp [intOf]; omega
        · obtain rfl : n = k := by omega
          rw [show cs.take n = cs by rw [HNN.out, List.take_length]] at hO
          obtain ⟨W9, hW9⟩ : ∃ W9, W9 = wr := ⟨_, rfl⟩
          rw [← hW9] at hO ⊢
          clear hW9
          have h1 := hO
          have HSZ := Lib.hid (Lies.lt hO.tab)
          clear hO
          go_wp2_with fail
          go_loopw [15, 80] (fun v i wr => ∃ j : Nat, j ≤ L ∧ i = .int .i64 j ∧ EOwn wr (G + 1) v (subL (fun z => !outP (fun v => decide (v ∈ ks)) cs z) 0 (l.take j)) ∧ OnR w G G Al L capl l Ak nk capk ks A n cap cs (fun i => outP (fun v => decide (v ∈ ks)) cs (i : Int)) wr ∧ G + 1 ≤ wr.heap.size) (fun _ i _ => L - (intOf i).toNat)
          case atStart => exact ⟨0, by omega, rfl, ⟨rfl, .inl ⟨rfl, rfl⟩⟩, h1, HSZ.out⟩
          case round =>
            clear h1
            obtain ⟨j, hj, rfl, hown, hO, hsz⟩ := hrel
            by_cases hjn : j < L
            · obtain ⟨ev, hev⟩ : ∃ ev, l[j]? = some ev := ⟨_, List.getElem?_eq_getElem (by rw [← HLL.out.1]; exact hjn)⟩
              have htk := subL_take (k := fun z => !outP (fun v => decide (v ∈ ks)) cs z) hev
              obtain ⟨ge, oe, hA, -, d0, d1, d2, d3⟩ := hO.evs.ev hev
              subst hA
              obtain ⟨y0, y1, y2, y3⟩ := ev
              simp only at d0 d1 d2 d3
              have j1 : (0 : Int) ≤ (j : Int) := by omega
              have j2 : (j : Int) < (L : Int) := by omega
              have hal : Below wr.heap.size wr (wr.alloc (.cells #[.int .i64 y0, .int .i64 y1, .int .i64 y2, .int .i64 y3] 52)) := (Below.refl _ _).alloc (Nat.le_refl _) _
              have HO := Lib.hid (And.intro (hO.next hal) (And.intro (Lies.new wr 52 #[.int .i64 y0, .int .i64 y1, .int .i64 y2, .int .i64 y3]) (And.intro (hown.then_ hal) (Nat.le_trans hsz hal.size))))
              have HTK := Lib.hid htk
              clear hO hev hal htk hown hsz
              go_upto_region 19 with fail
              clear d0 d1 d2 d3
              change Code.wp _ _ _ _ (wr.alloc (.cells #[.int .i64 y0, .int .i64 y1, .int .i64 y2, .int .i64 y3] 52))
              generalize wr.alloc (.cells #[.int .i64 y0, .int .i64 y1, .int .i64 y2, .int .i64 y3] 52) = WA at HO ⊢
              generalize wr.heap.size = X at HO ⊢
              have b0 := Lies.cell HO.out.1.tab j
              rw [bitCs_get _ _ _ (by omega)] at b0
              have e0 := Lies.cell HO.out.2.1 0
              have e1 := Lies.cell HO.out.2.1 1
              have e2 := Lies.cell HO.out.2.1 2
              have e3 := Lies.cell HO.out.2.1 3
              simp only [List.getElem?_toArray, List.getElem?_cons_zero, List.getElem?_cons_succ] at e0 e1 e2 e3
              obtain ⟨bb, hbb⟩ : ∃ bb, bb = outP (fun v => decide (v ∈ ks)) cs (j : Int) := ⟨_, rfl⟩
              rw [← hbb] at b0
              have hT := HTK.out
              rw [← hbb] at hT
              have HT := Lib.hid hT
              clear hT hbb HTK
              cases bb
              · obtain ⟨acc, hacc⟩ : ∃ acc, acc = subL (fun z => !outP (fun v => decide (v ∈ ks)) cs z) 0 (l.take j) := ⟨_, rfl⟩
                have hlen : acc.length ≤ 65536 := by
                  have h1 := subL_len (fun z => !outP (fun v => decide (v ∈ ks)) cs z) (l.take j) 0
                  rw [← hacc, List.length_take] at h1
                  omega
                have hT2 := HT.out
                rw [if_pos (by decide), ← hacc] at hT2
                have hal2 : Below WA.heap.size WA (WA.alloc (.cells #[.int .i64 y0, .int .i64 y1, .int .i64 y2, .int .i64 y3] 52)) := (Below.refl _ _).alloc (Nat.le_refl _) _
                have hown := HO.out.2.2.1.then_ hal2
                rw [← hacc] at hown
                have hsz : G + 1 ≤ (WA.alloc (.cells #[.int .i64 y0, .int .i64 y1, .int .i64 y2, .int .i64 y3] 52)).heap.size := Nat.le_trans HO.out.2.2.2 hal2.size
                have hnew := new_cells WA 52 (evCs ⟨y0, y1, y2, y3⟩)
                obtain ⟨Av, cv, hvv⟩ := own_sliceE hown
                have HZ := Lib.hid (And.intro hT2 (And.intro (HO.out.1.next hal2) hsz))
                rw [hvv] at hown ⊢
                clear hT2 hal2 HT hacc
                go_wp2_with (at_builtin; refine wpList_app_ev rfl (.tmp 90) (.tmp 92) rfl (G + 1) WA.heap.size _ acc ⟨y0, y1, y2, y3⟩ rfl rfl hown hnew hlen hsz ?_; intro v' w7 ho7 hb7 _)
                go_roundw
                case rel => exact ⟨j + 1, by omega, by go_num, by rw [HZ.out.1]; exact ho7, HZ.out.2.1.over hb7, Nat.le_trans HZ.out.2.2 hb7.size⟩
                case measure => simp [intOf]; omega
              · have hT2 := HT.out
                rw [if_neg (by decide)] at hT2
                have HZ := Lib.hid (And.intro hT2 HO.out)
                clear hT2 HT HO e0 e1 e2 e3
                go_wp2_with fail
                go_roundw
                case rel => exact ⟨j + 1, by omega, by go_num, by rw [HZ.out.1]; exact HZ.out.2.2.2.1, HZ.out.2.1, HZ.out.2.2.2.2⟩
                case measure => simp [intOf]; omega
            · obtain rfl : L = j := by omega
              rw [HLL.out.1, List.take_length] at hown
              have HC := Lib.hid (rcheck_any hown.rd)
              obtain ⟨Av, cv, hvv⟩ := own_sliceE hown
              have HZ := Lib.hid hO.below
              rw [hvv] at HC ⊢
              clear hown hO hvv
              generalize hml : subL (fun z => !outP (fun v => decide (v ∈ ks)) cs z) 0 l = ml at HC HG
              clear hml
              generalize ml.length = mn at HC ⊢
              go_wp2_with fail
              refine HC.out.mono ?_
              intro e w9 hck
              obtain ⟨b2, k2, x2, y2, rfl, hb9, hok, -⟩ := hck.forms
              rw [HG.out.1]
              obtain ⟨h1, h2⟩ := hok HG.out.1
              have h3 := HG.out.2
              rw [h2] at h3
              simp only at h3
              subst h3
              obtain rfl : b2 = true := h1
              have hb10 := HZ.out.trans (hb9.mono HZ.out.size)
              have HY := Lib.hid (hb10.alloc hb10.size (.cells #[.int .i64 0, .int .i64 x2, .int .i64 y2] 28))
              clear hok h2 hb9 hb10 hck HC
              go_wp2_with fail
              go_ret
              exact ⟨rfl, HY.out⟩
  · have hz : (E != 0) = true := by rw [bne_iff_ne]; exact hE0
    rw [show decide (∀ x ∈ [E, E0], x = 0) = false from decide_eq_false fun h => hE0 (h E List.mem_cons_self)] at HOK
    clear hE0
    go_wp2_with fail
    refine HOK.out.mono ?_
    rintro e w6 ⟨rfl, rfl⟩
    generalize w5.alloc (.cells #[.int .i64 E, .int .i64 E0] 24) = W6 at H6 ⊢
    clear HOK
    go_wp2_with fail
    refine (rlives_any W6).mono ?_
    rintro e w7 ⟨rfl, hb7⟩
    have H7 := Lib.hid (H6.out.1.trans (hb7.mono H6.out.1.size))
    clear hb7
    go_wp2_with fail
    go_ret
    exact ⟨rfl, H7.out⟩
end Go.Proofs.Ythjmncngegchjaa
