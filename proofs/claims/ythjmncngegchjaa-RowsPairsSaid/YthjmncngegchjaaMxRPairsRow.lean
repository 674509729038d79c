/-
  Joined by a program out of: RPairs, RPairsRow.
-/
import Derived.Test.YthjmncngegchjaaMgAR
import Derived.Test.YthjmncngegchjaaMgAU
import Derived.Test.YthjmncngegchjaaMgAS

/-
  alibkeep.RowsPairs answers true, whatever is handed in.
-/
namespace Go.Proofs.Ythjmncngegchjaa
open Go.RowKit Go.Maps
set_option maxRecDepth 20000

set_option maxHeartbeats 2000000 in
theorem ridx_any {q : Cl → Bool} {v : Value} {cs : List Cl} {w : World} (h : CRd w w.heap.size v cs)
    (hcl : ∀ c ∈ cs, ∀ W, Below w.heap.size w W → Calls Try.prog 18 #[clQ c] W fun e w' => e = .returned (.bool (q c)) ∧ Below W.heap.size W w') :
    Calls Try.prog 34 #[v, .func (.func 18) #[] #[]] w fun e w' => ∃ r : Int, e = .returned (.int .i64 r) ∧ ((r = -1 ∧ ∀ c ∈ cs, q c = false) ∨ (0 ≤ r ∧ ∃ c ∈ cs, q c = true)) ∧ Below w.heap.size w w' := by
  obtain ⟨A, cap, rfl, m1, m2⟩ := h.is
  unfold maxLen at m2
  obtain ⟨L, hL⟩ : ∃ L, L = cs.length := ⟨_, rfl⟩
  have HC := Lib.hid (And.intro h hcl)
  have HLL := Lib.hid hL
  have m3 : (L : Int) ≤ 9223372036854775807 := by rw [← hL] at m1; omega
  rw [← hL] at m1 ⊢
  clear h hL m2 hcl
  go_enter Try.func34, Try.ntmps34
  go_wp2_with fail
  go_loopw [8] (fun i wr => ∃ j : Nat, j ≤ L ∧ i = .int .i64 j ∧ (∀ (m : Nat) (y : Cl), m < j → cs[m]? = some y → q y = false) ∧ Below w.heap.size w wr) (fun i _ => L - (intOf i).toNat)
  case atStart => exact ⟨0, by omega, rfl, fun j y hj => by omega, Below.refl _ _⟩
  case round =>
    obtain ⟨j, hj, rfl, ha, hb⟩ := hrel
    have HA := Lib.hid (And.intro ha hb)
    by_cases hjn : j < L
    · obtain ⟨y, hy⟩ : ∃ y, cs[j]? = some y := ⟨_, List.getElem?_eq_getElem (by rw [← HLL.out]; exact hjn)⟩
      have hr := HC.out.1.below hb
      rw [← HLL.out] at hr
      obtain ⟨g, o, rfl, hg, d0, d1, d2, d3, d4, d5, d6⟩ := hr.cl hy
      have hK := HC.out.2 y (List.mem_of_getElem? hy) wr hb
      have HY := Lib.hid hy
      obtain ⟨z, hz⟩ : ∃ z, z = q y := ⟨_, rfl⟩
      rw [← hz] at hK
      have HZ := Lib.hid hz
      obtain ⟨y0, y1, y2, y3, y4, y5, y6⟩ := y
      simp only at d0 d1 d2 d3 d4 d5 d6
      simp only [clQ] at hK
      have HK := Lib.hid hK
      have i1 : (0 : Int) ≤ (j : Int) := by omega
      have i2 : (j : Int) < (L : Int) := by omega
      clear hy hr ha hb hK hz
      cases z
      · go_wp2_with fail
        refine HK.out.mono ?_
        rintro e w' ⟨rfl, hb2⟩
        have HB2 := Lib.hid (HA.out.2.trans (hb2.mono HA.out.2.size))
        clear hb2
        go_wp2_with fail
        go_roundw
        case rel => exact ⟨j + 1, by omega, by go_num, fun m z hm hz => by
          rcases Nat.lt_or_ge m j with h | h
          · exact HA.out.1 m z h hz
          · obtain rfl : m = j := by omega
            rw [HY.out] at hz
            injection hz with hz
            subst hz
            exact HZ.out.symm, HB2.out⟩
        case measure => simp [intOf]; omega
      · go_wp2_with fail
        refine HK.out.mono ?_
        rintro e w' ⟨rfl, hb2⟩
        have HB2 := Lib.hid (HA.out.2.trans (hb2.mono HA.out.2.size))
        clear hb2
        go_wp2_with fail
        go_ret
        exact ⟨j, rfl, .inr ⟨i1, _, List.mem_of_getElem? HY.out, HZ.out.symm⟩, HB2.out⟩
    · obtain rfl : j = L := by omega
      clear ha hb
      go_wp2_with fail
      go_ret
      refine ⟨-1, rfl, .inl ⟨rfl, fun x hx => ?_⟩, HA.out.2⟩
      obtain ⟨i, hi, rfl⟩ := List.getElem_of_mem hx
      exact HA.out.1 i _ (by rw [HLL.out]; exact hi) (List.getElem?_eq_getElem hi)
theorem rcontf_any {q : Cl → Bool} {v : Value} {cs : List Cl} {w : World} (h : CRd w w.heap.size v cs)
    (hcl : ∀ c ∈ cs, ∀ W, Below w.heap.size w W → Calls Try.prog 18 #[clQ c] W fun e w' => e = .returned (.bool (q c)) ∧ Below W.heap.size W w') :
    Calls Try.prog 17 #[v, .func (.func 18) #[] #[]] w fun e w' => e = .returned (.bool (cs.any q)) ∧ Below w.heap.size w w' := by
  have HI := Lib.hid (ridx_any h hcl)
  obtain ⟨A, cap, rfl, m1, m2⟩ := h.is
  clear h hcl
  obtain ⟨L, hL⟩ : ∃ L, L = cs.length := ⟨_, rfl⟩
  rw [← hL] at HI m1 ⊢
  clear hL
  obtain ⟨b, hb⟩ : ∃ b, b = cs.any q := ⟨_, rfl⟩
  rw [← hb]
  have HB := Lib.hid hb
  clear hb
  go_enter Try.func17, Try.ntmps17
  go_wp2_with fail
  refine HI.out.mono ?_
  rintro e w1 ⟨r, rfl, hr, hb1⟩
  have HR := Lib.hid (And.intro hr hb1)
  rcases hr with ⟨rfl, hr⟩ | ⟨hi, hr⟩
  · have HB9 := Lib.hid hr
    clear hr hb1
    go_wp2_with fail
    go_ret
    refine ⟨ret_bool ?_, HR.out.2⟩
    rw [HB.out, Eq.comm, List.any_eq_false]
    exact fun x hx => Bool.eq_false_iff.1 (HB9.out x hx)
  · have HB9 := Lib.hid hr
    clear hr hb1
    go_wp2_with fail
    go_ret
    refine ⟨ret_bool ?_, HR.out.2⟩
    rw [HB.out, Eq.comm, List.any_eq_true]
    exact HB9.out
theorem rpair_cl (c : Cl) (W : World) : Calls Try.prog 18 #[clQ c] W fun e w' => e = .returned (.bool (c.kind == 4 && c.res == -1)) ∧ Below W.heap.size W w' := by
  obtain ⟨P, hP⟩ : ∃ P, P = (c.kind == 4 && c.res == -1) := ⟨_, rfl⟩
  rw [← hP]
  obtain ⟨y0, y1, y2, y3, y4, y5, y6⟩ := c
  simp only at hP
  have HP := Lib.hid hP
  have H1 := Lib.hid ((Below.refl W.heap.size W).alloc (Nat.le_refl _) (.cells #[.int .i64 y0, .int .i64 y1, .int .i64 y2, .int .i64 y3, .int .i64 y4, .int .i64 y5, .int .i64 y6] 49))
  clear hP
  by_cases h4 : y2 = 4
  · have hz : (y2 == 4) = true := by rw [beq_iff_eq]; exact h4
    have HZ := Lib.hid hz
    obtain ⟨d, hd⟩ : ∃ d, d = (y4 == -1) := ⟨_, rfl⟩
    have hP := HP.out
    rw [hz, Bool.true_and, ← hd] at hP
    subst hP
    clear h4 HP
    go_enter Try.func18, Try.ntmps18
    go_wp2_with fail
    go_ret
    exact ⟨ret_bool (by rw [hd]), H1.out⟩
  · have hz : (y2 == 4) = false := by rw [beq_eq_false_iff_ne]; exact h4
    have hP := HP.out
    rw [hz, Bool.false_and] at hP
    subst hP
    clear h4 HP
    go_enter Try.func18, Try.ntmps18
    go_wp2_with fail
    go_ret
    exact ⟨rfl, H1.out⟩
theorem inP_take {kv : Int → Bool} {cs : List Cl} {k : Nat} {c : Cl} (h : cs[k]? = some c) (z : Int) : inP kv (cs.take (k + 1)) z = (inP kv (cs.take k) z || ((c.frm == z || c.til == z) && kv (valQ c))) := by
  unfold inP
  rw [List.take_add_one, h, List.any_append]
  simp
/-- Of the calls before there is none at this event. -/
theorem inP_before {l : List Ev} {kv : Int → Bool} (h : rowsE l = 0) {t : Nat} {c : Cl} (hc : (callsOf [2] l).1[t]? = some c) {z : Int} (hz : 0 ≤ z) (h1 : c.frm = z ∨ c.til = z) : inP kv ((callsOf [2] l).1.take t) z = false := by
  rw [Bool.eq_false_iff]
  intro ho
  obtain ⟨x, hx, h2, _⟩ := inP_iff.1 ho
  obtain ⟨i, hi⟩ := List.getElem?_of_mem hx
  rw [List.getElem?_take] at hi
  split at hi
  · rename_i hit
    have e := in_one h (List.mem_of_getElem? hi) (List.mem_of_getElem? hc) hz h2 h1
    have := ((calls_unlike (rowsE_calls h).1) i t x c hi hc).1 (by rw [e])
    omega
  · cases hi
/-- What the loops keep. -/
structure PrR (w : World) (D G : Nat) (Al : Option Addr) (L capl : Nat) (l : List Ev) (Ak : Option Addr) (nk capk : Nat) (ks : List Int) (A : Option Addr) (n cap : Nat) (cs : List Cl) (K x y : Int) (W : World) : Prop where
  below : Below w.heap.size w W
  evs : ERd W D (.slice Al L capl) l
  nums : NRd W D (.slice Ak nk capk) ks
  cls : CRd W D (.slice A n cap) cs
  bad : Lies W G 28 #[.int .i64 K, .int .i64 x, .int .i64 y]
  sz : w.heap.size ≤ D ∧ G < D ∧ D ≤ W.heap.size
theorem PrR.over {w : World} {D G : Nat} {Al : Option Addr} {L capl : Nat} {l : List Ev} {Ak : Option Addr} {nk capk : Nat} {ks : List Int} {A : Option Addr} {n cap : Nat} {cs : List Cl} {K x y : Int} {W w' : World} (h : PrR w D G Al L capl l Ak nk capk ks A n cap cs K x y W) (hb : Below D W w') : PrR w D G Al L capl l Ak nk capk ks A n cap cs K x y w' := by
  have h1 := h.sz
  exact ⟨h.below.trans (hb.mono h1.1), h.evs.below hb, h.nums.below hb, h.cls.below hb, Lies.below h.bad hb h1.2.1, h1.1, h1.2.1, Nat.le_trans h1.2.2 hb.size⟩
theorem PrR.next {w : World} {D G : Nat} {Al : Option Addr} {L capl : Nat} {l : List Ev} {Ak : Option Addr} {nk capk : Nat} {ks : List Int} {A : Option Addr} {n cap : Nat} {cs : List Cl} {K x y : Int} {W w' : World} (h : PrR w D G Al L capl l Ak nk capk ks A n cap cs K x y W) (hb : Below W.heap.size W w') : PrR w D G Al L capl l Ak nk capk ks A n cap cs K x y w' := h.over (hb.mono h.sz.2.2)
set_option maxHeartbeats 16000000 in
theorem rpairs_any {lv : Value} {l : List Ev} {w : World} (hl : ERd w w.heap.size lv l) :
    Calls Try.prog 6 #[lv] w fun e w' => e = .returned (.bool true) ∧ Below w.heap.size w w' := by
  have HC := Lib.hid (rcheck_any hl)
  have HL := Lib.hid hl
  have HNL := Lib.hid (fun W : World => LRd.of_lit (f := intCs) (s := 1) (w := W) (l := [2]) (fun _ => rfl) 3 (cs := #[.int .i64 2]) rfl (n := 1) rfl (by unfold maxLen; omega))
  obtain ⟨Al, capl, rfl, m1, m2⟩ := hl.is
  unfold maxLen at m2
  obtain ⟨L, hL⟩ : ∃ L, L = l.length := ⟨_, rfl⟩
  rw [← hL] at HL HC m1 ⊢
  have HLL := Lib.hid hL
  clear hl hL
  go_enter Try.func6, Try.ntmps6
  go_wp2_with fail
  refine HC.out.mono ?_
  intro e w1 hck
  obtain ⟨b, k, x, y, rfl, hb1, hok, hno⟩ := hck.forms
  have HK := Lib.hid (And.intro hok hno)
  have hba := hb1.alloc hb1.size (.cells #[.int .i64 k, .int .i64 x, .int .i64 y] 28)
  have H1 := Lib.hid (And.intro hba (Lies.new w1 28 #[.int .i64 k, .int .i64 x, .int .i64 y]))
  obtain ⟨E, hE⟩ : ∃ E, E = rowsE l := ⟨_, rfl⟩
  rw [← hE] at HK ⊢
  have HE := Lib.hid hE
  clear HC hok hb1 hck hE hba hno
  go_wp2_with fail
  change Calls _ _ _ ((w1.alloc (.cells #[.int .i64 k, .int .i64 x, .int .i64 y] 28)).alloc (.cells #[.int .i64 2] 3)) _
  rw [← World.size_alloc w1 (.cells #[.int .i64 k, .int .i64 x, .int .i64 y] 28)]
  generalize w1.alloc (.cells #[.int .i64 k, .int .i64 x, .int .i64 y] 28) = W2 at H1 ⊢
  generalize w1.heap.size = G at H1 ⊢
  have hb3 : Below w.heap.size w (W2.alloc (.cells #[.int .i64 2] 3)) := H1.out.1.alloc H1.out.1.size _
  have hn3 := (HNL.out W2).mono (B' := (W2.alloc (.cells #[.int .i64 2] 3)).heap.size) (by simp)
  have HF := Lib.hid (calls_any hn3 ((HL.out.below hb3).mono hb3.size))
  have H3 := Lib.hid (And.intro hb3 (Lies.alloc H1.out.2 (.cells #[.int .i64 2] 3)))
  clear hb3 hn3 H1
  generalize W2.heap.size = G2 at HF ⊢
  generalize W2.alloc (.cells #[.int .i64 2] 3) = W3 at HF H3 ⊢
  refine HF.out.mono ?_
  rintro e w4 ⟨v, rfl, hb4, hcr⟩
  obtain ⟨A, cap, rfl, p1, p2⟩ := hcr.is
  unfold maxLen at p2
  obtain ⟨n, hn⟩ : ∃ n, n = (callsOf [2] l).1.length := ⟨_, rfl⟩
  rw [← hn] at hcr p1 ⊢
  have H4 := Lib.hid (And.intro (H3.out.1.trans (hb4.mono H3.out.1.size)) (And.intro hcr (Lies.below H3.out.2 hb4 H3.out.2.lt)))
  have hE0 : E = 0 → (callsOf [2] l).2.2 = 0 := fun e0 => (rowsE_calls (HE.out.symm.trans e0)).1
  have HNN := Lib.hid hn
  obtain ⟨E0, he0⟩ : ∃ E0, E0 = (callsOf [2] l).2.2 := ⟨_, rfl⟩
  obtain ⟨at1, hat1⟩ : ∃ a, a = (callsOf [2] l).2.1 := ⟨_, rfl⟩
  rw [← he0] at hE0 ⊢
  rw [← hat1]
  have HE0 := Lib.hid (And.intro hE0 he0)
  clear hcr HF H3 hb4 hn hE0 he0 hat1
  go_wp2_with fail
  refine (rlives_any w4).mono ?_
  rintro e w5 ⟨rfl, hb5⟩
  have H5 := Lib.hid (And.intro (H4.out.1.trans (hb5.mono H4.out.1.size)) (And.intro ((H4.out.2.1.below hb5).mono hb5.size) (Lies.below H4.out.2.2 hb5 H4.out.2.2.lt)))
  clear hb5 H4
  have hal5 : Below w5.heap.size w5 (w5.alloc (.cells #[.int .i64 E, .int .i64 E0] 24)) := (Below.refl _ _).alloc (Nat.le_refl _) _
  have HOK := Lib.hid (ok_any (IRd.fresh w5 24 [E, E0] 2 rfl #[.int .i64 E, .int .i64 E0] rfl) (by simp))
  have H6 := Lib.hid (And.intro (H5.out.1.trans (hal5.mono H5.out.1.size)) (And.intro ((H5.out.2.1.below hal5).mono hal5.size) (Lies.below H5.out.2.2 hal5 H5.out.2.2.lt)))
  clear hal5 H5
  by_cases hE0 : E = 0
  · have hz0 := HE0.out.1 hE0
    subst hE0
    subst hz0
    obtain ⟨hbk, hbad⟩ := HK.out.1 rfl
    rw [show decide (∀ x ∈ [(0 : Int), 0], x = 0) = true by decide] at HOK
    have HBD := Lib.hid (And.intro hbk hbad)
    clear hbk hbad HK
    go_wp2_with fail
    refine HOK.out.mono ?_
    rintro e w6 ⟨rfl, rfl⟩
    generalize w5.alloc (.cells #[.int .i64 0, .int .i64 0] 24) = W6 at H6 ⊢
    clear HOK
    have HCF := Lib.hid (rcontf_any (q := fun c => c.kind == 4 && c.res == -1) H6.out.2.1 (fun c _ W _ => rpair_cl c W))
    go_wp2_with fail
    refine HCF.out.mono ?_
    rintro e w7 ⟨rfl, hb7⟩
    have H7 := Lib.hid (And.intro (H6.out.1.trans (hb7.mono H6.out.1.size)) (And.intro ((H6.out.2.1.below hb7).mono hb7.size) (Lies.below H6.out.2.2 hb7 H6.out.2.2.lt)))
    clear HCF hb7 H6
    obtain ⟨an, han⟩ : ∃ an, an = (callsOf [2] l).1.any (fun c => c.kind == 4 && c.res == -1) := ⟨_, rfl⟩
    rw [← han]
    have HAN := Lib.hid han
    clear han
    cases an
    · cases b
      · have hrow : rowsE l = 0 := HE.out.symm
        have hq := rowsE_que hrow
        have HROW := Lib.hid hrow
        have HL2 := Lib.hid (show L ≤ 200 by rw [HLL.out]; exact hq.n200)
        obtain ⟨cs, hcs⟩ : ∃ cs, cs = (callsOf [2] l).1 := ⟨_, rfl⟩
        have HCS := Lib.hid hcs
        have hno : ∀ c ∈ cs, ¬ (c.kind = 4 ∧ c.res = -1) := fun c hc hh => by
          have h1 := HAN.out.symm
          rw [← hcs, List.any_eq_false] at h1
          exact h1 c hc (by rw [hh.1, hh.2]; rfl)
        have hall := hq.bad
        rw [← hcs] at hq hall H7 HNN HBD
        have heL := (HL.out.below H7.out.1).mono H7.out.1.size
        have HEV := Lib.hid heL
        have hbq := HBD.out.2
        clear heL hcs hrow
        rcases hall with ⟨e, _⟩ | ⟨i, c, g1, g2, g3, g4, e⟩ | ⟨n1, i, jj, c, d, g0, g1, g2, g3, g4, g5, g6, e⟩ | ⟨n1, n2, i, jj, c, d, g1, g2, g3, g4, g5, e⟩ | ⟨n1, n2, n3, a, b, g1, e⟩ | ⟨_, _, _, _, i, c, g1, g2, g3, _, e⟩
        · exfalso
          rw [e] at hbq
          unfold noBz at hbq
          injection hbq with e1 _ _
          have := HBD.out.1
          rw [← e1] at this
          cases this
        · rw [e] at hbq
          injection hbq with e1 e2 e3
          subst e1 e2
          obtain ⟨rs, hrs⟩ : ∃ rs, rs = c.res := ⟨_, rfl⟩
          have hsub := sub_in (kv := fun v => decide (v ∈ [rs])) HROW.out
          have HG := Lib.hid (And.intro hsub.rowsE (hsub.kind1 (List.mem_of_getElem? (by rw [← HCS.out]; exact g1)) g2 g3 (by rw [← HCS.out]; exact g4) (by rw [hrs]; simp)))
          rw [← HCS.out] at HG
          have li : (i : Int) < (n : Int) := by have := (List.getElem?_eq_some_iff.1 g1).1; have := HNN.out; omega
          have zi : (0 : Int) ≤ (i : Int) := by omega
          obtain ⟨g, o, hA, -, d0, d1, d2, d3, d4, d5, d6⟩ := H7.out.2.1.cl g1
          subst hA
          rw [← hrs] at d4
          have r0 := Lies.cell H7.out.2.2 0
          have r1 := Lies.cell H7.out.2.2 1
          simp only [List.getElem?_toArray, List.getElem?_cons_zero, List.getElem?_cons_succ] at r0 r1
          have hal7 : Below w7.heap.size w7 (w7.alloc (.cells #[.int .i64 rs] 3)) := (Below.refl _ _).alloc (Nat.le_refl _) _
          have h0 : PrR w (w7.heap.size + 1) G Al L capl l (some ⟨w7.heap.size, 0, none⟩) 1 1 [rs] (some ⟨g, o, none⟩) n cap cs 1 (i : Int) y (w7.alloc (.cells #[.int .i64 rs] 3)) :=
            ⟨H7.out.1.trans (hal7.mono H7.out.1.size), (HEV.out.below hal7).mono (by omega), LRd.of_lit (f := intCs) (s := 1) (w := w7) (l := [rs]) (fun _ => rfl) 3 (cs := #[.int .i64 rs]) rfl (n := 1) rfl (by unfold maxLen; omega), (H7.out.2.1.below hal7).mono (by omega), Lies.below H7.out.2.2 hal7 H7.out.2.2.lt, by have := H7.out.1.size; omega, by have := H7.out.2.2.lt; omega, by simp⟩
          have H0 := Lib.hid h0
          clear h0 hal7 hsub hq hno hrs e g1 e3 HBD
          go_upto_region 18 with fail
          have h0 := H0.out
          clear H0 d0 d1 d2 d3 d4 d5 d6 r0 r1
          change Code.wp _ _ _ _ (w7.alloc (.cells #[.int .i64 rs] 3))
          generalize w7.alloc (.cells #[.int .i64 rs] 3) = WS at h0 ⊢
          generalize hDD : w7.heap.size + 1 = D at h0
          clear hDD
          generalize w7.heap.size = S at h0 ⊢
          have bi1 : decide (n ≤ i) = false := decide_eq_false (by omega)
          have bi2 : decide ((i : Int) < 0) = false := decide_eq_false (by omega)
          try simp only [bi1, bi2, Bool.or_false]
          clear bi1 bi2
          go_wp2_with fail
          go_loopw [10, 78] (fun v vi wr => ∃ j : Nat, j ≤ L ∧ vi = .int .i64 j ∧ EOwn wr D v (subL (inP (fun v => decide (v ∈ [rs])) cs) 0 (l.take j)) ∧ PrR w D G Al L capl l (some ⟨S, 0, none⟩) 1 1 [rs] (some ⟨g, o, none⟩) n cap cs 1 (i : Int) y wr) (fun _ i _ => L - (intOf i).toNat)
          case atStart => exact ⟨0, by omega, rfl, ⟨rfl, .inl ⟨rfl, rfl⟩⟩, h0⟩
          case round =>
            clear h0
            obtain ⟨j, hj, rfl, hown, hO⟩ := hrel
            by_cases hjn : j < L
            · obtain ⟨ev, hev⟩ : ∃ ev, l[j]? = some ev := ⟨_, List.getElem?_eq_getElem (by rw [← HLL.out]; exact hjn)⟩
              have htk := subL_take (k := inP (fun v => decide (v ∈ [rs])) cs) hev
              obtain ⟨ge, oe, hA, -, d0, d1, d2, d3⟩ := hO.evs.ev hev
              subst hA
              obtain ⟨y0, y1, y2, y3⟩ := ev
              simp only at d0 d1 d2 d3
              have j1 : (0 : Int) ≤ (j : Int) := by omega
              have j2 : (j : Int) < (L : Int) := by omega
              have hal : Below wr.heap.size wr (wr.alloc (.cells #[.int .i64 y0, .int .i64 y1, .int .i64 y2, .int .i64 y3] 52)) := (Below.refl _ _).alloc (Nat.le_refl _) _
              obtain ⟨acc, hacc⟩ : ∃ acc, acc = subL (inP (fun v => decide (v ∈ [rs])) cs) 0 (l.take j) := ⟨_, rfl⟩
              have HLEN := Lib.hid (show acc.length ≤ 65536 by
                have h1 := subL_len (inP (fun v => decide (v ∈ [rs])) cs) (l.take j) 0
                rw [← hacc, List.length_take] at h1
                have := HL2.out
                omega)
              rw [← hacc] at hown htk
              have h1 : PrR w D G (some ⟨ge, oe, none⟩) L capl l (some ⟨S, 0, none⟩) 1 1 [rs] (some ⟨g, o, none⟩) n cap cs 1 (i : Int) y (wr.alloc (.cells #[.int .i64 y0, .int .i64 y1, .int .i64 y2, .int .i64 y3] 52)) ∧ Lies (wr.alloc (.cells #[.int .i64 y0, .int .i64 y1, .int .i64 y2, .int .i64 y3] 52)) wr.heap.size 52 #[.int .i64 y0, .int .i64 y1, .int .i64 y2, .int .i64 y3] ∧ EOwn (wr.alloc (.cells #[.int .i64 y0, .int .i64 y1, .int .i64 y2, .int .i64 y3] 52)) D u10 acc := ⟨hO.next hal, Lies.new _ _ _, hown.then_ hal⟩
              have HXD0 := Lib.hid hO.sz.2.2
              have HTK := Lib.hid htk
              clear hO hev hal htk hown hacc
              go_upto_region 22 with fail
              clear d0 d1 d2 d3
              change Code.wp _ _ _ _ (wr.alloc (.cells #[.int .i64 y0, .int .i64 y1, .int .i64 y2, .int .i64 y3] 52))
              generalize wr.alloc (.cells #[.int .i64 y0, .int .i64 y1, .int .i64 y2, .int .i64 y3] 52) = WA at h1 ⊢
              generalize wr.heap.size = X at h1 HXD0 ⊢
              go_wp2_with fail
              go_loopw [10, 85] (fun v vi wr => ∃ t : Nat, t ≤ n ∧ vi = .int .i64 t ∧ PrR w D G (some ⟨ge, oe, none⟩) L capl l (some ⟨S, 0, none⟩) 1 1 [rs] (some ⟨g, o, none⟩) n cap cs 1 (i : Int) y wr ∧ (inP (fun v => decide (v ∈ [rs])) (cs.take t) (j : Int) = false → Lies wr X 52 #[.int .i64 y0, .int .i64 y1, .int .i64 y2, .int .i64 y3]) ∧ EOwn wr D v (if inP (fun v => decide (v ∈ [rs])) (cs.take t) (j : Int) = true then acc ++ [⟨y0, y1, y2, y3⟩] else acc)) (fun _ i _ => n - (intOf i).toNat)
              case atStart => exact ⟨0, by omega, rfl, h1.1, fun _ => h1.2.1, h1.2.2⟩
              case round =>
                clear h1
                obtain ⟨t, ht, rfl, hO, hE, hown⟩ := hrel
                by_cases htn : t < n
                · obtain ⟨c, hc⟩ : ∃ c, cs[t]? = some c := ⟨_, List.getElem?_eq_getElem (by rw [← HNN.out]; exact htn)⟩
                  have hit := inP_take (kv := (fun v => decide (v ∈ [rs]))) hc (j : Int)
                  have hib : c.frm = (j : Int) ∨ c.til = (j : Int) → inP (fun v => decide (v ∈ [rs])) (cs.take t) (j : Int) = false := fun hh => by
                    have hc' := hc
                    rw [HCS.out] at hc' ⊢
                    exact inP_before HROW.out hc' (by omega) hh
                  obtain ⟨gg, oo, hA, -, d0, d1, d2, d3, d4, d5, d6⟩ := hO.cls.cl hc
                  injection hA with hA
                  injection hA with hA1 hA2
                  subst hA1 hA2
                  have hvq : valQ c = max c.arg c.res := rfl
                  rw [hvq] at hit
                  obtain ⟨x0, x1, x2, x3, x4, x5, x6⟩ := c
                  simp only at d0 d1 d2 d3 d4 d5 d6 hit hib
                  have t1 : (0 : Int) ≤ (t : Int) := by omega
                  have t2 : (t : Int) < (n : Int) := by omega
                  have hal : Below wr.heap.size wr (wr.alloc (.cells #[.int .i64 x0, .int .i64 x1, .int .i64 x2, .int .i64 x3, .int .i64 x4, .int .i64 x5, .int .i64 x6] 49)) := (Below.refl _ _).alloc (Nat.le_refl _) _
                  have HO := Lib.hid (And.intro (hO.next hal) (And.intro (fun h : inP (fun v => decide (v ∈ [rs])) (cs.take t) (j : Int) = false => Lies.below (hE h) hal (hE h).lt) (And.intro (Lies.new wr 49 #[.int .i64 x0, .int .i64 x1, .int .i64 x2, .int .i64 x3, .int .i64 x4, .int .i64 x5, .int .i64 x6]) (hown.then_ hal))))
                  have HIT := Lib.hid hit
                  have HIB := Lib.hid hib
                  clear hO hE hown hc hal hit hib hvq
                  go_upto_region 25 with fail
                  clear d0 d1 d2 d3 d4 d5 d6
                  change Code.wp _ _ _ _ (wr.alloc (.cells #[.int .i64 x0, .int .i64 x1, .int .i64 x2, .int .i64 x3, .int .i64 x4, .int .i64 x5, .int .i64 x6] 49))
                  generalize wr.alloc (.cells #[.int .i64 x0, .int .i64 x1, .int .i64 x2, .int .i64 x3, .int .i64 x4, .int .i64 x5, .int .i64 x6] 49) = WB at HO ⊢
                  generalize wr.heap.size = Y at HO ⊢
                  have HCN := Lib.hid (fun z => containsN_any (x := z) HO.out.1.nums HO.out.1.sz.2.2)
                  have c3 := Lies.cell HO.out.2.2.1 3
                  have c4 := Lies.cell HO.out.2.2.1 4
                  have c5 := Lies.cell HO.out.2.2.1 5
                  have c6 := Lies.cell HO.out.2.2.1 6
                  simp only [List.getElem?_toArray, List.getElem?_cons_zero, List.getElem?_cons_succ] at c3 c4 c5 c6
                  by_cases h5 : x5 = (j : Int)
                  · have hz : (x5 == (j : Int)) = true := by rw [beq_iff_eq]; exact h5
                    have HH := Lib.hid h5
                    have HHZ := Lib.hid hz
                    clear h5
                    go_wp2_with fail
                    refine (HCN.out _).mono ?_
                    rintro e w9 ⟨rfl, hb9⟩
                    have hO9 := HO.out.1.next hb9
                    have HB9 := Lib.hid (HIB.out (.inl HH.out))
                    have hE9 := Lies.below (HO.out.2.1 HB9.out) hb9 (HO.out.2.1 HB9.out).lt
                    have hw9 := HO.out.2.2.2.then_ hb9
                    clear HCN hb9 HO c3 c4 c5 c6
                    obtain ⟨q, hq⟩ : ∃ q, q = decide (max x3 x4 ∈ [rs]) := ⟨_, rfl⟩
                    rw [← hq] at HIT ⊢
                    clear hq
                    have hacc0 : (if inP (fun v => decide (v ∈ [rs])) (cs.take t) (j : Int) = true then acc ++ [⟨y0, y1, y2, y3⟩] else acc) = acc := by rw [HB9.out]; rfl
                    rw [hacc0] at hw9
                    clear hacc0
                    cases q
                    · have HZ := Lib.hid (And.intro hO9 (And.intro hE9 hw9))
                      have hin : inP (fun v => decide (v ∈ [rs])) (cs.take (t + 1)) (j : Int) = false := by rw [HIT.out, HB9.out]; simp
                      have HIN := Lib.hid hin
                      clear hO9 hE9 hw9 hin
                      go_wp2_with fail
                      go_roundw
                      case rel => exact ⟨t + 1, by omega, by go_num, HZ.out.1, fun _ => HZ.out.2.1, by rw [HIN.out]; exact HZ.out.2.2⟩
                      case measure => simp [intOf]; omega
                    · have hin : inP (fun v => decide (v ∈ [rs])) (cs.take (t + 1)) (j : Int) = true := by rw [HIT.out]; rw [HHZ.out]; simp
                      have hal2 : Below w9.heap.size w9 (w9.alloc (.cells #[.int .i64 y0, .int .i64 y1, .int .i64 y2, .int .i64 y3] 52)) := (Below.refl _ _).alloc (Nat.le_refl _) _
                      have hown := hw9.then_ hal2
                      have hsz : D ≤ (w9.alloc (.cells #[.int .i64 y0, .int .i64 y1, .int .i64 y2, .int .i64 y3] 52)).heap.size := (hO9.next hal2).sz.2.2
                      have hnew := new_cells w9 52 (evCs ⟨y0, y1, y2, y3⟩)
                      have e0 := Lies.cell hE9 0
                      have e1 := Lies.cell hE9 1
                      have e2 := Lies.cell hE9 2
                      have e3 := Lies.cell hE9 3
                      simp only [List.getElem?_toArray, List.getElem?_cons_zero, List.getElem?_cons_succ] at e0 e1 e2 e3
                      obtain ⟨Av, cv, hvv⟩ := own_sliceE hown
                      have HZ := Lib.hid (And.intro (hO9.next hal2) (And.intro (Lies.below hE9 hal2 hE9.lt) hin))
                      have HXD := HXD0
                      have hlen := HLEN.out
                      rw [hvv] at hown ⊢
                      clear hO9 hE9 hw9 hin hal2
                      go_wp2_with (at_builtin; refine wpList_app_ev rfl (.tmp 108) (.tmp 110) rfl D w9.heap.size _ acc ⟨y0, y1, y2, y3⟩ rfl rfl hown hnew hlen hsz ?_; intro v' w7 ho7 hb7 _)
                      go_roundw
                      case rel => exact ⟨t + 1, by omega, by go_num, HZ.out.1.over hb7, (fun h => by rw [HZ.out.2.2] at h; cases h), by rw [HZ.out.2.2]; exact ho7⟩
                      case measure => simp [intOf]; omega
                  · have hz : (x5 == (j : Int)) = false := by rw [beq_eq_false_iff_ne]; exact h5
                    by_cases h6 : x6 = (j : Int)
                    · have hz6 : (x6 == (j : Int)) = true := by rw [beq_iff_eq]; exact h6
                      have HH := Lib.hid h6
                      have HHZ := Lib.hid (And.intro hz hz6)
                      clear h5 h6
                      go_wp2_with fail
                      refine (HCN.out _).mono ?_
                      rintro e w9 ⟨rfl, hb9⟩
                      have hO9 := HO.out.1.next hb9
                      have HB9 := Lib.hid (HIB.out (.inr HH.out))
                      have hE9 := Lies.below (HO.out.2.1 HB9.out) hb9 (HO.out.2.1 HB9.out).lt
                      have hw9 := HO.out.2.2.2.then_ hb9
                      clear HCN hb9 HO c3 c4 c5 c6
                      obtain ⟨q, hq⟩ : ∃ q, q = decide (max x3 x4 ∈ [rs]) := ⟨_, rfl⟩
                      rw [← hq] at HIT ⊢
                      clear hq
                      have hacc0 : (if inP (fun v => decide (v ∈ [rs])) (cs.take t) (j : Int) = true then acc ++ [⟨y0, y1, y2, y3⟩] else acc) = acc := by rw [HB9.out]; rfl
                      rw [hacc0] at hw9
                      clear hacc0
                      cases q
                      · have HZ := Lib.hid (And.intro hO9 (And.intro hE9 hw9))
                        have hin : inP (fun v => decide (v ∈ [rs])) (cs.take (t + 1)) (j : Int) = false := by rw [HIT.out, HB9.out]; simp
                        have HIN := Lib.hid hin
                        clear hO9 hE9 hw9 hin
                        go_wp2_with fail
                        go_roundw
                        case rel => exact ⟨t + 1, by omega, by go_num, HZ.out.1, fun _ => HZ.out.2.1, by rw [HIN.out]; exact HZ.out.2.2⟩
                        case measure => simp [intOf]; omega
                      · have hin : inP (fun v => decide (v ∈ [rs])) (cs.take (t + 1)) (j : Int) = true := by rw [HIT.out]; rw [HHZ.out.1, HHZ.out.2]; simp
                        have hal2 : Below w9.heap.size w9 (w9.alloc (.cells #[.int .i64 y0, .int .i64 y1, .int .i64 y2, .int .i64 y3] 52)) := (Below.refl _ _).alloc (Nat.le_refl _) _
                        have hown := hw9.then_ hal2
                        have hsz : D ≤ (w9.alloc (.cells #[.int .i64 y0, .int .i64 y1, .int .i64 y2, .int .i64 y3] 52)).heap.size := (hO9.next hal2).sz.2.2
                        have hnew := new_cells w9 52 (evCs ⟨y0, y1, y2, y3⟩)
                        have e0 := Lies.cell hE9 0
                        have e1 := Lies.cell hE9 1
                        have e2 := Lies.cell hE9 2
                        have e3 := Lies.cell hE9 3
                        simp only [List.getElem?_toArray, List.getElem?_cons_zero, List.getElem?_cons_succ] at e0 e1 e2 e3
                        obtain ⟨Av, cv, hvv⟩ := own_sliceE hown
                        have HZ := Lib.hid (And.intro (hO9.next hal2) (And.intro (Lies.below hE9 hal2 hE9.lt) hin))
                        have HXD := HXD0
                        have hlen := HLEN.out
                        rw [hvv] at hown ⊢
                        clear hO9 hE9 hw9 hin hal2
                        go_wp2_with (at_builtin; refine wpList_app_ev rfl (.tmp 108) (.tmp 110) rfl D w9.heap.size _ acc ⟨y0, y1, y2, y3⟩ rfl rfl hown hnew hlen hsz ?_; intro v' w7 ho7 hb7 _)
                        go_roundw
                        case rel => exact ⟨t + 1, by omega, by go_num, HZ.out.1.over hb7, (fun h => by rw [HZ.out.2.2] at h; cases h), by rw [HZ.out.2.2]; exact ho7⟩
                        case measure => simp [intOf]; omega
                    · have hz6 : (x6 == (j : Int)) = false := by rw [beq_eq_false_iff_ne]; exact h6
                      have hin : inP (fun v => decide (v ∈ [rs])) (cs.take (t + 1)) (j : Int) = inP (fun v => decide (v ∈ [rs])) (cs.take t) (j : Int) := by rw [HIT.out, hz, hz6]; simp
                      have HZ := Lib.hid (And.intro HO.out hin)
                      clear h5 h6 HO HIT HIB HCN hin
                      go_wp2_with fail
                      go_roundw
                      case rel => exact ⟨t + 1, by omega, by go_num, HZ.out.1.1, (by rw [HZ.out.2]; exact HZ.out.1.2.1), by rw [HZ.out.2]; exact HZ.out.1.2.2.2⟩
                      case measure => simp [intOf]; omega
                · obtain rfl : n = t := by omega
                  rw [show cs.take n = cs by rw [HNN.out, List.take_length]] at hown
                  have HZ := Lib.hid (And.intro hO (show EOwn wr D u10 (subL (inP (fun v => decide (v ∈ [rs])) cs) 0 (l.take (j + 1))) by rw [HTK.out]; exact hown))
                  clear hO hE hown
                  go_wp2_with fail
                  go_roundw
                  case rel => exact ⟨j + 1, by omega, by go_num, HZ.out.2, HZ.out.1⟩
                  case measure => simp [intOf]; omega
            · obtain rfl : L = j := by omega
              rw [HLL.out, List.take_length] at hown
              have HC := Lib.hid (rcheck_any hown.rd)
              obtain ⟨Av, cv, hvv⟩ := own_sliceE hown
              have HZ := Lib.hid (And.intro hO.below hO.bad)
              rw [hvv] at HC ⊢
              clear hown hO hvv
              generalize hml : subL (inP (fun v => decide (v ∈ [rs])) cs) 0 l = ml at HC HG
              clear hml
              generalize ml.length = mn at HC ⊢
              go_wp2_with fail
              refine HC.out.mono ?_
              intro e w9 hck
              obtain ⟨b2, k2, x2, y2, rfl, hb9, hok, -⟩ := hck.forms
              rw [HG.out.1]
              obtain ⟨h1, h2⟩ := hok HG.out.1
              have h3 := HG.out.2
              rw [h2] at h3
              simp only at h3
              subst h3
              obtain rfl : b2 = false := h1
              have hb10 := HZ.out.1.trans (hb9.mono HZ.out.1.size)
              have hal9 : Below w9.heap.size w9 (w9.alloc (.cells #[.int .i64 1, .int .i64 x2, .int .i64 y2] 28)) := (Below.refl _ _).alloc (Nat.le_refl _) _
              have hbd := Lies.below HZ.out.2 hb9 HZ.out.2.lt
              have HY := Lib.hid (And.intro (hb10.trans (hal9.mono hb10.size)) (And.intro (Lies.below hbd hal9 hbd.lt) (Lies.new w9 28 #[.int .i64 1, .int .i64 x2, .int .i64 y2])))
              clear hok h2 hb9 hb10 hck HC hal9 hbd
              go_upto_region 30 with fail
              change Code.wp _ _ _ _ (w9.alloc (.cells #[.int .i64 1, .int .i64 x2, .int .i64 y2] 28))
              generalize w9.alloc (.cells #[.int .i64 1, .int .i64 x2, .int .i64 y2] 28) = WZ at HY ⊢
              generalize w9.heap.size = YZ at HY ⊢
              have r0 := Lies.cell HY.out.2.1 0
              have q0 := Lies.cell HY.out.2.2 0
              simp only [List.getElem?_toArray, List.getElem?_cons_zero] at r0 q0
              go_wp2_with fail
              go_ret
              exact ⟨rfl, HY.out.1⟩
        · rw [e] at hbq
          injection hbq with e1 e2 e3
          subst e1 e2
          obtain ⟨rs, hrs⟩ : ∃ rs, rs = c.res := ⟨_, rfl⟩
          have hsub := sub_in (kv := fun v => decide (v ∈ [rs])) HROW.out
          have HG := Lib.hid (And.intro hsub.rowsE (hsub.kind2 (by rw [← HCS.out]; exact n1) g0 (by rw [← HCS.out]; exact g1) (by rw [← HCS.out]; exact g2) g3 g4 g5 g6 (by rw [hrs]; simp)))
          rw [← HCS.out] at HG
          have li : (i : Int) < (n : Int) := by have := (List.getElem?_eq_some_iff.1 g1).1; have := HNN.out; omega
          have zi : (0 : Int) ≤ (i : Int) := by omega
          obtain ⟨g, o, hA, -, d0, d1, d2, d3, d4, d5, d6⟩ := H7.out.2.1.cl g1
          subst hA
          rw [← hrs] at d4
          have r0 := Lies.cell H7.out.2.2 0
          have r1 := Lies.cell H7.out.2.2 1
          simp only [List.getElem?_toArray, List.getElem?_cons_zero, List.getElem?_cons_succ] at r0 r1
          have hal7 : Below w7.heap.size w7 (w7.alloc (.cells #[.int .i64 rs] 3)) := (Below.refl _ _).alloc (Nat.le_refl _) _
          have h0 : PrR w (w7.heap.size + 1) G Al L capl l (some ⟨w7.heap.size, 0, none⟩) 1 1 [rs] (some ⟨g, o, none⟩) n cap cs 2 (i : Int) y (w7.alloc (.cells #[.int .i64 rs] 3)) :=
            ⟨H7.out.1.trans (hal7.mono H7.out.1.size), (HEV.out.below hal7).mono (by omega), LRd.of_lit (f := intCs) (s := 1) (w := w7) (l := [rs]) (fun _ => rfl) 3 (cs := #[.int .i64 rs]) rfl (n := 1) rfl (by unfold maxLen; omega), (H7.out.2.1.below hal7).mono (by omega), Lies.below H7.out.2.2 hal7 H7.out.2.2.lt, by have := H7.out.1.size; omega, by have := H7.out.2.2.lt; omega, by simp⟩
          have H0 := Lib.hid h0
          clear h0 hal7 hsub hq hno hrs e g1 e3 HBD
          go_upto_region 18 with fail
          have h0 := H0.out
          clear H0 d0 d1 d2 d3 d4 d5 d6 r0 r1
          change Code.wp _ _ _ _ (w7.alloc (.cells #[.int .i64 rs] 3))
          generalize w7.alloc (.cells #[.int .i64 rs] 3) = WS at h0 ⊢
          generalize hDD : w7.heap.size + 1 = D at h0
          clear hDD
          generalize w7.heap.size = S at h0 ⊢
          have bi1 : decide (n ≤ i) = false := decide_eq_false (by omega)
          have bi2 : decide ((i : Int) < 0) = false := decide_eq_false (by omega)
          try simp only [bi1, bi2, Bool.or_false]
          clear bi1 bi2
          go_wp2_with fail
          go_loopw [10, 78] (fun v vi wr => ∃ j : Nat, j ≤ L ∧ vi = .int .i64 j ∧ EOwn wr D v (subL (inP (fun v => decide (v ∈ [rs])) cs) 0 (l.take j)) ∧ PrR w D G Al L capl l (some ⟨S, 0, none⟩) 1 1 [rs] (some ⟨g, o, none⟩) n cap cs 2 (i : Int) y wr) (fun _ i _ => L - (intOf i).toNat)
          case atStart => exact ⟨0, by omega, rfl, ⟨rfl, .inl ⟨rfl, rfl⟩⟩, h0⟩
          case round =>
            clear h0
            obtain ⟨j, hj, rfl, hown, hO⟩ := hrel
            by_cases hjn : j < L
            · obtain ⟨ev, hev⟩ : ∃ ev, l[j]? = some ev := ⟨_, List.getElem?_eq_getElem (by rw [← HLL.out]; exact hjn)⟩
              have htk := subL_take (k := inP (fun v => decide (v ∈ [rs])) cs) hev
              obtain ⟨ge, oe, hA, -, d0, d1, d2, d3⟩ := hO.evs.ev hev
              subst hA
              obtain ⟨y0, y1, y2, y3⟩ := ev
              simp only at d0 d1 d2 d3
              have j1 : (0 : Int) ≤ (j : Int) := by omega
              have j2 : (j : Int) < (L : Int) := by omega
              have hal : Below wr.heap.size wr (wr.alloc (.cells #[.int .i64 y0, .int .i64 y1, .int .i64 y2, .int .i64 y3] 52)) := (Below.refl _ _).alloc (Nat.le_refl _) _
              obtain ⟨acc, hacc⟩ : ∃ acc, acc = subL (inP (fun v => decide (v ∈ [rs])) cs) 0 (l.take j) := ⟨_, rfl⟩
              have HLEN := Lib.hid (show acc.length ≤ 65536 by
                have h1 := subL_len (inP (fun v => decide (v ∈ [rs])) cs) (l.take j) 0
                rw [← hacc, List.length_take] at h1
                have := HL2.out
                omega)
              rw [← hacc] at hown htk
              have h1 : PrR w D G (some ⟨ge, oe, none⟩) L capl l (some ⟨S, 0, none⟩) 1 1 [rs] (some ⟨g, o, none⟩) n cap cs 2 (i : Int) y (wr.alloc (.cells #[.int .i64 y0, .int .i64 y1, .int .i64 y2, .int .i64 y3] 52)) ∧ Lies (wr.alloc (.cells #[.int .i64 y0, .int .i64 y1, .int .i64 y2, .int .i64 y3] 52)) wr.heap.size 52 #[.int .i64 y0, .int .i64 y1, .int .i64 y2, .int .i64 y3] ∧ EOwn (wr.alloc (.cells #[.int .i64 y0, .int .i64 y1, .int .i64 y2, .int .i64 y3] 52)) D u10 acc := ⟨hO.next hal, Lies.new _ _ _, hown.then_ hal⟩
              have HXD0 := Lib.hid hO.sz.2.2
              have HTK := Lib.hid htk
              clear hO hev hal htk hown hacc
              go_upto_region 22 with fail
              clear d0 d1 d2 d3
              change Code.wp _ _ _ _ (wr.alloc (.cells #[.int .i64 y0, .int .i64 y1, .int .i64 y2, .int .i64 y3] 52))
              generalize wr.alloc (.cells #[.int .i64 y0, .int .i64 y1, .int .i64 y2, .int .i64 y3] 52) = WA at h1 ⊢
              generalize wr.heap.size = X at h1 HXD0 ⊢
              go_wp2_with fail
              go_loopw [10, 85] (fun v vi wr => ∃ t : Nat, t ≤ n ∧ vi = .int .i64 t ∧ PrR w D G (some ⟨ge, oe, none⟩) L capl l (some ⟨S, 0, none⟩) 1 1 [rs] (some ⟨g, o, none⟩) n cap cs 2 (i : Int) y wr ∧ (inP (fun v => decide (v ∈ [rs])) (cs.take t) (j : Int) = false → Lies wr X 52 #[.int .i64 y0, .int .i64 y1, .int .i64 y2, .int .i64 y3]) ∧ EOwn wr D v (if inP (fun v => decide (v ∈ [rs])) (cs.take t) (j : Int) = true then acc ++ [⟨y0, y1, y2, y3⟩] else acc)) (fun _ i _ => n - (intOf i).toNat)
              case atStart => exact ⟨0, by omega, rfl, h1.1, fun _ => h1.2.1, h1.2.2⟩
              case round =>
                clear h1
                obtain ⟨t, ht, rfl, hO, hE, hown⟩ := hrel
                by_cases htn : t < n
                · obtain ⟨c, hc⟩ : ∃ c, cs[t]? = some c := ⟨_, List.getElem?_eq_getElem (by rw [← HNN.out]; exact htn)⟩
                  have hit := inP_take (kv := (fun v => decide (v ∈ [rs]))) hc (j : Int)
                  have hib : c.frm = (j : Int) ∨ c.til = (j : Int) → inP (fun v => decide (v ∈ [rs])) (cs.take t) (j : Int) = false := fun hh => by
                    have hc' := hc
                    rw [HCS.out] at hc' ⊢
                    exact inP_before HROW.out hc' (by omega) hh
                  obtain ⟨gg, oo, hA, -, d0, d1, d2, d3, d4, d5, d6⟩ := hO.cls.cl hc
                  injection hA with hA
                  injection hA with hA1 hA2
                  subst hA1 hA2
                  have hvq : valQ c = max c.arg c.res := rfl
                  rw [hvq] at hit
                  obtain ⟨x0, x1, x2, x3, x4, x5, x6⟩ := c
                  simp only at d0 d1 d2 d3 d4 d5 d6 hit hib
                  have t1 : (0 : Int) ≤ (t : Int) := by omega
                  have t2 : (t : Int) < (n : Int) := by omega
                  have hal : Below wr.heap.size wr (wr.alloc (.cells #[.int .i64 x0, .int .i64 x1, .int .i64 x2, .int .i64 x3, .int .i64 x4, .int .i64 x5, .int .i64 x6] 49)) := (Below.refl _ _).alloc (Nat.le_refl _) _
                  have HO := Lib.hid (And.intro (hO.next hal) (And.intro (fun h : inP (fun v => decide (v ∈ [rs])) (cs.take t) (j : Int) = false => Lies.below (hE h) hal (hE h).lt) (And.intro (Lies.new wr 49 #[.int .i64 x0, .int .i64 x1, .int .i64 x2, .int .i64 x3, .int .i64 x4, .int .i64 x5, .int .i64 x6]) (hown.then_ hal))))
                  have HIT := Lib.hid hit
                  have HIB := Lib.hid hib
                  clear hO hE hown hc hal hit hib hvq
                  go_upto_region 25 with fail
                  clear d0 d1 d2 d3 d4 d5 d6
                  change Code.wp _ _ _ _ (wr.alloc (.cells #[.int .i64 x0, .int .i64 x1, .int .i64 x2, .int .i64 x3, .int .i64 x4, .int .i64 x5, .int .i64 x6] 49))
                  generalize wr.alloc (.cells #[.int .i64 x0, .int .i64 x1, .int .i64 x2, .int .i64 x3, .int .i64 x4, .int .i64 x5, .int .i64 x6] 49) = WB at HO ⊢
                  generalize wr.heap.size = Y at HO ⊢
                  have HCN := Lib.hid (fun z => containsN_any (x := z) HO.out.1.nums HO.out.1.sz.2.2)
                  have c3 := Lies.cell HO.out.2.2.1 3
                  have c4 := Lies.cell HO.out.2.2.1 4
                  have c5 := Lies.cell HO.out.2.2.1 5
                  have c6 := Lies.cell HO.out.2.2.1 6
                  simp only [List.getElem?_toArray, List.getElem?_cons_zero, List.getElem?_cons_succ] at c3 c4 c5 c6
                  by_cases h5 : x5 = (j : Int)
                  · have hz : (x5 == (j : Int)) = true := by rw [beq_iff_eq]; exact h5
                    have HH := Lib.hid h5
                    have HHZ := Lib.hid hz
                    clear h5
                    go_wp2_with fail
                    refine (HCN.out _).mono ?_
                    rintro e w9 ⟨rfl, hb9⟩
                    have hO9 := HO.out.1.next hb9
                    have HB9 := Lib.hid (HIB.out (.inl HH.out))
                    have hE9 := Lies.below (HO.out.2.1 HB9.out) hb9 (HO.out.2.1 HB9.out).lt
                    have hw9 := HO.out.2.2.2.then_ hb9
                    clear HCN hb9 HO c3 c4 c5 c6
                    obtain ⟨q, hq⟩ : ∃ q, q = decide (max x3 x4 ∈ [rs]) := ⟨_, rfl⟩
                    rw [← hq] at HIT ⊢
                    clear hq
                    have hacc0 : (if inP (fun v => decide (v ∈ [rs])) (cs.take t) (j : Int) = true then acc ++ [⟨y0, y1, y2, y3⟩] else acc) = acc := by rw [HB9.out]; rfl
                    rw [hacc0] at hw9
                    clear hacc0
                    cases q
                    · have HZ := Lib.hid (And.intro hO9 (And.intro hE9 hw9))
                      have hin : inP (fun v => decide (v ∈ [rs])) (cs.take (t + 1)) (j : Int) = false := by rw [HIT.out, HB9.out]; simp
                      have HIN := Lib.hid hin
                      clear hO9 hE9 hw9 hin
                      go_wp2_with fail
                      go_roundw
                      case rel => exact ⟨t + 1, by omega, by go_num, HZ.out.1, fun _ => HZ.out.2.1, by rw [HIN.out]; exact HZ.out.2.2⟩
                      case measure => simp [intOf]; omega
                    · have hin : inP (fun v => decide (v ∈ [rs])) (cs.take (t + 1)) (j : Int) = true := by rw [HIT.out]; rw [HHZ.out]; simp
                      have hal2 : Below w9.heap.size w9 (w9.alloc (.cells #[.int .i64 y0, .int .i64 y1, .int .i64 y2, .int .i64 y3] 52)) := (Below.refl _ _).alloc (Nat.le_refl _) _
                      have hown := hw9.then_ hal2
                      have hsz : D ≤ (w9.alloc (.cells #[.int .i64 y0, .int .i64 y1, .int .i64 y2, .int .i64 y3] 52)).heap.size := (hO9.next hal2).sz.2.2
                      have hnew := new_cells w9 52 (evCs ⟨y0, y1, y2, y3⟩)
                      have e0 := Lies.cell hE9 0
                      have e1 := Lies.cell hE9 1
                      have e2 := Lies.cell hE9 2
                      have e3 := Lies.cell hE9 3
                      simp only [List.getElem?_toArray, List.getElem?_cons_zero, List.getElem?_cons_succ] at e0 e1 e2 e3
                      obtain ⟨Av, cv, hvv⟩ := own_sliceE hown
                      have HZ := Lib.hid (And.intro (hO9.next hal2) (And.intro (Lies.below hE9 hal2 hE9.lt) hin))
                      have HXD := HXD0
                      have hlen := HLEN.out
                      rw [hvv] at hown ⊢
                      clear hO9 hE9 hw9 hin hal2
                      go_wp2_with (at_builtin; refine wpList_app_ev rfl (.tmp 108) (.tmp 110) rfl D w9.heap.size _ acc ⟨y0, y1, y2, y3⟩ rfl rfl hown hnew hlen hsz ?_; intro v' w7 ho7 hb7 _)
                      go_roundw
                      case rel => exact ⟨t + 1, by omega, by go_num, HZ.out.1.over hb7, (fun h => by rw [HZ.out.2.2] at h; cases h), by rw [HZ.out.2.2]; exact ho7⟩
                      case measure => simp [intOf]; omega
                  · have hz : (x5 == (j : Int)) = false := by rw [beq_eq_false_iff_ne]; exact h5
                    by_cases h6 : x6 = (j : Int)
                    · have hz6 : (x6 == (j : Int)) = true := by rw [beq_iff_eq]; exact h6
                      have HH := Lib.hid h6
                      have HHZ := Lib.hid (And.intro hz hz6)
                      clear h5 h6
                      go_wp2_with fail
                      refine (HCN.out _).mono ?_
                      rintro e w9 ⟨rfl, hb9⟩
                      have hO9 := HO.out.1.next hb9
                      have HB9 := Lib.hid (HIB.out (.inr HH.out))
                      have hE9 := Lies.below (HO.out.2.1 HB9.out) hb9 (HO.out.2.1 HB9.out).lt
                      have hw9 := HO.out.2.2.2.then_ hb9
                      clear HCN hb9 HO c3 c4 c5 c6
                      obtain ⟨q, hq⟩ : ∃ q, q = decide (max x3 x4 ∈ [rs]) := ⟨_, rfl⟩
                      rw [← hq] at HIT ⊢
                      clear hq
                      have hacc0 : (if inP (fun v => decide (v ∈ [rs])) (cs.take t) (j : Int) = true then acc ++ [⟨y0, y1, y2, y3⟩] else acc) = acc := by rw [HB9.out]; rfl
                      rw [hacc0] at hw9
                      clear hacc0
                      cases q
                      · have HZ := Lib.hid (And.intro hO9 (And.intro hE9 hw9))
                        have hin : inP (fun v => decide (v ∈ [rs])) (cs.take (t + 1)) (j : Int) = false := by rw [HIT.out, HB9.out]; simp
                        have HIN := Lib.hid hin
                        clear hO9 hE9 hw9 hin
                        go_wp2_with fail
                        go_roundw
                        case rel => exact ⟨t + 1, by omega, by go_num, HZ.out.1, fun _ => HZ.out.2.1, by rw [HIN.out]; exact HZ.out.2.2⟩
                        case measure => simp [intOf]; omega
                      · have hin : inP (fun v => decide (v ∈ [rs])) (cs.take (t + 1)) (j : Int) = true := by rw [HIT.out]; rw [HHZ.out.1, HHZ.out.2]; simp
                        have hal2 : Below w9.heap.size w9 (w9.alloc (.cells #[.int .i64 y0, .int .i64 y1, .int .i64 y2, .int .i64 y3] 52)) := (Below.refl _ _).alloc (Nat.le_refl _) _
                        have hown := hw9.then_ hal2
                        have hsz : D ≤ (w9.alloc (.cells #[.int .i64 y0, .int .i64 y1, .int .i64 y2, .int .i64 y3] 52)).heap.size := (hO9.next hal2).sz.2.2
                        have hnew := new_cells w9 52 (evCs ⟨y0, y1, y2, y3⟩)
                        have e0 := Lies.cell hE9 0
                        have e1 := Lies.cell hE9 1
                        have e2 := Lies.cell hE9 2
                        have e3 := Lies.cell hE9 3
                        simp only [List.getElem?_toArray, List.getElem?_cons_zero, List.getElem?_cons_succ] at e0 e1 e2 e3
                        obtain ⟨Av, cv, hvv⟩ := own_sliceE hown
                        have HZ := Lib.hid (And.intro (hO9.next hal2) (And.intro (Lies.below hE9 hal2 hE9.lt) hin))
                        have HXD := HXD0
                        have hlen := HLEN.out
                        rw [hvv] at hown ⊢
                        clear hO9 hE9 hw9 hin hal2
                        go_wp2_with (at_builtin; refine wpList_app_ev rfl (.tmp 108) (.tmp 110) rfl D w9.heap.size _ acc ⟨y0, y1, y2, y3⟩ rfl rfl hown hnew hlen hsz ?_; intro v' w7 ho7 hb7 _)
                        go_roundw
                        case rel => exact ⟨t + 1, by omega, by go_num, HZ.out.1.over hb7, (fun h => by rw [HZ.out.2.2] at h; cases h), by rw [HZ.out.2.2]; exact ho7⟩
                        case measure => simp [intOf]; omega
                    · have hz6 : (x6 == (j : Int)) = false := by rw [beq_eq_false_iff_ne]; exact h6
                      have hin : inP (fun v => decide (v ∈ [rs])) (cs.take (t + 1)) (j : Int) = inP (fun v => decide (v ∈ [rs])) (cs.take t) (j : Int) := by rw [HIT.out, hz, hz6]; simp
                      have HZ := Lib.hid (And.intro HO.out hin)
                      clear h5 h6 HO HIT HIB HCN hin
                      go_wp2_with fail
                      go_roundw
                      case rel => exact ⟨t + 1, by omega, by go_num, HZ.out.1.1, (by rw [HZ.out.2]; exact HZ.out.1.2.1), by rw [HZ.out.2]; exact HZ.out.1.2.2.2⟩
                      case measure => simp [intOf]; omega
                · obtain rfl : n = t := by omega
                  rw [show cs.take n = cs by rw [HNN.out, List.take_length]] at hown
                  have HZ := Lib.hid (And.intro hO (show EOwn wr D u10 (subL (inP (fun v => decide (v ∈ [rs])) cs) 0 (l.take (j + 1))) by rw [HTK.out]; exact hown))
                  clear hO hE hown
                  go_wp2_with fail
                  go_roundw
                  case rel => exact ⟨j + 1, by omega, by go_num, HZ.out.2, HZ.out.1⟩
                  case measure => simp [intOf]; omega
            · obtain rfl : L = j := by omega
              rw [HLL.out, List.take_length] at hown
              have HC := Lib.hid (rcheck_any hown.rd)
              obtain ⟨Av, cv, hvv⟩ := own_sliceE hown
              have HZ := Lib.hid (And.intro hO.below hO.bad)
              rw [hvv] at HC ⊢
              clear hown hO hvv
              generalize hml : subL (inP (fun v => decide (v ∈ [rs])) cs) 0 l = ml at HC HG
              clear hml
              generalize ml.length = mn at HC ⊢
              go_wp2_with fail
              refine HC.out.mono ?_
              intro e w9 hck
              obtain ⟨b2, k2, x2, y2, rfl, hb9, hok, -⟩ := hck.forms
              rw [HG.out.1]
              obtain ⟨h1, h2⟩ := hok HG.out.1
              have h3 := HG.out.2
              rw [h2] at h3
              simp only at h3
              subst h3
              obtain rfl : b2 = false := h1
              have hb10 := HZ.out.1.trans (hb9.mono HZ.out.1.size)
              have hal9 : Below w9.heap.size w9 (w9.alloc (.cells #[.int .i64 2, .int .i64 x2, .int .i64 y2] 28)) := (Below.refl _ _).alloc (Nat.le_refl _) _
              have hbd := Lies.below HZ.out.2 hb9 HZ.out.2.lt
              have HY := Lib.hid (And.intro (hb10.trans (hal9.mono hb10.size)) (And.intro (Lies.below hbd hal9 hbd.lt) (Lies.new w9 28 #[.int .i64 2, .int .i64 x2, .int .i64 y2])))
              clear hok h2 hb9 hb10 hck HC hal9 hbd
              go_upto_region 30 with fail
              change Code.wp _ _ _ _ (w9.alloc (.cells #[.int .i64 2, .int .i64 x2, .int .i64 y2] 28))
              generalize w9.alloc (.cells #[.int .i64 2, .int .i64 x2, .int .i64 y2] 28) = WZ at HY ⊢
              generalize w9.heap.size = YZ at HY ⊢
              have r0 := Lies.cell HY.out.2.1 0
              have q0 := Lies.cell HY.out.2.2 0
              simp only [List.getElem?_toArray, List.getElem?_cons_zero] at r0 q0
              go_wp2_with fail
              go_ret
              exact ⟨rfl, HY.out.1⟩
        · rw [e] at hbq
          injection hbq with e1 e2 e3
          subst e1 e2
          obtain ⟨rs, hrs⟩ : ∃ rs, rs = c.res := ⟨_, rfl⟩
          have hsub := sub_in (kv := fun v => decide (v ∈ [rs])) HROW.out
          have HG := Lib.hid (And.intro hsub.rowsE (hsub.kind3 (by rw [← HCS.out]; exact n1) (by rw [← HCS.out]; exact n2) (List.mem_of_getElem? (by rw [← HCS.out]; exact g1)) (List.mem_of_getElem? (by rw [← HCS.out]; exact g2)) g3 g4 g5 (by rw [hrs]; simp)))
          rw [← HCS.out] at HG
          have li : (i : Int) < (n : Int) := by have := (List.getElem?_eq_some_iff.1 g1).1; have := HNN.out; omega
          have zi : (0 : Int) ≤ (i : Int) := by omega
          obtain ⟨g, o, hA, -, d0, d1, d2, d3, d4, d5, d6⟩ := H7.out.2.1.cl g1
          subst hA
          rw [← hrs] at d4
          have r0 := Lies.cell H7.out.2.2 0
          have r1 := Lies.cell H7.out.2.2 1
          simp only [List.getElem?_toArray, List.getElem?_cons_zero, List.getElem?_cons_succ] at r0 r1
          have hal7 : Below w7.heap.size w7 (w7.alloc (.cells #[.int .i64 rs] 3)) := (Below.refl _ _).alloc (Nat.le_refl _) _
          have h0 : PrR w (w7.heap.size + 1) G Al L capl l (some ⟨w7.heap.size, 0, none⟩) 1 1 [rs] (some ⟨g, o, none⟩) n cap cs 3 (i : Int) y (w7.alloc (.cells #[.int .i64 rs] 3)) :=
            ⟨H7.out.1.trans (hal7.mono H7.out.1.size), (HEV.out.below hal7).mono (by omega), LRd.of_lit (f := intCs) (s := 1) (w := w7) (l := [rs]) (fun _ => rfl) 3 (cs := #[.int .i64 rs]) rfl (n := 1) rfl (by unfold maxLen; omega), (H7.out.2.1.below hal7).mono (by omega), Lies.below H7.out.2.2 hal7 H7.out.2.2.lt, by have := H7.out.1.size; omega, by have := H7.out.2.2.lt; omega, by simp⟩
          have H0 := Lib.hid h0
          clear h0 hal7 hsub hq hno hrs e g1 e3 HBD
          go_upto_region 18 with fail
          have h0 := H0.out
          clear H0 d0 d1 d2 d3 d4 d5 d6 r0 r1
          change Code.wp _ _ _ _ (w7.alloc (.cells #[.int .i64 rs] 3))
          generalize w7.alloc (.cells #[.int .i64 rs] 3) = WS at h0 ⊢
          generalize hDD : w7.heap.size + 1 = D at h0
          clear hDD
          generalize w7.heap.size = S at h0 ⊢
          have bi1 : decide (n ≤ i) = false := decide_eq_false (by omega)
          have bi2 : decide ((i : Int) < 0) = false := decide_eq_false (by omega)
          try simp only [bi1, bi2, Bool.or_false]
          clear bi1 bi2
          go_wp2_with fail
          go_loopw [10, 78] (fun v vi wr => ∃ j : Nat, j ≤ L ∧ vi = .int .i64 j ∧ EOwn wr D v (subL (inP (fun v => decide (v ∈ [rs])) cs) 0 (l.take j)) ∧ PrR w D G Al L capl l (some ⟨S, 0, none⟩) 1 1 [rs] (some ⟨g, o, none⟩) n cap cs 3 (i : Int) y wr) (fun _ i _ => L - (intOf i).toNat)
          case atStart => exact ⟨0, by omega, rfl, ⟨rfl, .inl ⟨rfl, rfl⟩⟩, h0⟩
          case round =>
            clear h0
            obtain ⟨j, hj, rfl, hown, hO⟩ := hrel
            by_cases hjn : j < L
            · obtain ⟨ev, hev⟩ : ∃ ev, l[j]? = some ev := ⟨_, List.getElem?_eq_getElem (by rw [← HLL.out]; exact hjn)⟩
              have htk := subL_take (k := inP (fun v => decide (v ∈ [rs])) cs) hev
              obtain ⟨ge, oe, hA, -, d0, d1, d2, d3⟩ := hO.evs.ev hev
              subst hA
              obtain ⟨y0, y1, y2, y3⟩ := ev
              simp only at d0 d1 d2 d3
              have j1 : (0 : Int) ≤ (j : Int) := by omega
              have j2 : (j : Int) < (L : Int) := by omega
              have hal : Below wr.heap.size wr (wr.alloc (.cells #[.int .i64 y0, .int .i64 y1, .int .i64 y2, .int .i64 y3] 52)) := (Below.refl _ _).alloc (Nat.le_refl _) _
              obtain ⟨acc, hacc⟩ : ∃ acc, acc = subL (inP (fun v => decide (v ∈ [rs])) cs) 0 (l.take j) := ⟨_, rfl⟩
              have HLEN := Lib.hid (show acc.length ≤ 65536 by
                have h1 := subL_len (inP (fun v => decide (v ∈ [rs])) cs) (l.take j) 0
                rw [← hacc, List.length_take] at h1
                have := HL2.out
                omega)
              rw [← hacc] at hown htk
              have h1 : PrR w D G (some ⟨ge, oe, none⟩) L capl l (some ⟨S, 0, none⟩) 1 1 [rs] (some ⟨g, o, none⟩) n cap cs 3 (i : Int) y (wr.alloc (.cells #[.int .i64 y0, .int .i64 y1, .int .i64 y2, .int .i64 y3] 52)) ∧ Lies (wr.alloc (.cells #[.int .i64 y0, .int .i64 y1, .int .i64 y2, .int .i64 y3] 52)) wr.heap.size 52 #[.int .i64 y0, .int .i64 y1, .int .i64 y2, .int .i64 y3] ∧ EOwn (wr.alloc (.cells #[.int .i64 y0, .int .i64 y1, .int .i64 y2, .int .i64 y3] 52)) D u10 acc := ⟨hO.next hal, Lies.new _ _ _, hown.then_ hal⟩
              have HXD0 := Lib.hid hO.sz.2.2
              have HTK := Lib.hid htk
              clear hO hev hal htk hown hacc
              go_upto_region 22 with fail
              clear d0 d1 d2 d3
              change Code.wp _ _ _ _ (wr.alloc (.cells #[.int .i64 y0, .int .i64 y1, .int .i64 y2, .int .i64 y3] 52))
              generalize wr.alloc (.cells #[.int .i64 y0, .int .i64 y1, .int .i64 y2, .int .i64 y3] 52) = WA at h1 ⊢
              generalize wr.heap.size = X at h1 HXD0 ⊢
              go_wp2_with fail
              go_loopw [10, 85] (fun v vi wr => ∃ t : Nat, t ≤ n ∧ vi = .int .i64 t ∧ PrR w D G (some ⟨ge, oe, none⟩) L capl l (some ⟨S, 0, none⟩) 1 1 [rs] (some ⟨g, o, none⟩) n cap cs 3 (i : Int) y wr ∧ (inP (fun v => decide (v ∈ [rs])) (cs.take t) (j : Int) = false → Lies wr X 52 #[.int .i64 y0, .int .i64 y1, .int .i64 y2, .int .i64 y3]) ∧ EOwn wr D v (if inP (fun v => decide (v ∈ [rs])) (cs.take t) (j : Int) = true then acc ++ [⟨y0, y1, y2, y3⟩] else acc)) (fun _ i _ => n - (intOf i).toNat)
              case atStart => exact ⟨0, by omega, rfl, h1.1, fun _ => h1.2.1, h1.2.2⟩
              case round =>
                clear h1
                obtain ⟨t, ht, rfl, hO, hE, hown⟩ := hrel
                by_cases htn : t < n
                · obtain ⟨c, hc⟩ : ∃ c, cs[t]? = some c := ⟨_, List.getElem?_eq_getElem (by rw [← HNN.out]; exact htn)⟩
                  have hit := inP_take (kv := (fun v => decide (v ∈ [rs]))) hc (j : Int)
                  have hib : c.frm = (j : Int) ∨ c.til = (j : Int) → inP (fun v => decide (v ∈ [rs])) (cs.take t) (j : Int) = false := fun hh => by
                    have hc' := hc
                    rw [HCS.out] at hc' ⊢
                    exact inP_before HROW.out hc' (by omega) hh
                  obtain ⟨gg, oo, hA, -, d0, d1, d2, d3, d4, d5, d6⟩ := hO.cls.cl hc
                  injection hA with hA
                  injection hA with hA1 hA2
                  subst hA1 hA2
                  have hvq : valQ c = max c.arg c.res := rfl
                  rw [hvq] at hit
                  obtain ⟨x0, x1, x2, x3, x4, x5, x6⟩ := c
                  simp only at d0 d1 d2 d3 d4 d5 d6 hit hib
                  have t1 : (0 : Int) ≤ (t : Int) := by omega
                  have t2 : (t : Int) < (n : Int) := by omega
                  have hal : Below wr.heap.size wr (wr.alloc (.cells #[.int .i64 x0, .int .i64 x1, .int .i64 x2, .int .i64 x3, .int .i64 x4, .int .i64 x5, .int .i64 x6] 49)) := (Below.refl _ _).alloc (Nat.le_refl _) _
                  have HO := Lib.hid (And.intro (hO.next hal) (And.intro (fun h : inP (fun v => decide (v ∈ [rs])) (cs.take t) (j : Int) = false => Lies.below (hE h) hal (hE h).lt) (And.intro (Lies.new wr 49 #[.int .i64 x0, .int .i64 x1, .int .i64 x2, .int .i64 x3, .int .i64 x4, .int .i64 x5, .int .i64 x6]) (hown.then_ hal))))
                  have HIT := Lib.hid hit
                  have HIB := Lib.hid hib
                  clear hO hE hown hc hal hit hib hvq
                  go_upto_region 25 with fail
                  clear d0 d1 d2 d3 d4 d5 d6
                  change Code.wp _ _ _ _ (wr.alloc (.cells #[.int .i64 x0, .int .i64 x1, .int .i64 x2, .int .i64 x3, .int .i64 x4, .int .i64 x5, .int .i64 x6] 49))
                  generalize wr.alloc (.cells #[.int .i64 x0, .int .i64 x1, .int .i64 x2, .int .i64 x3, .int .i64 x4, .int .i64 x5, .int .i64 x6] 49) = WB at HO ⊢
                  generalize wr.heap.size = Y at HO ⊢
                  have HCN := Lib.hid (fun z => containsN_any (x := z) HO.out.1.nums HO.out.1.sz.2.2)
                  have c3 := Lies.cell HO.out.2.2.1 3
                  have c4 := Lies.cell HO.out.2.2.1 4
                  have c5 := Lies.cell HO.out.2.2.1 5
                  have c6 := Lies.cell HO.out.2.2.1 6
                  simp only [List.getElem?_toArray, List.getElem?_cons_zero, List.getElem?_cons_succ] at c3 c4 c5 c6
                  by_cases h5 : x5 = (j : Int)
                  · have hz : (x5 == (j : Int)) = true := by rw [beq_iff_eq]; exact h5
                    have HH := Lib.hid h5
                    have HHZ := Lib.hid hz
                    clear h5
                    go_wp2_with fail
                    refine (HCN.out _).mono ?_
                    rintro e w9 ⟨rfl, hb9⟩
                    have hO9 := HO.out.1.next hb9
                    have HB9 := Lib.hid (HIB.out (.inl HH.out))
                    have hE9 := Lies.below (HO.out.2.1 HB9.out) hb9 (HO.out.2.1 HB9.out).lt
                    have hw9 := HO.out.2.2.2.then_ hb9
                    clear HCN hb9 HO c3 c4 c5 c6
                    obtain ⟨q, hq⟩ : ∃ q, q = decide (max x3 x4 ∈ [rs]) := ⟨_, rfl⟩
                    rw [← hq] at HIT ⊢
                    clear hq
                    have hacc0 : (if inP (fun v => decide (v ∈ [rs])) (cs.take t) (j : Int) = true then acc ++ [⟨y0, y1, y2, y3⟩] else acc) = acc := by rw [HB9.out]; rfl
                    rw [hacc0] at hw9
                    clear hacc0
                    cases q
                    · have HZ := Lib.hid (And.intro hO9 (And.intro hE9 hw9))
                      have hin : inP (fun v => decide (v ∈ [rs])) (cs.take (t + 1)) (j : Int) = false := by rw [HIT.out, HB9.out]; simp
                      have HIN := Lib.hid hin
                      clear hO9 hE9 hw9 hin
                      go_wp2_with fail
                      go_roundw
                      case rel => exact ⟨t + 1, by omega, by go_num, HZ.out.1, fun _ => HZ.out.2.1, by rw [HIN.out]; exact HZ.out.2.2⟩
                      case measure => simp [intOf]; omega
                    · have hin : inP (fun v => decide (v ∈ [rs])) (cs.take (t + 1)) (j : Int) = true := by rw [HIT.out]; rw [HHZ.out]; simp
                      have hal2 : Below w9.heap.size w9 (w9.alloc (.cells #[.int .i64 y0, .int .i64 y1, .int .i64 y2, .int .i64 y3] 52)) := (Below.refl _ _).alloc (Nat.le_refl _) _
                      have hown := hw9.then_ hal2
                      have hsz : D ≤ (w9.alloc (.cells #[.int .i64 y0, .int .i64 y1, .int .i64 y2, .int .i64 y3] 52)).heap.size := (hO9.next hal2).sz.2.2
                      have hnew := new_cells w9 52 (evCs ⟨y0, y1, y2, y3⟩)
                      have e0 := Lies.cell hE9 0
                      have e1 := Lies.cell hE9 1
                      have e2 := Lies.cell hE9 2
                      have e3 := Lies.cell hE9 3
                      simp only [List.getElem?_toArray, List.getElem?_cons_zero, List.getElem?_cons_succ] at e0 e1 e2 e3
                      obtain ⟨Av, cv, hvv⟩ := own_sliceE hown
                      have HZ := Lib.hid (And.intro (hO9.next hal2) (And.intro (Lies.below hE9 hal2 hE9.lt) hin))
                      have HXD := HXD0
                      have hlen := HLEN.out
                      rw [hvv] at hown ⊢
                      clear hO9 hE9 hw9 hin hal2
                      go_wp2_with (at_builtin; refine wpList_app_ev rfl (.tmp 108) (.tmp 110) rfl D w9.heap.size _ acc ⟨y0, y1, y2, y3⟩ rfl rfl hown hnew hlen hsz ?_; intro v' w7 ho7 hb7 _)
                      go_roundw
                      case rel => exact ⟨t + 1, by omega, by go_num, HZ.out.1.over hb7, (fun h => by rw [HZ.out.2.2] at h; cases h), by rw [HZ.out.2.2]; exact ho7⟩
                      case measure => simp [intOf]; omega
                  · have hz : (x5 == (j : Int)) = false := by rw [beq_eq_false_iff_ne]; exact h5
                    by_cases h6 : x6 = (j : Int)
                    · have hz6 : (x6 == (j : Int)) = true := by rw [beq_iff_eq]; exact h6
                      have HH := Lib.hid h6
                      have HHZ := Lib.hid (And.intro hz hz6)
                      clear h5 h6
                      go_wp2_with fail
                      refine (HCN.out _).mono ?_
                      rintro e w9 ⟨rfl, hb9⟩
                      have hO9 := HO.out.1.next hb9
                      have HB9 := Lib.hid (HIB.out (.inr HH.out))
                      have hE9 := Lies.below (HO.out.2.1 HB9.out) hb9 (HO.out.2.1 HB9.out).lt
                      have hw9 := HO.out.2.2.2.then_ hb9
                      clear HCN hb9 HO c3 c4 c5 c6
                      obtain ⟨q, hq⟩ : ∃ q, q = decide (max x3 x4 ∈ [rs]) := ⟨_, rfl⟩
                      rw [← hq] at HIT ⊢
                      clear hq
                      have hacc0 : (if inP (fun v => decide (v ∈ [rs])) (cs.take t) (j : Int) = true then acc ++ [⟨y0, y1, y2, y3⟩] else acc) = acc := by rw [HB9.out]; rfl
                      rw [hacc0] at hw9
                      clear hacc0
                      cases q
                      · have HZ := Lib.hid (And.intro hO9 (And.intro hE9 hw9))
                        have hin : inP (fun v => decide (v ∈ [rs])) (cs.take (t + 1)) (j : Int) = false := by rw [HIT.out, HB9.out]; simp
                        have HIN := Lib.hid hin
                        clear hO9 hE9 hw9 hin
                        go_wp2_with fail
                        go_roundw
                        case rel => exact ⟨t + 1, by omega, by go_num, HZ.out.1, fun _ => HZ.out.2.1, by rw [HIN.out]; exact HZ.out.2.2⟩
                        case measure => simp [intOf]; omega
                      · have hin : inP (fun v => decide (v ∈ [rs])) (cs.take (t + 1)) (j : Int) = true := by rw [HIT.out]; rw [HHZ.out.1, HHZ.out.2]; simp
                        have hal2 : Below w9.heap.size w9 (w9.alloc (.cells #[.int .i64 y0, .int .i64 y1, .int .i64 y2, .int .i64 y3] 52)) := (Below.refl _ _).alloc (Nat.le_refl _) _
                        have hown := hw9.then_ hal2
                        have hsz : D ≤ (w9.alloc (.cells #[.int .i64 y0, .int .i64 y1, .int .i64 y2, .int .i64 y3] 52)).heap.size := (hO9.next hal2).sz.2.2
                        have hnew := new_cells w9 52 (evCs ⟨y0, y1, y2, y3⟩)
                        have e0 := Lies.cell hE9 0
                        have e1 := Lies.cell hE9 1
                        have e2 := Lies.cell hE9 2
                        have e3 := Lies.cell hE9 3
                        simp only [List.getElem?_toArray, List.getElem?_cons_zero, List.getElem?_cons_succ] at e0 e1 e2 e3
                        obtain ⟨Av, cv, hvv⟩ := own_sliceE hown
                        have HZ := Lib.hid (And.intro (hO9.next hal2) (And.intro (Lies.below hE9 hal2 hE9.lt) hin))
                        have HXD := HXD0
                        have hlen := HLEN.out
                        rw [hvv] at hown ⊢
                        clear hO9 hE9 hw9 hin hal2
                        go_wp2_with (at_builtin; refine wpList_app_ev rfl (.tmp 108) (.tmp 110) rfl D w9.heap.size _ acc ⟨y0, y1, y2, y3⟩ rfl rfl hown hnew hlen hsz ?_; intro v' w7 ho7 hb7 _)
                        go_roundw
                        case rel => exact ⟨t + 1, by omega, by go_num, HZ.out.1.over hb7, (fun h => by rw [HZ.out.2.2] at h; cases h), by rw [HZ.out.2.2]; exact ho7⟩
                        case measure => simp [intOf]; omega
                    · have hz6 : (x6 == (j : Int)) = false := by rw [beq_eq_false_iff_ne]; exact h6
                      have hin : inP (fun v => decide (v ∈ [rs])) (cs.take (t + 1)) (j : Int) = inP (fun v => decide (v ∈ [rs])) (cs.take t) (j : Int) := by rw [HIT.out, hz, hz6]; simp
                      have HZ := Lib.hid (And.intro HO.out hin)
                      clear h5 h6 HO HIT HIB HCN hin
                      go_wp2_with fail
                      go_roundw
                      case rel => exact ⟨t + 1, by omega, by go_num, HZ.out.1.1, (by rw [HZ.out.2]; exact HZ.out.1.2.1), by rw [HZ.out.2]; exact HZ.out.1.2.2.2⟩
                      case measure => simp [intOf]; omega
                · obtain rfl : n = t := by omega
                  rw [show cs.take n = cs by rw [HNN.out, List.take_length]] at hown
                  have HZ := Lib.hid (And.intro hO (show EOwn wr D u10 (subL (inP (fun v => decide (v ∈ [rs])) cs) 0 (l.take (j + 1))) by rw [HTK.out]; exact hown))
                  clear hO hE hown
                  go_wp2_with fail
                  go_roundw
                  case rel => exact ⟨j + 1, by omega, by go_num, HZ.out.2, HZ.out.1⟩
                  case measure => simp [intOf]; omega
            · obtain rfl : L = j := by omega
              rw [HLL.out, List.take_length] at hown
              have HC := Lib.hid (rcheck_any hown.rd)
              obtain ⟨Av, cv, hvv⟩ := own_sliceE hown
              have HZ := Lib.hid (And.intro hO.below hO.bad)
              rw [hvv] at HC ⊢
              clear hown hO hvv
              generalize hml : subL (inP (fun v => decide (v ∈ [rs])) cs) 0 l = ml at HC HG
              clear hml
              generalize ml.length = mn at HC ⊢
              go_wp2_with fail
              refine HC.out.mono ?_
              intro e w9 hck
              obtain ⟨b2, k2, x2, y2, rfl, hb9, hok, -⟩ := hck.forms
              rw [HG.out.1]
              obtain ⟨h1, h2⟩ := hok HG.out.1
              have h3 := HG.out.2
              rw [h2] at h3
              simp only at h3
              subst h3
              obtain rfl : b2 = false := h1
              have hb10 := HZ.out.1.trans (hb9.mono HZ.out.1.size)
              have hal9 : Below w9.heap.size w9 (w9.alloc (.cells #[.int .i64 3, .int .i64 x2, .int .i64 y2] 28)) := (Below.refl _ _).alloc (Nat.le_refl _) _
              have hbd := Lies.below HZ.out.2 hb9 HZ.out.2.lt
              have HY := Lib.hid (And.intro (hb10.trans (hal9.mono hb10.size)) (And.intro (Lies.below hbd hal9 hbd.lt) (Lies.new w9 28 #[.int .i64 3, .int .i64 x2, .int .i64 y2])))
              clear hok h2 hb9 hb10 hck HC hal9 hbd
              go_upto_region 30 with fail
              change Code.wp _ _ _ _ (w9.alloc (.cells #[.int .i64 3, .int .i64 x2, .int .i64 y2] 28))
              generalize w9.alloc (.cells #[.int .i64 3, .int .i64 x2, .int .i64 y2] 28) = WZ at HY ⊢
              generalize w9.heap.size = YZ at HY ⊢
              have r0 := Lies.cell HY.out.2.1 0
              have q0 := Lies.cell HY.out.2.2 0
              simp only [List.getElem?_toArray, List.getElem?_cons_zero] at r0 q0
              go_wp2_with fail
              go_ret
              exact ⟨rfl, HY.out.1⟩
        · rw [e] at hbq
          injection hbq with e1 e2 e3
          subst e1 e2 e3
          have hsub := sub_in (kv := fun v => decide (v ∈ [a, b])) HROW.out
          have HG := Lib.hid (And.intro hsub.rowsE (hsub.kind6 (by rw [← HCS.out]; exact n1) (by rw [← HCS.out]; exact n2) (by rw [← HCS.out]; exact n3) (by rw [← HCS.out]; exact g1) (by simp) (by simp)))
          rw [← HCS.out] at HG
          have r0 := Lies.cell H7.out.2.2 0
          have r1 := Lies.cell H7.out.2.2 1
          have r2 := Lies.cell H7.out.2.2 2
          simp only [List.getElem?_toArray, List.getElem?_cons_zero, List.getElem?_cons_succ] at r0 r1 r2
          have hal7 : Below w7.heap.size w7 (w7.alloc (.cells #[.int .i64 a, .int .i64 b] 3)) := (Below.refl _ _).alloc (Nat.le_refl _) _
          have h0 : PrR w (w7.heap.size + 1) G Al L capl l (some ⟨w7.heap.size, 0, none⟩) 2 2 [a, b] A n cap cs 6 a b (w7.alloc (.cells #[.int .i64 a, .int .i64 b] 3)) :=
            ⟨H7.out.1.trans (hal7.mono H7.out.1.size), (HEV.out.below hal7).mono (by omega), LRd.of_lit (f := intCs) (s := 1) (w := w7) (l := [a, b]) (fun _ => rfl) 3 (cs := #[.int .i64 a, .int .i64 b]) rfl (n := 2) rfl (by unfold maxLen; omega), (H7.out.2.1.below hal7).mono (by omega), Lies.below H7.out.2.2 hal7 H7.out.2.2.lt, by have := H7.out.1.size; omega, by have := H7.out.2.2.lt; omega, by simp⟩
          have H0 := Lib.hid h0
          clear h0 hal7 hsub hq hno e g1 HBD
          go_upto_region 18 with fail
          have h0 := H0.out
          clear H0 r0 r1 r2
          change Code.wp _ _ _ _ (w7.alloc (.cells #[.int .i64 a, .int .i64 b] 3))
          generalize w7.alloc (.cells #[.int .i64 a, .int .i64 b] 3) = WS at h0 ⊢
          generalize hDD : w7.heap.size + 1 = D at h0
          clear hDD
          generalize w7.heap.size = S at h0 ⊢
          go_wp2_with fail
          go_loopw [10, 78] (fun v vi wr => ∃ j : Nat, j ≤ L ∧ vi = .int .i64 j ∧ EOwn wr D v (subL (inP (fun v => decide (v ∈ [a, b])) cs) 0 (l.take j)) ∧ PrR w D G Al L capl l (some ⟨S, 0, none⟩) 2 2 [a, b] A n cap cs 6 a b wr) (fun _ i _ => L - (intOf i).toNat)
          case atStart => exact ⟨0, by omega, rfl, ⟨rfl, .inl ⟨rfl, rfl⟩⟩, h0⟩
          case round =>
            clear h0
            obtain ⟨j, hj, rfl, hown, hO⟩ := hrel
            by_cases hjn : j < L
            · obtain ⟨ev, hev⟩ : ∃ ev, l[j]? = some ev := ⟨_, List.getElem?_eq_getElem (by rw [← HLL.out]; exact hjn)⟩
              have htk := subL_take (k := inP (fun v => decide (v ∈ [a, b])) cs) hev
              obtain ⟨ge, oe, hA, -, d0, d1, d2, d3⟩ := hO.evs.ev hev
              subst hA
              obtain ⟨y0, y1, y2, y3⟩ := ev
              simp only at d0 d1 d2 d3
              have j1 : (0 : Int) ≤ (j : Int) := by omega
              have j2 : (j : Int) < (L : Int) := by omega
              have hal : Below wr.heap.size wr (wr.alloc (.cells #[.int .i64 y0, .int .i64 y1, .int .i64 y2, .int .i64 y3] 52)) := (Below.refl _ _).alloc (Nat.le_refl _) _
              obtain ⟨acc, hacc⟩ : ∃ acc, acc = subL (inP (fun v => decide (v ∈ [a, b])) cs) 0 (l.take j) := ⟨_, rfl⟩
              have HLEN := Lib.hid (show acc.length ≤ 65536 by
                have h1 := subL_len (inP (fun v => decide (v ∈ [a, b])) cs) (l.take j) 0
                rw [← hacc, List.length_take] at h1
                have := HL2.out
                omega)
              rw [← hacc] at hown htk
              have h1 : PrR w D G (some ⟨ge, oe, none⟩) L capl l (some ⟨S, 0, none⟩) 2 2 [a, b] A n cap cs 6 a b (wr.alloc (.cells #[.int .i64 y0, .int .i64 y1, .int .i64 y2, .int .i64 y3] 52)) ∧ Lies (wr.alloc (.cells #[.int .i64 y0, .int .i64 y1, .int .i64 y2, .int .i64 y3] 52)) wr.heap.size 52 #[.int .i64 y0, .int .i64 y1, .int .i64 y2, .int .i64 y3] ∧ EOwn (wr.alloc (.cells #[.int .i64 y0, .int .i64 y1, .int .i64 y2, .int .i64 y3] 52)) D u10 acc := ⟨hO.next hal, Lies.new _ _ _, hown.then_ hal⟩
              have HXD0 := Lib.hid hO.sz.2.2
              have HTK := Lib.hid htk
              clear hO hev hal htk hown hacc
              go_upto_region 22 with fail
              clear d0 d1 d2 d3
              change Code.wp _ _ _ _ (wr.alloc (.cells #[.int .i64 y0, .int .i64 y1, .int .i64 y2, .int .i64 y3] 52))
              generalize wr.alloc (.cells #[.int .i64 y0, .int .i64 y1, .int .i64 y2, .int .i64 y3] 52) = WA at h1 ⊢
              generalize wr.heap.size = X at h1 HXD0 ⊢
              go_wp2_with fail
              go_loopw [10, 85] (fun v vi wr => ∃ t : Nat, t ≤ n ∧ vi = .int .i64 t ∧ PrR w D G (some ⟨ge, oe, none⟩) L capl l (some ⟨S, 0, none⟩) 2 2 [a, b] A n cap cs 6 a b wr ∧ (inP (fun v => decide (v ∈ [a, b])) (cs.take t) (j : Int) = false → Lies wr X 52 #[.int .i64 y0, .int .i64 y1, .int .i64 y2, .int .i64 y3]) ∧ EOwn wr D v (if inP (fun v => decide (v ∈ [a, b])) (cs.take t) (j : Int) = true then acc ++ [⟨y0, y1, y2, y3⟩] else acc)) (fun _ i _ => n - (intOf i).toNat)
              case atStart => exact ⟨0, by omega, rfl, h1.1, fun _ => h1.2.1, h1.2.2⟩
              case round =>
                clear h1
                obtain ⟨t, ht, rfl, hO, hE, hown⟩ := hrel
                by_cases htn : t < n
                · obtain ⟨c, hc⟩ : ∃ c, cs[t]? = some c := ⟨_, List.getElem?_eq_getElem (by rw [← HNN.out]; exact htn)⟩
                  have hit := inP_take (kv := (fun v => decide (v ∈ [a, b]))) hc (j : Int)
                  have hib : c.frm = (j : Int) ∨ c.til = (j : Int) → inP (fun v => decide (v ∈ [a, b])) (cs.take t) (j : Int) = false := fun hh => by
                    have hc' := hc
                    rw [HCS.out] at hc' ⊢
                    exact inP_before HROW.out hc' (by omega) hh
                  obtain ⟨g, o, hA, -, d0, d1, d2, d3, d4, d5, d6⟩ := hO.cls.cl hc
                  subst hA
                  have hvq : valQ c = max c.arg c.res := rfl
                  rw [hvq] at hit
                  obtain ⟨x0, x1, x2, x3, x4, x5, x6⟩ := c
                  simp only at d0 d1 d2 d3 d4 d5 d6 hit hib
                  have t1 : (0 : Int) ≤ (t : Int) := by omega
                  have t2 : (t : Int) < (n : Int) := by omega
                  have hal : Below wr.heap.size wr (wr.alloc (.cells #[.int .i64 x0, .int .i64 x1, .int .i64 x2, .int .i64 x3, .int .i64 x4, .int .i64 x5, .int .i64 x6] 49)) := (Below.refl _ _).alloc (Nat.le_refl _) _
                  have HO := Lib.hid (And.intro (hO.next hal) (And.intro (fun h : inP (fun v => decide (v ∈ [a, b])) (cs.take t) (j : Int) = false => Lies.below (hE h) hal (hE h).lt) (And.intro (Lies.new wr 49 #[.int .i64 x0, .int .i64 x1, .int .i64 x2, .int .i64 x3, .int .i64 x4, .int .i64 x5, .int .i64 x6]) (hown.then_ hal))))
                  have HIT := Lib.hid hit
                  have HIB := Lib.hid hib
                  clear hO hE hown hc hal hit hib hvq
                  go_upto_region 25 with fail
                  clear d0 d1 d2 d3 d4 d5 d6
                  change Code.wp _ _ _ _ (wr.alloc (.cells #[.int .i64 x0, .int .i64 x1, .int .i64 x2, .int .i64 x3, .int .i64 x4, .int .i64 x5, .int .i64 x6] 49))
                  generalize wr.alloc (.cells #[.int .i64 x0, .int .i64 x1, .int .i64 x2, .int .i64 x3, .int .i64 x4, .int .i64 x5, .int .i64 x6] 49) = WB at HO ⊢
                  generalize wr.heap.size = Y at HO ⊢
                  have HCN := Lib.hid (fun z => containsN_any (x := z) HO.out.1.nums HO.out.1.sz.2.2)
                  have c3 := Lies.cell HO.out.2.2.1 3
                  have c4 := Lies.cell HO.out.2.2.1 4
                  have c5 := Lies.cell HO.out.2.2.1 5
                  have c6 := Lies.cell HO.out.2.2.1 6
                  simp only [List.getElem?_toArray, List.getElem?_cons_zero, List.getElem?_cons_succ] at c3 c4 c5 c6
                  by_cases h5 : x5 = (j : Int)
                  · have hz : (x5 == (j : Int)) = true := by rw [beq_iff_eq]; exact h5
                    have HH := Lib.hid h5
                    have HHZ := Lib.hid hz
                    clear h5
                    go_wp2_with fail
                    refine (HCN.out _).mono ?_
                    rintro e w9 ⟨rfl, hb9⟩
                    have hO9 := HO.out.1.next hb9
                    have HB9 := Lib.hid (HIB.out (.inl HH.out))
                    have hE9 := Lies.below (HO.out.2.1 HB9.out) hb9 (HO.out.2.1 HB9.out).lt
                    have hw9 := HO.out.2.2.2.then_ hb9
                    clear HCN hb9 HO c3 c4 c5 c6
                    obtain ⟨q, hq⟩ : ∃ q, q = decide (max x3 x4 ∈ [a, b]) := ⟨_, rfl⟩
                    rw [← hq] at HIT ⊢
                    clear hq
                    have hacc0 : (if inP (fun v => decide (v ∈ [a, b])) (cs.take t) (j : Int) = true then acc ++ [⟨y0, y1, y2, y3⟩] else acc) = acc := by rw [HB9.out]; rfl
                    rw [hacc0] at hw9
                    clear hacc0
                    cases q
                    · have HZ := Lib.hid (And.intro hO9 (And.intro hE9 hw9))
                      have hin : inP (fun v => decide (v ∈ [a, b])) (cs.take (t + 1)) (j : Int) = false := by rw [HIT.out, HB9.out]; simp
                      have HIN := Lib.hid hin
                      clear hO9 hE9 hw9 hin
                      go_wp2_with fail
                      go_roundw
                      case rel => exact ⟨t + 1, by omega, by go_num, HZ.out.1, fun _ => HZ.out.2.1, by rw [HIN.out]; exact HZ.out.2.2⟩
                      case measure => simp [intOf]; omega
                    · have hin : inP (fun v => decide (v ∈ [a, b])) (cs.take (t + 1)) (j : Int) = true := by rw [HIT.out]; rw [HHZ.out]; simp
                      have hal2 : Below w9.heap.size w9 (w9.alloc (.cells #[.int .i64 y0, .int .i64 y1, .int .i64 y2, .int .i64 y3] 52)) := (Below.refl _ _).alloc (Nat.le_refl _) _
                      have hown := hw9.then_ hal2
                      have hsz : D ≤ (w9.alloc (.cells #[.int .i64 y0, .int .i64 y1, .int .i64 y2, .int .i64 y3] 52)).heap.size := (hO9.next hal2).sz.2.2
                      have hnew := new_cells w9 52 (evCs ⟨y0, y1, y2, y3⟩)
                      have e0 := Lies.cell hE9 0
                      have e1 := Lies.cell hE9 1
                      have e2 := Lies.cell hE9 2
                      have e3 := Lies.cell hE9 3
                      simp only [List.getElem?_toArray, List.getElem?_cons_zero, List.getElem?_cons_succ] at e0 e1 e2 e3
                      obtain ⟨Av, cv, hvv⟩ := own_sliceE hown
                      have HZ := Lib.hid (And.intro (hO9.next hal2) (And.intro (Lies.below hE9 hal2 hE9.lt) hin))
                      have HXD := HXD0
                      have hlen := HLEN.out
                      rw [hvv] at hown ⊢
                      clear hO9 hE9 hw9 hin hal2
                      go_wp2_with (at_builtin; refine wpList_app_ev rfl (.tmp 108) (.tmp 110) rfl D w9.heap.size _ acc ⟨y0, y1, y2, y3⟩ rfl rfl hown hnew hlen hsz ?_; intro v' w7 ho7 hb7 _)
                      go_roundw
                      case rel => exact ⟨t + 1, by omega, by go_num, HZ.out.1.over hb7, (fun h => by rw [HZ.out.2.2] at h; cases h), by rw [HZ.out.2.2]; exact ho7⟩
                      case measure => simp [intOf]; omega
                  · have hz : (x5 == (j : Int)) = false := by rw [beq_eq_false_iff_ne]; exact h5
                    by_cases h6 : x6 = (j : Int)
                    · have hz6 : (x6 == (j : Int)) = true := by rw [beq_iff_eq]; exact h6
                      have HH := Lib.hid h6
                      have HHZ := Lib.hid (And.intro hz hz6)
                      clear h5 h6
                      go_wp2_with fail
                      refine (HCN.out _).mono ?_
                      rintro e w9 ⟨rfl, hb9⟩
                      have hO9 := HO.out.1.next hb9
                      have HB9 := Lib.hid (HIB.out (.inr HH.out))
                      have hE9 := Lies.below (HO.out.2.1 HB9.out) hb9 (HO.out.2.1 HB9.out).lt
                      have hw9 := HO.out.2.2.2.then_ hb9
                      clear HCN hb9 HO c3 c4 c5 c6
                      obtain ⟨q, hq⟩ : ∃ q, q = decide (max x3 x4 ∈ [a, b]) := ⟨_, rfl⟩
                      rw [← hq] at HIT ⊢
                      clear hq
                      have hacc0 : (if inP (fun v => decide (v ∈ [a, b])) (cs.take t) (j : Int) = true then acc ++ [⟨y0, y1, y2, y3⟩] else acc) = acc := by rw [HB9.out]; rfl
                      rw [hacc0] at hw9
                      clear hacc0
                      cases q
                      · have HZ := Lib.hid (And.intro hO9 (And.intro hE9 hw9))
                        have hin : inP (fun v => decide (v ∈ [a, b])) (cs.take (t + 1)) (j : Int) = false := by rw [HIT.out, HB9.out]; simp
                        have HIN := Lib.hid hin
                        clear hO9 hE9 hw9 hin
                        go_wp2_with fail
                        go_roundw
                        case rel => exact ⟨t + 1, by omega, by go_num, HZ.out.1, fun _ => HZ.out.2.1, by rw [HIN.out]; exact HZ.out.2.2⟩
                        case measure => simp [intOf]; omega
                      · have hin : inP (fun v => decide (v ∈ [a, b])) (cs.take (t + 1)) (j : Int) = true := by rw [HIT.out]; rw [HHZ.out.1, HHZ.out.2]; simp
                        have hal2 : Below w9.heap.size w9 (w9.alloc (.cells #[.int .i64 y0, .int .i64 y1, .int .i64 y2, .int .i64 y3] 52)) := (Below.refl _ _).alloc (Nat.le_refl _) _
                        have hown := hw9.then_ hal2
                        have hsz : D ≤ (w9.alloc (.cells #[.int .i64 y0, .int .i64 y1, .int .i64 y2, .int .i64 y3] 52)).heap.size := (hO9.next hal2).sz.2.2
                        have hnew := new_cells w9 52 (evCs ⟨y0, y1, y2, y3⟩)
                        have e0 := Lies.cell hE9 0
                        have e1 := Lies.cell hE9 1
                        have e2 := Lies.cell hE9 2
                        have e3 := Lies.cell hE9 3
                        simp only [List.getElem?_toArray, List.getElem?_cons_zero, List.getElem?_cons_succ] at e0 e1 e2 e3
                        obtain ⟨Av, cv, hvv⟩ := own_sliceE hown
                        have HZ := Lib.hid (And.intro (hO9.next hal2) (And.intro (Lies.below hE9 hal2 hE9.lt) hin))
                        have HXD := HXD0
                        have hlen := HLEN.out
                        rw [hvv] at hown ⊢
                        clear hO9 hE9 hw9 hin hal2
                        go_wp2_with (at_builtin; refine wpList_app_ev rfl (.tmp 108) (.tmp 110) rfl D w9.heap.size _ acc ⟨y0, y1, y2, y3⟩ rfl rfl hown hnew hlen hsz ?_; intro v' w7 ho7 hb7 _)
                        go_roundw
                        case rel => exact ⟨t + 1, by omega, by go_num, HZ.out.1.over hb7, (fun h => by rw [HZ.out.2.2] at h; cases h), by rw [HZ.out.2.2]; exact ho7⟩
                        case measure => simp [intOf]; omega
                    · have hz6 : (x6 == (j : Int)) = false := by rw [beq_eq_false_iff_ne]; exact h6
                      have hin : inP (fun v => decide (v ∈ [a, b])) (cs.take (t + 1)) (j : Int) = inP (fun v => decide (v ∈ [a, b])) (cs.take t) (j : Int) := by rw [HIT.out, hz, hz6]; simp
                      have HZ := Lib.hid (And.intro HO.out hin)
                      clear h5 h6 HO HIT HIB HCN hin
                      go_wp2_with fail
                      go_roundw
                      case rel => exact ⟨t + 1, by omega, by go_num, HZ.out.1.1, (by rw [HZ.out.2]; exact HZ.out.1.2.1), by rw [HZ.out.2]; exact HZ.out.1.2.2.2⟩
                      case measure => simp [intOf]; omega
                · obtain rfl : n = t := by omega
                  rw [show cs.take n = cs by rw [HNN.out, List.take_length]] at hown
                  have HZ := Lib.hid (And.intro hO (show EOwn wr D u10 (subL (inP (fun v => decide (v ∈ [a, b])) cs) 0 (l.take (j + 1))) by rw [HTK.out]; exact hown))
                  clear hO hE hown
                  go_wp2_with fail
                  go_roundw
                  case rel => exact ⟨j + 1, by omega, by go_num, HZ.out.2, HZ.out.1⟩
                  case measure => simp [intOf]; omega
            · obtain rfl : L = j := by omega
              rw [HLL.out, List.take_length] at hown
              have HC := Lib.hid (rcheck_any hown.rd)
              obtain ⟨Av, cv, hvv⟩ := own_sliceE hown
              have HZ := Lib.hid (And.intro hO.below hO.bad)
              rw [hvv] at HC ⊢
              clear hown hO hvv
              generalize hml : subL (inP (fun v => decide (v ∈ [a, b])) cs) 0 l = ml at HC HG
              clear hml
              generalize ml.length = mn at HC ⊢
              go_wp2_with fail
              refine HC.out.mono ?_
              intro e w9 hck
              obtain ⟨b2, k2, x2, y2, rfl, hb9, hok, -⟩ := hck.forms
              rw [HG.out.1]
              obtain ⟨h1, h2⟩ := hok HG.out.1
              have h3 := HG.out.2
              rw [h2] at h3
              simp only at h3
              subst h3
              obtain rfl : b2 = false := h1
              have hb10 := HZ.out.1.trans (hb9.mono HZ.out.1.size)
              have hal9 : Below w9.heap.size w9 (w9.alloc (.cells #[.int .i64 6, .int .i64 x2, .int .i64 y2] 28)) := (Below.refl _ _).alloc (Nat.le_refl _) _
              have hbd := Lies.below HZ.out.2 hb9 HZ.out.2.lt
              have HY := Lib.hid (And.intro (hb10.trans (hal9.mono hb10.size)) (And.intro (Lies.below hbd hal9 hbd.lt) (Lies.new w9 28 #[.int .i64 6, .int .i64 x2, .int .i64 y2])))
              clear hok h2 hb9 hb10 hck HC hal9 hbd
              go_upto_region 30 with fail
              change Code.wp _ _ _ _ (w9.alloc (.cells #[.int .i64 6, .int .i64 x2, .int .i64 y2] 28))
              generalize w9.alloc (.cells #[.int .i64 6, .int .i64 x2, .int .i64 y2] 28) = WZ at HY ⊢
              generalize w9.heap.size = YZ at HY ⊢
              have r0 := Lies.cell HY.out.2.1 0
              have q0 := Lies.cell HY.out.2.2 0
              simp only [List.getElem?_toArray, List.getElem?_cons_zero] at r0 q0
              go_wp2_with fail
              go_ret
              exact ⟨rfl, HY.out.1⟩
        · exact absurd ⟨g2, g3⟩ (hno c (List.mem_of_getElem? g1))
      · go_wp2_with fail
        go_ret
        exact ⟨rfl, H7.out.1⟩
    · go_wp2_with fail
      refine (rlives_any w7).mono ?_
      rintro e w8 ⟨rfl, hb8⟩
      have H8 := Lib.hid (H7.out.1.trans (hb8.mono H7.out.1.size))
      clear hb8
      go_wp2_with fail
      go_ret
      exact ⟨rfl, H8.out⟩
  · have hz : (E != 0) = true := by rw [bne_iff_ne]; exact hE0
    rw [show decide (∀ x ∈ [E, E0], x = 0) = false from decide_eq_false fun h => hE0 (h E List.mem_cons_self)] at HOK
    clear hE0
    go_wp2_with fail
    refine HOK.out.mono ?_
    rintro e w6 ⟨rfl, rfl⟩
    generalize w5.alloc (.cells #[.int .i64 E, .int .i64 E0] 24) = W6 at H6 ⊢
    clear HOK
    go_wp2_with fail
    refine (rlives_any W6).mono ?_
    rintro e w7 ⟨rfl, hb7⟩
    have H7 := Lib.hid (H6.out.1.trans (hb7.mono H6.out.1.size))
    clear hb7
    go_wp2_with fail
    go_ret
    exact ⟨rfl, H7.out⟩
end Go.Proofs.Ythjmncngegchjaa

/-
  PROVED HERE: whatever is handed in, the law RowsPairs answers true and leaves its arguments as they were. No condition.
-/


namespace Go.Proofs.Ythjmncngegchjaa
open Go.RowKit Go.ChangeShapes Go.WideShapes Go.ChangeAt
set_option maxRecDepth 20000

theorem rowsPairs_own : ownKnob Try.prog.godebug = none := by kernel_rfl

set_option maxRecDepth 100000 in
theorem rowsPairs_lifted (os : Os) (started : os.Started) (H : Type) (enc : TypeId × Value → H) :
    ReturnsInHanded {} Try.checked os 6 .any (Rows.rowsPairsSpec.pre6 enc Try.prog Try.f6 Rows.rowsPairsRow.domain false) (Rows.rowsPairsSpec.post enc Try.prog Try.f6 false true false false) := by
  refine returnsInHanded_of_change (C := Try.checked) rowsPairs_own started (by kernel_rfl) Try.func6
    (ChangeSpec.witness6 (enc := enc) (C := Try.checked) false ⟨#[], #[.slice none 0 0], []⟩ 8 (by kernel_rfl) (by kernel_rfl) (by kernel_rfl) (by kernel_rfl)) ?_
  intro W base args ds gs before hval0 hW hcnd _
  have hval : ∀ (j : Nat) t v, Try.f6.params[j]? = some t → args[j]? = some v → Value.okWide Try.prog W .any base t v := hval0
  have hW' := hW
  have hlt := hW.lt
  obtain ⟨p, q, hA0, hV, rfl, hfz, hnd⟩ := hW
  have hA : DataW.TrodAll enc Try.prog W 0 (fun _ => true) true Try.f6.params.toList args.toList ds p := hA0
  rw [Try.params6] at hA hval
  obtain ⟨v0, d0, rfl, rfl, h0⟩ := trodAll_one hA
  obtain ⟨rfl, rfl⟩ := trodVars_none hV
  obtain ⟨l0, hL0⟩ := open_evs (hval 0 22 v0 rfl rfl) h0
  clear hA0 hval0
  simp only [List.append_nil] at hW' hlt
  refine (rpairs_any hL0).mono fun e W' ⟨he, hb⟩ => ?_
  subst he
  refine ⟨_, rfl, end_of_below (pa := p) (pv := []) hW' hb (by simp) (fun _ _ _ => ?_) (fun sp hsp => ?_) (fun _ _ => rfl) (ok_one (by kernel_rfl) rfl (okWide_bool_mk Try.underlying4 _))⟩
  · exact trodAll_mk1 (shut_bool Try.underlying4 _)
  · skip
    have hk0 := WideElems.Trod_stays laidOutIt (by kernel_rfl) (of_decide_eq_true (by kernel_rfl)) h0 (fun x hx => hb.same (hlt x hx)) (fun x hx => hsp x hx)
    have := trodAll_mk1 hk0
    exact this

theorem rowsPairs_over : Rows.rowsPairsRow.holds Try.pinned (OpenSpec.ofChange Rows.rowsPairsSpec) :=
  OpenClaim.holds_of_wide 6 Try.f6 rfl rfl rfl rfl rfl rfl rfl ⟨rfl, rfl, rfl, rfl, rfl⟩ rfl rfl rfl rfl rfl (by kernel_rfl) Try.func6 (by kernel_rfl)
    (of_decide_eq_true (by kernel_rfl)) (by unfold Func.isWrapper; first | (rw [if_pos (by decide +kernel)]; kernel_rfl) | (rw [if_neg (by decide +kernel)]; exact ⟨rfl, rfl⟩))
    (fun os started H enc _ => rowsPairs_lifted os started H enc)

/-- ████ THE STATEMENT ████ -/
theorem rowsPairs_holds : Rows.RowsPairsSaid :=
  rowsPairs_over
#print axioms rowsPairs_holds
end Go.Proofs.Ythjmncngegchjaa
