/-
  alibkeep.ZonesShown answers true, whatever is handed in.
-/
import Derived.Test.YtphhbojdolhieaaZLives
import Derived.Test.YtphhbojdolhieaaZForms
import Derived.Test.YtphhbojdolhieaaZShOut
import Derived.Test.YtphhbojdolhieaaZOpenP
import Derived.Laws.EntriesVeiled
namespace Go.Proofs.Ytphhbojdolhieaa
open Go.RowKit Go.Maps
set_option maxRecDepth 20000

theorem befU_true {cs : List Cl} {a b : Int} (h : BefV cs a b) : cs.any (befU cs a b) = true := by
  obtain ⟨y, hy, h1, h2⟩ := h
  rw [List.any_eq_true]
  refine ⟨y, hy, ?_⟩
  unfold befU
  rw [h1, Bool.true_and, Bool.or_eq_true, beq_iff_eq, List.any_eq_true]
  refine h2.imp id fun ⟨x, hx, h3, h4, h5⟩ => ⟨x, hx, ?_⟩
  unfold befT
  rw [h3, bne_iff_ne.2 h4, decide_eq_true h5]
  rfl
/-- What ZonesShown keeps. -/
structure ZhR (w : World) (G S : Nat) (bc : Array Value) (Ac : Option Addr) (cc n : Nat) (cs : List Cl) (wr : World) : Prop where
  below : Below w.heap.size w wr
  bad : Lies wr G 28 bc
  sl : Lies wr S 31 #[.slice Ac n cc]
  cls : CRd wr wr.heap.size (.slice Ac n cc) cs
theorem ZhR.next {w : World} {G S : Nat} {bc : Array Value} {Ac : Option Addr} {cc n : Nat} {cs : List Cl} {wr w' : World} (h : ZhR w G S bc Ac cc n cs wr) (hb : Below wr.heap.size wr w') : ZhR w G S bc Ac cc n cs w' :=
  ⟨h.below.trans (hb.mono h.below.size), Lies.below h.bad hb h.bad.lt, Lies.below h.sl hb h.sl.lt, (h.cls.below hb).mono hb.size⟩
set_option maxHeartbeats 16000000 in
theorem zshown_any {lv : Value} {l : List Ev} {w : World} (hl : ERd w w.heap.size lv l) :
    Calls Try.prog 4 #[lv] w fun e w' => e = .returned (.bool true) ∧ Below w.heap.size w w' := by
  have HC := Lib.hid (zcheck_any hl)
  have HL := Lib.hid hl
  have HNL := Lib.hid (fun W : World => LRd.of_lit (f := intCs) (s := 1) (w := W) (l := [1]) (fun _ => rfl) 3 (cs := #[.int .i64 1]) rfl (n := 1) rfl (by unfold maxLen; omega))
  have hmf : ∀ (fn : Fn) (first cap : Array Value) (w : World), (Instr.makeFunc fn first cap).run Try.prog w = .ok (.func fn first cap) w := fun _ _ _ _ => rfl
  obtain ⟨Al, capl, rfl, m1, m2⟩ := hl.is
  unfold maxLen at m2
  obtain ⟨L, hL⟩ : ∃ L, L = l.length := ⟨_, rfl⟩
  rw [← hL] at HC HL m1 ⊢
  clear hl hL
  go_enter Try.func4, Try.ntmps4
  go_wp2_with fail
  refine HC.out.mono ?_
  intro e w1 hck
  obtain ⟨b, k, x, y, rfl, hb1, hok, hbad⟩ := hck.forms
  have HK := Lib.hid (And.intro hok hbad)
  have hba := hb1.alloc hb1.size (.cells #[.int .i64 k, .int .i64 x, .int .i64 y] 28)
  have H1 := Lib.hid (And.intro hba (Lies.new w1 28 #[.int .i64 k, .int .i64 x, .int .i64 y]))
  obtain ⟨E, hE⟩ : ∃ E, E = zonesE l := ⟨_, rfl⟩
  rw [← hE]
  have HE := Lib.hid hE
  clear HC hok hbad hb1 hck hE hba
  go_upto_region 2 with fail
  change Code.wp _ _ _ _ (w1.alloc (.cells #[.int .i64 k, .int .i64 x, .int .i64 y] 28))
  generalize w1.alloc (.cells #[.int .i64 k, .int .i64 x, .int .i64 y] 28) = W2 at H1 ⊢
  generalize w1.heap.size = G at H1 ⊢
  have hb4 : Below w.heap.size w (W2.alloc (.cells #[.int .i64 1] 3)) := H1.out.1.alloc H1.out.1.size _
  have hn4 := (HNL.out W2).mono (B' := (W2.alloc (.cells #[.int .i64 1] 3)).heap.size) (by simp)
  have HCA := Lib.hid (calls_any hn4 ((HL.out.below hb4).mono hb4.size))
  have H4 := Lib.hid (And.intro hb4 (Lies.alloc H1.out.2 (.cells #[.int .i64 1] 3)))
  clear hb4 hn4 H1
  go_wp2_with fail
  refine HCA.out.mono ?_
  rintro e w5 ⟨vc, rfl, hb5, hcr⟩
  generalize (callsOf [1] l).2.1 = at1
  have hEF : E = 0 → (callsOf [1] l).2.2 = 0 := fun h => (zonesE_calls (HE.out.symm.trans h)).1
  have hRG : E = 0 → RegH l.length (callsOf [1] l).1 := fun h => zonesE_reg (HE.out.symm.trans h)
  have hbz := HK.out.1
  rw [← HE.out] at hbz
  obtain ⟨F, hF⟩ : ∃ F, F = (callsOf [1] l).2.2 := ⟨_, rfl⟩
  rw [← hF] at hEF ⊢
  obtain ⟨cs, hcs⟩ : ∃ cs, cs = (callsOf [1] l).1 := ⟨_, rfl⟩
  rw [← hcs] at hcr hbz hRG
  obtain ⟨Ac, cc, rfl, c1, c2⟩ := hcr.is
  unfold maxLen at c2
  obtain ⟨n, hn⟩ : ∃ n, n = cs.length := ⟨_, rfl⟩
  rw [← hn] at hcr c1 ⊢
  have h5 := H4.out.1.trans (hb5.mono H4.out.1.size)
  have hal : Below w5.heap.size w5 (w5.alloc (.cells #[.slice Ac n cc] 31)) := (Below.refl _ _).alloc (Nat.le_refl _) _
  have HZ := Lib.hid (show ZhR w G w5.heap.size #[.int .i64 k, .int .i64 x, .int .i64 y] Ac cc n cs (w5.alloc (.cells #[.slice Ac n cc] 31)) from
    ⟨h5.trans (hal.mono h5.size), Lies.alloc (Lies.below H4.out.2 hb5 H4.out.2.lt) _, Lies.new _ _ _, (hcr.below hal).mono hal.size⟩)
  have HCS := Lib.hid (And.intro hn (And.intro hEF (And.intro hRG hbz)))
  clear h5 hal hcr H4 hb5 hEF hRG hbz hn hF HCA HNL hcs HL HK HE
  go_upto_region 3 with fail
  change Code.wp _ _ _ _ (w5.alloc (.cells #[.slice Ac n cc] 31))
  generalize w5.alloc (.cells #[.slice Ac n cc] 31) = W6 at HZ ⊢
  generalize w5.heap.size = S at HZ ⊢
  have HLV := Lib.hid (zlives_any W6)
  go_wp2_with fail
  refine HLV.out.mono ?_
  rintro e w6 ⟨rfl, hb6⟩
  have HZ6 := Lib.hid (HZ.out.next hb6)
  clear hb6 HLV HZ
  by_cases hE : E = 0
  · obtain rfl : F = 0 := HCS.out.2.1 hE
    have HR := Lib.hid (And.intro (HCS.out.2.2.1 hE) (HCS.out.2.2.2 hE))
    subst hE
    have HOK := Lib.hid (ok_zero (IRd.fresh w6 24 [0, 0] 2 rfl #[.int .i64 0, .int .i64 0] rfl) (by decide) (by decide))
    have HZ7 := Lib.hid (HZ6.out.next ((Below.refl _ _).alloc (Nat.le_refl _) (.cells #[.int .i64 0, .int .i64 0] 24)))
    clear HZ6
    go_wp2_with fail
    refine HOK.out.mono ?_
    rintro e w7 ⟨rfl, rfl⟩
    clear HOK
    generalize w6.alloc (.cells #[.int .i64 0, .int .i64 0] 24) = W7 at HZ7 ⊢
    cases b
    · go_upto_region 7 with fail
      have hal : Below W7.heap.size W7 (W7.alloc (.cells #[.func (.func 16) #[] #[]] 48)) := (Below.refl _ _).alloc (Nat.le_refl _) _
      have HZ8 := Lib.hid (And.intro (HZ7.out.next hal) (Lies.new W7 48 #[.func (.func 16) #[] #[]]))
      clear hal HZ7
      change Code.wp _ _ _ _ (W7.alloc (.cells #[.func (.func 16) #[] #[]] 48))
      generalize W7.alloc (.cells #[.func (.func 16) #[] #[]] 48) = W8 at HZ8 ⊢
      generalize W7.heap.size = H at HZ8 ⊢
      have f0 := Lies.cell HZ8.out.1.bad 0
      have f1 := Lies.cell HZ8.out.1.bad 1
      have f2 := Lies.cell HZ8.out.1.bad 2
      have g0 := Lies.cell HZ8.out.1.sl 0
      have h0 := Lies.cell HZ8.out.2 0
      simp only [List.getElem?_toArray, List.getElem?_cons_zero, List.getElem?_cons_succ] at f0 f1 f2 g0 h0
      obtain ⟨hbk, hbe⟩ := HR.out.2
      rcases HR.out.1.bad with ⟨q1, _⟩ | ⟨_, i, c, hi, hc1, hc2, hc3, e⟩ | ⟨_, _, i, c, j, d, hi, hj, hc1, hd1, htf, e⟩ | ⟨_, _, a, ha, a2, ha2, hne, _, _, hlap, e⟩ | ⟨_, _, _, a, ha, a2, ha2, hne, _, _, hlap, e⟩
      · exfalso
        rw [hbe] at q1
        simp only at q1
        rw [q1] at hbk
        exact absurd hbk (by decide)
      · rw [hbe] at e
        injection e with e1 e2 e3
        subst e1 e2 e3
        obtain ⟨ga, oa, rfl, -, -, -, d2, -, d4, -, d6⟩ := HZ8.out.1.cls.cl hi
        have hck := (isR_iff.1 hc1).1
        rw [hck] at d2
        have i1 : (0 : Int) ≤ (i : Int) := by omega
        have i2 : (i : Int) < (n : Int) := by rw [HCS.out.1]; have := (List.getElem?_eq_some_iff.1 hi).1; omega
        have hany : cs.any (isW c.res) = false := by
          rw [List.any_eq_false]
          exact fun z hz => Bool.eq_false_iff.1 (hc3 z hz)
        have HT := Lib.hid (zcontc_any (P0 := S) (P1 := G) (q := isW c.res) HZ8.out.1.cls (fun z hz W' hb' => by
          have k1 := (hb'.cell (p := ⟨S, 0, none⟩) HZ8.out.1.sl.lt).trans (Lies.cell HZ8.out.1.sl 0)
          have k2 := (hb'.cell (p := ⟨G, 1, none⟩) HZ8.out.1.bad.lt).trans (Lies.cell HZ8.out.1.bad 1)
          exact zwr_any z k1 k2 ⟨Nat.lt_of_lt_of_le HZ8.out.1.sl.lt hb'.size, Nat.lt_of_lt_of_le HZ8.out.1.bad.lt hb'.size⟩ ((HZ8.out.1.cls.below hb').mono hb'.size) hi HCS.out.1))
        rw [hany] at HT
        clear hbk hbe hi hc1 hc2 hc3 hck hany
        go_wp2_with fail
        refine HT.out.mono ?_
        rintro e w9 ⟨rfl, hb9⟩
        have H9 := Lib.hid (HZ8.out.1.next hb9).below
        clear hb9
        go_wp2_with fail
        go_ret
        exact ⟨rfl, H9.out⟩
      · rw [hbe] at e
        injection e with e1 e2 e3
        subst e1 e2 e3
        obtain ⟨ga, oa, rfl, -, -, -, -, -, d4, -, d6⟩ := HZ8.out.1.cls.cl hi
        obtain ⟨gb, ob, hA, -, -, -, -, t3, -, t5, -⟩ := HZ8.out.1.cls.cl hj
        injection hA with hA
        injection hA with hA1 hA2
        subst hA1 hA2
        have i1 : (0 : Int) ≤ (i : Int) := by omega
        have i2 : (i : Int) < (n : Int) := by rw [HCS.out.1]; have := (List.getElem?_eq_some_iff.1 hi).1; omega
        have i3 : (0 : Int) ≤ (j : Int) := by omega
        have i4 : (j : Int) < (n : Int) := by rw [HCS.out.1]; have := (List.getElem?_eq_some_iff.1 hj).1; omega
        rw [(isW_iff.1 hd1).2] at t3
        generalize c.res = cr at d4 t3
        generalize c.til = ct at d6 htf
        generalize d.frm = df at t5 htf
        clear hbk hbe hi hj hc1 hd1
        go_upto_region 11 with fail
        go_quiet (fail)
        go_wp2_with fail
        go_ret
        exact ⟨rfl, belowN HZ8.out.1.below _⟩
      · rw [hbe] at e
        obtain ⟨p1, p2, _⟩ := HR.out.1.laps a ha a2 ha2 hne hlap
        injection e with e1 e2 e3
        rw [← e2, ← e3] at p1 p2
        subst e1
        clear e2 e3
        have q1 := befU_true p1
        have q2 := befU_true p2
        have HT1 := Lib.hid (zahead_any x y (H := H) (Pc := S) h0 g0 ⟨HZ8.out.2.lt, HZ8.out.1.sl.lt⟩ HZ8.out.1.cls)
        rw [q1] at HT1
        have HQ := Lib.hid q2
        clear hbk hbe ha ha2 hne hlap p1 p2 q1 q2
        go_wp2_with fail
        refine HT1.out.mono ?_
        rintro e w9 ⟨rfl, hb9⟩
        have HZ9 := Lib.hid (And.intro (HZ8.out.1.next hb9) (Lies.below HZ8.out.2 hb9 HZ8.out.2.lt))
        clear f0 f1 f2 g0 h0 hb9 HT1
        have f1 := Lies.cell HZ9.out.1.bad 1
        have f2 := Lies.cell HZ9.out.1.bad 2
        have g0 := Lies.cell HZ9.out.1.sl 0
        have h0 := Lies.cell HZ9.out.2 0
        simp only [List.getElem?_toArray, List.getElem?_cons_zero, List.getElem?_cons_succ] at f1 f2 g0 h0
        have HT2 := Lib.hid (zahead_any y x (H := H) (Pc := S) h0 g0 ⟨HZ9.out.2.lt, HZ9.out.1.sl.lt⟩ HZ9.out.1.cls)
        rw [HQ.out] at HT2
        go_wp2_with fail
        refine HT2.out.mono ?_
        rintro e w10 ⟨rfl, hb10⟩
        have H10 := Lib.hid (HZ9.out.1.next hb10).below
        clear hb10 HT2
        go_wp2_with fail
        go_ret
        exact ⟨rfl, H10.out⟩
      · rw [hbe] at e
        obtain ⟨p1, p2, _⟩ := HR.out.1.laps a ha a2 ha2 hne hlap
        injection e with e1 e2 e3
        rw [← e2, ← e3] at p1 p2
        subst e1
        clear e2 e3
        have q1 := befU_true p1
        have q2 := befU_true p2
        have HT1 := Lib.hid (zahead_any x y (H := H) (Pc := S) h0 g0 ⟨HZ8.out.2.lt, HZ8.out.1.sl.lt⟩ HZ8.out.1.cls)
        rw [q1] at HT1
        have HQ := Lib.hid q2
        clear hbk hbe ha ha2 hne hlap p1 p2 q1 q2
        go_wp2_with fail
        refine HT1.out.mono ?_
        rintro e w9 ⟨rfl, hb9⟩
        have HZ9 := Lib.hid (And.intro (HZ8.out.1.next hb9) (Lies.below HZ8.out.2 hb9 HZ8.out.2.lt))
        clear f0 f1 f2 g0 h0 hb9 HT1
        have f1 := Lies.cell HZ9.out.1.bad 1
        have f2 := Lies.cell HZ9.out.1.bad 2
        have g0 := Lies.cell HZ9.out.1.sl 0
        have h0 := Lies.cell HZ9.out.2 0
        simp only [List.getElem?_toArray, List.getElem?_cons_zero, List.getElem?_cons_succ] at f1 f2 g0 h0
        have HT2 := Lib.hid (zahead_any y x (H := H) (Pc := S) h0 g0 ⟨HZ9.out.2.lt, HZ9.out.1.sl.lt⟩ HZ9.out.1.cls)
        rw [HQ.out] at HT2
        go_wp2_with fail
        refine HT2.out.mono ?_
        rintro e w10 ⟨rfl, hb10⟩
        have H10 := Lib.hid (HZ9.out.1.next hb10).below
        clear hb10 HT2
        go_wp2_with fail
        go_ret
        exact ⟨rfl, H10.out⟩
    · have HLV := Lib.hid (zlives_any W7)
      go_wp2_with fail
      refine HLV.out.mono ?_
      rintro e w8 ⟨rfl, hb8⟩
      have H8 := Lib.hid (HZ7.out.next hb8).below
      clear hb8 HLV
      go_wp2_with fail
      go_ret
      exact ⟨rfl, H8.out⟩
  · have HOK := Lib.hid (ok_not (IRd.fresh w6 24 [E, F] 2 rfl #[.int .i64 E, .int .i64 F] rfl) (x := E) (by simp) hE (by simp))
    have HZ7 := Lib.hid (HZ6.out.next ((Below.refl _ _).alloc (Nat.le_refl _) (.cells #[.int .i64 E, .int .i64 F] 24)))
    clear HZ6 hE
    go_wp2_with fail
    refine HOK.out.mono ?_
    rintro e w7 ⟨rfl, rfl⟩
    clear HOK
    have HLV := Lib.hid (zlives_any (w6.alloc (.cells #[.int .i64 E, .int .i64 F] 24)))
    go_wp2_with fail
    refine HLV.out.mono ?_
    rintro e w8 ⟨rfl, hb8⟩
    have H8 := Lib.hid (HZ7.out.next hb8).below
    clear hb8 HLV
    go_wp2_with fail
    go_ret
    exact ⟨rfl, H8.out⟩
end Go.Proofs.Ytphhbojdolhieaa
