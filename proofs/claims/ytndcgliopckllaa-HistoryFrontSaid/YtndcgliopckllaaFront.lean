/-
  alibkeep.HistoryFront answers true, whatever is handed in.
-/
import Derived.Test.YtndcgliopckllaaLivesH
import Derived.Test.YtndcgliopckllaaFrontPure
namespace Go.Proofs.Ytndcgliopckllaa
open Go.RowKit
set_option maxRecDepth 20000

/-- Two lists of calls that read, old memory as it was. -/
structure TwoC (w0 : World) (v1 v2 : Value) (c d : List Cl) (w : World) : Prop where
  below : Below w0.heap.size w0 w
  one : CRd w w.heap.size v1 c
  two : CRd w w.heap.size v2 d
theorem TwoC.next {w0 w w' : World} {v1 v2 : Value} {c d : List Cl} (h : TwoC w0 v1 v2 c d w) (hb : Below w.heap.size w w') : TwoC w0 v1 v2 c d w' :=
  ⟨h.below.trans (hb.mono h.below.size), (h.one.below hb).mono hb.size, (h.two.below hb).mono hb.size⟩
theorem TwoC.drewN {w0 w : World} {v1 v2 : Value} {c d : List Cl} (h : TwoC w0 v1 v2 c d w) (n : Nat) : TwoC w0 v1 v2 c d (w.drewN n) := h.next (belowN (Below.refl _ _) n)
/-- And a call in block P, that was made behind. -/
structure TwoB (w0 : World) (v1 v2 : Value) (c d : List Cl) (B P : Nat) (x : Cl) (w : World) : Prop where
  below : Below w0.heap.size w0 w
  one : CRd w B v1 c
  two : CRd w B v2 d
  box : Lies w P 33 (clCs x).toArray
  far : B ≤ P
  base : w0.heap.size ≤ B
theorem TwoB.put {w0 w : World} {v1 v2 : Value} {c d : List Cl} {B P : Nat} {x y : Cl} (h : TwoB w0 v1 v2 c d B P x w) (j : Nat) (u : Value) (he : ((clCs x).toArray).setIfInBounds j u = (clCs y).toArray) : TwoB w0 v1 v2 c d B P y (w.setCell ⟨P, j, none⟩ u) := by
  have hb : Below B w (w.setCell ⟨P, j, none⟩ u) := (Below.refl _ _).setCell (show B ≤ P from h.far) u
  exact ⟨h.below.trans (hb.mono h.base), h.one.below hb, h.two.below hb, Lies.cast (Lies.set_ h.box j u) he, h.far, h.base⟩
theorem TwoB.drewN {w0 w : World} {v1 v2 : Value} {c d : List Cl} {B P : Nat} {x : Cl} (h : TwoB w0 v1 v2 c d B P x w) (n : Nat) : TwoB w0 v1 v2 c d B P x (w.drewN n) :=
  ⟨belowN h.below n, h.one.below (belowN (Below.refl _ _) n), h.two.below (belowN (Below.refl _ _) n), h.box, h.far, h.base⟩
theorem TwoB.free {w0 w : World} {v1 v2 : Value} {c d : List Cl} {B P : Nat} {x : Cl} (h : TwoB w0 v1 v2 c d B P x w) : TwoC w0 v1 v2 c d w :=
  ⟨h.below, h.one.mono (Nat.le_trans h.far (Nat.le_of_lt h.box.lt)), h.two.mono (Nat.le_trans h.far (Nat.le_of_lt h.box.lt))⟩
theorem TwoB.cells {w0 w : World} {v1 v2 : Value} {c d : List Cl} {B P : Nat} {x : Cl} (h : TwoB w0 v1 v2 c d B P x w) : w.cell? ⟨P, 0, none⟩ = some (.int .i64 x.who) ∧ w.cell? ⟨P, 1, none⟩ = some (.int .i64 x.thing) ∧ w.cell? ⟨P, 2, none⟩ = some (.int .i64 x.kind) ∧ w.cell? ⟨P, 3, none⟩ = some (.int .i64 x.arg) ∧ w.cell? ⟨P, 4, none⟩ = some (.int .i64 x.res) ∧ w.cell? ⟨P, 5, none⟩ = some (.int .i64 x.frm) ∧ w.cell? ⟨P, 6, none⟩ = some (.int .i64 x.til) :=
  ⟨Lies.cell h.box 0, Lies.cell h.box 1, Lies.cell h.box 2, Lies.cell h.box 3, Lies.cell h.box 4, Lies.cell h.box 5, Lies.cell h.box 6⟩

set_option maxHeartbeats 8000000 in
theorem hfront_any {tv lv : Value} {ts : List Int} {l : List Ev} {w : World} (ht : NRd w w.heap.size tv ts) (hl : ERd w w.heap.size lv l) (n : Int) :
    Calls Try.prog 6 #[tv, lv, .int .i64 n] w fun e w' => e = .returned (.bool true) ∧ Below w.heap.size w w' := by
  obtain ⟨At, capt, rfl, m1, m2⟩ := ht.is
  obtain ⟨Al, capl, rfl, m3, m4⟩ := hl.is
  unfold maxLen at m2 m4
  have HT := Lib.hid ht
  have HL := Lib.hid hl
  have HC := Lib.hid (calls_any ht hl)
  clear ht hl
  obtain ⟨L, hL⟩ : ∃ L, L = l.length := ⟨_, rfl⟩
  rw [← hL]
  rw [← hL] at m3 HC
  have HLL := Lib.hid hL
  clear hL
  go_enter Try.func6, Try.ntmps6
  go_wp2_with fail
  refine HC.out.mono ?_
  rintro e w1 ⟨v1, rfl, hb1, hr1⟩
  have H1 := Lib.hid (And.intro hb1 hr1)
  clear HC hb1 hr1
  go_wp2_with fail
  refine (lives_any _).mono ?_
  rintro e w2 ⟨rfl, hb2⟩
  have H2 := Lib.hid (And.intro (H1.out.1.trans (hb2.mono H1.out.1.size)) ((H1.out.2.below hb2).mono hb2.size))
  clear hb2 H1
  by_cases hn0 : n < 0
  · go_wp2_with fail
    refine (lives_any _).mono ?_
    rintro e w3 ⟨rfl, hb3⟩
    have H3 := Lib.hid (H2.out.1.trans (hb3.mono H2.out.1.size))
    clear hb3
    go_wp2_with fail
    go_ret
    exact ⟨rfl, H3.out⟩
  · by_cases hnL : (L : Int) < n
    · go_wp2_with fail
      refine (lives_any _).mono ?_
      rintro e w3 ⟨rfl, hb3⟩
      have H3 := Lib.hid (H2.out.1.trans (hb3.mono H2.out.1.size))
      clear hb3
      go_wp2_with fail
      go_ret
      exact ⟨rfl, H3.out⟩
    · obtain ⟨m, rfl⟩ : ∃ m : Nat, n = (m : Int) := ⟨n.toNat, by omega⟩
      have hmL : m ≤ L := by omega
      have hml : m ≤ l.length := by rw [← HLL.out]; exact hmL
      have hml2 : m ≤ capl := by omega
      have hl2 := HL.out
      rw [← HLL.out] at hl2
      have hp2 := (hl2.take_ hml).below H2.out.1
      have HD := Lib.hid (calls_any ((HT.out.below H2.out.1).mono H2.out.1.size) (hp2.mono H2.out.1.size))
      have HM := Lib.hid hml
      clear hl2 hp2 hml
      go_wp2_with fail
      refine HD.out.mono ?_
      rintro e w3 ⟨v3, rfl, hb3, hr3⟩
      have H3 := Lib.hid (TwoC.mk (H2.out.1.trans (hb3.mono H2.out.1.size)) ((H2.out.2.below hb3).mono hb3.size) hr3)
      clear hb3 hr3 HD H2
      by_cases e2 : (callsOf ts l).2.2 = 2
      · rw [e2]
        go_wp2_with fail
        go_ret
        exact ⟨rfl, H3.out.below⟩
      · by_cases e1 : (callsOf ts l).2.2 = 1
        · obtain ⟨q1, q2⟩ := calls_one e1
          have q3 := q2 (l.take m)
          rw [q1, q3]
          clear q1 q2 q3 e1 e2
          go_wp2_with fail
          go_ret
          exact ⟨rfl, H3.out.below⟩
        · obtain ⟨q1, q2⟩ := calls_run e1 e2 m
          rw [q1] at e1 e2 H3 ⊢
          rw [q2] at H3 ⊢
          clear q1 q2
          by_cases e0 : (run ts 0 [] l).2.2 = 0
          · obtain ⟨g1, g2⟩ := front_ok HM.out e0
            rw [g1, e0]
            have ha : (run ts 0 [] l).2.1 = 0 := by
              rcases run_at (ts := ts) l 0 [] with h | h
              · exact h.2
              · exact absurd e0 h.1
            rw [ha]
            clear e1 e2 e0 g1 ha
            have H3' := H3.out
            generalize (run ts 0 [] l).1 = c at H3' g2 ⊢
            generalize (run ts 0 [] (l.take m)).1 = d at H3' g2 ⊢
            generalize (run ts 0 [] (l.take m)).2.1 = at2
            clear H3
            obtain ⟨A1, c1, rfl, k1, k2⟩ := H3'.one.is
            obtain ⟨A3, c3, rfl, k3, k4⟩ := H3'.two.is
            unfold maxLen at k2 k4
            obtain ⟨N, hN⟩ : ∃ N, N = c.length := ⟨_, rfl⟩
            obtain ⟨M, hM⟩ : ∃ M, M = d.length := ⟨_, rfl⟩
            have hMN : M ≤ N := by rw [hN, hM]; exact g2.len
            rw [← hN, ← hM] at H3'
            rw [← hN, ← hM]
            rw [← hN] at k1
            rw [← hM] at k3
            have HG := Lib.hid (And.intro g2 (And.intro hN hM))
            have hMN' : ¬ (N : Int) < (M : Int) := by omega
            have hMN2 : decide (N < M) = false := decide_eq_false (by omega)
            have H3 := Lib.hid H3'
            clear g2 hN hM H3'
            go_wp2_with fail
            go_loopw [83] (fun i wr => ∃ k : Nat, k ≤ M ∧ i = .int .i64 k ∧ TwoC w (.slice A1 N c1) (.slice A3 M c3) c d wr) (fun i _ => M - (intOf i).toNat)
            case atStart => exact ⟨0, by omega, rfl, H3.out⟩
            case round =>
              clear H3
              obtain ⟨k, hk, rfl, hT⟩ := hrel
              by_cases hkM : k < M
              · obtain ⟨x, hx⟩ : ∃ x, c[k]? = some x := ⟨_, List.getElem?_eq_getElem (by rw [← HG.out.2.1]; omega)⟩
                obtain ⟨y, hy⟩ : ∃ y, d[k]? = some y := ⟨_, List.getElem?_eq_getElem (by rw [← HG.out.2.2]; exact hkM)⟩
                have hxy := HG.out.1.same k y x hy hx
                obtain ⟨g1, o1, rfl, hg1, b0, b1, b2, b3, b4, b5, b6⟩ := hT.one.cl hx
                have i1 : (0 : Int) ≤ (k : Int) := by omega
                have i2 : (k : Int) < (N : Int) := by omega
                have i3 : (k : Int) < (M : Int) := by omega
                have hB : ∀ x, TwoB w (.slice (some ⟨g1, o1, none⟩) N c1) (.slice A3 M c3) c d wr.heap.size wr.heap.size x (wr.alloc (.cells (clCs x).toArray 33)) := by
                  intro x
                  have hb := (Below.refl wr.heap.size wr).alloc (Nat.le_refl _) (.cells (clCs x).toArray 33)
                  exact ⟨hT.below.trans (hb.mono hT.below.size), hT.one.below hb, hT.two.below hb, Lies.new _ _ _, Nat.le_refl _, hT.below.size⟩
                have HB := Lib.hid (hB x)
                have HB2 := Lib.hid (hB { x with til := -1, res := 0 })
                have HXY := Lib.hid (And.intro hx (And.intro hy hxy))
                clear hx hy hxy hB hT hg1
                by_cases ht : (m : Int) ≤ x.til
                · go_wp2_with fail
                  have HBB := HB2
                  clear HB HB2 b0 b1 b2 b3 b4 b5 b6
                  change Code.wp _ _ _ _ (wr.alloc (.cells (clCs { x with til := -1, res := 0 }).toArray 33))
                  generalize wr.alloc (.cells (clCs { x with til := -1, res := 0 }).toArray 33) = W2 at HBB ⊢
                  generalize wr.heap.size = P at HBB ⊢
                  obtain ⟨d0, d1, d2, d3, d4, d5, d6⟩ := HBB.out.cells
                  obtain ⟨g3, o3, rfl, -, f0, f1, f2, f3, f4, f5, f6⟩ := HBB.out.two.cl HXY.out.2.1
                  have hz := HXY.out.2.2
                  unfold before_ at hz
                  rw [if_pos ht] at hz
                  have HZ := Lib.hid HBB.out
                  rw [hz] at f0 f1 f2 f3 f4 f5 f6
                  obtain ⟨x0, x1, x2, x3, x4, x5, x6⟩ := x
                  simp only at d0 d1 d2 d3 d4 d5 d6 f0 f1 f2 f3 f4 f5 f6
                  clear hz HXY HBB ht
                  go_quiet (fail)
                  go_wp2_with fail
                  go_roundw
                  case rel => exact ⟨k + 1, by omega, by go_num, (HZ.out.drewN _).free⟩
                  case measure => simp [intOf]; omega
                · go_wp2_with fail
                  have HBB := HB
                  clear HB HB2 b0 b1 b2 b3 b4 b5 b6
                  change Code.wp _ _ _ _ (wr.alloc (.cells (clCs x).toArray 33))
                  generalize wr.alloc (.cells (clCs x).toArray 33) = W2 at HBB ⊢
                  generalize wr.heap.size = P at HBB ⊢
                  obtain ⟨d0, d1, d2, d3, d4, d5, d6⟩ := HBB.out.cells
                  obtain ⟨g3, o3, rfl, -, f0, f1, f2, f3, f4, f5, f6⟩ := HBB.out.two.cl HXY.out.2.1
                  have hz := HXY.out.2.2
                  unfold before_ at hz
                  rw [if_neg (by omega)] at hz
                  have HZ := Lib.hid HBB.out
                  rw [hz] at f0 f1 f2 f3 f4 f5 f6
                  obtain ⟨x0, x1, x2, x3, x4, x5, x6⟩ := x
                  simp only at d0 d1 d2 d3 d4 d5 d6 f0 f1 f2 f3 f4 f5 f6
                  clear hz HXY HBB ht
                  go_quiet (fail)
                  go_wp2_with fail
                  go_roundw
                  case rel => exact ⟨k + 1, by omega, by go_num, (HZ.out.drewN _).free⟩
                  case measure => simp [intOf]; omega
              · obtain rfl : k = M := by omega
                by_cases hNk : k = N
                · subst hNk
                  go_wp2_with fail
                  go_ret
                  exact ⟨rfl, hT.below⟩
                · have hzz : ((k : Int) == (N : Int)) = false := by rw [beq_eq_false_iff_ne]; omega
                  obtain ⟨x, hx⟩ : ∃ x, c[k]? = some x := ⟨_, List.getElem?_eq_getElem (by rw [← HG.out.2.1]; omega)⟩
                  have hge := HG.out.1.new k x (by rw [← HG.out.2.2]; exact Nat.le_refl _) hx
                  obtain ⟨g1, o1, rfl, -, -, -, -, -, -, b5, -⟩ := hT.one.cl hx
                  have i1 : (0 : Int) ≤ (k : Int) := by omega
                  have i2 : (k : Int) < (N : Int) := by omega
                  have HT2 := Lib.hid hT
                  clear hx hT
                  go_wp2_with fail
                  go_ret
                  exact ⟨rfl, HT2.out.below⟩
          · by_cases hat : (run ts 0 [] l).2.1 < m
            · rw [front_late HM.out e0 hat]
              have z1 : ((run ts 0 [] l).2.2 != 0) = true := by rw [bne_iff_ne]; exact e0
              have z2 : ((run ts 0 [] l).2.2 == 1) = false := by rw [beq_eq_false_iff_ne]; exact e1
              have z3 : ((run ts 0 [] l).2.2 == 2) = false := by rw [beq_eq_false_iff_ne]; exact e2
              have z4 : (((run ts 0 [] l).2.1 : Nat) : Int) < (m : Int) := by omega
              generalize (run ts 0 [] l).2.2 = E at z1 z2 z3 ⊢
              generalize (run ts 0 [] l).2.1 = a at z4 ⊢
              clear e0 e1 e2 hat
              go_wp2_with fail
              go_ret
              exact ⟨rfl, H3.out.below⟩
            · rw [front_soon HM.out (by omega)]
              have z1 : ((run ts 0 [] l).2.2 != 0) = true := by rw [bne_iff_ne]; exact e0
              have z2 : ((run ts 0 [] l).2.2 == 1) = false := by rw [beq_eq_false_iff_ne]; exact e1
              have z3 : ((run ts 0 [] l).2.2 == 2) = false := by rw [beq_eq_false_iff_ne]; exact e2
              have z4 : ¬ (((run ts 0 [] l).2.1 : Nat) : Int) < (m : Int) := by omega
              generalize (run ts 0 [] l).2.2 = E at z1 z2 z3 ⊢
              generalize (run ts 0 [] l).2.1 = a at z4 ⊢
              clear e0 e1 e2 hat
              go_wp2_with fail
              go_ret
              exact ⟨rfl, H3.out.below⟩
end Go.Proofs.Ytndcgliopckllaa
