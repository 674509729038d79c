/-
  alibkeep.ZonesFront answers true, whatever is handed in.
-/
import Derived.Test.YtphhbojdolhieaaZLives
import Derived.Test.YtphhbojdolhieaaZFrontP
namespace Go.Proofs.Ytphhbojdolhieaa
open Go.RowKit Go.Maps
set_option maxRecDepth 20000

/-- What Check answers, in one form. -/
theorem CheckZ.forms {w w' : World} {l : List Ev} {e : Ending} (h : CheckZ w l e w') : ∃ b k x y, e = .returned (.tuple #[.bool b, .agg #[.int .i64 k, .int .i64 x, .int .i64 y], .int .i64 (zonesE l)]) ∧ Below w.heap.size w w' ∧
    (zonesE l = 0 → b = (k == 0) ∧ badZ (callsOf [1] l).1 = ⟨k, x, y⟩) ∧ (zonesE l ≠ 0 → b = false ∧ k = 0 ∧ x = 0 ∧ y = 0) := by
  obtain ⟨hb, ⟨h1, h2⟩ | ⟨h1, h2⟩⟩ := h
  · exact ⟨false, 0, 0, 0, h2, hb, fun h => absurd h h1, fun _ => ⟨rfl, rfl, rfl, rfl⟩⟩
  · exact ⟨_, _, _, _, by rw [h1]; exact h2, hb, fun _ => ⟨rfl, rfl⟩, fun h => absurd h1 h⟩
set_option maxHeartbeats 8000000 in
theorem zfront_any {lv : Value} {l : List Ev} {w : World} (hl : ERd w w.heap.size lv l) (n : Int) :
    Calls Try.prog 5 #[lv, .int .i64 n] w fun e w' => e = .returned (.bool true) ∧ Below w.heap.size w w' := by
  obtain ⟨Al, capl, rfl, m1, m2⟩ := hl.is
  unfold maxLen at m2
  have HC := Lib.hid (zcheck_any hl)
  have HL := Lib.hid hl
  obtain ⟨L, hL⟩ : ∃ L, L = l.length := ⟨_, rfl⟩
  rw [← hL] at HC HL m1 ⊢
  have HLL := Lib.hid hL
  clear hl hL
  go_enter Try.func5, Try.ntmps5
  go_wp2_with fail
  refine HC.out.mono ?_
  intro e w1 hck
  obtain ⟨b, k, x, y, rfl, hb1, hok, -⟩ := hck.forms
  have HK := Lib.hid hok
  have H1 := Lib.hid (hb1.alloc hb1.size (.cells #[.int .i64 k, .int .i64 x, .int .i64 y] 28))
  obtain ⟨E, hE⟩ : ∃ E, E = zonesE l := ⟨_, rfl⟩
  rw [← hE]
  have HE := Lib.hid hE
  clear HC hok hb1 hck hE
  go_wp2_with fail
  change Calls _ _ _ (w1.alloc (.cells #[.int .i64 k, .int .i64 x, .int .i64 y] 28)) _
  generalize w1.alloc (.cells #[.int .i64 k, .int .i64 x, .int .i64 y] 28) = W2 at H1 ⊢
  refine (zlives_any W2).mono ?_
  rintro e w3 ⟨rfl, hb3⟩
  have H3 := Lib.hid (H1.out.trans (hb3.mono H1.out.size))
  clear H1 hb3
  by_cases hE0 : E = 0
  · subst hE0
    by_cases hn0 : n < 0
    · go_wp2_with fail
      refine (zlives_any w3).mono ?_
      rintro e w4 ⟨rfl, hb4⟩
      have H4 := Lib.hid (H3.out.trans (hb4.mono H3.out.size))
      clear hb4
      go_wp2_with fail
      go_ret
      exact ⟨rfl, H4.out⟩
    · by_cases hnl : (L : Int) < n
      · go_wp2_with fail
        refine (zlives_any w3).mono ?_
        rintro e w4 ⟨rfl, hb4⟩
        have H4 := Lib.hid (H3.out.trans (hb4.mono H3.out.size))
        clear hb4
        go_wp2_with fail
        go_ret
        exact ⟨rfl, H4.out⟩
      · cases b
        · go_wp2_with fail
          refine (zlives_any w3).mono ?_
          rintro e w4 ⟨rfl, hb4⟩
          have H4 := Lib.hid (H3.out.trans (hb4.mono H3.out.size))
          clear hb4
          go_wp2_with fail
          go_ret
          exact ⟨rfl, H4.out⟩
        · obtain ⟨q, rfl⟩ : ∃ q : Nat, n = (q : Int) := ⟨n.toNat, by omega⟩
          have hql : q ≤ L := by omega
          have hfr := zfront (l := l) (n := q) (by rw [← HLL.out]; exact hql) HE.out.symm (by
            obtain ⟨h1, h2⟩ := HK.out HE.out.symm
            rw [h2]
            exact eq_of_beq h1.symm)
          have htk : ERd w3 w3.heap.size (.slice Al q capl) (l.take q) := ((HL.out.below H3.out).mono H3.out.size).take_ (by rw [← HLL.out]; exact hql)
          have HC := Lib.hid (zcheck_any htk)
          have HF := Lib.hid hfr
          have q1 : (q : Int) ≤ (capl : Int) := by omega
          clear hfr htk
          go_wp2_with fail
          refine HC.out.mono ?_
          intro e w4 hck
          obtain ⟨b2, k2, x2, y2, rfl, hb4, hok, -⟩ := hck.forms
          rw [HF.out.1] at hok ⊢
          obtain ⟨h1, h2⟩ := hok rfl
          have h3 := HF.out.2
          rw [h2] at h3
          simp only at h3
          subst h3
          have hb5 := H3.out.trans (hb4.mono H3.out.size)
          have H4 := Lib.hid (hb5.alloc hb5.size (.cells #[.int .i64 0, .int .i64 x2, .int .i64 y2] 28))
          obtain rfl : b2 = true := h1
          clear hok h2 hb4 hb5 hck HC
          go_wp2_with fail
          go_ret
          exact ⟨rfl, H4.out⟩
  · have hz : (E != 0) = true := by rw [bne_iff_ne]; exact hE0
    clear hE0
    go_wp2_with fail
    refine (zlives_any w3).mono ?_
    rintro e w4 ⟨rfl, hb4⟩
    have H4 := Lib.hid (H3.out.trans (hb4.mono H3.out.size))
    clear hb4
    go_wp2_with fail
    go_ret
    exact ⟨rfl, H4.out⟩
end Go.Proofs.Ytphhbojdolhieaa
