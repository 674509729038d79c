/-
  alibkeep.SpansFishburn answers true where the spans are right.
-/
import Derived.Test.YtfjanniojphdoaaFish
namespace Go.Proofs.Ytfjanniojphdoaa
open Go.RowKit
set_option maxRecDepth 20000

theorem RelB.lt' {w : World} {g : Nat} {n : Int} {a : Nat → Nat} (h : RelB w g n a) : g < w.heap.size := Lies.lt h

/-- What was made of spans tells the same. -/
theorem made_same {m : Nat} {a : Nat → Nat} {F T : Nat → Int} (ha : a = spRel m F T) (h : ∀ i j, i < m → j < m → ((a i).testBit j = true ↔ toOf m a i < frOf m a j)) :
    spRel m (fun i => (frOf m a i : Int)) (fun i => (toOf m a i : Int)) = a := by
  subst ha
  exact spRel_again h
theorem made_ok {m : Nat} {a : Nat → Nat} (hm : m ≤ 12) (h : ∀ i, i < m → frOf m a i ≤ toOf m a i ∧ toOf m a i < 12) : spErr m (fun i => (frOf m a i : Int)) (fun i => (toOf m a i : Int)) = 0 := by
  rw [spErr_zero]
  refine ⟨hm, fun i hi => ?_⟩
  have := h i hi
  unfold spOk
  rw [decide_eq_true_iff]
  show 0 ≤ (frOf m a i : Int) ∧ (frOf m a i : Int) ≤ (toOf m a i : Int) ∧ (toOf m a i : Int) ≤ 1000000
  omega

set_option maxHeartbeats 8000000 in
theorem fish_ok {B m : Nat} {v : Value} {F T : Nat → Int} {w : World} (h : SRd w B v m F T) (hB : B ≤ w.heap.size) (hE0 : spErr m F T = 0) (n : Int) (a : Nat → Nat) (hh : Half n a) :
    Calls Try.prog 5 #[v, relV n a] w fun e w' => e = .returned (.bool true) ∧ Below w.heap.size w w' := by
  obtain ⟨A, c, rfl⟩ := h.is
  have H := Lib.hid (And.intro h (And.intro hB hE0))
  clear h hE0 hB
  have hW : FiR w n a (w.alloc (.cells (relCs n a) 26)) := ⟨(Below.refl _ _).alloc (Nat.le_refl _) _, Lies.new _ _ _⟩
  have HW := Lib.hid hW
  clear hW
  go_enter Try.func5, Try.ntmps5
  go_wp2_with fail
  have hW := HW.out
  clear HW
  change Calls _ _ _ (w.alloc (.cells (relCs n a) 26)) _
  generalize w.alloc (.cells (relCs n a) 26) = W at hW ⊢
  have HW := Lib.hid hW
  clear hW
  refine (of_ok (H.out.1.below (HW.out.below.mono H.out.2.1)) (Nat.le_trans H.out.2.1 HW.out.below.size) H.out.2.2).mono ?_
  rintro e w1 ⟨rfl, hb1⟩
  have H1 := Lib.hid (HW.out.next hb1)
  clear hb1 HW
  have hgd : Good m (spRel m F T) := spRel_good (spErr_zero.1 H.out.2.2).1
  have hch : Chain2 m (spRel m F T) := spRel_chain (fun i hi => by
    have := (spErr_zero.1 H.out.2.2).2 i hi
    unfold spOk at this
    rw [decide_eq_true_iff] at this
    exact this.2.1)
  obtain ⟨x, hx⟩ : ∃ x, x = spRel m F T := ⟨_, rfl⟩
  rw [← hx] at hgd hch ⊢
  have HX := Lib.hid (And.intro hx (And.intro hgd hch))
  clear hx hgd hch
  go_wp2_with fail
  obtain ⟨X, hX⟩ : ∃ X, X = w1.heap.size := ⟨_, rfl⟩
  have hl : RelB (w1.alloc (.cells (relCs m x) 26)) X m x := by rw [hX]; exact Lies.new _ _ _
  have h2 := H1.out.alloc (.cells (relCs m x) 26)
  rw [← hX]
  clear H1 hX
  change Calls _ _ _ (w1.alloc (.cells (relCs m x) 26)) _
  generalize w1.alloc (.cells (relCs m x) 26) = W1 at h2 hl ⊢
  have H2 := Lib.hid (And.intro h2 hl)
  clear h2 hl
  refine (slives_true W1).mono ?_
  rintro e w2 ⟨rfl, hb2⟩
  have H3 := Lib.hid (And.intro (H2.out.1.next hb2) (show RelB w2 X m x from Lies.below H2.out.2 hb2 (RelB.lt' H2.out.2)))
  clear hb2 H2
  have c0 := H3.out.2.size
  obtain ⟨c1, c2, c3, c4, c5, c6, c7, c8, c9, c10, c11, c12⟩ := H3.out.2.rows
  go_wp2_with fail
  clear c0 c1 c2 c3 c4 c5 c6 c7 c8 c9 c10 c11 c12
  refine (mk_ok m x _ HX.out.2.1 HX.out.2.2).mono ?_
  rintro e w3 ⟨v3, rfl, hb3, hS3, hp3, hq3⟩
  have hsame := made_same HX.out.1 hq3
  have herr := made_ok HX.out.2.1.le hp3
  have H4 := Lib.hid (And.intro (H3.out.1.next hb3) (And.intro (show RelB w3 X m x from Lies.below H3.out.2 hb3 (RelB.lt' H3.out.2)) (And.intro hS3 (And.intro hsame herr))))
  clear hb3 hS3 hp3 hq3 hsame herr H3
  go_wp2_with fail
  refine (of_ok H4.out.2.2.1 (Nat.le_refl _) H4.out.2.2.2.2).mono ?_
  rintro e w4 ⟨rfl, hb4⟩
  rw [H4.out.2.2.2.1]
  have H5 := Lib.hid (And.intro (H4.out.1.next hb4) (show RelB w4 X m x from Lies.below H4.out.2.1 hb4 (RelB.lt' H4.out.2.1)))
  clear hb4 H4
  have H9 := Lib.hid (H5.out.1.alloc (.cells (relCs m x) 26))
  have d0 := H5.out.2.size
  obtain ⟨d1, d2, d3, d4, d5, d6, d7, d8, d9, d10, d11, d12⟩ := H5.out.2.rows
  have hXl := RelB.lt' H5.out.2
  have hqx := fun W => rows_same (x 0 : Nat) (x 1 : Nat) (x 2 : Nat) (x 3 : Nat) (x 4 : Nat) (x 5 : Nat) (x 6 : Nat) (x 7 : Nat) (x 8 : Nat) (x 9 : Nat) (x 10 : Nat) (x 11 : Nat) W
  clear H5
  have q0 := H9.out.rel.size
  obtain ⟨q1, q2, q3, q4, q5, q6, q7, q8, q9, q10, q11, q12⟩ := H9.out.rel.rows
  go_wp2_with fail
  clear q0 q1 q2 q3 q4 q5 q6 q7 q8 q9 q10 q11 q12 d0 d1 d2 d3 d4 d5 d6 d7 d8 d9 d10 d11 d12 hXl hqx
  cases hh with
  | err E hE hc =>
    have HH := Lib.hid (And.intro hE hc)
    clear hE hc
    refine (mk_err n a E _ HH.out.1 HH.out.2).mono ?_
    rintro e wa ⟨rfl, hba⟩
    have HA := Lib.hid (H9.out.next hba)
    clear hba
    have c0 := HA.out.rel.size
    obtain ⟨c1, c2, c3, c4, c5, c6, c7, c8, c9, c10, c11, c12⟩ := HA.out.rel.rows
    go_wp2_with fail
    clear c0 c1 c2 c3 c4 c5 c6 c7 c8 c9 c10 c11 c12
    refine (HH.out.2 _).mono ?_
    rintro e wb ⟨rfl, hbb⟩
    have HB := Lib.hid (HA.out.next hbb)
    clear hbb
    have c0 := HB.out.rel.size
    obtain ⟨c1, c2, c3, c4, c5, c6, c7, c8, c9, c10, c11, c12⟩ := HB.out.rel.rows
    have hE := HH.out.1
    go_wp2_with fail
    refine (HH.out.2 _).mono ?_
    rintro e wc ⟨rfl, hbc⟩
    have HC := Lib.hid (HB.out.next hbc)
    clear hbc
    go_wp2_with fail
    go_ret
    exact ⟨rfl, HC.out.below⟩
  | yes k hk hg hc =>
    subst hk
    have HH := Lib.hid (And.intro hg hc)
    clear hg hc
    refine (mk_ok k a _ HH.out.1 HH.out.2).mono ?_
    rintro e wa ⟨vm, rfl, hba, -, -, -⟩
    have HA := Lib.hid (H9.out.next hba)
    clear hba
    have c0 := HA.out.rel.size
    obtain ⟨c1, c2, c3, c4, c5, c6, c7, c8, c9, c10, c11, c12⟩ := HA.out.rel.rows
    go_wp2_with fail
    clear c0 c1 c2 c3 c4 c5 c6 c7 c8 c9 c10 c11 c12
    refine (check_ok k a _ HH.out.1.le HH.out.1.lt HH.out.1.rows).mono ?_
    rintro e wb ⟨rfl, hbb⟩
    have HB := Lib.hid (HA.out.next hbb)
    clear hbb
    have c0 := HB.out.rel.size
    obtain ⟨c1, c2, c3, c4, c5, c6, c7, c8, c9, c10, c11, c12⟩ := HB.out.rel.rows
    go_wp2_with fail
    clear c0 c1 c2 c3 c4 c5 c6 c7 c8 c9 c10 c11 c12
    refine (close_any k a _ HH.out.1).mono ?_
    rintro e wc ⟨rfl, hbc⟩
    have HC := Lib.hid (HB.out.next hbc)
    clear hbc
    have c0 := HC.out.rel.size
    obtain ⟨c1, c2, c3, c4, c5, c6, c7, c8, c9, c10, c11, c12⟩ := HC.out.rel.rows
    have hlt := HC.out.rel.lt
    have hcl := spOK_closed (spOK_of HH.out.2) HH.out.1
    rw [hcl.1, hcl.2]
    clear hcl
    have hq := fun W => rows_same (a 0 : Nat) (a 1 : Nat) (a 2 : Nat) (a 3 : Nat) (a 4 : Nat) (a 5 : Nat) (a 6 : Nat) (a 7 : Nat) (a 8 : Nat) (a 9 : Nat) (a 10 : Nat) (a 11 : Nat) W
    go_wp2_with fail
    refine (spanned_go k a _ HH.out.1.le).mono ?_
    rintro e wd ⟨hbd, ⟨rfl, -⟩ | ⟨-, hsp⟩⟩
    · have HD := Lib.hid ((HC.out.alloc (.cells (relCs k a) 26)).next hbd)
      clear hbd
      go_wp2_with fail
      go_ret
      exact ⟨rfl, HD.out.below⟩
    · exact absurd (spOK_of HH.out.2) hsp
  | same k hk hg hc hs =>
    subst hk
    have HH := Lib.hid (And.intro hg (And.intro hc hs))
    clear hg hc hs
    refine (mk_no k a _ HH.out.1 HH.out.2.1).mono ?_
    rintro e wa ⟨rfl, hba⟩
    have HA := Lib.hid (H9.out.next hba)
    clear hba
    have c0 := HA.out.rel.size
    obtain ⟨c1, c2, c3, c4, c5, c6, c7, c8, c9, c10, c11, c12⟩ := HA.out.rel.rows
    go_wp2_with fail
    clear c0 c1 c2 c3 c4 c5 c6 c7 c8 c9 c10 c11 c12
    refine (check_ok k a _ HH.out.1.le HH.out.1.lt HH.out.1.rows).mono ?_
    rintro e wb ⟨rfl, hbb⟩
    have HB := Lib.hid (HA.out.next hbb)
    clear hbb
    have c0 := HB.out.rel.size
    obtain ⟨c1, c2, c3, c4, c5, c6, c7, c8, c9, c10, c11, c12⟩ := HB.out.rel.rows
    go_wp2_with fail
    clear c0 c1 c2 c3 c4 c5 c6 c7 c8 c9 c10 c11 c12
    refine (close_any k a _ HH.out.1).mono ?_
    rintro e wc ⟨rfl, hbc⟩
    have HC := Lib.hid (HB.out.next hbc)
    clear hbc
    have c0 := HC.out.rel.size
    obtain ⟨c1, c2, c3, c4, c5, c6, c7, c8, c9, c10, c11, c12⟩ := HC.out.rel.rows
    have hlt := HC.out.rel.lt
    rw [HH.out.2.2]
    generalize cyc a k = y
    cases y
    · have hq := fun W => rows_same (a 0 : Nat) (a 1 : Nat) (a 2 : Nat) (a 3 : Nat) (a 4 : Nat) (a 5 : Nat) (a 6 : Nat) (a 7 : Nat) (a 8 : Nat) (a 9 : Nat) (a 10 : Nat) (a 11 : Nat) W
      go_wp2_with fail
      refine (spanned_go k a _ HH.out.1.le).mono ?_
      rintro e wd ⟨hbd, ⟨-, hsp⟩ | ⟨rfl, -⟩⟩
      · exact absurd (chain2_of hsp) HH.out.2.1
      · have HD := Lib.hid ((HC.out.alloc (.cells (relCs k a) 26)).next hbd)
        clear hbd
        go_wp2_with fail
        go_ret
        exact ⟨rfl, HD.out.below⟩
    · have HD := Lib.hid (HC.out.alloc (.cells (relCs k a) 26))
      go_wp2_with fail
      go_ret
      exact ⟨rfl, HD.out.below⟩
  | diff k hk hg hc hs =>
    subst hk
    have HH := Lib.hid (And.intro hg (And.intro hc hs))
    clear hg hc hs
    refine (mk_no k a _ HH.out.1 HH.out.2.1).mono ?_
    rintro e wa ⟨rfl, hba⟩
    have HA := Lib.hid (H9.out.next hba)
    clear hba
    have c0 := HA.out.rel.size
    obtain ⟨c1, c2, c3, c4, c5, c6, c7, c8, c9, c10, c11, c12⟩ := HA.out.rel.rows
    go_wp2_with fail
    clear c0 c1 c2 c3 c4 c5 c6 c7 c8 c9 c10 c11 c12
    refine (check_ok k a _ HH.out.1.le HH.out.1.lt HH.out.1.rows).mono ?_
    rintro e wb ⟨rfl, hbb⟩
    have HB := Lib.hid (HA.out.next hbb)
    clear hbb
    have c0 := HB.out.rel.size
    obtain ⟨c1, c2, c3, c4, c5, c6, c7, c8, c9, c10, c11, c12⟩ := HB.out.rel.rows
    go_wp2_with fail
    clear c0 c1 c2 c3 c4 c5 c6 c7 c8 c9 c10 c11 c12
    refine (close_any k a _ HH.out.1).mono ?_
    rintro e wc ⟨rfl, hbc⟩
    have HC := Lib.hid (HB.out.next hbc)
    clear hbc
    have c0 := HC.out.rel.size
    obtain ⟨c1, c2, c3, c4, c5, c6, c7, c8, c9, c10, c11, c12⟩ := HC.out.rel.rows
    have hlt := HC.out.rel.lt
    have hq := fun W => rows_diff (clo k a) a HH.out.2.2 W
    generalize clo k a = b at hq ⊢
    generalize cyc b k = y
    have HD := Lib.hid (HC.out.alloc (.cells (relCs k b) 26))
    cases y
    · go_wp2_with fail
      go_ret
      exact ⟨rfl, HD.out.below⟩
    · go_wp2_with fail
      go_ret
      exact ⟨rfl, HD.out.below⟩

theorem fish_any {B m : Nat} {v : Value} {F T : Nat → Int} {w : World} (h : SRd w B v m F T) (hB : B ≤ w.heap.size) (n : Int) (a : Nat → Nat) (ha : ∀ i, a i < 65536) :
    Calls Try.prog 5 #[v, relV n a] w fun e w' => e = .returned (.bool true) ∧ Below w.heap.size w w' := by
  rcases spErr_ways m F T with h0 | h0
  · exact fish_ok h hB h0 n a (half_ways n a ha)
  · exact fish_err h hB rfl h0 n a (half_ways n a ha)
end Go.Proofs.Ytfjanniojphdoaa
