/-
  alibkeep.SpansFishburn answers true.
-/
import Derived.Test.YtfjanniojphdoaaFishPure
import Derived.Test.YtfjanniojphdoaaSpAlive
import Derived.Test.YtfjanniojphdoaaClo
namespace Go.Proofs.Ytfjanniojphdoaa
open Go.RowKit
set_option maxRecDepth 20000

/-- The relation that was handed in lies in its box; old memory is as it was. -/
structure FiR (w0 : World) (n : Int) (a : Nat → Nat) (w : World) : Prop where
  below : Below w0.heap.size w0 w
  rel : RelB w w0.heap.size n a
theorem FiR.next {w0 w w' : World} {n : Int} {a : Nat → Nat} (h : FiR w0 n a w) (hb : Below w.heap.size w w') : FiR w0 n a w' :=
  ⟨h.below.trans (hb.mono h.below.size), Lies.below h.rel hb h.rel.lt⟩
theorem FiR.alloc {w0 w : World} {n : Int} {a : Nat → Nat} (h : FiR w0 n a w) (o : Obj) : FiR w0 n a (w.alloc o) := h.next ((Below.refl _ _).alloc (Nat.le_refl _) o)

/-- What the second half of the law meets. -/
inductive Half (n : Int) (a : Nat → Nat) : Prop where
  | err (E : Int) (hE : (E != 0) = true) (hc : Checks n a E) : Half n a
  | yes (k : Nat) (hk : n = k) (hg : Good k a) (hc : Chain2 k a) : Half n a
  | same (k : Nat) (hk : n = k) (hg : Good k a) (hc : ¬ Chain2 k a) (hs : clo k a = a) : Half n a
  | diff (k : Nat) (hk : n = k) (hg : Good k a) (hc : ¬ Chain2 k a) (hs : ∃ i, i < 12 ∧ clo k a i ≠ a i) : Half n a
theorem half_ways (n : Int) (a : Nat → Nat) (ha : ∀ i, a i < 65536) : Half n a := by
  rcases check_ways n a ha with ⟨E, hE, _, hc⟩ | ⟨k, hk, hg⟩
  · exact .err E hE hc
  · by_cases hc : Chain2 k a
    · exact .yes k hk hg hc
    · by_cases hs : ∃ i, i < 12 ∧ clo k a i ≠ a i
      · exact .diff k hk hg hc hs
      · refine .same k hk hg hc ?_
        funext i
        rcases Nat.lt_or_ge i 12 with h | h
        · rcases Decidable.em (clo k a i = a i) with h1 | h1
          · exact h1
          · exact absurd ⟨i, h, h1⟩ hs
        · have h1 := warsh_out (a := a) i (show k ≤ i by have := hg.le; omega) k
          exact h1

set_option maxHeartbeats 8000000 in
theorem fish_err {B m : Nat} {v : Value} {F T : Nat → Int} {w : World} (h : SRd w B v m F T) (hB : B ≤ w.heap.size) {E0 : Int} (hE0 : spErr m F T = E0) (hz : (E0 != 0) = true) (n : Int) (a : Nat → Nat) (hh : Half n a) :
    Calls Try.prog 5 #[v, relV n a] w fun e w' => e = .returned (.bool true) ∧ Below w.heap.size w w' := by
  obtain ⟨A, c, rfl⟩ := h.is
  have H := Lib.hid (And.intro h (And.intro hB hE0))
  have hz' : (E0 == 0) = false := by rw [bne_iff_ne] at hz; rw [beq_eq_false_iff_ne]; exact hz
  have HZ := Lib.hid hz
  clear h hE0 hB hz
  have hW : FiR w n a (w.alloc (.cells (relCs n a) 26)) := ⟨(Below.refl _ _).alloc (Nat.le_refl _) _, Lies.new _ _ _⟩
  have HW := Lib.hid hW
  clear hW
  go_enter Try.func5, Try.ntmps5
  go_wp2_with fail
  have hW := HW.out
  clear HW
  change Calls _ _ _ (w.alloc (.cells (relCs n a) 26)) _
  generalize w.alloc (.cells (relCs n a) 26) = W at hW ⊢
  have HW := Lib.hid hW
  clear hW
  refine (of_err (H.out.1.below (HW.out.below.mono H.out.2.1)) (Nat.le_trans H.out.2.1 HW.out.below.size) H.out.2.2 HZ.out).mono ?_
  rintro e w1 ⟨rfl, hb1⟩
  have H1 := Lib.hid (HW.out.next hb1)
  clear hb1 HW
  go_wp2_with fail
  have h2 := H1.out.alloc (.cells (relCs 0 fun _ => 0) 26)
  clear H1
  change Calls _ _ _ (w1.alloc (.cells (relCs 0 fun _ => 0) 26)) _
  generalize w1.alloc (.cells (relCs 0 fun _ => 0) 26) = W1 at h2 ⊢
  have H2 := Lib.hid h2
  clear h2
  refine (slives_true W1).mono ?_
  rintro e w2 ⟨rfl, hb2⟩
  have H3 := Lib.hid (H2.out.next hb2)
  clear hb2 H2
  cases hh with
  | err E hE hc =>
    have HH := Lib.hid (And.intro hE hc)
    clear hE hc
    have c0 := H3.out.rel.size
    obtain ⟨c1, c2, c3, c4, c5, c6, c7, c8, c9, c10, c11, c12⟩ := H3.out.rel.rows
    go_wp2_with fail
    clear c0 c1 c2 c3 c4 c5 c6 c7 c8 c9 c10 c11 c12
    refine (mk_err n a E _ HH.out.1 HH.out.2).mono ?_
    rintro e wa ⟨rfl, hba⟩
    have HA := Lib.hid (H3.out.next hba)
    clear hba
    have c0 := HA.out.rel.size
    obtain ⟨c1, c2, c3, c4, c5, c6, c7, c8, c9, c10, c11, c12⟩ := HA.out.rel.rows
    go_wp2_with fail
    clear c0 c1 c2 c3 c4 c5 c6 c7 c8 c9 c10 c11 c12
    refine (HH.out.2 _).mono ?_
    rintro e wb ⟨rfl, hbb⟩
    have HB := Lib.hid (HA.out.next hbb)
    clear hbb
    have c0 := HB.out.rel.size
    obtain ⟨c1, c2, c3, c4, c5, c6, c7, c8, c9, c10, c11, c12⟩ := HB.out.rel.rows
    have hE := HH.out.1
    go_wp2_with fail
    refine (HH.out.2 _).mono ?_
    rintro e wc ⟨rfl, hbc⟩
    have HC := Lib.hid (HB.out.next hbc)
    clear hbc
    go_wp2_with fail
    go_ret
    exact ⟨rfl, HC.out.below⟩
  | yes k hk hg hc =>
    subst hk
    have HH := Lib.hid (And.intro hg hc)
    clear hg hc
    have c0 := H3.out.rel.size
    obtain ⟨c1, c2, c3, c4, c5, c6, c7, c8, c9, c10, c11, c12⟩ := H3.out.rel.rows
    go_wp2_with fail
    clear c0 c1 c2 c3 c4 c5 c6 c7 c8 c9 c10 c11 c12
    refine (mk_ok k a _ HH.out.1 HH.out.2).mono ?_
    rintro e wa ⟨vm, rfl, hba, -, -, -⟩
    have HA := Lib.hid (H3.out.next hba)
    clear hba
    have c0 := HA.out.rel.size
    obtain ⟨c1, c2, c3, c4, c5, c6, c7, c8, c9, c10, c11, c12⟩ := HA.out.rel.rows
    go_wp2_with fail
    clear c0 c1 c2 c3 c4 c5 c6 c7 c8 c9 c10 c11 c12
    refine (check_ok k a _ HH.out.1.le HH.out.1.lt HH.out.1.rows).mono ?_
    rintro e wb ⟨rfl, hbb⟩
    have HB := Lib.hid (HA.out.next hbb)
    clear hbb
    have c0 := HB.out.rel.size
    obtain ⟨c1, c2, c3, c4, c5, c6, c7, c8, c9, c10, c11, c12⟩ := HB.out.rel.rows
    go_wp2_with fail
    clear c0 c1 c2 c3 c4 c5 c6 c7 c8 c9 c10 c11 c12
    refine (close_any k a _ HH.out.1).mono ?_
    rintro e wc ⟨rfl, hbc⟩
    have HC := Lib.hid (HB.out.next hbc)
    clear hbc
    have c0 := HC.out.rel.size
    obtain ⟨c1, c2, c3, c4, c5, c6, c7, c8, c9, c10, c11, c12⟩ := HC.out.rel.rows
    have hlt := HC.out.rel.lt
    have hcl := spOK_closed (spOK_of HH.out.2) HH.out.1
    rw [hcl.1, hcl.2]
    clear hcl
    have hq := fun W => rows_same (a 0 : Nat) (a 1 : Nat) (a 2 : Nat) (a 3 : Nat) (a 4 : Nat) (a 5 : Nat) (a 6 : Nat) (a 7 : Nat) (a 8 : Nat) (a 9 : Nat) (a 10 : Nat) (a 11 : Nat) W
    go_wp2_with fail
    refine (spanned_go k a _ HH.out.1.le).mono ?_
    rintro e wd ⟨hbd, ⟨rfl, -⟩ | ⟨-, hsp⟩⟩
    · have HD := Lib.hid ((HC.out.alloc (.cells (relCs k a) 26)).next hbd)
      clear hbd
      go_wp2_with fail
      go_ret
      exact ⟨rfl, HD.out.below⟩
    · exact absurd (spOK_of HH.out.2) hsp
  | same k hk hg hc hs =>
    subst hk
    have HH := Lib.hid (And.intro hg (And.intro hc hs))
    clear hg hc hs
    have c0 := H3.out.rel.size
    obtain ⟨c1, c2, c3, c4, c5, c6, c7, c8, c9, c10, c11, c12⟩ := H3.out.rel.rows
    go_wp2_with fail
    clear c0 c1 c2 c3 c4 c5 c6 c7 c8 c9 c10 c11 c12
    refine (mk_no k a _ HH.out.1 HH.out.2.1).mono ?_
    rintro e wa ⟨rfl, hba⟩
    have HA := Lib.hid (H3.out.next hba)
    clear hba
    have c0 := HA.out.rel.size
    obtain ⟨c1, c2, c3, c4, c5, c6, c7, c8, c9, c10, c11, c12⟩ := HA.out.rel.rows
    go_wp2_with fail
    clear c0 c1 c2 c3 c4 c5 c6 c7 c8 c9 c10 c11 c12
    refine (check_ok k a _ HH.out.1.le HH.out.1.lt HH.out.1.rows).mono ?_
    rintro e wb ⟨rfl, hbb⟩
    have HB := Lib.hid (HA.out.next hbb)
    clear hbb
    have c0 := HB.out.rel.size
    obtain ⟨c1, c2, c3, c4, c5, c6, c7, c8, c9, c10, c11, c12⟩ := HB.out.rel.rows
    go_wp2_with fail
    clear c0 c1 c2 c3 c4 c5 c6 c7 c8 c9 c10 c11 c12
    refine (close_any k a _ HH.out.1).mono ?_
    rintro e wc ⟨rfl, hbc⟩
    have HC := Lib.hid (HB.out.next hbc)
    clear hbc
    have c0 := HC.out.rel.size
    obtain ⟨c1, c2, c3, c4, c5, c6, c7, c8, c9, c10, c11, c12⟩ := HC.out.rel.rows
    have hlt := HC.out.rel.lt
    rw [HH.out.2.2]
    generalize cyc a k = y
    cases y
    · have hq := fun W => rows_same (a 0 : Nat) (a 1 : Nat) (a 2 : Nat) (a 3 : Nat) (a 4 : Nat) (a 5 : Nat) (a 6 : Nat) (a 7 : Nat) (a 8 : Nat) (a 9 : Nat) (a 10 : Nat) (a 11 : Nat) W
      go_wp2_with fail
      refine (spanned_go k a _ HH.out.1.le).mono ?_
      rintro e wd ⟨hbd, ⟨-, hsp⟩ | ⟨rfl, -⟩⟩
      · exact absurd (chain2_of hsp) HH.out.2.1
      · have HD := Lib.hid ((HC.out.alloc (.cells (relCs k a) 26)).next hbd)
        clear hbd
        go_wp2_with fail
        go_ret
        exact ⟨rfl, HD.out.below⟩
    · have HD := Lib.hid (HC.out.alloc (.cells (relCs k a) 26))
      go_wp2_with fail
      go_ret
      exact ⟨rfl, HD.out.below⟩
  | diff k hk hg hc hs =>
    subst hk
    have HH := Lib.hid (And.intro hg (And.intro hc hs))
    clear hg hc hs
    have c0 := H3.out.rel.size
    obtain ⟨c1, c2, c3, c4, c5, c6, c7, c8, c9, c10, c11, c12⟩ := H3.out.rel.rows
    go_wp2_with fail
    clear c0 c1 c2 c3 c4 c5 c6 c7 c8 c9 c10 c11 c12
    refine (mk_no k a _ HH.out.1 HH.out.2.1).mono ?_
    rintro e wa ⟨rfl, hba⟩
    have HA := Lib.hid (H3.out.next hba)
    clear hba
    have c0 := HA.out.rel.size
    obtain ⟨c1, c2, c3, c4, c5, c6, c7, c8, c9, c10, c11, c12⟩ := HA.out.rel.rows
    go_wp2_with fail
    clear c0 c1 c2 c3 c4 c5 c6 c7 c8 c9 c10 c11 c12
    refine (check_ok k a _ HH.out.1.le HH.out.1.lt HH.out.1.rows).mono ?_
    rintro e wb ⟨rfl, hbb⟩
    have HB := Lib.hid (HA.out.next hbb)
    clear hbb
    have c0 := HB.out.rel.size
    obtain ⟨c1, c2, c3, c4, c5, c6, c7, c8, c9, c10, c11, c12⟩ := HB.out.rel.rows
    go_wp2_with fail
    clear c0 c1 c2 c3 c4 c5 c6 c7 c8 c9 c10 c11 c12
    refine (close_any k a _ HH.out.1).mono ?_
    rintro e wc ⟨rfl, hbc⟩
    have HC := Lib.hid (HB.out.next hbc)
    clear hbc
    have c0 := HC.out.rel.size
    obtain ⟨c1, c2, c3, c4, c5, c6, c7, c8, c9, c10, c11, c12⟩ := HC.out.rel.rows
    have hlt := HC.out.rel.lt
    have hq := fun W => rows_diff (clo k a) a HH.out.2.2 W
    generalize clo k a = b at hq ⊢
    generalize cyc b k = y
    have HD := Lib.hid (HC.out.alloc (.cells (relCs k b) 26))
    cases y
    · go_wp2_with fail
      go_ret
      exact ⟨rfl, HD.out.below⟩
    · go_wp2_with fail
      go_ret
      exact ⟨rfl, HD.out.below⟩
end Go.Proofs.Ytfjanniojphdoaa
