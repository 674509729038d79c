/-
  aliblaw.SpansSay answers true, whatever the spans.
-/
import Derived.Test.YtfjanniojphdoaaSpRef
import Derived.Test.YtfjanniojphdoaaSame
import Derived.Deep.RegionHeld3
namespace Go.Proofs.Ytfjanniojphdoaa
open Go.RowKit
set_option maxRecDepth 20000

/-- A relation lies in block C; old memory is as it was. -/
structure OneR (w0 : World) (C m : Nat) (c : Nat → Nat) (w : World) : Prop where
  below : Below w0.heap.size w0 w
  one : RelB w C m c
theorem OneR.next {w0 w w' : World} {C m : Nat} {c : Nat → Nat} (h : OneR w0 C m c w) (hb : Below w.heap.size w w') : OneR w0 C m c w' :=
  ⟨h.below.trans (hb.mono h.below.size), Lies.below h.one hb h.one.lt⟩
theorem OneR.alloc {w0 w : World} {C m : Nat} {c : Nat → Nat} (h : OneR w0 C m c w) (o : Obj) : OneR w0 C m c (w.alloc o) := h.next ((Below.refl _ _).alloc (Nat.le_refl _) o)

set_option maxHeartbeats 2000000 in
theorem say_err {B m : Nat} {v : Value} {F T : Nat → Int} {w : World} (h : SRd w B v m F T) (hB : B ≤ w.heap.size) {E : Int} (hE : spErr m F T = E) (hz : (E != 0) = true) :
    Calls Try.prog 3 #[v] w fun e w' => e = .returned (.bool true) ∧ Below w.heap.size w w' := by
  obtain ⟨A, c, rfl⟩ := h.is
  have H := Lib.hid (And.intro h (And.intro hB (And.intro hE hz)))
  clear h hB hE
  go_enter Try.func3, Try.ntmps3
  go_wp2_with fail
  refine (of_err H.out.1 H.out.2.1 H.out.2.2.1 H.out.2.2.2).mono ?_
  rintro e w1 ⟨rfl, hb1⟩
  have H1 := Lib.hid hb1
  clear hb1
  go_wp2_with fail
  obtain ⟨C, hC⟩ : ∃ C, C = w1.heap.size := ⟨_, rfl⟩
  have h1 : OneR w C 0 (fun _ => 0) (w1.alloc (.cells (relCs 0 fun _ => 0) 26)) := ⟨H1.out.alloc H1.out.size _, by rw [hC]; exact Lies.new _ _ _⟩
  rw [← hC]
  clear hC H1
  change Calls _ _ _ (w1.alloc (.cells (relCs 0 fun _ => 0) 26)) _
  generalize w1.alloc (.cells (relCs 0 fun _ => 0) 26) = W1 at h1 ⊢
  have H1 := Lib.hid h1
  clear h1
  refine (meets_err (H.out.1.below (H1.out.below.mono H.out.2.1)) (Nat.le_trans H.out.2.1 H1.out.below.size) H.out.2.2.1 H.out.2.2.2).mono ?_
  rintro e w2 ⟨rfl, hb2⟩
  have H2 := Lib.hid (H1.out.next hb2)
  clear hb2 H1
  go_wp2_with fail
  refine (right_any (H.out.1.below (H2.out.below.mono H.out.2.1)) (Nat.le_trans H.out.2.1 H2.out.below.size)).mono ?_
  rintro e w3 ⟨rfl, hb3⟩
  rw [H.out.2.2.1]
  have H3 := Lib.hid (H2.out.next hb3)
  clear hb3 H2
  go_wp2_with fail
  refine (chk_any (H.out.1.below (H3.out.below.mono H.out.2.1)) (Nat.le_trans H.out.2.1 H3.out.below.size)).mono ?_
  rintro e w4 ⟨rfl, hb4⟩
  rw [H.out.2.2.1]
  have H4 := Lib.hid (H3.out.next hb4)
  clear hb4 H3
  have c0 := H4.out.one.size
  obtain ⟨c1, c2, c3, c4, c5, c6, c7, c8, c9, c10, c11, c12⟩ := H4.out.one.rows
  have hq := rows_same 0 0 0 0 0 0 0 0 0 0 0 0 w4
  go_wp2_with fail
  go_ret
  exact ⟨rfl, H4.out.below⟩

set_option maxHeartbeats 4000000 in
theorem say_ok {B m : Nat} {v : Value} {F T : Nat → Int} {w : World} (h : SRd w B v m F T) (hB : B ≤ w.heap.size) (hE : spErr m F T = 0) :
    Calls Try.prog 3 #[v] w fun e w' => e = .returned (.bool true) ∧ Below w.heap.size w w' := by
  have hm : m ≤ 12 := (spErr_zero.1 hE).1
  obtain ⟨A, c, rfl⟩ := h.is
  have H := Lib.hid (And.intro h (And.intro hB hE))
  clear h hB hE
  go_enter Try.func3, Try.ntmps3
  go_wp2_with fail
  refine (of_ok H.out.1 H.out.2.1 H.out.2.2).mono ?_
  rintro e w1 ⟨rfl, hb1⟩
  have H1 := Lib.hid hb1
  clear hb1
  go_wp2_with fail
  obtain ⟨C, hC⟩ : ∃ C, C = w1.heap.size := ⟨_, rfl⟩
  have h1 : OneR w C m (spRel m F T) (w1.alloc (.cells (relCs m (spRel m F T)) 26)) := ⟨H1.out.alloc H1.out.size _, by rw [hC]; exact Lies.new _ _ _⟩
  rw [← hC]
  clear hC H1
  change Calls _ _ _ (w1.alloc (.cells (relCs m (spRel m F T)) 26)) _
  generalize w1.alloc (.cells (relCs m (spRel m F T)) 26) = W1 at h1 ⊢
  have H1 := Lib.hid h1
  clear h1
  refine (meets_ok (H.out.1.below (H1.out.below.mono H.out.2.1)) (Nat.le_trans H.out.2.1 H1.out.below.size) H.out.2.2).mono ?_
  rintro e w2 ⟨rfl, hb2⟩
  have H2 := Lib.hid (H1.out.next hb2)
  clear hb2 H1
  go_wp2_with fail
  refine (right_any (H.out.1.below (H2.out.below.mono H.out.2.1)) (Nat.le_trans H.out.2.1 H2.out.below.size)).mono ?_
  rintro e w3 ⟨rfl, hb3⟩
  rw [H.out.2.2]
  have H3 := Lib.hid (H2.out.next hb3)
  clear hb3 H2
  go_wp2_with fail
  refine (chk_any (H.out.1.below (H3.out.below.mono H.out.2.1)) (Nat.le_trans H.out.2.1 H3.out.below.size)).mono ?_
  rintro e w4 ⟨rfl, hb4⟩
  rw [H.out.2.2]
  have H4 := Lib.hid (H3.out.next hb4)
  clear hb4 H3
  go_wp2_with fail
  go_loopw [9, 10, 58] (fun p q i wr => ∃ k : Nat, k ≤ m ∧ i = .int .i64 k ∧ p = .int .i64 (bestUp m F T k).1 ∧ q = .int .i64 ((bestUp m F T k).2 : Nat) ∧ OneR w C m (spRel m F T) wr) (fun _ _ i _ => m - (intOf i).toNat)
  case atStart => exact ⟨0, by omega, rfl, rfl, rfl, H4.out⟩
  case round =>
    clear H4
    obtain ⟨k, hk, rfl, rfl, rfl, hR⟩ := hrel
    have HA := Lib.hid hR
    by_cases hkm : k < m
    · obtain ⟨g, o, rfl, hg⟩ := H.out.1.addr (by omega)
      obtain ⟨d1, d2⟩ := (H.out.1.below (hR.below.mono H.out.2.1)).cells hkm
      clear hR hg
      have i1 : (0 : Int) ≤ (k : Int) := by omega
      have i2 : (k : Int) < (m : Int) := by omega
      have hs : bestUp m F T (k + 1) = if (bestUp m F T k).2 < cntAt F T (F k) m ∨ (cntAt F T (F k) m = (bestUp m F T k).2 ∧ F k < (bestUp m F T k).1) then (F k, cntAt F T (F k) m) else bestUp m F T k := rfl
      generalize hf : F k = f at d1 hs
      generalize ht : T k = tt at d2
      generalize hbk : bestUp m F T k = bk at hs ⊢
      obtain ⟨p, q⟩ := bk
      have HS := Lib.hid hs
      clear ht hf hbk hs
      go_wp2_with fail
      obtain ⟨P, hP⟩ : ∃ P, P = wr.heap.size := ⟨_, rfl⟩
      have hl : Lies (wr.alloc (.cells #[.int .i64 f, .int .i64 tt] 34)) P 34 #[.int .i64 f, .int .i64 tt] := by rw [hP]; exact Lies.new _ _ _
      have hR := HA.out.alloc (.cells #[.int .i64 f, .int .i64 tt] 34)
      rw [← hP]
      clear hP HA d1 d2
      generalize wr.alloc (.cells #[.int .i64 f, .int .i64 tt] 34) = W2 at hl hR ⊢
      go_loopw [13, 64] (fun a i wr => ∃ j N : Nat, j ≤ m ∧ i = .int .i64 j ∧ a = .int .i64 N ∧ cntAt F T f j = N ∧ OneR w C m (spRel m F T) wr ∧ Lies wr P 34 #[.int .i64 f, .int .i64 tt]) (fun _ i _ => m - (intOf i).toNat)
      case atStart => exact ⟨0, 0, by omega, rfl, rfl, rfl, hR, hl⟩
      case round =>
        clear hR hl
        obtain ⟨j, N, hj, rfl, rfl, hN, hR, hl⟩ := hrel
        have hNj : N ≤ j := hN ▸ cntAt_le F T f j
        have e1 : wr.cell? ⟨P, 0, none⟩ = some (.int .i64 f) := Lies.cell hl 0
        have e2 : wr.cell? ⟨P, 1, none⟩ = some (.int .i64 tt) := Lies.cell hl 1
        have hPl := hl.lt
        by_cases hjm : j < m
        · obtain ⟨d1, d2⟩ := (H.out.1.below (hR.below.mono H.out.2.1)).cells hjm
          have j1 : (0 : Int) ≤ (j : Int) := by omega
          have j2 : (j : Int) < (m : Int) := by omega
          have hw : IntKind.i64.wrap ((N : Int) + 1) = ((N + 1 : Nat) : Int) := by rw [IntKind.wrap_i64]; omega
          have hst : cntAt F T f (j + 1) = cntAt F T f j + if F j ≤ f ∧ f ≤ T j then 1 else 0 := rfl
          rw [hN] at hst
          generalize F j = f' at d1 hst
          generalize T j = t' at d2 hst
          have HX := Lib.hid (And.intro (hR.alloc (.cells #[.int .i64 f', .int .i64 t'] 34)) (Lies.alloc hl (.cells #[.int .i64 f', .int .i64 t'] 34)))
          clear hR hl hN
          by_cases hc : f' ≤ f ∧ f ≤ t'
          · rw [if_pos hc] at hst
            have HT := Lib.hid hst
            have hd : decide (f' ≤ f ∧ f ≤ t') = true := decide_eq_true hc
            clear hst hc
            go_wp2_with fail
            refine (between_any f f' t' _).mono ?_
            rintro e w' ⟨rfl, rfl⟩
            rw [hd]
            go_wp2_with fail
            go_roundw
            case rel => exact ⟨j + 1, N + 1, by omega, by go_num, by go_num, HT.out, HX.out⟩
            case measure => simp [intOf]; omega
          · rw [if_neg hc] at hst
            have HT := Lib.hid hst
            have hd : decide (f' ≤ f ∧ f ≤ t') = false := decide_eq_false hc
            clear hst hc
            go_wp2_with fail
            refine (between_any f f' t' _).mono ?_
            rintro e w' ⟨rfl, rfl⟩
            rw [hd]
            go_wp2_with fail
            go_roundw
            case rel => exact ⟨j + 1, N, by omega, by go_num, rfl, HT.out, HX.out⟩
            case measure => simp [intOf]; omega
        · obtain rfl : j = m := by omega
          have hs := HS.out
          rw [hN] at hs
          have HX := Lib.hid hR
          clear hR hl HS hN
          by_cases h1 : q < N
          · rw [if_pos (Or.inl h1)] at hs
            have HS := Lib.hid hs
            clear hs
            have h1' : (q : Int) < (N : Int) := by omega
            go_wp2_with fail
            go_roundw
            case rel => exact ⟨k + 1, by omega, by go_num, by rw [HS.out], by rw [HS.out], HX.out⟩
            case measure => simp [intOf]; omega
          · have h1' : ¬ (q : Int) < (N : Int) := by omega
            by_cases h2 : N = q
            · by_cases h3 : f < p
              · rw [if_pos (Or.inr ⟨h2, h3⟩)] at hs
                subst h2
                have HS := Lib.hid hs
                clear hs
                go_wp2_with fail
                go_roundw
                case rel => exact ⟨k + 1, by omega, by go_num, by rw [HS.out], by rw [HS.out], HX.out⟩
                case measure => simp [intOf]; omega
              · rw [if_neg (by rintro (h | ⟨_, h⟩) <;> contradiction)] at hs
                subst h2
                have HS := Lib.hid hs
                clear hs
                go_wp2_with fail
                go_roundw
                case rel => exact ⟨k + 1, by omega, by go_num, by rw [HS.out], by rw [HS.out], HX.out⟩
                case measure => simp [intOf]; omega
            · rw [if_neg (by rintro (h | ⟨h, _⟩) <;> contradiction)] at hs
              have HS := Lib.hid hs
              have h2' : ((N : Int) == (q : Int)) = false := by rw [beq_eq_false_iff_ne]; omega
              clear hs
              go_wp2_with fail
              go_roundw
              case rel => exact ⟨k + 1, by omega, by go_num, by rw [HS.out], by rw [HS.out], HX.out⟩
              case measure => simp [intOf]; omega
    · obtain rfl : k = m := by omega
      clear hR
      generalize hbk : bestUp k F T k = bk
      obtain ⟨p, q⟩ := bk
      clear hbk
      go_wp2_with fail
      have hfun := fun (W : World) (hW : OneR w C k (spRel k F T) W) => srel_any (H.out.1.below (hW.below.mono H.out.2.1)) (Nat.le_trans H.out.2.1 hW.below.size) hm
      have HF := Lib.hid hfun
      have hF : ∀ w', OneR w C k (spRel k F T) w' → (w'.cell? ⟨C, 0, none⟩ = some (.int .i64 (k : Int)) ∧ w'.cell? ⟨C, 1, none⟩ = some (.int .u16 (spRel k F T 0 : Nat)) ∧ w'.cell? ⟨C, 2, none⟩ = some (.int .u16 (spRel k F T 1 : Nat)) ∧ w'.cell? ⟨C, 3, none⟩ = some (.int .u16 (spRel k F T 2 : Nat)) ∧ w'.cell? ⟨C, 4, none⟩ = some (.int .u16 (spRel k F T 3 : Nat)) ∧ w'.cell? ⟨C, 5, none⟩ = some (.int .u16 (spRel k F T 4 : Nat)) ∧ w'.cell? ⟨C, 6, none⟩ = some (.int .u16 (spRel k F T 5 : Nat)) ∧ w'.cell? ⟨C, 7, none⟩ = some (.int .u16 (spRel k F T 6 : Nat)) ∧ w'.cell? ⟨C, 8, none⟩ = some (.int .u16 (spRel k F T 7 : Nat)) ∧ w'.cell? ⟨C, 9, none⟩ = some (.int .u16 (spRel k F T 8 : Nat)) ∧ w'.cell? ⟨C, 10, none⟩ = some (.int .u16 (spRel k F T 9 : Nat)) ∧ w'.cell? ⟨C, 11, none⟩ = some (.int .u16 (spRel k F T 10 : Nat)) ∧ w'.cell? ⟨C, 12, none⟩ = some (.int .u16 (spRel k F T 11 : Nat)) ∧ OneR w C k (spRel k F T) w') := fun w' h => by
        obtain ⟨q1, q2, q3, q4, q5, q6, q7, q8, q9, q10, q11, q12⟩ := h.one.rows
        exact ⟨h.one.size, q1, q2, q3, q4, q5, q6, q7, q8, q9, q10, q11, q12, h⟩
      have HK := Lib.hid hF
      have hq := fun W => rows_same (spRel k F T 0 : Nat) (spRel k F T 1 : Nat) (spRel k F T 2 : Nat) (spRel k F T 3 : Nat) (spRel k F T 4 : Nat) (spRel k F T 5 : Nat) (spRel k F T 6 : Nat) (spRel k F T 7 : Nat) (spRel k F T 8 : Nat) (spRel k F T 9 : Nat) (spRel k F T 10 : Nat) (spRel k F T 11 : Nat) W
      have HR := HA
      have HD := Lib.hid (HA.out.next (Below.refl _ _).drew)
      clear hfun hF HA
      go_region_held3 (fun w' => w'.cell? ⟨C, 0, none⟩ = some (.int .i64 (k : Int)) ∧ w'.cell? ⟨C, 1, none⟩ = some (.int .u16 (spRel k F T 0 : Nat)) ∧ w'.cell? ⟨C, 2, none⟩ = some (.int .u16 (spRel k F T 1 : Nat)) ∧ w'.cell? ⟨C, 3, none⟩ = some (.int .u16 (spRel k F T 2 : Nat)) ∧ w'.cell? ⟨C, 4, none⟩ = some (.int .u16 (spRel k F T 3 : Nat)) ∧ w'.cell? ⟨C, 5, none⟩ = some (.int .u16 (spRel k F T 4 : Nat)) ∧ w'.cell? ⟨C, 6, none⟩ = some (.int .u16 (spRel k F T 5 : Nat)) ∧ w'.cell? ⟨C, 7, none⟩ = some (.int .u16 (spRel k F T 6 : Nat)) ∧ w'.cell? ⟨C, 8, none⟩ = some (.int .u16 (spRel k F T 7 : Nat)) ∧ w'.cell? ⟨C, 9, none⟩ = some (.int .u16 (spRel k F T 8 : Nat)) ∧ w'.cell? ⟨C, 10, none⟩ = some (.int .u16 (spRel k F T 9 : Nat)) ∧ w'.cell? ⟨C, 11, none⟩ = some (.int .u16 (spRel k F T 10 : Nat)) ∧ w'.cell? ⟨C, 12, none⟩ = some (.int .u16 (spRel k F T 11 : Nat)) ∧ OneR w C k (spRel k F T) w') ((refine HK.out _ ?_; first | exact HR.out | exact HD.out | exact hN.out | exact (hN.out).next (Below.refl _ _).drew)) (first
        | (go_at_call 12; refine (HF.out _ HD.out).mono ?_; rintro e w' ⟨rfl, hb'⟩; have hN := Lib.hid ((HD.out).next hb'); clear hb'))
      go_wp2_with fail
      go_ret
      exact ⟨rfl, hN.out.below⟩

theorem say_any {B m : Nat} {v : Value} {F T : Nat → Int} {w : World} (h : SRd w B v m F T) (hB : B ≤ w.heap.size) :
    Calls Try.prog 3 #[v] w fun e w' => e = .returned (.bool true) ∧ Below w.heap.size w w' := by
  rcases spErr_ways m F T with h0 | h0
  · exact say_ok h hB h0
  · exact say_err h hB rfl h0
end Go.Proofs.Ytfjanniojphdoaa
