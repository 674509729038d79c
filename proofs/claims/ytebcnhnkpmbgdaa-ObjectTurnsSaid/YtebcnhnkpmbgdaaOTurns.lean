/-
  The walk of ObjectTurns.
-/
import Derived.Test.YtebcnhnkpmbgdaaOOne
import Derived.Test.YtebcnhnkpmbgdaaDdArg
namespace Go.Proofs.Ytebcnhnkpmbgdaa
open Go.RowKit
set_option maxRecDepth 20000

/-- Two boxes of what is done, one behind the other. -/
structure Boxes (W : World) (p : Nat) (a b : Dd) : Prop where
  one : Lies W p 61 (ddCs a).toArray
  two : Lies W (p + 1) 61 (ddCs b).toArray
theorem Boxes.on {W W' : World} {p : Nat} {a b : Dd} (h : Boxes W p a b) (hb : Below W.heap.size W W') : Boxes W' p a b := ⟨h.one.below hb h.one.lt, h.two.below hb h.two.lt⟩
theorem Boxes.cells {W : World} {p : Nat} {a b : Dd} (h : Boxes W p a b) : W.cell? ⟨p, 0, none⟩ = some (.int .i64 a.kind) ∧ W.cell? ⟨p, 1, none⟩ = some (.int .i64 a.arg) ∧ W.cell? ⟨p + 1, 0, none⟩ = some (.int .i64 b.kind) ∧ W.cell? ⟨p + 1, 1, none⟩ = some (.int .i64 b.arg) := by
  refine ⟨?_, ?_, ?_, ?_⟩
  · rw [h.one.cell]; rfl
  · rw [h.one.cell]; rfl
  · rw [h.two.cell]; rfl
  · rw [h.two.cell]; rfl
theorem Boxes.new (w : World) (a b : Dd) : Boxes ((w.alloc (.cells (ddCs a).toArray 61)).alloc (.cells (ddCs b).toArray 61)) w.heap.size a b :=
  ⟨(Lies.new w _ _).alloc _, by have := Lies.new (w.alloc (.cells (ddCs a).toArray 61)) 61 (ddCs b).toArray; simpa using this⟩
theorem below_new2 (w : World) (a b : Dd) : Below w.heap.size w ((w.alloc (.cells (ddCs a).toArray 61)).alloc (.cells (ddCs b).toArray 61)) := ((Below.refl _ _).alloc (Nat.le_refl _) _).alloc (by simp) _

/-- Where it is asked at once: one number, and not only asked. -/
theorem turn_ways (ak aa bk ba : Int) : ((aa == ba) = true ∧ (ak != 9) = true) ∨ ((aa == ba) = true ∧ (ak != 9) = false ∧ (bk != 9) = true) ∨ ((aa == ba) = false ∧ (aa = ba → ak = 9 ∧ bk = 9)) ∨ ((aa == ba) = true ∧ (ak != 9) = false ∧ (bk != 9) = false ∧ (aa = ba → ak = 9 ∧ bk = 9)) := by
  simp only [beq_eq_false_iff_ne, beq_iff_eq, bne_iff_ne, bne_eq_false_iff_eq]
  omega

theorem second_errs (w : World) (x y : Int) : IRd ((w.alloc (.cells #[.int .i64 0, .int .i64 0] 25)).alloc (.cells #[.int .i64 x, .int .i64 y] 25)) (w.heap.size + 1 + 1) (.slice (some ⟨w.heap.size + 1, 0, none⟩) 2 2) [x, y] := by
  have := IRd.fresh (w.alloc (.cells #[.int .i64 0, .int .i64 0] 25)) 25 [x, y] 2 rfl #[.int .i64 x, .int .i64 y] rfl
  simpa using this

set_option maxHeartbeats 2000000 in
theorem turns_any {v : Value} {s : List Int} {w : World} (hr : NRd w w.heap.size v s) (a b : Dd) :
    Calls Try.prog 7 #[v, ddV a, ddV b] w fun e w' => e = .returned (.bool true) ∧ Below w.heap.size w w' := by
  obtain ⟨A, cap, rfl, m1, m2⟩ := hr.is
  unfold maxLen at m2
  obtain ⟨ak, aa, ar⟩ := a
  obtain ⟨bk, ba, br⟩ := b
  have HR := Lib.hid (fun (W : World) (h : Below w.heap.size w W) => NRd.on hr h)
  have HB0 := Lib.hid (And.intro (Boxes.new w ⟨ak, aa, ar⟩ ⟨bk, ba, br⟩) (below_new2 w ⟨ak, aa, ar⟩ ⟨bk, ba, br⟩))
  clear hr
  rcases turn_ways ak aa bk ba with ⟨t1, t2⟩ | ⟨t1, t2, t3⟩ | ⟨t1, t4⟩ | ⟨t1, t2, t3, t4⟩
  · go_enter Try.func7, Try.ntmps7
    go_wp2_with fail
    refine (olives_any _).mono ?_
    rintro e w1 ⟨rfl, hb1⟩
    obtain ⟨c0, c1, c2, c3⟩ := (HB0.out.1.on hb1).cells
    have H1 := Lib.hid (below_on HB0.out.2 hb1)
    clear hb1 HB0
    go_wp2_with fail
    refine (olives_any _).mono ?_
    rintro e w2 ⟨rfl, hb2⟩
    have H2 := Lib.hid (below_on H1.out hb2)
    clear hb2
    go_wp2_with fail
    go_ret
    exact ⟨rfl, H2.out⟩
  · go_enter Try.func7, Try.ntmps7
    go_wp2_with fail
    refine (olives_any _).mono ?_
    rintro e w1 ⟨rfl, hb1⟩
    obtain ⟨c0, c1, c2, c3⟩ := (HB0.out.1.on hb1).cells
    have H1 := Lib.hid (below_on HB0.out.2 hb1)
    clear hb1 HB0
    go_wp2_with fail
    refine (olives_any _).mono ?_
    rintro e w2 ⟨rfl, hb2⟩
    have H2 := Lib.hid (below_on H1.out hb2)
    clear hb2
    go_wp2_with fail
    go_ret
    exact ⟨rfl, H2.out⟩
  all_goals
    go_enter Try.func7, Try.ntmps7
    go_wp2_with fail
    refine (olives_any _).mono ?_
    rintro e w1 ⟨rfl, hb1⟩
    have hB1 := HB0.out.1.on hb1
    obtain ⟨c0, c1, c2, c3⟩ := hB1.cells
    have H1 := Lib.hid (And.intro hB1 (below_on HB0.out.2 hb1))
    have hc := check_any 4 (HR.out _ H1.out.2)
    have HC := Lib.hid hc
    have HT := Lib.hid t4
    clear hb1 HB0 hB1 hc t4
    go_wp2_with fail
    refine HC.out.mono ?_
    rintro e w2 ⟨rfl, hb2⟩
    have H2 := Lib.hid (And.intro (H1.out.1.on hb2) (below_on H1.out.2 hb2))
    clear hb2 H1 HC c0 c1 c2 c3
    by_cases he : stateE 4 s = 0
    · rw [he]
      have HE := Lib.hid he
      clear he
      by_cases hl : 45 < s.length
      · have hl' : (45 : Int) < (s.length : Int) := by omega
        go_wp2_with fail
        refine (olives_any _).mono ?_
        rintro e w3 ⟨rfl, hb3⟩
        have H3 := Lib.hid (below_on H2.out.2 hb3)
        clear hb3
        go_wp2_with fail
        go_ret
        exact ⟨rfl, H3.out⟩
      · have hl' : ¬ (45 : Int) < (s.length : Int) := by omega
        have hS1 := fun (W : World) (h : Below w.heap.size w W) => step_any 4 ak aa (HR.out W h)
        have hS3 := fun (W : World) (h : Below w.heap.size w W) => step_any 4 bk ba (HR.out W h)
        have hS2 := fun (W : World) (v : Value) (h : NRd W W.heap.size v (stepO 4 s ak aa).1) => step_any 4 bk ba h
        have hS4 := fun (W : World) (v : Value) (h : NRd W W.heap.size v (stepO 4 s bk ba).1) => step_any 4 ak aa h
        have hT := fun h1 h2 h3 h4 => set_turns (s := s) HT.out h1 h2 h3 h4
        unfold StepPost at hS1 hS2 hS3 hS4
        generalize stepO 4 s ak aa = o1 at hS1 hS2 hT
        obtain ⟨s1, r1, e1⟩ := o1
        generalize stepO 4 s bk ba = o3 at hS3 hS4 hT
        obtain ⟨s3, r3, e3⟩ := o3
        simp only at hS1 hS2 hS3 hS4 hT
        generalize stepO 4 s1 bk ba = o2 at hS2 hT
        obtain ⟨s2, r2, e2⟩ := o2
        generalize stepO 4 s3 ak aa = o4 at hS4 hT
        obtain ⟨s4, r4, e4⟩ := o4
        simp only at hS2 hS4 hT
        have HS1 := Lib.hid hS1
        have HS2 := Lib.hid hS2
        have HS3 := Lib.hid hS3
        have HS4 := Lib.hid hS4
        have HTT := Lib.hid hT
        clear hS1 hS2 hS3 hS4 hT HT HE hl
        obtain ⟨c0, c1, c2, c3⟩ := H2.out.1.cells
        go_wp2_with fail
        refine (HS1.out _ H2.out.2).mono ?_
        rintro e w3 ⟨v3, rfl, ho3, hb3⟩
        obtain ⟨A3, q3, rfl, _, _⟩ := ho3.rd.is
        have H3 := Lib.hid (And.intro ho3.rd (And.intro (H2.out.1.on hb3) (below_on H2.out.2 hb3)))
        clear ho3 hb3 c0 c1 c2 c3 H2 HS1
        obtain ⟨c0, c1, c2, c3⟩ := H3.out.2.1.cells
        go_wp2_with fail
        refine (HS2.out _ _ H3.out.1).mono ?_
        rintro e w4 ⟨v4, rfl, ho4, hb4⟩
        obtain ⟨A4, q4, rfl, _, _⟩ := ho4.rd.is
        have H4 := Lib.hid (And.intro ho4.rd (And.intro (H3.out.2.1.on hb4) (below_on H3.out.2.2 hb4)))
        clear ho4 hb4 c0 c1 c2 c3 H3 HS2
        obtain ⟨c0, c1, c2, c3⟩ := H4.out.2.1.cells
        go_wp2_with fail
        refine (HS3.out _ H4.out.2.2).mono ?_
        rintro e w5 ⟨v5, rfl, ho5, hb5⟩
        obtain ⟨A5, q5, rfl, _, _⟩ := ho5.rd.is
        have H5 := Lib.hid (And.intro ho5.rd (And.intro (H4.out.2.1.on hb5) (And.intro (below_on H4.out.2.2 hb5) (NRd.on H4.out.1 hb5))))
        clear ho5 hb5 c0 c1 c2 c3 H4 HS3
        obtain ⟨c0, c1, c2, c3⟩ := H5.out.2.1.cells
        go_wp2_with fail
        refine (HS4.out _ _ H5.out.1).mono ?_
        rintro e w6 ⟨v6, rfl, ho6, hb6⟩
        obtain ⟨A6, q6, rfl, _, _⟩ := ho6.rd.is
        have H6 := Lib.hid (And.intro ho6.rd (And.intro (NRd.on H5.out.2.2.2 hb6) (below_on H5.out.2.2.1 hb6)))
        clear ho6 hb6 c0 c1 c2 c3 H5 HS4
        by_cases h12 : e1 = 0 ∧ e2 = 0
        · obtain ⟨rfl, rfl⟩ := h12
          go_wp2_with fail
          refine (ok_zero (IRd.fresh _ 25 [0, 0] 2 rfl #[.int .i64 0, .int .i64 0] rfl) (by simp) (by decide)).mono ?_
          rintro e w7 ⟨rfl, rfl⟩
          have HE34 := Lib.hid (second_errs w6 e3 e4)
          by_cases h34 : e3 = 0 ∧ e4 = 0
          · obtain ⟨rfl, rfl⟩ := h34
            obtain ⟨rfl, rfl, rfl⟩ := HTT.out (by first | rfl | trivial) (by first | rfl | trivial) (by first | rfl | trivial) (by first | rfl | trivial)
            have q1 : (r1 == r1) = true := by simp
            have q2 : (r2 == r2) = true := by simp
            clear HTT
            go_wp2_with fail
            refine (ok_zero HE34.out (by simp) (by decide)).mono ?_
            rintro e w8 ⟨rfl, rfl⟩
            have hb8 : Below w6.heap.size w6 ((w6.alloc (.cells #[.int .i64 0, .int .i64 0] 25)).alloc (.cells #[.int .i64 0, .int .i64 0] 25)) := ((Below.refl _ _).alloc (Nat.le_refl _) _).alloc (by simp) _
            have H8 := Lib.hid (And.intro (NRd.on H6.out.1 hb8) (And.intro (NRd.on H6.out.2.1 hb8) (below_on H6.out.2.2 hb8)))
            clear hb8
            go_wp2_with fail
            refine (eqInt_same H8.out.2.1 H8.out.1).mono ?_
            rintro e w9 ⟨rfl, hb9⟩
            have H9 := Lib.hid (below_on H8.out.2.2 hb9)
            clear hb9
            go_wp2_with fail
            go_ret
            exact ⟨rfl, H9.out⟩
          · have hno : ∃ x, x ∈ [e3, e4] ∧ x ≠ 0 := by
              by_cases h3 : e3 = 0
              · exact ⟨e4, by simp, fun h => h34 ⟨h3, h⟩⟩
              · exact ⟨e3, by simp, h3⟩
            obtain ⟨x, hx1, hx2⟩ := hno
            have HN := Lib.hid (And.intro hx1 hx2)
            clear hx1 hx2 h34 HTT
            go_wp2_with fail
            refine (ok_not HE34.out HN.out.1 HN.out.2 (by simp)).mono ?_
            rintro e w8 ⟨rfl, rfl⟩
            go_wp2_with fail
            go_ret
            exact ⟨rfl, (H6.out.2.2.alloc H6.out.2.2.size _).alloc (by have := H6.out.2.2.size; simp; omega) _⟩
        · have hno : ∃ x, x ∈ [e1, e2] ∧ x ≠ 0 := by
            by_cases h3 : e1 = 0
            · exact ⟨e2, by simp, fun h => h12 ⟨h3, h⟩⟩
            · exact ⟨e1, by simp, h3⟩
          obtain ⟨x, hx1, hx2⟩ := hno
          have HN := Lib.hid (And.intro hx1 hx2)
          clear hx1 hx2 h12 HTT
          go_wp2_with fail
          refine (ok_not (IRd.fresh _ 25 [e1, e2] 2 rfl #[.int .i64 e1, .int .i64 e2] rfl) HN.out.1 HN.out.2 (by simp)).mono ?_
          rintro e w8 ⟨rfl, rfl⟩
          go_wp2_with fail
          go_ret
          exact ⟨rfl, H6.out.2.2.alloc H6.out.2.2.size _⟩
    · have he' : (stateE 4 s != 0) = true := by rw [bne_iff_ne]; exact he
      generalize stateE 4 s = er at he' ⊢
      clear he
      go_wp2_with fail
      refine (olives_any _).mono ?_
      rintro e w3 ⟨rfl, hb3⟩
      have H3 := Lib.hid (below_on H2.out.2 hb3)
      clear hb3
      go_wp2_with fail
      go_ret
      exact ⟨rfl, H3.out⟩
end Go.Proofs.Ytebcnhnkpmbgdaa
