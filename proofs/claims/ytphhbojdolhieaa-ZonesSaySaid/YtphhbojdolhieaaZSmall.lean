/-
  Contracts of the small functions of package zones, and of cmp.Or.
-/
import Derived.Test.YtphhbojdolhieaaZMem
import Derived.Laws.StructEq
import Derived.Deep.CutRange
namespace Go.Proofs.Ytphhbojdolhieaa
open Go.RowKit
set_option maxRecDepth 20000

abbrev fill3 (w : World) (g : Nat) (a b c : Value) : World := ((w.setCell ⟨g, 0, none⟩ a).setCell ⟨g, 1, none⟩ b).setCell ⟨g, 2, none⟩ c
abbrev fill4 (w : World) (g : Nat) (a b c d : Value) : World := (((w.setCell ⟨g, 0, none⟩ a).setCell ⟨g, 1, none⟩ b).setCell ⟨g, 2, none⟩ c).setCell ⟨g, 3, none⟩ d
abbrev fill2 (w : World) (g : Nat) (a b : Value) : World := (w.setCell ⟨g, 0, none⟩ a).setCell ⟨g, 1, none⟩ b
section
variable {w w0 : World} {g B : Nat} {t : TypeId} {a b c d : Value}
theorem fill2_lies {x y : Value} (h : Lies w g t #[x, y]) : Lies (fill2 w g a b) g t #[a, b] := Lies.cast (Lies.set_ (Lies.set_ h 0 a) 1 b) (by simp)
theorem fill3_lies {x y z : Value} (h : Lies w g t #[x, y, z]) : Lies (fill3 w g a b c) g t #[a, b, c] := Lies.cast (Lies.set_ (Lies.set_ (Lies.set_ h 0 a) 1 b) 2 c) (by simp)
theorem fill4_lies {x y z u : Value} (h : Lies w g t #[x, y, z, u]) : Lies (fill4 w g a b c d) g t #[a, b, c, d] := Lies.cast (Lies.set_ (Lies.set_ (Lies.set_ (Lies.set_ h 0 a) 1 b) 2 c) 3 d) (by simp)
theorem fill2_below (h : Below B w0 w) (hg : B ≤ g) : Below B w0 (fill2 w g a b) := (h.setCell (p := ⟨g, 0, none⟩) hg _).setCell (p := ⟨g, 1, none⟩) hg _
theorem fill3_below (h : Below B w0 w) (hg : B ≤ g) : Below B w0 (fill3 w g a b c) := ((h.setCell (p := ⟨g, 0, none⟩) hg _).setCell (p := ⟨g, 1, none⟩) hg _).setCell (p := ⟨g, 2, none⟩) hg _
theorem fill4_below (h : Below B w0 w) (hg : B ≤ g) : Below B w0 (fill4 w g a b c d) := (((h.setCell (p := ⟨g, 0, none⟩) hg _).setCell (p := ⟨g, 1, none⟩) hg _).setCell (p := ⟨g, 2, none⟩) hg _).setCell (p := ⟨g, 3, none⟩) hg _
end

theorem zresp_any (c : Cl) (w : World) : Calls Try.prog 37 #[clV c] w fun e w' => e = .returned (.bool (c.til != -1)) ∧ Below w.heap.size w w' := by
  generalize hv : (c.til != -1) = d
  go_enter Try.func37, Try.ntmps37
  go_wp2
  go_ret
  exact ⟨rfl, (Below.refl _ _).alloc (Nat.le_refl _) _⟩

theorem zlap_any (a b : Zn) (w : World) : Calls Try.prog 41 #[znV a, znV b] w fun e w' => e = .returned (.bool (lapZ a b)) ∧ Below w.heap.size w w' := by
  obtain ⟨a0, a1, a2, a3⟩ := a
  obtain ⟨b0, b1, b2, b3⟩ := b
  have e : lapZ ⟨a0, a1, a2, a3⟩ ⟨b0, b1, b2, b3⟩ = (decide (a1 < b2) && decide (b1 < a2)) := by
    unfold lapZ
    rw [Bool.decide_and]
  rw [e]
  have hbb : Below w.heap.size w ((w.alloc (.cells #[.int .i64 a0, .int .i64 a1, .int .i64 a2, .bool a3] 35)).alloc (.cells #[.int .i64 b0, .int .i64 b1, .int .i64 b2, .bool b3] 35)) := ((Below.refl _ _).alloc (Nat.le_refl _) _).alloc (by simp) _
  have HB := Lib.hid hbb
  clear e hbb
  by_cases h1 : a1 < b2
  · by_cases h2 : b1 < a2
    · have d1 : decide (a1 < b2) = true := decide_eq_true h1
      have d2 : decide (b1 < a2) = true := decide_eq_true h2
      rw [d1, d2]
      go_enter Try.func41, Try.ntmps41
      go_wp2_with fail
      go_ret
      exact ⟨rfl, HB.out⟩
    · have d1 : decide (a1 < b2) = true := decide_eq_true h1
      have d2 : decide (b1 < a2) = false := decide_eq_false h2
      rw [d1, d2]
      go_enter Try.func41, Try.ntmps41
      go_wp2_with fail
      go_ret
      exact ⟨rfl, HB.out⟩
  · have d1 : decide (a1 < b2) = false := decide_eq_false h1
    rw [d1]
    go_enter Try.func41, Try.ntmps41
    go_wp2_with fail
    go_ret
    exact ⟨rfl, HB.out⟩

/-- The first that is not nothing. -/
def orL : List Bz → Bz
  | [] => noBz
  | x :: r => if x.kind = 0 ∧ x.a = 0 ∧ x.b = 0 then orL r else x
structure OrR (w : World) (A : Option Addr) (cap n : Nat) (l : List Bz) (wr : World) : Prop where
  below : Below w.heap.size w wr
  row : BzRd wr w.heap.size (.slice A n cap) l
  res : Lies wr w.heap.size 28 #[.int .i64 0, .int .i64 0, .int .i64 0]
  zer : Lies wr (w.heap.size + 1) 28 #[.int .i64 0, .int .i64 0, .int .i64 0]
theorem OrR.next {w : World} {A : Option Addr} {cap n : Nat} {l : List Bz} {wr w' : World} (h : OrR w A cap n l wr) (hb : Below wr.heap.size wr w') : OrR w A cap n l w' :=
  ⟨h.below.trans (hb.mono h.below.size), h.row.below (hb.mono h.below.size), Lies.below h.res hb h.res.lt, Lies.below h.zer hb h.zer.lt⟩
set_option maxHeartbeats 4000000 in
theorem or_any {v : Value} {l : List Bz} {w : World} (h : BzRd w w.heap.size v l) (hm : l.length ≤ 100) :
    Calls Try.prog 25 #[v] w fun e w' => e = .returned (bzV (orL l)) ∧ Below w.heap.size w w' := by
  obtain ⟨A, cap, rfl, m1, m2⟩ := h.is
  obtain ⟨n, hn⟩ : ∃ n, n = l.length := ⟨_, rfl⟩
  rw [← hn] at h hm ⊢
  obtain ⟨R, hR⟩ : ∃ R, R = orL l := ⟨_, rfl⟩
  have h0 : OrR w A cap n l ((w.alloc (.cells #[.int .i64 0, .int .i64 0, .int .i64 0] 28)).alloc (.cells #[.int .i64 0, .int .i64 0, .int .i64 0] 28)) := by
    have hb : Below w.heap.size w ((w.alloc (.cells #[.int .i64 0, .int .i64 0, .int .i64 0] 28)).alloc (.cells #[.int .i64 0, .int .i64 0, .int .i64 0] 28)) := ((Below.refl _ _).alloc (Nat.le_refl _) _).alloc (by simp) _
    have hz := Lies.new (w.alloc (.cells #[.int .i64 0, .int .i64 0, .int .i64 0] 28)) 28 #[.int .i64 0, .int .i64 0, .int .i64 0]
    rw [World.size_alloc] at hz
    exact ⟨hb, h.below hb, Lies.alloc (Lies.new _ _ _) _, hz⟩
  rw [← hR]
  have HN := Lib.hid (And.intro hn hR)
  clear h hn hR m1 m2
  go_enter Try.func25, Try.ntmps25
  go_wp2_with fail
  change Code.wp _ _ _ _ ((w.alloc (.cells #[.int .i64 0, .int .i64 0, .int .i64 0] 28)).alloc (.cells #[.int .i64 0, .int .i64 0, .int .i64 0] 28))
  generalize (w.alloc (.cells #[.int .i64 0, .int .i64 0, .int .i64 0] 28)).alloc (.cells #[.int .i64 0, .int .i64 0, .int .i64 0] 28) = W at h0 ⊢
  go_loopw [8] (fun i wr => ∃ k : Nat, k ≤ n ∧ i = .int .i64 k ∧ orL (l.drop k) = R ∧ OrR w A cap n l wr) (fun i _ => n - (intOf i).toNat)
  case atStart => exact ⟨0, by omega, rfl, by rw [List.drop_zero, HN.out.2], h0⟩
  case round =>
    clear h0
    obtain ⟨k, hk, rfl, hor, hO⟩ := hrel
    by_cases hkn : k < n
    · obtain ⟨x, hx⟩ : ∃ x, l[k]? = some x := ⟨_, List.getElem?_eq_getElem (by rw [← HN.out.1]; exact hkn)⟩
      have hdrop : l.drop k = x :: l.drop (k + 1) := by
        obtain ⟨h2, h3⟩ := List.getElem?_eq_some_iff.1 hx
        rw [List.drop_eq_getElem_cons h2, h3]
      rw [hdrop, orL] at hor
      obtain ⟨g, o, rfl, -, d0, d1, d2⟩ := bz_at hO.row hx
      obtain ⟨x0, x1, x2⟩ := x
      simp only at d0 d1 d2 hor
      have i1 : (0 : Int) ≤ (k : Int) := by omega
      have i2 : (k : Int) < (n : Int) := by omega
      have hnew := Lies.new wr 28 #[.int .i64 x0, .int .i64 x1, .int .i64 x2]
      have hO2 := hO.next ((Below.refl _ _).alloc (Nat.le_refl _) (.cells #[.int .i64 x0, .int .i64 x1, .int .i64 x2] 28))
      have HO := Lib.hid (And.intro hO2 hor)
      have HNW := Lib.hid hnew
      clear hO hx hdrop hor hO2 hnew
      go_upto_region 5 with fail
      clear d0 d1 d2
      change Code.wp _ _ _ _ (wr.alloc (.cells #[.int .i64 x0, .int .i64 x1, .int .i64 x2] 28))
      generalize wr.alloc (.cells #[.int .i64 x0, .int .i64 x1, .int .i64 x2] 28) = W2 at HO HNW ⊢
      generalize wr.heap.size = X at HNW ⊢
      have e0 := Lies.cell HNW.out 0
      have e1 := Lies.cell HNW.out 1
      have e2 := Lies.cell HNW.out 2
      have z0 := Lies.cell HO.out.1.zer 0
      have z1 := Lies.cell HO.out.1.zer 1
      have z2 := Lies.cell HO.out.1.zer 2
      have r0 := Lies.cell HO.out.1.res 0
      have r1 := Lies.cell HO.out.1.res 1
      have r2 := Lies.cell HO.out.1.res 2
      have rf : ∀ i, W2.frozen? ⟨w.heap.size, i, none⟩ = false := fun i => Lies.frozen HO.out.1.res i
      simp only [List.getElem?_toArray, List.getElem?_cons_zero, List.getElem?_cons_succ] at e0 e1 e2 z0 z1 z2 r0 r1 r2
      by_cases hx : x0 = 0 ∧ x1 = 0 ∧ x2 = 0
      · obtain ⟨rfl, rfl, rfl⟩ := hx
        have hor := HO.out.2
        rw [if_pos ⟨rfl, rfl, rfl⟩] at hor
        have HO3 := Lib.hid (And.intro HO.out.1 hor)
        clear hor HO r0 r1 r2 rf
        go_wp2_with fail
        go_roundw
        case rel => exact ⟨k + 1, by omega, by go_num, HO3.out.2, HO3.out.1⟩
        case measure => simp [intOf]; omega
      · have hor := HO.out.2
        rw [if_neg hx] at hor
        have hne : (x0 == 0) = false ∨ (x0 = 0 ∧ (x1 == 0) = false) ∨ (x0 = 0 ∧ x1 = 0 ∧ (x2 == 0) = false) := by
          simp only [beq_eq_false_iff_ne]
          omega
        have HO3 := Lib.hid (And.intro HO.out.1 hor)
        clear hor hx HO
        rcases hne with hne | ⟨rfl, hne⟩ | ⟨rfl, rfl, hne⟩
        · go_wp2_with fail
          clear r0 r1 r2 rf
          have hl := fill3_lies (a := .int .i64 x0) (b := .int .i64 x1) (c := .int .i64 x2) HO3.out.1.res
          have hb := fill3_below (a := .int .i64 x0) (b := .int .i64 x1) (c := .int .i64 x2) HO3.out.1.below (g := w.heap.size) (Nat.le_refl _)
          change bodyPost _ _ _ _ _ (fill3 W2 w.heap.size (.int .i64 x0) (.int .i64 x1) (.int .i64 x2))
          generalize fill3 W2 w.heap.size (.int .i64 x0) (.int .i64 x1) (.int .i64 x2) = wz at hl hb ⊢
          have q0 := Lies.cell hl 0
          have q1 := Lies.cell hl 1
          have q2 := Lies.cell hl 2
          simp only [List.getElem?_toArray, List.getElem?_cons_zero, List.getElem?_cons_succ] at q0 q1 q2
          exact bodyPost_ret (v := bzV ⟨x0, x1, x2⟩) (by simp [results, Try.results25, go_sem, q0, q1, q2]) rfl ⟨by rw [← HO3.out.2] <;> rfl, hb⟩
        · go_wp2_with fail
          clear r0 r1 r2 rf
          have hl := fill3_lies (a := .int .i64 0) (b := .int .i64 x1) (c := .int .i64 x2) HO3.out.1.res
          have hb := fill3_below (a := .int .i64 0) (b := .int .i64 x1) (c := .int .i64 x2) HO3.out.1.below (g := w.heap.size) (Nat.le_refl _)
          change bodyPost _ _ _ _ _ (fill3 W2 w.heap.size (.int .i64 0) (.int .i64 x1) (.int .i64 x2))
          generalize fill3 W2 w.heap.size (.int .i64 0) (.int .i64 x1) (.int .i64 x2) = wz at hl hb ⊢
          have q0 := Lies.cell hl 0
          have q1 := Lies.cell hl 1
          have q2 := Lies.cell hl 2
          simp only [List.getElem?_toArray, List.getElem?_cons_zero, List.getElem?_cons_succ] at q0 q1 q2
          exact bodyPost_ret (v := bzV ⟨0, x1, x2⟩) (by simp [results, Try.results25, go_sem, q0, q1, q2]) rfl ⟨by rw [← HO3.out.2] <;> rfl, hb⟩
        · go_wp2_with fail
          clear r0 r1 r2 rf
          have hl := fill3_lies (a := .int .i64 0) (b := .int .i64 0) (c := .int .i64 x2) HO3.out.1.res
          have hb := fill3_below (a := .int .i64 0) (b := .int .i64 0) (c := .int .i64 x2) HO3.out.1.below (g := w.heap.size) (Nat.le_refl _)
          change bodyPost _ _ _ _ _ (fill3 W2 w.heap.size (.int .i64 0) (.int .i64 0) (.int .i64 x2))
          generalize fill3 W2 w.heap.size (.int .i64 0) (.int .i64 0) (.int .i64 x2) = wz at hl hb ⊢
          have q0 := Lies.cell hl 0
          have q1 := Lies.cell hl 1
          have q2 := Lies.cell hl 2
          simp only [List.getElem?_toArray, List.getElem?_cons_zero, List.getElem?_cons_succ] at q0 q1 q2
          exact bodyPost_ret (v := bzV ⟨0, 0, x2⟩) (by simp [results, Try.results25, go_sem, q0, q1, q2]) rfl ⟨by rw [← HO3.out.2] <;> rfl, hb⟩
    · obtain rfl : n = k := by omega
      rw [List.drop_eq_nil_of_le (by rw [← HN.out.1]; exact Nat.le_refl _), orL] at hor
      have r0 := Lies.cell hO.res 0
      have r1 := Lies.cell hO.res 1
      have r2 := Lies.cell hO.res 2
      have z0 := Lies.cell hO.zer 0
      have z1 := Lies.cell hO.zer 1
      have z2 := Lies.cell hO.zer 2
      have rf : ∀ i, wr.frozen? ⟨w.heap.size, i, none⟩ = false := fun i => Lies.frozen hO.res i
      simp only [List.getElem?_toArray, List.getElem?_cons_zero, List.getElem?_cons_succ] at z0 z1 z2 r0 r1 r2
      have HO3 := Lib.hid (And.intro hO hor)
      clear hO hor
      go_wp2_with fail
      clear r0 r1 r2 rf
      have hl := fill3_lies (a := .int .i64 0) (b := .int .i64 0) (c := .int .i64 0) HO3.out.1.res
      have hb := fill3_below (a := .int .i64 0) (b := .int .i64 0) (c := .int .i64 0) HO3.out.1.below (g := w.heap.size) (Nat.le_refl _)
      change bodyPost _ _ _ _ _ (fill3 wr w.heap.size (.int .i64 0) (.int .i64 0) (.int .i64 0))
      generalize fill3 wr w.heap.size (.int .i64 0) (.int .i64 0) (.int .i64 0) = wz at hl hb ⊢
      have q0 := Lies.cell hl 0
      have q1 := Lies.cell hl 1
      have q2 := Lies.cell hl 2
      simp only [List.getElem?_toArray, List.getElem?_cons_zero, List.getElem?_cons_succ] at q0 q1 q2
      exact bodyPost_ret (v := bzV ⟨0, 0, 0⟩) (by simp [results, Try.results25, go_sem, q0, q1, q2]) rfl ⟨by rw [← HO3.out.2] <;> rfl, hb⟩
end Go.Proofs.Ytphhbojdolhieaa
