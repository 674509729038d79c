/-
  Joined by a program out of: LoIdx.
-/
import Derived.Test.YtfgangkpebkicaaGreatDoorMsLinIdx

/-
  slices.ContainsFunc over steps, by the call that a step names: the reference's closures.
-/
namespace Go.Proofs.YtfgangkpebkicaaGreatDoor
open Go.RowKit
set_option maxRecDepth 20000
theorem lcl1_any (x0 x1 : Int) {P : Nat} {k : Int} {W : World} (hP : W.cell? ⟨P, 0, none⟩ = some (.int .i64 k)) :
    Calls Tryz.prog 29 #[.agg #[.int .i64 x0, .int .i64 x1], .pointer (some ⟨P, 0, none⟩)] W fun e w' => e = .returned (.bool (x0 == k)) ∧ Below W.heap.size W w' := by
  have c0 : ∀ o, (W.alloc o).cell? ⟨P, 0, none⟩ = some (.int .i64 k) := fun o => Lib.cell?_alloc_some _ hP
  go_enter Tryz.func29, Tryz.ntmps29
  go_wp2_with fail
  go_ret
  exact ⟨rfl, (Below.refl _ _).alloc (Nat.le_refl _) _⟩
theorem lcl2_any (x0 x1 : Int) {P : Nat} {k : Int} {W : World} (hP : W.cell? ⟨P, 0, none⟩ = some (.int .i64 k)) :
    Calls Tryz.prog 33 #[.agg #[.int .i64 x0, .int .i64 x1], .pointer (some ⟨P, 0, none⟩)] W fun e w' => e = .returned (.bool (x0 == k)) ∧ Below W.heap.size W w' := by
  have c0 : ∀ o, (W.alloc o).cell? ⟨P, 0, none⟩ = some (.int .i64 k) := fun o => Lib.cell?_alloc_some _ hP
  go_enter Tryz.func33, Tryz.ntmps33
  go_wp2_with fail
  go_ret
  exact ⟨rfl, (Below.refl _ _).alloc (Nat.le_refl _) _⟩
set_option maxHeartbeats 1000000 in
theorem lidx1_any {P : Nat} {k : Int} {v : Value} {xs : List (Int × Int)} {w : World} (h : SRd w w.heap.size v xs) (hP : w.cell? ⟨P, 0, none⟩ = some (.int .i64 k)) (hPl : P < w.heap.size) :
    Calls Tryz.prog 40 #[v, .func (.func 29) #[] #[.pointer (some ⟨P, 0, none⟩)]] w fun e w' => ∃ r : Int, e = .returned (.int .i64 r) ∧ FirstAt k xs r ∧ Below w.heap.size w w' := by
  obtain ⟨A, cap, rfl, m1, m2⟩ := h.is
  unfold maxLen at m2
  obtain ⟨L, hL⟩ : ∃ L, L = xs.length := ⟨_, rfl⟩
  have HC := Lib.hid (And.intro h (And.intro hP hPl))
  have HLL := Lib.hid hL
  have m3 : (L : Int) ≤ 9223372036854775807 := by rw [← hL] at m1; omega
  rw [← hL] at m1 ⊢
  clear h hL hP hPl m2
  go_enter Tryz.func40, Tryz.ntmps40
  go_wp2_with fail
  go_loopw [8] (fun i wr => ∃ j : Nat, j ≤ L ∧ i = .int .i64 j ∧ (∀ (m : Nat) (y : Int × Int), m < j → xs[m]? = some y → y.1 ≠ k) ∧ Below w.heap.size w wr) (fun i _ => L - (intOf i).toNat)
  case atStart => exact ⟨0, by omega, rfl, fun j y hj => by omega, Below.refl _ _⟩
  case round =>
    obtain ⟨j, hj, rfl, ha, hb⟩ := hrel
    have HA := Lib.hid (And.intro ha hb)
    by_cases hjn : j < L
    · obtain ⟨y, hy⟩ : ∃ y, xs[j]? = some y := ⟨_, List.getElem?_eq_getElem (by rw [← HLL.out]; exact hjn)⟩
      have hr := HC.out.1.below hb
      rw [← HLL.out] at hr
      obtain ⟨g, o, rfl, hg, d0, d1⟩ := hr.sp hy
      obtain ⟨y0, y1⟩ := y
      simp only at d0 d1
      have i1 : (0 : Int) ≤ (j : Int) := by omega
      have i2 : (j : Int) < (L : Int) := by omega
      have HY := Lib.hid hy
      have HK := Lib.hid (lcl1_any y0 y1 ((hb.cell (p := ⟨P, 0, none⟩) HC.out.2.2).trans HC.out.2.1))
      clear hy hr ha hb
      by_cases hyk : y0 = k
      · have e1 : (y0 == k) = true := by rw [beq_iff_eq]; exact hyk
        rw [e1] at HK
        have HX := Lib.hid hyk
        clear hyk e1
        go_wp2_with fail
        refine HK.out.mono ?_
        rintro e w' ⟨rfl, hb2⟩
        have HB2 := Lib.hid (HA.out.2.trans (hb2.mono HA.out.2.size))
        clear hb2
        go_wp2_with fail
        go_ret
        exact ⟨j, rfl, .inr ⟨j, _, rfl, HY.out, HX.out⟩, HB2.out⟩
      · have e1 : (y0 == k) = false := by rw [beq_eq_false_iff_ne]; exact hyk
        rw [e1] at HK
        have HX := Lib.hid hyk
        clear hyk e1
        go_wp2_with fail
        refine HK.out.mono ?_
        rintro e w' ⟨rfl, hb2⟩
        have HB2 := Lib.hid (HA.out.2.trans (hb2.mono HA.out.2.size))
        clear hb2
        go_wp2_with fail
        go_roundw
        case rel => exact ⟨j + 1, by omega, by go_num, fun m z hm hz => by
          rcases Nat.lt_or_ge m j with h | h
          · exact HA.out.1 m z h hz
          · obtain rfl : m = j := by omega
            rw [HY.out] at hz
            injection hz with hz
            subst hz
            exact HX.out, HB2.out⟩
        case measure => simp [intOf]; omega
    · obtain rfl : j = L := by omega
      clear ha hb
      go_wp2_with fail
      go_ret
      refine ⟨-1, rfl, .inl ⟨rfl, fun x hx => ?_⟩, HA.out.2⟩
      obtain ⟨i, hi, rfl⟩ := List.getElem_of_mem hx
      exact HA.out.1 i _ (by rw [HLL.out]; exact hi) (List.getElem?_eq_getElem hi)
set_option maxHeartbeats 1000000 in
theorem lidx2_any {P : Nat} {k : Int} {v : Value} {xs : List (Int × Int)} {w : World} (h : SRd w w.heap.size v xs) (hP : w.cell? ⟨P, 0, none⟩ = some (.int .i64 k)) (hPl : P < w.heap.size) :
    Calls Tryz.prog 40 #[v, .func (.func 33) #[] #[.pointer (some ⟨P, 0, none⟩)]] w fun e w' => ∃ r : Int, e = .returned (.int .i64 r) ∧ FirstAt k xs r ∧ Below w.heap.size w w' := by
  obtain ⟨A, cap, rfl, m1, m2⟩ := h.is
  unfold maxLen at m2
  obtain ⟨L, hL⟩ : ∃ L, L = xs.length := ⟨_, rfl⟩
  have HC := Lib.hid (And.intro h (And.intro hP hPl))
  have HLL := Lib.hid hL
  have m3 : (L : Int) ≤ 9223372036854775807 := by rw [← hL] at m1; omega
  rw [← hL] at m1 ⊢
  clear h hL hP hPl m2
  go_enter Tryz.func40, Tryz.ntmps40
  go_wp2_with fail
  go_loopw [8] (fun i wr => ∃ j : Nat, j ≤ L ∧ i = .int .i64 j ∧ (∀ (m : Nat) (y : Int × Int), m < j → xs[m]? = some y → y.1 ≠ k) ∧ Below w.heap.size w wr) (fun i _ => L - (intOf i).toNat)
  case atStart => exact ⟨0, by omega, rfl, fun j y hj => by omega, Below.refl _ _⟩
  case round =>
    obtain ⟨j, hj, rfl, ha, hb⟩ := hrel
    have HA := Lib.hid (And.intro ha hb)
    by_cases hjn : j < L
    · obtain ⟨y, hy⟩ : ∃ y, xs[j]? = some y := ⟨_, List.getElem?_eq_getElem (by rw [← HLL.out]; exact hjn)⟩
      have hr := HC.out.1.below hb
      rw [← HLL.out] at hr
      obtain ⟨g, o, rfl, hg, d0, d1⟩ := hr.sp hy
      obtain ⟨y0, y1⟩ := y
      simp only at d0 d1
      have i1 : (0 : Int) ≤ (j : Int) := by omega
      have i2 : (j : Int) < (L : Int) := by omega
      have HY := Lib.hid hy
      have HK := Lib.hid (lcl2_any y0 y1 ((hb.cell (p := ⟨P, 0, none⟩) HC.out.2.2).trans HC.out.2.1))
      clear hy hr ha hb
      by_cases hyk : y0 = k
      · have e1 : (y0 == k) = true := by rw [beq_iff_eq]; exact hyk
        rw [e1] at HK
        have HX := Lib.hid hyk
        clear hyk e1
        go_wp2_with fail
        refine HK.out.mono ?_
        rintro e w' ⟨rfl, hb2⟩
        have HB2 := Lib.hid (HA.out.2.trans (hb2.mono HA.out.2.size))
        clear hb2
        go_wp2_with fail
        go_ret
        exact ⟨j, rfl, .inr ⟨j, _, rfl, HY.out, HX.out⟩, HB2.out⟩
      · have e1 : (y0 == k) = false := by rw [beq_eq_false_iff_ne]; exact hyk
        rw [e1] at HK
        have HX := Lib.hid hyk
        clear hyk e1
        go_wp2_with fail
        refine HK.out.mono ?_
        rintro e w' ⟨rfl, hb2⟩
        have HB2 := Lib.hid (HA.out.2.trans (hb2.mono HA.out.2.size))
        clear hb2
        go_wp2_with fail
        go_roundw
        case rel => exact ⟨j + 1, by omega, by go_num, fun m z hm hz => by
          rcases Nat.lt_or_ge m j with h | h
          · exact HA.out.1 m z h hz
          · obtain rfl : m = j := by omega
            rw [HY.out] at hz
            injection hz with hz
            subst hz
            exact HX.out, HB2.out⟩
        case measure => simp [intOf]; omega
    · obtain rfl : j = L := by omega
      clear ha hb
      go_wp2_with fail
      go_ret
      refine ⟨-1, rfl, .inl ⟨rfl, fun x hx => ?_⟩, HA.out.2⟩
      obtain ⟨i, hi, rfl⟩ := List.getElem_of_mem hx
      exact HA.out.1 i _ (by rw [HLL.out]; exact hi) (List.getElem?_eq_getElem hi)
theorem lcont1_any {P : Nat} {k : Int} {v : Value} {xs : List (Int × Int)} {w : World} (h : SRd w w.heap.size v xs) (hP : w.cell? ⟨P, 0, none⟩ = some (.int .i64 k)) (hPl : P < w.heap.size) :
    Calls Tryz.prog 28 #[v, .func (.func 29) #[] #[.pointer (some ⟨P, 0, none⟩)]] w fun e w' => e = .returned (.bool (decide ((k : Int) ∈ xs.map (·.1)))) ∧ Below w.heap.size w w' := by
  have HI := Lib.hid (lidx1_any h hP hPl)
  obtain ⟨A, cap, rfl, m1, m2⟩ := h.is
  clear h hP hPl
  obtain ⟨L, hL⟩ : ∃ L, L = xs.length := ⟨_, rfl⟩
  rw [← hL] at HI m1 ⊢
  clear hL
  obtain ⟨b, hb⟩ : ∃ b, b = decide ((k : Int) ∈ xs.map (·.1)) := ⟨_, rfl⟩
  rw [← hb]
  have HB := Lib.hid hb
  clear hb
  go_enter Tryz.func28, Tryz.ntmps28
  go_wp2_with fail
  refine HI.out.mono ?_
  rintro e w1 ⟨r, rfl, hr, hb1⟩
  have HR := Lib.hid (And.intro hr hb1)
  rcases hr with ⟨rfl, hr⟩ | ⟨i, x, rfl, h1, h2⟩
  · have HB9 := Lib.hid hr
    clear hr hb1
    go_wp2_with fail
    go_ret
    refine ⟨ret_bool ?_, HR.out.2⟩
    rw [HB.out, decide_eq_false (fun hm => by
      obtain ⟨x, hx, e⟩ := List.mem_map.1 hm
      exact HB9.out x hx e)]
  · have HB9 := Lib.hid (And.intro h1 h2)
    have hi : (0 : Int) ≤ (i : Int) := by omega
    clear h1 h2 hb1
    go_wp2_with fail
    go_ret
    refine ⟨ret_bool ?_, HR.out.2⟩
    rw [HB.out, decide_eq_true (List.mem_map.2 ⟨x, List.mem_of_getElem? HB9.out.1, HB9.out.2⟩)]
theorem lcont2_any {P : Nat} {k : Int} {v : Value} {xs : List (Int × Int)} {w : World} (h : SRd w w.heap.size v xs) (hP : w.cell? ⟨P, 0, none⟩ = some (.int .i64 k)) (hPl : P < w.heap.size) :
    Calls Tryz.prog 28 #[v, .func (.func 33) #[] #[.pointer (some ⟨P, 0, none⟩)]] w fun e w' => e = .returned (.bool (decide ((k : Int) ∈ xs.map (·.1)))) ∧ Below w.heap.size w w' := by
  have HI := Lib.hid (lidx2_any h hP hPl)
  obtain ⟨A, cap, rfl, m1, m2⟩ := h.is
  clear h hP hPl
  obtain ⟨L, hL⟩ : ∃ L, L = xs.length := ⟨_, rfl⟩
  rw [← hL] at HI m1 ⊢
  clear hL
  obtain ⟨b, hb⟩ : ∃ b, b = decide ((k : Int) ∈ xs.map (·.1)) := ⟨_, rfl⟩
  rw [← hb]
  have HB := Lib.hid hb
  clear hb
  go_enter Tryz.func28, Tryz.ntmps28
  go_wp2_with fail
  refine HI.out.mono ?_
  rintro e w1 ⟨r, rfl, hr, hb1⟩
  have HR := Lib.hid (And.intro hr hb1)
  rcases hr with ⟨rfl, hr⟩ | ⟨i, x, rfl, h1, h2⟩
  · have HB9 := Lib.hid hr
    clear hr hb1
    go_wp2_with fail
    go_ret
    refine ⟨ret_bool ?_, HR.out.2⟩
    rw [HB.out, decide_eq_false (fun hm => by
      obtain ⟨x, hx, e⟩ := List.mem_map.1 hm
      exact HB9.out x hx e)]
  · have HB9 := Lib.hid (And.intro h1 h2)
    have hi : (0 : Int) ≤ (i : Int) := by omega
    clear h1 h2 hb1
    go_wp2_with fail
    go_ret
    refine ⟨ret_bool ?_, HR.out.2⟩
    rw [HB.out, decide_eq_true (List.mem_map.2 ⟨x, List.mem_of_getElem? HB9.out.1, HB9.out.2⟩)]
end Go.Proofs.YtfgangkpebkicaaGreatDoor
