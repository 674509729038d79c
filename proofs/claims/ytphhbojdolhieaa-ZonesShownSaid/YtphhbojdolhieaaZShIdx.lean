/-
  slices.IndexFunc and ContainsFunc over calls, by closures of ZonesShown; the closures.
-/
import Derived.Test.YtphhbojdolhieaaHistSmall
import Derived.Test.YtphhbojdolhieaaZonePure
namespace Go.Proofs.Ytphhbojdolhieaa
open Go.RowKit
set_option maxRecDepth 20000

abbrev clA (c : Cl) : Value := .agg #[.int .i64 c.who, .int .i64 c.thing, .int .i64 c.kind, .int .i64 c.arg, .int .i64 c.res, .int .i64 c.frm, .int .i64 c.til]
abbrev hasFn : Value := .func (.func 16) #[] #[]
theorem ret_b {a b : Bool} (h : a = b) : Ending.returned (.bool a) = Ending.returned (.bool b) := by rw [h]
set_option maxHeartbeats 2000000 in
theorem zidxa_any {P0 P1 P2 P3 : Nat} {q : Cl → Bool} {v : Value} {cs : List Cl} {w : World} (h : CRd w w.heap.size v cs)
    (hcl : ∀ c ∈ cs, ∀ W, Below w.heap.size w W → Calls Try.prog 19 #[clA c, .pointer (some ⟨P0, 0, none⟩), .pointer (some ⟨P1, 0, none⟩), .pointer (some ⟨P2, 0, none⟩), .pointer (some ⟨P3, 0, none⟩)] W fun e w' => e = .returned (.bool (q c)) ∧ Below W.heap.size W w') :
    Calls Try.prog 36 #[v, .func (.func 19) #[] #[.pointer (some ⟨P0, 0, none⟩), .pointer (some ⟨P1, 0, none⟩), .pointer (some ⟨P2, 0, none⟩), .pointer (some ⟨P3, 0, none⟩)]] w fun e w' => ∃ r : Int, e = .returned (.int .i64 r) ∧ ((r = -1 ∧ ∀ c ∈ cs, q c = false) ∨ (0 ≤ r ∧ ∃ c ∈ cs, q c = true)) ∧ Below w.heap.size w w' := by
  obtain ⟨A, cap, rfl, m1, m2⟩ := h.is
  unfold maxLen at m2
  obtain ⟨L, hL⟩ : ∃ L, L = cs.length := ⟨_, rfl⟩
  have HC := Lib.hid (And.intro h hcl)
  have HLL := Lib.hid hL
  have m3 : (L : Int) ≤ 9223372036854775807 := by rw [← hL] at m1; omega
  rw [← hL] at m1 ⊢
  clear h hL m2 hcl
  go_enter Try.func36, Try.ntmps36
  go_wp2_with fail
  go_loopw [8] (fun i wr => ∃ j : Nat, j ≤ L ∧ i = .int .i64 j ∧ (∀ (m : Nat) (y : Cl), m < j → cs[m]? = some y → q y = false) ∧ Below w.heap.size w wr) (fun i _ => L - (intOf i).toNat)
  case atStart => exact ⟨0, by omega, rfl, fun j y hj => by omega, Below.refl _ _⟩
  case round =>
    obtain ⟨j, hj, rfl, ha, hb⟩ := hrel
    have HA := Lib.hid (And.intro ha hb)
    by_cases hjn : j < L
    · obtain ⟨y, hy⟩ : ∃ y, cs[j]? = some y := ⟨_, List.getElem?_eq_getElem (by rw [← HLL.out]; exact hjn)⟩
      have hr := HC.out.1.below hb
      rw [← HLL.out] at hr
      obtain ⟨g, o, rfl, hg, d0, d1, d2, d3, d4, d5, d6⟩ := hr.cl hy
      have hK := HC.out.2 y (List.mem_of_getElem? hy) wr hb
      have HY := Lib.hid hy
      obtain ⟨z, hz⟩ : ∃ z, z = q y := ⟨_, rfl⟩
      rw [← hz] at hK
      have HZ := Lib.hid hz
      obtain ⟨y0, y1, y2, y3, y4, y5, y6⟩ := y
      simp only at d0 d1 d2 d3 d4 d5 d6
      simp only [clA] at hK
      have HK := Lib.hid hK
      have i1 : (0 : Int) ≤ (j : Int) := by omega
      have i2 : (j : Int) < (L : Int) := by omega
      clear hy hr ha hb hK hz
      cases z
      · go_wp2_with fail
        refine HK.out.mono ?_
        rintro e w' ⟨rfl, hb2⟩
        have HB2 := Lib.hid (HA.out.2.trans (hb2.mono HA.out.2.size))
        clear hb2
        go_wp2_with fail
        go_roundw
        case rel => exact ⟨j + 1, by omega, by go_num, fun m z hm hz => by
          rcases Nat.lt_or_ge m j with h | h
          · exact HA.out.1 m z h hz
          · obtain rfl : m = j := by omega
            rw [HY.out] at hz
            injection hz with hz
            subst hz
            exact HZ.out.symm, HB2.out⟩
        case measure => simp [intOf]; omega
      · go_wp2_with fail
        refine HK.out.mono ?_
        rintro e w' ⟨rfl, hb2⟩
        have HB2 := Lib.hid (HA.out.2.trans (hb2.mono HA.out.2.size))
        clear hb2
        go_wp2_with fail
        go_ret
        exact ⟨j, rfl, .inr ⟨i1, _, List.mem_of_getElem? HY.out, HZ.out.symm⟩, HB2.out⟩
    · obtain rfl : j = L := by omega
      clear ha hb
      go_wp2_with fail
      go_ret
      refine ⟨-1, rfl, .inl ⟨rfl, fun x hx => ?_⟩, HA.out.2⟩
      obtain ⟨i, hi, rfl⟩ := List.getElem_of_mem hx
      exact HA.out.1 i _ (by rw [HLL.out]; exact hi) (List.getElem?_eq_getElem hi)
theorem zconta_any {P0 P1 P2 P3 : Nat} {q : Cl → Bool} {v : Value} {cs : List Cl} {w : World} (h : CRd w w.heap.size v cs)
    (hcl : ∀ c ∈ cs, ∀ W, Below w.heap.size w W → Calls Try.prog 19 #[clA c, .pointer (some ⟨P0, 0, none⟩), .pointer (some ⟨P1, 0, none⟩), .pointer (some ⟨P2, 0, none⟩), .pointer (some ⟨P3, 0, none⟩)] W fun e w' => e = .returned (.bool (q c)) ∧ Below W.heap.size W w') :
    Calls Try.prog 18 #[v, .func (.func 19) #[] #[.pointer (some ⟨P0, 0, none⟩), .pointer (some ⟨P1, 0, none⟩), .pointer (some ⟨P2, 0, none⟩), .pointer (some ⟨P3, 0, none⟩)]] w fun e w' => e = .returned (.bool (cs.any q)) ∧ Below w.heap.size w w' := by
  have HI := Lib.hid (zidxa_any h hcl)
  obtain ⟨A, cap, rfl, m1, m2⟩ := h.is
  clear h hcl
  obtain ⟨L, hL⟩ : ∃ L, L = cs.length := ⟨_, rfl⟩
  rw [← hL] at HI m1 ⊢
  clear hL
  obtain ⟨b, hb⟩ : ∃ b, b = cs.any q := ⟨_, rfl⟩
  rw [← hb]
  have HB := Lib.hid hb
  clear hb
  go_enter Try.func18, Try.ntmps18
  go_wp2_with fail
  refine HI.out.mono ?_
  rintro e w1 ⟨r, rfl, hr, hb1⟩
  have HR := Lib.hid (And.intro hr hb1)
  rcases hr with ⟨rfl, hr⟩ | ⟨hi, hr⟩
  · have HB9 := Lib.hid hr
    clear hr hb1
    go_wp2_with fail
    go_ret
    refine ⟨ret_b ?_, HR.out.2⟩
    rw [HB.out, Eq.comm, List.any_eq_false]
    exact fun x hx => Bool.eq_false_iff.1 (HB9.out x hx)
  · have HB9 := Lib.hid hr
    clear hr hb1
    go_wp2_with fail
    go_ret
    refine ⟨ret_b ?_, HR.out.2⟩
    rw [HB.out, Eq.comm, List.any_eq_true]
    exact HB9.out
set_option maxHeartbeats 2000000 in
theorem zidxb_any {P0 P1 P2 : Nat} {q : Cl → Bool} {v : Value} {cs : List Cl} {w : World} (h : CRd w w.heap.size v cs)
    (hcl : ∀ c ∈ cs, ∀ W, Below w.heap.size w W → Calls Try.prog 20 #[clA c, .pointer (some ⟨P0, 0, none⟩), .pointer (some ⟨P1, 0, none⟩), .pointer (some ⟨P2, 0, none⟩)] W fun e w' => e = .returned (.bool (q c)) ∧ Below W.heap.size W w') :
    Calls Try.prog 36 #[v, .func (.func 20) #[] #[.pointer (some ⟨P0, 0, none⟩), .pointer (some ⟨P1, 0, none⟩), .pointer (some ⟨P2, 0, none⟩)]] w fun e w' => ∃ r : Int, e = .returned (.int .i64 r) ∧ ((r = -1 ∧ ∀ c ∈ cs, q c = false) ∨ (0 ≤ r ∧ ∃ c ∈ cs, q c = true)) ∧ Below w.heap.size w w' := by
  obtain ⟨A, cap, rfl, m1, m2⟩ := h.is
  unfold maxLen at m2
  obtain ⟨L, hL⟩ : ∃ L, L = cs.length := ⟨_, rfl⟩
  have HC := Lib.hid (And.intro h hcl)
  have HLL := Lib.hid hL
  have m3 : (L : Int) ≤ 9223372036854775807 := by rw [← hL] at m1; omega
  rw [← hL] at m1 ⊢
  clear h hL m2 hcl
  go_enter Try.func36, Try.ntmps36
  go_wp2_with fail
  go_loopw [8] (fun i wr => ∃ j : Nat, j ≤ L ∧ i = .int .i64 j ∧ (∀ (m : Nat) (y : Cl), m < j → cs[m]? = some y → q y = false) ∧ Below w.heap.size w wr) (fun i _ => L - (intOf i).toNat)
  case atStart => exact ⟨0, by omega, rfl, fun j y hj => by omega, Below.refl _ _⟩
  case round =>
    obtain ⟨j, hj, rfl, ha, hb⟩ := hrel
    have HA := Lib.hid (And.intro ha hb)
    by_cases hjn : j < L
    · obtain ⟨y, hy⟩ : ∃ y, cs[j]? = some y := ⟨_, List.getElem?_eq_getElem (by rw [← HLL.out]; exact hjn)⟩
      have hr := HC.out.1.below hb
      rw [← HLL.out] at hr
      obtain ⟨g, o, rfl, hg, d0, d1, d2, d3, d4, d5, d6⟩ := hr.cl hy
      have hK := HC.out.2 y (List.mem_of_getElem? hy) wr hb
      have HY := Lib.hid hy
      obtain ⟨z, hz⟩ : ∃ z, z = q y := ⟨_, rfl⟩
      rw [← hz] at hK
      have HZ := Lib.hid hz
      obtain ⟨y0, y1, y2, y3, y4, y5, y6⟩ := y
      simp only at d0 d1 d2 d3 d4 d5 d6
      simp only [clA] at hK
      have HK := Lib.hid hK
      have i1 : (0 : Int) ≤ (j : Int) := by omega
      have i2 : (j : Int) < (L : Int) := by omega
      clear hy hr ha hb hK hz
      cases z
      · go_wp2_with fail
        refine HK.out.mono ?_
        rintro e w' ⟨rfl, hb2⟩
        have HB2 := Lib.hid (HA.out.2.trans (hb2.mono HA.out.2.size))
        clear hb2
        go_wp2_with fail
        go_roundw
        case rel => exact ⟨j + 1, by omega, by go_num, fun m z hm hz => by
          rcases Nat.lt_or_ge m j with h | h
          · exact HA.out.1 m z h hz
          · obtain rfl : m = j := by omega
            rw [HY.out] at hz
            injection hz with hz
            subst hz
            exact HZ.out.symm, HB2.out⟩
        case measure => simp [intOf]; omega
      · go_wp2_with fail
        refine HK.out.mono ?_
        rintro e w' ⟨rfl, hb2⟩
        have HB2 := Lib.hid (HA.out.2.trans (hb2.mono HA.out.2.size))
        clear hb2
        go_wp2_with fail
        go_ret
        exact ⟨j, rfl, .inr ⟨i1, _, List.mem_of_getElem? HY.out, HZ.out.symm⟩, HB2.out⟩
    · obtain rfl : j = L := by omega
      clear ha hb
      go_wp2_with fail
      go_ret
      refine ⟨-1, rfl, .inl ⟨rfl, fun x hx => ?_⟩, HA.out.2⟩
      obtain ⟨i, hi, rfl⟩ := List.getElem_of_mem hx
      exact HA.out.1 i _ (by rw [HLL.out]; exact hi) (List.getElem?_eq_getElem hi)
theorem zcontb_any {P0 P1 P2 : Nat} {q : Cl → Bool} {v : Value} {cs : List Cl} {w : World} (h : CRd w w.heap.size v cs)
    (hcl : ∀ c ∈ cs, ∀ W, Below w.heap.size w W → Calls Try.prog 20 #[clA c, .pointer (some ⟨P0, 0, none⟩), .pointer (some ⟨P1, 0, none⟩), .pointer (some ⟨P2, 0, none⟩)] W fun e w' => e = .returned (.bool (q c)) ∧ Below W.heap.size W w') :
    Calls Try.prog 18 #[v, .func (.func 20) #[] #[.pointer (some ⟨P0, 0, none⟩), .pointer (some ⟨P1, 0, none⟩), .pointer (some ⟨P2, 0, none⟩)]] w fun e w' => e = .returned (.bool (cs.any q)) ∧ Below w.heap.size w w' := by
  have HI := Lib.hid (zidxb_any h hcl)
  obtain ⟨A, cap, rfl, m1, m2⟩ := h.is
  clear h hcl
  obtain ⟨L, hL⟩ : ∃ L, L = cs.length := ⟨_, rfl⟩
  rw [← hL] at HI m1 ⊢
  clear hL
  obtain ⟨b, hb⟩ : ∃ b, b = cs.any q := ⟨_, rfl⟩
  rw [← hb]
  have HB := Lib.hid hb
  clear hb
  go_enter Try.func18, Try.ntmps18
  go_wp2_with fail
  refine HI.out.mono ?_
  rintro e w1 ⟨r, rfl, hr, hb1⟩
  have HR := Lib.hid (And.intro hr hb1)
  rcases hr with ⟨rfl, hr⟩ | ⟨hi, hr⟩
  · have HB9 := Lib.hid hr
    clear hr hb1
    go_wp2_with fail
    go_ret
    refine ⟨ret_b ?_, HR.out.2⟩
    rw [HB.out, Eq.comm, List.any_eq_false]
    exact fun x hx => Bool.eq_false_iff.1 (HB9.out x hx)
  · have HB9 := Lib.hid hr
    clear hr hb1
    go_wp2_with fail
    go_ret
    refine ⟨ret_b ?_, HR.out.2⟩
    rw [HB.out, Eq.comm, List.any_eq_true]
    exact HB9.out
set_option maxHeartbeats 2000000 in
theorem zidxc_any {P0 P1 : Nat} {q : Cl → Bool} {v : Value} {cs : List Cl} {w : World} (h : CRd w w.heap.size v cs)
    (hcl : ∀ c ∈ cs, ∀ W, Below w.heap.size w W → Calls Try.prog 21 #[clA c, .pointer (some ⟨P0, 0, none⟩), .pointer (some ⟨P1, 0, none⟩)] W fun e w' => e = .returned (.bool (q c)) ∧ Below W.heap.size W w') :
    Calls Try.prog 36 #[v, .func (.func 21) #[] #[.pointer (some ⟨P0, 0, none⟩), .pointer (some ⟨P1, 0, none⟩)]] w fun e w' => ∃ r : Int, e = .returned (.int .i64 r) ∧ ((r = -1 ∧ ∀ c ∈ cs, q c = false) ∨ (0 ≤ r ∧ ∃ c ∈ cs, q c = true)) ∧ Below w.heap.size w w' := by
  obtain ⟨A, cap, rfl, m1, m2⟩ := h.is
  unfold maxLen at m2
  obtain ⟨L, hL⟩ : ∃ L, L = cs.length := ⟨_, rfl⟩
  have HC := Lib.hid (And.intro h hcl)
  have HLL := Lib.hid hL
  have m3 : (L : Int) ≤ 9223372036854775807 := by rw [← hL] at m1; omega
  rw [← hL] at m1 ⊢
  clear h hL m2 hcl
  go_enter Try.func36, Try.ntmps36
  go_wp2_with fail
  go_loopw [8] (fun i wr => ∃ j : Nat, j ≤ L ∧ i = .int .i64 j ∧ (∀ (m : Nat) (y : Cl), m < j → cs[m]? = some y → q y = false) ∧ Below w.heap.size w wr) (fun i _ => L - (intOf i).toNat)
  case atStart => exact ⟨0, by omega, rfl, fun j y hj => by omega, Below.refl _ _⟩
  case round =>
    obtain ⟨j, hj, rfl, ha, hb⟩ := hrel
    have HA := Lib.hid (And.intro ha hb)
    by_cases hjn : j < L
    · obtain ⟨y, hy⟩ : ∃ y, cs[j]? = some y := ⟨_, List.getElem?_eq_getElem (by rw [← HLL.out]; exact hjn)⟩
      have hr := HC.out.1.below hb
      rw [← HLL.out] at hr
      obtain ⟨g, o, rfl, hg, d0, d1, d2, d3, d4, d5, d6⟩ := hr.cl hy
      have hK := HC.out.2 y (List.mem_of_getElem? hy) wr hb
      have HY := Lib.hid hy
      obtain ⟨z, hz⟩ : ∃ z, z = q y := ⟨_, rfl⟩
      rw [← hz] at hK
      have HZ := Lib.hid hz
      obtain ⟨y0, y1, y2, y3, y4, y5, y6⟩ := y
      simp only at d0 d1 d2 d3 d4 d5 d6
      simp only [clA] at hK
      have HK := Lib.hid hK
      have i1 : (0 : Int) ≤ (j : Int) := by omega
      have i2 : (j : Int) < (L : Int) := by omega
      clear hy hr ha hb hK hz
      cases z
      · go_wp2_with fail
        refine HK.out.mono ?_
        rintro e w' ⟨rfl, hb2⟩
        have HB2 := Lib.hid (HA.out.2.trans (hb2.mono HA.out.2.size))
        clear hb2
        go_wp2_with fail
        go_roundw
        case rel => exact ⟨j + 1, by omega, by go_num, fun m z hm hz => by
          rcases Nat.lt_or_ge m j with h | h
          · exact HA.out.1 m z h hz
          · obtain rfl : m = j := by omega
            rw [HY.out] at hz
            injection hz with hz
            subst hz
            exact HZ.out.symm, HB2.out⟩
        case measure => simp [intOf]; omega
      · go_wp2_with fail
        refine HK.out.mono ?_
        rintro e w' ⟨rfl, hb2⟩
        have HB2 := Lib.hid (HA.out.2.trans (hb2.mono HA.out.2.size))
        clear hb2
        go_wp2_with fail
        go_ret
        exact ⟨j, rfl, .inr ⟨i1, _, List.mem_of_getElem? HY.out, HZ.out.symm⟩, HB2.out⟩
    · obtain rfl : j = L := by omega
      clear ha hb
      go_wp2_with fail
      go_ret
      refine ⟨-1, rfl, .inl ⟨rfl, fun x hx => ?_⟩, HA.out.2⟩
      obtain ⟨i, hi, rfl⟩ := List.getElem_of_mem hx
      exact HA.out.1 i _ (by rw [HLL.out]; exact hi) (List.getElem?_eq_getElem hi)
theorem zcontc_any {P0 P1 : Nat} {q : Cl → Bool} {v : Value} {cs : List Cl} {w : World} (h : CRd w w.heap.size v cs)
    (hcl : ∀ c ∈ cs, ∀ W, Below w.heap.size w W → Calls Try.prog 21 #[clA c, .pointer (some ⟨P0, 0, none⟩), .pointer (some ⟨P1, 0, none⟩)] W fun e w' => e = .returned (.bool (q c)) ∧ Below W.heap.size W w') :
    Calls Try.prog 18 #[v, .func (.func 21) #[] #[.pointer (some ⟨P0, 0, none⟩), .pointer (some ⟨P1, 0, none⟩)]] w fun e w' => e = .returned (.bool (cs.any q)) ∧ Below w.heap.size w w' := by
  have HI := Lib.hid (zidxc_any h hcl)
  obtain ⟨A, cap, rfl, m1, m2⟩ := h.is
  clear h hcl
  obtain ⟨L, hL⟩ : ∃ L, L = cs.length := ⟨_, rfl⟩
  rw [← hL] at HI m1 ⊢
  clear hL
  obtain ⟨b, hb⟩ : ∃ b, b = cs.any q := ⟨_, rfl⟩
  rw [← hb]
  have HB := Lib.hid hb
  clear hb
  go_enter Try.func18, Try.ntmps18
  go_wp2_with fail
  refine HI.out.mono ?_
  rintro e w1 ⟨r, rfl, hr, hb1⟩
  have HR := Lib.hid (And.intro hr hb1)
  rcases hr with ⟨rfl, hr⟩ | ⟨hi, hr⟩
  · have HB9 := Lib.hid hr
    clear hr hb1
    go_wp2_with fail
    go_ret
    refine ⟨ret_b ?_, HR.out.2⟩
    rw [HB.out, Eq.comm, List.any_eq_false]
    exact fun x hx => Bool.eq_false_iff.1 (HB9.out x hx)
  · have HB9 := Lib.hid hr
    clear hr hb1
    go_wp2_with fail
    go_ret
    refine ⟨ret_b ?_, HR.out.2⟩
    rw [HB.out, Eq.comm, List.any_eq_true]
    exact HB9.out
end Go.Proofs.Ytphhbojdolhieaa
