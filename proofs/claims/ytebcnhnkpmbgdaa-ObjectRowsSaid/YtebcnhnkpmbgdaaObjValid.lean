/-
  Contracts of object.within, and of valid of numbers, of rows, of sets.
-/
import Derived.Test.YtebcnhnkpmbgdaaHistSmall
import Derived.Test.YtebcnhnkpmbgdaaObjMem
namespace Go.Proofs.Ytebcnhnkpmbgdaa
open Go.RowKit
set_option maxRecDepth 20000

theorem owithin_any (n a b : Int) (w : World) : Calls Try.prog 77 #[.int .i64 n, .int .i64 a, .int .i64 b] w fun e w' => e = .returned (.bool (btw a n b)) ∧ w = w' := by
  by_cases h1 : a ≤ n
  · by_cases h2 : n ≤ b
    · have h : btw a n b = true := btw_iff.2 ⟨h1, h2⟩
      rw [h]
      clear h
      go_enter Try.func77, Try.ntmps77
      go_wp2
      go_ret
      exact ⟨rfl, rfl⟩
    · have h : btw a n b = false := btw_not.2 fun h => h2 h.2
      rw [h]
      clear h
      go_enter Try.func77, Try.ntmps77
      go_wp2
      go_ret
      exact ⟨rfl, rfl⟩
  · have h : btw a n b = false := btw_not.2 fun h => h1 h.1
    rw [h]
    clear h
    go_enter Try.func77, Try.ntmps77
    go_wp2
    go_ret
    exact ⟨rfl, rfl⟩
theorem owithin_yes {n a b : Int} (w : World) (h : btw a n b = true) : Calls Try.prog 77 #[.int .i64 n, .int .i64 a, .int .i64 b] w fun e w' => e = .returned (.bool true) ∧ w = w' := by
  have := owithin_any n a b w
  rwa [h] at this
theorem owithin_no {n a b : Int} (w : World) (h : btw a n b = false) : Calls Try.prog 77 #[.int .i64 n, .int .i64 a, .int .i64 b] w fun e w' => e = .returned (.bool false) ∧ w = w' := by
  have := owithin_any n a b w
  rwa [h] at this

theorem rec_cell {w : World} {g : Nat} {t : TypeId} {v : Value} (h : Lies w g t #[v]) : w.cell? ⟨g, 0, none⟩ = some v := by rw [h.cell]; rfl

set_option maxHeartbeats 1000000 in
theorem nvalid_any {g : Nat} {t : TypeId} {v : Value} {l : List Int} {w : World} (h : Lies w g t #[v]) (hr : NRd w w.heap.size v l) :
    Calls Try.prog 76 #[.pointer (some ⟨g, 0, none⟩)] w fun e w' => e = .returned (.bool (decide (l.length = 1) && btw 0 (l.getD 0 0) 1000)) ∧ w = w' := by
  have c0 := rec_cell h
  obtain ⟨A, cap, rfl, m1, m2⟩ := hr.is
  unfold maxLen at m2
  by_cases hl : l.length = 1
  · obtain ⟨gl, o, rfl, hgl, hc⟩ := hr.ints (by omega)
    have d0 := hc 0 (l.getD 0 0) (by rw [List.getD_eq_getElem?_getD, List.getElem?_eq_getElem (by omega)]; rfl)
    rw [Nat.add_zero] at d0
    rw [decide_eq_true hl, Bool.true_and]
    have HY := Lib.hid hc
    have HR := Lib.hid hr
    clear hc hr h
    generalize l.getD 0 0 = y at d0 ⊢
    rw [hl] at c0
    go_enter Try.func76, Try.ntmps76
    go_wp2_with (go_at_call 77; (with_reducible refine (owithin_any _ _ _ _).mono ?_); rintro e w' ⟨rfl, rfl⟩)
    go_ret
    exact ⟨rfl, rfl⟩
  · rw [decide_eq_false hl, Bool.false_and]
    have hz : ((l.length : Int) == 1) = false := by rw [beq_eq_false_iff_ne]; omega
    go_enter Try.func76, Try.ntmps76
    go_wp2
    go_ret
    exact ⟨rfl, rfl⟩

/-- All of a row are values. -/
def rowB (l : List Int) : Bool := l.all fun x => btw 1 x 1000
theorem rowB_yes {l : List Int} (h : ∀ (j : Nat) (x : Int), l[j]? = some x → btw 1 x 1000 = true) : rowB l = true := by
  unfold rowB
  rw [List.all_eq_true]
  intro x hx
  obtain ⟨j, hj, e⟩ := List.getElem_of_mem hx
  exact h j x (by rw [List.getElem?_eq_getElem hj, e])
theorem rowB_no {l : List Int} {j : Nat} {x : Int} (hx : l[j]? = some x) (h : btw 1 x 1000 = false) : rowB l = false := by
  unfold rowB
  rw [List.all_eq_false]
  exact ⟨x, List.mem_of_getElem? hx, by rw [h]; decide⟩

set_option maxHeartbeats 1000000 in
theorem rvalid_any {g : Nat} {t : TypeId} {v : Value} {l : List Int} {w : World} (h : Lies w g t #[v]) (hr : NRd w w.heap.size v l) :
    Calls Try.prog 81 #[.pointer (some ⟨g, 0, none⟩)] w fun e w' => e = .returned (.bool (rowB l)) ∧ w = w' := by
  have c0 := rec_cell h
  obtain ⟨A, cap, rfl, m1, m2⟩ := hr.is
  unfold maxLen at m2
  have HR := Lib.hid hr
  clear hr h
  obtain ⟨n, hn⟩ : ∃ n, n = l.length := ⟨_, rfl⟩
  have HN := Lib.hid hn
  rw [← hn] at c0 m1
  clear hn
  generalize hb : rowB l = b
  have HB := Lib.hid hb
  clear hb
  go_enter Try.func81, Try.ntmps81
  go_wp2
  go_loop [10] (fun i => ∃ k : Nat, k ≤ n ∧ i = .int .i64 k ∧ ∀ j x, j < k → l[j]? = some x → btw 1 x 1000 = true) (fun i => n - (intOf i).toNat)
  case atStart => exact ⟨0, by omega, rfl, fun j x hj => by omega⟩
  case round =>
    obtain ⟨k, hk, rfl, ha⟩ := hrel
    have HA := Lib.hid ha
    clear ha
    by_cases hkn : k < n
    · obtain ⟨x, hx⟩ : ∃ x, l[k]? = some x := ⟨_, List.getElem?_eq_getElem (by rw [← HN.out]; exact hkn)⟩
      have hr' := HR.out
      rw [← HN.out] at hr'
      obtain ⟨gl, o, rfl, -, d0⟩ := hr'.num hx
      have HX := Lib.hid hx
      clear hr' hx
      cases hw : btw 1 x 1000
      · have HW := Lib.hid hw
        have hc := fun W : World => owithin_no W hw
        have HC := Lib.hid hc
        clear hw hc
        go_wp2_with (go_at_call 77; (with_reducible refine (HC.out _).mono ?_); rintro e w' ⟨rfl, rfl⟩)
        go_ret
        exact ⟨ret_bool ((rowB_no HX.out HW.out).symm.trans HB.out), rfl⟩
      · have HW := Lib.hid hw
        have hc := fun W : World => owithin_yes W hw
        have HC := Lib.hid hc
        clear hw hc
        go_wp2_with (go_at_call 77; (with_reducible refine (HC.out _).mono ?_); rintro e w' ⟨rfl, rfl⟩)
        go_round
        case rel => exact ⟨k + 1, by omega, by go_num, fun j y hj hy => by
          rcases Nat.lt_or_ge j k with h | h
          · exact HA.out j y h hy
          · obtain rfl : j = k := by omega
            rw [HX.out] at hy
            injection hy with hy
            subst hy
            exact HW.out⟩
        case measure => simp [intOf]; omega
    · obtain rfl : k = n := by omega
      go_wp2
      go_ret
      exact ⟨ret_bool ((rowB_yes fun j x hx => HA.out j x (by rw [HN.out]; exact (List.getElem?_eq_some_iff.1 hx).1) hx).symm.trans HB.out), rfl⟩

set_option maxHeartbeats 2000000 in
theorem svalid_any {g : Nat} {t : TypeId} {v : Value} {l : List Int} {w : World} (h : Lies w g t #[v]) (hr : NRd w w.heap.size v l) :
    Calls Try.prog 92 #[.pointer (some ⟨g, 0, none⟩)] w fun e w' => e = .returned (.bool (rowB l && incrB l)) ∧ ∃ q, w' = w.drewN q := by
  obtain ⟨A, cap, rfl, m1, m2⟩ := hr.is
  unfold maxLen at m2
  have HR := Lib.hid hr
  have HL := Lib.hid h
  clear hr h
  obtain ⟨n, hn⟩ : ∃ n, n = l.length := ⟨_, rfl⟩
  have HN := Lib.hid hn
  rw [← hn] at m1
  have HL' := HL.out
  rw [← hn] at HL'
  clear HL hn
  have HL := Lib.hid HL'
  clear HL'
  generalize hb : (rowB l && incrB l) = b
  have HB := Lib.hid hb
  clear hb
  go_enter Try.func92, Try.ntmps92
  go_wp2_with fail
  go_loopw [3] (fun i wr => ∃ k : Nat, 1 ≤ k ∧ (k ≤ n ∨ k = 1) ∧ i = .int .i64 k ∧ (∀ j, j + 1 < k → j + 1 < l.length → l.getD j 0 < l.getD (j + 1) 0) ∧ ∃ q, wr = w.drewN q) (fun i _ => n - (intOf i).toNat)
  case atStart => exact ⟨1, by omega, by omega, rfl, fun j hj => by omega, 0, rfl⟩
  case round =>
    obtain ⟨k, hk1, hk2, rfl, ha, q, rfl⟩ := hrel
    have HA := Lib.hid ha
    clear ha
    have c0 := rec_cell HL.out
    by_cases hkn : k < n
    · obtain ⟨x, hx⟩ : ∃ x, l[k]? = some x := ⟨_, List.getElem?_eq_getElem (by rw [← HN.out]; exact hkn)⟩
      obtain ⟨y, hy⟩ : ∃ y, l[k - 1]? = some y := ⟨_, List.getElem?_eq_getElem (by rw [← HN.out]; omega)⟩
      have hr' := HR.out
      rw [← HN.out] at hr'
      obtain ⟨gl, o, hA, -, d0⟩ := hr'.num hx
      obtain ⟨gl', o', hA', -, d1⟩ := hr'.num hy
      rw [hA] at hA'
      injection hA' with hA'
      injection hA' with e1 e2
      subst e1 e2 hA
      have gx : l.getD k 0 = x := by rw [List.getD_eq_getElem?_getD, hx]; rfl
      have gy : l.getD (k - 1) 0 = y := by rw [List.getD_eq_getElem?_getD, hy]; rfl
      have HX := Lib.hid (And.intro gx gy)
      clear hr' hx hy gx gy
      have i0 : (0 : Int) ≤ (k : Int) - 1 := by omega
      have i1 : (k : Int) - 1 < (n : Int) := by omega
      have i2 : (k : Int) < (n : Int) := by omega
      have i3 : (0 : Int) ≤ (k : Int) := by omega
      have hs1 : IntKind.i64.wrap ((k : Int) - 1) = (k : Int) - 1 := IntWalk.i64_in _ (by omega)
      have hs2 : ((k : Int) - 1).toNat = k - 1 := by omega
      by_cases hle : x ≤ y
      · have hd : decide (x ≤ y) = true := decide_eq_true hle
        have HW := Lib.hid hle
        clear hle
        go_wp2_with fail
        go_quiet (fail)
        go_wp2_with fail
        go_ret
        refine ⟨ret_bool ?_, q + nq, World.drewN_drewN _ _ _⟩
        rw [← HB.out, not_sorted (i := k - 1) (by rw [← HN.out]; omega) (by
          rw [show k - 1 + 1 = k by omega, HX.out.1, HX.out.2]
          exact HW.out), Bool.and_false]
      · have hd : decide (x ≤ y) = false := decide_eq_false hle
        have HW := Lib.hid hle
        clear hle
        go_wp2_with fail
        go_quiet (fail)
        go_wp2_with fail
        go_roundw
        case rel => exact ⟨k + 1, by omega, by omega, by go_num, fun j hj hjl => by
          rcases Nat.lt_or_ge (j + 1) k with h | h
          · exact HA.out j h hjl
          · obtain rfl : j + 1 = k := by omega
            rw [HX.out.1]
            have := HX.out.2
            rw [Nat.add_sub_cancel] at this
            rw [this]
            have := HW.out
            omega, _, rfl⟩
        case measure => simp [intOf]; omega
    · have hi : incrB l = true := sorted_yes fun j hj => HA.out j (by rw [← HN.out] at hj; omega) hj
      have hv := rvalid_any (HL.out.drewN q) (by
        have := HR.out.below (rdB0 w q)
        rw [← HN.out] at this
        exact this)
      have HV := Lib.hid hv
      have HI := Lib.hid hi
      clear hv hi
      go_wp2_with fail
      refine HV.out.mono ?_
      rintro e w' ⟨rfl, rfl⟩
      go_wp2_with fail
      go_ret
      exact ⟨ret_bool (by rw [← HB.out, HI.out, Bool.and_true]), q, rfl⟩
end Go.Proofs.Ytebcnhnkpmbgdaa
