/-
  Joined by a program out of: ObjValid, ObjStart.
-/
import Derived.Test.YthjmncngegchjaaGreatDoorMgAE
import Derived.Test.YthjmncngegchjaaGreatDoorMgAW
import Derived.Test.YthjmncngegchjaaGreatDoorMgAG

/-
  Contracts of object.within, and of valid of numbers, of rows, of sets.
-/
namespace Go.Proofs.YthjmncngegchjaaGreatDoor
open Go.RowKit
set_option maxRecDepth 20000
theorem owithin_any (n a b : Int) (w : World) : Calls Tryz.prog 119 #[.int .i64 n, .int .i64 a, .int .i64 b] w fun e w' => e = .returned (.bool (btw a n b)) ∧ w = w' := by
  by_cases h1 : a ≤ n
  · by_cases h2 : n ≤ b
    · have h : btw a n b = true := btw_iff.2 ⟨h1, h2⟩
      rw [h]
      clear h
      go_enter Tryz.func119, Tryz.ntmps119
      go_wp2
      go_ret
      exact ⟨rfl, rfl⟩
    · have h : btw a n b = false := btw_not.2 fun h => h2 h.2
      rw [h]
      clear h
      go_enter Tryz.func119, Tryz.ntmps119
      go_wp2
      go_ret
      exact ⟨rfl, rfl⟩
  · have h : btw a n b = false := btw_not.2 fun h => h1 h.1
    rw [h]
    clear h
    go_enter Tryz.func119, Tryz.ntmps119
    go_wp2
    go_ret
    exact ⟨rfl, rfl⟩
theorem owithin_yes {n a b : Int} (w : World) (h : btw a n b = true) : Calls Tryz.prog 119 #[.int .i64 n, .int .i64 a, .int .i64 b] w fun e w' => e = .returned (.bool true) ∧ w = w' := by
  have := owithin_any n a b w
  rwa [h] at this
theorem owithin_no {n a b : Int} (w : World) (h : btw a n b = false) : Calls Tryz.prog 119 #[.int .i64 n, .int .i64 a, .int .i64 b] w fun e w' => e = .returned (.bool false) ∧ w = w' := by
  have := owithin_any n a b w
  rwa [h] at this
theorem rec_cell {w : World} {g : Nat} {t : TypeId} {v : Value} (h : Lies w g t #[v]) : w.cell? ⟨g, 0, none⟩ = some v := by rw [h.cell]; rfl
set_option maxHeartbeats 1000000 in
theorem nvalid_any {g : Nat} {t : TypeId} {v : Value} {l : List Int} {w : World} (h : Lies w g t #[v]) (hr : NRd w w.heap.size v l) :
    Calls Tryz.prog 118 #[.pointer (some ⟨g, 0, none⟩)] w fun e w' => e = .returned (.bool (decide (l.length = 1) && btw 0 (l.getD 0 0) 1000)) ∧ w = w' := by
  have c0 := rec_cell h
  obtain ⟨A, cap, rfl, m1, m2⟩ := hr.is
  unfold maxLen at m2
  by_cases hl : l.length = 1
  · obtain ⟨gl, o, rfl, hgl, hc⟩ := hr.ints (by omega)
    have d0 := hc 0 (l.getD 0 0) (by rw [List.getD_eq_getElem?_getD, List.getElem?_eq_getElem (by omega)]; rfl)
    rw [Nat.add_zero] at d0
    rw [decide_eq_true hl, Bool.true_and]
    have HY := Lib.hid hc
    have HR := Lib.hid hr
    clear hc hr h
    generalize l.getD 0 0 = y at d0 ⊢
    rw [hl] at c0
    go_enter Tryz.func118, Tryz.ntmps118
    go_wp2_with (go_at_call 119; (with_reducible refine (owithin_any _ _ _ _).mono ?_); rintro e w' ⟨rfl, rfl⟩)
    go_ret
    exact ⟨rfl, rfl⟩
  · rw [decide_eq_false hl, Bool.false_and]
    have hz : ((l.length : Int) == 1) = false := by rw [beq_eq_false_iff_ne]; omega
    go_enter Tryz.func118, Tryz.ntmps118
    go_wp2
    go_ret
    exact ⟨rfl, rfl⟩
/-- All of a row are values. -/
def rowB (l : List Int) : Bool := l.all fun x => btw 1 x 1000
theorem rowB_yes {l : List Int} (h : ∀ (j : Nat) (x : Int), l[j]? = some x → btw 1 x 1000 = true) : rowB l = true := by
  unfold rowB
  rw [List.all_eq_true]
  intro x hx
  obtain ⟨j, hj, e⟩ := List.getElem_of_mem hx
  exact h j x (by rw [List.getElem?_eq_getElem hj, e])
theorem rowB_no {l : List Int} {j : Nat} {x : Int} (hx : l[j]? = some x) (h : btw 1 x 1000 = false) : rowB l = false := by
  unfold rowB
  rw [List.all_eq_false]
  exact ⟨x, List.mem_of_getElem? hx, by rw [h]; decide⟩
set_option maxHeartbeats 1000000 in
theorem rvalid_any {g : Nat} {t : TypeId} {v : Value} {l : List Int} {w : World} (h : Lies w g t #[v]) (hr : NRd w w.heap.size v l) :
    Calls Tryz.prog 123 #[.pointer (some ⟨g, 0, none⟩)] w fun e w' => e = .returned (.bool (rowB l)) ∧ w = w' := by
  have c0 := rec_cell h
  obtain ⟨A, cap, rfl, m1, m2⟩ := hr.is
  unfold maxLen at m2
  have HR := Lib.hid hr
  clear hr h
  obtain ⟨n, hn⟩ : ∃ n, n = l.length := ⟨_, rfl⟩
  have HN := Lib.hid hn
  rw [← hn] at c0 m1
  clear hn
  generalize hb : rowB l = b
  have HB := Lib.hid hb
  clear hb
  go_enter Tryz.func123, Tryz.ntmps123
  go_wp2
  go_loop [10] (fun i => ∃ k : Nat, k ≤ n ∧ i = .int .i64 k ∧ ∀ j x, j < k → l[j]? = some x → btw 1 x 1000 = true) (fun i => n - (intOf i).toNat)
  case atStart => exact ⟨0, by omega, rfl, fun j x hj => by omega⟩
  case round =>
    obtain ⟨k, hk, rfl, ha⟩ := hrel
    have HA := Lib.hid ha
    clear ha
    by_cases hkn : k < n
    · obtain ⟨x, hx⟩ : ∃ x, l[k]? = some x := ⟨_, List.getElem?_eq_getElem (by rw [← HN.out]; exact hkn)⟩
      have hr' := HR.out
      rw [← HN.out] at hr'
      obtain ⟨gl, o, rfl, -, d0⟩ := hr'.num hx
      have HX := Lib.hid hx
      clear hr' hx
      cases hw : btw 1 x 1000
      · have HW := Lib.hid hw
        have hc := fun W : World => owithin_no W hw
        have HC := Lib.hid hc
        clear hw hc
        go_wp2_with (go_at_call 119; (with_reducible refine (HC.out _).mono ?_); rintro e w' ⟨rfl, rfl⟩)
        go_ret
        exact ⟨ret_bool ((rowB_no HX.out HW.out).symm.trans HB.out), rfl⟩
      · have HW := Lib.hid hw
        have hc := fun W : World => owithin_yes W hw
        have HC := Lib.hid hc
        clear hw hc
        go_wp2_with (go_at_call 119; (with_reducible refine (HC.out _).mono ?_); rintro e w' ⟨rfl, rfl⟩)
        go_round
        case rel => exact ⟨k + 1, by omega, by go_num, fun j y hj hy => by
          rcases Nat.lt_or_ge j k with h | h
          · exact HA.out j y h hy
          · obtain rfl : j = k := by omega
            rw [HX.out] at hy
            injection hy with hy
            subst hy
            exact HW.out⟩
        case measure => simp [intOf]; omega
    · obtain rfl : k = n := by omega
      go_wp2
      go_ret
      exact ⟨ret_bool ((rowB_yes fun j x hx => HA.out j x (by rw [HN.out]; exact (List.getElem?_eq_some_iff.1 hx).1) hx).symm.trans HB.out), rfl⟩
set_option maxHeartbeats 2000000 in
theorem svalid_any {g : Nat} {t : TypeId} {v : Value} {l : List Int} {w : World} (h : Lies w g t #[v]) (hr : NRd w w.heap.size v l) :
    Calls Tryz.prog 134 #[.pointer (some ⟨g, 0, none⟩)] w fun e w' => e = .returned (.bool (rowB l && incrB l)) ∧ ∃ q, w' = w.drewN q := by
  obtain ⟨A, cap, rfl, m1, m2⟩ := hr.is
  unfold maxLen at m2
  have HR := Lib.hid hr
  have HL := Lib.hid h
  clear hr h
  obtain ⟨n, hn⟩ : ∃ n, n = l.length := ⟨_, rfl⟩
  have HN := Lib.hid hn
  rw [← hn] at m1
  have HL' := HL.out
  rw [← hn] at HL'
  clear HL hn
  have HL := Lib.hid HL'
  clear HL'
  generalize hb : (rowB l && incrB l) = b
  have HB := Lib.hid hb
  clear hb
  go_enter Tryz.func134, Tryz.ntmps134
  go_wp2_with fail
  go_loopw [3] (fun i wr => ∃ k : Nat, 1 ≤ k ∧ (k ≤ n ∨ k = 1) ∧ i = .int .i64 k ∧ (∀ j, j + 1 < k → j + 1 < l.length → l.getD j 0 < l.getD (j + 1) 0) ∧ ∃ q, wr = w.drewN q) (fun i _ => n - (intOf i).toNat)
  case atStart => exact ⟨1, by omega, by omega, rfl, fun j hj => by omega, 0, rfl⟩
  case round =>
    obtain ⟨k, hk1, hk2, rfl, ha, q, rfl⟩ := hrel
    have HA := Lib.hid ha
    clear ha
    have c0 := rec_cell HL.out
    by_cases hkn : k < n
    · obtain ⟨x, hx⟩ : ∃ x, l[k]? = some x := ⟨_, List.getElem?_eq_getElem (by rw [← HN.out]; exact hkn)⟩
      obtain ⟨y, hy⟩ : ∃ y, l[k - 1]? = some y := ⟨_, List.getElem?_eq_getElem (by rw [← HN.out]; omega)⟩
      have hr' := HR.out
      rw [← HN.out] at hr'
      obtain ⟨gl, o, hA, -, d0⟩ := hr'.num hx
      obtain ⟨gl', o', hA', -, d1⟩ := hr'.num hy
      rw [hA] at hA'
      injection hA' with hA'
      injection hA' with e1 e2
      subst e1 e2 hA
      have gx : l.getD k 0 = x := by rw [List.getD_eq_getElem?_getD, hx]; rfl
      have gy : l.getD (k - 1) 0 = y := by rw [List.getD_eq_getElem?_getD, hy]; rfl
      have HX := Lib.hid (And.intro gx gy)
      clear hr' hx hy gx gy
      have i0 : (0 : Int) ≤ (k : Int) - 1 := by omega
      have i1 : (k : Int) - 1 < (n : Int) := by omega
      have i2 : (k : Int) < (n : Int) := by omega
      have i3 : (0 : Int) ≤ (k : Int) := by omega
      have hs1 : IntKind.i64.wrap ((k : Int) - 1) = (k : Int) - 1 := IntWalk.i64_in _ (by omega)
      have hs2 : ((k : Int) - 1).toNat = k - 1 := by omega
      by_cases hle : x ≤ y
      · have hd : decide (x ≤ y) = true := decide_eq_true hle
        have HW := Lib.hid hle
        clear hle
        go_wp2_with fail
        go_quiet (fail)
        go_wp2_with fail
        go_ret
        refine ⟨ret_bool ?_, q + nq, World.drewN_drewN _ _ _⟩
        rw [← HB.out, not_sorted (i := k - 1) (by rw [← HN.out]; omega) (by
          rw [show k - 1 + 1 = k by omega, HX.out.1, HX.out.2]
          exact HW.out), Bool.and_false]
      · have hd : decide (x ≤ y) = false := decide_eq_false hle
        have HW := Lib.hid hle
        clear hle
        go_wp2_with fail
        go_quiet (fail)
        go_wp2_with fail
        go_roundw
        case rel => exact ⟨k + 1, by omega, by omega, by go_num, fun j hj hjl => by
          rcases Nat.lt_or_ge (j + 1) k with h | h
          · exact HA.out j h hjl
          · obtain rfl : j + 1 = k := by omega
            rw [HX.out.1]
            have := HX.out.2
            rw [Nat.add_sub_cancel] at this
            rw [this]
            have := HW.out
            omega, _, rfl⟩
        case measure => simp [intOf]; omega
    · have hi : incrB l = true := sorted_yes fun j hj => HA.out j (by rw [← HN.out] at hj; omega) hj
      have hv := rvalid_any (HL.out.drewN q) (by
        have := HR.out.below (rdB0 w q)
        rw [← HN.out] at this
        exact this)
      have HV := Lib.hid hv
      have HI := Lib.hid hi
      clear hv hi
      go_wp2_with fail
      refine HV.out.mono ?_
      rintro e w' ⟨rfl, rfl⟩
      go_wp2_with fail
      go_ret
      exact ⟨ret_bool (by rw [← HB.out, HI.out, Bool.and_true]), q, rfl⟩
end Go.Proofs.YthjmncngegchjaaGreatDoor

/-
  Contracts of object.Start, object.Check, object.invocable.
-/
namespace Go.Proofs.YthjmncngegchjaaGreatDoor
open Go.RowKit
set_option maxRecDepth 20000
def startE (typ : Int) : Int := if btw 1 typ 5 = true then 0 else 1
/-- What Start answers. -/
def StartPost (w : World) (typ : Int) (e : Ending) (w' : World) : Prop :=
  ∃ v, e = .returned (.tuple #[v, .int .i64 (startE typ)]) ∧ IOwn w' w.heap.size v (beginL typ) ∧ Below w.heap.size w w'
theorem nstart_any (a : Addr) (w : World) : Calls Tryz.prog 116 #[.pointer (some a)] w fun e w' => e = .returned (.slice (some ⟨w.heap.size, 0, none⟩) 1 1) ∧ w' = w.alloc (.cells #[.int .i64 0] 3) := by
  go_enter Tryz.func116, Tryz.ntmps116
  go_wp2
  go_ret
  exact ⟨rfl, rfl⟩
theorem rstart_any (a : Addr) (w : World) : Calls Tryz.prog 121 #[.pointer (some a)] w fun e w' => e = .returned (.slice none 0 0) ∧ w = w' := by
  go_enter Tryz.func121, Tryz.ntmps121
  go_wp2
  go_ret
  exact ⟨rfl, rfl⟩
theorem zero_own (w : World) (B : Nat) (hB : B ≤ w.heap.size) : IOwn (w.alloc (.cells #[.int .i64 0] 3)) B (.slice (some ⟨w.heap.size, 0, none⟩) 1 1) [0] :=
  Or.inr ⟨_, 1, [0], rfl, hB, Lies.new w _ _, rfl, Nat.le_refl _, by unfold maxLen; omega, rfl⟩
set_option maxHeartbeats 1000000 in
theorem start_any (typ : Int) (w : World) : Calls Tryz.prog 49 #[.int .i64 typ] w (StartPost w typ) := by
  rcases typ_ways typ with rfl | rfl | rfl | rfl | rfl | ⟨h1, h2, h3, h4, h5, h⟩
  · have m1 := meth_reg_start
    go_enter Tryz.func49, Tryz.ntmps49
    go_wp2_with (first | (go_at_call 59; (with_reducible refine (open_reg _ _ _ _).mono ?_); rintro e w' ⟨rfl, rfl⟩) | (go_at_call 116; (with_reducible refine (nstart_any _ _).mono ?_); rintro e w' ⟨rfl, rfl⟩))
    go_ret2
    refine ⟨_, rfl, ?_, ((Below.refl _ _).alloc (Nat.le_refl _) _).alloc (by simp) _⟩
    have := zero_own (w.alloc (.cells #[.slice none 0 0] 144)) w.heap.size (by simp)
    rw [show beginL 1 = [0] from rfl]
    simpa using this
  · have m1 := meth_queue_start
    go_enter Tryz.func49, Tryz.ntmps49
    go_wp2_with (first | (go_at_call 59; (with_reducible refine (open_queue _ _ _ _).mono ?_); rintro e w' ⟨rfl, rfl⟩) | (go_at_call 121; (with_reducible refine (rstart_any _ _).mono ?_); rintro e w' ⟨rfl, rfl⟩))
    go_ret2
    exact ⟨_, rfl, Or.inl ⟨rfl, rfl⟩, (Below.refl _ _).alloc (Nat.le_refl _) _⟩
  · have m1 := meth_stack_start
    go_enter Tryz.func49, Tryz.ntmps49
    go_wp2_with (first | (go_at_call 59; (with_reducible refine (open_stack _ _ _ _).mono ?_); rintro e w' ⟨rfl, rfl⟩) | (go_at_call 121; (with_reducible refine (rstart_any _ _).mono ?_); rintro e w' ⟨rfl, rfl⟩))
    go_ret2
    exact ⟨_, rfl, Or.inl ⟨rfl, rfl⟩, (Below.refl _ _).alloc (Nat.le_refl _) _⟩
  · have m1 := meth_set_start
    go_enter Tryz.func49, Tryz.ntmps49
    go_wp2_with (first | (go_at_call 59; (with_reducible refine (open_set _ _ _ _).mono ?_); rintro e w' ⟨rfl, rfl⟩) | (go_at_call 121; (with_reducible refine (rstart_any _ _).mono ?_); rintro e w' ⟨rfl, rfl⟩))
    go_ret2
    exact ⟨_, rfl, Or.inl ⟨rfl, rfl⟩, (Below.refl _ _).alloc (Nat.le_refl _) _⟩
  · have m1 := meth_ticket_start
    go_enter Tryz.func49, Tryz.ntmps49
    go_wp2_with (first | (go_at_call 59; (with_reducible refine (open_ticket _ _ _ _).mono ?_); rintro e w' ⟨rfl, rfl⟩) | (go_at_call 116; (with_reducible refine (nstart_any _ _).mono ?_); rintro e w' ⟨rfl, rfl⟩))
    go_ret2
    refine ⟨_, rfl, ?_, ((Below.refl _ _).alloc (Nat.le_refl _) _).alloc (by simp) _⟩
    have := zero_own (w.alloc (.cells #[.slice none 0 0] 154)) w.heap.size (by simp)
    rw [show beginL 5 = [0] from rfl]
    simpa using this
  · have e1 : startE typ = 1 := by unfold startE; rw [h]; rfl
    have e2 : beginL typ = [] := by
      unfold beginL oneB
      simp only [beq_eq_false_iff_ne] at h1 h5
      rw [if_neg (by simp [h1, h5])]
    unfold StartPost
    rw [e1, e2]
    have HC := Lib.hid (fun A n c W => open_none ⟨h1, h2, h3, h4, h5⟩ A n c W)
    clear h1 h2 h3 h4 h5 h e1 e2
    go_enter Tryz.func49, Tryz.ntmps49
    go_wp2_with (go_at_call 59; (with_reducible refine (HC.out _ _ _ _).mono ?_); rintro e w' ⟨rfl, rfl⟩)
    go_ret2
    exact ⟨_, rfl, Or.inl ⟨rfl, rfl⟩, Below.refl _ _⟩
/-- Behind open, over a state that was handed in. -/
theorem NRd.alloc {w : World} {v : Value} {l : List Int} (h : NRd w w.heap.size v l) (o : Obj) : NRd (w.alloc o) (w.alloc o).heap.size v l := (h.below ((Below.refl _ _).alloc (Nat.le_refl _) o)).mono (by simp)
theorem valid_num {typ : Int} (h : oneB typ = true) (l : List Int) : validB typ l = (decide (l.length = 1) && btw 0 (l.getD 0 0) 1000) := by unfold validB; rw [if_pos h]
theorem valid_rows {typ : Int} (h : oneB typ = false) (h4 : (typ != 4) = true) (l : List Int) : validB typ l = rowB l := by
  unfold validB
  rw [if_neg (by rw [h]; decide), h4, Bool.true_or, Bool.and_true]
  rfl
theorem valid_set (l : List Int) : validB 4 l = (rowB l && incrB l) := rfl
theorem stateE_long {typ : Int} {l : List Int} (h : btw 1 typ 5 = true) (hn : 50 < l.length) : stateE typ l = 2 := by unfold stateE; rw [h, if_neg (by decide), if_pos hn]
theorem stateE_bad {typ : Int} {l : List Int} (h : btw 1 typ 5 = true) (hn : ¬ 50 < l.length) (hv : validB typ l = false) : stateE typ l = 3 := by unfold stateE; rw [h, if_neg (by decide), if_neg hn, if_pos hv]
theorem stateE_good {typ : Int} {l : List Int} (h : btw 1 typ 5 = true) (hn : ¬ 50 < l.length) (hv : validB typ l = true) : stateE typ l = 0 := by unfold stateE; rw [h, if_neg (by decide), if_neg hn, if_neg (by rw [hv]; decide)]
set_option maxHeartbeats 4000000 in
theorem check_any {v : Value} {l : List Int} {w : World} (typ : Int) (hr : NRd w w.heap.size v l) :
    Calls Tryz.prog 68 #[.int .i64 typ, v] w fun e w' => e = .returned (.int .i64 (stateE typ l)) ∧ Below w.heap.size w w' := by
  obtain ⟨A, cap, rfl, m1, m2⟩ := hr.is
  unfold maxLen at m2
  rcases typ_ways typ with rfl | rfl | rfl | rfl | rfl | ⟨h1, h2, h3, h4, h5, h⟩
  · have m1 := meth_reg_valid
    by_cases hn : 50 < l.length
    · rw [stateE_long rfl hn]
      have hn' : (50 : Int) < (l.length : Int) := by omega
      clear hr hn
      go_enter Tryz.func68, Tryz.ntmps68
      go_wp2_with (go_at_call 59; (with_reducible refine (open_reg _ _ _ _).mono ?_); rintro e w' ⟨rfl, rfl⟩)
      go_ret
      exact ⟨rfl, (Below.refl _ _).alloc (Nat.le_refl _) _⟩
    · have hn' : ¬ (50 : Int) < (l.length : Int) := by omega
      have hV := nvalid_any (Lies.new w 144 #[.slice A l.length cap]) (hr.alloc _)
      rw [← valid_num (typ := 1) rfl l] at hV
      cases hb : validB 1 l
      all_goals
        first | rw [stateE_bad rfl hn hb] | rw [stateE_good rfl hn hb]
        rw [hb] at hV
        have HV := Lib.hid hV
        clear hV hb hr hn
        go_enter Tryz.func68, Tryz.ntmps68
        go_wp2_with (first | (go_at_call 59; (with_reducible refine (open_reg _ _ _ _).mono ?_); rintro e w' ⟨rfl, rfl⟩) | (go_at_call 118; refine HV.out.mono ?_; rintro e w' ⟨rfl, rfl⟩))
        go_ret
        exact ⟨rfl, (Below.refl _ _).alloc (Nat.le_refl _) _⟩
  · have m1 := meth_queue_valid
    by_cases hn : 50 < l.length
    · rw [stateE_long rfl hn]
      have hn' : (50 : Int) < (l.length : Int) := by omega
      clear hr hn
      go_enter Tryz.func68, Tryz.ntmps68
      go_wp2_with (go_at_call 59; (with_reducible refine (open_queue _ _ _ _).mono ?_); rintro e w' ⟨rfl, rfl⟩)
      go_ret
      exact ⟨rfl, (Below.refl _ _).alloc (Nat.le_refl _) _⟩
    · have hn' : ¬ (50 : Int) < (l.length : Int) := by omega
      have hV := rvalid_any (Lies.new w 148 #[.slice A l.length cap]) (hr.alloc _)
      rw [← valid_rows (typ := 2) rfl rfl l] at hV
      cases hb : validB 2 l
      all_goals
        first | rw [stateE_bad rfl hn hb] | rw [stateE_good rfl hn hb]
        rw [hb] at hV
        have HV := Lib.hid hV
        clear hV hb hr hn
        go_enter Tryz.func68, Tryz.ntmps68
        go_wp2_with (first | (go_at_call 59; (with_reducible refine (open_queue _ _ _ _).mono ?_); rintro e w' ⟨rfl, rfl⟩) | (go_at_call 123; refine HV.out.mono ?_; rintro e w' ⟨rfl, rfl⟩))
        go_ret
        exact ⟨rfl, (Below.refl _ _).alloc (Nat.le_refl _) _⟩
  · have m1 := meth_stack_valid
    by_cases hn : 50 < l.length
    · rw [stateE_long rfl hn]
      have hn' : (50 : Int) < (l.length : Int) := by omega
      clear hr hn
      go_enter Tryz.func68, Tryz.ntmps68
      go_wp2_with (go_at_call 59; (with_reducible refine (open_stack _ _ _ _).mono ?_); rintro e w' ⟨rfl, rfl⟩)
      go_ret
      exact ⟨rfl, (Below.refl _ _).alloc (Nat.le_refl _) _⟩
    · have hn' : ¬ (50 : Int) < (l.length : Int) := by omega
      have hV := rvalid_any (Lies.new w 150 #[.slice A l.length cap]) (hr.alloc _)
      rw [← valid_rows (typ := 3) rfl rfl l] at hV
      cases hb : validB 3 l
      all_goals
        first | rw [stateE_bad rfl hn hb] | rw [stateE_good rfl hn hb]
        rw [hb] at hV
        have HV := Lib.hid hV
        clear hV hb hr hn
        go_enter Tryz.func68, Tryz.ntmps68
        go_wp2_with (first | (go_at_call 59; (with_reducible refine (open_stack _ _ _ _).mono ?_); rintro e w' ⟨rfl, rfl⟩) | (go_at_call 123; refine HV.out.mono ?_; rintro e w' ⟨rfl, rfl⟩))
        go_ret
        exact ⟨rfl, (Below.refl _ _).alloc (Nat.le_refl _) _⟩
  · have m1 := meth_set_valid
    by_cases hn : 50 < l.length
    · rw [stateE_long rfl hn]
      have hn' : (50 : Int) < (l.length : Int) := by omega
      clear hr hn
      go_enter Tryz.func68, Tryz.ntmps68
      go_wp2_with (go_at_call 59; (with_reducible refine (open_set _ _ _ _).mono ?_); rintro e w' ⟨rfl, rfl⟩)
      go_ret
      exact ⟨rfl, (Below.refl _ _).alloc (Nat.le_refl _) _⟩
    · have hn' : ¬ (50 : Int) < (l.length : Int) := by omega
      have hV := svalid_any (Lies.new w 152 #[.slice A l.length cap]) (hr.alloc _)
      rw [← valid_set l] at hV
      cases hb : validB 4 l
      all_goals
        first | rw [stateE_bad rfl hn hb] | rw [stateE_good rfl hn hb]
        rw [hb] at hV
        have HV := Lib.hid hV
        clear hV hb hr hn
        go_enter Tryz.func68, Tryz.ntmps68
        go_wp2_with (first | (go_at_call 59; (with_reducible refine (open_set _ _ _ _).mono ?_); rintro e w' ⟨rfl, rfl⟩) | (go_at_call 134; refine HV.out.mono ?_; rintro e w' ⟨rfl, q, rfl⟩))
        go_ret
        exact ⟨rfl, belowN ((Below.refl _ _).alloc (Nat.le_refl _) _) _⟩
  · have m1 := meth_ticket_valid
    by_cases hn : 50 < l.length
    · rw [stateE_long rfl hn]
      have hn' : (50 : Int) < (l.length : Int) := by omega
      clear hr hn
      go_enter Tryz.func68, Tryz.ntmps68
      go_wp2_with (go_at_call 59; (with_reducible refine (open_ticket _ _ _ _).mono ?_); rintro e w' ⟨rfl, rfl⟩)
      go_ret
      exact ⟨rfl, (Below.refl _ _).alloc (Nat.le_refl _) _⟩
    · have hn' : ¬ (50 : Int) < (l.length : Int) := by omega
      have hV := nvalid_any (Lies.new w 154 #[.slice A l.length cap]) (hr.alloc _)
      rw [← valid_num (typ := 5) rfl l] at hV
      cases hb : validB 5 l
      all_goals
        first | rw [stateE_bad rfl hn hb] | rw [stateE_good rfl hn hb]
        rw [hb] at hV
        have HV := Lib.hid hV
        clear hV hb hr hn
        go_enter Tryz.func68, Tryz.ntmps68
        go_wp2_with (first | (go_at_call 59; (with_reducible refine (open_ticket _ _ _ _).mono ?_); rintro e w' ⟨rfl, rfl⟩) | (go_at_call 118; refine HV.out.mono ?_; rintro e w' ⟨rfl, rfl⟩))
        go_ret
        exact ⟨rfl, (Below.refl _ _).alloc (Nat.le_refl _) _⟩
  · have e1 : stateE typ l = 1 := by unfold stateE; rw [if_pos h]
    rw [e1]
    have HC := Lib.hid (fun A n c W => open_none ⟨h1, h2, h3, h4, h5⟩ A n c W)
    clear h1 h2 h3 h4 h5 h e1 hr
    go_enter Tryz.func68, Tryz.ntmps68
    go_wp2_with (go_at_call 59; (with_reducible refine (HC.out _ _ _ _).mono ?_); rintro e w' ⟨rfl, rfl⟩)
    go_ret
    exact ⟨rfl, Below.refl _ _⟩
/-- May it be called so? The history of the call alone tells. -/
theorem alone_calls {typ : Int} (h : btw 1 typ 5 = true) (kind arg : Int) : ((callsOf [typ] [⟨0, 0, kind, arg⟩]).2.2 == 0) = (fitsB typ kind && takesB kind arg) := by
  have ht := btw_iff.1 h
  have e1 : typesB [typ] = true := by
    unfold typesB
    simp
    omega
  unfold callsOf
  rw [if_neg (by rw [e1]; decide), if_neg (by simp)]
  have es : step [typ] 0 [] ⟨0, 0, kind, arg⟩ = if kind = 0 then .inl 4 else if fitsB typ kind = false ∨ takesB kind arg = false then .inl 3 else .inr [⟨0, 0, kind, arg, 0, 0, -1⟩] := by
    unfold step
    rw [if_neg (by simp)]
    rfl
  rw [run, es]
  by_cases h0 : kind = 0
  · rw [if_pos h0]
    subst h0
    have : fitsB typ 0 = false := by
      cases hf : fitsB typ 0
      · rfl
      · have := fits_kind hf; omega
    rw [this]
    rfl
  · rw [if_neg h0]
    cases fitsB typ kind <;> cases takesB kind arg <;> rfl
set_option maxHeartbeats 1000000 in
theorem invocable_any {typ : Int} (h : btw 1 typ 5 = true) (kind arg : Int) (w : World) :
    Calls Tryz.prog 69 #[.int .i64 typ, .int .i64 kind, .int .i64 arg] w fun e w' => e = .returned (.bool (fitsB typ kind && takesB kind arg)) ∧ Below w.heap.size w w' := by
  have hN : NRd ((w.alloc (.cells #[.int .i64 typ] 3)).alloc (.cells #[.int .i64 0, .int .i64 0, .int .i64 kind, .int .i64 arg] 94)) ((w.alloc (.cells #[.int .i64 typ] 3)).alloc (.cells #[.int .i64 0, .int .i64 0, .int .i64 kind, .int .i64 arg] 94)).heap.size (.slice (some ⟨w.heap.size, 0, none⟩) 1 1) [typ] :=
    ((LRd.of_lit (f := intCs) (s := 1) (w := w) (l := [typ]) (fun _ => rfl) 3 (cs := #[.int .i64 typ]) rfl (n := 1) rfl (by unfold maxLen; omega)).below ((Below.refl _ _).alloc (by simp) _)).mono (by simp)
  have hE : ERd ((w.alloc (.cells #[.int .i64 typ] 3)).alloc (.cells #[.int .i64 0, .int .i64 0, .int .i64 kind, .int .i64 arg] 94)) ((w.alloc (.cells #[.int .i64 typ] 3)).alloc (.cells #[.int .i64 0, .int .i64 0, .int .i64 kind, .int .i64 arg] 94)).heap.size (.slice (some ⟨w.heap.size + 1, 0, none⟩) 1 1) [⟨0, 0, kind, arg⟩] := by
    have := LRd.of_lit (f := evCs) (s := 4) (w := w.alloc (.cells #[.int .i64 typ] 3)) (l := [⟨0, 0, kind, arg⟩]) (fun _ => rfl) 94 (cs := #[.int .i64 0, .int .i64 0, .int .i64 kind, .int .i64 arg]) rfl (n := 1) rfl (by unfold maxLen; omega)
    simpa using this
  have hC := calls_any hN hE
  have ho := alone_calls h kind arg
  generalize callsOf [typ] [⟨0, 0, kind, arg⟩] = o at hC ho
  obtain ⟨cs, at_, er⟩ := o
  unfold CallsPost at hC
  simp only at hC ho
  rw [← ho]
  have HC := Lib.hid hC
  clear hN hE hC ho h
  generalize hb : (er == 0) = b
  go_enter Tryz.func69, Tryz.ntmps69
  go_wp2_with (go_at_call 19; refine HC.out.mono ?_; rintro e w' ⟨v', rfl, hb, hr⟩)
  go_ret
  exact ⟨rfl, (((Below.refl _ _).alloc (Nat.le_refl _) _).alloc (by simp) _).trans (hb.mono (by simp; omega))⟩
end Go.Proofs.YthjmncngegchjaaGreatDoor
