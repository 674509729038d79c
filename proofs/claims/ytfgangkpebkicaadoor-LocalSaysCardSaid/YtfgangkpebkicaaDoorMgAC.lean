/-
  Joined by a program out of: ObjOpen, ObjValid, Valid, Record.
-/
import Derived.Test.YtfgangkpebkicaaDoorMgAB
import Derived.Test.YtfgangkpebkicaaDoorMgAA
import Derived.Deep.RegionHeld3
import Derived.StillTailTactics

/-
  Contracts of object.open.
-/
namespace Go.Proofs.YtfgangkpebkicaaDoor
open Go.RowKit
set_option maxRecDepth 20000
theorem open_reg (A : Option Addr) (n c : Nat) (w : World) : Calls Tryd.prog 95 #[.int .i64 1, .slice A n c] w fun e w' => e = .returned (.tuple #[.iface 177 (.pointer (some ⟨w.heap.size, 0, none⟩)), .bool true]) ∧ w' = w.alloc (.cells #[.slice A n c] 181) := by
  go_enter Tryd.func95, Tryd.ntmps95
  go_wp2
  go_ret2
  exact ⟨rfl, rfl⟩
theorem open_queue (A : Option Addr) (n c : Nat) (w : World) : Calls Tryd.prog 95 #[.int .i64 2, .slice A n c] w fun e w' => e = .returned (.tuple #[.iface 182 (.pointer (some ⟨w.heap.size, 0, none⟩)), .bool true]) ∧ w' = w.alloc (.cells #[.slice A n c] 185) := by
  go_enter Tryd.func95, Tryd.ntmps95
  go_wp2
  go_ret2
  exact ⟨rfl, rfl⟩
theorem open_stack (A : Option Addr) (n c : Nat) (w : World) : Calls Tryd.prog 95 #[.int .i64 3, .slice A n c] w fun e w' => e = .returned (.tuple #[.iface 186 (.pointer (some ⟨w.heap.size, 0, none⟩)), .bool true]) ∧ w' = w.alloc (.cells #[.slice A n c] 187) := by
  go_enter Tryd.func95, Tryd.ntmps95
  go_wp2
  go_ret2
  exact ⟨rfl, rfl⟩
theorem open_set (A : Option Addr) (n c : Nat) (w : World) : Calls Tryd.prog 95 #[.int .i64 4, .slice A n c] w fun e w' => e = .returned (.tuple #[.iface 188 (.pointer (some ⟨w.heap.size, 0, none⟩)), .bool true]) ∧ w' = w.alloc (.cells #[.slice A n c] 189) := by
  go_enter Tryd.func95, Tryd.ntmps95
  go_wp2
  go_ret2
  exact ⟨rfl, rfl⟩
theorem open_ticket (A : Option Addr) (n c : Nat) (w : World) : Calls Tryd.prog 95 #[.int .i64 5, .slice A n c] w fun e w' => e = .returned (.tuple #[.iface 190 (.pointer (some ⟨w.heap.size, 0, none⟩)), .bool true]) ∧ w' = w.alloc (.cells #[.slice A n c] 191) := by
  go_enter Tryd.func95, Tryd.ntmps95
  go_wp2
  go_ret2
  exact ⟨rfl, rfl⟩
theorem typ_ways (t : Int) : t = 1 ∨ t = 2 ∨ t = 3 ∨ t = 4 ∨ t = 5 ∨ ((t == 1) = false ∧ (t == 2) = false ∧ (t == 3) = false ∧ (t == 4) = false ∧ (t == 5) = false ∧ btw 1 t 5 = false) := by
  simp only [beq_eq_false_iff_ne, btw_not]
  omega
theorem open_none {typ : Int} (h : (typ == 1) = false ∧ (typ == 2) = false ∧ (typ == 3) = false ∧ (typ == 4) = false ∧ (typ == 5) = false) (A : Option Addr) (n c : Nat) (w : World) : Calls Tryd.prog 95 #[.int .i64 typ, .slice A n c] w fun e w' => e = .returned (.tuple #[.nilIface, .bool false]) ∧ w = w' := by
  obtain ⟨h1, h2, h3, h4, h5⟩ := h
  go_enter Tryd.func95, Tryd.ntmps95
  go_wp2
  go_ret2
  exact ⟨rfl, rfl⟩
theorem meth_reg_start (k : Nat) (a : Addr) (w : World) : (method (k + 8) 177 (.pointer (some a)) "alibi/object.start").run Tryd.prog w = .ok (139, .pointer (some a)) w := by kernel_rfl
theorem meth_reg_valid (k : Nat) (a : Addr) (w : World) : (method (k + 8) 177 (.pointer (some a)) "alibi/object.valid").run Tryd.prog w = .ok (141, .pointer (some a)) w := by kernel_rfl
theorem meth_reg_state (k : Nat) (a : Addr) (w : World) : (method (k + 8) 177 (.pointer (some a)) "alibi/object.state").run Tryd.prog w = .ok (140, .pointer (some a)) w := by kernel_rfl
theorem meth_reg_do (k : Nat) (a : Addr) (w : World) : (method (k + 8) 177 (.pointer (some a)) "alibi/object.do").run Tryd.prog w = .ok (138, .pointer (some a)) w := by kernel_rfl
theorem meth_queue_start (k : Nat) (a : Addr) (w : World) : (method (k + 8) 182 (.pointer (some a)) "alibi/object.start").run Tryd.prog w = .ok (144, .pointer (some a)) w := by kernel_rfl
theorem meth_queue_valid (k : Nat) (a : Addr) (w : World) : (method (k + 8) 182 (.pointer (some a)) "alibi/object.valid").run Tryd.prog w = .ok (146, .pointer (some a)) w := by kernel_rfl
theorem meth_queue_state (k : Nat) (a : Addr) (w : World) : (method (k + 8) 182 (.pointer (some a)) "alibi/object.state").run Tryd.prog w = .ok (145, .pointer (some a)) w := by kernel_rfl
theorem meth_queue_do (k : Nat) (a : Addr) (w : World) : (method (k + 8) 182 (.pointer (some a)) "alibi/object.do").run Tryd.prog w = .ok (143, .pointer (some a)) w := by kernel_rfl
theorem meth_stack_start (k : Nat) (a : Addr) (w : World) : (method (k + 8) 186 (.pointer (some a)) "alibi/object.start").run Tryd.prog w = .ok (144, .pointer (some a)) w := by kernel_rfl
theorem meth_stack_valid (k : Nat) (a : Addr) (w : World) : (method (k + 8) 186 (.pointer (some a)) "alibi/object.valid").run Tryd.prog w = .ok (146, .pointer (some a)) w := by kernel_rfl
theorem meth_stack_state (k : Nat) (a : Addr) (w : World) : (method (k + 8) 186 (.pointer (some a)) "alibi/object.state").run Tryd.prog w = .ok (145, .pointer (some a)) w := by kernel_rfl
theorem meth_stack_do (k : Nat) (a : Addr) (w : World) : (method (k + 8) 186 (.pointer (some a)) "alibi/object.do").run Tryd.prog w = .ok (155, .pointer (some a)) w := by kernel_rfl
theorem meth_set_start (k : Nat) (a : Addr) (w : World) : (method (k + 8) 188 (.pointer (some a)) "alibi/object.start").run Tryd.prog w = .ok (144, .pointer (some a)) w := by kernel_rfl
theorem meth_set_valid (k : Nat) (a : Addr) (w : World) : (method (k + 8) 188 (.pointer (some a)) "alibi/object.valid").run Tryd.prog w = .ok (157, .pointer (some a)) w := by kernel_rfl
theorem meth_set_state (k : Nat) (a : Addr) (w : World) : (method (k + 8) 188 (.pointer (some a)) "alibi/object.state").run Tryd.prog w = .ok (145, .pointer (some a)) w := by kernel_rfl
theorem meth_set_do (k : Nat) (a : Addr) (w : World) : (method (k + 8) 188 (.pointer (some a)) "alibi/object.do").run Tryd.prog w = .ok (156, .pointer (some a)) w := by kernel_rfl
theorem meth_ticket_start (k : Nat) (a : Addr) (w : World) : (method (k + 8) 190 (.pointer (some a)) "alibi/object.start").run Tryd.prog w = .ok (139, .pointer (some a)) w := by kernel_rfl
theorem meth_ticket_valid (k : Nat) (a : Addr) (w : World) : (method (k + 8) 190 (.pointer (some a)) "alibi/object.valid").run Tryd.prog w = .ok (141, .pointer (some a)) w := by kernel_rfl
theorem meth_ticket_state (k : Nat) (a : Addr) (w : World) : (method (k + 8) 190 (.pointer (some a)) "alibi/object.state").run Tryd.prog w = .ok (140, .pointer (some a)) w := by kernel_rfl
theorem meth_ticket_do (k : Nat) (a : Addr) (w : World) : (method (k + 8) 190 (.pointer (some a)) "alibi/object.do").run Tryd.prog w = .ok (160, .pointer (some a)) w := by kernel_rfl
end Go.Proofs.YtfgangkpebkicaaDoor

/-
  Contracts of object.within, and of valid of numbers, of rows, of sets.
-/
namespace Go.Proofs.YtfgangkpebkicaaDoor
open Go.RowKit
set_option maxRecDepth 20000
theorem owithin_any (n a b : Int) (w : World) : Calls Tryd.prog 142 #[.int .i64 n, .int .i64 a, .int .i64 b] w fun e w' => e = .returned (.bool (btw a n b)) ∧ w = w' := by
  by_cases h1 : a ≤ n
  · by_cases h2 : n ≤ b
    · have h : btw a n b = true := btw_iff.2 ⟨h1, h2⟩
      rw [h]
      clear h
      go_enter Tryd.func142, Tryd.ntmps142
      go_wp2
      go_ret
      exact ⟨rfl, rfl⟩
    · have h : btw a n b = false := btw_not.2 fun h => h2 h.2
      rw [h]
      clear h
      go_enter Tryd.func142, Tryd.ntmps142
      go_wp2
      go_ret
      exact ⟨rfl, rfl⟩
  · have h : btw a n b = false := btw_not.2 fun h => h1 h.1
    rw [h]
    clear h
    go_enter Tryd.func142, Tryd.ntmps142
    go_wp2
    go_ret
    exact ⟨rfl, rfl⟩
theorem owithin_yes {n a b : Int} (w : World) (h : btw a n b = true) : Calls Tryd.prog 142 #[.int .i64 n, .int .i64 a, .int .i64 b] w fun e w' => e = .returned (.bool true) ∧ w = w' := by
  have := owithin_any n a b w
  rwa [h] at this
theorem owithin_no {n a b : Int} (w : World) (h : btw a n b = false) : Calls Tryd.prog 142 #[.int .i64 n, .int .i64 a, .int .i64 b] w fun e w' => e = .returned (.bool false) ∧ w = w' := by
  have := owithin_any n a b w
  rwa [h] at this
theorem rec_cell {w : World} {g : Nat} {t : TypeId} {v : Value} (h : Lies w g t #[v]) : w.cell? ⟨g, 0, none⟩ = some v := by rw [h.cell]; rfl
set_option maxHeartbeats 1000000 in
theorem nvalid_any {g : Nat} {t : TypeId} {v : Value} {l : List Int} {w : World} (h : Lies w g t #[v]) (hr : NRd w w.heap.size v l) :
    Calls Tryd.prog 141 #[.pointer (some ⟨g, 0, none⟩)] w fun e w' => e = .returned (.bool (decide (l.length = 1) && btw 0 (l.getD 0 0) 1000)) ∧ w = w' := by
  have c0 := rec_cell h
  obtain ⟨A, cap, rfl, m1, m2⟩ := hr.is
  unfold maxLen at m2
  by_cases hl : l.length = 1
  · obtain ⟨gl, o, rfl, hgl, hc⟩ := hr.ints (by omega)
    have d0 := hc 0 (l.getD 0 0) (by rw [List.getD_eq_getElem?_getD, List.getElem?_eq_getElem (by omega)]; rfl)
    rw [Nat.add_zero] at d0
    rw [decide_eq_true hl, Bool.true_and]
    have HY := Lib.hid hc
    have HR := Lib.hid hr
    clear hc hr h
    generalize l.getD 0 0 = y at d0 ⊢
    rw [hl] at c0
    go_enter Tryd.func141, Tryd.ntmps141
    go_wp2_with (go_at_call 142; (with_reducible refine (owithin_any _ _ _ _).mono ?_); rintro e w' ⟨rfl, rfl⟩)
    go_ret
    exact ⟨rfl, rfl⟩
  · rw [decide_eq_false hl, Bool.false_and]
    have hz : ((l.length : Int) == 1) = false := by rw [beq_eq_false_iff_ne]; omega
    go_enter Tryd.func141, Tryd.ntmps141
    go_wp2
    go_ret
    exact ⟨rfl, rfl⟩
/-- All of a row are values. -/
def rowB (l : List Int) : Bool := l.all fun x => btw 1 x 1000
theorem rowB_yes {l : List Int} (h : ∀ (j : Nat) (x : Int), l[j]? = some x → btw 1 x 1000 = true) : rowB l = true := by
  unfold rowB
  rw [List.all_eq_true]
  intro x hx
  obtain ⟨j, hj, e⟩ := List.getElem_of_mem hx
  exact h j x (by rw [List.getElem?_eq_getElem hj, e])
theorem rowB_no {l : List Int} {j : Nat} {x : Int} (hx : l[j]? = some x) (h : btw 1 x 1000 = false) : rowB l = false := by
  unfold rowB
  rw [List.all_eq_false]
  exact ⟨x, List.mem_of_getElem? hx, by rw [h]; decide⟩
set_option maxHeartbeats 1000000 in
theorem rvalid_any {g : Nat} {t : TypeId} {v : Value} {l : List Int} {w : World} (h : Lies w g t #[v]) (hr : NRd w w.heap.size v l) :
    Calls Tryd.prog 146 #[.pointer (some ⟨g, 0, none⟩)] w fun e w' => e = .returned (.bool (rowB l)) ∧ w = w' := by
  have c0 := rec_cell h
  obtain ⟨A, cap, rfl, m1, m2⟩ := hr.is
  unfold maxLen at m2
  have HR := Lib.hid hr
  clear hr h
  obtain ⟨n, hn⟩ : ∃ n, n = l.length := ⟨_, rfl⟩
  have HN := Lib.hid hn
  rw [← hn] at c0 m1
  clear hn
  generalize hb : rowB l = b
  have HB := Lib.hid hb
  clear hb
  go_enter Tryd.func146, Tryd.ntmps146
  go_wp2
  go_loop [10] (fun i => ∃ k : Nat, k ≤ n ∧ i = .int .i64 k ∧ ∀ j x, j < k → l[j]? = some x → btw 1 x 1000 = true) (fun i => n - (intOf i).toNat)
  case atStart => exact ⟨0, by omega, rfl, fun j x hj => by omega⟩
  case round =>
    obtain ⟨k, hk, rfl, ha⟩ := hrel
    have HA := Lib.hid ha
    clear ha
    by_cases hkn : k < n
    · obtain ⟨x, hx⟩ : ∃ x, l[k]? = some x := ⟨_, List.getElem?_eq_getElem (by rw [← HN.out]; exact hkn)⟩
      have hr' := HR.out
      rw [← HN.out] at hr'
      obtain ⟨gl, o, rfl, -, d0⟩ := hr'.num hx
      have HX := Lib.hid hx
      clear hr' hx
      cases hw : btw 1 x 1000
      · have HW := Lib.hid hw
        have hc := fun W : World => owithin_no W hw
        have HC := Lib.hid hc
        clear hw hc
        go_wp2_with (go_at_call 142; (with_reducible refine (HC.out _).mono ?_); rintro e w' ⟨rfl, rfl⟩)
        go_ret
        exact ⟨ret_bool ((rowB_no HX.out HW.out).symm.trans HB.out), rfl⟩
      · have HW := Lib.hid hw
        have hc := fun W : World => owithin_yes W hw
        have HC := Lib.hid hc
        clear hw hc
        go_wp2_with (go_at_call 142; (with_reducible refine (HC.out _).mono ?_); rintro e w' ⟨rfl, rfl⟩)
        go_round
        case rel => exact ⟨k + 1, by omega, by go_num, fun j y hj hy => by
          rcases Nat.lt_or_ge j k with h | h
          · exact HA.out j y h hy
          · obtain rfl : j = k := by omega
            rw [HX.out] at hy
            injection hy with hy
            subst hy
            exact HW.out⟩
        case measure => simp [intOf]; omega
    · obtain rfl : k = n := by omega
      go_wp2
      go_ret
      exact ⟨ret_bool ((rowB_yes fun j x hx => HA.out j x (by rw [HN.out]; exact (List.getElem?_eq_some_iff.1 hx).1) hx).symm.trans HB.out), rfl⟩
set_option maxHeartbeats 2000000 in
theorem svalid_any {g : Nat} {t : TypeId} {v : Value} {l : List Int} {w : World} (h : Lies w g t #[v]) (hr : NRd w w.heap.size v l) :
    Calls Tryd.prog 157 #[.pointer (some ⟨g, 0, none⟩)] w fun e w' => e = .returned (.bool (rowB l && incrB l)) ∧ ∃ q, w' = w.drewN q := by
  obtain ⟨A, cap, rfl, m1, m2⟩ := hr.is
  unfold maxLen at m2
  have HR := Lib.hid hr
  have HL := Lib.hid h
  clear hr h
  obtain ⟨n, hn⟩ : ∃ n, n = l.length := ⟨_, rfl⟩
  have HN := Lib.hid hn
  rw [← hn] at m1
  have HL' := HL.out
  rw [← hn] at HL'
  clear HL hn
  have HL := Lib.hid HL'
  clear HL'
  generalize hb : (rowB l && incrB l) = b
  have HB := Lib.hid hb
  clear hb
  go_enter Tryd.func157, Tryd.ntmps157
  go_wp2_with fail
  go_loopw [3] (fun i wr => ∃ k : Nat, 1 ≤ k ∧ (k ≤ n ∨ k = 1) ∧ i = .int .i64 k ∧ (∀ j, j + 1 < k → j + 1 < l.length → l.getD j 0 < l.getD (j + 1) 0) ∧ ∃ q, wr = w.drewN q) (fun i _ => n - (intOf i).toNat)
  case atStart => exact ⟨1, by omega, by omega, rfl, fun j hj => by omega, 0, rfl⟩
  case round =>
    obtain ⟨k, hk1, hk2, rfl, ha, q, rfl⟩ := hrel
    have HA := Lib.hid ha
    clear ha
    have c0 := rec_cell HL.out
    by_cases hkn : k < n
    · obtain ⟨x, hx⟩ : ∃ x, l[k]? = some x := ⟨_, List.getElem?_eq_getElem (by rw [← HN.out]; exact hkn)⟩
      obtain ⟨y, hy⟩ : ∃ y, l[k - 1]? = some y := ⟨_, List.getElem?_eq_getElem (by rw [← HN.out]; omega)⟩
      have hr' := HR.out
      rw [← HN.out] at hr'
      obtain ⟨gl, o, hA, -, d0⟩ := hr'.num hx
      obtain ⟨gl', o', hA', -, d1⟩ := hr'.num hy
      rw [hA] at hA'
      injection hA' with hA'
      injection hA' with e1 e2
      subst e1 e2 hA
      have gx : l.getD k 0 = x := by rw [List.getD_eq_getElem?_getD, hx]; rfl
      have gy : l.getD (k - 1) 0 = y := by rw [List.getD_eq_getElem?_getD, hy]; rfl
      have HX := Lib.hid (And.intro gx gy)
      clear hr' hx hy gx gy
      have i0 : (0 : Int) ≤ (k : Int) - 1 := by omega
      have i1 : (k : Int) - 1 < (n : Int) := by omega
      have i2 : (k : Int) < (n : Int) := by omega
      have i3 : (0 : Int) ≤ (k : Int) := by omega
      have hs1 : IntKind.i64.wrap ((k : Int) - 1) = (k : Int) - 1 := IntWalk.i64_in _ (by omega)
      have hs2 : ((k : Int) - 1).toNat = k - 1 := by omega
      by_cases hle : x ≤ y
      · have hd : decide (x ≤ y) = true := decide_eq_true hle
        have HW := Lib.hid hle
        clear hle
        go_wp2_with fail
        go_quiet (fail)
        go_wp2_with fail
        go_ret
        refine ⟨ret_bool ?_, q + nq, World.drewN_drewN _ _ _⟩
        rw [← HB.out, not_sorted (i := k - 1) (by rw [← HN.out]; omega) (by
          rw [show k - 1 + 1 = k by omega, HX.out.1, HX.out.2]
          exact HW.out), Bool.and_false]
      · have hd : decide (x ≤ y) = false := decide_eq_false hle
        have HW := Lib.hid hle
        clear hle
        go_wp2_with fail
        go_quiet (fail)
        go_wp2_with fail
        go_roundw
        case rel => exact ⟨k + 1, by omega, by omega, by go_num, fun j hj hjl => by
          rcases Nat.lt_or_ge (j + 1) k with h | h
          · exact HA.out j h hjl
          · obtain rfl : j + 1 = k := by omega
            rw [HX.out.1]
            have := HX.out.2
            rw [Nat.add_sub_cancel] at this
            rw [this]
            have := HW.out
            omega, _, rfl⟩
        case measure => simp [intOf]; omega
    · have hi : incrB l = true := sorted_yes fun j hj => HA.out j (by rw [← HN.out] at hj; omega) hj
      have hv := rvalid_any (HL.out.drewN q) (by
        have := HR.out.below (rdB0 w q)
        rw [← HN.out] at this
        exact this)
      have HV := Lib.hid hv
      have HI := Lib.hid hi
      clear hv hi
      go_wp2_with fail
      refine HV.out.mono ?_
      rintro e w' ⟨rfl, rfl⟩
      go_wp2_with fail
      go_ret
      exact ⟨ret_bool (by rw [← HB.out, HI.out, Bool.and_true]), q, rfl⟩
end Go.Proofs.YtfgangkpebkicaaDoor

/-
  Contract of history.validTypes.
-/
namespace Go.Proofs.YtfgangkpebkicaaDoor
open Go.RowKit
set_option maxRecDepth 20000
theorem typesB_len {ts : List Int} (h : ¬ (1 ≤ ts.length ∧ ts.length ≤ 4)) : typesB ts = false := by
  unfold typesB; rw [decide_eq_false h]; rfl
theorem typesB_bad {ts : List Int} {k : Nat} {x : Int} (hk : ts[k]? = some x) (h : btw 1 x 5 = false) : typesB ts = false := by
  unfold typesB
  rw [Bool.and_eq_false_iff]
  right
  rw [List.all_eq_false]
  refine ⟨x, List.mem_of_getElem? hk, ?_⟩
  rw [btw_not] at h
  simpa using h
theorem typesB_ok {ts : List Int} (h : 1 ≤ ts.length ∧ ts.length ≤ 4) (ha : ∀ i x, i < ts.length → ts[i]? = some x → btw 1 x 5 = true) : typesB ts = true := by
  unfold typesB
  rw [decide_eq_true h, Bool.true_and, List.all_eq_true]
  intro x hx
  obtain ⟨i, hi, rfl⟩ := List.getElem_of_mem hx
  have := btw_iff.1 (ha i _ hi (List.getElem?_eq_getElem hi))
  simpa using this
set_option maxHeartbeats 1000000 in
theorem valid_any {B : Nat} {v : Value} {ts : List Int} {w : World} (h : NRd w B v ts) :
    Calls Tryd.prog 61 #[v] w fun e w' => e = .returned (.bool (typesB ts)) ∧ w = w' := by
  obtain ⟨A, cap, rfl, hn, hm⟩ := h.is
  have H := Lib.hid h
  clear h
  obtain ⟨L, hL⟩ : ∃ L, L = ts.length := ⟨_, rfl⟩
  rw [← hL]
  rw [← hL] at hn
  have HL := Lib.hid hL
  clear hL
  unfold maxLen at hm
  by_cases hl : (1 : Int) ≤ (L : Int) ∧ (L : Int) ≤ 4
  · go_enter Tryd.func61, Tryd.ntmps61
    go_wp2_with (go_at_call 63; (with_reducible refine (within_yes _ hl).mono ?_); rintro e w' ⟨rfl, rfl⟩)
    go_loopw [11] (fun i wr => ∃ k : Nat, k ≤ L ∧ i = .int .i64 k ∧ (∀ i x, i < k → ts[i]? = some x → btw 1 x 5 = true) ∧ w = wr) (fun i _ => L - (intOf i).toNat)
    case atStart => exact ⟨0, by omega, rfl, fun i x hi => by omega, rfl⟩
    case round =>
      obtain ⟨k, hk, rfl, ha, rfl⟩ := hrel
      have HA := Lib.hid ha
      clear ha
      by_cases hkn : k < L
      · obtain ⟨x, hx⟩ : ∃ x, ts[k]? = some x := ⟨_, List.getElem?_eq_getElem (by rw [← HL.out]; exact hkn)⟩
        have h' := H.out
        rw [← HL.out] at h'
        obtain ⟨g, o, rfl, hg, d1⟩ := h'.num hx
        have HX := Lib.hid hx
        clear h' hx hg
        have i1 : (0 : Int) ≤ (k : Int) := by omega
        have i2 : (k : Int) < (L : Int) := by omega
        cases hb : btw 1 x 5
        · have HB := Lib.hid hb
          clear hb
          have hc := within_no w (btw_not.1 HB.out)
          go_wp2_with (go_at_call 63; (with_reducible refine (hc).mono ?_); rintro e w' ⟨rfl, rfl⟩)
          go_ret
          exact ⟨ret_bool (typesB_bad HX.out HB.out).symm, rfl⟩
        · have HB := Lib.hid hb
          clear hb
          have hc := within_yes w (btw_iff.1 HB.out)
          go_wp2_with (go_at_call 63; (with_reducible refine (hc).mono ?_); rintro e w' ⟨rfl, rfl⟩)
          go_roundw
          case rel => exact ⟨k + 1, by omega, by go_num, fun j y hj hy => by
            rcases Nat.lt_or_ge j k with h | h
            · exact HA.out j y h hy
            · obtain rfl : j = k := by omega
              rw [HX.out] at hy
              injection hy with hy
              subst hy
              exact HB.out, by trivial⟩
          case measure => simp [intOf]; omega
      · obtain rfl : k = L := by omega
        go_wp2_with fail
        go_ret
        exact ⟨ret_bool (typesB_ok (by rw [← HL.out]; omega) (by rw [← HL.out]; exact HA.out)).symm, rfl⟩
  · go_enter Tryd.func61, Tryd.ntmps61
    go_wp2_with (go_at_call 63; (with_reducible refine (within_no _ hl).mono ?_); rintro e w' ⟨rfl, rfl⟩)
    go_ret
    exact ⟨ret_bool (typesB_len (by rw [← HL.out]; omega)).symm, rfl⟩
end Go.Proofs.YtfgangkpebkicaaDoor

/-
  The record of package history in memory: its types, its calls, who is busy, and with which call.
-/
namespace Go.Proofs.YtfgangkpebkicaaDoor
open Go.RowKit
set_option maxRecDepth 20000
abbrev recCs (tv cv : Value) (b : Nat → Bool) (c : Nat → Int) : Array Value := #[tv, cv, .bool (b 0), .bool (b 1), .bool (b 2), .bool (b 3), .bool (b 4), .bool (b 5), .bool (b 6), .bool (b 7), .int .i64 (c 0), .int .i64 (c 1), .int .i64 (c 2), .int .i64 (c 3), .int .i64 (c 4), .int .i64 (c 5), .int .i64 (c 6), .int .i64 (c 7)]
def RecB (w : World) (g : Nat) (tv cv : Value) (b : Nat → Bool) (c : Nat → Int) : Prop := Lies w g 125 (recCs tv cv b c)
theorem nat8 {k : Nat} (hk : k < 8) : k = 0 ∨ k = 1 ∨ k = 2 ∨ k = 3 ∨ k = 4 ∨ k = 5 ∨ k = 6 ∨ k = 7 := by omega
def updB (b : Nat → Bool) (i : Nat) (x : Bool) : Nat → Bool := fun j => if j = i then x else b j
def updI (c : Nat → Int) (i : Nat) (x : Int) : Nat → Int := fun j => if j = i then x else c j
section
variable {w w' : World} {g : Nat} {tv cv : Value} {b : Nat → Bool} {c : Nat → Int}
theorem RecB.alloc (h : RecB w g tv cv b c) (o : Obj) : RecB (w.alloc o) g tv cv b c := Lies.alloc h o
theorem RecB.drew (h : RecB w g tv cv b c) : RecB w.drew g tv cv b c := h
theorem RecB.drewN (h : RecB w g tv cv b c) (n : Nat) : RecB (w.drewN n) g tv cv b c := h
theorem RecB.far (h : RecB w g tv cv b c) {p : Addr} (hp : g ≠ p.block) (u : Value) : RecB (w.setCell p u) g tv cv b c := Lies.far h hp u
theorem RecB.below {B : Nat} (h : RecB w g tv cv b c) (hb : Below B w w') (hg : g < B) : RecB w' g tv cv b c := Lies.below h hb hg
theorem RecB.types (h : RecB w g tv cv b c) : w.cell? ⟨g, 0, none⟩ = some tv := Lies.cell h 0
theorem RecB.calls (h : RecB w g tv cv b c) : w.cell? ⟨g, 1, none⟩ = some cv := Lies.cell h 1
theorem RecB.busy (h : RecB w g tv cv b c) {p : Nat} (hp : p < 8) : w.cell? ⟨g, 2 + p, none⟩ = some (.bool (b p)) := by
  rw [Lies.cell h]
  rcases nat8 hp with rfl | rfl | rfl | rfl | rfl | rfl | rfl | rfl <;> rfl
theorem RecB.cur (h : RecB w g tv cv b c) {p : Nat} (hp : p < 8) : w.cell? ⟨g, 10 + p, none⟩ = some (.int .i64 (c p)) := by
  rw [Lies.cell h]
  rcases nat8 hp with rfl | rfl | rfl | rfl | rfl | rfl | rfl | rfl <;> rfl
theorem RecB.free (h : RecB w g tv cv b c) (i : Nat) : w.frozen? ⟨g, i, none⟩ = false := Lies.frozen h i
theorem RecB.setBusy (h : RecB w g tv cv b c) {p : Nat} (hp : p < 8) (x : Bool) : RecB (w.setCell ⟨g, 2 + p, none⟩ (.bool x)) g tv cv (updB b p x) c := by
  refine Lies.cast (Lies.set_ h (2 + p) (.bool x)) ?_
  rcases nat8 hp with rfl | rfl | rfl | rfl | rfl | rfl | rfl | rfl <;> simp [recCs, updB]
theorem RecB.setCur (h : RecB w g tv cv b c) {p : Nat} (hp : p < 8) (x : Int) : RecB (w.setCell ⟨g, 10 + p, none⟩ (.int .i64 x)) g tv cv b (updI c p x) := by
  refine Lies.cast (Lies.set_ h (10 + p) (.int .i64 x)) ?_
  rcases nat8 hp with rfl | rfl | rfl | rfl | rfl | rfl | rfl | rfl <;> simp [recCs, updI]
theorem RecB.setCalls (h : RecB w g tv cv b c) (v : Value) : RecB (w.setCell ⟨g, 1, none⟩ v) g tv v b c := Lies.cast (Lies.set_ h 1 v) (by simp [recCs])
end
/-- What the record says of the calls so far. -/
structure Knows (cs : List Cl) (b : Nat → Bool) (c : Nat → Int) : Prop where
  one : OneOpen cs
  busy : ∀ p, p < 8 → (b p = true ↔ 0 ≤ openOf cs (p : Int))
  cur : ∀ p, p < 8 → b p = true → c p = openOf cs (p : Int)
theorem Knows.answered {cs : List Cl} {b : Nat → Bool} {c : Nat → Int} (h : Knows cs b c) {p k : Nat} (hp : p < 8) (hk : openOf cs (p : Int) = (k : Int)) {d y : Cl} (_ : cs[k]? = some d) (_ : y.who = d.who) (hy : y.til ≠ -1) : Knows (cs.set k y) (updB b p false) c := by
  have hn : (openOf cs (p : Int)).toNat = k := by omega
  have h0 : ∀ q : Nat, openOf (cs.set k y) (q : Int) = if (q : Int) = (p : Int) then -1 else openOf cs (q : Int) := fun q => by
    have := openOf_set (who' := (q : Int)) h.one (who := (p : Int)) (by omega) hy
    rwa [hn] at this
  refine ⟨h.one.set k hy, fun q hq => ?_, fun q hq hb => ?_⟩
  · rw [h0 q]
    unfold updB
    by_cases e : q = p
    · subst e; simp
    · rw [if_neg e, if_neg (by omega)]
      exact h.busy q hq
  · rw [h0 q]
    unfold updB at hb
    by_cases e : q = p
    · subst e; simp at hb
    · rw [if_neg e] at hb
      rw [if_neg (by omega)]
      exact h.cur q hq hb
theorem Knows.called {cs : List Cl} {b : Nat → Bool} {c : Nat → Int} (h : Knows cs b c) {p : Nat} (hp : openOf cs (p : Int) < 0) {y : Cl} (hw : y.who = (p : Int)) (ht : y.til = -1) : Knows (cs ++ [y]) (updB b p true) (updI c p cs.length) := by
  have h0 : ∀ q : Nat, openOf (cs ++ [y]) (q : Int) = if q = p then (cs.length : Int) else openOf cs (q : Int) := fun q => by
    rw [openOf_snoc, hw, ht]
    by_cases e : q = p
    · subst e; simp
    · rw [if_neg (by omega), if_neg e]
  refine ⟨h.one.snoc (by rw [hw]; exact hp), fun q hq => ?_, fun q hq hb => ?_⟩
  · rw [h0 q]
    unfold updB
    by_cases e : q = p
    · subst e; simp
    · rw [if_neg e, if_neg e]
      exact h.busy q hq
  · rw [h0 q]
    unfold updB at hb
    unfold updI
    by_cases e : q = p
    · subst e; simp
    · rw [if_neg e] at hb
      rw [if_neg e, if_neg e]
      exact h.cur q hq hb
/-- The record lies in block g, over these types and these calls. -/
structure RecS (g : Nat) (tv : Value) (ts : List Int) (cs : List Cl) (w : World) : Prop where
  ex : ∃ cv b c, RecB w g tv cv b c ∧ COwn w (g + 1) cv cs ∧ Knows cs b c
  types : NRd w g tv ts
theorem COwn.then_ {w w' : World} {B : Nat} {v : Value} {l : List Cl} (h : COwn w B v l) (hb : Below w.heap.size w w') : COwn w' B v l :=
  World.ownsRow.kept h (row := none) ⟨hb.os, hb.tape, hb.output, hb.size, fun k hk _ => hb.block k hk⟩ (by
    cases hv : v.ownBlock with
    | none => exact .inl rfl
    | some k => exact .inr (by simp))
theorem COwn.alloc {w : World} {B : Nat} {v : Value} {l : List Cl} (h : COwn w B v l) (o : Obj) : COwn (w.alloc o) B v l := World.ownsRow.alloc h o
theorem COwn.drew {w : World} {B : Nat} {v : Value} {l : List Cl} (h : COwn w B v l) : COwn w.drew B v l := h
theorem COwn.drewN {w : World} {B : Nat} {v : Value} {l : List Cl} (h : COwn w B v l) (n : Nat) : COwn (w.drewN n) B v l := h
theorem COwn.far {w : World} {B : Nat} {v : Value} {l : List Cl} (h : COwn w B v l) {p : Addr} (hp : p.block < B) (u : Value) : COwn (w.setCell p u) B v l :=
  ownsRow_setCell_below h hp u
theorem RecS.next {g : Nat} {tv : Value} {ts : List Int} {cs : List Cl} {w w' : World} (h : RecS g tv ts cs w) (hb : Below w.heap.size w w') : RecS g tv ts cs w' := by
  obtain ⟨⟨cv, b, c, h1, h2, h3⟩, h4⟩ := h
  have hg : g < w.heap.size := Lies.lt h1
  exact ⟨⟨cv, b, c, Lies.below h1 hb hg, h2.then_ hb, h3⟩, h4.below (hb.mono (by omega))⟩
theorem RecS.lt {g : Nat} {tv : Value} {ts : List Int} {cs : List Cl} {w : World} (h : RecS g tv ts cs w) : g < w.heap.size := by
  obtain ⟨⟨cv, b, c, h1, h2, h3⟩, h4⟩ := h
  exact Lies.lt h1
/-- The row's cells of call k. -/
theorem COwn.at_ {w : World} {B : Nat} {v : Value} {l : List Cl} (h : COwn w B v l) {k : Nat} {x : Cl} (hk : l[k]? = some x) :
    ∃ h' cap, v = .slice (some ⟨h', 0, none⟩) l.length cap ∧ B ≤ h' ∧ h' < w.heap.size ∧ l.length ≤ cap ∧ cap ≤ maxLen ∧ (∀ i, w.frozen? ⟨h', i, none⟩ = false) ∧ ∀ j u, (clCs x)[j]? = some u → w.cell? ⟨h', k * 7 + j, none⟩ = some u := by
  have hkl := (List.getElem?_eq_some_iff.1 hk).1
  rcases h.2 with ⟨_, h0⟩ | ⟨g, cap, cur, rfl, h1, h2, h3, h4, h5, h6⟩
  · omega
  · refine ⟨g, cap, rfl, h1, (Array.getElem?_eq_some_iff.1 h2).1, h3, h4, fun i => World.ownsRow.frozenAt h i, fun j u hu => ?_⟩
    have hjl : j < 7 := (List.getElem?_eq_some_iff.1 hu).1
    rw [World.ownsRow.cellAt h (k * 7 + j) (by omega)]
    exact flat_at (f := clCs) (s := 7) (fun _ => rfl) hk hu
theorem flat_set : ∀ (l : List Cl) (k j : Nat) (x : Cl) (u : Value) (y : Cl), l[k]? = some x → j < 7 → (clCs x).set j u = clCs y → (l.flatMap clCs).set (k * 7 + j) u = (l.set k y).flatMap clCs
  | [], k, j, x, u, y, h, _, _ => by simp at h
  | z :: r, 0, j, x, u, y, h, hj, he => by
    simp at h
    subst h
    rw [List.flatMap_cons, List.set_cons_zero, List.flatMap_cons, Nat.zero_mul, Nat.zero_add, List.set_append_left _ _ (by simpa using hj), he]
  | z :: r, k + 1, j, x, u, y, h, hj, he => by
    have h' : r[k]? = some x := by simpa using h
    rw [List.flatMap_cons, List.set_cons_succ, List.flatMap_cons, List.set_append_right _ _ (by simp; omega), ← flat_set r k j x u y h' hj he]
    congr 2
    simp; omega
/-- One number of call k is written. -/
theorem COwn.put {w : World} {B h' cap : Nat} {l : List Cl} (h : COwn w B (.slice (some ⟨h', 0, none⟩) l.length cap) l) {k j : Nat} {x y : Cl} (hk : l[k]? = some x) (hj : j < 7) {u : Value} (he : (clCs x).set j u = clCs y) :
    COwn (w.setCell ⟨h', k * 7 + j, none⟩ u) B (.slice (some ⟨h', 0, none⟩) (l.set k y).length cap) (l.set k y) := by
  have h1 := (World.ownsRow.stored h (k * 7 + j) u).1
  unfold COwn
  rw [List.length_set, ← flat_set l k j x u y hk hj he]
  exact h1
end Go.Proofs.YtfgangkpebkicaaDoor
