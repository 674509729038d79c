/-
  Contracts of the reference's Begin, Asked, StateRight.
-/
import Derived.Test.YtebcnhnkpmbgdaaRefSmall
import Derived.Test.YtebcnhnkpmbgdaaRefSteps
import Derived.Test.YtebcnhnkpmbgdaaObjStart
namespace Go.Proofs.Ytebcnhnkpmbgdaa
open Go.RowKit
set_option maxRecDepth 20000

set_option maxHeartbeats 1000000 in
theorem begin_any (typ : Int) (w : World) : Calls Try.prog 22 #[.int .i64 typ] w fun e w' => ∃ v, e = .returned v ∧ NRd w' w'.heap.size v (beginL typ) ∧ Below w.heap.size w w' := by
  by_cases h1 : typ = 1
  · subst h1
    go_enter Try.func22, Try.ntmps22
    go_wp2
    go_ret
    exact ⟨_, rfl, (nrd_new w 0).mono (by simp), (Below.refl _ _).alloc (Nat.le_refl _) _⟩
  · by_cases h5 : typ = 5
    · subst h5
      go_enter Try.func22, Try.ntmps22
      go_wp2
      go_ret
      exact ⟨_, rfl, (nrd_new w 0).mono (by simp), (Below.refl _ _).alloc (Nat.le_refl _) _⟩
    · have e : beginL typ = [] := by
        unfold beginL oneB
        rw [if_neg (by simp [h1, h5])]
      rw [e]
      have z1 : (typ == 1) = false := by rw [beq_eq_false_iff_ne]; exact h1
      have z5 : (typ == 5) = false := by rw [beq_eq_false_iff_ne]; exact h5
      clear h1 h5 e
      go_enter Try.func22, Try.ntmps22
      go_wp2
      go_ret
      exact ⟨_, rfl, LRd.nil _ _, Below.refl _ _⟩

theorem quiet_at {P : Program} {f : FuncId} {args : Array Value} {w : World} {a b : Nat} {v : Value}
    (h : Calls P f args (w.drewN (a + b)) fun e w' => e = .returned v ∧ w.drewN (a + b) = w') : Calls P f args (w.drewN (a + b)) fun e w'' => e = .returned v ∧ ∃ m, w'' = w.drewN (a + m) :=
  h.mono fun _ _ ⟨he, hm⟩ => ⟨he, b, hm.symm⟩
theorem kindsL_short (t : Int) : (kindsL t).length ≤ 1000000 := by
  unfold kindsL
  (repeat' split) <;> simp

set_option maxHeartbeats 1000000 in
theorem asked_any (typ kind arg : Int) (w : World) : Calls Try.prog 23 #[.int .i64 typ, .int .i64 kind, .int .i64 arg] w fun e w' => e = .returned (.bool (fitsB typ kind && takesB kind arg)) ∧ Below w.heap.size w w' := by
  cases hf : fitsB typ kind
  · rw [Bool.false_and]
    have HF := Lib.hid hf
    clear hf
    go_enter Try.func23, Try.ntmps23
    go_wp2_with fail
    refine (kinds_any _ _).mono ?_
    rintro e w1 ⟨kv, rfl, hk, hb1⟩
    have H1 := Lib.hid (And.intro hk hb1)
    clear hk hb1
    go_wp2_with fail
    refine (contains_any H1.out.1 (kindsL_short _) _).mono ?_
    rw [kinds_fit, HF.out]
    rintro e w2 ⟨rfl, hb2⟩
    have H2 := Lib.hid (H1.out.2.trans (hb2.mono H1.out.2.size))
    clear hb2
    go_wp2_with fail
    go_ret
    exact ⟨rfl, H2.out⟩
  · rw [Bool.true_and, ← asks_takes hf]
    have HF := Lib.hid hf
    clear hf
    generalize hq : asksB kind arg = q
    have HQ := Lib.hid hq
    clear hq
    go_enter Try.func23, Try.ntmps23
    go_wp2_with fail
    refine (kinds_any _ _).mono ?_
    rintro e w1 ⟨kv, rfl, hk, hb1⟩
    have H1 := Lib.hid (And.intro hk hb1)
    clear hk hb1
    go_wp2_with fail
    refine (contains_any H1.out.1 (kindsL_short _) _).mono ?_
    rw [kinds_fit, HF.out]
    rintro e w2 ⟨rfl, hb2⟩
    have H2 := Lib.hid (H1.out.2.trans (hb2.mono H1.out.2.size))
    clear hb2
    go_wp2_with fail
    refine (asks_any _ _ _).mono ?_
    rw [HQ.out]
    rintro e w3 ⟨rfl, hb3⟩
    have H3 := Lib.hid (H2.out.trans (hb3.mono H2.out.size))
    clear hb3
    go_wp2_with fail
    go_ret
    exact ⟨rfl, H3.out⟩

theorem btwn_false {n a b : Int} (w : World) (h : btw a n b = false) : Calls Try.prog 15 #[.int .i64 n, .int .i64 a, .int .i64 b] w fun e w' => e = .returned (.bool false) ∧ w = w' := by
  have := btwn_any n a b w
  rwa [h] at this
theorem btwn_true {n a b : Int} (w : World) (h : btw a n b = true) : Calls Try.prog 15 #[.int .i64 n, .int .i64 a, .int .i64 b] w fun e w' => e = .returned (.bool true) ∧ w = w' := by
  have := btwn_any n a b w
  rwa [h] at this

set_option maxHeartbeats 2000000 in
theorem right1 {v : Value} {l : List Int} {w : World} (hr : NRd w w.heap.size v l) (hn : ¬ 50 < l.length) : Calls Try.prog 19 #[.int .i64 1, v] w fun e w' => e = .returned (.int .i64 (if validB 1 l = false then 3 else 0)) ∧ w = w' := by
  obtain ⟨A, cap, rfl, m1, m2⟩ := hr.is
  unfold maxLen at m2
  have hn' : ¬ (50 : Int) < (l.length : Int) := by omega
  have hB := fun W : World => btwn_true (n := 1) (a := 1) (b := 5) W rfl
  rw [valid_num (typ := 1) rfl]
  by_cases hl : l.length = 1
  · obtain ⟨g, o, rfl, hg, d0⟩ := hr.num (getD_lt (l := l) (p := 0) (by omega))
    rw [Nat.add_zero] at d0
    rw [decide_eq_true hl, Bool.true_and]
    have hz : ((l.length : Int) != 1) = false := by rw [bne_eq_false_iff_eq]; omega
    clear hr hn
    generalize l.getD 0 0 = y at d0 ⊢
    rw [hl] at m1 hn' hz ⊢
    cases hb : btw 0 y 1000
    all_goals
      first | (have HC := Lib.hid (fun W : World => btwn_false W hb)) | (have HC := Lib.hid (fun W : World => btwn_true W hb))
      have HB := Lib.hid hB
      clear hb hB
      go_enter Try.func19, Try.ntmps19
      go_wp2_with fail
      refine (HB.out _).mono ?_
      rintro e w1 ⟨rfl, rfl⟩
      go_wp2_with fail
      refine (HC.out _).mono ?_
      rintro e w1 ⟨rfl, rfl⟩
      go_wp2_with fail
      try (
        go_loop [6] (fun i => i = .int .i64 0) (fun _ => 0)
        case atStart => rfl
        case round =>
          subst hrel
          go_wp2_with fail
          go_ret
          exact ⟨rfl, rfl⟩)
      try (
        go_ret
        exact ⟨rfl, rfl⟩)
  · rw [decide_eq_false hl, Bool.false_and]
    have hz : ((l.length : Int) != 1) = true := by rw [bne_iff_ne]; omega
    have HB := Lib.hid hB
    clear hr hl hB hn
    go_enter Try.func19, Try.ntmps19
    go_wp2_with fail
    refine (HB.out _).mono ?_
    rintro e w1 ⟨rfl, rfl⟩
    go_wp2_with fail
    go_ret
    exact ⟨rfl, rfl⟩

set_option maxHeartbeats 2000000 in
theorem right5 {v : Value} {l : List Int} {w : World} (hr : NRd w w.heap.size v l) (hn : ¬ 50 < l.length) : Calls Try.prog 19 #[.int .i64 5, v] w fun e w' => e = .returned (.int .i64 (if validB 5 l = false then 3 else 0)) ∧ w = w' := by
  obtain ⟨A, cap, rfl, m1, m2⟩ := hr.is
  unfold maxLen at m2
  have hn' : ¬ (50 : Int) < (l.length : Int) := by omega
  have hB := fun W : World => btwn_true (n := 5) (a := 1) (b := 5) W rfl
  rw [valid_num (typ := 5) rfl]
  by_cases hl : l.length = 1
  · obtain ⟨g, o, rfl, hg, d0⟩ := hr.num (getD_lt (l := l) (p := 0) (by omega))
    rw [Nat.add_zero] at d0
    rw [decide_eq_true hl, Bool.true_and]
    have hz : ((l.length : Int) != 1) = false := by rw [bne_eq_false_iff_eq]; omega
    clear hr hn
    generalize l.getD 0 0 = y at d0 ⊢
    rw [hl] at m1 hn' hz ⊢
    cases hb : btw 0 y 1000
    all_goals
      first | (have HC := Lib.hid (fun W : World => btwn_false W hb)) | (have HC := Lib.hid (fun W : World => btwn_true W hb))
      have HB := Lib.hid hB
      clear hb hB
      go_enter Try.func19, Try.ntmps19
      go_wp2_with fail
      refine (HB.out _).mono ?_
      rintro e w1 ⟨rfl, rfl⟩
      go_wp2_with fail
      refine (HC.out _).mono ?_
      rintro e w1 ⟨rfl, rfl⟩
      go_wp2_with fail
      try (
        go_loop [6] (fun i => i = .int .i64 0) (fun _ => 0)
        case atStart => rfl
        case round =>
          subst hrel
          go_wp2_with fail
          go_ret
          exact ⟨rfl, rfl⟩)
      try (
        go_ret
        exact ⟨rfl, rfl⟩)
  · rw [decide_eq_false hl, Bool.false_and]
    have hz : ((l.length : Int) != 1) = true := by rw [bne_iff_ne]; omega
    have HB := Lib.hid hB
    clear hr hl hB hn
    go_enter Try.func19, Try.ntmps19
    go_wp2_with fail
    refine (HB.out _).mono ?_
    rintro e w1 ⟨rfl, rfl⟩
    go_wp2_with fail
    go_ret
    exact ⟨rfl, rfl⟩

set_option maxHeartbeats 4000000 in
theorem right2 {v : Value} {l : List Int} {w : World} (hr : NRd w w.heap.size v l) (hn : ¬ 50 < l.length) : Calls Try.prog 19 #[.int .i64 2, v] w fun e w' => e = .returned (.int .i64 (if validB 2 l = false then 3 else 0)) ∧ ∃ q, w' = w.drewN q := by
  obtain ⟨A, cap, rfl, m1, m2⟩ := hr.is
  unfold maxLen at m2
  have HB := Lib.hid (fun W : World => btwn_true (n := 2) (a := 1) (b := 5) W rfl)
  have HR := Lib.hid hr
  obtain ⟨L, hL⟩ : ∃ L, L = l.length := ⟨_, rfl⟩
  have HLL := Lib.hid hL
  rw [← hL] at m1 hn ⊢
  have hn' : ¬ (50 : Int) < (L : Int) := by omega
  generalize hV : (if validB 2 l = false then (3 : Int) else 0) = V
  have HV := Lib.hid hV
  clear hr hL hV
  go_enter Try.func19, Try.ntmps19
  go_wp2_with fail
  refine (HB.out _).mono ?_
  rintro e w1 ⟨rfl, rfl⟩
  go_wp2_with fail
  go_loopw [6] (fun i wr => ∃ k : Nat, k ≤ L ∧ i = .int .i64 k ∧ (∀ (j : Nat) (x : Int), j < k → l[j]? = some x → btw 1 x 1000 = true) ∧ (True) ∧ ∃ q, wr = w.drewN q) (fun i _ => L - (intOf i).toNat)
  case atStart => exact ⟨0, by omega, rfl, fun j x hj => by omega, trivial, 0, rfl⟩
  case round =>
    obtain ⟨k, hk, rfl, ha, hs, q, rfl⟩ := hrel
    have HA := Lib.hid (And.intro ha hs)
    clear ha hs
    by_cases hkL : k < L
    · obtain ⟨x, hx⟩ : ∃ x, l[k]? = some x := ⟨_, List.getElem?_eq_getElem (by rw [← HLL.out]; exact hkL)⟩
      have hr' := HR.out
      rw [← HLL.out] at hr'
      obtain ⟨g, o, rfl, hg, d0⟩ := hr'.num hx
      have HX := Lib.hid hx
      have i1 : (0 : Int) ≤ (k : Int) := by omega
      have i2 : (k : Int) < (L : Int) := by omega
      cases hb : btw 1 x 1000
      · have HC := Lib.hid (fun W : World => btwn_false W hb)
        have HW := Lib.hid hb
        clear hr' hx hb
        go_wp2_with fail
        go_quiet ((go_at_call 15; exact quiet_at (HC.out _)))
        go_wp2_with fail
        go_ret
        have e : V = 3 := by
          rw [← HV.out, valid_rows (typ := 2) rfl rfl l, rowB_no HX.out HW.out]
          rfl
        exact ⟨by rw [e]; rfl, q + nq, World.drewN_drewN _ _ _⟩
      · have HC := Lib.hid (fun W : World => btwn_true W hb)
        have HW := Lib.hid hb
        clear hr' hx hb
        go_wp2_with fail
        go_quiet ((go_at_call 15; exact quiet_at (HC.out _)))
        go_wp2_with fail
        go_roundw
        case rel => exact ⟨k + 1, by omega, by go_num, fun j y hj hy => by
          rcases Nat.lt_or_ge j k with h | h
          · exact HA.out.1 j y h hy
          · obtain rfl : j = k := by omega
            rw [HX.out] at hy
            injection hy with hy
            subst hy
            exact HW.out, trivial, _, rfl⟩
        case measure => simp [intOf]; omega
    · obtain rfl : k = L := by omega
      have e : V = 0 := by
        rw [← HV.out, valid_rows (typ := 2) rfl rfl l, rowB_yes fun j x hx => HA.out.1 j x (by rw [HLL.out]; exact (List.getElem?_eq_some_iff.1 hx).1) hx]
        rfl
      have HE := Lib.hid e
      clear e
      go_wp2_with fail
      go_ret
      exact ⟨by rw [HE.out]; rfl, q, rfl⟩

set_option maxHeartbeats 4000000 in
theorem right3 {v : Value} {l : List Int} {w : World} (hr : NRd w w.heap.size v l) (hn : ¬ 50 < l.length) : Calls Try.prog 19 #[.int .i64 3, v] w fun e w' => e = .returned (.int .i64 (if validB 3 l = false then 3 else 0)) ∧ ∃ q, w' = w.drewN q := by
  obtain ⟨A, cap, rfl, m1, m2⟩ := hr.is
  unfold maxLen at m2
  have HB := Lib.hid (fun W : World => btwn_true (n := 3) (a := 1) (b := 5) W rfl)
  have HR := Lib.hid hr
  obtain ⟨L, hL⟩ : ∃ L, L = l.length := ⟨_, rfl⟩
  have HLL := Lib.hid hL
  rw [← hL] at m1 hn ⊢
  have hn' : ¬ (50 : Int) < (L : Int) := by omega
  generalize hV : (if validB 3 l = false then (3 : Int) else 0) = V
  have HV := Lib.hid hV
  clear hr hL hV
  go_enter Try.func19, Try.ntmps19
  go_wp2_with fail
  refine (HB.out _).mono ?_
  rintro e w1 ⟨rfl, rfl⟩
  go_wp2_with fail
  go_loopw [6] (fun i wr => ∃ k : Nat, k ≤ L ∧ i = .int .i64 k ∧ (∀ (j : Nat) (x : Int), j < k → l[j]? = some x → btw 1 x 1000 = true) ∧ (True) ∧ ∃ q, wr = w.drewN q) (fun i _ => L - (intOf i).toNat)
  case atStart => exact ⟨0, by omega, rfl, fun j x hj => by omega, trivial, 0, rfl⟩
  case round =>
    obtain ⟨k, hk, rfl, ha, hs, q, rfl⟩ := hrel
    have HA := Lib.hid (And.intro ha hs)
    clear ha hs
    by_cases hkL : k < L
    · obtain ⟨x, hx⟩ : ∃ x, l[k]? = some x := ⟨_, List.getElem?_eq_getElem (by rw [← HLL.out]; exact hkL)⟩
      have hr' := HR.out
      rw [← HLL.out] at hr'
      obtain ⟨g, o, rfl, hg, d0⟩ := hr'.num hx
      have HX := Lib.hid hx
      have i1 : (0 : Int) ≤ (k : Int) := by omega
      have i2 : (k : Int) < (L : Int) := by omega
      cases hb : btw 1 x 1000
      · have HC := Lib.hid (fun W : World => btwn_false W hb)
        have HW := Lib.hid hb
        clear hr' hx hb
        go_wp2_with fail
        go_quiet ((go_at_call 15; exact quiet_at (HC.out _)))
        go_wp2_with fail
        go_ret
        have e : V = 3 := by
          rw [← HV.out, valid_rows (typ := 3) rfl rfl l, rowB_no HX.out HW.out]
          rfl
        exact ⟨by rw [e]; rfl, q + nq, World.drewN_drewN _ _ _⟩
      · have HC := Lib.hid (fun W : World => btwn_true W hb)
        have HW := Lib.hid hb
        clear hr' hx hb
        go_wp2_with fail
        go_quiet ((go_at_call 15; exact quiet_at (HC.out _)))
        go_wp2_with fail
        go_roundw
        case rel => exact ⟨k + 1, by omega, by go_num, fun j y hj hy => by
          rcases Nat.lt_or_ge j k with h | h
          · exact HA.out.1 j y h hy
          · obtain rfl : j = k := by omega
            rw [HX.out] at hy
            injection hy with hy
            subst hy
            exact HW.out, trivial, _, rfl⟩
        case measure => simp [intOf]; omega
    · obtain rfl : k = L := by omega
      have e : V = 0 := by
        rw [← HV.out, valid_rows (typ := 3) rfl rfl l, rowB_yes fun j x hx => HA.out.1 j x (by rw [HLL.out]; exact (List.getElem?_eq_some_iff.1 hx).1) hx]
        rfl
      have HE := Lib.hid e
      clear e
      go_wp2_with fail
      go_ret
      exact ⟨by rw [HE.out]; rfl, q, rfl⟩

set_option maxHeartbeats 4000000 in
theorem right4 {v : Value} {l : List Int} {w : World} (hr : NRd w w.heap.size v l) (hn : ¬ 50 < l.length) : Calls Try.prog 19 #[.int .i64 4, v] w fun e w' => e = .returned (.int .i64 (if validB 4 l = false then 3 else 0)) ∧ ∃ q, w' = w.drewN q := by
  obtain ⟨A, cap, rfl, m1, m2⟩ := hr.is
  unfold maxLen at m2
  have HB := Lib.hid (fun W : World => btwn_true (n := 4) (a := 1) (b := 5) W rfl)
  have HR := Lib.hid hr
  obtain ⟨L, hL⟩ : ∃ L, L = l.length := ⟨_, rfl⟩
  have HLL := Lib.hid hL
  rw [← hL] at m1 hn ⊢
  have hn' : ¬ (50 : Int) < (L : Int) := by omega
  generalize hV : (if validB 4 l = false then (3 : Int) else 0) = V
  have HV := Lib.hid hV
  clear hr hL hV
  go_enter Try.func19, Try.ntmps19
  go_wp2_with fail
  refine (HB.out _).mono ?_
  rintro e w1 ⟨rfl, rfl⟩
  go_wp2_with fail
  go_loopw [6] (fun i wr => ∃ k : Nat, k ≤ L ∧ i = .int .i64 k ∧ (∀ (j : Nat) (x : Int), j < k → l[j]? = some x → btw 1 x 1000 = true) ∧ (∀ j, j + 1 < k → j + 1 < l.length → l.getD j 0 < l.getD (j + 1) 0) ∧ ∃ q, wr = w.drewN q) (fun i _ => L - (intOf i).toNat)
  case atStart => exact ⟨0, by omega, rfl, fun j x hj => by omega, fun j hj => by omega, 0, rfl⟩
  case round =>
    obtain ⟨k, hk, rfl, ha, hs, q, rfl⟩ := hrel
    have HA := Lib.hid (And.intro ha hs)
    clear ha hs
    by_cases hkL : k < L
    · obtain ⟨x, hx⟩ : ∃ x, l[k]? = some x := ⟨_, List.getElem?_eq_getElem (by rw [← HLL.out]; exact hkL)⟩
      have hr' := HR.out
      rw [← HLL.out] at hr'
      obtain ⟨g, o, rfl, hg, d0⟩ := hr'.num hx
      have HX := Lib.hid hx
      have i1 : (0 : Int) ≤ (k : Int) := by omega
      have i2 : (k : Int) < (L : Int) := by omega
      cases hb : btw 1 x 1000
      · have HC := Lib.hid (fun W : World => btwn_false W hb)
        have HW := Lib.hid hb
        clear hr' hx hb
        go_wp2_with fail
        go_quiet ((go_at_call 15; exact quiet_at (HC.out _)))
        go_wp2_with fail
        go_ret
        have e : V = 3 := by
          rw [← HV.out, valid_set l, rowB_no HX.out HW.out]
          rw [Bool.false_and]; rfl
        exact ⟨by rw [e]; rfl, q + nq, World.drewN_drewN _ _ _⟩
      · have HC := Lib.hid (fun W : World => btwn_true W hb)
        have HW := Lib.hid hb
        by_cases h0 : 0 < k
        · obtain ⟨y, hy⟩ : ∃ y, l[k - 1]? = some y := ⟨_, List.getElem?_eq_getElem (by rw [← HLL.out]; omega)⟩
          obtain ⟨g', o', hA', -, d1⟩ := hr'.num hy
          injection hA' with e1
          injection e1 with e1 e2
          subst e1 e2
          have gx : l.getD k 0 = x := by rw [List.getD_eq_getElem?_getD, hx]; rfl
          have gy : l.getD (k - 1) 0 = y := by rw [List.getD_eq_getElem?_getD, hy]; rfl
          have HG := Lib.hid (And.intro gx gy)
          have i3 : (0 : Int) < (k : Int) := by omega
          have i4 : (0 : Int) ≤ (k : Int) - 1 := by omega
          have i5 : (k : Int) - 1 < (L : Int) := by omega
          have hs1 : IntKind.i64.wrap ((k : Int) - 1) = (k : Int) - 1 := IntWalk.i64_in _ (by omega)
          have hs2 : ((k : Int) - 1).toNat = k - 1 := by omega
          clear hr' hx hb hy gx gy
          by_cases hle : x ≤ y
          · have hd : decide (x ≤ y) = true := decide_eq_true hle
            have HE := Lib.hid hle
            clear hle
            go_wp2_with fail
            go_quiet ((go_at_call 15; exact quiet_at (HC.out _)))
            go_wp2_with fail
            go_ret
            have e : V = 3 := by
              rw [← HV.out, valid_set l, not_sorted (i := k - 1) (by rw [← HLL.out]; omega) (by
                rw [show k - 1 + 1 = k by omega, HG.out.1, HG.out.2]
                exact HE.out), Bool.and_false]
              rfl
            exact ⟨by rw [e]; rfl, q + nq, World.drewN_drewN _ _ _⟩
          · have hd : decide (x ≤ y) = false := decide_eq_false hle
            have HE := Lib.hid hle
            clear hle
            go_wp2_with fail
            go_quiet ((go_at_call 15; exact quiet_at (HC.out _)))
            go_wp2_with fail
            go_roundw
            case rel => exact ⟨k + 1, by omega, by go_num, fun j y hj hy => by
              rcases Nat.lt_or_ge j k with h | h
              · exact HA.out.1 j y h hy
              · obtain rfl : j = k := by omega
                rw [HX.out] at hy
                injection hy with hy
                subst hy
                exact HW.out, fun j hj hjl => by
                rcases Nat.lt_or_ge (j + 1) k with h | h
                · exact HA.out.2 j h hjl
                · obtain rfl : j + 1 = k := by omega
                  rw [HG.out.1]
                  have := HG.out.2
                  rw [Nat.add_sub_cancel] at this
                  rw [this]
                  have := HE.out
                  omega, _, rfl⟩
            case measure => simp [intOf]; omega
        · obtain rfl : k = 0 := by omega
          rw [Nat.add_zero] at d0
          clear hr' hx hb
          go_wp2_with fail
          go_quiet ((go_at_call 15; exact quiet_at (HC.out _)))
          go_wp2_with fail
          go_roundw
          case rel => exact ⟨1, by omega, rfl, fun j y hj hy => by
            rcases Nat.lt_or_ge j 0 with h | h
            · exact HA.out.1 j y h hy
            · obtain rfl : j = 0 := by omega
              rw [HX.out] at hy
              injection hy with hy
              subst hy
              exact HW.out, fun j hj => by omega, _, rfl⟩
          case measure => simp [intOf]; omega
    · obtain rfl : k = L := by omega
      have e : V = 0 := by
        rw [← HV.out, valid_set l, rowB_yes fun j x hx => HA.out.1 j x (by rw [HLL.out]; exact (List.getElem?_eq_some_iff.1 hx).1) hx, sorted_yes fun j hj => HA.out.2 j (by rw [← HLL.out] at hj; omega) hj]
        rfl
      have HE := Lib.hid e
      clear e
      go_wp2_with fail
      go_ret
      exact ⟨by rw [HE.out]; rfl, q, rfl⟩

set_option maxHeartbeats 2000000 in
theorem right_any {v : Value} {l : List Int} {w : World} (typ : Int) (hr : NRd w w.heap.size v l) : Calls Try.prog 19 #[.int .i64 typ, v] w fun e w' => e = .returned (.int .i64 (stateE typ l)) ∧ Below w.heap.size w w' := by
  cases ht : btw 1 typ 5
  · have e : stateE typ l = 1 := by unfold stateE; rw [if_pos ht]
    rw [e]
    obtain ⟨A, cap, rfl, m1, m2⟩ := hr.is
    have HC := Lib.hid (fun W : World => btwn_false W ht)
    clear ht hr e
    go_enter Try.func19, Try.ntmps19
    go_wp2_with fail
    refine (HC.out _).mono ?_
    rintro e w1 ⟨rfl, rfl⟩
    go_wp2_with fail
    go_ret
    exact ⟨rfl, Below.refl _ _⟩
  · by_cases hn : 50 < l.length
    · rw [stateE_long ht hn]
      obtain ⟨A, cap, rfl, m1, m2⟩ := hr.is
      unfold maxLen at m2
      have HC := Lib.hid (fun W : World => btwn_true W ht)
      have hn' : (50 : Int) < (l.length : Int) := by omega
      clear ht hr hn
      go_enter Try.func19, Try.ntmps19
      go_wp2_with fail
      refine (HC.out _).mono ?_
      rintro e w1 ⟨rfl, rfl⟩
      go_wp2_with fail
      go_ret
      exact ⟨rfl, Below.refl _ _⟩
    · have e : stateE typ l = if validB typ l = false then 3 else 0 := by unfold stateE; rw [ht, if_neg (by decide), if_neg hn]
      rw [e]
      rcases typ_ways typ with rfl | rfl | rfl | rfl | rfl | ⟨_, _, _, _, _, h⟩
      · exact (right1 hr hn).mono fun e w' ⟨h1, h2⟩ => ⟨h1, by rw [← h2]; exact Below.refl _ _⟩
      · exact (right2 hr hn).mono fun e w' ⟨h1, q, h2⟩ => ⟨h1, by rw [h2]; exact belowN (Below.refl _ _) _⟩
      · exact (right3 hr hn).mono fun e w' ⟨h1, q, h2⟩ => ⟨h1, by rw [h2]; exact belowN (Below.refl _ _) _⟩
      · exact (right4 hr hn).mono fun e w' ⟨h1, q, h2⟩ => ⟨h1, by rw [h2]; exact belowN (Below.refl _ _) _⟩
      · exact (right5 hr hn).mono fun e w' ⟨h1, h2⟩ => ⟨h1, by rw [← h2]; exact Below.refl _ _⟩
      · rw [h] at ht; cases ht
end Go.Proofs.Ytebcnhnkpmbgdaa
