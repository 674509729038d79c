/-
  Joined by a program out of: RefSet.
-/
import Derived.Test.YtfgangkpebkicaaGreatDoorMsRefSteps
import Derived.Test.YtfgangkpebkicaaGreatDoorMsSteppedPure

/-
  Contract of the reference's Stepped: sets.
-/
namespace Go.Proofs.YtfgangkpebkicaaGreatDoor
open Go.RowKit
set_option maxRecDepth 20000
theorem pass_take {l : List Int} {k : Nat} {x : Int} (hx : l[k]? = some x) (q a : Int) (st : PassS) : pass q a st (l.take (k + 1)) = passStep q a (pass q a st (l.take k)) x := by
  rw [List.take_add_one, hx]
  exact pass_snoc q a st _ x
theorem row_ways (x a : Int) : (x < a ∧ (x == a) = false ∧ (x != a) = true ∧ decide (a ≤ x) = false ∧ ¬ a ≤ x) ∨ (x = a ∧ (x == a) = true ∧ (x != a) = false ∧ decide (a ≤ x) = true ∧ a ≤ x) ∨ (a < x ∧ (x == a) = false ∧ (x != a) = true ∧ decide (a ≤ x) = true ∧ a ≤ x) := by
  simp only [beq_eq_false_iff_ne, beq_iff_eq, bne_iff_ne, bne_eq_false_iff_eq, decide_eq_true_eq, decide_eq_false_iff_not]
  omega
set_option maxHeartbeats 8000000 in
theorem ref9 {v : Value} {l : List Int} {w : World} (hr : NRd w w.heap.size v l) (arg : Int) (hn : l.length ≤ 50) (hs : l.Pairwise (· < ·)) : Calls Tryz.prog 31 #[v, .int .i64 9, .int .i64 arg] w (RefPost w (stepped l 9 arg)) := by
  obtain ⟨A, cap, rfl, m1, m2⟩ := hr.is
  unfold maxLen at m2
  have HR := Lib.hid hr
  have HN := Lib.hid hn
  obtain ⟨L, hL⟩ : ∃ L, L = l.length := ⟨_, rfl⟩
  have HLL := Lib.hid hL
  have hp := pass_stepped hs 9 arg (by omega) (fun h => by omega)
  rw [hp]
  have HF := Lib.hid (fun k => pass_len 9 arg (l.take k) (0, [], true))
  rw [show ((9 : Int) != 7) = true from rfl]
  clear hp hs
  clear hr hn
  rw [← hL] at m1 ⊢
  clear hL
  go_enter Tryz.func31, Tryz.ntmps31
  go_wp2_with fail
  go_loopw [11, 12, 13, 105] (fun ws os ps i wr => ∃ (k : Nat) (was : Int) (out : List Int) (put : Bool), k ≤ L ∧ i = .int .i64 k ∧ ws = .int .i64 was ∧ ps = .bool put ∧ pass 9 arg (0, [], true) (l.take k) = (was, out, put) ∧ NOwn wr w.heap.size os out ∧ Below w.heap.size w wr) (fun _ _ _ i _ => L - (intOf i).toNat)
  case atStart => exact ⟨0, 0, [], true, by omega, rfl, rfl, rfl, rfl, NOwn.nil _ _, Below.refl _ _⟩
  case round =>
    obtain ⟨k, was, out, put, hk, rfl, rfl, rfl, hp, ho, hB⟩ := hrel
    have HA := Lib.hid (And.intro hp (And.intro ho hB))
    have HLn := Lib.hid (show out.length ≤ 100 by
      have h1 := HF.out k
      rw [hp] at h1
      simp only [List.length_nil, List.length_take] at h1
      have := HN.out
      omega)
    have HBs := Lib.hid hB.size
    by_cases hkL : k < L
    · obtain ⟨x, hx⟩ : ∃ x, l[k]? = some x := ⟨_, List.getElem?_eq_getElem (by rw [← HLL.out]; exact hkL)⟩
      have hr' := HR.out.below hB
      rw [← HLL.out] at hr'
      obtain ⟨g, o, rfl, hg, d0⟩ := hr'.num hx
      have hps := pass_take hx 9 arg (0, [], true)
      rw [hp] at hps
      have i1 : (0 : Int) ≤ (k : Int) := by omega
      have i2 : (k : Int) < (L : Int) := by omega
      clear hr' hx hp ho hB
      rcases row_ways x arg with ⟨q0, q1, q2, q3, q4⟩ | ⟨q0, q1, q2, q3, q4⟩ | ⟨q0, q1, q2, q3, q4⟩
      · cases put
        · have hst : passStep 9 arg (was, out, false) x = (was, (out ++ [x]), false) := by
            unfold passStep
            simp [show ¬ x = arg by omega, show ¬ arg ≤ x by omega]
          rw [hst] at hps
          have HP := Lib.hid hps
          clear hps hst q0
          go_wp2_with (at_builtin; refine wpList_app_int rfl (.tmp 130) (.tmp 132) rfl w.heap.size wr.heap.size _ _ x rfl rfl (HA.out.2.1.alloc (.cells #[.int .i64 x] 3)) (new_int wr 3 x) (by have := HLn.out; simp; omega) (by have := HBs.out; simp; omega) ?_; intro v1 z1 ho1 hb1)
          have HY := Lib.hid (And.intro ho1 ((HA.out.2.2.alloc HBs.out _).trans hb1))
          clear ho1 hb1
          go_roundw
          case rel => exact ⟨k + 1, was, (out ++ [x]), false, by omega, by go_num, rfl, rfl, HP.out, HY.out.1, HY.out.2⟩
          case measure => simp [intOf]; omega
        · have hst : passStep 9 arg (was, out, true) x = (was, (out ++ [x]), true) := by
            unfold passStep
            simp [show ¬ x = arg by omega]
          rw [hst] at hps
          have HP := Lib.hid hps
          clear hps hst q0
          go_wp2_with (at_builtin; refine wpList_app_int rfl (.tmp 130) (.tmp 132) rfl w.heap.size wr.heap.size _ _ x rfl rfl (HA.out.2.1.alloc (.cells #[.int .i64 x] 3)) (new_int wr 3 x) (by have := HLn.out; simp; omega) (by have := HBs.out; simp; omega) ?_; intro v1 z1 ho1 hb1)
          have HY := Lib.hid (And.intro ho1 ((HA.out.2.2.alloc HBs.out _).trans hb1))
          clear ho1 hb1
          go_roundw
          case rel => exact ⟨k + 1, was, (out ++ [x]), true, by omega, by go_num, rfl, rfl, HP.out, HY.out.1, HY.out.2⟩
          case measure => simp [intOf]; omega
      · cases put
        · have hst : passStep 9 arg (was, out, false) x = (1, ((out ++ [arg]) ++ [x]), true) := by
            unfold passStep
            simp [q0]
          rw [hst] at hps
          have HP := Lib.hid hps
          clear hps hst q0
          go_wp2_with (first | (at_builtin; refine wpList_app_int rfl (.tmp 119) (.tmp 121) rfl w.heap.size wr.heap.size _ _ arg rfl rfl (HA.out.2.1.alloc (.cells #[.int .i64 arg] 3)) (new_int wr 3 arg) (by have := HLn.out; simp; omega) (by have := HBs.out; simp; omega) ?_; intro v1 z1 ho1 hb1) | (at_builtin; refine wpList_app_int rfl (.tmp 130) (.tmp 132) rfl w.heap.size z1.heap.size _ _ x rfl rfl (ho1.alloc (.cells #[.int .i64 x] 3)) (new_int z1 3 x) (by have := HLn.out; simp; omega) (by have h1 := HBs.out; have h2 := hb1.size; simp at h2 ⊢; omega) ?_; intro v2 z2 ho2 hb2))
          have HX := Lib.hid ((HA.out.2.2.alloc HBs.out _).trans hb1)
          have HY := Lib.hid (And.intro ho2 ((HX.out.alloc HX.out.size _).trans hb2))
          clear ho1 hb1 ho2 hb2
          go_roundw
          case rel => exact ⟨k + 1, 1, ((out ++ [arg]) ++ [x]), true, by omega, by go_num, rfl, rfl, HP.out, HY.out.1, HY.out.2⟩
          case measure => simp [intOf]; omega
        · have hst : passStep 9 arg (was, out, true) x = (1, (out ++ [x]), true) := by
            unfold passStep
            simp [q0]
          rw [hst] at hps
          have HP := Lib.hid hps
          clear hps hst q0
          go_wp2_with (at_builtin; refine wpList_app_int rfl (.tmp 130) (.tmp 132) rfl w.heap.size wr.heap.size _ _ x rfl rfl (HA.out.2.1.alloc (.cells #[.int .i64 x] 3)) (new_int wr 3 x) (by have := HLn.out; simp; omega) (by have := HBs.out; simp; omega) ?_; intro v1 z1 ho1 hb1)
          have HY := Lib.hid (And.intro ho1 ((HA.out.2.2.alloc HBs.out _).trans hb1))
          clear ho1 hb1
          go_roundw
          case rel => exact ⟨k + 1, 1, (out ++ [x]), true, by omega, by go_num, rfl, rfl, HP.out, HY.out.1, HY.out.2⟩
          case measure => simp [intOf]; omega
      · cases put
        · have hst : passStep 9 arg (was, out, false) x = (was, ((out ++ [arg]) ++ [x]), true) := by
            unfold passStep
            simp [show ¬ x = arg by omega, show arg ≤ x by omega]
          rw [hst] at hps
          have HP := Lib.hid hps
          clear hps hst q0
          go_wp2_with (first | (at_builtin; refine wpList_app_int rfl (.tmp 119) (.tmp 121) rfl w.heap.size wr.heap.size _ _ arg rfl rfl (HA.out.2.1.alloc (.cells #[.int .i64 arg] 3)) (new_int wr 3 arg) (by have := HLn.out; simp; omega) (by have := HBs.out; simp; omega) ?_; intro v1 z1 ho1 hb1) | (at_builtin; refine wpList_app_int rfl (.tmp 130) (.tmp 132) rfl w.heap.size z1.heap.size _ _ x rfl rfl (ho1.alloc (.cells #[.int .i64 x] 3)) (new_int z1 3 x) (by have := HLn.out; simp; omega) (by have h1 := HBs.out; have h2 := hb1.size; simp at h2 ⊢; omega) ?_; intro v2 z2 ho2 hb2))
          have HX := Lib.hid ((HA.out.2.2.alloc HBs.out _).trans hb1)
          have HY := Lib.hid (And.intro ho2 ((HX.out.alloc HX.out.size _).trans hb2))
          clear ho1 hb1 ho2 hb2
          go_roundw
          case rel => exact ⟨k + 1, was, ((out ++ [arg]) ++ [x]), true, by omega, by go_num, rfl, rfl, HP.out, HY.out.1, HY.out.2⟩
          case measure => simp [intOf]; omega
        · have hst : passStep 9 arg (was, out, true) x = (was, (out ++ [x]), true) := by
            unfold passStep
            simp [show ¬ x = arg by omega]
          rw [hst] at hps
          have HP := Lib.hid hps
          clear hps hst q0
          go_wp2_with (at_builtin; refine wpList_app_int rfl (.tmp 130) (.tmp 132) rfl w.heap.size wr.heap.size _ _ x rfl rfl (HA.out.2.1.alloc (.cells #[.int .i64 x] 3)) (new_int wr 3 x) (by have := HLn.out; simp; omega) (by have := HBs.out; simp; omega) ?_; intro v1 z1 ho1 hb1)
          have HY := Lib.hid (And.intro ho1 ((HA.out.2.2.alloc HBs.out _).trans hb1))
          clear ho1 hb1
          go_roundw
          case rel => exact ⟨k + 1, was, (out ++ [x]), true, by omega, by go_num, rfl, rfl, HP.out, HY.out.1, HY.out.2⟩
          case measure => simp [intOf]; omega
    · obtain rfl : k = L := by omega
      have e : pass 9 arg (0, [], true) l = (was, out, put) := by rw [← hp, HLL.out, List.take_length]
      have HE := Lib.hid e
      clear e hp ho hB hk
      cases put
      · go_wp2_with (at_builtin; refine wpList_app_int rfl (.tmp 137) (.tmp 139) rfl w.heap.size wr.heap.size _ _ arg rfl rfl (HA.out.2.1.alloc (.cells #[.int .i64 arg] 3)) (new_int wr 3 arg) (by have := HLn.out; simp; omega) (by have := HBs.out; simp; omega) ?_; intro v1 z1 ho1 hb1)
        go_ret3
        rw [HE.out]
        exact ⟨_, rfl, ho1.rd, (HA.out.2.2.alloc HBs.out _).trans hb1⟩
      · go_wp2_with fail
        go_ret3
        rw [HE.out]
        exact ⟨_, rfl, HA.out.2.1.rd, HA.out.2.2⟩
set_option maxHeartbeats 8000000 in
theorem ref8 {v : Value} {l : List Int} {w : World} (hr : NRd w w.heap.size v l) (arg : Int) (hn : l.length ≤ 50) (hs : l.Pairwise (· < ·)) : Calls Tryz.prog 31 #[v, .int .i64 8, .int .i64 arg] w (RefPost w (stepped l 8 arg)) := by
  obtain ⟨A, cap, rfl, m1, m2⟩ := hr.is
  unfold maxLen at m2
  have HR := Lib.hid hr
  have HN := Lib.hid hn
  obtain ⟨L, hL⟩ : ∃ L, L = l.length := ⟨_, rfl⟩
  have HLL := Lib.hid hL
  have hp := pass_stepped hs 8 arg (by omega) (fun h => by omega)
  rw [hp]
  have HF := Lib.hid (fun k => pass_len 8 arg (l.take k) (0, [], true))
  rw [show ((8 : Int) != 7) = true from rfl]
  clear hp hs
  clear hr hn
  rw [← hL] at m1 ⊢
  clear hL
  go_enter Tryz.func31, Tryz.ntmps31
  go_wp2_with fail
  go_loopw [11, 12, 13, 105] (fun ws os ps i wr => ∃ (k : Nat) (was : Int) (out : List Int) (put : Bool), k ≤ L ∧ i = .int .i64 k ∧ ws = .int .i64 was ∧ ps = .bool put ∧ pass 8 arg (0, [], true) (l.take k) = (was, out, put) ∧ NOwn wr w.heap.size os out ∧ Below w.heap.size w wr) (fun _ _ _ i _ => L - (intOf i).toNat)
  case atStart => exact ⟨0, 0, [], true, by omega, rfl, rfl, rfl, rfl, NOwn.nil _ _, Below.refl _ _⟩
  case round =>
    obtain ⟨k, was, out, put, hk, rfl, rfl, rfl, hp, ho, hB⟩ := hrel
    have HA := Lib.hid (And.intro hp (And.intro ho hB))
    have HLn := Lib.hid (show out.length ≤ 100 by
      have h1 := HF.out k
      rw [hp] at h1
      simp only [List.length_nil, List.length_take] at h1
      have := HN.out
      omega)
    have HBs := Lib.hid hB.size
    by_cases hkL : k < L
    · obtain ⟨x, hx⟩ : ∃ x, l[k]? = some x := ⟨_, List.getElem?_eq_getElem (by rw [← HLL.out]; exact hkL)⟩
      have hr' := HR.out.below hB
      rw [← HLL.out] at hr'
      obtain ⟨g, o, rfl, hg, d0⟩ := hr'.num hx
      have hps := pass_take hx 8 arg (0, [], true)
      rw [hp] at hps
      have i1 : (0 : Int) ≤ (k : Int) := by omega
      have i2 : (k : Int) < (L : Int) := by omega
      clear hr' hx hp ho hB
      rcases row_ways x arg with ⟨q0, q1, q2, q3, q4⟩ | ⟨q0, q1, q2, q3, q4⟩ | ⟨q0, q1, q2, q3, q4⟩
      · cases put
        · have hst : passStep 8 arg (was, out, false) x = (was, (out ++ [x]), false) := by
            unfold passStep
            simp [show ¬ x = arg by omega, show ¬ arg ≤ x by omega]
          rw [hst] at hps
          have HP := Lib.hid hps
          clear hps hst q0
          go_wp2_with (at_builtin; refine wpList_app_int rfl (.tmp 130) (.tmp 132) rfl w.heap.size wr.heap.size _ _ x rfl rfl (HA.out.2.1.alloc (.cells #[.int .i64 x] 3)) (new_int wr 3 x) (by have := HLn.out; simp; omega) (by have := HBs.out; simp; omega) ?_; intro v1 z1 ho1 hb1)
          have HY := Lib.hid (And.intro ho1 ((HA.out.2.2.alloc HBs.out _).trans hb1))
          clear ho1 hb1
          go_roundw
          case rel => exact ⟨k + 1, was, (out ++ [x]), false, by omega, by go_num, rfl, rfl, HP.out, HY.out.1, HY.out.2⟩
          case measure => simp [intOf]; omega
        · have hst : passStep 8 arg (was, out, true) x = (was, (out ++ [x]), true) := by
            unfold passStep
            simp [show ¬ x = arg by omega]
          rw [hst] at hps
          have HP := Lib.hid hps
          clear hps hst q0
          go_wp2_with (at_builtin; refine wpList_app_int rfl (.tmp 130) (.tmp 132) rfl w.heap.size wr.heap.size _ _ x rfl rfl (HA.out.2.1.alloc (.cells #[.int .i64 x] 3)) (new_int wr 3 x) (by have := HLn.out; simp; omega) (by have := HBs.out; simp; omega) ?_; intro v1 z1 ho1 hb1)
          have HY := Lib.hid (And.intro ho1 ((HA.out.2.2.alloc HBs.out _).trans hb1))
          clear ho1 hb1
          go_roundw
          case rel => exact ⟨k + 1, was, (out ++ [x]), true, by omega, by go_num, rfl, rfl, HP.out, HY.out.1, HY.out.2⟩
          case measure => simp [intOf]; omega
      · cases put
        · have hst : passStep 8 arg (was, out, false) x = (1, (out ++ [arg]), true) := by
            unfold passStep
            simp [q0]
          rw [hst] at hps
          have HP := Lib.hid hps
          clear hps hst q0
          go_wp2_with (at_builtin; refine wpList_app_int rfl (.tmp 119) (.tmp 121) rfl w.heap.size wr.heap.size _ _ arg rfl rfl (HA.out.2.1.alloc (.cells #[.int .i64 arg] 3)) (new_int wr 3 arg) (by have := HLn.out; simp; omega) (by have := HBs.out; simp; omega) ?_; intro v1 z1 ho1 hb1)
          have HY := Lib.hid (And.intro ho1 ((HA.out.2.2.alloc HBs.out _).trans hb1))
          clear ho1 hb1
          go_roundw
          case rel => exact ⟨k + 1, 1, (out ++ [arg]), true, by omega, by go_num, rfl, rfl, HP.out, HY.out.1, HY.out.2⟩
          case measure => simp [intOf]; omega
        · have hst : passStep 8 arg (was, out, true) x = (1, out, true) := by
            unfold passStep
            simp [q0]
          rw [hst] at hps
          have HP := Lib.hid hps
          clear hps hst q0
          go_wp2_with fail
          go_roundw
          case rel => exact ⟨k + 1, 1, out, true, by omega, by go_num, rfl, rfl, HP.out, HA.out.2.1, HA.out.2.2⟩
          case measure => simp [intOf]; omega
      · cases put
        · have hst : passStep 8 arg (was, out, false) x = (was, ((out ++ [arg]) ++ [x]), true) := by
            unfold passStep
            simp [show ¬ x = arg by omega, show arg ≤ x by omega]
          rw [hst] at hps
          have HP := Lib.hid hps
          clear hps hst q0
          go_wp2_with (first | (at_builtin; refine wpList_app_int rfl (.tmp 119) (.tmp 121) rfl w.heap.size wr.heap.size _ _ arg rfl rfl (HA.out.2.1.alloc (.cells #[.int .i64 arg] 3)) (new_int wr 3 arg) (by have := HLn.out; simp; omega) (by have := HBs.out; simp; omega) ?_; intro v1 z1 ho1 hb1) | (at_builtin; refine wpList_app_int rfl (.tmp 130) (.tmp 132) rfl w.heap.size z1.heap.size _ _ x rfl rfl (ho1.alloc (.cells #[.int .i64 x] 3)) (new_int z1 3 x) (by have := HLn.out; simp; omega) (by have h1 := HBs.out; have h2 := hb1.size; simp at h2 ⊢; omega) ?_; intro v2 z2 ho2 hb2))
          have HX := Lib.hid ((HA.out.2.2.alloc HBs.out _).trans hb1)
          have HY := Lib.hid (And.intro ho2 ((HX.out.alloc HX.out.size _).trans hb2))
          clear ho1 hb1 ho2 hb2
          go_roundw
          case rel => exact ⟨k + 1, was, ((out ++ [arg]) ++ [x]), true, by omega, by go_num, rfl, rfl, HP.out, HY.out.1, HY.out.2⟩
          case measure => simp [intOf]; omega
        · have hst : passStep 8 arg (was, out, true) x = (was, (out ++ [x]), true) := by
            unfold passStep
            simp [show ¬ x = arg by omega]
          rw [hst] at hps
          have HP := Lib.hid hps
          clear hps hst q0
          go_wp2_with (at_builtin; refine wpList_app_int rfl (.tmp 130) (.tmp 132) rfl w.heap.size wr.heap.size _ _ x rfl rfl (HA.out.2.1.alloc (.cells #[.int .i64 x] 3)) (new_int wr 3 x) (by have := HLn.out; simp; omega) (by have := HBs.out; simp; omega) ?_; intro v1 z1 ho1 hb1)
          have HY := Lib.hid (And.intro ho1 ((HA.out.2.2.alloc HBs.out _).trans hb1))
          clear ho1 hb1
          go_roundw
          case rel => exact ⟨k + 1, was, (out ++ [x]), true, by omega, by go_num, rfl, rfl, HP.out, HY.out.1, HY.out.2⟩
          case measure => simp [intOf]; omega
    · obtain rfl : k = L := by omega
      have e : pass 8 arg (0, [], true) l = (was, out, put) := by rw [← hp, HLL.out, List.take_length]
      have HE := Lib.hid e
      clear e hp ho hB hk
      cases put
      · go_wp2_with (at_builtin; refine wpList_app_int rfl (.tmp 137) (.tmp 139) rfl w.heap.size wr.heap.size _ _ arg rfl rfl (HA.out.2.1.alloc (.cells #[.int .i64 arg] 3)) (new_int wr 3 arg) (by have := HLn.out; simp; omega) (by have := HBs.out; simp; omega) ?_; intro v1 z1 ho1 hb1)
        go_ret3
        rw [HE.out]
        exact ⟨_, rfl, ho1.rd, (HA.out.2.2.alloc HBs.out _).trans hb1⟩
      · go_wp2_with fail
        go_ret3
        rw [HE.out]
        exact ⟨_, rfl, HA.out.2.1.rd, HA.out.2.2⟩
set_option maxHeartbeats 8000000 in
theorem ref7 {v : Value} {l : List Int} {w : World} (hr : NRd w w.heap.size v l) (arg : Int) (hn : l.length ≤ 50) (hs : l.Pairwise (· < ·)) : Calls Tryz.prog 31 #[v, .int .i64 7, .int .i64 arg] w (RefPost w (stepped l 7 arg)) := by
  obtain ⟨A, cap, rfl, m1, m2⟩ := hr.is
  unfold maxLen at m2
  have HR := Lib.hid hr
  have HN := Lib.hid hn
  obtain ⟨L, hL⟩ : ∃ L, L = l.length := ⟨_, rfl⟩
  have HLL := Lib.hid hL
  have hc := containsS_any hr arg
  by_cases hfull : arg ∉ l ∧ l.length = 50
  · have e : stepped l 7 arg = ([], 0, 2) := by
      unfold stepped
      rw [if_neg (by decide), if_neg (by decide), if_neg (by decide), if_neg (by decide), if_neg (by decide), if_neg (by decide), if_pos rfl, if_neg hfull.1, if_pos hfull.2]
    rw [e]
    rw [decide_eq_false hfull.1] at hc
    have HC := Lib.hid hc
    have hz : ((l.length : Int) == 50) = true := by rw [beq_iff_eq]; omega
    clear hr hn hs hc hfull e
    go_enter Tryz.func31, Tryz.ntmps31
    go_wp2_with fail
    refine HC.out.mono ?_
    rintro e w1 ⟨rfl, hb1⟩
    have H1 := Lib.hid hb1
    clear hb1
    go_wp2_with fail
    go_ret3
    exact ⟨_, rfl, LRd.nil _ _, H1.out⟩
  have hp := pass_stepped hs 7 arg (by omega) (fun h => hfull ⟨h.2.1, h.2.2⟩)
  rw [hp]
  have HF := Lib.hid (fun k => pass_len 7 arg (l.take k) (0, [], false))
  rw [show ((7 : Int) != 7) = false from rfl]
  clear hp hs
  have hcont : Calls Tryz.prog 18 #[.slice A l.length cap, .int .i64 arg] w fun e w' => (e = .returned (.bool true) ∨ (e = .returned (.bool false) ∧ ((l.length : Int) == 50) = false)) ∧ Below w.heap.size w w' := hc.mono fun e w' ⟨he, hb⟩ => by
    refine ⟨?_, hb⟩
    by_cases hm : arg ∈ l
    · rw [decide_eq_true hm] at he
      exact .inl he
    · rw [decide_eq_false hm] at he
      refine .inr ⟨he, ?_⟩
      rw [beq_eq_false_iff_ne]
      intro h50
      exact hfull ⟨hm, by omega⟩
  have HC := Lib.hid hcont
  clear hc hcont hfull
  clear hr hn
  rw [← hL] at m1 ⊢
  rw [← hL] at HC
  clear hL
  go_enter Tryz.func31, Tryz.ntmps31
  go_wp2_with fail
  refine HC.out.mono ?_
  rintro e w1 ⟨he, hb1⟩
  have HB1 := Lib.hid hb1
  clear hb1 HC
  rcases he with rfl | ⟨rfl, hz⟩
  all_goals
    go_wp2_with fail
    go_loopw [11, 12, 13, 105] (fun ws os ps i wr => ∃ (k : Nat) (was : Int) (out : List Int) (put : Bool), k ≤ L ∧ i = .int .i64 k ∧ ws = .int .i64 was ∧ ps = .bool put ∧ pass 7 arg (0, [], false) (l.take k) = (was, out, put) ∧ NOwn wr w.heap.size os out ∧ Below w.heap.size w wr) (fun _ _ _ i _ => L - (intOf i).toNat)
    case atStart => exact ⟨0, 0, [], false, by omega, rfl, rfl, rfl, rfl, NOwn.nil _ _, HB1.out⟩
    case round =>
      obtain ⟨k, was, out, put, hk, rfl, rfl, rfl, hp, ho, hB⟩ := hrel
      have HA := Lib.hid (And.intro hp (And.intro ho hB))
      have HLn := Lib.hid (show out.length ≤ 100 by
        have h1 := HF.out k
        rw [hp] at h1
        simp only [List.length_nil, List.length_take] at h1
        have := HN.out
        omega)
      have HBs := Lib.hid hB.size
      by_cases hkL : k < L
      · obtain ⟨x, hx⟩ : ∃ x, l[k]? = some x := ⟨_, List.getElem?_eq_getElem (by rw [← HLL.out]; exact hkL)⟩
        have hr' := HR.out.below hB
        rw [← HLL.out] at hr'
        obtain ⟨g, o, rfl, hg, d0⟩ := hr'.num hx
        have hps := pass_take hx 7 arg (0, [], false)
        rw [hp] at hps
        have i1 : (0 : Int) ≤ (k : Int) := by omega
        have i2 : (k : Int) < (L : Int) := by omega
        clear hr' hx hp ho hB
        rcases row_ways x arg with ⟨q0, q1, q2, q3, q4⟩ | ⟨q0, q1, q2, q3, q4⟩ | ⟨q0, q1, q2, q3, q4⟩
        · cases put
          · have hst : passStep 7 arg (was, out, false) x = (was, (out ++ [x]), false) := by
              unfold passStep
              simp [show ¬ x = arg by omega, show ¬ arg ≤ x by omega]
            rw [hst] at hps
            have HP := Lib.hid hps
            clear hps hst q0
            go_wp2_with (at_builtin; refine wpList_app_int rfl (.tmp 130) (.tmp 132) rfl w.heap.size wr.heap.size _ _ x rfl rfl (HA.out.2.1.alloc (.cells #[.int .i64 x] 3)) (new_int wr 3 x) (by have := HLn.out; simp; omega) (by have := HBs.out; simp; omega) ?_; intro v1 z1 ho1 hb1)
            have HY := Lib.hid (And.intro ho1 ((HA.out.2.2.alloc HBs.out _).trans hb1))
            clear ho1 hb1
            go_roundw
            case rel => exact ⟨k + 1, was, (out ++ [x]), false, by omega, by go_num, rfl, rfl, HP.out, HY.out.1, HY.out.2⟩
            case measure => simp [intOf]; omega
          · have hst : passStep 7 arg (was, out, true) x = (was, (out ++ [x]), true) := by
              unfold passStep
              simp [show ¬ x = arg by omega]
            rw [hst] at hps
            have HP := Lib.hid hps
            clear hps hst q0
            go_wp2_with (at_builtin; refine wpList_app_int rfl (.tmp 130) (.tmp 132) rfl w.heap.size wr.heap.size _ _ x rfl rfl (HA.out.2.1.alloc (.cells #[.int .i64 x] 3)) (new_int wr 3 x) (by have := HLn.out; simp; omega) (by have := HBs.out; simp; omega) ?_; intro v1 z1 ho1 hb1)
            have HY := Lib.hid (And.intro ho1 ((HA.out.2.2.alloc HBs.out _).trans hb1))
            clear ho1 hb1
            go_roundw
            case rel => exact ⟨k + 1, was, (out ++ [x]), true, by omega, by go_num, rfl, rfl, HP.out, HY.out.1, HY.out.2⟩
            case measure => simp [intOf]; omega
        · cases put
          · have hst : passStep 7 arg (was, out, false) x = (1, (out ++ [arg]), true) := by
              unfold passStep
              simp [q0]
            rw [hst] at hps
            have HP := Lib.hid hps
            clear hps hst q0
            go_wp2_with (at_builtin; refine wpList_app_int rfl (.tmp 119) (.tmp 121) rfl w.heap.size wr.heap.size _ _ arg rfl rfl (HA.out.2.1.alloc (.cells #[.int .i64 arg] 3)) (new_int wr 3 arg) (by have := HLn.out; simp; omega) (by have := HBs.out; simp; omega) ?_; intro v1 z1 ho1 hb1)
            have HY := Lib.hid (And.intro ho1 ((HA.out.2.2.alloc HBs.out _).trans hb1))
            clear ho1 hb1
            go_roundw
            case rel => exact ⟨k + 1, 1, (out ++ [arg]), true, by omega, by go_num, rfl, rfl, HP.out, HY.out.1, HY.out.2⟩
            case measure => simp [intOf]; omega
          · have hst : passStep 7 arg (was, out, true) x = (1, out, true) := by
              unfold passStep
              simp [q0]
            rw [hst] at hps
            have HP := Lib.hid hps
            clear hps hst q0
            go_wp2_with fail
            go_roundw
            case rel => exact ⟨k + 1, 1, out, true, by omega, by go_num, rfl, rfl, HP.out, HA.out.2.1, HA.out.2.2⟩
            case measure => simp [intOf]; omega
        · cases put
          · have hst : passStep 7 arg (was, out, false) x = (was, ((out ++ [arg]) ++ [x]), true) := by
              unfold passStep
              simp [show ¬ x = arg by omega, show arg ≤ x by omega]
            rw [hst] at hps
            have HP := Lib.hid hps
            clear hps hst q0
            go_wp2_with (first | (at_builtin; refine wpList_app_int rfl (.tmp 119) (.tmp 121) rfl w.heap.size wr.heap.size _ _ arg rfl rfl (HA.out.2.1.alloc (.cells #[.int .i64 arg] 3)) (new_int wr 3 arg) (by have := HLn.out; simp; omega) (by have := HBs.out; simp; omega) ?_; intro v1 z1 ho1 hb1) | (at_builtin; refine wpList_app_int rfl (.tmp 130) (.tmp 132) rfl w.heap.size z1.heap.size _ _ x rfl rfl (ho1.alloc (.cells #[.int .i64 x] 3)) (new_int z1 3 x) (by have := HLn.out; simp; omega) (by have h1 := HBs.out; have h2 := hb1.size; simp at h2 ⊢; omega) ?_; intro v2 z2 ho2 hb2))
            have HX := Lib.hid ((HA.out.2.2.alloc HBs.out _).trans hb1)
            have HY := Lib.hid (And.intro ho2 ((HX.out.alloc HX.out.size _).trans hb2))
            clear ho1 hb1 ho2 hb2
            go_roundw
            case rel => exact ⟨k + 1, was, ((out ++ [arg]) ++ [x]), true, by omega, by go_num, rfl, rfl, HP.out, HY.out.1, HY.out.2⟩
            case measure => simp [intOf]; omega
          · have hst : passStep 7 arg (was, out, true) x = (was, (out ++ [x]), true) := by
              unfold passStep
              simp [show ¬ x = arg by omega]
            rw [hst] at hps
            have HP := Lib.hid hps
            clear hps hst q0
            go_wp2_with (at_builtin; refine wpList_app_int rfl (.tmp 130) (.tmp 132) rfl w.heap.size wr.heap.size _ _ x rfl rfl (HA.out.2.1.alloc (.cells #[.int .i64 x] 3)) (new_int wr 3 x) (by have := HLn.out; simp; omega) (by have := HBs.out; simp; omega) ?_; intro v1 z1 ho1 hb1)
            have HY := Lib.hid (And.intro ho1 ((HA.out.2.2.alloc HBs.out _).trans hb1))
            clear ho1 hb1
            go_roundw
            case rel => exact ⟨k + 1, was, (out ++ [x]), true, by omega, by go_num, rfl, rfl, HP.out, HY.out.1, HY.out.2⟩
            case measure => simp [intOf]; omega
      · obtain rfl : k = L := by omega
        have e : pass 7 arg (0, [], false) l = (was, out, put) := by rw [← hp, HLL.out, List.take_length]
        have HE := Lib.hid e
        have h01 := pass_was 7 arg l (0, [], false)
        rw [e] at h01
        have hw0 : 0 ≤ was := by simp only at h01; split at h01 <;> omega
        have hw1 : was ≤ 1 := by simp only at h01; split at h01 <;> omega
        clear e hp ho hB hk h01
        cases put
        · go_wp2_with (at_builtin; refine wpList_app_int rfl (.tmp 137) (.tmp 139) rfl w.heap.size wr.heap.size _ _ arg rfl rfl (HA.out.2.1.alloc (.cells #[.int .i64 arg] 3)) (new_int wr 3 arg) (by have := HLn.out; simp; omega) (by have := HBs.out; simp; omega) ?_; intro v1 z1 ho1 hb1)
          go_ret3
          rw [HE.out]
          exact ⟨_, rfl, ho1.rd, (HA.out.2.2.alloc HBs.out _).trans hb1⟩
        · go_wp2_with fail
          go_ret3
          rw [HE.out]
          exact ⟨_, rfl, HA.out.2.1.rd, HA.out.2.2⟩
end Go.Proofs.YtfgangkpebkicaaGreatDoor
