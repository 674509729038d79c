/-
  Joined by a program out of: RefSet, RefAny, Played.
-/
import Derived.Test.YtfgangkpebkicaaDoorMgAS
import Derived.Test.YtfgangkpebkicaaDoorMgAV
import Derived.Test.YtfgangkpebkicaaDoorMgAM
import Derived.Test.YtfgangkpebkicaaDoorMgAG

/-
  Contract of the reference's Stepped: sets.
-/
namespace Go.Proofs.YtfgangkpebkicaaDoor
open Go.RowKit
set_option maxRecDepth 20000
theorem pass_take {l : List Int} {k : Nat} {x : Int} (hx : l[k]? = some x) (q a : Int) (st : PassS) : pass q a st (l.take (k + 1)) = passStep q a (pass q a st (l.take k)) x := by
  rw [List.take_add_one, hx]
  exact pass_snoc q a st _ x
theorem row_ways (x a : Int) : (x < a ∧ (x == a) = false ∧ (x != a) = true ∧ decide (a ≤ x) = false ∧ ¬ a ≤ x) ∨ (x = a ∧ (x == a) = true ∧ (x != a) = false ∧ decide (a ≤ x) = true ∧ a ≤ x) ∨ (a < x ∧ (x == a) = false ∧ (x != a) = true ∧ decide (a ≤ x) = true ∧ a ≤ x) := by
  simp only [beq_eq_false_iff_ne, beq_iff_eq, bne_iff_ne, bne_eq_false_iff_eq, decide_eq_true_eq, decide_eq_false_iff_not]
  omega
set_option maxHeartbeats 8000000 in
theorem ref9 {v : Value} {l : List Int} {w : World} (hr : NRd w w.heap.size v l) (arg : Int) (hn : l.length ≤ 50) (hs : l.Pairwise (· < ·)) : Calls Tryd.prog 46 #[v, .int .i64 9, .int .i64 arg] w (RefPost w (stepped l 9 arg)) := by
  obtain ⟨A, cap, rfl, m1, m2⟩ := hr.is
  unfold maxLen at m2
  have HR := Lib.hid hr
  have HN := Lib.hid hn
  obtain ⟨L, hL⟩ : ∃ L, L = l.length := ⟨_, rfl⟩
  have HLL := Lib.hid hL
  have hp := pass_stepped hs 9 arg (by omega) (fun h => by omega)
  rw [hp]
  have HF := Lib.hid (fun k => pass_len 9 arg (l.take k) (0, [], true))
  rw [show ((9 : Int) != 7) = true from rfl]
  clear hp hs
  clear hr hn
  rw [← hL] at m1 ⊢
  clear hL
  go_enter Tryd.func46, Tryd.ntmps46
  go_wp2_with fail
  go_loopw [11, 12, 13, 105] (fun ws os ps i wr => ∃ (k : Nat) (was : Int) (out : List Int) (put : Bool), k ≤ L ∧ i = .int .i64 k ∧ ws = .int .i64 was ∧ ps = .bool put ∧ pass 9 arg (0, [], true) (l.take k) = (was, out, put) ∧ NOwn wr w.heap.size os out ∧ Below w.heap.size w wr) (fun _ _ _ i _ => L - (intOf i).toNat)
  case atStart => exact ⟨0, 0, [], true, by omega, rfl, rfl, rfl, rfl, NOwn.nil _ _, Below.refl _ _⟩
  case round =>
    obtain ⟨k, was, out, put, hk, rfl, rfl, rfl, hp, ho, hB⟩ := hrel
    have HA := Lib.hid (And.intro hp (And.intro ho hB))
    have HLn := Lib.hid (show out.length ≤ 100 by
      have h1 := HF.out k
      rw [hp] at h1
      simp only [List.length_nil, List.length_take] at h1
      have := HN.out
      omega)
    have HBs := Lib.hid hB.size
    by_cases hkL : k < L
    · obtain ⟨x, hx⟩ : ∃ x, l[k]? = some x := ⟨_, List.getElem?_eq_getElem (by rw [← HLL.out]; exact hkL)⟩
      have hr' := HR.out.below hB
      rw [← HLL.out] at hr'
      obtain ⟨g, o, rfl, hg, d0⟩ := hr'.num hx
      have hps := pass_take hx 9 arg (0, [], true)
      rw [hp] at hps
      have i1 : (0 : Int) ≤ (k : Int) := by omega
      have i2 : (k : Int) < (L : Int) := by omega
      clear hr' hx hp ho hB
      rcases row_ways x arg with ⟨q0, q1, q2, q3, q4⟩ | ⟨q0, q1, q2, q3, q4⟩ | ⟨q0, q1, q2, q3, q4⟩
      · cases put
        · have hst : passStep 9 arg (was, out, false) x = (was, (out ++ [x]), false) := by
            unfold passStep
            simp [show ¬ x = arg by omega, show ¬ arg ≤ x by omega]
          rw [hst] at hps
          have HP := Lib.hid hps
          clear hps hst q0
          go_wp2_with (at_builtin; refine wpList_app_int rfl (.tmp 130) (.tmp 132) rfl w.heap.size wr.heap.size _ _ x rfl rfl (HA.out.2.1.alloc (.cells #[.int .i64 x] 3)) (new_int wr 3 x) (by have := HLn.out; simp; omega) (by have := HBs.out; simp; omega) ?_; intro v1 z1 ho1 hb1)
          have HY := Lib.hid (And.intro ho1 ((HA.out.2.2.alloc HBs.out _).trans hb1))
          clear ho1 hb1
          go_roundw
          case rel => exact ⟨k + 1, was, (out ++ [x]), false, by omega, by go_num, rfl, rfl, HP.out, HY.out.1, HY.out.2⟩
          case measure => simp [intOf]; omega
        · have hst : passStep 9 arg (was, out, true) x = (was, (out ++ [x]), true) := by
            unfold passStep
            simp [show ¬ x = arg by omega]
          rw [hst] at hps
          have HP := Lib.hid hps
          clear hps hst q0
          go_wp2_with (at_builtin; refine wpList_app_int rfl (.tmp 130) (.tmp 132) rfl w.heap.size wr.heap.size _ _ x rfl rfl (HA.out.2.1.alloc (.cells #[.int .i64 x] 3)) (new_int wr 3 x) (by have := HLn.out; simp; omega) (by have := HBs.out; simp; omega) ?_; intro v1 z1 ho1 hb1)
          have HY := Lib.hid (And.intro ho1 ((HA.out.2.2.alloc HBs.out _).trans hb1))
          clear ho1 hb1
          go_roundw
          case rel => exact ⟨k + 1, was, (out ++ [x]), true, by omega, by go_num, rfl, rfl, HP.out, HY.out.1, HY.out.2⟩
          case measure => simp [intOf]; omega
      · cases put
        · have hst : passStep 9 arg (was, out, false) x = (1, ((out ++ [arg]) ++ [x]), true) := by
            unfold passStep
            simp [q0]
          rw [hst] at hps
          have HP := Lib.hid hps
          clear hps hst q0
          go_wp2_with (first | (at_builtin; refine wpList_app_int rfl (.tmp 119) (.tmp 121) rfl w.heap.size wr.heap.size _ _ arg rfl rfl (HA.out.2.1.alloc (.cells #[.int .i64 arg] 3)) (new_int wr 3 arg) (by have := HLn.out; simp; omega) (by have := HBs.out; simp; omega) ?_; intro v1 z1 ho1 hb1) | (at_builtin; refine wpList_app_int rfl (.tmp 130) (.tmp 132) rfl w.heap.size z1.heap.size _ _ x rfl rfl (ho1.alloc (.cells #[.int .i64 x] 3)) (new_int z1 3 x) (by have := HLn.out; simp; omega) (by have h1 := HBs.out; have h2 := hb1.size; simp at h2 ⊢; omega) ?_; intro v2 z2 ho2 hb2))
          have HX := Lib.hid ((HA.out.2.2.alloc HBs.out _).trans hb1)
          have HY := Lib.hid (And.intro ho2 ((HX.out.alloc HX.out.size _).trans hb2))
          clear ho1 hb1 ho2 hb2
          go_roundw
          case rel => exact ⟨k + 1, 1, ((out ++ [arg]) ++ [x]), true, by omega, by go_num, rfl, rfl, HP.out, HY.out.1, HY.out.2⟩
          case measure => simp [intOf]; omega
        · have hst : passStep 9 arg (was, out, true) x = (1, (out ++ [x]), true) := by
            unfold passStep
            simp [q0]
          rw [hst] at hps
          have HP := Lib.hid hps
          clear hps hst q0
          go_wp2_with (at_builtin; refine wpList_app_int rfl (.tmp 130) (.tmp 132) rfl w.heap.size wr.heap.size _ _ x rfl rfl (HA.out.2.1.alloc (.cells #[.int .i64 x] 3)) (new_int wr 3 x) (by have := HLn.out; simp; omega) (by have := HBs.out; simp; omega) ?_; intro v1 z1 ho1 hb1)
          have HY := Lib.hid (And.intro ho1 ((HA.out.2.2.alloc HBs.out _).trans hb1))
          clear ho1 hb1
          go_roundw
          case rel => exact ⟨k + 1, 1, (out ++ [x]), true, by omega, by go_num, rfl, rfl, HP.out, HY.out.1, HY.out.2⟩
          case measure => simp [intOf]; omega
      · cases put
        · have hst : passStep 9 arg (was, out, false) x = (was, ((out ++ [arg]) ++ [x]), true) := by
            unfold passStep
            simp [show ¬ x = arg by omega, show arg ≤ x by omega]
          rw [hst] at hps
          have HP := Lib.hid hps
          clear hps hst q0
          go_wp2_with (first | (at_builtin; refine wpList_app_int rfl (.tmp 119) (.tmp 121) rfl w.heap.size wr.heap.size _ _ arg rfl rfl (HA.out.2.1.alloc (.cells #[.int .i64 arg] 3)) (new_int wr 3 arg) (by have := HLn.out; simp; omega) (by have := HBs.out; simp; omega) ?_; intro v1 z1 ho1 hb1) | (at_builtin; refine wpList_app_int rfl (.tmp 130) (.tmp 132) rfl w.heap.size z1.heap.size _ _ x rfl rfl (ho1.alloc (.cells #[.int .i64 x] 3)) (new_int z1 3 x) (by have := HLn.out; simp; omega) (by have h1 := HBs.out; have h2 := hb1.size; simp at h2 ⊢; omega) ?_; intro v2 z2 ho2 hb2))
          have HX := Lib.hid ((HA.out.2.2.alloc HBs.out _).trans hb1)
          have HY := Lib.hid (And.intro ho2 ((HX.out.alloc HX.out.size _).trans hb2))
          clear ho1 hb1 ho2 hb2
          go_roundw
          case rel => exact ⟨k + 1, was, ((out ++ [arg]) ++ [x]), true, by omega, by go_num, rfl, rfl, HP.out, HY.out.1, HY.out.2⟩
          case measure => simp [intOf]; omega
        · have hst : passStep 9 arg (was, out, true) x = (was, (out ++ [x]), true) := by
            unfold passStep
            simp [show ¬ x = arg by omega]
          rw [hst] at hps
          have HP := Lib.hid hps
          clear hps hst q0
          go_wp2_with (at_builtin; refine wpList_app_int rfl (.tmp 130) (.tmp 132) rfl w.heap.size wr.heap.size _ _ x rfl rfl (HA.out.2.1.alloc (.cells #[.int .i64 x] 3)) (new_int wr 3 x) (by have := HLn.out; simp; omega) (by have := HBs.out; simp; omega) ?_; intro v1 z1 ho1 hb1)
          have HY := Lib.hid (And.intro ho1 ((HA.out.2.2.alloc HBs.out _).trans hb1))
          clear ho1 hb1
          go_roundw
          case rel => exact ⟨k + 1, was, (out ++ [x]), true, by omega, by go_num, rfl, rfl, HP.out, HY.out.1, HY.out.2⟩
          case measure => simp [intOf]; omega
    · obtain rfl : k = L := by omega
      have e : pass 9 arg (0, [], true) l = (was, out, put) := by rw [← hp, HLL.out, List.take_length]
      have HE := Lib.hid e
      clear e hp ho hB hk
      cases put
      · go_wp2_with (at_builtin; refine wpList_app_int rfl (.tmp 137) (.tmp 139) rfl w.heap.size wr.heap.size _ _ arg rfl rfl (HA.out.2.1.alloc (.cells #[.int .i64 arg] 3)) (new_int wr 3 arg) (by have := HLn.out; simp; omega) (by have := HBs.out; simp; omega) ?_; intro v1 z1 ho1 hb1)
        go_ret3
        rw [HE.out]
        exact ⟨_, rfl, ho1.rd, (HA.out.2.2.alloc HBs.out _).trans hb1⟩
      · go_wp2_with fail
        go_ret3
        rw [HE.out]
        exact ⟨_, rfl, HA.out.2.1.rd, HA.out.2.2⟩
set_option maxHeartbeats 8000000 in
theorem ref8 {v : Value} {l : List Int} {w : World} (hr : NRd w w.heap.size v l) (arg : Int) (hn : l.length ≤ 50) (hs : l.Pairwise (· < ·)) : Calls Tryd.prog 46 #[v, .int .i64 8, .int .i64 arg] w (RefPost w (stepped l 8 arg)) := by
  obtain ⟨A, cap, rfl, m1, m2⟩ := hr.is
  unfold maxLen at m2
  have HR := Lib.hid hr
  have HN := Lib.hid hn
  obtain ⟨L, hL⟩ : ∃ L, L = l.length := ⟨_, rfl⟩
  have HLL := Lib.hid hL
  have hp := pass_stepped hs 8 arg (by omega) (fun h => by omega)
  rw [hp]
  have HF := Lib.hid (fun k => pass_len 8 arg (l.take k) (0, [], true))
  rw [show ((8 : Int) != 7) = true from rfl]
  clear hp hs
  clear hr hn
  rw [← hL] at m1 ⊢
  clear hL
  go_enter Tryd.func46, Tryd.ntmps46
  go_wp2_with fail
  go_loopw [11, 12, 13, 105] (fun ws os ps i wr => ∃ (k : Nat) (was : Int) (out : List Int) (put : Bool), k ≤ L ∧ i = .int .i64 k ∧ ws = .int .i64 was ∧ ps = .bool put ∧ pass 8 arg (0, [], true) (l.take k) = (was, out, put) ∧ NOwn wr w.heap.size os out ∧ Below w.heap.size w wr) (fun _ _ _ i _ => L - (intOf i).toNat)
  case atStart => exact ⟨0, 0, [], true, by omega, rfl, rfl, rfl, rfl, NOwn.nil _ _, Below.refl _ _⟩
  case round =>
    obtain ⟨k, was, out, put, hk, rfl, rfl, rfl, hp, ho, hB⟩ := hrel
    have HA := Lib.hid (And.intro hp (And.intro ho hB))
    have HLn := Lib.hid (show out.length ≤ 100 by
      have h1 := HF.out k
      rw [hp] at h1
      simp only [List.length_nil, List.length_take] at h1
      have := HN.out
      omega)
    have HBs := Lib.hid hB.size
    by_cases hkL : k < L
    · obtain ⟨x, hx⟩ : ∃ x, l[k]? = some x := ⟨_, List.getElem?_eq_getElem (by rw [← HLL.out]; exact hkL)⟩
      have hr' := HR.out.below hB
      rw [← HLL.out] at hr'
      obtain ⟨g, o, rfl, hg, d0⟩ := hr'.num hx
      have hps := pass_take hx 8 arg (0, [], true)
      rw [hp] at hps
      have i1 : (0 : Int) ≤ (k : Int) := by omega
      have i2 : (k : Int) < (L : Int) := by omega
      clear hr' hx hp ho hB
      rcases row_ways x arg with ⟨q0, q1, q2, q3, q4⟩ | ⟨q0, q1, q2, q3, q4⟩ | ⟨q0, q1, q2, q3, q4⟩
      · cases put
        · have hst : passStep 8 arg (was, out, false) x = (was, (out ++ [x]), false) := by
            unfold passStep
            simp [show ¬ x = arg by omega, show ¬ arg ≤ x by omega]
          rw [hst] at hps
          have HP := Lib.hid hps
          clear hps hst q0
          go_wp2_with (at_builtin; refine wpList_app_int rfl (.tmp 130) (.tmp 132) rfl w.heap.size wr.heap.size _ _ x rfl rfl (HA.out.2.1.alloc (.cells #[.int .i64 x] 3)) (new_int wr 3 x) (by have := HLn.out; simp; omega) (by have := HBs.out; simp; omega) ?_; intro v1 z1 ho1 hb1)
          have HY := Lib.hid (And.intro ho1 ((HA.out.2.2.alloc HBs.out _).trans hb1))
          clear ho1 hb1
          go_roundw
          case rel => exact ⟨k + 1, was, (out ++ [x]), false, by omega, by go_num, rfl, rfl, HP.out, HY.out.1, HY.out.2⟩
          case measure => simp [intOf]; omega
        · have hst : passStep 8 arg (was, out, true) x = (was, (out ++ [x]), true) := by
            unfold passStep
            simp [show ¬ x = arg by omega]
          rw [hst] at hps
          have HP := Lib.hid hps
          clear hps hst q0
          go_wp2_with (at_builtin; refine wpList_app_int rfl (.tmp 130) (.tmp 132) rfl w.heap.size wr.heap.size _ _ x rfl rfl (HA.out.2.1.alloc (.cells #[.int .i64 x] 3)) (new_int wr 3 x) (by have := HLn.out; simp; omega) (by have := HBs.out; simp; omega) ?_; intro v1 z1 ho1 hb1)
          have HY := Lib.hid (And.intro ho1 ((HA.out.2.2.alloc HBs.out _).trans hb1))
          clear ho1 hb1
          go_roundw
          case rel => exact ⟨k + 1, was, (out ++ [x]), true, by omega, by go_num, rfl, rfl, HP.out, HY.out.1, HY.out.2⟩
          case measure => simp [intOf]; omega
      · cases put
        · have hst : passStep 8 arg (was, out, false) x = (1, (out ++ [arg]), true) := by
            unfold passStep
            simp [q0]
          rw [hst] at hps
          have HP := Lib.hid hps
          clear hps hst q0
          go_wp2_with (at_builtin; refine wpList_app_int rfl (.tmp 119) (.tmp 121) rfl w.heap.size wr.heap.size _ _ arg rfl rfl (HA.out.2.1.alloc (.cells #[.int .i64 arg] 3)) (new_int wr 3 arg) (by have := HLn.out; simp; omega) (by have := HBs.out; simp; omega) ?_; intro v1 z1 ho1 hb1)
          have HY := Lib.hid (And.intro ho1 ((HA.out.2.2.alloc HBs.out _).trans hb1))
          clear ho1 hb1
          go_roundw
          case rel => exact ⟨k + 1, 1, (out ++ [arg]), true, by omega, by go_num, rfl, rfl, HP.out, HY.out.1, HY.out.2⟩
          case measure => simp [intOf]; omega
        · have hst : passStep 8 arg (was, out, true) x = (1, out, true) := by
            unfold passStep
            simp [q0]
          rw [hst] at hps
          have HP := Lib.hid hps
          clear hps hst q0
          go_wp2_with fail
          go_roundw
          case rel => exact ⟨k + 1, 1, out, true, by omega, by go_num, rfl, rfl, HP.out, HA.out.2.1, HA.out.2.2⟩
          case measure => simp [intOf]; omega
      · cases put
        · have hst : passStep 8 arg (was, out, false) x = (was, ((out ++ [arg]) ++ [x]), true) := by
            unfold passStep
            simp [show ¬ x = arg by omega, show arg ≤ x by omega]
          rw [hst] at hps
          have HP := Lib.hid hps
          clear hps hst q0
          go_wp2_with (first | (at_builtin; refine wpList_app_int rfl (.tmp 119) (.tmp 121) rfl w.heap.size wr.heap.size _ _ arg rfl rfl (HA.out.2.1.alloc (.cells #[.int .i64 arg] 3)) (new_int wr 3 arg) (by have := HLn.out; simp; omega) (by have := HBs.out; simp; omega) ?_; intro v1 z1 ho1 hb1) | (at_builtin; refine wpList_app_int rfl (.tmp 130) (.tmp 132) rfl w.heap.size z1.heap.size _ _ x rfl rfl (ho1.alloc (.cells #[.int .i64 x] 3)) (new_int z1 3 x) (by have := HLn.out; simp; omega) (by have h1 := HBs.out; have h2 := hb1.size; simp at h2 ⊢; omega) ?_; intro v2 z2 ho2 hb2))
          have HX := Lib.hid ((HA.out.2.2.alloc HBs.out _).trans hb1)
          have HY := Lib.hid (And.intro ho2 ((HX.out.alloc HX.out.size _).trans hb2))
          clear ho1 hb1 ho2 hb2
          go_roundw
          case rel => exact ⟨k + 1, was, ((out ++ [arg]) ++ [x]), true, by omega, by go_num, rfl, rfl, HP.out, HY.out.1, HY.out.2⟩
          case measure => simp [intOf]; omega
        · have hst : passStep 8 arg (was, out, true) x = (was, (out ++ [x]), true) := by
            unfold passStep
            simp [show ¬ x = arg by omega]
          rw [hst] at hps
          have HP := Lib.hid hps
          clear hps hst q0
          go_wp2_with (at_builtin; refine wpList_app_int rfl (.tmp 130) (.tmp 132) rfl w.heap.size wr.heap.size _ _ x rfl rfl (HA.out.2.1.alloc (.cells #[.int .i64 x] 3)) (new_int wr 3 x) (by have := HLn.out; simp; omega) (by have := HBs.out; simp; omega) ?_; intro v1 z1 ho1 hb1)
          have HY := Lib.hid (And.intro ho1 ((HA.out.2.2.alloc HBs.out _).trans hb1))
          clear ho1 hb1
          go_roundw
          case rel => exact ⟨k + 1, was, (out ++ [x]), true, by omega, by go_num, rfl, rfl, HP.out, HY.out.1, HY.out.2⟩
          case measure => simp [intOf]; omega
    · obtain rfl : k = L := by omega
      have e : pass 8 arg (0, [], true) l = (was, out, put) := by rw [← hp, HLL.out, List.take_length]
      have HE := Lib.hid e
      clear e hp ho hB hk
      cases put
      · go_wp2_with (at_builtin; refine wpList_app_int rfl (.tmp 137) (.tmp 139) rfl w.heap.size wr.heap.size _ _ arg rfl rfl (HA.out.2.1.alloc (.cells #[.int .i64 arg] 3)) (new_int wr 3 arg) (by have := HLn.out; simp; omega) (by have := HBs.out; simp; omega) ?_; intro v1 z1 ho1 hb1)
        go_ret3
        rw [HE.out]
        exact ⟨_, rfl, ho1.rd, (HA.out.2.2.alloc HBs.out _).trans hb1⟩
      · go_wp2_with fail
        go_ret3
        rw [HE.out]
        exact ⟨_, rfl, HA.out.2.1.rd, HA.out.2.2⟩
set_option maxHeartbeats 8000000 in
theorem ref7 {v : Value} {l : List Int} {w : World} (hr : NRd w w.heap.size v l) (arg : Int) (hn : l.length ≤ 50) (hs : l.Pairwise (· < ·)) : Calls Tryd.prog 46 #[v, .int .i64 7, .int .i64 arg] w (RefPost w (stepped l 7 arg)) := by
  obtain ⟨A, cap, rfl, m1, m2⟩ := hr.is
  unfold maxLen at m2
  have HR := Lib.hid hr
  have HN := Lib.hid hn
  obtain ⟨L, hL⟩ : ∃ L, L = l.length := ⟨_, rfl⟩
  have HLL := Lib.hid hL
  have hc := containsN_any hr arg
  by_cases hfull : arg ∉ l ∧ l.length = 50
  · have e : stepped l 7 arg = ([], 0, 2) := by
      unfold stepped
      rw [if_neg (by decide), if_neg (by decide), if_neg (by decide), if_neg (by decide), if_neg (by decide), if_neg (by decide), if_pos rfl, if_neg hfull.1, if_pos hfull.2]
    rw [e]
    rw [decide_eq_false hfull.1] at hc
    have HC := Lib.hid hc
    have hz : ((l.length : Int) == 50) = true := by rw [beq_iff_eq]; omega
    clear hr hn hs hc hfull e
    go_enter Tryd.func46, Tryd.ntmps46
    go_wp2_with fail
    refine HC.out.mono ?_
    rintro e w1 ⟨rfl, hb1⟩
    have H1 := Lib.hid hb1
    clear hb1
    go_wp2_with fail
    go_ret3
    exact ⟨_, rfl, LRd.nil _ _, H1.out⟩
  have hp := pass_stepped hs 7 arg (by omega) (fun h => hfull ⟨h.2.1, h.2.2⟩)
  rw [hp]
  have HF := Lib.hid (fun k => pass_len 7 arg (l.take k) (0, [], false))
  rw [show ((7 : Int) != 7) = false from rfl]
  clear hp hs
  have hcont : Calls Tryd.prog 26 #[.slice A l.length cap, .int .i64 arg] w fun e w' => (e = .returned (.bool true) ∨ (e = .returned (.bool false) ∧ ((l.length : Int) == 50) = false)) ∧ Below w.heap.size w w' := hc.mono fun e w' ⟨he, hb⟩ => by
    refine ⟨?_, hb⟩
    by_cases hm : arg ∈ l
    · rw [decide_eq_true hm] at he
      exact .inl he
    · rw [decide_eq_false hm] at he
      refine .inr ⟨he, ?_⟩
      rw [beq_eq_false_iff_ne]
      intro h50
      exact hfull ⟨hm, by omega⟩
  have HC := Lib.hid hcont
  clear hc hcont hfull
  clear hr hn
  rw [← hL] at m1 ⊢
  rw [← hL] at HC
  clear hL
  go_enter Tryd.func46, Tryd.ntmps46
  go_wp2_with fail
  refine HC.out.mono ?_
  rintro e w1 ⟨he, hb1⟩
  have HB1 := Lib.hid hb1
  clear hb1 HC
  rcases he with rfl | ⟨rfl, hz⟩
  all_goals
    go_wp2_with fail
    go_loopw [11, 12, 13, 105] (fun ws os ps i wr => ∃ (k : Nat) (was : Int) (out : List Int) (put : Bool), k ≤ L ∧ i = .int .i64 k ∧ ws = .int .i64 was ∧ ps = .bool put ∧ pass 7 arg (0, [], false) (l.take k) = (was, out, put) ∧ NOwn wr w.heap.size os out ∧ Below w.heap.size w wr) (fun _ _ _ i _ => L - (intOf i).toNat)
    case atStart => exact ⟨0, 0, [], false, by omega, rfl, rfl, rfl, rfl, NOwn.nil _ _, HB1.out⟩
    case round =>
      obtain ⟨k, was, out, put, hk, rfl, rfl, rfl, hp, ho, hB⟩ := hrel
      have HA := Lib.hid (And.intro hp (And.intro ho hB))
      have HLn := Lib.hid (show out.length ≤ 100 by
        have h1 := HF.out k
        rw [hp] at h1
        simp only [List.length_nil, List.length_take] at h1
        have := HN.out
        omega)
      have HBs := Lib.hid hB.size
      by_cases hkL : k < L
      · obtain ⟨x, hx⟩ : ∃ x, l[k]? = some x := ⟨_, List.getElem?_eq_getElem (by rw [← HLL.out]; exact hkL)⟩
        have hr' := HR.out.below hB
        rw [← HLL.out] at hr'
        obtain ⟨g, o, rfl, hg, d0⟩ := hr'.num hx
        have hps := pass_take hx 7 arg (0, [], false)
        rw [hp] at hps
        have i1 : (0 : Int) ≤ (k : Int) := by omega
        have i2 : (k : Int) < (L : Int) := by omega
        clear hr' hx hp ho hB
        rcases row_ways x arg with ⟨q0, q1, q2, q3, q4⟩ | ⟨q0, q1, q2, q3, q4⟩ | ⟨q0, q1, q2, q3, q4⟩
        · cases put
          · have hst : passStep 7 arg (was, out, false) x = (was, (out ++ [x]), false) := by
              unfold passStep
              simp [show ¬ x = arg by omega, show ¬ arg ≤ x by omega]
            rw [hst] at hps
            have HP := Lib.hid hps
            clear hps hst q0
            go_wp2_with (at_builtin; refine wpList_app_int rfl (.tmp 130) (.tmp 132) rfl w.heap.size wr.heap.size _ _ x rfl rfl (HA.out.2.1.alloc (.cells #[.int .i64 x] 3)) (new_int wr 3 x) (by have := HLn.out; simp; omega) (by have := HBs.out; simp; omega) ?_; intro v1 z1 ho1 hb1)
            have HY := Lib.hid (And.intro ho1 ((HA.out.2.2.alloc HBs.out _).trans hb1))
            clear ho1 hb1
            go_roundw
            case rel => exact ⟨k + 1, was, (out ++ [x]), false, by omega, by go_num, rfl, rfl, HP.out, HY.out.1, HY.out.2⟩
            case measure => simp [intOf]; omega
          · have hst : passStep 7 arg (was, out, true) x = (was, (out ++ [x]), true) := by
              unfold passStep
              simp [show ¬ x = arg by omega]
            rw [hst] at hps
            have HP := Lib.hid hps
            clear hps hst q0
            go_wp2_with (at_builtin; refine wpList_app_int rfl (.tmp 130) (.tmp 132) rfl w.heap.size wr.heap.size _ _ x rfl rfl (HA.out.2.1.alloc (.cells #[.int .i64 x] 3)) (new_int wr 3 x) (by have := HLn.out; simp; omega) (by have := HBs.out; simp; omega) ?_; intro v1 z1 ho1 hb1)
            have HY := Lib.hid (And.intro ho1 ((HA.out.2.2.alloc HBs.out _).trans hb1))
            clear ho1 hb1
            go_roundw
            case rel => exact ⟨k + 1, was, (out ++ [x]), true, by omega, by go_num, rfl, rfl, HP.out, HY.out.1, HY.out.2⟩
            case measure => simp [intOf]; omega
        · cases put
          · have hst : passStep 7 arg (was, out, false) x = (1, (out ++ [arg]), true) := by
              unfold passStep
              simp [q0]
            rw [hst] at hps
            have HP := Lib.hid hps
            clear hps hst q0
            go_wp2_with (at_builtin; refine wpList_app_int rfl (.tmp 119) (.tmp 121) rfl w.heap.size wr.heap.size _ _ arg rfl rfl (HA.out.2.1.alloc (.cells #[.int .i64 arg] 3)) (new_int wr 3 arg) (by have := HLn.out; simp; omega) (by have := HBs.out; simp; omega) ?_; intro v1 z1 ho1 hb1)
            have HY := Lib.hid (And.intro ho1 ((HA.out.2.2.alloc HBs.out _).trans hb1))
            clear ho1 hb1
            go_roundw
            case rel => exact ⟨k + 1, 1, (out ++ [arg]), true, by omega, by go_num, rfl, rfl, HP.out, HY.out.1, HY.out.2⟩
            case measure => simp [intOf]; omega
          · have hst : passStep 7 arg (was, out, true) x = (1, out, true) := by
              unfold passStep
              simp [q0]
            rw [hst] at hps
            have HP := Lib.hid hps
            clear hps hst q0
            go_wp2_with fail
            go_roundw
            case rel => exact ⟨k + 1, 1, out, true, by omega, by go_num, rfl, rfl, HP.out, HA.out.2.1, HA.out.2.2⟩
            case measure => simp [intOf]; omega
        · cases put
          · have hst : passStep 7 arg (was, out, false) x = (was, ((out ++ [arg]) ++ [x]), true) := by
              unfold passStep
              simp [show ¬ x = arg by omega, show arg ≤ x by omega]
            rw [hst] at hps
            have HP := Lib.hid hps
            clear hps hst q0
            go_wp2_with (first | (at_builtin; refine wpList_app_int rfl (.tmp 119) (.tmp 121) rfl w.heap.size wr.heap.size _ _ arg rfl rfl (HA.out.2.1.alloc (.cells #[.int .i64 arg] 3)) (new_int wr 3 arg) (by have := HLn.out; simp; omega) (by have := HBs.out; simp; omega) ?_; intro v1 z1 ho1 hb1) | (at_builtin; refine wpList_app_int rfl (.tmp 130) (.tmp 132) rfl w.heap.size z1.heap.size _ _ x rfl rfl (ho1.alloc (.cells #[.int .i64 x] 3)) (new_int z1 3 x) (by have := HLn.out; simp; omega) (by have h1 := HBs.out; have h2 := hb1.size; simp at h2 ⊢; omega) ?_; intro v2 z2 ho2 hb2))
            have HX := Lib.hid ((HA.out.2.2.alloc HBs.out _).trans hb1)
            have HY := Lib.hid (And.intro ho2 ((HX.out.alloc HX.out.size _).trans hb2))
            clear ho1 hb1 ho2 hb2
            go_roundw
            case rel => exact ⟨k + 1, was, ((out ++ [arg]) ++ [x]), true, by omega, by go_num, rfl, rfl, HP.out, HY.out.1, HY.out.2⟩
            case measure => simp [intOf]; omega
          · have hst : passStep 7 arg (was, out, true) x = (was, (out ++ [x]), true) := by
              unfold passStep
              simp [show ¬ x = arg by omega]
            rw [hst] at hps
            have HP := Lib.hid hps
            clear hps hst q0
            go_wp2_with (at_builtin; refine wpList_app_int rfl (.tmp 130) (.tmp 132) rfl w.heap.size wr.heap.size _ _ x rfl rfl (HA.out.2.1.alloc (.cells #[.int .i64 x] 3)) (new_int wr 3 x) (by have := HLn.out; simp; omega) (by have := HBs.out; simp; omega) ?_; intro v1 z1 ho1 hb1)
            have HY := Lib.hid (And.intro ho1 ((HA.out.2.2.alloc HBs.out _).trans hb1))
            clear ho1 hb1
            go_roundw
            case rel => exact ⟨k + 1, was, (out ++ [x]), true, by omega, by go_num, rfl, rfl, HP.out, HY.out.1, HY.out.2⟩
            case measure => simp [intOf]; omega
      · obtain rfl : k = L := by omega
        have e : pass 7 arg (0, [], false) l = (was, out, put) := by rw [← hp, HLL.out, List.take_length]
        have HE := Lib.hid e
        have h01 := pass_was 7 arg l (0, [], false)
        rw [e] at h01
        have hw0 : 0 ≤ was := by simp only at h01; split at h01 <;> omega
        have hw1 : was ≤ 1 := by simp only at h01; split at h01 <;> omega
        clear e hp ho hB hk h01
        cases put
        · go_wp2_with (at_builtin; refine wpList_app_int rfl (.tmp 137) (.tmp 139) rfl w.heap.size wr.heap.size _ _ arg rfl rfl (HA.out.2.1.alloc (.cells #[.int .i64 arg] 3)) (new_int wr 3 arg) (by have := HLn.out; simp; omega) (by have := HBs.out; simp; omega) ?_; intro v1 z1 ho1 hb1)
          go_ret3
          rw [HE.out]
          exact ⟨_, rfl, ho1.rd, (HA.out.2.2.alloc HBs.out _).trans hb1⟩
        · go_wp2_with fail
          go_ret3
          rw [HE.out]
          exact ⟨_, rfl, HA.out.2.1.rd, HA.out.2.2⟩
end Go.Proofs.YtfgangkpebkicaaDoor

/-
  The reference's step, of any kind that belongs to the type, at a state that may be.
-/
namespace Go.Proofs.YtfgangkpebkicaaDoor
open Go.RowKit
set_option maxRecDepth 20000
theorem nrdOn {w w' : World} {v : Value} {l : List Int} (h : NRd w w.heap.size v l) (hb : Below w.heap.size w w') : NRd w' w'.heap.size v l := (LRd.below h hb).mono hb.size
theorem blwOn {w W W' : World} (h : Below w.heap.size w W) (hb : Below W.heap.size W W') : Below w.heap.size w W' := h.trans (hb.mono h.size)
/-- The reference's step, of a kind that belongs to the type, at a state that may be. -/
theorem refStep_any {v : Value} {l : List Int} {w : World} {typ kind arg : Int} (hr : NRd w w.heap.size v l) (he : stateE typ l = 0) (hi : (fitsB typ kind && takesB kind arg) = true) :
    Calls Tryd.prog 46 #[v, .int .i64 kind, .int .i64 arg] w (RefPost w (stepped l kind arg)) := by
  obtain ⟨ht, hn, hv⟩ := stateE_ok.1 he
  obtain ⟨hf, hk⟩ := Bool.and_eq_true_iff.1 hi
  obtain ⟨k1, k2, k3, k4, k5⟩ := fits_ways hf
  have ty : typ = 1 ∨ typ = 2 ∨ typ = 3 ∨ typ = 4 ∨ typ = 5 := by omega
  rcases ty with rfl | rfl | rfl | rfl | rfl
  · have h1 := ((valid_one rfl).1 hv).1
    rcases k1 rfl with rfl | rfl
    · exact ref1 hr arg
    · exact ref2 hr arg (by omega)
  · rcases k2 rfl with rfl | rfl
    · exact ref3 hr arg hn
    · exact ref4 hr arg
  · rcases k3 rfl with rfl | rfl
    · exact ref5 hr arg hn
    · exact ref6 hr arg
  · have hs := ((valid_row rfl).1 hv).2 rfl
    rcases k4 rfl with rfl | rfl | rfl
    · exact ref7 hr arg hn hs
    · exact ref8 hr arg hn hs
    · exact ref9 hr arg hn hs
  · obtain ⟨h1, h2, h3⟩ := (valid_one rfl).1 hv
    rw [k5 rfl]
    exact ref10 hr arg h1 h2 h3
end Go.Proofs.YtfgangkpebkicaaDoor

/-
  Contract of the reference's Played.
-/
namespace Go.Proofs.YtfgangkpebkicaaDoor
open Go.RowKit
set_option maxRecDepth 20000
theorem begin_ok {typ : Int} (h : btw 1 typ 5 = true) : stateE typ (beginL typ) = 0 := by
  rcases typ_ways typ with rfl | rfl | rfl | rfl | rfl | ⟨_, _, _, _, _, h'⟩
  · decide
  · decide
  · decide
  · decide
  · decide
  · rw [h'] at h; cases h
set_option maxHeartbeats 4000000 in
theorem played_any {lv : Value} {l : List Dd} {w : World} {typ : Int} (hb : btw 1 typ 5 = true) (hl : DRd w w.heap.size lv l) :
    Calls Tryd.prog 64 #[.int .i64 typ, lv] w fun e w' => e = .returned (.int .i64 (playN typ l : Nat)) ∧ Below w.heap.size w w' := by
  obtain ⟨Al, capl, rfl, m3, m4⟩ := hl.is
  unfold maxLen at m4
  have HL := Lib.hid hl
  have HB := Lib.hid (begin_ok hb)
  have e2 : playN typ l = playFrom typ (beginL typ) l := rfl
  generalize hp : playN typ l = P at e2 ⊢
  have HP := Lib.hid e2
  clear hl hb e2 hp
  go_enter Tryd.func64, Tryd.ntmps64
  go_wp2_with fail
  refine (begin_any _ _).mono ?_
  rintro e w1 ⟨v1, rfl, hr1, hb1⟩
  obtain ⟨L, hL⟩ : ∃ L, L = l.length := ⟨_, rfl⟩
  have HLL := Lib.hid hL
  have H1 := Lib.hid (And.intro hr1 hb1)
  rw [← hL] at m3
  clear hr1 hb1
  go_wp2_with fail
  rw [← hL]
  clear hL
  have H10 := H1.out
  clear H1
  go_loopw [5, 15] (fun sv i wr => ∃ (k : Nat) (s : List Int), k ≤ L ∧ i = .int .i64 k ∧ P = k + playFrom typ s (l.drop k) ∧ stateE typ s = 0 ∧ NRd wr wr.heap.size sv s ∧ Below w.heap.size w wr) (fun _ i _ => L - (intOf i).toNat)
  case atStart => exact ⟨0, beginL typ, by omega, rfl, by rw [HP.out]; simp, HB.out, H10.1, H10.2⟩
  case round =>
    clear H10
    obtain ⟨k, s, hk, rfl, hplay, hst, hN, hB⟩ := hrel
    obtain ⟨As, cs, rfl, m1, m2⟩ := hN.is
    have HA := Lib.hid (And.intro hplay (And.intro hN (And.intro hB hst)))
    clear m1 m2 hplay hN hst
    by_cases hkL : k < L
    · have hkl : k < l.length := by rw [← HLL.out]; exact hkL
      obtain ⟨x, hx⟩ : ∃ x, l[k]? = some x := ⟨_, List.getElem?_eq_getElem hkl⟩
      have hxe : l[k] = x := (List.getElem?_eq_some_iff.1 hx).2
      have hL' := HL.out.below hB
      rw [← HLL.out] at hL'
      obtain ⟨gl, o', rfl, hgl, d0, d1, d2⟩ := hL'.dd hx
      have hst := play_drop (typ := typ) (s := s) hkl
      rw [hxe] at hst
      have i1 : (0 : Int) ≤ (k : Int) := by omega
      have i2 : (k : Int) < (L : Int) := by omega
      obtain ⟨xk, xa, xr⟩ := x
      simp only at hst d0 d1 d2
      have est : stepO typ s xk xa = if (fitsB typ xk && takesB xk xa) = false then ([], 0, 3) else stepped s xk xa := by
        unfold stepO
        rw [if_neg (by rw [HA.out.2.2.2]; decide)]
      have hok := fun h => (stepO_ok (typ := typ) (s := s) (kind := xk) (arg := xa) h).1
      have hask := fun (W : World) => asked_any typ xk xa W
      have HBX := Lib.hid (hB.alloc hB.size (.cells (ddCs ⟨xk, xa, xr⟩).toArray 81))
      have hNX : NRd (wr.alloc (.cells (ddCs ⟨xk, xa, xr⟩).toArray 81)) (wr.alloc (.cells (ddCs ⟨xk, xa, xr⟩).toArray 81)).heap.size (.slice As s.length cs) s := NRd.alloc HA.out.2.1 _
      have HNX := Lib.hid hNX
      have HL2 := Lib.hid (Lies.new wr 81 (ddCs ⟨xk, xa, xr⟩).toArray)
      cases hi : fitsB typ xk && takesB xk xa
      · rw [hi, if_pos rfl] at est
        rw [est] at hst
        rw [hi] at hask
        rw [if_pos (Or.inl (by decide))] at hst
        have HX := Lib.hid hst
        have HK := Lib.hid hask
        clear hx hxe hL' hst hB hok hask est hi hNX
        go_wp2_with fail
        refine (HK.out _).mono ?_
        rintro e w2 ⟨rfl, hb2⟩
        have H2 := Lib.hid (HBX.out.trans (hb2.mono HBX.out.size))
        clear hb2
        go_wp2_with fail
        go_ret
        have e : P = k := by rw [HA.out.1, HX.out]; rfl
        exact ⟨by rw [e]; rfl, H2.out⟩
      · rw [hi, if_neg (by decide)] at est
        rw [est] at hst hok
        have hF := fun (W : World) (h : Below (wr.alloc (.cells (ddCs ⟨xk, xa, xr⟩).toArray 81)).heap.size (wr.alloc (.cells (ddCs ⟨xk, xa, xr⟩).toArray 81)) W) => refStep_any (nrdOn hNX h) HA.out.2.2.2 hi
        rw [hi] at hask
        unfold RefPost at hF
        generalize stepped s xk xa = o at hst hok hF
        obtain ⟨s', r, er⟩ := o
        simp only at hst hok hF
        have HX := Lib.hid (And.intro hst hok)
        have HK := Lib.hid hask
        have HF := Lib.hid hF
        clear hx hxe hL' hst hB hok hask est hi hNX hF
        go_wp2_with fail
        refine (HK.out _).mono ?_
        rintro e w2 ⟨rfl, hb2⟩
        have hl2 := HL2.out.below hb2 (by simp)
        have b0 : w2.cell? ⟨wr.heap.size, 0, none⟩ = some (.int .i64 xk) := by rw [hl2.cell]; rfl
        have b1 : w2.cell? ⟨wr.heap.size, 1, none⟩ = some (.int .i64 xa) := by rw [hl2.cell]; rfl
        have H2 := Lib.hid (And.intro hl2 hb2)
        clear hb2 hl2
        go_wp2_with fail
        refine (HF.out _ H2.out.2).mono ?_
        rintro e w3 ⟨v3, rfl, hr3, hb3⟩
        obtain ⟨A3, c3, rfl, m1, m2⟩ := hr3.is
        have hl3 := H2.out.1.below hb3 H2.out.1.lt
        have c2' : w3.cell? ⟨wr.heap.size, 2, none⟩ = some (.int .i64 xr) := by rw [hl3.cell]; rfl
        have H3 := Lib.hid (And.intro hr3 (blwOn (blwOn HA.out.2.2.1 (((Below.refl wr.heap.size wr).alloc (Nat.le_refl _) _).trans (H2.out.2.mono (by simp)))) hb3))
        clear m1 m2 hr3 hb3 hl3 b0 b1
        by_cases hz : er = 0
        · subst hz
          by_cases hr : r = xr
          · subst hr
            go_wp2_with fail
            go_roundw
            case rel => exact ⟨k + 1, s', by omega, by go_num, by
              rw [HA.out.1, HX.out.1, if_neg (by simp)]
              omega, HX.out.2 (by first | rfl | trivial), H3.out⟩
            case measure => simp [intOf]; omega
          · have hz : (r != xr) = true := by rw [bne_iff_ne]; exact hr
            have HR := Lib.hid hr
            clear hr
            go_wp2_with fail
            go_ret
            have e : P = k := by rw [HA.out.1, HX.out.1, if_pos (Or.inr HR.out)]; rfl
            exact ⟨by rw [e]; rfl, H3.out.2⟩
        · have hz' : (er != 0) = true := by rw [bne_iff_ne]; exact hz
          have HR := Lib.hid hz
          clear hz
          go_wp2_with fail
          go_ret
          have e : P = k := by rw [HA.out.1, HX.out.1, if_pos (Or.inl HR.out)]; rfl
          exact ⟨by rw [e]; rfl, H3.out.2⟩
    · obtain rfl : k = L := by omega
      have e : P = k := by
        rw [HA.out.1, HLL.out, List.drop_length]
        rfl
      have HE := Lib.hid e
      clear e hB
      go_wp2_with fail
      go_ret
      exact ⟨by rw [HE.out]; rfl, HA.out.2.2.1⟩
end Go.Proofs.YtfgangkpebkicaaDoor
