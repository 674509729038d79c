/-
  Joined by a program out of: RefSteps.
-/
import Derived.Test.YtfgangkpebkicaaGreatDoorMgAV
import Derived.Test.YtfgangkpebkicaaGreatDoorMsContN
import Derived.Lib.AppendZeros

/-
  Contract of the reference's Stepped: registers, tickets, queues, stacks.
-/
namespace Go.Proofs.YtfgangkpebkicaaGreatDoor
open Go.RowKit
set_option maxRecDepth 20000
/-- What the reference answers: a state that reads so, the answer, the error. -/
def RefPost (w : World) (o : List Int × Int × Int) (e : Ending) (w' : World) : Prop :=
  ∃ v, e = .returned (.tuple #[v, .int .i64 o.2.1, .int .i64 o.2.2]) ∧ NRd w' w'.heap.size v o.1 ∧ Below w.heap.size w w'
theorem nrd_new (w : World) (x : Int) : NRd (w.alloc (.cells #[.int .i64 x] 3)) (w.heap.size + 1) (.slice (some ⟨w.heap.size, 0, none⟩) 1 1) [x] :=
  LRd.of_lit (f := intCs) (s := 1) (w := w) (l := [x]) (fun _ => rfl) 3 (cs := #[.int .i64 x]) rfl (n := 1) rfl (by unfold maxLen; omega)
theorem new_int (W : World) (t : TypeId) (y : Int) : (W.alloc (.cells #[.int .i64 y] t)).cell? ⟨W.heap.size, 0, none⟩ = some (.int .i64 y) := new_cells W t [.int .i64 y] 0 _ rfl
theorem nrd_zero (w : World) (B : Nat) (A : Option Addr) {cap : Nat} (hm : cap ≤ maxLen) : NRd w B (.slice A 0 cap) [] := ⟨A, cap, rfl, Nat.zero_le _, hm, fun h => by simp at h⟩
theorem nrd_drewN {w : World} {B : Nat} {v : Value} {l : List Int} (h : NRd w B v l) (n : Nat) : NRd (w.drewN n) B v l := h
set_option maxHeartbeats 1000000 in
theorem ref1 {v : Value} {l : List Int} {w : World} (hr : NRd w w.heap.size v l) (arg : Int) : Calls Tryz.prog 31 #[v, .int .i64 1, .int .i64 arg] w (RefPost w (stepped l 1 arg)) := by
  obtain ⟨A, cap, rfl, m1, m2⟩ := hr.is
  unfold maxLen at m2
  clear hr
  go_enter Tryz.func31, Tryz.ntmps31
  go_wp2_with fail
  go_ret3
  exact ⟨_, rfl, (nrd_new w arg).mono (by simp), (Below.refl _ _).alloc (Nat.le_refl _) _⟩
set_option maxHeartbeats 1000000 in
theorem ref2 {v : Value} {l : List Int} {w : World} (hr : NRd w w.heap.size v l) (arg : Int) (h0 : 0 < l.length) : Calls Tryz.prog 31 #[v, .int .i64 2, .int .i64 arg] w (RefPost w (stepped l 2 arg)) := by
  obtain ⟨A, cap, rfl, m1, m2⟩ := hr.is
  unfold maxLen at m2
  have e : stepped l 2 arg = (l, l.getD 0 0, 0) := rfl
  rw [e]
  have hx : l[0]? = some (l.getD 0 0) := by rw [List.getD_eq_getElem?_getD, List.getElem?_eq_getElem h0]; rfl
  obtain ⟨g, o, rfl, hg, d0⟩ := hr.num hx
  rw [Nat.add_zero] at d0
  have HR := Lib.hid hr
  clear e hr hx
  generalize l.getD 0 0 = y at d0 ⊢
  go_enter Tryz.func31, Tryz.ntmps31
  go_wp2_with fail
  go_quiet (fail)
  go_wp2_with fail
  go_ret3
  exact ⟨_, rfl, HR.out, belowN (Below.refl _ _) _⟩
set_option maxHeartbeats 1000000 in
theorem ref10 {v : Value} {l : List Int} {w : World} (hr : NRd w w.heap.size v l) (arg : Int) (h0 : l.length = 1) (h1 : 0 ≤ l.getD 0 0) (h2 : l.getD 0 0 ≤ 1000) : Calls Tryz.prog 31 #[v, .int .i64 10, .int .i64 arg] w (RefPost w (stepped l 10 arg)) := by
  obtain ⟨A, cap, rfl, m1, m2⟩ := hr.is
  unfold maxLen at m2
  have e : stepped l 10 arg = if l.getD 0 0 = 1000 then ([], 0, 2) else ([l.getD 0 0 + 1], l.getD 0 0, 0) := rfl
  rw [e]
  have hx : l[0]? = some (l.getD 0 0) := by rw [List.getD_eq_getElem?_getD, List.getElem?_eq_getElem (by omega)]; rfl
  obtain ⟨g, o, rfl, hg, d0⟩ := hr.num hx
  rw [Nat.add_zero] at d0
  clear e hr hx
  generalize l.getD 0 0 = y at d0 h1 h2 ⊢
  rw [h0] at m1 ⊢
  by_cases hy : y = 1000
  · rw [if_pos hy]
    subst hy
    go_enter Tryz.func31, Tryz.ntmps31
    go_wp2_with fail
    go_ret3
    exact ⟨_, rfl, LRd.nil _ _, Below.refl _ _⟩
  · rw [if_neg hy]
    have hz : (y == 1000) = false := by rw [beq_eq_false_iff_ne]; exact hy
    have hw : IntKind.i64.wrap (y + 1) = y + 1 := IntWalk.i64_in _ (by omega)
    clear hy
    go_enter Tryz.func31, Tryz.ntmps31
    go_wp2_with fail
    go_region
    go_wp2_with fail
    go_ret3
    exact ⟨_, rfl, nrd_drewN ((nrd_new w (y + 1)).mono (by simp)) 1, ((Below.refl _ _).alloc (Nat.le_refl _) _).drew⟩
set_option maxHeartbeats 2000000 in
theorem ref3 {v : Value} {l : List Int} {w : World} (hr : NRd w w.heap.size v l) (arg : Int) (hn : l.length ≤ 50) : Calls Tryz.prog 31 #[v, .int .i64 3, .int .i64 arg] w (RefPost w (stepped l 3 arg)) := by
  obtain ⟨A, cap, rfl, m1, m2⟩ := hr.is
  unfold maxLen at m2
  have e : stepped l 3 arg = if l.length = 50 then ([], 0, 2) else (insAt l l.length arg, 0, 0) := rfl
  rw [e]
  clear e
  by_cases h50 : l.length = 50
  · rw [if_pos h50]
    have hz : ((l.length : Int) == 50) = true := by rw [beq_iff_eq]; omega
    clear h50 hn hr
    go_enter Tryz.func31, Tryz.ntmps31
    go_wp2_with fail
    go_ret3
    exact ⟨_, rfl, LRd.nil _ _, Below.refl _ _⟩
  · rw [if_neg h50]
    have hz : ((l.length : Int) == 50) = false := by rw [beq_eq_false_iff_ne]; omega
    have hi : insAt l l.length arg = l ++ [arg] := by simp [insAt]
    rw [hi]
    have hempty : NOwn (w.alloc (.cells #[] 3)) w.heap.size (.slice (some ⟨w.heap.size, 0, none⟩) 0 0) [] := ⟨rfl, .inr ⟨w.heap.size, 0, #[], rfl, Nat.le_refl _, heap_alloc_new w _, Nat.le_refl _, by unfold maxLen; omega, rfl, rfl⟩⟩
    have hr1 : NRd (w.alloc (.cells #[] 3)) w.heap.size (.slice A l.length cap) l := hr.below ((Below.refl _ _).alloc (Nat.le_refl _) _)
    cases A with
    | none =>
      have h0 : l = [] := by
        apply List.length_eq_zero_iff.1
        apply Classical.byContradiction
        intro hp
        obtain ⟨g, o, hA, _⟩ := hr.ints (by omega)
        cases hA
      subst h0
      have hsrc : Src Tryz.prog 1 26 (.slice none 0 cap) 0 [] (w.alloc (.cells #[] 3)) := Src.ofNil _ Tryz.underlying26 cap
      have HO := Lib.hid (And.intro hempty ((Below.refl w.heap.size w).alloc (Nat.le_refl _) (.cells #[] 3)))
      clear hempty hr1 hr h50 hn hi
      go_enter Tryz.func31, Tryz.ntmps31
      go_wp2_with (first | (at_builtin; refine wpList_append_room1 _ rfl (.tmp 63) (.tmp 64) 26 26 rfl 3 _ _ Tryz.underlying26 info_int w.heap.size 0 0 0 rfl _ rfl 0 [] hsrc (by omega) (fun j hj => by simp at hj) (fun j hj => by simp at hj) ?_) | (at_builtin; refine wpList_app_int rfl (.tmp 65) (.tmp 67) rfl w.heap.size (w.alloc (.cells #[] 3)).heap.size _ [] arg rfl rfl (HO.out.1.alloc (.cells #[.int .i64 arg] 3)) (new_int (w.alloc (.cells #[] 3)) 3 arg) (by simp) (by show w.heap.size ≤ ((w.alloc (.cells #[] 3)).alloc (.cells #[.int .i64 arg] 3)).heap.size; simp; omega) ?_; intro v2 w2 ho2 hb2))
      go_ret3
      exact ⟨_, rfl, ho2.rd, (HO.out.2.alloc HO.out.2.size _).trans hb2⟩
    | some a =>
      obtain ⟨v1, w1, hrun, ho1, hb1⟩ := run_app_ints 26 hempty hr1 (by simp; omega) (by simp) (by simp)
      rw [List.nil_append] at ho1
      have HO := Lib.hid (And.intro ho1 (((Below.refl w.heap.size w).alloc (Nat.le_refl _) (.cells #[] 3)).trans hb1))
      have HRUN := Lib.hid hrun
      have HN := Lib.hid hn
      clear hempty hr1 hr h50 hn hi ho1 hb1 hrun
      go_enter Tryz.func31, Tryz.ntmps31
      go_wp2_with (first | (at_builtin; refine Lib.wpList_append_run _ rfl (.tmp 63) (.tmp 64) _ _ rfl _ _ rfl rfl v1 w1 HRUN.out ?_) | (at_builtin; refine wpList_app_int rfl (.tmp 65) (.tmp 67) rfl w.heap.size w1.heap.size _ l arg rfl rfl (HO.out.1.alloc (.cells #[.int .i64 arg] 3)) (new_int w1 3 arg) (by have := HN.out; omega) (by have := HO.out.2.size; simp; omega) ?_; intro v2 w2 ho2 hb2))
      go_ret3
      exact ⟨_, rfl, ho2.rd, (HO.out.2.alloc HO.out.2.size _).trans hb2⟩
set_option maxHeartbeats 2000000 in
theorem ref5 {v : Value} {l : List Int} {w : World} (hr : NRd w w.heap.size v l) (arg : Int) (hn : l.length ≤ 50) : Calls Tryz.prog 31 #[v, .int .i64 5, .int .i64 arg] w (RefPost w (stepped l 5 arg)) := by
  obtain ⟨A, cap, rfl, m1, m2⟩ := hr.is
  unfold maxLen at m2
  have e : stepped l 5 arg = if l.length = 50 then ([], 0, 2) else (insAt l l.length arg, 0, 0) := rfl
  rw [e]
  clear e
  by_cases h50 : l.length = 50
  · rw [if_pos h50]
    have hz : ((l.length : Int) == 50) = true := by rw [beq_iff_eq]; omega
    clear h50 hn hr
    go_enter Tryz.func31, Tryz.ntmps31
    go_wp2_with fail
    go_ret3
    exact ⟨_, rfl, LRd.nil _ _, Below.refl _ _⟩
  · rw [if_neg h50]
    have hz : ((l.length : Int) == 50) = false := by rw [beq_eq_false_iff_ne]; omega
    have hi : insAt l l.length arg = l ++ [arg] := by simp [insAt]
    rw [hi]
    have hempty : NOwn (w.alloc (.cells #[] 3)) w.heap.size (.slice (some ⟨w.heap.size, 0, none⟩) 0 0) [] := ⟨rfl, .inr ⟨w.heap.size, 0, #[], rfl, Nat.le_refl _, heap_alloc_new w _, Nat.le_refl _, by unfold maxLen; omega, rfl, rfl⟩⟩
    have hr1 : NRd (w.alloc (.cells #[] 3)) w.heap.size (.slice A l.length cap) l := hr.below ((Below.refl _ _).alloc (Nat.le_refl _) _)
    cases A with
    | none =>
      have h0 : l = [] := by
        apply List.length_eq_zero_iff.1
        apply Classical.byContradiction
        intro hp
        obtain ⟨g, o, hA, _⟩ := hr.ints (by omega)
        cases hA
      subst h0
      have hsrc : Src Tryz.prog 1 26 (.slice none 0 cap) 0 [] (w.alloc (.cells #[] 3)) := Src.ofNil _ Tryz.underlying26 cap
      have HO := Lib.hid (And.intro hempty ((Below.refl w.heap.size w).alloc (Nat.le_refl _) (.cells #[] 3)))
      clear hempty hr1 hr h50 hn hi
      go_enter Tryz.func31, Tryz.ntmps31
      go_wp2_with (first | (at_builtin; refine wpList_append_room1 _ rfl (.tmp 63) (.tmp 64) 26 26 rfl 3 _ _ Tryz.underlying26 info_int w.heap.size 0 0 0 rfl _ rfl 0 [] hsrc (by omega) (fun j hj => by simp at hj) (fun j hj => by simp at hj) ?_) | (at_builtin; refine wpList_app_int rfl (.tmp 65) (.tmp 67) rfl w.heap.size (w.alloc (.cells #[] 3)).heap.size _ [] arg rfl rfl (HO.out.1.alloc (.cells #[.int .i64 arg] 3)) (new_int (w.alloc (.cells #[] 3)) 3 arg) (by simp) (by show w.heap.size ≤ ((w.alloc (.cells #[] 3)).alloc (.cells #[.int .i64 arg] 3)).heap.size; simp; omega) ?_; intro v2 w2 ho2 hb2))
      go_ret3
      exact ⟨_, rfl, ho2.rd, (HO.out.2.alloc HO.out.2.size _).trans hb2⟩
    | some a =>
      obtain ⟨v1, w1, hrun, ho1, hb1⟩ := run_app_ints 26 hempty hr1 (by simp; omega) (by simp) (by simp)
      rw [List.nil_append] at ho1
      have HO := Lib.hid (And.intro ho1 (((Below.refl w.heap.size w).alloc (Nat.le_refl _) (.cells #[] 3)).trans hb1))
      have HRUN := Lib.hid hrun
      have HN := Lib.hid hn
      clear hempty hr1 hr h50 hn hi ho1 hb1 hrun
      go_enter Tryz.func31, Tryz.ntmps31
      go_wp2_with (first | (at_builtin; refine Lib.wpList_append_run _ rfl (.tmp 63) (.tmp 64) _ _ rfl _ _ rfl rfl v1 w1 HRUN.out ?_) | (at_builtin; refine wpList_app_int rfl (.tmp 65) (.tmp 67) rfl w.heap.size w1.heap.size _ l arg rfl rfl (HO.out.1.alloc (.cells #[.int .i64 arg] 3)) (new_int w1 3 arg) (by have := HN.out; omega) (by have := HO.out.2.size; simp; omega) ?_; intro v2 w2 ho2 hb2))
      go_ret3
      exact ⟨_, rfl, ho2.rd, (HO.out.2.alloc HO.out.2.size _).trans hb2⟩
theorem getD_lt {l : List Int} {p : Nat} (hp : p < l.length) : l[p]? = some (l.getD p 0) := by rw [List.getD_eq_getElem?_getD, List.getElem?_eq_getElem hp]; rfl
theorem del_front (l : List Int) : delAt l 0 = l.drop 1 := by simp [delAt]
theorem del_back {l : List Int} (h : 0 < l.length) : delAt l (l.length - 1) = l.take (l.length - 1) := by
  unfold delAt
  rw [show l.length - 1 + 1 = l.length by omega, List.drop_length, List.append_nil]
set_option maxHeartbeats 2000000 in
theorem ref4 {v : Value} {l : List Int} {w : World} (hr : NRd w w.heap.size v l) (arg : Int) : Calls Tryz.prog 31 #[v, .int .i64 4, .int .i64 arg] w (RefPost w (stepped l 4 arg)) := by
  obtain ⟨A, cap, rfl, m1, m2⟩ := hr.is
  unfold maxLen at m2
  have e : stepped l 4 arg = if l.length = 0 then (l, -1, 0) else (delAt l 0, l.getD 0 0, 0) := rfl
  rw [e]
  clear e
  by_cases h0 : l.length = 0
  · rw [if_pos h0]
    have HR := Lib.hid hr
    have hz : ((l.length : Int) == 0) = true := by rw [beq_iff_eq]; omega
    clear hr h0
    go_enter Tryz.func31, Tryz.ntmps31
    go_wp2_with fail
    go_ret3
    exact ⟨_, rfl, HR.out, Below.refl _ _⟩
  · rw [if_neg h0, del_front]
    obtain ⟨g, o, rfl, hg, d0⟩ := hr.num (getD_lt (l := l) (p := 0) (by omega))
    rw [Nat.add_zero] at d0
    have hz : ((l.length : Int) == 0) = false := by rw [beq_eq_false_iff_ne]; omega
    have HD := Lib.hid (LRd.drop_ hr (k := 1) (by omega))
    generalize hL : l.length = L at HD h0 hz m1 ⊢
    have HLL := Lib.hid hL
    have i1 : ¬ (L : Int) < 1 := by omega
    have i2 : (0 : Int) < (L : Int) := by omega
    clear hr hL
    generalize l.getD 0 0 = y at d0 ⊢
    by_cases hc : cap = 1
    · subst hc
      obtain rfl : L = 1 := by omega
      go_enter Tryz.func31, Tryz.ntmps31
      go_wp2_with fail
      go_quiet (fail)
      go_wp2_with fail
      go_ret3
      have e : l.drop 1 = [] := List.drop_eq_nil_of_le (by rw [HLL.out]; omega)
      rw [e]
      exact ⟨_, rfl, nrd_zero _ _ _ (by unfold maxLen; omega), belowN (Below.refl _ _) _⟩
    · have hc' : (1 : Int) < (cap : Int) := by omega
      go_enter Tryz.func31, Tryz.ntmps31
      go_wp2_with fail
      go_quiet (fail)
      go_wp2_with fail
      go_ret3
      exact ⟨_, rfl, nrd_drewN HD.out _, belowN (Below.refl _ _) _⟩
set_option maxHeartbeats 2000000 in
theorem ref6 {v : Value} {l : List Int} {w : World} (hr : NRd w w.heap.size v l) (arg : Int) : Calls Tryz.prog 31 #[v, .int .i64 6, .int .i64 arg] w (RefPost w (stepped l 6 arg)) := by
  obtain ⟨A, cap, rfl, m1, m2⟩ := hr.is
  unfold maxLen at m2
  have e : stepped l 6 arg = if l.length = 0 then (l, -1, 0) else (delAt l (l.length - 1), l.getD (l.length - 1) 0, 0) := rfl
  rw [e]
  clear e
  by_cases h0 : l.length = 0
  · rw [if_pos h0]
    have HR := Lib.hid hr
    have hz : ((l.length : Int) == 0) = true := by rw [beq_iff_eq]; omega
    clear hr h0
    go_enter Tryz.func31, Tryz.ntmps31
    go_wp2_with fail
    go_ret3
    exact ⟨_, rfl, HR.out, Below.refl _ _⟩
  · rw [if_neg h0, del_back (by omega)]
    obtain ⟨g, o, rfl, hg, d0⟩ := hr.num (getD_lt (l := l) (p := l.length - 1) (by omega))
    have hz : ((l.length : Int) == 0) = false := by rw [beq_eq_false_iff_ne]; omega
    have HD := Lib.hid (LRd.take_ hr (n := l.length - 1) (by omega))
    generalize l.getD (l.length - 1) 0 = y at d0 ⊢
    generalize hL : l.length = L at HD h0 hz m1 d0 ⊢
    have i1 : (0 : Int) ≤ (L : Int) - 1 := by omega
    have i2 : (L : Int) - 1 < (L : Int) := by omega
    have i3 : (L : Int) - 1 ≤ (cap : Int) := by omega
    have hw : IntKind.i64.wrap ((L : Int) - 1) = (L : Int) - 1 := IntWalk.i64_in _ (by omega)
    have ht : ((L : Int) - 1).toNat = L - 1 := by omega
    clear hr hL
    go_enter Tryz.func31, Tryz.ntmps31
    go_wp2_with fail
    go_quiet (fail)
    go_wp2_with fail
    go_ret3
    exact ⟨_, rfl, nrd_drewN HD.out _, belowN (Below.refl _ _) _⟩
end Go.Proofs.YtfgangkpebkicaaGreatDoor
