/-
  Joined by a program out of: RefSteps, SeqFind, SkipAt, CloneEv, PlacePure, OwnEv, SLaterP, SeqPure.
-/
import Derived.Test.YtfgangkpebkicaaDoorMgAU
import Derived.Lib.AppendZeros
import Derived.Test.YtfgangkpebkicaaDoorMgAK
import Derived.Test.YtfgangkpebkicaaDoorMgAA
import Derived.Test.YtfgangkpebkicaaDoorMgAS
import Derived.Test.YtfgangkpebkicaaDoorMgAB
import Derived.Test.YtfgangkpebkicaaDoorMgAI
import Derived.Deep.DeepAppendWide
import Derived.Lib.SliceRun
import Derived.Test.YtfgangkpebkicaaDoorMgAT

/-
  Contract of the reference's Stepped: registers, tickets, queues, stacks.
-/
namespace Go.Proofs.YtfgangkpebkicaaDoor
open Go.RowKit
set_option maxRecDepth 20000
/-- What the reference answers: a state that reads so, the answer, the error. -/
def RefPost (w : World) (o : List Int × Int × Int) (e : Ending) (w' : World) : Prop :=
  ∃ v, e = .returned (.tuple #[v, .int .i64 o.2.1, .int .i64 o.2.2]) ∧ NRd w' w'.heap.size v o.1 ∧ Below w.heap.size w w'
theorem nrd_new (w : World) (x : Int) : NRd (w.alloc (.cells #[.int .i64 x] 3)) (w.heap.size + 1) (.slice (some ⟨w.heap.size, 0, none⟩) 1 1) [x] :=
  LRd.of_lit (f := intCs) (s := 1) (w := w) (l := [x]) (fun _ => rfl) 3 (cs := #[.int .i64 x]) rfl (n := 1) rfl (by unfold maxLen; omega)
theorem new_int (W : World) (t : TypeId) (y : Int) : (W.alloc (.cells #[.int .i64 y] t)).cell? ⟨W.heap.size, 0, none⟩ = some (.int .i64 y) := new_cells W t [.int .i64 y] 0 _ rfl
theorem nrd_zero (w : World) (B : Nat) (A : Option Addr) {cap : Nat} (hm : cap ≤ maxLen) : NRd w B (.slice A 0 cap) [] := ⟨A, cap, rfl, Nat.zero_le _, hm, fun h => by simp at h⟩
theorem nrd_drewN {w : World} {B : Nat} {v : Value} {l : List Int} (h : NRd w B v l) (n : Nat) : NRd (w.drewN n) B v l := h
set_option maxHeartbeats 1000000 in
theorem ref1 {v : Value} {l : List Int} {w : World} (hr : NRd w w.heap.size v l) (arg : Int) : Calls Tryd.prog 46 #[v, .int .i64 1, .int .i64 arg] w (RefPost w (stepped l 1 arg)) := by
  obtain ⟨A, cap, rfl, m1, m2⟩ := hr.is
  unfold maxLen at m2
  clear hr
  go_enter Tryd.func46, Tryd.ntmps46
  go_wp2_with fail
  go_ret3
  exact ⟨_, rfl, (nrd_new w arg).mono (by simp), (Below.refl _ _).alloc (Nat.le_refl _) _⟩
set_option maxHeartbeats 1000000 in
theorem ref2 {v : Value} {l : List Int} {w : World} (hr : NRd w w.heap.size v l) (arg : Int) (h0 : 0 < l.length) : Calls Tryd.prog 46 #[v, .int .i64 2, .int .i64 arg] w (RefPost w (stepped l 2 arg)) := by
  obtain ⟨A, cap, rfl, m1, m2⟩ := hr.is
  unfold maxLen at m2
  have e : stepped l 2 arg = (l, l.getD 0 0, 0) := rfl
  rw [e]
  have hx : l[0]? = some (l.getD 0 0) := by rw [List.getD_eq_getElem?_getD, List.getElem?_eq_getElem h0]; rfl
  obtain ⟨g, o, rfl, hg, d0⟩ := hr.num hx
  rw [Nat.add_zero] at d0
  have HR := Lib.hid hr
  clear e hr hx
  generalize l.getD 0 0 = y at d0 ⊢
  go_enter Tryd.func46, Tryd.ntmps46
  go_wp2_with fail
  go_quiet (fail)
  go_wp2_with fail
  go_ret3
  exact ⟨_, rfl, HR.out, belowN (Below.refl _ _) _⟩
set_option maxHeartbeats 1000000 in
theorem ref10 {v : Value} {l : List Int} {w : World} (hr : NRd w w.heap.size v l) (arg : Int) (h0 : l.length = 1) (h1 : 0 ≤ l.getD 0 0) (h2 : l.getD 0 0 ≤ 1000) : Calls Tryd.prog 46 #[v, .int .i64 10, .int .i64 arg] w (RefPost w (stepped l 10 arg)) := by
  obtain ⟨A, cap, rfl, m1, m2⟩ := hr.is
  unfold maxLen at m2
  have e : stepped l 10 arg = if l.getD 0 0 = 1000 then ([], 0, 2) else ([l.getD 0 0 + 1], l.getD 0 0, 0) := rfl
  rw [e]
  have hx : l[0]? = some (l.getD 0 0) := by rw [List.getD_eq_getElem?_getD, List.getElem?_eq_getElem (by omega)]; rfl
  obtain ⟨g, o, rfl, hg, d0⟩ := hr.num hx
  rw [Nat.add_zero] at d0
  clear e hr hx
  generalize l.getD 0 0 = y at d0 h1 h2 ⊢
  rw [h0] at m1 ⊢
  by_cases hy : y = 1000
  · rw [if_pos hy]
    subst hy
    go_enter Tryd.func46, Tryd.ntmps46
    go_wp2_with fail
    go_ret3
    exact ⟨_, rfl, LRd.nil _ _, Below.refl _ _⟩
  · rw [if_neg hy]
    have hz : (y == 1000) = false := by rw [beq_eq_false_iff_ne]; exact hy
    have hw : IntKind.i64.wrap (y + 1) = y + 1 := IntWalk.i64_in _ (by omega)
    clear hy
    go_enter Tryd.func46, Tryd.ntmps46
    go_wp2_with fail
    go_region
    go_wp2_with fail
    go_ret3
    exact ⟨_, rfl, nrd_drewN ((nrd_new w (y + 1)).mono (by simp)) 1, ((Below.refl _ _).alloc (Nat.le_refl _) _).drew⟩
set_option maxHeartbeats 2000000 in
theorem ref3 {v : Value} {l : List Int} {w : World} (hr : NRd w w.heap.size v l) (arg : Int) (hn : l.length ≤ 50) : Calls Tryd.prog 46 #[v, .int .i64 3, .int .i64 arg] w (RefPost w (stepped l 3 arg)) := by
  obtain ⟨A, cap, rfl, m1, m2⟩ := hr.is
  unfold maxLen at m2
  have e : stepped l 3 arg = if l.length = 50 then ([], 0, 2) else (insAt l l.length arg, 0, 0) := rfl
  rw [e]
  clear e
  by_cases h50 : l.length = 50
  · rw [if_pos h50]
    have hz : ((l.length : Int) == 50) = true := by rw [beq_iff_eq]; omega
    clear h50 hn hr
    go_enter Tryd.func46, Tryd.ntmps46
    go_wp2_with fail
    go_ret3
    exact ⟨_, rfl, LRd.nil _ _, Below.refl _ _⟩
  · rw [if_neg h50]
    have hz : ((l.length : Int) == 50) = false := by rw [beq_eq_false_iff_ne]; omega
    have hi : insAt l l.length arg = l ++ [arg] := by simp [insAt]
    rw [hi]
    have hempty : NOwn (w.alloc (.cells #[] 3)) w.heap.size (.slice (some ⟨w.heap.size, 0, none⟩) 0 0) [] := ⟨rfl, .inr ⟨w.heap.size, 0, #[], rfl, Nat.le_refl _, heap_alloc_new w _, Nat.le_refl _, by unfold maxLen; omega, rfl, rfl⟩⟩
    have hr1 : NRd (w.alloc (.cells #[] 3)) w.heap.size (.slice A l.length cap) l := hr.below ((Below.refl _ _).alloc (Nat.le_refl _) _)
    cases A with
    | none =>
      have h0 : l = [] := by
        apply List.length_eq_zero_iff.1
        apply Classical.byContradiction
        intro hp
        obtain ⟨g, o, hA, _⟩ := hr.ints (by omega)
        cases hA
      subst h0
      have hsrc : Src Tryd.prog 1 22 (.slice none 0 cap) 0 [] (w.alloc (.cells #[] 3)) := Src.ofNil _ Tryd.underlying22 cap
      have HO := Lib.hid (And.intro hempty ((Below.refl w.heap.size w).alloc (Nat.le_refl _) (.cells #[] 3)))
      clear hempty hr1 hr h50 hn hi
      go_enter Tryd.func46, Tryd.ntmps46
      go_wp2_with (first | (at_builtin; refine wpList_append_room1 _ rfl (.tmp 63) (.tmp 64) 22 22 rfl 3 _ _ Tryd.underlying22 info_int w.heap.size 0 0 0 rfl _ rfl 0 [] hsrc (by omega) (fun j hj => by simp at hj) (fun j hj => by simp at hj) ?_) | (at_builtin; refine wpList_app_int rfl (.tmp 65) (.tmp 67) rfl w.heap.size (w.alloc (.cells #[] 3)).heap.size _ [] arg rfl rfl (HO.out.1.alloc (.cells #[.int .i64 arg] 3)) (new_int (w.alloc (.cells #[] 3)) 3 arg) (by simp) (by show w.heap.size ≤ ((w.alloc (.cells #[] 3)).alloc (.cells #[.int .i64 arg] 3)).heap.size; simp; omega) ?_; intro v2 w2 ho2 hb2))
      go_ret3
      exact ⟨_, rfl, ho2.rd, (HO.out.2.alloc HO.out.2.size _).trans hb2⟩
    | some a =>
      obtain ⟨v1, w1, hrun, ho1, hb1⟩ := run_app_ints 22 hempty hr1 (by simp; omega) (by simp) (by simp)
      rw [List.nil_append] at ho1
      have HO := Lib.hid (And.intro ho1 (((Below.refl w.heap.size w).alloc (Nat.le_refl _) (.cells #[] 3)).trans hb1))
      have HRUN := Lib.hid hrun
      have HN := Lib.hid hn
      clear hempty hr1 hr h50 hn hi ho1 hb1 hrun
      go_enter Tryd.func46, Tryd.ntmps46
      go_wp2_with (first | (at_builtin; refine Lib.wpList_append_run _ rfl (.tmp 63) (.tmp 64) _ _ rfl _ _ rfl rfl v1 w1 HRUN.out ?_) | (at_builtin; refine wpList_app_int rfl (.tmp 65) (.tmp 67) rfl w.heap.size w1.heap.size _ l arg rfl rfl (HO.out.1.alloc (.cells #[.int .i64 arg] 3)) (new_int w1 3 arg) (by have := HN.out; omega) (by have := HO.out.2.size; simp; omega) ?_; intro v2 w2 ho2 hb2))
      go_ret3
      exact ⟨_, rfl, ho2.rd, (HO.out.2.alloc HO.out.2.size _).trans hb2⟩
set_option maxHeartbeats 2000000 in
theorem ref5 {v : Value} {l : List Int} {w : World} (hr : NRd w w.heap.size v l) (arg : Int) (hn : l.length ≤ 50) : Calls Tryd.prog 46 #[v, .int .i64 5, .int .i64 arg] w (RefPost w (stepped l 5 arg)) := by
  obtain ⟨A, cap, rfl, m1, m2⟩ := hr.is
  unfold maxLen at m2
  have e : stepped l 5 arg = if l.length = 50 then ([], 0, 2) else (insAt l l.length arg, 0, 0) := rfl
  rw [e]
  clear e
  by_cases h50 : l.length = 50
  · rw [if_pos h50]
    have hz : ((l.length : Int) == 50) = true := by rw [beq_iff_eq]; omega
    clear h50 hn hr
    go_enter Tryd.func46, Tryd.ntmps46
    go_wp2_with fail
    go_ret3
    exact ⟨_, rfl, LRd.nil _ _, Below.refl _ _⟩
  · rw [if_neg h50]
    have hz : ((l.length : Int) == 50) = false := by rw [beq_eq_false_iff_ne]; omega
    have hi : insAt l l.length arg = l ++ [arg] := by simp [insAt]
    rw [hi]
    have hempty : NOwn (w.alloc (.cells #[] 3)) w.heap.size (.slice (some ⟨w.heap.size, 0, none⟩) 0 0) [] := ⟨rfl, .inr ⟨w.heap.size, 0, #[], rfl, Nat.le_refl _, heap_alloc_new w _, Nat.le_refl _, by unfold maxLen; omega, rfl, rfl⟩⟩
    have hr1 : NRd (w.alloc (.cells #[] 3)) w.heap.size (.slice A l.length cap) l := hr.below ((Below.refl _ _).alloc (Nat.le_refl _) _)
    cases A with
    | none =>
      have h0 : l = [] := by
        apply List.length_eq_zero_iff.1
        apply Classical.byContradiction
        intro hp
        obtain ⟨g, o, hA, _⟩ := hr.ints (by omega)
        cases hA
      subst h0
      have hsrc : Src Tryd.prog 1 22 (.slice none 0 cap) 0 [] (w.alloc (.cells #[] 3)) := Src.ofNil _ Tryd.underlying22 cap
      have HO := Lib.hid (And.intro hempty ((Below.refl w.heap.size w).alloc (Nat.le_refl _) (.cells #[] 3)))
      clear hempty hr1 hr h50 hn hi
      go_enter Tryd.func46, Tryd.ntmps46
      go_wp2_with (first | (at_builtin; refine wpList_append_room1 _ rfl (.tmp 63) (.tmp 64) 22 22 rfl 3 _ _ Tryd.underlying22 info_int w.heap.size 0 0 0 rfl _ rfl 0 [] hsrc (by omega) (fun j hj => by simp at hj) (fun j hj => by simp at hj) ?_) | (at_builtin; refine wpList_app_int rfl (.tmp 65) (.tmp 67) rfl w.heap.size (w.alloc (.cells #[] 3)).heap.size _ [] arg rfl rfl (HO.out.1.alloc (.cells #[.int .i64 arg] 3)) (new_int (w.alloc (.cells #[] 3)) 3 arg) (by simp) (by show w.heap.size ≤ ((w.alloc (.cells #[] 3)).alloc (.cells #[.int .i64 arg] 3)).heap.size; simp; omega) ?_; intro v2 w2 ho2 hb2))
      go_ret3
      exact ⟨_, rfl, ho2.rd, (HO.out.2.alloc HO.out.2.size _).trans hb2⟩
    | some a =>
      obtain ⟨v1, w1, hrun, ho1, hb1⟩ := run_app_ints 22 hempty hr1 (by simp; omega) (by simp) (by simp)
      rw [List.nil_append] at ho1
      have HO := Lib.hid (And.intro ho1 (((Below.refl w.heap.size w).alloc (Nat.le_refl _) (.cells #[] 3)).trans hb1))
      have HRUN := Lib.hid hrun
      have HN := Lib.hid hn
      clear hempty hr1 hr h50 hn hi ho1 hb1 hrun
      go_enter Tryd.func46, Tryd.ntmps46
      go_wp2_with (first | (at_builtin; refine Lib.wpList_append_run _ rfl (.tmp 63) (.tmp 64) _ _ rfl _ _ rfl rfl v1 w1 HRUN.out ?_) | (at_builtin; refine wpList_app_int rfl (.tmp 65) (.tmp 67) rfl w.heap.size w1.heap.size _ l arg rfl rfl (HO.out.1.alloc (.cells #[.int .i64 arg] 3)) (new_int w1 3 arg) (by have := HN.out; omega) (by have := HO.out.2.size; simp; omega) ?_; intro v2 w2 ho2 hb2))
      go_ret3
      exact ⟨_, rfl, ho2.rd, (HO.out.2.alloc HO.out.2.size _).trans hb2⟩
theorem getD_lt {l : List Int} {p : Nat} (hp : p < l.length) : l[p]? = some (l.getD p 0) := by rw [List.getD_eq_getElem?_getD, List.getElem?_eq_getElem hp]; rfl
theorem del_front (l : List Int) : delAt l 0 = l.drop 1 := by simp [delAt]
theorem del_back {l : List Int} (h : 0 < l.length) : delAt l (l.length - 1) = l.take (l.length - 1) := by
  unfold delAt
  rw [show l.length - 1 + 1 = l.length by omega, List.drop_length, List.append_nil]
set_option maxHeartbeats 2000000 in
theorem ref4 {v : Value} {l : List Int} {w : World} (hr : NRd w w.heap.size v l) (arg : Int) : Calls Tryd.prog 46 #[v, .int .i64 4, .int .i64 arg] w (RefPost w (stepped l 4 arg)) := by
  obtain ⟨A, cap, rfl, m1, m2⟩ := hr.is
  unfold maxLen at m2
  have e : stepped l 4 arg = if l.length = 0 then (l, -1, 0) else (delAt l 0, l.getD 0 0, 0) := rfl
  rw [e]
  clear e
  by_cases h0 : l.length = 0
  · rw [if_pos h0]
    have HR := Lib.hid hr
    have hz : ((l.length : Int) == 0) = true := by rw [beq_iff_eq]; omega
    clear hr h0
    go_enter Tryd.func46, Tryd.ntmps46
    go_wp2_with fail
    go_ret3
    exact ⟨_, rfl, HR.out, Below.refl _ _⟩
  · rw [if_neg h0, del_front]
    obtain ⟨g, o, rfl, hg, d0⟩ := hr.num (getD_lt (l := l) (p := 0) (by omega))
    rw [Nat.add_zero] at d0
    have hz : ((l.length : Int) == 0) = false := by rw [beq_eq_false_iff_ne]; omega
    have HD := Lib.hid (LRd.drop_ hr (k := 1) (by omega))
    generalize hL : l.length = L at HD h0 hz m1 ⊢
    have HLL := Lib.hid hL
    have i1 : ¬ (L : Int) < 1 := by omega
    have i2 : (0 : Int) < (L : Int) := by omega
    clear hr hL
    generalize l.getD 0 0 = y at d0 ⊢
    by_cases hc : cap = 1
    · subst hc
      obtain rfl : L = 1 := by omega
      go_enter Tryd.func46, Tryd.ntmps46
      go_wp2_with fail
      go_quiet (fail)
      go_wp2_with fail
      go_ret3
      have e : l.drop 1 = [] := List.drop_eq_nil_of_le (by rw [HLL.out]; omega)
      rw [e]
      exact ⟨_, rfl, nrd_zero _ _ _ (by unfold maxLen; omega), belowN (Below.refl _ _) _⟩
    · have hc' : (1 : Int) < (cap : Int) := by omega
      go_enter Tryd.func46, Tryd.ntmps46
      go_wp2_with fail
      go_quiet (fail)
      go_wp2_with fail
      go_ret3
      exact ⟨_, rfl, nrd_drewN HD.out _, belowN (Below.refl _ _) _⟩
set_option maxHeartbeats 2000000 in
theorem ref6 {v : Value} {l : List Int} {w : World} (hr : NRd w w.heap.size v l) (arg : Int) : Calls Tryd.prog 46 #[v, .int .i64 6, .int .i64 arg] w (RefPost w (stepped l 6 arg)) := by
  obtain ⟨A, cap, rfl, m1, m2⟩ := hr.is
  unfold maxLen at m2
  have e : stepped l 6 arg = if l.length = 0 then (l, -1, 0) else (delAt l (l.length - 1), l.getD (l.length - 1) 0, 0) := rfl
  rw [e]
  clear e
  by_cases h0 : l.length = 0
  · rw [if_pos h0]
    have HR := Lib.hid hr
    have hz : ((l.length : Int) == 0) = true := by rw [beq_iff_eq]; omega
    clear hr h0
    go_enter Tryd.func46, Tryd.ntmps46
    go_wp2_with fail
    go_ret3
    exact ⟨_, rfl, HR.out, Below.refl _ _⟩
  · rw [if_neg h0, del_back (by omega)]
    obtain ⟨g, o, rfl, hg, d0⟩ := hr.num (getD_lt (l := l) (p := l.length - 1) (by omega))
    have hz : ((l.length : Int) == 0) = false := by rw [beq_eq_false_iff_ne]; omega
    have HD := Lib.hid (LRd.take_ hr (n := l.length - 1) (by omega))
    generalize l.getD (l.length - 1) 0 = y at d0 ⊢
    generalize hL : l.length = L at HD h0 hz m1 d0 ⊢
    have i1 : (0 : Int) ≤ (L : Int) - 1 := by omega
    have i2 : (L : Int) - 1 < (L : Int) := by omega
    have i3 : (L : Int) - 1 ≤ (cap : Int) := by omega
    have hw : IntKind.i64.wrap ((L : Int) - 1) = (L : Int) - 1 := IntWalk.i64_in _ (by omega)
    have ht : ((L : Int) - 1).toNat = L - 1 := by omega
    clear hr hL
    go_enter Tryd.func46, Tryd.ntmps46
    go_wp2_with fail
    go_quiet (fail)
    go_wp2_with fail
    go_ret3
    exact ⟨_, rfl, nrd_drewN HD.out _, belowN (Below.refl _ _) _⟩
end Go.Proofs.YtfgangkpebkicaaDoor

/-
  Contracts of package seq's faces: Right, Find, Calm, Quiet.
-/
namespace Go.Proofs.YtfgangkpebkicaaDoor
open Go.RowKit
set_option maxRecDepth 20000
theorem TOwn.lower {w : World} {B B' : Nat} {v : Value} {l : List (Int × Int)} (h : TOwn w B v l) (hB : B' ≤ B) : TOwn w B' v l :=
  ⟨h.1, h.2.imp (fun h => h) fun ⟨g, cap, cur, h1, h2, h3⟩ => ⟨g, cap, cur, h1, Nat.le_trans hB h2, h3⟩⟩
theorem NOwn.lower {w : World} {B B' : Nat} {v : Value} {l : List Int} (h : NOwn w B v l) (hB : B' ≤ B) : NOwn w B' v l :=
  ⟨h.1, h.2.imp (fun h => h) fun ⟨g, cap, cur, h1, h2, h3⟩ => ⟨g, cap, cur, h1, Nat.le_trans hB h2, h3⟩⟩
end Go.Proofs.YtfgangkpebkicaaDoor

/-
  An operation that its guard passes by, in a region that draws its order.
-/
namespace Go.Proofs.YtfgangkpebkicaaDoor
set_option maxRecDepth 20000
/-- What may be passed by: its guard says so. -/
theorem skipAt (i d : Nat) {P : Program} {md : Region.Mode} {Q : Exit → Act → World → Prop} {ops : Array Oper} {S : World → Prop} {oi : Oper} {fuel : Nat} {listed : Array Bool} {a : Act} {w : World} (hi : ops[i]? = some oi) (hd : oi.dst = some d)
    (hs : Region.noSelect ops = true) (hf : Region.free md ops listed i = true) (hr : (Region.ready md ops listed).contains i = true)
    (hQ : ∀ c a w, Q (.panic c) (a.put (some d) undef) w → Q (.panic c) a w) (hy : Region.wanted oi (yielded ops a.tmps) = false) (hS : S w)
    (h : wpAnyH P md ops Q S fuel (listed.setIfInBounds i true) (a.put (some d) undef) w) : wpAnyH P md ops Q S (fuel + 1) listed a w := by
  rw [← hd] at hQ h
  exact wpAnyH_take hi hs hf hr hQ (.inr ⟨hy, rfl⟩) hS h
end Go.Proofs.YtfgangkpebkicaaDoor

/-
  append of events: any slice of such behind a row of one's own; slices.Clone over such.
-/
namespace Go.Proofs.YtfgangkpebkicaaDoor
open Go.RowKit
set_option maxRecDepth 20000
theorem EOwn.nil (w : World) (B : Nat) : EOwn w B (.slice none 0 0) [] := World.ownsRow_nil _ _ _ _
theorem EOwn.below {w w' : World} {B : Nat} {v : Value} {l : List Ev} (h : EOwn w B v l) (hb : Below w.heap.size w w') : EOwn w' B v l := by
  refine ⟨h.1, h.2.elim (fun h => .inl h) fun ⟨g, cap, cur, h1, h2, h3, h4, h5, h6, h7⟩ => .inr ⟨g, cap, cur, h1, h2, ?_, h4, h5, h6, h7⟩⟩
  rw [hb.block g (Array.getElem?_eq_some_iff.1 h3).1]
  exact h3
end Go.Proofs.YtfgangkpebkicaaDoor

/-
  Plain mathematics for history.place: events put where calls say.
-/
namespace Go.Proofs.YtfgangkpebkicaaDoor
open Go.RowKit
set_option maxRecDepth 20000
/-- A whole event is written. -/
theorem flat_put : ∀ (es : List Ev) (q : Nat) (e : Ev), q < es.length → ((((es.flatMap evCs).set (q * 4) (.int .i64 e.who)).set (q * 4 + 1) (.int .i64 e.thing)).set (q * 4 + 2) (.int .i64 e.kind)).set (q * 4 + 3) (.int .i64 e.val) = (es.set q e).flatMap evCs
  | [], q, e, h => by simp at h
  | z :: r, 0, e, _ => by simp [List.flatMap_cons]
  | z :: r, q + 1, e, h => by
    have h' : q < r.length := by simpa using h
    have ih := flat_put r q e h'
    rw [List.flatMap_cons, List.set_cons_succ, List.flatMap_cons, ← ih]
    have e0 : (q + 1) * 4 = (evCs z).length + q * 4 := by simp; omega
    rw [e0, show (evCs z).length + q * 4 + 1 = (evCs z).length + (q * 4 + 1) by omega, show (evCs z).length + q * 4 + 2 = (evCs z).length + (q * 4 + 2) by omega, show (evCs z).length + q * 4 + 3 = (evCs z).length + (q * 4 + 3) by omega]
    simp only [List.set_append_right _ _ (Nat.le_add_right _ _), Nat.add_sub_cancel_left]
end Go.Proofs.YtfgangkpebkicaaDoor

/-
  Rows of events of the call's own: a cell is read, a cell is written.
-/
namespace Go.Proofs.YtfgangkpebkicaaDoor
open Go.RowKit
set_option maxRecDepth 20000
/-- One cell of a row of one's own is written. -/
theorem own_set {w : World} {B s n cap : Nat} {t : TypeId} {g : Nat} {xs : List Value} (h : w.ownsRow B t s (.slice (some ⟨g, 0, none⟩) n cap) n xs) (j : Nat) (u : Value) : (w.setCell ⟨g, j, none⟩ u).ownsRow B t s (.slice (some ⟨g, 0, none⟩) n cap) n (xs.set j u) := by
  refine ⟨by rw [List.length_set]; exact h.1, ?_⟩
  rcases h.2 with ⟨h', _⟩ | ⟨g', cap', cur, h', hB, hg, h1, h2, h3, h4⟩
  · simp at h'
  · simp only [Value.slice.injEq, Option.some.injEq, Addr.mk.injEq, and_true, true_and] at h'
    obtain ⟨rfl, rfl⟩ := h'
    refine .inr ⟨g, cap, cur.setIfInBounds j u, rfl, hB, Lies.set_ hg j u, h1, h2, by simpa using h3, ?_⟩
    rw [← h4, Array.toList_setIfInBounds, List.take_set]
theorem EOwn.drew {w : World} {B : Nat} {v : Value} {l : List Ev} (h : EOwn w B v l) : EOwn w.drew B v l := h
end Go.Proofs.YtfgangkpebkicaaDoor

/-
  The walk of the law SearchLater.
-/
namespace Go.Proofs.YtfgangkpebkicaaDoor
open Go.RowKit
set_option maxRecDepth 20000
/-- An event of a row of one's own is written. -/
theorem EOwn.put {w : World} {B g n cap q : Nat} {l : List Ev} (h : EOwn w B (.slice (some ⟨g, 0, none⟩) n cap) l) (hn : n = l.length) (hq : q < l.length) (e : Ev) :
    EOwn ((((w.setCell ⟨g, q * 4, none⟩ (.int .i64 e.who)).setCell ⟨g, q * 4 + 1, none⟩ (.int .i64 e.thing)).setCell ⟨g, q * 4 + 2, none⟩ (.int .i64 e.kind)).setCell ⟨g, q * 4 + 3, none⟩ (.int .i64 e.val)) B (.slice (some ⟨g, 0, none⟩) n cap) (l.set q e) := by
  subst hn
  unfold EOwn
  rw [List.length_set, ← flat_put l q e hq]
  exact own_set (own_set (own_set (own_set h _ _) _ _) _ _) _ _
end Go.Proofs.YtfgangkpebkicaaDoor

/-
  Plain: right orders by each one's own order: two events exchanged; all calls one behind the other.
-/
namespace Go.Proofs.YtfgangkpebkicaaDoor
open Go.RowKit
set_option maxRecDepth 20000
theorem range_self (ws : List (Int × Int)) : ws = (List.range ws.length).map fun i => ws.getD i default := by
  apply List.ext_getElem
  · simp
  · intro i h1 h2
    rw [List.getElem_map, List.getElem_range, List.getD_eq_getElem?_getD, List.getElem?_eq_getElem h1]
    rfl
end Go.Proofs.YtfgangkpebkicaaDoor
