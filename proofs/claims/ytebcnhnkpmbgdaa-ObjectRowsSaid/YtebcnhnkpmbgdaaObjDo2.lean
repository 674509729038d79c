/-
  Contracts of do of queues and stacks.
-/
import Derived.Test.YtebcnhnkpmbgdaaObjDo
namespace Go.Proofs.Ytebcnhnkpmbgdaa
open Go.RowKit
set_option maxRecDepth 20000

set_option maxHeartbeats 2000000 in
theorem queueDo_any {g B : Nat} {v : Value} {l : List Int} {w : World} (h : ObjAt w B g 100 v l) (hl : l.length ≤ 50) (hB : B ≤ w.heap.size) (kind arg : Int) (hk : kind = 3 ∨ kind = 4) :
    Calls Try.prog 78 #[.pointer (some ⟨g, 0, none⟩), .int .i64 kind, .int .i64 arg] w (DoDid w B g 100 (stepped l kind arg)) := by
  rcases hk with rfl | rfl
  · have e : stepped l 3 arg = if l.length = 50 then ([], 0, 2) else (insAt l l.length arg, 0, 0) := rfl
    rw [e]
    clear e
    have c0 := rec_cell h.rc
    obtain ⟨A, cap, rfl, m1, m2⟩ := h.row.rd.is
    unfold maxLen at m2
    have HH := Lib.hid h
    have HB := Lib.hid hB
    by_cases h50 : l.length = 50
    · rw [if_pos h50]
      have HC := Lib.hid (insert_full (h.drewN 1) h50 (l.length : Int) arg)
      clear h hB hl h50
      go_enter Try.func78, Try.ntmps78
      go_wp2_with fail
      go_still_tail 10, (by kernel_rfl)
      change wpList _ _ _ _ _ (w.drewN 1)
      go_wp2_with fail
      refine HC.out.mono ?_
      rintro e w' ⟨rfl, rfl⟩
      go_wp2_with fail
      go_ret2
      exact DoDid.no (belowN (Below.refl _ _) _) rfl rfl
    · rw [if_neg h50]
      have HC := Lib.hid (insert_any (h.drewN 1) (by omega) (Nat.le_refl l.length) arg hB)
      unfold ObjDid at HC
      clear h hB hl h50
      go_enter Try.func78, Try.ntmps78
      go_wp2_with fail
      go_still_tail 10, (by kernel_rfl)
      change wpList _ _ _ _ _ (w.drewN 1)
      go_wp2_with fail
      refine HC.out.mono ?_
      rintro e w' ⟨rfl, hb, hs⟩
      have HS := Lib.hid (And.intro hb hs)
      clear hb hs
      go_wp2_with fail
      go_ret2
      exact DoDid.yes ((belowN (Below.refl _ _) 1).trans HS.out.1) rfl rfl HS.out.2
  · have e : stepped l 4 arg = if l.length = 0 then (l, -1, 0) else (delAt l 0, l.getD 0 0, 0) := rfl
    rw [e]
    clear e
    have HB := Lib.hid hB
    by_cases h0 : l.length = 0
    · rw [if_pos h0]
      have HC := Lib.hid (remove_none h h0 0)
      have HH := Lib.hid h
      clear h hB hl h0
      go_enter Try.func78, Try.ntmps78
      go_wp2_with fail
      refine HC.out.mono ?_
      rintro e w' ⟨rfl, rfl⟩
      go_wp2_with fail
      go_ret2
      exact DoDid.yes (Below.refl _ _) rfl rfl ⟨_, HH.out⟩
    · rw [if_neg h0]
      have HC := Lib.hid (remove_any h (p := 0) (by omega) hl hB)
      unfold ObjDid at HC
      clear h hB hl h0
      generalize l.getD 0 0 = y at HC ⊢
      go_enter Try.func78, Try.ntmps78
      go_wp2_with fail
      refine HC.out.mono ?_
      rintro e w' ⟨rfl, hb, hs⟩
      have HS := Lib.hid (And.intro hb hs)
      clear hb hs
      go_wp2_with fail
      go_ret2
      exact DoDid.yes HS.out.1 rfl rfl HS.out.2

set_option maxHeartbeats 2000000 in
theorem stackDo_any {g B : Nat} {v : Value} {l : List Int} {w : World} (h : ObjAt w B g 102 v l) (hl : l.length ≤ 50) (hB : B ≤ w.heap.size) (kind arg : Int) (hk : kind = 5 ∨ kind = 6) :
    Calls Try.prog 90 #[.pointer (some ⟨g, 0, none⟩), .int .i64 kind, .int .i64 arg] w (DoDid w B g 102 (stepped l kind arg)) := by
  have c0 := rec_cell h.rc
  obtain ⟨A, cap, rfl, m1, m2⟩ := h.row.rd.is
  unfold maxLen at m2
  have HB := Lib.hid hB
  rcases hk with rfl | rfl
  · have e : stepped l 5 arg = if l.length = 50 then ([], 0, 2) else (insAt l l.length arg, 0, 0) := rfl
    rw [e]
    clear e
    by_cases h50 : l.length = 50
    · rw [if_pos h50]
      have HC := Lib.hid (insert_full (h.drewN 1) h50 (l.length : Int) arg)
      clear h hB hl h50
      go_enter Try.func90, Try.ntmps90
      go_wp2_with fail
      go_still_tail 10, (by kernel_rfl)
      change wpList _ _ _ _ _ (w.drewN 1)
      go_wp2_with fail
      refine HC.out.mono ?_
      rintro e w' ⟨rfl, rfl⟩
      go_wp2_with fail
      go_ret2
      exact DoDid.no (belowN (Below.refl _ _) _) rfl rfl
    · rw [if_neg h50]
      have HC := Lib.hid (insert_any (h.drewN 1) (by omega) (Nat.le_refl l.length) arg hB)
      unfold ObjDid at HC
      clear h hB hl h50
      go_enter Try.func90, Try.ntmps90
      go_wp2_with fail
      go_still_tail 10, (by kernel_rfl)
      change wpList _ _ _ _ _ (w.drewN 1)
      go_wp2_with fail
      refine HC.out.mono ?_
      rintro e w' ⟨rfl, hb, hs⟩
      have HS := Lib.hid (And.intro hb hs)
      clear hb hs
      go_wp2_with fail
      go_ret2
      exact DoDid.yes ((belowN (Below.refl _ _) 1).trans HS.out.1) rfl rfl HS.out.2
  · have e : stepped l 6 arg = if l.length = 0 then (l, -1, 0) else (delAt l (l.length - 1), l.getD (l.length - 1) 0, 0) := rfl
    rw [e]
    clear e
    by_cases h0 : l.length = 0
    · rw [if_pos h0]
      have HC := Lib.hid (remove_none (h.drewN 1) h0 (-1))
      have HH := Lib.hid h
      rw [h0] at c0
      have hw : IntKind.i64.wrap (0 - 1) = -1 := rfl
      clear h hB hl h0
      go_enter Try.func90, Try.ntmps90
      go_wp2_with fail
      go_still_tail 10, (by kernel_rfl)
      change wpList _ _ _ _ _ (w.drewN 1)
      go_wp2_with fail
      refine HC.out.mono ?_
      rintro e w' ⟨rfl, rfl⟩
      go_wp2_with fail
      go_ret2
      exact DoDid.yes (belowN (Below.refl _ _) _) rfl rfl ⟨_, HH.out.drewN 1⟩
    · rw [if_neg h0]
      have hq := remove_any (h.drewN 1) (p := l.length - 1) (by omega) hl hB
      have e1 : ((l.length - 1 : Nat) : Int) = (l.length : Int) - 1 := by omega
      rw [e1] at hq
      have HC := Lib.hid hq
      unfold ObjDid at HC
      have hw : IntKind.i64.wrap ((l.length : Int) - 1) = (l.length : Int) - 1 := IntWalk.i64_in _ (by omega)
      clear h hB hl h0 hq e1
      generalize l.getD (l.length - 1) 0 = y at HC ⊢
      go_enter Try.func90, Try.ntmps90
      go_wp2_with fail
      go_still_tail 10, (by kernel_rfl)
      change wpList _ _ _ _ _ (w.drewN 1)
      go_wp2_with fail
      refine HC.out.mono ?_
      rintro e w' ⟨rfl, hb, hs⟩
      have HS := Lib.hid (And.intro hb hs)
      clear hb hs
      go_wp2_with fail
      go_ret2
      exact DoDid.yes ((belowN (Below.refl _ _) 1).trans HS.out.1) rfl rfl HS.out.2
end Go.Proofs.Ytebcnhnkpmbgdaa
