/-
  Contract of do of sets.
-/
import Derived.Test.YtebcnhnkpmbgdaaObjDo
namespace Go.Proofs.Ytebcnhnkpmbgdaa
open Go.RowKit
set_option maxRecDepth 20000

set_option maxHeartbeats 2000000 in
theorem setDo_any {g B : Nat} {v : Value} {l : List Int} {w : World} (h : ObjAt w B g 104 v l) (hl : l.length ≤ 50) (hs : l.Pairwise (· < ·)) (hB : B ≤ w.heap.size) (kind arg : Int) (hk : kind = 7 ∨ kind = 8 ∨ kind = 9) :
    Calls Try.prog 91 #[.pointer (some ⟨g, 0, none⟩), .int .i64 kind, .int .i64 arg] w (DoDid w B g 104 (stepped l kind arg)) := by
  have c0 := rec_cell h.rc
  have HS := Lib.hid (searchI_any (x := arg) h.row hs hl)
  have hlt : ∀ hx : arg ∈ l, lessN l arg < l.length := fun hx => (less_at hs hx).1
  have hle := lessN_le l arg
  have e7 : stepped l 7 arg = if arg ∈ l then (l, 0, 0) else if l.length = 50 then ([], 0, 2) else (insAt l (lessN l arg) arg, 1, 0) := rfl
  have e8 : stepped l 8 arg = if arg ∈ l then (delAt l (lessN l arg), 1, 0) else (l, 0, 0) := rfl
  have e9 : stepped l 9 arg = (l, if arg ∈ l then 1 else 0, 0) := rfl
  obtain ⟨A, cap, rfl, m1, m2⟩ := h.row.rd.is
  clear hs
  by_cases hm : arg ∈ l
  · rw [if_pos hm] at e7 e8 e9
    rw [decide_eq_true hm] at HS
    have hp := hlt hm
    rcases hk with rfl | rfl | rfl
    · rw [e7]
      clear e7 e8 e9 hlt hle hp hm m1 m2 hl hB
      have HH := Lib.hid h
      clear h
      go_enter Try.func91, Try.ntmps91
      go_wp2_with fail
      refine HS.out.mono ?_
      rintro e w1 ⟨rfl, q, rfl⟩
      go_wp2_with fail
      go_ret2
      exact DoDid.yes (belowN (Below.refl _ _) _) rfl rfl ⟨_, HH.out.drewN q⟩
    · rw [e8]
      have HR := Lib.hid (fun q => remove_any (h.drewN q) hp hl hB)
      clear e7 e8 e9 hlt hle hp hm m1 m2 hl hB
      have HH := Lib.hid h
      clear h
      go_enter Try.func91, Try.ntmps91
      go_wp2_with fail
      refine HS.out.mono ?_
      rintro e w1 ⟨rfl, q, rfl⟩
      go_wp2_with fail
      refine (HR.out q).mono ?_
      rintro e w' ⟨rfl, hb, hs⟩
      have HX := Lib.hid (And.intro hb hs)
      clear hb hs
      go_wp2_with fail
      go_ret2
      exact DoDid.yes ((belowN (Below.refl _ _) q).trans HX.out.1) rfl rfl HX.out.2
    · rw [e9]
      clear e7 e8 e9 hlt hle hp hm m1 m2 hl hB
      have HH := Lib.hid h
      clear h
      go_enter Try.func91, Try.ntmps91
      go_wp2_with fail
      refine HS.out.mono ?_
      rintro e w1 ⟨rfl, q, rfl⟩
      go_wp2_with fail
      go_ret2
      exact DoDid.yes (belowN (Below.refl _ _) _) rfl rfl ⟨_, HH.out.drewN q⟩
  · rw [if_neg hm] at e7 e8 e9
    rw [decide_eq_false hm] at HS
    rcases hk with rfl | rfl | rfl
    · rw [e7]
      by_cases h50 : l.length = 50
      · rw [if_pos h50]
        have HR := Lib.hid (fun q => insert_full (h.drewN q) h50 (lessN l arg : Int) arg)
        clear e7 e8 e9 hlt hle hm m1 m2 hl hB h50 h
        go_enter Try.func91, Try.ntmps91
        go_wp2_with fail
        refine HS.out.mono ?_
        rintro e w1 ⟨rfl, q, rfl⟩
        go_wp2_with fail
        refine (HR.out q).mono ?_
        rintro e w' ⟨rfl, rfl⟩
        go_wp2_with fail
        go_ret2
        exact DoDid.no (belowN (Below.refl _ _) _) rfl rfl
      · rw [if_neg h50]
        have HR := Lib.hid (fun q => insert_any (h.drewN q) (by omega) hle arg hB)
        clear e7 e8 e9 hlt hle hm m1 m2 hl hB h50 h
        go_enter Try.func91, Try.ntmps91
        go_wp2_with fail
        refine HS.out.mono ?_
        rintro e w1 ⟨rfl, q, rfl⟩
        go_wp2_with fail
        refine (HR.out q).mono ?_
        rintro e w' ⟨rfl, hb, hs⟩
        have HX := Lib.hid (And.intro hb hs)
        clear hb hs
        go_wp2_with fail
        go_ret2
        exact DoDid.yes ((belowN (Below.refl _ _) q).trans HX.out.1) rfl rfl HX.out.2
    · rw [e8]
      clear e7 e8 e9 hlt hle hm m1 m2 hl hB
      have HH := Lib.hid h
      clear h
      go_enter Try.func91, Try.ntmps91
      go_wp2_with fail
      refine HS.out.mono ?_
      rintro e w1 ⟨rfl, q, rfl⟩
      go_wp2_with fail
      go_ret2
      exact DoDid.yes (belowN (Below.refl _ _) _) rfl rfl ⟨_, HH.out.drewN q⟩
    · rw [e9]
      clear e7 e8 e9 hlt hle hm m1 m2 hl hB
      have HH := Lib.hid h
      clear h
      go_enter Try.func91, Try.ntmps91
      go_wp2_with fail
      refine HS.out.mono ?_
      rintro e w1 ⟨rfl, q, rfl⟩
      go_wp2_with fail
      go_ret2
      exact DoDid.yes (belowN (Below.refl _ _) _) rfl rfl ⟨_, HH.out.drewN q⟩
end Go.Proofs.Ytebcnhnkpmbgdaa
