/-
  Contract of history.validTypes.
-/
import Derived.Test.YtphhbojdolhieaaHistSmall
namespace Go.Proofs.Ytphhbojdolhieaa
open Go.RowKit
set_option maxRecDepth 20000
theorem typesB_len {ts : List Int} (h : ¬ (1 ≤ ts.length ∧ ts.length ≤ 4)) : typesB ts = false := by
  unfold typesB; rw [decide_eq_false h]; rfl
theorem typesB_bad {ts : List Int} {k : Nat} {x : Int} (hk : ts[k]? = some x) (h : btw 1 x 5 = false) : typesB ts = false := by
  unfold typesB
  rw [Bool.and_eq_false_iff]
  right
  rw [List.all_eq_false]
  refine ⟨x, List.mem_of_getElem? hk, ?_⟩
  rw [btw_not] at h
  simpa using h
theorem typesB_ok {ts : List Int} (h : 1 ≤ ts.length ∧ ts.length ≤ 4) (ha : ∀ i x, i < ts.length → ts[i]? = some x → btw 1 x 5 = true) : typesB ts = true := by
  unfold typesB
  rw [decide_eq_true h, Bool.true_and, List.all_eq_true]
  intro x hx
  obtain ⟨i, hi, rfl⟩ := List.getElem_of_mem hx
  have := btw_iff.1 (ha i _ hi (List.getElem?_eq_getElem hi))
  simpa using this
set_option maxHeartbeats 1000000 in
theorem valid_any {B : Nat} {v : Value} {ts : List Int} {w : World} (h : NRd w B v ts) :
    Calls Try.prog 32 #[v] w fun e w' => e = .returned (.bool (typesB ts)) ∧ w = w' := by
  obtain ⟨A, cap, rfl, hn, hm⟩ := h.is
  have H := Lib.hid h
  clear h
  obtain ⟨L, hL⟩ : ∃ L, L = ts.length := ⟨_, rfl⟩
  rw [← hL]
  rw [← hL] at hn
  have HL := Lib.hid hL
  clear hL
  unfold maxLen at hm
  by_cases hl : (1 : Int) ≤ (L : Int) ∧ (L : Int) ≤ 4
  · go_enter Try.func32, Try.ntmps32
    go_wp2_with (go_at_call 47; (with_reducible refine (within_yes _ hl).mono ?_); rintro e w' ⟨rfl, rfl⟩)
    go_loopw [11] (fun i wr => ∃ k : Nat, k ≤ L ∧ i = .int .i64 k ∧ (∀ i x, i < k → ts[i]? = some x → btw 1 x 5 = true) ∧ w = wr) (fun i _ => L - (intOf i).toNat)
    case atStart => exact ⟨0, by omega, rfl, fun i x hi => by omega, rfl⟩
    case round =>
      obtain ⟨k, hk, rfl, ha, rfl⟩ := hrel
      have HA := Lib.hid ha
      clear ha
      by_cases hkn : k < L
      · obtain ⟨x, hx⟩ : ∃ x, ts[k]? = some x := ⟨_, List.getElem?_eq_getElem (by rw [← HL.out]; exact hkn)⟩
        have h' := H.out
        rw [← HL.out] at h'
        obtain ⟨g, o, rfl, hg, d1⟩ := h'.num hx
        have HX := Lib.hid hx
        clear h' hx hg
        have i1 : (0 : Int) ≤ (k : Int) := by omega
        have i2 : (k : Int) < (L : Int) := by omega
        cases hb : btw 1 x 5
        · have HB := Lib.hid hb
          clear hb
          have hc := within_no w (btw_not.1 HB.out)
          go_wp2_with (go_at_call 47; (with_reducible refine (hc).mono ?_); rintro e w' ⟨rfl, rfl⟩)
          go_ret
          exact ⟨ret_bool (typesB_bad HX.out HB.out).symm, rfl⟩
        · have HB := Lib.hid hb
          clear hb
          have hc := within_yes w (btw_iff.1 HB.out)
          go_wp2_with (go_at_call 47; (with_reducible refine (hc).mono ?_); rintro e w' ⟨rfl, rfl⟩)
          go_roundw
          case rel => exact ⟨k + 1, by omega, by go_num, fun j y hj hy => by
            rcases Nat.lt_or_ge j k with h | h
            · exact HA.out j y h hy
            · obtain rfl : j = k := by omega
              rw [HX.out] at hy
              injection hy with hy
              subst hy
              exact HB.out, by trivial⟩
          case measure => simp [intOf]; omega
      · obtain rfl : k = L := by omega
        go_wp2_with fail
        go_ret
        exact ⟨ret_bool (typesB_ok (by rw [← HL.out]; omega) (by rw [← HL.out]; exact HA.out)).symm, rfl⟩
  · go_enter Try.func32, Try.ntmps32
    go_wp2_with (go_at_call 47; (with_reducible refine (within_no _ hl).mono ?_); rintro e w' ⟨rfl, rfl⟩)
    go_ret
    exact ⟨ret_bool (typesB_len (by rw [← HL.out]; omega)).symm, rfl⟩
end Go.Proofs.Ytphhbojdolhieaa
