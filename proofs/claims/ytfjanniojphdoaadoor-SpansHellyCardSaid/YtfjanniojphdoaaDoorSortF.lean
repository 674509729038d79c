/-
  slices.SortFunc over sets, by their sizes, at twelve or fewer.
-/
import Derived.Test.YtfjanniojphdoaaDoorSort
namespace Go.Proofs.YtfjanniojphdoaaDoor
open Go.RowKit
set_option maxRecDepth 20000

theorem pop_16 (x : Nat) : pop x ≤ 16 := popN_le 16 x
theorem cmp_any (x y : Nat) (w : World) (hx : x < 65536) (hy : y < 65536) :
    Calls Tryd.prog 59 #[.int .u16 x, .int .u16 y] w fun e w' => e = .returned (.int .i64 ((pop x : Int) - pop y)) ∧ ∃ q, w' = w.drewN q := by
  have h1 := pop_16 x
  have h2 := pop_16 y
  have hw : IntKind.i64.wrap ((pop x : Int) - pop y) = (pop x : Int) - pop y := by rw [IntKind.wrap_i64]; omega
  go_enter Tryd.func59, Tryd.ntmps59
  go_wp2_with fail
  refine (ones_any x w hx).mono ?_
  rintro e w' ⟨rfl, q, rfl⟩
  go_wp2_with fail
  refine (ones_any y _ hy).mono ?_
  rintro e w' ⟨rfl, q2, rfl⟩
  go_wp2_with fail
  go_ret
  exact ⟨ret_int (by omega), q + q2, rfl⟩

set_option maxHeartbeats 2000000 in
theorem insertF_any (g n cap : Nat) (f : Nat → Nat) (w : World) (hn : n ≤ 12) (hb : ∀ i, i < n → f i < 65536) (hr : URow w g n f) :
    Calls Tryd.prog 74 #[.slice (some ⟨g, 0, none⟩) n cap, .int .i64 0, .int .i64 n, .func (.func 59) #[] #[]] w fun e w' => e = .returned (.tuple #[]) ∧ ∃ h, SRel w g n f h w' ∧ Srt pop h n := by
  have hR0 : SRel w g n f f w := ⟨Below.refl _ _, hr, Same.refl _ _⟩
  have HR0 := Lib.hid hR0
  have HB := Lib.hid hb
  clear hr hR0 hb
  go_enter Tryd.func74, Tryd.ntmps74
  go_wp2_with fail
  go_loopw [8] (fun i wr => ∃ k : Nat, 0 < k ∧ (k ≤ n ∨ k = 1) ∧ i = .int .i64 k ∧ ∃ h, SRel w g n f h wr ∧ Srt pop h k) (fun i _ => n - (intOf i).toNat)
  case atStart => exact ⟨1, by omega, by omega, rfl, f, HR0.out, fun p q hpq hq => by omega⟩
  case round =>
    clear HR0
    obtain ⟨k, hk0, hk, rfl, h, hR, hS⟩ := hrel
    have H := Lib.hid (And.intro hR hS)
    clear hR hS
    by_cases hkn : k < n
    · go_wp2_with fail
      obtain ⟨wo, rfl⟩ : ∃ wo : World, wo = wr := ⟨_, rfl⟩
      go_loopw [9] (fun i wr => ∃ j : Nat, j ≤ k ∧ i = .int .i64 j ∧ ∃ h, SRel w g n f h wr ∧ Ins pop h k j) (fun i _ => (intOf i).toNat)
      case atStart => exact ⟨k, by omega, rfl, h, H.out.1, Ins.start H.out.2⟩
      case round =>
        clear H
        obtain ⟨j, hj, rfl, h, hR, hI⟩ := hrel
        by_cases hj0 : j = 0
        · subst hj0
          have H := Lib.hid (And.intro hR hI)
          clear hR hI
          go_wp2_with fail
          go_quiet (fail)
          go_wp2_with fail
          go_roundw
          case rel => exact ⟨k + 1, by omega, by omega, by go_num, h, ⟨uBelowN H.out.1.below _, H.out.1.row, H.out.1.same⟩, Ins.stop H.out.2 (Or.inl rfl)⟩
          case measure => simp [intOf]; omega
        · have d1 := hR.row.cell (j := j) (by omega)
          have d2 := hR.row.cell (j := j - 1) (by omega)
          have hf := hR.row.free
          have bx : h j < 65536 := by
            obtain ⟨i, hi, e⟩ := hR.same.to j (by omega)
            rw [e]; exact HB.out i hi
          have by' : h (j - 1) < 65536 := by
            obtain ⟨i, hi, e⟩ := hR.same.to (j - 1) (by omega)
            rw [e]; exact HB.out i hi
          have H := Lib.hid (And.intro hR hI)
          clear hR hI
          have j0 : (0 : Int) < (j : Int) := by omega
          have j1 : (0 : Int) ≤ (j : Int) - 1 := by omega
          have j2 : (j : Int) < (n : Int) := by omega
          have j3 : (j : Int) - 1 < (n : Int) := by omega
          have hw : IntKind.i64.wrap ((j : Int) - 1) = ((j - 1 : Nat) : Int) := by rw [IntKind.wrap_i64]; omega
          have ht : ((j : Int) - 1).toNat = j - 1 := by omega
          generalize hx : h j = x at d1 bx
          generalize hy : h (j - 1) = y at d2 by'
          have hc := cmp_any x y
          have HC := Lib.hid (fun w => hc w bx by')
          have HX := Lib.hid (And.intro hx hy)
          clear hx hy hc bx by'
          by_cases hxy : pop x < pop y
          · have hlt : (pop x : Int) - pop y < 0 := by omega
            generalize (pop x : Int) - pop y = D at HC hlt
            go_wp2_with fail
            have jn : 0 < j := by omega
            have hlt' : D < 0 := by omega
            go_quiet ((go_at_call 59; exact Calls.quiet_of (HC.out _)))
            go_wp2_with fail
            have j1' : (0 : Int) ≤ (j : Int) - 1 := by omega
            go_region
            have h1 : SRel w g n f (swp h j) (((wr.drewN (nq + 1)).setCell ⟨g, j, none⟩ (.int .u16 (y : Nat))).setCell ⟨g, j - 1, none⟩ (.int .u16 (x : Nat))) := by
              have h0 : SRel w g n f h (wr.drewN (nq + 1)) := ⟨uBelowN H.out.1.below _, H.out.1.row, H.out.1.same⟩
              have h2 := h0.swp jn (by omega)
              rw [HX.out.1, HX.out.2] at h2
              exact h2
            have h2 : Ins pop (swp h j) k (j - 1) := H.out.2.step jn (by rw [HX.out.1, HX.out.2]; exact hxy)
            clear d1 d2
            generalize ((wr.drewN (nq + 1)).setCell ⟨g, j, none⟩ (.int .u16 (y : Nat))).setCell ⟨g, j - 1, none⟩ (.int .u16 (x : Nat)) = w5 at h1 ⊢
            have HN := Lib.hid (And.intro h1 h2)
            clear h1 h2
            go_wp2_with fail
            go_roundw
            case rel => exact ⟨j - 1, by omega, by go_num, _, HN.out⟩
            case measure => simp [intOf]; omega
          · have hlt : ¬ (pop x : Int) - pop y < 0 := by omega
            generalize (pop x : Int) - pop y = D at HC hlt
            go_wp2_with fail
            have jn : 0 < j := by omega
            have hlt' : ¬ D < 0 := by omega
            go_quiet ((go_at_call 59; exact Calls.quiet_of (HC.out _)))
            go_wp2_with fail
            go_roundw
            case rel => exact ⟨k + 1, by omega, by omega, by go_num, h, ⟨uBelowN H.out.1.below _, H.out.1.row, H.out.1.same⟩, Ins.stop H.out.2 (Or.inr (by rw [HX.out.1, HX.out.2]; omega))⟩
            case measure => simp [intOf]; omega
    · go_wp2_with fail
      first | refine bodyPost_end (results_none rfl _ _ _) rfl ?_ | refine bodyPost_ret (results_none rfl _ _ _) rfl ?_
      exact ⟨rfl, h, H.out.1, fun p q hpq hq => H.out.2 p q hpq (by omega)⟩

theorem pdqF_any (g n cap : Nat) (f : Nat → Nat) (l : Int) (w : World) (hn : n ≤ 12) (hb : ∀ i, i < n → f i < 65536) (hr : URow w g n f) :
    Calls Tryd.prog 62 #[.slice (some ⟨g, 0, none⟩) n cap, .int .i64 0, .int .i64 n, .int .i64 l, .func (.func 59) #[] #[]] w fun e w' => e = .returned (.tuple #[]) ∧ ∃ h, SRel w g n f h w' ∧ Srt pop h n := by
  have hc := insertF_any g n cap f w hn hb hr
  have h1 : (n : Int) ≤ 12 := by omega
  have HC := Lib.hid hc
  clear hc hr hb
  go_enter Tryd.func62, Tryd.ntmps62
  go_wp2_with fail
  go_loopw [1, 2] (fun a b wr => a = .int .i64 0 ∧ b = .int .i64 n ∧ wr = w) (fun _ _ _ => 0)
  case atStart => exact ⟨rfl, rfl, rfl⟩
  case round =>
    obtain ⟨rfl, rfl, rfl⟩ := hrel
    go_wp2_with fail
    refine HC.out.mono ?_
    rintro e w' ⟨rfl, hx⟩
    have HX := Lib.hid hx
    clear hx
    go_wp2_with fail
    first | refine bodyPost_end (results_none rfl _ _ _) rfl ?_ | refine bodyPost_ret (results_none rfl _ _ _) rfl ?_
    exact ⟨rfl, HX.out⟩

set_option maxHeartbeats 1000000 in
theorem sortF_any (g n cap : Nat) (f : Nat → Nat) (w : World) (hn : n ≤ 12) (hb : ∀ i, i < n → f i < 65536) (hr : URow w g n f) :
    Calls Tryd.prog 58 #[.slice (some ⟨g, 0, none⟩) n cap, .func (.func 59) #[] #[]] w fun e w' => e = .returned (.tuple #[]) ∧ ∃ h, SRel w g n f h w' ∧ Srt pop h n := by
  have hc := fun l => pdqF_any g n cap f l w hn hb hr
  have HC := Lib.hid hc
  have hw : IntKind.u64.wrap (n : Int) = (n : Int) := by rw [IntKind.wrap_u64]; omega
  clear hc hr hb
  go_enter Tryd.func58, Tryd.ntmps58
  go_wp2_with fail
  refine (len_any n w hn).mono ?_
  rintro e w' ⟨⟨l, rfl⟩, rfl⟩
  go_wp2_with fail
  refine (HC.out l).mono ?_
  rintro e w' ⟨rfl, hx⟩
  have HX := Lib.hid hx
  clear hx
  go_wp2_with fail
  first | refine bodyPost_end (results_none rfl _ _ _) rfl ?_ | refine bodyPost_ret (results_none rfl _ _ _) rfl ?_
  exact ⟨rfl, HX.out⟩

theorem insertF_none (A : Option Addr) (cap : Nat) (w : World) :
    Calls Tryd.prog 74 #[.slice A 0 cap, .int .i64 0, .int .i64 0, .func (.func 59) #[] #[]] w fun e w' => e = .returned (.tuple #[]) ∧ w = w' := by
  go_enter Tryd.func74, Tryd.ntmps74
  go_wp2_with fail
  go_loopw [8] (fun i wr => i = .int .i64 1 ∧ wr = w) (fun _ _ => 0)
  case atStart => exact ⟨rfl, rfl⟩
  case round =>
    obtain ⟨rfl, rfl⟩ := hrel
    go_wp2_with fail
    first | refine bodyPost_end (results_none rfl _ _ _) rfl ?_ | refine bodyPost_ret (results_none rfl _ _ _) rfl ?_
    exact ⟨rfl, rfl⟩
theorem pdqF_none (A : Option Addr) (cap : Nat) (l : Int) (w : World) :
    Calls Tryd.prog 62 #[.slice A 0 cap, .int .i64 0, .int .i64 0, .int .i64 l, .func (.func 59) #[] #[]] w fun e w' => e = .returned (.tuple #[]) ∧ w = w' := by
  go_enter Tryd.func62, Tryd.ntmps62
  go_wp2_with fail
  go_loopw [1, 2] (fun a b wr => a = .int .i64 0 ∧ b = .int .i64 0 ∧ wr = w) (fun _ _ _ => 0)
  case atStart => exact ⟨rfl, rfl, rfl⟩
  case round =>
    obtain ⟨rfl, rfl, rfl⟩ := hrel
    go_wp2_with fail
    refine (insertF_none A cap wr).mono ?_
    rintro e w' ⟨rfl, rfl⟩
    go_wp2_with fail
    first | refine bodyPost_end (results_none rfl _ _ _) rfl ?_ | refine bodyPost_ret (results_none rfl _ _ _) rfl ?_
    exact ⟨rfl, rfl⟩
theorem sortF_none (A : Option Addr) (cap : Nat) (w : World) :
    Calls Tryd.prog 58 #[.slice A 0 cap, .func (.func 59) #[] #[]] w fun e w' => e = .returned (.tuple #[]) ∧ w = w' := by
  go_enter Tryd.func58, Tryd.ntmps58
  go_wp2_with fail
  refine (len_any 0 w (by omega)).mono ?_
  rintro e w' ⟨⟨l, rfl⟩, rfl⟩
  go_wp2_with fail
  refine (pdqF_none A cap l w).mono ?_
  rintro e w' ⟨rfl, rfl⟩
  go_wp2_with fail
  first | refine bodyPost_end (results_none rfl _ _ _) rfl ?_ | refine bodyPost_ret (results_none rfl _ _ _) rfl ?_
  exact ⟨rfl, rfl⟩
end Go.Proofs.YtfjanniojphdoaaDoor
