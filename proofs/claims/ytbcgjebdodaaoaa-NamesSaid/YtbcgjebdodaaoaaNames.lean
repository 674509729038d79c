/-
  PROVED HERE: the law 'Names' (a closed sentence on the numbers of errors, kinds and types, and the limits) holds: the Go function returns true. No condition.
-/
import Derived.Test.YtbcgjebdodaaoaaRows
import Derived.Test.YtbcgjebdodaaoaaRd
import Derived.Test.YtbcgjebdodaaoaaEnd
import Derived.WalkKit
import Derived.ProofKit
import Derived.OpenShut
namespace Go.Proofs.Ytbcgjebdodaaoaa
open Go.RowKit Go.ChangeShapes Go.WideShapes Go.ChangeAt

theorem lit_rd (w : World) (xs : List Int) (cs : Array Value) (n : Nat) (hn : xs.length = n) (hcs : cs = (xs.map (Value.int .i64)).toArray) : IRd (w.alloc (.cells cs 3)) (w.heap.size + 1) (.slice (some ⟨w.heap.size, 0, none⟩) n n) xs := by
  subst hcs
  subst hn
  refine ⟨_, _, rfl, fun _ => ⟨w.heap.size, rfl, by omega, fun j hj => ?_⟩⟩
  rw [cell_of_row _ w.heap.size j _ 3 (0, 0) (heap_alloc_new w _)]
  simp [hj]
theorem rd_alloc {w : World} {B : Nat} {v : Value} {xs : List Int} (h : IRd w B v xs) (hB : B ≤ w.heap.size) (o : Obj) : IRd (w.alloc o) B v xs := h.below ((Below.refl B w).alloc hB o)

theorem cells8 (w : World) (t : TypeId) (k : Nat) (h : k < 8) : (w.alloc (.cells #[.int .i64 0, .int .i64 1, .int .i64 2, .int .i64 3, .int .i64 4, .int .i64 5, .int .i64 6, .int .i64 7] t)).cell? ⟨w.heap.size, k, none⟩ = some (.int .i64 k) := by
  rw [cell_of_row _ w.heap.size k _ t (0, 0) (heap_alloc_new w _)]
  have h : k = 0 ∨ k = 1 ∨ k = 2 ∨ k = 3 ∨ k = 4 ∨ k = 5 ∨ k = 6 ∨ k = 7 := by omega
  rcases h with rfl | rfl | rfl | rfl | rfl | rfl | rfl | rfl <;> rfl
theorem cells9 (w : World) (t : TypeId) (k : Nat) (h : k < 9) : (w.alloc (.cells #[.int .i64 0, .int .i64 1, .int .i64 2, .int .i64 3, .int .i64 4, .int .i64 5, .int .i64 6, .int .i64 7, .int .i64 8] t)).cell? ⟨w.heap.size, k, none⟩ = some (.int .i64 k) := by
  rw [cell_of_row _ w.heap.size k _ t (0, 0) (heap_alloc_new w _)]
  have h : k = 0 ∨ k = 1 ∨ k = 2 ∨ k = 3 ∨ k = 4 ∨ k = 5 ∨ k = 6 ∨ k = 7 ∨ k = 8 := by omega
  rcases h with rfl | rfl | rfl | rfl | rfl | rfl | rfl | rfl | rfl <;> rfl
theorem cells11 (w : World) (t : TypeId) (k : Nat) (h : k < 11) : (w.alloc (.cells #[.int .i64 0, .int .i64 1, .int .i64 2, .int .i64 3, .int .i64 4, .int .i64 5, .int .i64 6, .int .i64 7, .int .i64 8, .int .i64 9, .int .i64 10] t)).cell? ⟨w.heap.size, k, none⟩ = some (.int .i64 k) := by
  rw [cell_of_row _ w.heap.size k _ t (0, 0) (heap_alloc_new w _)]
  have h : k = 0 ∨ k = 1 ∨ k = 2 ∨ k = 3 ∨ k = 4 ∨ k = 5 ∨ k = 6 ∨ k = 7 ∨ k = 8 ∨ k = 9 ∨ k = 10 := by omega
  rcases h with rfl | rfl | rfl | rfl | rfl | rfl | rfl | rfl | rfl | rfl | rfl <;> rfl

def few : List Int := [1, 2, 3, 4, 5, 1, 2, 3, 4, 1, 2, 3, 4, 0, 1, 2, 0, 1, 2, 3, 4, 1, 2, 3, 4, 1, 2, 3]
def lims : List Int := [12, 1000000, 8, 4, 200, 1000, 50, 9, 300, 5, 12, 1000, 200, 60, 7]
abbrev fewCs : Array Value := #[.int .i64 1, .int .i64 2, .int .i64 3, .int .i64 4, .int .i64 5, .int .i64 1, .int .i64 2, .int .i64 3, .int .i64 4, .int .i64 1, .int .i64 2, .int .i64 3, .int .i64 4, .int .i64 0, .int .i64 1, .int .i64 2, .int .i64 0, .int .i64 1, .int .i64 2, .int .i64 3, .int .i64 4, .int .i64 1, .int .i64 2, .int .i64 3, .int .i64 4, .int .i64 1, .int .i64 2, .int .i64 3]
abbrev limCs : Array Value := #[.int .i64 12, .int .i64 1000000, .int .i64 8, .int .i64 4, .int .i64 200, .int .i64 1000, .int .i64 50, .int .i64 9, .int .i64 300, .int .i64 5, .int .i64 12, .int .i64 1000, .int .i64 200, .int .i64 60, .int .i64 7]

set_option maxHeartbeats 2000000 in
theorem names_walk (w : World) :
    Calls Try.prog 3 #[] w fun e w' => e = .returned (.bool true) ∧ Below w.heap.size w w' := by
  have h8 := fun W => cells8 W 22
  have h9 := fun W => cells9 W 3
  have h11 := fun W => cells11 W 3
  have H8 := Lib.hid h8
  have H9 := Lib.hid h9
  have H11 := Lib.hid h11
  clear h8 h9 h11
  go_enter Try.func3, Try.ntmps3
  go_wp2_with fail
  go_loop [11] (fun i => ∃ k : Nat, k ≤ 8 ∧ i = .int .i64 k) (fun i => 8 - (intOf i).toNat)
  case atStart => exact ⟨0, by omega, rfl⟩
  case round =>
    obtain ⟨k, hk, rfl⟩ := hrel
    by_cases hlt : k < 8
    · have hc := H8.out w k hlt
      go_wp2_with fail
      go_round
      case rel => exact ⟨k + 1, by omega, by go_num⟩
      case measure => simp [intOf]; omega
    · have hk8 : k = 8 := by omega
      subst hk8
      clear hk hlt
      go_wp2_with fail
      go_loop [22] (fun i => ∃ k : Nat, k ≤ 11 ∧ i = .int .i64 k) (fun i => 11 - (intOf i).toNat)
      case atStart => exact ⟨0, by omega, rfl⟩
      case round =>
        obtain ⟨k, hk, rfl⟩ := hrel
        by_cases hlt : k < 11
        · have hc := H11.out (w.alloc (.cells #[.int .i64 0, .int .i64 1, .int .i64 2, .int .i64 3, .int .i64 4, .int .i64 5, .int .i64 6, .int .i64 7] 22)) k hlt
          rw [World.size_alloc] at hc
          go_wp2_with fail
          go_round
          case rel => exact ⟨k + 1, by omega, by go_num⟩
          case measure => simp [intOf]; omega
        · have hk11 : k = 11 := by omega
          subst hk11
          clear hk hlt
          go_wp2_with fail
          go_loop [33] (fun i => ∃ k : Nat, k ≤ 9 ∧ i = .int .i64 k) (fun i => 9 - (intOf i).toNat)
          case atStart => exact ⟨0, by omega, rfl⟩
          case round =>
            obtain ⟨k, hk, rfl⟩ := hrel
            by_cases hlt : k < 9
            · have hc := H9.out ((w.alloc (.cells #[.int .i64 0, .int .i64 1, .int .i64 2, .int .i64 3, .int .i64 4, .int .i64 5, .int .i64 6, .int .i64 7] 22)).alloc (.cells #[.int .i64 0, .int .i64 1, .int .i64 2, .int .i64 3, .int .i64 4, .int .i64 5, .int .i64 6, .int .i64 7, .int .i64 8, .int .i64 9, .int .i64 10] 3)) k hlt
              rw [World.size_alloc, World.size_alloc] at hc
              go_wp2_with fail
              go_round
              case rel => exact ⟨k + 1, by omega, by go_num⟩
              case measure => simp [intOf]; omega
            · have hk9 : k = 9 := by omega
              subst hk9
              clear hk hlt
              have hB : ∀ o1 o2 o3 : Obj, Below w.heap.size w (((w.alloc o1).alloc o2).alloc o3) := fun o1 o2 o3 => (((Below.refl _ _).alloc (Nat.le_refl _) o1).alloc (by simp) o2).alloc (by simp; omega) o3
              have hZ : ∀ o1 o2 o3 : Obj, w.heap.size + 1 + 1 + 1 = (((w.alloc o1).alloc o2).alloc o3).heap.size := fun o1 o2 o3 => by simp
              have HB := Lib.hid (hB (.cells #[.int .i64 0, .int .i64 1, .int .i64 2, .int .i64 3, .int .i64 4, .int .i64 5, .int .i64 6, .int .i64 7] 22) (.cells #[.int .i64 0, .int .i64 1, .int .i64 2, .int .i64 3, .int .i64 4, .int .i64 5, .int .i64 6, .int .i64 7, .int .i64 8, .int .i64 9, .int .i64 10] 3) (.cells #[.int .i64 0, .int .i64 1, .int .i64 2, .int .i64 3, .int .i64 4, .int .i64 5, .int .i64 6, .int .i64 7, .int .i64 8] 3))
              have HZ := Lib.hid (hZ (.cells #[.int .i64 0, .int .i64 1, .int .i64 2, .int .i64 3, .int .i64 4, .int .i64 5, .int .i64 6, .int .i64 7] 22) (.cells #[.int .i64 0, .int .i64 1, .int .i64 2, .int .i64 3, .int .i64 4, .int .i64 5, .int .i64 6, .int .i64 7, .int .i64 8, .int .i64 9, .int .i64 10] 3) (.cells #[.int .i64 0, .int .i64 1, .int .i64 2, .int .i64 3, .int .i64 4, .int .i64 5, .int .i64 6, .int .i64 7, .int .i64 8] 3))
              clear hB hZ H8 H9 H11
              generalize (((w.alloc (.cells #[.int .i64 0, .int .i64 1, .int .i64 2, .int .i64 3, .int .i64 4, .int .i64 5, .int .i64 6, .int .i64 7] 22)).alloc (.cells #[.int .i64 0, .int .i64 1, .int .i64 2, .int .i64 3, .int .i64 4, .int .i64 5, .int .i64 6, .int .i64 7, .int .i64 8, .int .i64 9, .int .i64 10] 3)).alloc (.cells #[.int .i64 0, .int .i64 1, .int .i64 2, .int .i64 3, .int .i64 4, .int .i64 5, .int .i64 6, .int .i64 7, .int .i64 8] 3)) = w3 at HB HZ ⊢
              go_wp2_with fail
              have hF := lit_rd w3 few fewCs 28 rfl rfl
              have hL := lit_rd (w3.alloc (.cells fewCs 3)) lims limCs 15 rfl rfl
              have hG := lit_rd ((w3.alloc (.cells fewCs 3)).alloc (.cells limCs 3)) few fewCs 28 rfl rfl
              have hF' := rd_alloc (rd_alloc hF (by simp) (.cells limCs 3)) (by simp) (.cells fewCs 3)
              have hL' := rd_alloc hL (by simp) (.cells fewCs 3)
              rw [World.size_alloc] at hL'
              rw [World.size_alloc, World.size_alloc] at hG
              refine (equal_same hF' hG (by decide)).mono ?_
              rintro e w4 ⟨rfl, hb4⟩
              have hL4 : IRd w4 (w3.heap.size + 1 + 1) (.slice (some ⟨w3.heap.size + 1, 0, none⟩) 15 15) lims := hL'.below (hb4.mono (by simp))
              have hz4 : w3.heap.size + 1 + 1 + 1 ≤ w4.heap.size := by have := hb4.size; simpa using this
              have hb3 : Below w3.heap.size w3 w4 := ((((Below.refl w3.heap.size w3).alloc (Nat.le_refl _) (.cells fewCs 3)).alloc (by simp) (.cells limCs 3)).alloc (by simp; omega) (.cells fewCs 3)).trans (hb4.mono (by simp; omega))
              have HL4 := Lib.hid hL4
              have HB3 := Lib.hid hb3
              have HZ4 := Lib.hid hz4
              clear hF hL hG hF' hL' hL4 hb4 hb3 hz4
              go_wp2_with fail
              have hM := lit_rd w4 lims limCs 15 rfl rfl
              have hN := rd_alloc HL4.out (by have := HZ4.out; omega) (.cells limCs 3)
              refine (equal_same hN hM (by decide)).mono ?_
              rintro e w5 ⟨rfl, hb5⟩
              have hz3 := HZ.out
              have hfin : Below w.heap.size w w5 := (HB.out.trans (HB3.out.mono (by omega))).trans (((Below.refl w4.heap.size w4).alloc (Nat.le_refl _) (.cells limCs 3)).trans (hb5.mono (by simp)) |>.mono (by have := HZ4.out; omega))
              have HFIN := Lib.hid hfin
              clear hM hN hb5 hz3 hfin HL4 HB3 HZ4 HB HZ
              go_wp2_with fail
              go_ret
              exact ⟨rfl, HFIN.out⟩
theorem names_own : ownKnob Try.prog.godebug = none := by kernel_rfl

set_option maxRecDepth 100000 in
theorem names_lifted (os : Os) (started : os.Started) (H : Type) (enc : TypeId × Value → H) :
    ReturnsInHanded {} Try.checked os 3 .any (Rows.namesSpec.pre6 enc Try.prog Try.f3 Rows.namesRow.domain false) (Rows.namesSpec.post enc Try.prog Try.f3 false true false false) := by
  refine returnsInHanded_of_change (C := Try.checked) names_own started (by kernel_rfl) Try.func3
    (ChangeSpec.witness6 (enc := enc) (C := Try.checked) false ⟨#[], #[], []⟩ 8 (by kernel_rfl) (by kernel_rfl) (by kernel_rfl) (by kernel_rfl)) ?_
  intro W base args ds gs before hval0 hW hcnd _
  have hval : ∀ (j : Nat) t v, Try.f3.params[j]? = some t → args[j]? = some v → Value.okWide Try.prog W .any base t v := hval0
  have hW' := hW
  obtain ⟨p, q, hA0, hV, rfl, hfz, hnd⟩ := hW
  have hA : DataW.TrodAll enc Try.prog W 0 (fun _ => true) true Try.f3.params.toList args.toList ds p := hA0
  rw [Try.params3] at hA hval
  obtain ⟨rfl, rfl, rfl⟩ := trodAll_none hA
  obtain ⟨rfl, rfl⟩ := trodVars_none hV
  clear hA0 hval0
  simp only [List.append_nil] at hW'
  refine (names_walk W).mono fun e W' ⟨he, hb⟩ => ?_
  subst he
  exact ⟨_, rfl, end_of_below (pa := []) (pv := []) hW' hb rfl (fun _ _ _ => trodAll_cons_mk (shut_bool Try.underlying4 _) trodAll_mk0) (fun _ _ => rfl) (fun _ _ => rfl) (ok_one (by kernel_rfl) rfl (okWide_bool_mk Try.underlying4 _))⟩

theorem names_over : Rows.namesRow.holds Try.pinned (OpenSpec.ofChange Rows.namesSpec) :=
  OpenClaim.holds_of_wide 3 Try.f3 rfl rfl rfl rfl rfl rfl rfl ⟨rfl, rfl, rfl, rfl, rfl⟩ rfl rfl rfl rfl rfl (by kernel_rfl) Try.func3 (by kernel_rfl)
    (of_decide_eq_true (by kernel_rfl)) (by unfold Func.isWrapper; first | (rw [if_pos (by decide +kernel)]; kernel_rfl) | (rw [if_neg (by decide +kernel)]; exact ⟨rfl, rfl⟩))
    (fun os started H enc _ => names_lifted os started H enc)

/-- ████ THE STATEMENT ████ -/
theorem names_holds : Rows.NamesSaid :=
  names_over
#print axioms names_holds
end Go.Proofs.Ytbcgjebdodaaoaa
