/-
  Slices that read as spans; the contract of spans.Check.
-/
import Derived.Test.YtndcgliopckllaaProg
import Derived.Test.YtndcgliopckllaaHas
import Derived.Test.YtndcgliopckllaaSpanPure
import Derived.WalkKit
import Derived.Deep.QuietTactic
import Derived.BigQuiet
import Derived.Lib.Hide
namespace Go.Proofs.Ytndcgliopckllaa
open Go.RowKit
set_option maxRecDepth 20000

/-- The value v is a slice of m spans, from F i to T i, in a block below B. -/
def SRd (w : World) (B : Nat) (v : Value) (m : Nat) (F T : Nat → Int) : Prop :=
  ∃ A cap, v = .slice A m cap ∧ (0 < m → ∃ g o, A = some ⟨g, o, none⟩ ∧ g < B ∧ ∀ j, j < m → w.cell? ⟨g, o + j * 2, none⟩ = some (.int .i64 (F j)) ∧ w.cell? ⟨g, o + j * 2 + 1, none⟩ = some (.int .i64 (T j)))
theorem SRd.below {w w' : World} {B m : Nat} {v : Value} {F T : Nat → Int} (h : SRd w B v m F T) (hb : Below B w w') : SRd w' B v m F T := by
  obtain ⟨A, cap, hv, h2⟩ := h
  refine ⟨A, cap, hv, fun h0 => ?_⟩
  obtain ⟨g, o, hA, hg, hc⟩ := h2 h0
  exact ⟨g, o, hA, hg, fun j hj => ⟨(hb.cell (p := ⟨g, o + j * 2, none⟩) hg).trans (hc j hj).1, (hb.cell (p := ⟨g, o + j * 2 + 1, none⟩) hg).trans (hc j hj).2⟩⟩
theorem SRd.mono {w : World} {B B' m : Nat} {v : Value} {F T : Nat → Int} (h : SRd w B v m F T) (hB : B ≤ B') : SRd w B' v m F T := by
  obtain ⟨A, cap, hv, h2⟩ := h
  refine ⟨A, cap, hv, fun h0 => ?_⟩
  obtain ⟨g, o, hA, hg, hc⟩ := h2 h0
  exact ⟨g, o, hA, by omega, hc⟩

/-- The test as the code makes it: all three fail, or one holds. -/
theorem spOk_ways (f t : Int) : (decide (f < 0) = false ∧ decide (t < f) = false ∧ decide (1000000 < t) = false ∧ decide (0 ≤ f ∧ f ≤ t ∧ t ≤ 1000000) = true) ∨
    ((decide (f < 0) || decide (t < f) || decide (1000000 < t)) = true ∧ decide (0 ≤ f ∧ f ≤ t ∧ t ≤ 1000000) = false) := by
  by_cases h1 : f < 0
  · right; simp [h1] <;> omega
  by_cases h2 : t < f
  · right; simp [h2] <;> omega
  by_cases h3 : 1000000 < t
  · right; simp [h3] <;> omega
  left
  simp [h1, h2, h3] <;> omega
theorem spOk_at {F T : Nat → Int} {k : Nat} {f t : Int} {b : Bool} (hf : F k = f) (ht : T k = t) (h : decide (0 ≤ f ∧ f ≤ t ∧ t ≤ 1000000) = b) : spOk F T k = b := by
  subst hf
  subst ht
  exact h
theorem spAll_not {F T : Nat → Int} {k m : Nat} (hk : k < m) (h : spOk F T k = false) : ¬ spAll F T m = true := by
  rw [spAll_iff]
  intro ha
  rw [ha k hk] at h
  cases h

set_option maxHeartbeats 1000000 in
theorem chk_any {B m : Nat} {v : Value} {F T : Nat → Int} {w : World} (h : SRd w B v m F T) (hB : B ≤ w.heap.size) :
    Calls Try.prog 40 #[v] w fun e w' => e = .returned (.int .i64 (spErr m F T)) ∧ Below w.heap.size w w' := by
  by_cases hm : 12 < m
  · obtain ⟨A, c, rfl, k⟩ := h
    clear k
    have e : spErr m F T = 2 := if_pos hm
    rw [e]
    have h1 : 12 < (m : Int) := by omega
    go_enter Try.func40, Try.ntmps40
    go_wp2_with fail
    go_ret
    exact ⟨rfl, Below.refl _ _⟩
  have e : spErr m F T = if spAll F T m = true then 0 else 3 := if_neg hm
  have H := Lib.hid (And.intro h (And.intro hB e))
  obtain ⟨A, c, rfl, k⟩ := h
  have h1 : ¬ 12 < (m : Int) := by omega
  clear k e hB
  go_enter Try.func40, Try.ntmps40
  go_wp2_with fail
  go_loopw [10] (fun i wr => ∃ k : Nat, k ≤ m ∧ i = .int .i64 k ∧ spAll F T k = true ∧ Below w.heap.size w wr) (fun i _ => m - (intOf i).toNat)
  case atStart => exact ⟨0, by omega, rfl, rfl, Below.refl _ _⟩
  case round =>
    obtain ⟨k, hk, rfl, ha, hb⟩ := hrel
    have HA := Lib.hid (And.intro ha hb)
    by_cases hkm : k < m
    · obtain ⟨A', c', hv, hp⟩ := H.out.1.below (hb.mono H.out.2.1)
      obtain ⟨g, o, hA, hg, hc⟩ := hp (by omega)
      injection hv with hv1 hv2 hv3
      subst hv1
      subst hA
      clear hp hb ha
      have d1 := (hc k hkm).1
      have d2 := (hc k hkm).2
      clear hc
      have i1 : (0 : Int) ≤ (k : Int) := by omega
      have i2 : (k : Int) < (m : Int) := by omega
      generalize hf : F k = f at d1
      generalize ht : T k = t at d2
      have HF := Lib.hid (And.intro hf ht)
      clear hf ht
      rcases spOk_ways f t with hw | hw
      · obtain ⟨hn1, hn2, hn3, hok⟩ := hw
        have HN := Lib.hid hok
        clear hok
        go_wp2_with fail
        go_roundw
        case rel => exact ⟨k + 1, by omega, by go_num, by rw [spAll, HA.out.1, spOk_at HF.out.1 HF.out.2 HN.out]; rfl, HA.out.2.alloc HA.out.2.size _⟩
        case measure => simp [intOf]; omega
      · obtain ⟨hor, hno⟩ := hw
        have HN := Lib.hid hno
        clear hno
        go_wp2_with fail
        all_goals (
          go_ret
          exact ⟨ret_int (H.out.2.2.trans (if_neg (spAll_not hkm (spOk_at HF.out.1 HF.out.2 HN.out)))).symm, HA.out.2.alloc HA.out.2.size _⟩)
    · obtain rfl : k = m := by omega
      go_wp2_with fail
      go_ret
      exact ⟨ret_int (H.out.2.2.trans (if_pos HA.out.1)).symm, HA.out.2⟩
theorem SRd.addr {w : World} {B m c : Nat} {A : Option Addr} {F T : Nat → Int} (h : SRd w B (.slice A m c) m F T) (h0 : 0 < m) : ∃ g o, A = some ⟨g, o, none⟩ ∧ g < B := by
  obtain ⟨A', c', hv, hp⟩ := h
  injection hv with h1 h2 h3
  subst h1
  obtain ⟨g, o, hA, hg, hc⟩ := hp h0
  exact ⟨g, o, hA, hg⟩
theorem SRd.cells {w : World} {B m c g o : Nat} {F T : Nat → Int} (h : SRd w B (.slice (some ⟨g, o, none⟩) m c) m F T) {j : Nat} (hj : j < m) :
    w.cell? ⟨g, o + j * 2, none⟩ = some (.int .i64 (F j)) ∧ w.cell? ⟨g, o + j * 2 + 1, none⟩ = some (.int .i64 (T j)) := by
  obtain ⟨A', c', hv, hp⟩ := h
  injection hv with h1 h2 h3
  subst h1
  obtain ⟨g', o', hA, hg, hc⟩ := hp (by omega)
  injection hA with hA
  injection hA with hA1 hA2
  subst hA1
  subst hA2
  exact hc j hj
theorem SRd.is {w : World} {B m : Nat} {v : Value} {F T : Nat → Int} (h : SRd w B v m F T) : ∃ A c, v = .slice A m c := by
  obtain ⟨A, c, hv, _⟩ := h
  exact ⟨A, c, hv⟩

end Go.Proofs.Ytndcgliopckllaa
