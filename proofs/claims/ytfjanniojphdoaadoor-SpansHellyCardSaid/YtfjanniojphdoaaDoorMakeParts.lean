/-
  Contracts of spans.increasing, slices.Index over sets, spans.lastWithout; a new slice of spans.
-/
import Derived.Test.YtfjanniojphdoaaDoorClone
import Derived.Test.YtfjanniojphdoaaDoorMakePure
import Derived.Test.YtfjanniojphdoaaDoorPred
import Derived.Test.YtfjanniojphdoaaDoorSpOf
namespace Go.Proofs.YtfjanniojphdoaaDoor
open Go.RowKit
set_option maxRecDepth 20000

theorem andNot_any (x y : Nat) (hx : x < 65536) (hy : y < 65536) : (bits BinOp.andNot IntKind.u16 (x : Int) (y : Int) != 0) = ((x &&& (65535 - y)) != 0) := by
  rw [u16_andNot_nat _ _ hx hy, Bool.eq_iff_iff, bne_iff_ne, bne_iff_ne]
  omega

set_option maxHeartbeats 1000000 in
theorem inc_any (g k cap : Nat) (h : Nat → Nat) (w : World) (hk : k ≤ 12) (hh : ∀ p, p < k → h p < 65536) (hU : URow w g k h) :
    Calls Tryd.prog 51 #[.slice (some ⟨g, 0, none⟩) k cap] w fun e w' => e = .returned (.bool (incUp h k)) ∧ Below w.heap.size w w' := by
  have HU := Lib.hid (And.intro hU hh)
  clear hU hh
  go_enter Tryd.func51, Tryd.ntmps51
  go_wp2_with fail
  go_loopw [3] (fun i wr => ∃ p : Nat, 0 < p ∧ (p ≤ k ∨ p = 1) ∧ i = .int .i64 p ∧ (∀ q, 0 < q → q < p → h (q - 1) &&& (65535 - h q) = 0) ∧ ∃ nq, wr = w.drewN nq) (fun i _ => k - (intOf i).toNat)
  case atStart => exact ⟨1, by omega, by omega, rfl, fun q h1 h2 => by omega, 0, rfl⟩
  case round =>
    obtain ⟨p, hp0, hp, rfl, hs, q0, rfl⟩ := hrel
    have HS := Lib.hid hs
    clear hs
    by_cases hpk : p < k
    · have d1 := HU.out.1.cell (j := p) hpk
      have d2 := HU.out.1.cell (j := p - 1) (by omega)
      have hv := andNot_any (h (p - 1)) (h p) (HU.out.2 (p - 1) (by omega)) (HU.out.2 p hpk)
      have j0 : (0 : Int) ≤ (p : Int) := by omega
      have j1 : (0 : Int) ≤ (p : Int) - 1 := by omega
      have j2 : (p : Int) < (k : Int) := by omega
      have j3 : (p : Int) - 1 < (k : Int) := by omega
      have hw : IntKind.i64.wrap ((p : Int) - 1) = ((p - 1 : Nat) : Int) := by rw [IntKind.wrap_i64]; omega
      generalize hx : h p = x at d1 hv
      generalize hy : h (p - 1) = y at d2 hv
      by_cases hz : y &&& (65535 - x) = 0
      · have HX := Lib.hid (And.intro hx (And.intro hy hz))
        rw [hz] at hv
        have hv' : (bits BinOp.andNot IntKind.u16 (y : Int) (x : Int) != 0) = false := hv
        clear hx hy hz hv
        go_wp2_with fail
        go_quiet (fail)
        go_wp2_with fail
        go_roundw
        case rel => exact ⟨p + 1, by omega, by omega, by go_num, fun q h1 h2 => by
          rcases Nat.lt_or_ge q p with h3 | h3
          · exact HS.out q h1 h3
          · obtain rfl : q = p := by omega
            rw [HX.out.1, HX.out.2.1]
            exact HX.out.2.2, _, rfl⟩
        case measure => simp [intOf]; omega
      · have HX := Lib.hid (And.intro hx (And.intro hy hz))
        have hv' : (bits BinOp.andNot IntKind.u16 (y : Int) (x : Int) != 0) = true := by rw [hv, bne_iff_ne]; exact hz
        clear hx hy hz hv
        go_wp2_with fail
        go_quiet (fail)
        go_wp2_with fail
        go_ret
        refine ⟨ret_bool (Eq.symm ?_), uBelowN (uBelowN (Below.refl _ _) _) _⟩
        rw [← Bool.not_eq_true, incUp_iff]
        intro ha
        have h4 := ha p hp0 hpk
        rw [HX.out.1, HX.out.2.1] at h4
        exact HX.out.2.2 h4
    · go_wp2_with fail
      go_ret
      refine ⟨ret_bool (Eq.symm ?_), uBelowN (Below.refl _ _) _⟩
      rw [incUp_iff]
      exact fun q h1 h2 => HS.out q h1 (by omega)

theorem indexU_any (g k cap : Nat) (h : Nat → Nat) (p x : Nat) (w : World) (hk : k ≤ 12) (hp : p < k) (hx : h p = x) (hu : ∀ q, q < p → h q ≠ x) (hU : URow w g k h) :
    Calls Tryd.prog 52 #[.slice (some ⟨g, 0, none⟩) k cap, .int .u16 x] w fun e w' => e = .returned (.int .i64 p) ∧ w = w' := by
  have HU := Lib.hid (And.intro hU (And.intro hx hu))
  clear hU hx hu
  go_enter Tryd.func52, Tryd.ntmps52
  go_wp2_with fail
  go_loopw [8] (fun i wr => ∃ q : Nat, q ≤ p ∧ i = .int .i64 q ∧ w = wr) (fun i _ => k - (intOf i).toNat)
  case atStart => exact ⟨0, by omega, rfl, rfl⟩
  case round =>
    obtain ⟨q, hq, rfl, rfl⟩ := hrel
    have d1 := HU.out.1.cell (j := q) (by omega)
    have j0 : (0 : Int) ≤ (q : Int) := by omega
    have j2 : (q : Int) < (k : Int) := by omega
    by_cases hqp : q = p
    · subst hqp
      rw [HU.out.2.1] at d1
      go_wp2_with fail
      go_ret
      exact ⟨rfl, rfl⟩
    · have hne := HU.out.2.2 q (by omega)
      generalize h q = y at d1 hne
      have hz : ((x : Int) == (y : Int)) = false := by rw [beq_eq_false_iff_ne]; omega
      clear hne
      go_wp2_with fail
      go_roundw
      case rel => exact ⟨q + 1, by omega, by go_num, by trivial⟩
      case measure => simp [intOf]; omega

theorem last_any (g k cap : Nat) (h : Nat → Nat) (i : Nat) (w : World) (hk : k ≤ 12) (hi : i < 12) (hh : ∀ p, p < k → h p < 65536) (hU : URow w g k h) :
    Calls Tryd.prog 53 #[.slice (some ⟨g, 0, none⟩) k cap, .int .i64 i] w fun e w' => e = .returned (.int .i64 (lastW h i k)) ∧ w = w' := by
  have HU := Lib.hid (And.intro hU hh)
  clear hU hh
  go_enter Tryd.func53, Tryd.ntmps53
  go_wp2_with fail
  go_loopw [5, 10] (fun a t wr => ∃ q : Nat, q ≤ k ∧ t = .int .i64 q ∧ a = .int .i64 (lastW h i q) ∧ w = wr) (fun _ t _ => k - (intOf t).toNat)
  case atStart => exact ⟨0, by omega, rfl, rfl, rfl⟩
  case round =>
    obtain ⟨q, hq, rfl, rfl, rfl⟩ := hrel
    by_cases hqk : q < k
    · have d1 := HU.out.1.cell (j := q) hqk
      have hl := HU.out.2 q hqk
      have j0 : (0 : Int) ≤ (q : Int) := by omega
      have j2 : (q : Int) < (k : Int) := by omega
      have hs : lastW h i (q + 1) = if (h q).testBit i = true then lastW h i q else (q : Int) := rfl
      generalize h q = y at d1 hl hs
      cases hb : y.testBit i
      · rw [hb, if_neg (by decide)] at hs
        have HS := Lib.hid hs
        have HB := Lib.hid hb
        clear hs hb
        generalize lastW h i q = L
        go_wp2_with (go_at_call 54; refine (shas_no y i _ hl (by omega) HB.out).mono ?_; rintro e w' ⟨rfl, rfl⟩)
        go_roundw
        case rel => exact ⟨q + 1, by omega, by go_num, by rw [HS.out], by trivial⟩
        case measure => simp [intOf]; omega
      · rw [hb, if_pos rfl] at hs
        have HS := Lib.hid hs
        have HB := Lib.hid hb
        clear hs hb
        generalize lastW h i q = L at HS ⊢
        go_wp2_with (go_at_call 54; refine (shas_yes y i _ hl (by omega) HB.out).mono ?_; rintro e w' ⟨rfl, rfl⟩)
        go_roundw
        case rel => exact ⟨q + 1, by omega, by go_num, by rw [HS.out], by trivial⟩
        case measure => simp [intOf]; omega
    · obtain rfl : q = k := by omega
      go_wp2_with fail
      go_ret
      exact ⟨rfl, rfl⟩

/-- The cells of N numbers in a block of spans. -/
def spCs (N : Nat) (f : Nat → Int) : Array Value := (Array.range N).map fun i => .int .i64 (f i)
def SpB (w : World) (g N : Nat) (f : Nat → Int) : Prop := Lies w g 54 (spCs N f)
theorem spCs_get (N : Nat) (f : Nat → Int) (i : Nat) (h : i < N) : (spCs N f)[i]? = some (.int .i64 (f i)) := by
  simp [spCs, h]
theorem spCs_set (N : Nat) (f : Nat → Int) (i : Nat) (x : Int) : (spCs N f).setIfInBounds i (.int .i64 x) = spCs N (fun j => if j = i then x else f j) := by
  apply Array.ext_getElem?
  intro j
  rw [Array.getElem?_setIfInBounds]
  by_cases h : i = j
  · subst h
    by_cases hi : i < N <;> simp [spCs, hi]
  · rw [if_neg h]
    by_cases hj : j < N <;> simp [spCs, hj, show ¬ j = i from fun e => h e.symm]
section
variable {w : World} {g N : Nat} {f : Nat → Int}
theorem SpB.cell (h : SpB w g N f) {i : Nat} (hi : i < N) : w.cell? ⟨g, i, none⟩ = some (.int .i64 (f i)) := by
  rw [Lies.cell h, spCs_get N f i hi]
theorem SpB.free (h : SpB w g N f) (i : Nat) : w.frozen? ⟨g, i, none⟩ = false := Lies.frozen h i
theorem SpB.set_ (h : SpB w g N f) (i : Nat) (x : Int) : SpB (w.setCell ⟨g, i, none⟩ (.int .i64 x)) g N (fun j => if j = i then x else f j) :=
  Lies.cast (Lies.set_ h i (.int .i64 x)) (spCs_set N f i x)
theorem SpB.rd {m : Nat} (h : SpB w g (m * 2) f) (c : Nat) : SRd w (g + 1) (.slice (some ⟨g, 0, none⟩) m c) m (fun i => f (i * 2)) (fun i => f (i * 2 + 1)) :=
  ⟨_, c, rfl, fun _ => ⟨g, 0, rfl, by omega, fun j hj => ⟨by rw [Nat.zero_add]; exact h.cell (by omega), by rw [Nat.zero_add]; exact h.cell (by omega)⟩⟩⟩
end

theorem info_span : (Tryd.prog.info? 54).map (fun i => (i.zero, i.size, i.bytes)) = some (some (.agg #[.int .i64 0, .int .i64 0]), 2, 16) := by kernel_rfl

theorem made_spans (N : Nat) (hN : N ≤ 12) (w : World) :
    (Instr.makeSlice 48 (.int .i64 N) (.int .i64 N)).run Tryd.prog w = .ok (.slice (some ⟨w.heap.size, 0, none⟩) N N) (w.alloc (.cells (spCs (N * 2) fun _ => 0) 54)) := by
  obtain ⟨i0, hi, hz0, hz1, hz2⟩ := info_parts info_span
  rw [run_make w 48 54 i0 (.agg #[.int .i64 0, .int .i64 0]) Tryd.underlying48 hi hz0 .i64 .i64 N N (by omega) (by omega) (by rw [hz2]; omega) (by omega), hz1]
  simp only [Int.toNat_natCast]
  congr 3
  apply Array.ext
  · simp [spCs, madeCells]
  · intro j h1 h2
    rcases Nat.mod_two_eq_zero_or_one j with h | h <;> simp [spCs, madeCells, Value.cells, h]
end Go.Proofs.YtfjanniojphdoaaDoor
