/-
  slices.Compact over sets in order; slices.Clone.
-/
import Derived.Test.YtfjanniojphdoaaDoorURow
import Derived.Lib.SliceRun
import Derived.OwnWalk
namespace Go.Proofs.YtfjanniojphdoaaDoor
open Go.RowKit
set_option maxRecDepth 20000

theorem zero_u16 (w : World) : (zeroValue 22).run Tryd.prog w = .ok (.int .u16 0) w := Tryd.zeroValue22 w

/-- Cells behind the first k may change. -/
theorem URow.cells_past {g k : Nat} {f : Nat → Nat} : ∀ (vs : List Value) (o : Nat) (w : World), k ≤ o → URow w g k f → URow (w.setCells g o vs) g k f
  | [], _, _, _, h => h
  | v :: vs, o, w, ho, h => by
    obtain ⟨cur, hl, hs, hc⟩ := h
    refine URow.cells_past vs (o + 1) _ (by omega) ⟨_, Lies.set_ hl o v, by simpa using hs, fun j hj => ?_⟩
    rw [Array.getElem?_setIfInBounds, if_neg (by omega)]
    exact hc j hj

theorem setCells_below {g : Nat} {a : World} : ∀ (vs : List Value) (o : Nat) (w : World), Below g a w → Below g a (w.setCells g o vs)
  | [], _, _, h => h
  | v :: vs, o, _, h => setCells_below vs (o + 1) _ (Below.setCell h (Nat.le_refl g) v)

/-- What is left: the first k of h, each of the first n of f once, in order. -/
structure CRes (w : World) (g n : Nat) (f : Nat → Nat) (k : Nat) (h : Nat → Nat) (wr : World) : Prop where
  below : Below g w wr
  row : URow wr g k h
  le : k ≤ n
  strict : ∀ p q, p < q → q < k → h p < h q
  vals : Vals n f k h

theorem compact_few (A : Option Addr) (n cap : Nat) (w : World) (hn : n < 2) :
    Calls Tryd.prog 57 #[.slice A n cap] w fun e w' => e = .returned (.slice A n cap) ∧ w = w' := by
  have h1 : (n : Int) < 2 := by omega
  go_enter Tryd.func57, Tryd.ntmps57
  go_wp2_with fail
  go_ret
  exact ⟨rfl, rfl⟩

set_option maxHeartbeats 2000000 in
theorem compact_any (g n cap : Nat) (f : Nat → Nat) (w : World) (h2 : 2 ≤ n) (hn : n ≤ 12) (hcap : n ≤ cap) (hr : URow w g n f) (hS : Srt id f n) :
    Calls Tryd.prog 57 #[.slice (some ⟨g, 0, none⟩) n cap] w fun e w' => ∃ k h, e = .returned (.slice (some ⟨g, 0, none⟩) k cap) ∧ 0 < k ∧ CRes w g n f k h w' := by
  have h1 : ¬ (n : Int) < 2 := by omega
  have HR := Lib.hid (And.intro hr hS)
  clear hr hS
  go_enter Tryd.func57, Tryd.ntmps57
  go_wp2_with fail
  go_loopw [3] (fun i wr => ∃ k : Nat, 0 < k ∧ k ≤ n ∧ i = .int .i64 k ∧ (∀ p q, p < q → q < k → f p < f q) ∧ ∃ nq, wr = w.drewN nq) (fun i _ => n - (intOf i).toNat)
  case atStart => exact ⟨1, by omega, by omega, rfl, fun p q hpq hq => by omega, 0, rfl⟩
  case round =>
    obtain ⟨k, hk0, hk, rfl, hs, q0, rfl⟩ := hrel
    have HS := Lib.hid hs
    clear hs
    by_cases hkn : k < n
    · have d1 := HR.out.1.cell (j := k) (by omega)
      have d2 := HR.out.1.cell (j := k - 1) (by omega)
      have j1 : (0 : Int) ≤ (k : Int) - 1 := by omega
      have j2 : (k : Int) < (n : Int) := by omega
      have j3 : (k : Int) - 1 < (n : Int) := by omega
      have hw : IntKind.i64.wrap ((k : Int) - 1) = ((k - 1 : Nat) : Int) := by rw [IntKind.wrap_i64]; omega
      have hle : f (k - 1) ≤ f k := HR.out.2 (k - 1) k (by omega) hkn
      generalize hx : f k = x at d1 hle
      generalize hy : f (k - 1) = y at d2 hle
      have HX := Lib.hid (And.intro hx hy)
      clear hx hy
      by_cases hxy : x = y
      · subst hxy
        clear hle
        go_wp2_with fail
        go_quiet (fail)
        go_wp2_with fail
        obtain ⟨k0, hk0'⟩ : ∃ k0 : Nat, k0 = k := ⟨_, rfl⟩
        obtain ⟨L, hL⟩ : ∃ L : Nat, L = n - k := ⟨_, rfl⟩
        obtain ⟨C, hC⟩ : ∃ C : Nat, C = cap - k := ⟨_, rfl⟩
        have hst : Cmp n f f k (k + 1) := Cmp.start hk0 hkn HS.out (by rw [HX.out.1, HX.out.2])
        rw [← hL, ← hC]
        rw [← hk0']
        have hKL : k0 + L = n := by omega
        have hL1 : 1 ≤ L := by omega
        clear d1 d2 hL hC j1 j2 j3 hw hk0 hk hkn HX HS
        subst hk0'
        have hw0 : Below g w (w.drewN (q0 + nq)) := uBelowN (Below.refl _ _) _
        have HS := Lib.hid hst
        have hU0 : URow (w.drewN (q0 + nq)) g n f := HR.out.1
        clear hst
        go_loopw [3, 5] (fun a i wr => ∃ k b : Nat, 0 < b ∧ k0 + b ≤ n ∧ i = .int .i64 b ∧ a = .int .i64 k ∧ ∃ h, Cmp n f h k (k0 + b) ∧ Below g w wr ∧ URow wr g n h) (fun _ i _ => L - (intOf i).toNat)
        case atStart => exact ⟨k0, 1, by omega, by omega, rfl, rfl, f, HS.out, hw0, hU0⟩
        case round =>
          clear hw0 hU0 HS
          obtain ⟨k, b, hb0, hb, rfl, rfl, h, hC, hB, hU⟩ := hrel
          have hkm := hC.lt
          by_cases hbn : b < L
          · have d1 := hU.cell (j := k0 + b) (by omega)
            have d2 := hU.cell (j := k0 + (b - 1)) (by omega)
            have ck := hU.cell (j := k) (by omega)
            have hf := hU.free
            rw [hC.tail (k0 + b) (by omega) (by omega)] at d1
            rw [hC.tail (k0 + (b - 1)) (by omega) (by omega)] at d2
            have hle : f (k0 + (b - 1)) ≤ f (k0 + b) := HR.out.2 (k0 + (b - 1)) (k0 + b) (by omega) (by omega)
            have j0 : (0 : Int) ≤ (b : Int) := by omega
            have j1 : (0 : Int) ≤ (b : Int) - 1 := by omega
            have j2 : (b : Int) < (L : Int) := by omega
            have j3 : (b : Int) - 1 < (L : Int) := by omega
            have hw : IntKind.i64.wrap ((b : Int) - 1) = ((b - 1 : Nat) : Int) := by rw [IntKind.wrap_i64]; omega
            have j4 : ((b - 1 : Nat) : Int) < (L : Int) := by omega
            have k1 : (0 : Int) ≤ (k : Int) := by omega
            have k2 : (k : Int) < (n : Int) := by omega
            have hw2 : IntKind.i64.wrap ((k : Int) + 1) = ((k + 1 : Nat) : Int) := by rw [IntKind.wrap_i64]; omega
            have hm1 : k0 + b - 1 = k0 + (b - 1) := by omega
            generalize hx : f (k0 + b) = x at d1 hle
            generalize hy : f (k0 + (b - 1)) = y at d2 hle
            have HX := Lib.hid (And.intro hx (And.intro hy hm1))
            have HC := Lib.hid (And.intro hC (And.intro hB hU))
            clear hx hy hm1 hC hB hU
            by_cases hxy : x = y
            · subst hxy
              clear hle
              go_wp2_with fail
              go_quiet (fail)
              go_wp2_with fail
              go_roundw
              case rel => exact ⟨k, b + 1, by omega, by omega, by go_num, rfl, h, HC.out.1.skip (by omega) (by rw [HX.out.2.2, HX.out.1, HX.out.2.1]), uBelowN HC.out.2.1 _, HC.out.2.2⟩
              case measure => simp [intOf]; omega
            · have hz : ((x : Int) != (y : Int)) = true := by rw [bne_iff_ne]; omega
              have hlt : y < x := by omega
              have HL := Lib.hid hlt
              clear hle hlt hxy
              go_wp2_with fail
              go_quiet (fail)
              go_wp2_with fail
              go_roundw
              case rel =>
                have hC2 := HC.out.1.keep (by omega) (by rw [HX.out.2.2, HX.out.1, HX.out.2.1]; exact HL.out)
                rw [HX.out.1] at hC2
                exact ⟨k + 1, b + 1, by omega, by omega, by go_num, by go_num, _, hC2, Below.setCell (uBelowN HC.out.2.1 _) (Nat.le_refl _) _, URow.set_ (URow.drewN HC.out.2.2 _) (by omega) x⟩
              case measure => simp [intOf]; omega
          · have hbL : k0 + b = n := by omega
            rw [hbL] at hC
            have hkn : k < n := by omega
            have hcl := fun ty => Lib.run_clear_slice (P := Tryd.prog) wr 67 22 ty (.int .u16 0) Tryd.underlying67 zero_u16 rfl rfl g k (n - k) (cap - k) (by omega) (fun j hj => by rw [hU.cell (by omega)]; rfl) (fun j hj => hU.free _)
            have HC := Lib.hid (And.intro hC (And.intro hB hU))
            have k1 : (0 : Int) ≤ (k : Int) := by omega
            have k2 : (k : Int) ≤ (cap : Int) := by omega
            have k3 : (k : Int) ≤ (n : Int) := by omega
            clear hC hB hU
            go_wp2_with fail
            go_ret
            exact ⟨k, h, rfl, HC.out.1.pos, setCells_below _ _ _ HC.out.2.1, URow.cells_past _ _ _ (Nat.le_refl _) (HC.out.2.2.less (by omega)), by omega, HC.out.1.strict, Vals.of_cmp HC.out.1⟩
      · have hz : ((x : Int) == (y : Int)) = false := by rw [beq_eq_false_iff_ne]; omega
        go_wp2_with fail
        go_quiet (fail)
        go_wp2_with fail
        go_roundw
        case rel => exact ⟨k + 1, by omega, by omega, by go_num, fun p q hpq hq => by
          rcases Nat.lt_or_ge q k with h | h
          · exact HS.out p q hpq h
          · obtain rfl : q = k := by omega
            have h3 : f (q - 1) < f q := by rw [HX.out.1, HX.out.2]; omega
            rcases Nat.lt_or_ge p (q - 1) with h' | h'
            · exact Nat.lt_trans (HS.out p (q - 1) h' (by omega)) h3
            · obtain rfl : p = q - 1 := by omega
              exact h3, _, rfl⟩
        case measure => simp [intOf]; omega
    · obtain rfl : k = n := by omega
      go_wp2_with fail
      go_ret
      exact ⟨k, f, rfl, by omega, uBelowN (Below.refl _ _) _, HR.out.1, Nat.le_refl _, HS.out, Vals.of_strict HS.out⟩
end Go.Proofs.YtfjanniojphdoaaDoor
