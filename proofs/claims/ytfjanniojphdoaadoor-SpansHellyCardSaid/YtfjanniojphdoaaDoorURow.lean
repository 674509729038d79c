/-
  A block whose first n cells hold sets; slices.insertionSortOrdered over it.
-/
import Derived.Test.YtfjanniojphdoaaDoorMem
import Derived.Test.YtfjanniojphdoaaDoorSortPure
import Derived.Deep.QuietTactic
import Derived.BigQuiet
import Derived.Lib.Hide
namespace Go.Proofs.YtfjanniojphdoaaDoor
open Go.RowKit
set_option maxRecDepth 20000

def URow (w : World) (g n : Nat) (f : Nat → Nat) : Prop := ∃ cur : Array Value, Lies w g 22 cur ∧ n ≤ cur.size ∧ ∀ j, j < n → cur[j]? = some (.int .u16 (f j : Nat))
section
variable {w w' : World} {g n : Nat} {f : Nat → Nat}
theorem URow.cell (h : URow w g n f) {j : Nat} (hj : j < n) : w.cell? ⟨g, j, none⟩ = some (.int .u16 (f j : Nat)) := by
  obtain ⟨cur, hl, _, hc⟩ := h
  rw [Lies.cell hl]
  exact hc j hj
theorem URow.free (h : URow w g n f) (j : Nat) : w.frozen? ⟨g, j, none⟩ = false := by
  obtain ⟨cur, hl, _, _⟩ := h
  exact Lies.frozen hl j
theorem URow.lt (h : URow w g n f) : g < w.heap.size := by
  obtain ⟨cur, hl, _, _⟩ := h
  exact Lies.lt hl
theorem URow.below {B : Nat} (h : URow w g n f) (hb : Below B w w') (hg : g < B) : URow w' g n f := by
  obtain ⟨cur, hl, h2⟩ := h
  exact ⟨cur, Lies.below hl hb hg, h2⟩
theorem URow.drew (h : URow w g n f) : URow w.drew g n f := h
theorem URow.drewN (h : URow w g n f) (k : Nat) : URow (w.drewN k) g n f := h
theorem URow.alloc (h : URow w g n f) (o : Obj) : URow (w.alloc o) g n f := by
  obtain ⟨cur, hl, h2⟩ := h
  exact ⟨cur, Lies.alloc hl o, h2⟩
theorem URow.set_ (h : URow w g n f) {k : Nat} (hk : k < n) (x : Nat) : URow (w.setCell ⟨g, k, none⟩ (.int .u16 x)) g n (fun i => if i = k then x else f i) := by
  obtain ⟨cur, hl, hs, hc⟩ := h
  refine ⟨_, Lies.set_ hl k (.int .u16 x), by simpa using hs, fun j hj => ?_⟩
  rw [Array.getElem?_setIfInBounds]
  by_cases e : k = j
  · subst e
    rw [if_pos rfl, if_pos (by omega)]
    simp
  · rw [if_neg e, hc j hj]
    simp [show ¬ j = k from fun h => e h.symm]
theorem URow.congr {f' : Nat → Nat} (h : URow w g n f) (e : ∀ i, i < n → f i = f' i) : URow w g n f' := by
  obtain ⟨cur, hl, hs, hc⟩ := h
  exact ⟨cur, hl, hs, fun j hj => by rw [hc j hj, e j hj]⟩
theorem URow.far {p : Addr} (h : URow w g n f) (hp : g ≠ p.block) (u : Value) : URow (w.setCell p u) g n f := by
  obtain ⟨cur, hl, h2⟩ := h
  exact ⟨cur, Lies.far hl hp u, h2⟩
theorem URow.less {m : Nat} (h : URow w g n f) (hm : m ≤ n) : URow w g m f := by
  obtain ⟨cur, hl, hs, hc⟩ := h
  exact ⟨cur, hl, by omega, fun j hj => hc j (by omega)⟩
end

theorem nan_any (x : Int) (w : World) : Calls Tryd.prog 87 #[.int .u16 x] w fun e w' => e = .returned (.bool false) ∧ w = w' := by
  go_enter Tryd.func87, Tryd.ntmps87
  go_wp2
  go_ret
  exact ⟨rfl, rfl⟩
theorem less_any (x y : Int) (w : World) : Calls Tryd.prog 69 #[.int .u16 x, .int .u16 y] w fun e w' => e = .returned (.bool (decide (x < y))) ∧ w = w' := by
  go_enter Tryd.func69, Tryd.ntmps69
  go_wp2_with (go_at_call 87; refine (nan_any _ _).mono ?_; rintro e w' ⟨rfl, rfl⟩)
  go_ret
  exact ⟨rfl, rfl⟩

theorem uBelowN {B : Nat} {a w : World} (h : Below B a w) (n : Nat) : Below B a (w.drewN n) := ⟨h.os, h.tape, h.output, h.size, h.block⟩

structure SRel (w : World) (g n : Nat) (f0 f : Nat → Nat) (wr : World) : Prop where
  below : Below g w wr
  row : URow wr g n f
  same : Same n f0 f
theorem SRel.drew {w wr : World} {g n : Nat} {f0 f : Nat → Nat} (h : SRel w g n f0 f wr) : SRel w g n f0 f wr.drew := ⟨h.below.drew, h.row, h.same⟩
theorem SRel.swp {w wr : World} {g n j : Nat} {f0 f : Nat → Nat} (h : SRel w g n f0 f wr) (h0 : 0 < j) (hj : j < n) :
    SRel w g n f0 (swp f j) ((wr.setCell ⟨g, j, none⟩ (.int .u16 (f (j - 1) : Nat))).setCell ⟨g, j - 1, none⟩ (.int .u16 (f j : Nat))) :=
  ⟨(h.below.setCell (Nat.le_refl _) _).setCell (Nat.le_refl _) _, ((h.row.set_ hj (f (j - 1))).set_ (by omega) (f j)).congr (fun i _ => by
    unfold Go.Proofs.YtfjanniojphdoaaDoor.swp
    rfl), h.same.trans (Same.swp f h0 hj)⟩

set_option maxHeartbeats 2000000 in
theorem insert_any (g n cap : Nat) (f : Nat → Nat) (w : World) (hn : n ≤ 12) (hr : URow w g n f) :
    Calls Tryd.prog 63 #[.slice (some ⟨g, 0, none⟩) n cap, .int .i64 0, .int .i64 n] w fun e w' => e = .returned (.tuple #[]) ∧ ∃ h, SRel w g n f h w' ∧ Srt id h n := by
  by_cases hn0 : n = 0
  · subst hn0
    go_enter Tryd.func63, Tryd.ntmps63
    go_wp2_with fail
    go_loopw [6] (fun i wr => i = .int .i64 1 ∧ wr = w) (fun _ _ => 0)
    case atStart => exact ⟨rfl, rfl⟩
    case round =>
      obtain ⟨rfl, rfl⟩ := hrel
      go_wp2_with fail
      first | refine bodyPost_end (results_none rfl _ _ _) rfl ?_ | refine bodyPost_ret (results_none rfl _ _ _) rfl ?_
      exact ⟨rfl, f, ⟨Below.refl _ _, hr, Same.refl _ _⟩, fun p q hpq hq => by omega⟩
  have hR0 : SRel w g n f f w := ⟨Below.refl _ _, hr, Same.refl _ _⟩
  have HR0 := Lib.hid hR0
  clear hr hR0
  go_enter Tryd.func63, Tryd.ntmps63
  go_wp2_with fail
  go_loopw [6] (fun i wr => ∃ k : Nat, 0 < k ∧ k ≤ n ∧ i = .int .i64 k ∧ ∃ h, SRel w g n f h wr ∧ Srt id h k) (fun i _ => n - (intOf i).toNat)
  case atStart => exact ⟨1, by omega, by omega, rfl, f, HR0.out, fun p q hpq hq => by omega⟩
  case round =>
    clear HR0
    obtain ⟨k, hk0, hk, rfl, h, hR, hS⟩ := hrel
    have H := Lib.hid (And.intro hR hS)
    clear hR hS
    by_cases hkn : k < n
    · go_wp2_with fail
      obtain ⟨wo, rfl⟩ : ∃ wo : World, wo = wr := ⟨_, rfl⟩
      go_loopw [7] (fun i wr => ∃ j : Nat, j ≤ k ∧ i = .int .i64 j ∧ ∃ h, SRel w g n f h wr ∧ Ins id h k j) (fun i _ => (intOf i).toNat)
      case atStart => exact ⟨k, by omega, rfl, h, H.out.1, Ins.start H.out.2⟩
      case round =>
        clear H
        obtain ⟨j, hj, rfl, h, hR, hI⟩ := hrel
        by_cases hj0 : j = 0
        · subst hj0
          have H := Lib.hid (And.intro hR hI)
          clear hR hI
          go_wp2_with fail
          go_quiet (fail)
          go_wp2_with fail
          go_roundw
          case rel => exact ⟨k + 1, by omega, by omega, by go_num, h, ⟨uBelowN H.out.1.below _, H.out.1.row, H.out.1.same⟩, Ins.stop H.out.2 (Or.inl rfl)⟩
          case measure => simp [intOf]; omega
        · have d1 := hR.row.cell (j := j) (by omega)
          have d2 := hR.row.cell (j := j - 1) (by omega)
          have hf := hR.row.free
          have H := Lib.hid (And.intro hR hI)
          clear hR hI
          have j0 : (0 : Int) < (j : Int) := by omega
          have j1 : (0 : Int) ≤ (j : Int) - 1 := by omega
          have j2 : (j : Int) < (n : Int) := by omega
          have j3 : (j : Int) - 1 < (n : Int) := by omega
          have hw : IntKind.i64.wrap ((j : Int) - 1) = ((j - 1 : Nat) : Int) := by rw [IntKind.wrap_i64]; omega
          have ht : ((j : Int) - 1).toNat = j - 1 := by omega
          generalize hx : h j = x at d1
          generalize hy : h (j - 1) = y at d2
          have HX := Lib.hid (And.intro hx hy)
          clear hx hy
          by_cases hxy : x < y
          · have hlt : (x : Int) < (y : Int) := by omega
            go_wp2_with fail
            have jn : 0 < j := by omega
            go_quiet ((go_at_call 69; exact Calls.quiet_of_same ((less_any _ _ _).mono fun _ _ h => ⟨h.1, h.2.symm⟩)))
            go_wp2_with fail
            have j1' : (0 : Int) ≤ (j : Int) - 1 := by omega
            go_region
            have h1 : SRel w g n f (swp h j) (((wr.drewN (nq + 1)).setCell ⟨g, j, none⟩ (.int .u16 (y : Nat))).setCell ⟨g, j - 1, none⟩ (.int .u16 (x : Nat))) := by
              have h0 : SRel w g n f h (wr.drewN (nq + 1)) := ⟨uBelowN H.out.1.below _, H.out.1.row, H.out.1.same⟩
              have h2 := h0.swp jn (by omega)
              rw [HX.out.1, HX.out.2] at h2
              exact h2
            have h2 : Ins id (swp h j) k (j - 1) := H.out.2.step jn (by show h j < h (j - 1); rw [HX.out.1, HX.out.2]; exact hxy)
            clear d1 d2
            generalize ((wr.drewN (nq + 1)).setCell ⟨g, j, none⟩ (.int .u16 (y : Nat))).setCell ⟨g, j - 1, none⟩ (.int .u16 (x : Nat)) = w5 at h1 ⊢
            have HN := Lib.hid (And.intro h1 h2)
            clear h1 h2
            go_wp2_with fail
            go_roundw
            case rel => exact ⟨j - 1, by omega, by go_num, _, HN.out⟩
            case measure => simp [intOf]; omega
          · have hlt : ¬ (x : Int) < (y : Int) := by omega
            go_wp2_with fail
            have jn : 0 < j := by omega
            go_quiet ((go_at_call 69; exact Calls.quiet_of_same ((less_any _ _ _).mono fun _ _ h => ⟨h.1, h.2.symm⟩)))
            go_wp2_with fail
            go_roundw
            case rel => exact ⟨k + 1, by omega, by omega, by go_num, h, ⟨uBelowN H.out.1.below _, H.out.1.row, H.out.1.same⟩, Ins.stop H.out.2 (Or.inr (by show h (j - 1) ≤ h j; rw [HX.out.1, HX.out.2]; omega))⟩
            case measure => simp [intOf]; omega
    · obtain rfl : k = n := by omega
      go_wp2_with fail
      first | refine bodyPost_end (results_none rfl _ _ _) rfl ?_ | refine bodyPost_ret (results_none rfl _ _ _) rfl ?_
      exact ⟨rfl, h, H.out⟩
end Go.Proofs.YtfjanniojphdoaaDoor
