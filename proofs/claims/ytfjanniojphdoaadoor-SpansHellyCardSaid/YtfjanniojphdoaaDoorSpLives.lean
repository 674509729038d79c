/-
  alibkeep.rel at whatever pairs; alibkeep.spansLives answers true.
-/
import Derived.Test.YtfjanniojphdoaaDoorMake
import Derived.Test.YtfjanniojphdoaaDoorOk
import Derived.Test.YtfjanniojphdoaaDoorSame
import Derived.Deep.RegionHeld3
namespace Go.Proofs.YtfjanniojphdoaaDoor
open Go.RowKit
set_option maxRecDepth 20000

/-- The relation of the first k pairs. -/
def pairsUp (x y : Nat → Nat) : Nat → Nat → Nat
  | 0 => fun _ => 0
  | k + 1 => fun i => if i = x k then pairsUp x y k i ||| 2 ^ y k else pairsUp x y k i
theorem pairsUp_lt (x y : Nat → Nat) {B : Nat} : ∀ k, (∀ j, j < k → y j < B) → ∀ i, pairsUp x y k i < 2 ^ B
  | 0, _, _ => Nat.two_pow_pos B
  | k + 1, hy, i => by
    have ih := pairsUp_lt x y k (fun j hj => hy j (by omega)) i
    show (if i = x k then pairsUp x y k i ||| 2 ^ y k else pairsUp x y k i) < 2 ^ B
    split
    · exact Nat.or_lt_two_pow ih (Nat.pow_lt_pow_right (by omega) (hy k (by omega)))
    · exact ih

set_option maxHeartbeats 1000000 in
theorem prel_any (n g p cap : Nat) (x y : Nat → Nat) (w : World) (hx : ∀ k, k < p → x k < 12) (hy : ∀ k, k < p → y k < 12) (hg : g < w.heap.size)
    (hc : ∀ k, k < p → w.cell? ⟨g, k * 2, none⟩ = some (.int .i64 (x k : Nat)) ∧ w.cell? ⟨g, k * 2 + 1, none⟩ = some (.int .i64 (y k : Nat))) (hp : p ≤ 100) :
    Calls Tryd.prog 42 #[.int .i64 n, .slice (some ⟨g, 0, none⟩) p cap] w fun e w' => e = .returned (relV n (pairsUp x y p)) ∧ Below w.heap.size w w' := by
  have hO : ORel w w.heap.size (w.heap.size + 1) n (pairsUp x y 0) ((w.alloc (.cells (relCs 0 fun _ => 0) 25)).alloc (.cells (relCs n fun _ => 0) 25)) := by
    have h3 := Lies.new (w.alloc (.cells (relCs 0 fun _ => 0) 25)) 25 (relCs n fun _ => 0)
    rw [World.size_alloc] at h3
    exact ⟨((Below.refl _ _).alloc (Nat.le_refl _) _).alloc (by simp) _, Lies.alloc (Lies.new _ _ _) _, h3, Nat.le_refl _, by omega⟩
  have HO := Lib.hid hO
  have H := Lib.hid (And.intro hc (And.intro hx hy))
  clear hO hc hx hy
  go_enter Tryd.func42, Tryd.ntmps42
  go_wp2_with fail
  have hO := HO.out
  clear HO
  change Code.wp _ _ _ _ ((w.alloc (.cells (relCs 0 fun _ => 0) 25)).alloc (.cells (relCs n fun _ => 0) 25))
  generalize (w.alloc (.cells (relCs 0 fun _ => 0) 25)).alloc (.cells (relCs n fun _ => 0) 25) = W at hO ⊢
  generalize w.heap.size + 1 = G at hO ⊢
  go_loopw [12] (fun i wr => ∃ k : Nat, k ≤ p ∧ i = .int .i64 k ∧ ORel w w.heap.size G n (pairsUp x y k) wr) (fun i _ => p - (intOf i).toNat)
  case atStart => exact ⟨0, by omega, rfl, hO⟩
  case round =>
    clear hO
    obtain ⟨k, hk, rfl, hO⟩ := hrel
    by_cases hkp : k < p
    · have hxk := H.out.2.1 k hkp
      have hyk := H.out.2.2 k hkp
      have d1 := (hO.below.cell (p := ⟨g, k * 2, none⟩) hg).trans (H.out.1 k hkp).1
      have d2 := (hO.below.cell (p := ⟨g, k * 2 + 1, none⟩) hg).trans (H.out.1 k hkp).2
      have ck := hO.own.row' hxk
      have fk := hO.own.free (1 + x k)
      have hlt : pairsUp x y k (x k) < 65536 := Nat.lt_of_lt_of_le (pairsUp_lt (B := 12) x y k (fun j hj => H.out.2.2 j (by omega)) (x k)) (by decide)
      have hst : pairsUp x y (k + 1) = fun i => if i = x k then pairsUp x y k (x k) ||| 2 ^ y k else pairsUp x y k i := by
        funext i
        show (if i = x k then pairsUp x y k i ||| 2 ^ y k else pairsUp x y k i) = _
        by_cases e : i = x k
        · rw [if_pos e, if_pos e, e]
        · rw [if_neg e, if_neg e]
      have HO := Lib.hid hO
      have hGl : G < wr.heap.size := hO.own.lt
      clear hO
      have i1 : (0 : Int) ≤ (k : Int) := by omega
      have i2 : (k : Int) < (p : Int) := by omega
      generalize hz : pairsUp x y k (x k) = z at ck hlt hst
      have HS := Lib.hid (And.intro hst hz)
      clear hst hz
      generalize x k = X at d1 ck fk hxk HS
      generalize y k = Y at d2 hyk HS
      have x1 : (0 : Int) ≤ (X : Int) := by omega
      have x2 : (X : Int) < 12 := by omega
      have ho := or_pow z Y hlt (by omega)
      have hpw := pow_u16 Y (by omega)
      go_wp2_with fail
      go_region
      have h1 : ORel w w.heap.size G n (pairsUp x y (k + 1)) ((wr.setCell ⟨G, 1 + X, none⟩ (.int .u16 ((z ||| 2 ^ Y : Nat) : Int))).alloc (.cells #[.int .i64 X, .int .i64 Y] 72)).drew := by
        rw [HS.out.1]
        exact ((HO.out.set_ hxk _).alloc _).drew
      clear ck fk d1 d2 ho hpw
      generalize ((wr.setCell ⟨G, 1 + X, none⟩ (.int .u16 ((z ||| 2 ^ Y : Nat) : Int))).alloc (.cells #[.int .i64 X, .int .i64 Y] 72)).drew = w5 at h1 ⊢
      have HX := Lib.hid h1
      clear h1 hGl
      go_wp2_with fail
      go_roundw
      case rel => exact ⟨k + 1, by omega, by go_num, HX.out⟩
      case measure => simp [intOf]; omega
    · obtain rfl : k = p := by omega
      have hr := hO.res.size
      obtain ⟨r0, r1, r2, r3, r4, r5, r6, r7, r8, r9, r10, r11⟩ := hO.res.rows
      have hc := hO.own.size
      obtain ⟨c0, c1, c2, c3, c4, c5, c6, c7, c8, c9, c10, c11⟩ := hO.own.rows
      have hf := hO.res.free
      go_wp2_with fail
      clear hr r0 r1 r2 r3 r4 r5 r6 r7 r8 r9 r10 r11 hc c0 c1 c2 c3 c4 c5 c6 c7 c8 c9 c10 c11 hf
      refine post_fill (W := wr) (g := w.heap.size) n (pairsUp x y k) hO.res hO.below (by omega) ?_
      intro wz hz hbz
      have hs := hz.size
      obtain ⟨c0, c1, c2, c3, c4, c5, c6, c7, c8, c9, c10, c11⟩ := hz.rows
      exact bodyPost_ret (v := relV n (pairsUp x y k))
        (by simp [results, Tryd.results42, go_sem, hs, c0, c1, c2, c3, c4, c5, c6, c7, c8, c9, c10, c11]) rfl ⟨rfl, hbz⟩

/-- What spans tell is a relation, and one of spans. -/
theorem spRel_good {m : Nat} {F T : Nat → Int} (hm : m ≤ 12) : Good m (spRel m F T) := by
  refine good_of hm (fun i _ => spRel_lt m F T hm i) (fun i _ j hj => ?_) (fun i _ hi => ?_)
  · rw [spRel_bit, Bool.and_eq_true, Bool.and_eq_true, decide_eq_true_iff, decide_eq_true_iff] at hj
    exact hj.1.2
  · unfold spRel
    rw [if_neg (by omega)]
theorem spRel_chain {m : Nat} {F T : Nat → Int} (h : ∀ i, i < m → F i ≤ T i) : Chain2 m (spRel m F T) := by
  have key : ∀ i j, i < m → j < m → F i ≤ F j → Subs (rev m (spRel m F T) i) (rev m (spRel m F T) j) := by
    intro i j hi hj hle t ht
    rw [rev_at] at ht ⊢
    obtain ⟨h1, _, h3⟩ := ht
    refine ⟨h1, hj, ?_⟩
    rw [spRel_bit] at h3 ⊢
    simp only [Bool.and_eq_true, decide_eq_true_iff] at h3 ⊢
    exact ⟨⟨h1, hj⟩, by omega⟩
  refine ⟨fun i j hi hj => ?_, fun i hi => ?_⟩
  · rcases Int.le_total (F i) (F j) with h1 | h1
    · exact Or.inl (key i j hi hj h1)
    · exact Or.inr (key j i hj hi h1)
  · rw [spRel_bit]
    have := h i hi
    simp
    omega

def lvF (i : Nat) : Int := if i = 0 then 0 else if i = 1 then 1 else 3
def lvT (i : Nat) : Int := if i = 0 then 2 else if i = 1 then 3 else 4
theorem lv_err : spErr 3 lvF lvT = 0 := by decide
theorem lv_best : bestUp 3 lvF lvT 3 = (1, 2) := by decide
theorem lv_chain : Chain2 3 (spRel 3 lvF lvT) := spRel_chain (by decide)
theorem lv_rel : ∀ i, i < 12 → spRel 3 lvF lvT i = pairsUp (fun _ => 0) (fun _ => 2) 1 i := by decide
theorem lv_from : frOf 3 (spRel 3 lvF lvT) 1 = 0 := by decide +kernel
theorem lv_to : toOf 3 (spRel 3 lvF lvT) 1 = 1 := by decide +kernel
def twoX (k : Nat) : Nat := if k = 0 then 0 else 2
def twoY (k : Nat) : Nat := if k = 0 then 1 else 3
theorem two_pairs : Good 4 (pairsUp twoX twoY 2) := ⟨by omega, by decide, by decide⟩
theorem two_no : ¬ Chain2 4 (pairsUp twoX twoY 2) := fun h => by
  rcases h.1 1 3 (by omega) (by omega) with h1 | h1
  · have := h1 0 (by decide)
    revert this
    decide
  · have := h1 2 (by decide)
    revert this
    decide
end Go.Proofs.YtfjanniojphdoaaDoor
