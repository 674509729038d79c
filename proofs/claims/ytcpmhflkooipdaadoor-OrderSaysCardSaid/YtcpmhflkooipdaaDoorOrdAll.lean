/-
  Contract of alibref.Orders, whole.
-/
import Derived.Test.YtcpmhflkooipdaaDoorOrdWalk
namespace Go.Proofs.YtcpmhflkooipdaaDoor
open Go.RowKit
set_option maxRecDepth 20000

theorem wrap_one : wrap64 ((1 : Nat) : Int) = 1 := by first | rfl | decide +kernel | simp [wrap64]

theorem IOwn.empty' {W : World} {base g : Nat} (hW : W.heap.size = g) (hg : base ≤ g) : IOwn (W.alloc (.cells #[] 3)) base (.slice (some ⟨g, 0, none⟩) 0 0) [] := by
  subst hW
  exact IOwn.empty (Lies.new _ _ _) hg
theorem ord_base (n : Nat) (a : Nat → Nat) (hle : n ≤ 12) (xs : List Int) (D : Nat) (v : Value) (w : World) (hf : xs.length = n) (hx : IRd w w.heap.size v xs) :
    Calls Tryd.prog 13 #[relV n a, v] w fun e w' => ∃ v', e = .returned (.tuple #[.int .i64 (wrap64 (ordC (rev n (clo n a)) n 0 D : Nat)), v']) ∧ IOwn w' w.heap.size v' (compL (rev n (clo n a)) n 0 D xs) ∧ Below w.heap.size w w' := by
  have hlen : ([] : List Int).length + xs.length ≤ 65536 := by simp; omega
  have h1 : ordC (rev n (clo n a)) n 0 D = 1 := rfl
  have h2 : compL (rev n (clo n a)) n 0 D xs = xs := rfl
  rw [h1, h2, wrap_one]
  clear h1 h2
  obtain ⟨A, cap, rfl, _⟩ := id hx
  rw [hf] at hx ⊢
  have HX := Lib.hid (And.intro hx hlen)
  clear hx hlen hf
  go_enter Tryd.func13, Tryd.ntmps13
  go_wp2_with (at_builtin; refine wpList_app_rd (by rfl) (.tmp 23) (.tmp 24) (by rfl) w.heap.size w.heap.size _ _ [] xs (by rfl) (by rfl) (IOwn.empty' (W := w.alloc (.cells (relCs n a) 25)) (by simp) (by omega)) (HX.out.1.below (B := w.heap.size) (((Below.refl _ _).alloc (Nat.le_refl _) _).alloc (by simp) _)) HX.out.2 (by simp; omega) ?_; intro v1 w1 ho1 hb1 hg1)
  have hb := Below.trans (((Below.refl w.heap.size w).alloc (Nat.le_refl _) (.cells (relCs n a) 25)).alloc (by simp) (.cells #[] 3)) hb1
  clear hb1 hg1
  go_ret2
  exact ⟨_, rfl, ho1, hb⟩

theorem orders_all (n : Nat) (a : Nat → Nat) (hG : Good n a) (hS : Strict n (clo n a)) : ∀ (f : Nat) (xs : List Int) (D : Nat) (v : Value) (w : World), xs.length + f = n → IRd w w.heap.size v xs → Items xs D → Down n a D → card n D = xs.length →
    Calls Tryd.prog 13 #[relV n a, v] w fun e w' => ∃ v', e = .returned (.tuple #[.int .i64 (wrap64 (ordC (rev n (clo n a)) n f D : Nat)), v']) ∧ IOwn w' w.heap.size v' (compL (rev n (clo n a)) n f D xs) ∧ Below w.heap.size w w'
  | 0, xs, D, v, w, hf, hx, _, _, _ => ord_base n a hG.le xs D v w hf hx
  | f + 1, xs, D, v, w, hf, hx, hI, hD, hc => ord_any n a hG hS f (fun ys E u W h1 h2 h3 h4 h5 => orders_all n a hG hS f ys E u W h1 h2 h3 h4 h5) xs D v w hf hx hI hD hc

/-- Orders of nothing yet: as many as Count says; the first of them is the least. -/
theorem orders_nil (n : Nat) (a : Nat → Nat) (w : World) (hG : Good n a) (hS : Strict n (clo n a)) :
    Calls Tryd.prog 13 #[relV n a, .slice none 0 0] w fun e w' => ∃ v', e = .returned (.tuple #[.int .i64 (cntC n (clo n a)), v']) ∧ IOwn w' w.heap.size v' (lsL (rev n (clo n a)) n n) ∧ Below w.heap.size w w' := by
  have h := orders_all n a hG hS n [] 0 (.slice none 0 0) w (by simp) ⟨none, 0, rfl, fun h => by simp at h⟩ (fun i => by simp) (down_zero n a) (by
    have : card n 0 = 0 := sumUp_zero fun i _ => by simp
    rw [this]; rfl)
  rw [compL_all, ordC_all, ← tab_fin] at h
  exact h
end Go.Proofs.YtcpmhflkooipdaaDoor
