/-
  alibkeep.OrderDilworth answers true.
-/
import Derived.Test.YtfjanniojphdoaaDoorDil
import Derived.Test.YtfjanniojphdoaaDoorAlive
import Derived.Test.YtfjanniojphdoaaDoorAhead
namespace Go.Proofs.YtfjanniojphdoaaDoor
open Go.RowKit
set_option maxRecDepth 20000

theorem ird_is {w : World} {B : Nat} {v : Value} {xs : List Int} (h : IRd w B v xs) : ∃ A c, v = .slice A xs.length c := by
  obtain ⟨A, c, hv, _⟩ := h
  exact ⟨A, c, hv⟩
theorem ird_addr {w : World} {B m c : Nat} {A : Option Addr} {xs : List Int} (h : IRd w B (.slice A m c) xs) (h0 : 0 < m) : ∃ g, A = some ⟨g, 0, none⟩ ∧ g < B := by
  obtain ⟨A', c', hv, hp⟩ := h
  injection hv with h1 h2 h3
  subst h1
  obtain ⟨g, hA, hg, hc⟩ := hp (by omega)
  exact ⟨g, hA, hg⟩
theorem ird_cells {w : World} {B m c g : Nat} {xs : List Int} (h : IRd w B (.slice (some ⟨g, 0, none⟩) m c) xs) {j : Nat} (hj : j < m) : w.cell? ⟨g, j, none⟩ = some (.int .i64 (xs.getD j 0)) := by
  obtain ⟨A', c', hv, hp⟩ := h
  injection hv with h1 h2 h3
  subst h1
  obtain ⟨g', hA, hg, hc⟩ := hp (by omega)
  injection hA with hA
  injection hA with hA1
  subst hA1
  exact hc j (by omega)

/-- The largest of the first i numbers, and one more. -/
def maxI (nu : Nat → Int) : Nat → Int
  | 0 => 0
  | i + 1 => if maxI nu i < nu i + 1 then nu i + 1 else maxI nu i
theorem maxI_is {n K : Nat} {c : Nat → Nat} {nu : Nat → Int} (h : Found n K c nu) : maxI nu n = K := by
  have hle : ∀ m, m ≤ n → maxI nu m ≤ K ∧ 0 ≤ maxI nu m := by
    intro m
    induction m with
    | zero => intro _; exact ⟨Int.natCast_nonneg K, Int.le_refl 0⟩
    | succ m ih =>
      intro hm
      have := ih (by omega)
      obtain ⟨k, hk, e⟩ := h.lt m (by omega)
      rw [maxI]
      split <;> omega
  have hge : ∀ m i, i < m → nu i + 1 ≤ maxI nu m := by
    intro m
    induction m with
    | zero => intro i hi; omega
    | succ m ih =>
      intro i hi
      rw [maxI]
      rcases Nat.lt_or_ge i m with h1 | h1
      · have := ih i h1
        split <;> omega
      · obtain rfl : i = m := by omega
        split <;> omega
  have h1 := hle n (Nat.le_refl _)
  rcases Nat.eq_zero_or_pos K with h0 | h0
  · omega
  · obtain ⟨i, hi, e⟩ := h.last h0
    have := hge n i hi
    omega
theorem maxI_lt {n K : Nat} {c : Nat → Nat} {nu : Nat → Int} (h : Found n K c nu) : ∀ m, m ≤ n → maxI nu m ≤ K ∧ 0 ≤ maxI nu m := by
  intro m
  induction m with
  | zero => intro _; exact ⟨Int.natCast_nonneg K, Int.le_refl 0⟩
  | succ m ih =>
    intro hm
    have := ih (by omega)
    obtain ⟨k, hk, e⟩ := h.lt m (by omega)
    rw [maxI]
    split <;> omega
theorem items_at (S : Nat) : ∀ m t, t < (itemsUp S m).length → ∃ p, p < m ∧ (itemsUp S m).getD t 0 = (p : Int) ∧ S.testBit p = true
  | 0, t, h => by simp [itemsUp] at h
  | m + 1, t, h => by
    rw [itemsUp] at h ⊢
    by_cases hb : S.testBit m = true
    · rw [if_pos hb] at h ⊢
      rw [List.length_append] at h
      rcases Nat.lt_or_ge t (itemsUp S m).length with h1 | h1
      · obtain ⟨p, hp, e, hs⟩ := items_at S m t h1
        refine ⟨p, by omega, ?_, hs⟩
        rw [List.getD_eq_getElem?_getD, List.getElem?_append_left h1, ← List.getD_eq_getElem?_getD]
        exact e
      · refine ⟨m, by omega, ?_, hb⟩
        have ht : t = (itemsUp S m).length := by simp at h; omega
        rw [List.getD_eq_getElem?_getD, ht, List.getElem?_append_right (Nat.le_refl _)]
        simp
    · rw [if_neg hb] at h ⊢
      obtain ⟨p, hp, e, hs⟩ := items_at S m t h
      exact ⟨p, by omega, e, hs⟩
theorem listedD {n : Nat} {f : Nat → Int} {j : Nat} (hj : j < n) : (listed n f).getD j 0 = f j := by
  simp [listed, List.getD, hj]

structure DlR (w0 : World) (n : Int) (a : Nat → Nat) (w : World) : Prop where
  below : Below w0.heap.size w0 w
  box : RelB w w0.heap.size n a
theorem DlR.next {w0 w w' : World} {n : Int} {a : Nat → Nat} (h : DlR w0 n a w) (hb : Below w.heap.size w w') : DlR w0 n a w' :=
  ⟨h.below.trans (hb.mono h.below.size), Lies.below h.box hb h.box.lt⟩
theorem DlR.tab {w0 w : World} {n : Int} {a : Nat → Nat} (h : DlR w0 n a w) (hT : Tab w0 ∧ 0 < w0.heap.size) : Tab w := hT.1.below h.below hT.2
theorem DlR.pos {w0 w : World} {n : Int} {a : Nat → Nat} (h : DlR w0 n a w) (hT : Tab w0 ∧ 0 < w0.heap.size) : 0 < w.heap.size := Nat.lt_of_lt_of_le hT.2 h.below.size

set_option maxHeartbeats 4000000 in
theorem dil_err (n : Int) (a : Nat → Nat) (m : Int) (c : Nat → Nat) (b : Bool) (E g : Int) (w : World) (hE : (E != 0) = true) (hF : Fails n a E)
    (hCl : ∀ w, Calls Tryd.prog 7 #[relV n a] w fun e w' => e = .returned (.tuple #[relV m c, .bool b, .int .i64 g]) ∧ Below w.heap.size w w') (hT : Tab w) (hpos : 0 < w.heap.size) :
    Calls Tryd.prog 5 #[relV n a] w fun e w' => e = .returned (.bool true) ∧ Below w.heap.size w w' := by
  have HT := Lib.hid (And.intro hT hpos)
  have hz : (E == 0) = false := by rw [bne_iff_ne] at hE; rw [beq_eq_false_iff_ne]; exact hE
  have HE := Lib.hid (And.intro hE hF)
  have hW : DlR w n a (w.alloc (.cells (relCs n a) 25)) := ⟨(Below.refl _ _).alloc (Nat.le_refl _) _, Lies.new _ _ _⟩
  have HR := Lib.hid hW
  clear hT hpos hW hE hF
  go_enter Tryd.func5, Tryd.ntmps5
  go_wp2_with fail
  refine (apart_err n a E _ HE.out.1 HE.out.2).mono ?_
  rintro e w' ⟨rfl, hb'⟩
  have HR := Lib.hid (HR.out.next hb')
  clear hb'
  have c0 := HR.out.box.size
  obtain ⟨c1, c2, c3, c4, c5, c6, c7, c8, c9, c10, c11, c12⟩ := HR.out.box.rows
  go_wp2_with fail
  clear c0 c1 c2 c3 c4 c5 c6 c7 c8 c9 c10 c11 c12
  refine (chains_err n a E _ HE.out.1 HE.out.2).mono ?_
  rintro e w' ⟨rfl, hb'⟩
  have HR := Lib.hid (HR.out.next hb')
  clear hb'
  have c0 := HR.out.box.size
  obtain ⟨c1, c2, c3, c4, c5, c6, c7, c8, c9, c10, c11, c12⟩ := HR.out.box.rows
  go_wp2_with fail
  clear c0 c1 c2 c3 c4 c5 c6 c7 c8 c9 c10 c11 c12
  refine (hCl _).mono ?_
  rintro e w3 ⟨rfl, hb'⟩
  have HR := Lib.hid ((HR.out.next hb').next ((Below.refl _ _).alloc (Nat.le_refl _) (.cells (relCs m c) 25)))
  clear hb'
  go_wp2_with fail
  refine (lives_true _ (HR.out.tab HT.out) (HR.out.pos HT.out)).mono ?_
  rintro e w4 ⟨rfl, hb'⟩
  have HR := Lib.hid (HR.out.next hb')
  clear hb'
  go_wp2_with fail
  refine (ok_not (IRd.fresh w4 26 [E, E, g] _ rfl _ rfl) (x := E) (by simp) (by have := HE.out.1; rw [bne_iff_ne] at this; exact this) (by simp)).mono ?_
  rintro e w5 ⟨rfl, rfl⟩
  have HR := Lib.hid (HR.out.next ((Below.refl _ _).alloc (Nat.le_refl _) (.cells #[.int .i64 E, .int .i64 E, .int .i64 g] 26)))
  go_wp2_with fail
  refine (lives_true _ (HR.out.tab HT.out) (HR.out.pos HT.out)).mono ?_
  rintro e w6 ⟨rfl, hb'⟩
  have HR := Lib.hid (HR.out.next hb')
  clear hb'
  go_wp2_with fail
  go_ret
  exact ⟨rfl, HR.out.below⟩
end Go.Proofs.YtfjanniojphdoaaDoor
