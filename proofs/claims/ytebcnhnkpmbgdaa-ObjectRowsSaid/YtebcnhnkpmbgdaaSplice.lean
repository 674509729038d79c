/-
  A piece of a row laid over by other numbers: of lists, and in memory.
-/
import Derived.Test.YtebcnhnkpmbgdaaObjMem
import Derived.Laws.IdiomCopy
import Derived.Laws.AppendOwn
namespace Go.Proofs.Ytebcnhnkpmbgdaa
open Go.RowKit
set_option maxRecDepth 20000

/-- The numbers ys laid over those of zs from o on. -/
def splice (zs : List Int) (o : Nat) (ys : List Int) : List Int := zs.take o ++ ys ++ zs.drop (o + ys.length)
theorem splice_len {zs : List Int} {o : Nat} {ys : List Int} (h : o + ys.length ≤ zs.length) : (splice zs o ys).length = zs.length := by
  unfold splice
  simp
  omega
theorem splice_get {zs : List Int} {o : Nat} {ys : List Int} (h : o + ys.length ≤ zs.length) (j : Nat) :
    (splice zs o ys)[j]? = if j < o then zs[j]? else if j < o + ys.length then ys[j - o]? else zs[j]? := by
  unfold splice
  rw [List.append_assoc, List.getElem?_append, List.length_take, Nat.min_eq_left (by omega)]
  by_cases h1 : j < o
  · rw [if_pos h1, if_pos h1, List.getElem?_take_of_lt h1]
  · rw [if_neg h1, if_neg h1, List.getElem?_append]
    by_cases h2 : j < o + ys.length
    · rw [if_pos (by omega), if_pos h2]
    · rw [if_neg (by omega), if_neg h2, List.getElem?_drop]
      congr 1
      omega
theorem splice_cons {zs : List Int} {o : Nat} {y : Int} {ys : List Int} (h : o + (y :: ys).length ≤ zs.length) : splice (zs.set o y) (o + 1) ys = splice zs o (y :: ys) := by
  apply List.ext_getElem?
  intro j
  simp only [List.length_cons] at h
  rw [splice_get (by simp; omega), splice_get (by simp; omega)]
  rw [List.getElem?_set]
  simp only [List.length_cons]
  by_cases h1 : j < o
  · rw [if_pos (by omega), if_neg (by omega), if_pos h1]
  · rw [if_neg h1]
    by_cases h2 : j = o
    · subst h2
      rw [if_pos (by omega), if_pos rfl, if_pos (by omega), if_pos (by omega), Nat.sub_self]
      rfl
    · rw [if_neg (by omega)]
      by_cases h3 : j < o + 1 + ys.length
      · rw [if_pos h3, if_pos (by omega), show j - o = (j - (o + 1)) + 1 by omega, List.getElem?_cons_succ]
      · rw [if_neg h3, if_neg (by omega), if_neg (by omega)]
theorem insAt_get {l : List Int} {p : Nat} {x : Int} (h : p ≤ l.length) (j : Nat) : (insAt l p x)[j]? = if j < p then l[j]? else if j = p then some x else l[j - 1]? := by
  unfold insAt
  rw [List.getElem?_append, List.length_take, Nat.min_eq_left h]
  by_cases h1 : j < p
  · rw [if_pos h1, if_pos h1, List.getElem?_take_of_lt h1]
  · rw [if_neg h1, if_neg h1]
    by_cases h2 : j = p
    · subst h2
      rw [Nat.sub_self, if_pos rfl]
      rfl
    · rw [if_neg h2, show j - p = (j - p - 1) + 1 by omega, List.getElem?_cons_succ, List.getElem?_drop]
      congr 1
      omega
theorem take_get {zs l : List Int} (h : zs.take l.length = l) {j : Nat} (hj : j < l.length) : zs[j]? = l[j]? := by
  rw [← List.getElem?_take_of_lt (l := zs) hj, h]
/-- What stood from i on one place on, and x at i. -/
theorem splice_shift {zs l : List Int} {i : Nat} {x : Int} (h : zs.take l.length = l) (hi : i ≤ l.length) (hn : l.length + 1 ≤ zs.length) :
    (splice (splice zs (i + 1) (l.drop i)) i [x]).take (l.length + 1) = insAt l i x := by
  have e1 : i + 1 + (l.drop i).length ≤ zs.length := by simp; omega
  have e2 : i + [x].length ≤ (splice zs (i + 1) (l.drop i)).length := by rw [splice_len e1]; simp; omega
  apply List.ext_getElem?
  intro j
  rw [List.getElem?_take, insAt_get hi]
  by_cases hj : j < l.length + 1
  · rw [if_pos hj, splice_get e2]
    simp only [List.length_cons, List.length_nil, Nat.zero_add]
    by_cases h1 : j < i
    · rw [if_pos h1, if_pos h1, splice_get e1, if_pos (by omega)]
      exact take_get h (by omega)
    · rw [if_neg h1, if_neg h1]
      by_cases h2 : j = i
      · subst h2
        rw [if_pos (by omega), if_pos rfl, Nat.sub_self]
        rfl
      · rw [if_neg (by omega), if_neg h2, splice_get e1, if_neg (by omega), if_pos (by simp; omega), List.getElem?_drop]
        congr 1
        omega
  · rw [if_neg hj, if_neg (by omega), if_neg (by omega), List.getElem?_eq_none (by omega)]
theorem splice_end {zs l : List Int} {x : Int} (h : zs.take l.length = l) (hn : l.length + 1 ≤ zs.length) :
    (splice zs l.length [x]).take (l.length + 1) = insAt l l.length x := by
  have e2 : l.length + [x].length ≤ zs.length := by simpa using hn
  apply List.ext_getElem?
  intro j
  rw [List.getElem?_take, insAt_get (Nat.le_refl _)]
  by_cases hj : j < l.length + 1
  · rw [if_pos hj, splice_get e2]
    simp only [List.length_cons, List.length_nil, Nat.zero_add]
    by_cases h1 : j < l.length
    · rw [if_pos h1, if_pos h1]
      exact take_get h h1
    · rw [if_neg h1, if_neg h1, if_pos (by omega), if_pos (by omega), show j - l.length = 0 by omega]
      rfl
  · rw [if_neg hj, if_neg (by omega), if_neg (by omega), List.getElem?_eq_none (by omega)]
theorem splice_front {zs ys : List Int} {k : Nat} (hk : k ≤ ys.length) : (splice zs 0 ys).take k = ys.take k := by
  unfold splice
  rw [List.take_zero, List.nil_append, List.take_append, show k - ys.length = 0 by omega, List.take_zero, List.append_nil]

/-! ### In memory -/
section
variable {w w' : World} {g : Nat} {t : TypeId} {zs : List Int}
theorem Lies.setInts : ∀ {ys : List Int} {o : Nat} {zs : List Int} {w : World}, Lies w g t (zs.map (Value.int .i64)).toArray → o + ys.length ≤ zs.length →
    Lies (w.setCells g o (ys.map (Value.int .i64))) g t ((splice zs o ys).map (Value.int .i64)).toArray
  | [], o, zs, w, h, _ => by
    have : splice zs o [] = zs := by unfold splice; simp
    rw [this]
    exact h
  | y :: ys, o, zs, w, h, hl => by
    have h1 := h.set_ o (.int .i64 y)
    have h2 : Lies (w.setCell ⟨g, o, none⟩ (.int .i64 y)) g t ((zs.set o y).map (Value.int .i64)).toArray := h1.cast (by
      rw [List.map_set]
      simp)
    have h3 := Lies.setInts (ys := ys) (o := o + 1) h2 (by simp at hl ⊢; omega)
    rw [splice_cons hl] at h3
    exact h3
theorem grown_refl (w : World) (r : Option Nat) : w.grownBy w r := ⟨rfl, rfl, rfl, Nat.le_refl _, fun _ _ _ => rfl⟩
theorem grown_trans {a b c : World} {r : Option Nat} (h1 : a.grownBy b r) (h2 : b.grownBy c r) : a.grownBy c r :=
  ⟨h2.os.trans h1.os, h2.tape.trans h1.tape, h2.output.trans h1.output, Nat.le_trans h1.size h2.size, fun k hk hr => (h2.block k (Nat.lt_of_lt_of_le hk h1.size) hr).trans (h1.block k hk hr)⟩
theorem grown_of_below {a b : World} {r : Option Nat} (h : Below a.heap.size a b) : a.grownBy b r := ⟨h.os, h.tape, h.output, h.size, fun k hk _ => h.block k hk⟩
theorem grown_drewN (w : World) (r : Option Nat) (n : Nat) : w.grownBy (w.drewN n) r := ⟨rfl, rfl, rfl, Nat.le_refl _, fun _ _ _ => rfl⟩
theorem grown_setCells (g : Nat) (r : Option Nat) (hr : r = some g) : ∀ (vs : List Value) (o : Nat) (w : World), w.grownBy (w.setCells g o vs) r
  | [], o, w => grown_refl w r
  | v :: vs, o, w => by
    subst hr
    refine grown_trans (b := w.setCell ⟨g, o, none⟩ v) ⟨rfl, rfl, rfl, by simp [World.setCell], fun k hk hne => ?_⟩ (grown_setCells g _ rfl vs (o + 1) _)
    exact Below.heap_setCell w ⟨g, o, none⟩ v k (fun e => hne (by rw [e]))
theorem below_setC {B g : Nat} {a : World} (hg : B ≤ g) : ∀ (vs : List Value) (o : Nat) (w : World), Below B a w → Below B a (w.setCells g o vs)
  | [], _, _, h => h
  | v :: vs, o, _, h => below_setC hg vs (o + 1) _ (h.setCell hg v)
end
end Go.Proofs.Ytebcnhnkpmbgdaa
