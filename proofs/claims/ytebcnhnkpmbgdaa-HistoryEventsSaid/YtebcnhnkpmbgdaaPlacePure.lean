/-
  Plain mathematics for history.place: events put where calls say.
-/
import Derived.Test.YtebcnhnkpmbgdaaLRd
namespace Go.Proofs.Ytebcnhnkpmbgdaa
open Go.RowKit
set_option maxRecDepth 20000

def evInv (c : Cl) : Ev := ⟨c.who, c.thing, c.kind, c.arg⟩
def evRes (c : Cl) : Ev := ⟨c.who, c.thing, 0, c.res⟩
/-- How many of the first calls were answered. -/
def ansUp : List Cl → Nat
  | [] => 0
  | c :: r => (if c.til ≠ -1 then 1 else 0) + ansUp r
theorem ansUp_le : ∀ l : List Cl, ansUp l ≤ l.length
  | [] => Nat.le_refl _
  | c :: r => by
    have := ansUp_le r
    rw [ansUp, List.length_cons]
    split <;> omega
theorem ansUp_append (a b : List Cl) : ansUp (a ++ b) = ansUp a + ansUp b := by
  induction a with
  | nil => simp [ansUp]
  | cons c a ih => rw [List.cons_append, ansUp, ansUp, ih]; omega
theorem ansUp_take {l : List Cl} {k : Nat} {c : Cl} (h : l[k]? = some c) : ansUp (l.take (k + 1)) = ansUp (l.take k) + if c.til ≠ -1 then 1 else 0 := by
  rw [List.take_add_one, h, ansUp_append]
  simp [ansUp]
def placeN (l : List Cl) : Nat := l.length + ansUp l
def putOne (es : List Ev) (c : Cl) : List Ev := if c.til ≠ -1 then (es.set c.frm.toNat (evInv c)).set c.til.toNat (evRes c) else es.set c.frm.toNat (evInv c)
def placeUp (n : Nat) : List Ev → List Cl → Option (List Ev)
  | es, [] => some es
  | es, c :: r => if btw 0 c.frm ((n : Int) - 1) = false ∨ btw (-1) c.til ((n : Int) - 1) = false then none else placeUp n (putOne es c) r
def placeL (l : List Cl) : Option (List Ev) := placeUp (placeN l) (List.replicate (placeN l) default) l
theorem putOne_len (es : List Ev) (c : Cl) : (putOne es c).length = es.length := by
  unfold putOne
  split <;> simp
theorem placeUp_drop {n : Nat} {l : List Cl} {k : Nat} {c : Cl} (h : l[k]? = some c) (es : List Ev) : placeUp n es (l.drop k) = if btw 0 c.frm ((n : Int) - 1) = false ∨ btw (-1) c.til ((n : Int) - 1) = false then none else placeUp n (putOne es c) (l.drop (k + 1)) := by
  have hk := (List.getElem?_eq_some_iff.1 h).1
  have e := (List.getElem?_eq_some_iff.1 h).2
  rw [List.drop_eq_getElem_cons hk, placeUp, e]

/-- A whole event is written. -/
theorem flat_put : ∀ (es : List Ev) (q : Nat) (e : Ev), q < es.length → ((((es.flatMap evCs).set (q * 4) (.int .i64 e.who)).set (q * 4 + 1) (.int .i64 e.thing)).set (q * 4 + 2) (.int .i64 e.kind)).set (q * 4 + 3) (.int .i64 e.val) = (es.set q e).flatMap evCs
  | [], q, e, h => by simp at h
  | z :: r, 0, e, _ => by simp [List.flatMap_cons]
  | z :: r, q + 1, e, h => by
    have h' : q < r.length := by simpa using h
    have ih := flat_put r q e h'
    rw [List.flatMap_cons, List.set_cons_succ, List.flatMap_cons, ← ih]
    have e0 : (q + 1) * 4 = (evCs z).length + q * 4 := by simp; omega
    rw [e0, show (evCs z).length + q * 4 + 1 = (evCs z).length + (q * 4 + 1) by omega, show (evCs z).length + q * 4 + 2 = (evCs z).length + (q * 4 + 2) by omega, show (evCs z).length + q * 4 + 3 = (evCs z).length + (q * 4 + 3) by omega]
    simp only [List.set_append_right _ _ (Nat.le_add_right _ _), Nat.add_sub_cancel_left]
end Go.Proofs.Ytebcnhnkpmbgdaa
