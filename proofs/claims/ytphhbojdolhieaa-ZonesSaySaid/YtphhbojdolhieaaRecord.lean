/-
  The record of package history in memory: its types, its calls, who is busy, and with which call.
-/
import Derived.Test.YtphhbojdolhieaaValid
import Derived.Deep.RegionHeld3
import Derived.StillTailTactics
namespace Go.Proofs.Ytphhbojdolhieaa
open Go.RowKit
set_option maxRecDepth 20000
abbrev recCs (tv cv : Value) (b : Nat → Bool) (c : Nat → Int) : Array Value := #[tv, cv, .bool (b 0), .bool (b 1), .bool (b 2), .bool (b 3), .bool (b 4), .bool (b 5), .bool (b 6), .bool (b 7), .int .i64 (c 0), .int .i64 (c 1), .int .i64 (c 2), .int .i64 (c 3), .int .i64 (c 4), .int .i64 (c 5), .int .i64 (c 6), .int .i64 (c 7)]
def RecB (w : World) (g : Nat) (tv cv : Value) (b : Nat → Bool) (c : Nat → Int) : Prop := Lies w g 72 (recCs tv cv b c)
theorem nat8 {k : Nat} (hk : k < 8) : k = 0 ∨ k = 1 ∨ k = 2 ∨ k = 3 ∨ k = 4 ∨ k = 5 ∨ k = 6 ∨ k = 7 := by omega
def updB (b : Nat → Bool) (i : Nat) (x : Bool) : Nat → Bool := fun j => if j = i then x else b j
def updI (c : Nat → Int) (i : Nat) (x : Int) : Nat → Int := fun j => if j = i then x else c j
section
variable {w w' : World} {g : Nat} {tv cv : Value} {b : Nat → Bool} {c : Nat → Int}
theorem RecB.alloc (h : RecB w g tv cv b c) (o : Obj) : RecB (w.alloc o) g tv cv b c := Lies.alloc h o
theorem RecB.drew (h : RecB w g tv cv b c) : RecB w.drew g tv cv b c := h
theorem RecB.drewN (h : RecB w g tv cv b c) (n : Nat) : RecB (w.drewN n) g tv cv b c := h
theorem RecB.far (h : RecB w g tv cv b c) {p : Addr} (hp : g ≠ p.block) (u : Value) : RecB (w.setCell p u) g tv cv b c := Lies.far h hp u
theorem RecB.below {B : Nat} (h : RecB w g tv cv b c) (hb : Below B w w') (hg : g < B) : RecB w' g tv cv b c := Lies.below h hb hg
theorem RecB.types (h : RecB w g tv cv b c) : w.cell? ⟨g, 0, none⟩ = some tv := Lies.cell h 0
theorem RecB.calls (h : RecB w g tv cv b c) : w.cell? ⟨g, 1, none⟩ = some cv := Lies.cell h 1
theorem RecB.busy (h : RecB w g tv cv b c) {p : Nat} (hp : p < 8) : w.cell? ⟨g, 2 + p, none⟩ = some (.bool (b p)) := by
  rw [Lies.cell h]
  rcases nat8 hp with rfl | rfl | rfl | rfl | rfl | rfl | rfl | rfl <;> rfl
theorem RecB.cur (h : RecB w g tv cv b c) {p : Nat} (hp : p < 8) : w.cell? ⟨g, 10 + p, none⟩ = some (.int .i64 (c p)) := by
  rw [Lies.cell h]
  rcases nat8 hp with rfl | rfl | rfl | rfl | rfl | rfl | rfl | rfl <;> rfl
theorem RecB.free (h : RecB w g tv cv b c) (i : Nat) : w.frozen? ⟨g, i, none⟩ = false := Lies.frozen h i
theorem RecB.setBusy (h : RecB w g tv cv b c) {p : Nat} (hp : p < 8) (x : Bool) : RecB (w.setCell ⟨g, 2 + p, none⟩ (.bool x)) g tv cv (updB b p x) c := by
  refine Lies.cast (Lies.set_ h (2 + p) (.bool x)) ?_
  rcases nat8 hp with rfl | rfl | rfl | rfl | rfl | rfl | rfl | rfl <;> simp [recCs, updB]
theorem RecB.setCur (h : RecB w g tv cv b c) {p : Nat} (hp : p < 8) (x : Int) : RecB (w.setCell ⟨g, 10 + p, none⟩ (.int .i64 x)) g tv cv b (updI c p x) := by
  refine Lies.cast (Lies.set_ h (10 + p) (.int .i64 x)) ?_
  rcases nat8 hp with rfl | rfl | rfl | rfl | rfl | rfl | rfl | rfl <;> simp [recCs, updI]
theorem RecB.setCalls (h : RecB w g tv cv b c) (v : Value) : RecB (w.setCell ⟨g, 1, none⟩ v) g tv v b c := Lies.cast (Lies.set_ h 1 v) (by simp [recCs])
end
/-- What the record says of the calls so far. -/
structure Knows (cs : List Cl) (b : Nat → Bool) (c : Nat → Int) : Prop where
  one : OneOpen cs
  busy : ∀ p, p < 8 → (b p = true ↔ 0 ≤ openOf cs (p : Int))
  cur : ∀ p, p < 8 → b p = true → c p = openOf cs (p : Int)
theorem Knows.answered {cs : List Cl} {b : Nat → Bool} {c : Nat → Int} (h : Knows cs b c) {p k : Nat} (hp : p < 8) (hk : openOf cs (p : Int) = (k : Int)) {d y : Cl} (_ : cs[k]? = some d) (_ : y.who = d.who) (hy : y.til ≠ -1) : Knows (cs.set k y) (updB b p false) c := by
  have hn : (openOf cs (p : Int)).toNat = k := by omega
  have h0 : ∀ q : Nat, openOf (cs.set k y) (q : Int) = if (q : Int) = (p : Int) then -1 else openOf cs (q : Int) := fun q => by
    have := openOf_set (who' := (q : Int)) h.one (who := (p : Int)) (by omega) hy
    rwa [hn] at this
  refine ⟨h.one.set k hy, fun q hq => ?_, fun q hq hb => ?_⟩
  · rw [h0 q]
    unfold updB
    by_cases e : q = p
    · subst e; simp
    · rw [if_neg e, if_neg (by omega)]
      exact h.busy q hq
  · rw [h0 q]
    unfold updB at hb
    by_cases e : q = p
    · subst e; simp at hb
    · rw [if_neg e] at hb
      rw [if_neg (by omega)]
      exact h.cur q hq hb
theorem Knows.called {cs : List Cl} {b : Nat → Bool} {c : Nat → Int} (h : Knows cs b c) {p : Nat} (hp : openOf cs (p : Int) < 0) {y : Cl} (hw : y.who = (p : Int)) (ht : y.til = -1) : Knows (cs ++ [y]) (updB b p true) (updI c p cs.length) := by
  have h0 : ∀ q : Nat, openOf (cs ++ [y]) (q : Int) = if q = p then (cs.length : Int) else openOf cs (q : Int) := fun q => by
    rw [openOf_snoc, hw, ht]
    by_cases e : q = p
    · subst e; simp
    · rw [if_neg (by omega), if_neg e]
  refine ⟨h.one.snoc (by rw [hw]; exact hp), fun q hq => ?_, fun q hq hb => ?_⟩
  · rw [h0 q]
    unfold updB
    by_cases e : q = p
    · subst e; simp
    · rw [if_neg e, if_neg e]
      exact h.busy q hq
  · rw [h0 q]
    unfold updB at hb
    unfold updI
    by_cases e : q = p
    · subst e; simp
    · rw [if_neg e] at hb
      rw [if_neg e, if_neg e]
      exact h.cur q hq hb
/-- The record lies in block g, over these types and these calls. -/
structure RecS (g : Nat) (tv : Value) (ts : List Int) (cs : List Cl) (w : World) : Prop where
  ex : ∃ cv b c, RecB w g tv cv b c ∧ COwn w (g + 1) cv cs ∧ Knows cs b c
  types : NRd w g tv ts
theorem COwn.then_ {w w' : World} {B : Nat} {v : Value} {l : List Cl} (h : COwn w B v l) (hb : Below w.heap.size w w') : COwn w' B v l :=
  World.ownsRow.kept h (row := none) ⟨hb.os, hb.tape, hb.output, hb.size, fun k hk _ => hb.block k hk⟩ (by
    cases hv : v.ownBlock with
    | none => exact .inl rfl
    | some k => exact .inr (by simp))
theorem COwn.alloc {w : World} {B : Nat} {v : Value} {l : List Cl} (h : COwn w B v l) (o : Obj) : COwn (w.alloc o) B v l := World.ownsRow.alloc h o
theorem COwn.drew {w : World} {B : Nat} {v : Value} {l : List Cl} (h : COwn w B v l) : COwn w.drew B v l := h
theorem COwn.drewN {w : World} {B : Nat} {v : Value} {l : List Cl} (h : COwn w B v l) (n : Nat) : COwn (w.drewN n) B v l := h
theorem COwn.far {w : World} {B : Nat} {v : Value} {l : List Cl} (h : COwn w B v l) {p : Addr} (hp : p.block < B) (u : Value) : COwn (w.setCell p u) B v l :=
  ownsRow_setCell_below h hp u
theorem RecS.next {g : Nat} {tv : Value} {ts : List Int} {cs : List Cl} {w w' : World} (h : RecS g tv ts cs w) (hb : Below w.heap.size w w') : RecS g tv ts cs w' := by
  obtain ⟨⟨cv, b, c, h1, h2, h3⟩, h4⟩ := h
  have hg : g < w.heap.size := Lies.lt h1
  exact ⟨⟨cv, b, c, Lies.below h1 hb hg, h2.then_ hb, h3⟩, h4.below (hb.mono (by omega))⟩
theorem RecS.lt {g : Nat} {tv : Value} {ts : List Int} {cs : List Cl} {w : World} (h : RecS g tv ts cs w) : g < w.heap.size := by
  obtain ⟨⟨cv, b, c, h1, h2, h3⟩, h4⟩ := h
  exact Lies.lt h1
/-- The row's cells of call k. -/
theorem COwn.at_ {w : World} {B : Nat} {v : Value} {l : List Cl} (h : COwn w B v l) {k : Nat} {x : Cl} (hk : l[k]? = some x) :
    ∃ h' cap, v = .slice (some ⟨h', 0, none⟩) l.length cap ∧ B ≤ h' ∧ h' < w.heap.size ∧ l.length ≤ cap ∧ cap ≤ maxLen ∧ (∀ i, w.frozen? ⟨h', i, none⟩ = false) ∧ ∀ j u, (clCs x)[j]? = some u → w.cell? ⟨h', k * 7 + j, none⟩ = some u := by
  have hkl := (List.getElem?_eq_some_iff.1 hk).1
  rcases h.2 with ⟨_, h0⟩ | ⟨g, cap, cur, rfl, h1, h2, h3, h4, h5, h6⟩
  · omega
  · refine ⟨g, cap, rfl, h1, (Array.getElem?_eq_some_iff.1 h2).1, h3, h4, fun i => World.ownsRow.frozenAt h i, fun j u hu => ?_⟩
    have hjl : j < 7 := (List.getElem?_eq_some_iff.1 hu).1
    rw [World.ownsRow.cellAt h (k * 7 + j) (by omega)]
    exact flat_at (f := clCs) (s := 7) (fun _ => rfl) hk hu
theorem flat_set : ∀ (l : List Cl) (k j : Nat) (x : Cl) (u : Value) (y : Cl), l[k]? = some x → j < 7 → (clCs x).set j u = clCs y → (l.flatMap clCs).set (k * 7 + j) u = (l.set k y).flatMap clCs
  | [], k, j, x, u, y, h, _, _ => by simp at h
  | z :: r, 0, j, x, u, y, h, hj, he => by
    simp at h
    subst h
    rw [List.flatMap_cons, List.set_cons_zero, List.flatMap_cons, Nat.zero_mul, Nat.zero_add, List.set_append_left _ _ (by simpa using hj), he]
  | z :: r, k + 1, j, x, u, y, h, hj, he => by
    have h' : r[k]? = some x := by simpa using h
    rw [List.flatMap_cons, List.set_cons_succ, List.flatMap_cons, List.set_append_right _ _ (by simp; omega), ← flat_set r k j x u y h' hj he]
    congr 2
    simp; omega
/-- One number of call k is written. -/
theorem COwn.put {w : World} {B h' cap : Nat} {l : List Cl} (h : COwn w B (.slice (some ⟨h', 0, none⟩) l.length cap) l) {k j : Nat} {x y : Cl} (hk : l[k]? = some x) (hj : j < 7) {u : Value} (he : (clCs x).set j u = clCs y) :
    COwn (w.setCell ⟨h', k * 7 + j, none⟩ u) B (.slice (some ⟨h', 0, none⟩) (l.set k y).length cap) (l.set k y) := by
  have h1 := (World.ownsRow.stored h (k * 7 + j) u).1
  unfold COwn
  rw [List.length_set, ← flat_set l k j x u y hk hj he]
  exact h1
end Go.Proofs.Ytphhbojdolhieaa
