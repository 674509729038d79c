/-
  Joined by a program out of: Record, Respond, AppRow.
-/
import Derived.Test.YtfgangkpebkicaaDoorMgAC
import Derived.Deep.RegionHeld3
import Derived.StillTailTactics
import Derived.Test.YtfgangkpebkicaaDoorMgAA
import Derived.Deep.AppendLies

/-
  The record of package history in memory: its types, its calls, who is busy, and with which call.
-/
namespace Go.Proofs.YtfgangkpebkicaaDoor
open Go.RowKit
set_option maxRecDepth 20000
abbrev recCs (tv cv : Value) (b : Nat → Bool) (c : Nat → Int) : Array Value := #[tv, cv, .bool (b 0), .bool (b 1), .bool (b 2), .bool (b 3), .bool (b 4), .bool (b 5), .bool (b 6), .bool (b 7), .int .i64 (c 0), .int .i64 (c 1), .int .i64 (c 2), .int .i64 (c 3), .int .i64 (c 4), .int .i64 (c 5), .int .i64 (c 6), .int .i64 (c 7)]
def RecB (w : World) (g : Nat) (tv cv : Value) (b : Nat → Bool) (c : Nat → Int) : Prop := Lies w g 125 (recCs tv cv b c)
theorem nat8 {k : Nat} (hk : k < 8) : k = 0 ∨ k = 1 ∨ k = 2 ∨ k = 3 ∨ k = 4 ∨ k = 5 ∨ k = 6 ∨ k = 7 := by omega
def updB (b : Nat → Bool) (i : Nat) (x : Bool) : Nat → Bool := fun j => if j = i then x else b j
def updI (c : Nat → Int) (i : Nat) (x : Int) : Nat → Int := fun j => if j = i then x else c j
section
variable {w w' : World} {g : Nat} {tv cv : Value} {b : Nat → Bool} {c : Nat → Int}
theorem RecB.alloc (h : RecB w g tv cv b c) (o : Obj) : RecB (w.alloc o) g tv cv b c := Lies.alloc h o
theorem RecB.drew (h : RecB w g tv cv b c) : RecB w.drew g tv cv b c := h
theorem RecB.drewN (h : RecB w g tv cv b c) (n : Nat) : RecB (w.drewN n) g tv cv b c := h
theorem RecB.far (h : RecB w g tv cv b c) {p : Addr} (hp : g ≠ p.block) (u : Value) : RecB (w.setCell p u) g tv cv b c := Lies.far h hp u
theorem RecB.below {B : Nat} (h : RecB w g tv cv b c) (hb : Below B w w') (hg : g < B) : RecB w' g tv cv b c := Lies.below h hb hg
theorem RecB.types (h : RecB w g tv cv b c) : w.cell? ⟨g, 0, none⟩ = some tv := Lies.cell h 0
theorem RecB.calls (h : RecB w g tv cv b c) : w.cell? ⟨g, 1, none⟩ = some cv := Lies.cell h 1
theorem RecB.busy (h : RecB w g tv cv b c) {p : Nat} (hp : p < 8) : w.cell? ⟨g, 2 + p, none⟩ = some (.bool (b p)) := by
  rw [Lies.cell h]
  rcases nat8 hp with rfl | rfl | rfl | rfl | rfl | rfl | rfl | rfl <;> rfl
theorem RecB.cur (h : RecB w g tv cv b c) {p : Nat} (hp : p < 8) : w.cell? ⟨g, 10 + p, none⟩ = some (.int .i64 (c p)) := by
  rw [Lies.cell h]
  rcases nat8 hp with rfl | rfl | rfl | rfl | rfl | rfl | rfl | rfl <;> rfl
theorem RecB.free (h : RecB w g tv cv b c) (i : Nat) : w.frozen? ⟨g, i, none⟩ = false := Lies.frozen h i
theorem RecB.setBusy (h : RecB w g tv cv b c) {p : Nat} (hp : p < 8) (x : Bool) : RecB (w.setCell ⟨g, 2 + p, none⟩ (.bool x)) g tv cv (updB b p x) c := by
  refine Lies.cast (Lies.set_ h (2 + p) (.bool x)) ?_
  rcases nat8 hp with rfl | rfl | rfl | rfl | rfl | rfl | rfl | rfl <;> simp [recCs, updB]
theorem RecB.setCur (h : RecB w g tv cv b c) {p : Nat} (hp : p < 8) (x : Int) : RecB (w.setCell ⟨g, 10 + p, none⟩ (.int .i64 x)) g tv cv b (updI c p x) := by
  refine Lies.cast (Lies.set_ h (10 + p) (.int .i64 x)) ?_
  rcases nat8 hp with rfl | rfl | rfl | rfl | rfl | rfl | rfl | rfl <;> simp [recCs, updI]
theorem RecB.setCalls (h : RecB w g tv cv b c) (v : Value) : RecB (w.setCell ⟨g, 1, none⟩ v) g tv v b c := Lies.cast (Lies.set_ h 1 v) (by simp [recCs])
end
/-- What the record says of the calls so far. -/
structure Knows (cs : List Cl) (b : Nat → Bool) (c : Nat → Int) : Prop where
  one : OneOpen cs
  busy : ∀ p, p < 8 → (b p = true ↔ 0 ≤ openOf cs (p : Int))
  cur : ∀ p, p < 8 → b p = true → c p = openOf cs (p : Int)
theorem Knows.answered {cs : List Cl} {b : Nat → Bool} {c : Nat → Int} (h : Knows cs b c) {p k : Nat} (hp : p < 8) (hk : openOf cs (p : Int) = (k : Int)) {d y : Cl} (_ : cs[k]? = some d) (_ : y.who = d.who) (hy : y.til ≠ -1) : Knows (cs.set k y) (updB b p false) c := by
  have hn : (openOf cs (p : Int)).toNat = k := by omega
  have h0 : ∀ q : Nat, openOf (cs.set k y) (q : Int) = if (q : Int) = (p : Int) then -1 else openOf cs (q : Int) := fun q => by
    have := openOf_set (who' := (q : Int)) h.one (who := (p : Int)) (by omega) hy
    rwa [hn] at this
  refine ⟨h.one.set k hy, fun q hq => ?_, fun q hq hb => ?_⟩
  · rw [h0 q]
    unfold updB
    by_cases e : q = p
    · subst e; simp
    · rw [if_neg e, if_neg (by omega)]
      exact h.busy q hq
  · rw [h0 q]
    unfold updB at hb
    by_cases e : q = p
    · subst e; simp at hb
    · rw [if_neg e] at hb
      rw [if_neg (by omega)]
      exact h.cur q hq hb
theorem Knows.called {cs : List Cl} {b : Nat → Bool} {c : Nat → Int} (h : Knows cs b c) {p : Nat} (hp : openOf cs (p : Int) < 0) {y : Cl} (hw : y.who = (p : Int)) (ht : y.til = -1) : Knows (cs ++ [y]) (updB b p true) (updI c p cs.length) := by
  have h0 : ∀ q : Nat, openOf (cs ++ [y]) (q : Int) = if q = p then (cs.length : Int) else openOf cs (q : Int) := fun q => by
    rw [openOf_snoc, hw, ht]
    by_cases e : q = p
    · subst e; simp
    · rw [if_neg (by omega), if_neg e]
  refine ⟨h.one.snoc (by rw [hw]; exact hp), fun q hq => ?_, fun q hq hb => ?_⟩
  · rw [h0 q]
    unfold updB
    by_cases e : q = p
    · subst e; simp
    · rw [if_neg e, if_neg e]
      exact h.busy q hq
  · rw [h0 q]
    unfold updB at hb
    unfold updI
    by_cases e : q = p
    · subst e; simp
    · rw [if_neg e] at hb
      rw [if_neg e, if_neg e]
      exact h.cur q hq hb
/-- The record lies in block g, over these types and these calls. -/
structure RecS (g : Nat) (tv : Value) (ts : List Int) (cs : List Cl) (w : World) : Prop where
  ex : ∃ cv b c, RecB w g tv cv b c ∧ COwn w (g + 1) cv cs ∧ Knows cs b c
  types : NRd w g tv ts
theorem COwn.then_ {w w' : World} {B : Nat} {v : Value} {l : List Cl} (h : COwn w B v l) (hb : Below w.heap.size w w') : COwn w' B v l :=
  World.ownsRow.kept h (row := none) ⟨hb.os, hb.tape, hb.output, hb.size, fun k hk _ => hb.block k hk⟩ (by
    cases hv : v.ownBlock with
    | none => exact .inl rfl
    | some k => exact .inr (by simp))
theorem COwn.alloc {w : World} {B : Nat} {v : Value} {l : List Cl} (h : COwn w B v l) (o : Obj) : COwn (w.alloc o) B v l := World.ownsRow.alloc h o
theorem COwn.drew {w : World} {B : Nat} {v : Value} {l : List Cl} (h : COwn w B v l) : COwn w.drew B v l := h
theorem COwn.drewN {w : World} {B : Nat} {v : Value} {l : List Cl} (h : COwn w B v l) (n : Nat) : COwn (w.drewN n) B v l := h
theorem COwn.far {w : World} {B : Nat} {v : Value} {l : List Cl} (h : COwn w B v l) {p : Addr} (hp : p.block < B) (u : Value) : COwn (w.setCell p u) B v l :=
  ownsRow_setCell_below h hp u
theorem RecS.next {g : Nat} {tv : Value} {ts : List Int} {cs : List Cl} {w w' : World} (h : RecS g tv ts cs w) (hb : Below w.heap.size w w') : RecS g tv ts cs w' := by
  obtain ⟨⟨cv, b, c, h1, h2, h3⟩, h4⟩ := h
  have hg : g < w.heap.size := Lies.lt h1
  exact ⟨⟨cv, b, c, Lies.below h1 hb hg, h2.then_ hb, h3⟩, h4.below (hb.mono (by omega))⟩
theorem RecS.lt {g : Nat} {tv : Value} {ts : List Int} {cs : List Cl} {w : World} (h : RecS g tv ts cs w) : g < w.heap.size := by
  obtain ⟨⟨cv, b, c, h1, h2, h3⟩, h4⟩ := h
  exact Lies.lt h1
/-- The row's cells of call k. -/
theorem COwn.at_ {w : World} {B : Nat} {v : Value} {l : List Cl} (h : COwn w B v l) {k : Nat} {x : Cl} (hk : l[k]? = some x) :
    ∃ h' cap, v = .slice (some ⟨h', 0, none⟩) l.length cap ∧ B ≤ h' ∧ h' < w.heap.size ∧ l.length ≤ cap ∧ cap ≤ maxLen ∧ (∀ i, w.frozen? ⟨h', i, none⟩ = false) ∧ ∀ j u, (clCs x)[j]? = some u → w.cell? ⟨h', k * 7 + j, none⟩ = some u := by
  have hkl := (List.getElem?_eq_some_iff.1 hk).1
  rcases h.2 with ⟨_, h0⟩ | ⟨g, cap, cur, rfl, h1, h2, h3, h4, h5, h6⟩
  · omega
  · refine ⟨g, cap, rfl, h1, (Array.getElem?_eq_some_iff.1 h2).1, h3, h4, fun i => World.ownsRow.frozenAt h i, fun j u hu => ?_⟩
    have hjl : j < 7 := (List.getElem?_eq_some_iff.1 hu).1
    rw [World.ownsRow.cellAt h (k * 7 + j) (by omega)]
    exact flat_at (f := clCs) (s := 7) (fun _ => rfl) hk hu
theorem flat_set : ∀ (l : List Cl) (k j : Nat) (x : Cl) (u : Value) (y : Cl), l[k]? = some x → j < 7 → (clCs x).set j u = clCs y → (l.flatMap clCs).set (k * 7 + j) u = (l.set k y).flatMap clCs
  | [], k, j, x, u, y, h, _, _ => by simp at h
  | z :: r, 0, j, x, u, y, h, hj, he => by
    simp at h
    subst h
    rw [List.flatMap_cons, List.set_cons_zero, List.flatMap_cons, Nat.zero_mul, Nat.zero_add, List.set_append_left _ _ (by simpa using hj), he]
  | z :: r, k + 1, j, x, u, y, h, hj, he => by
    have h' : r[k]? = some x := by simpa using h
    rw [List.flatMap_cons, List.set_cons_succ, List.flatMap_cons, List.set_append_right _ _ (by simp; omega), ← flat_set r k j x u y h' hj he]
    congr 2
    simp; omega
/-- One number of call k is written. -/
theorem COwn.put {w : World} {B h' cap : Nat} {l : List Cl} (h : COwn w B (.slice (some ⟨h', 0, none⟩) l.length cap) l) {k j : Nat} {x y : Cl} (hk : l[k]? = some x) (hj : j < 7) {u : Value} (he : (clCs x).set j u = clCs y) :
    COwn (w.setCell ⟨h', k * 7 + j, none⟩ u) B (.slice (some ⟨h', 0, none⟩) (l.set k y).length cap) (l.set k y) := by
  have h1 := (World.ownsRow.stored h (k * 7 + j) u).1
  unfold COwn
  rw [List.length_set, ← flat_set l k j x u y hk hj he]
  exact h1
end Go.Proofs.YtfgangkpebkicaaDoor

/-
  Contract of (*history.record).respond.
-/
namespace Go.Proofs.YtfgangkpebkicaaDoor
open Go.RowKit
set_option maxRecDepth 20000
/-- What a method of the record did: an error; or it knows the calls that the event makes. -/
def Did (g : Nat) (tv : Value) (ts : List Int) (w : World) (s : Int ⊕ List Cl) (e : Ending) (w' : World) : Prop :=
  Below g w w' ∧ match s with
    | .inl r => e = .returned (.int .i64 r)
    | .inr cs' => e = .returned (.int .i64 0) ∧ RecS g tv ts cs' w'
/-- The event that was handed in lies in block P, behind all that was there; the record in block g. -/
structure EvSt (w : World) (g P : Nat) (tv cv : Value) (ts : List Int) (cs : List Cl) (b : Nat → Bool) (c : Nat → Int) (x : Ev) (W : World) : Prop where
  ev : Lies W P 84 (evCs x).toArray
  below : Below g w W
  rc : RecB W g tv cv b c
  own : COwn W (g + 1) cv cs
  types : NRd W g tv ts
  far : w.heap.size ≤ P
  lt : g < w.heap.size
section
variable {w W : World} {g P : Nat} {tv cv : Value} {ts : List Int} {cs : List Cl} {b : Nat → Bool} {c : Nat → Int} {x : Ev}
theorem EvSt.drewN (h : EvSt w g P tv cv ts cs b c x W) (n : Nat) : EvSt w g P tv cv ts cs b c x (W.drewN n) := ⟨h.ev, belowN h.below n, h.rc, h.own, h.types, h.far, h.lt⟩
theorem EvSt.drew (h : EvSt w g P tv cv ts cs b c x W) : EvSt w g P tv cv ts cs b c x W.drew := h.drewN 1
theorem EvSt.next {W' : World} (h : EvSt w g P tv cv ts cs b c x W) (hb : Below W.heap.size W W') : EvSt w g P tv cv ts cs b c x W' := by
  have h1 := h.lt
  have h2 := Lies.lt h.rc
  exact ⟨Lies.below h.ev hb (Lies.lt h.ev), h.below.trans (hb.mono (by omega)), h.rc.below hb h2, h.own.then_ hb, h.types.below (hb.mono (by omega)), h.far, h1⟩
theorem EvSt.alloc (h : EvSt w g P tv cv ts cs b c x W) (o : Obj) : EvSt w g P tv cv ts cs b c x (W.alloc o) := h.next ((Below.refl _ _).alloc (Nat.le_refl _) o)
theorem EvSt.apart (h : EvSt w g P tv cv ts cs b c x W) : some P ≠ cv.ownBlock := by
  rcases h.own.2 with ⟨rfl, h0⟩ | ⟨g', cap, cur, rfl, h1, h2, h3, h4, h5, h6⟩
  · simp [Value.ownBlock]
  · intro e
    simp only [Value.ownBlock, Option.some.injEq] at e
    subst e
    have := h.ev
    unfold Lies at this
    rw [h2] at this
    injection this with this
    injection this with _ this _
    exact absurd this (by decide)
theorem EvSt.cells (h : EvSt w g P tv cv ts cs b c x W) : W.cell? ⟨P, 0, none⟩ = some (.int .i64 x.who) ∧ W.cell? ⟨P, 1, none⟩ = some (.int .i64 x.thing) ∧ W.cell? ⟨P, 2, none⟩ = some (.int .i64 x.kind) ∧ W.cell? ⟨P, 3, none⟩ = some (.int .i64 x.val) :=
  ⟨Lies.cell h.ev 0, Lies.cell h.ev 1, Lies.cell h.ev 2, Lies.cell h.ev 3⟩
/-- The event's cells, the record's calls, and that they may be written. -/
def InvC (g P : Nat) (cv : Value) (x : Ev) (W : World) : Prop := W.cell? ⟨P, 0, none⟩ = some (.int .i64 x.who) ∧ W.cell? ⟨P, 1, none⟩ = some (.int .i64 x.thing) ∧ W.cell? ⟨P, 2, none⟩ = some (.int .i64 x.kind) ∧ W.cell? ⟨P, 3, none⟩ = some (.int .i64 x.val) ∧ W.cell? ⟨g, 1, none⟩ = some cv ∧ W.frozen? ⟨g, 1, none⟩ = false
theorem EvSt.held (h : EvSt w g P tv cv ts cs b c x W) : InvC g P cv x W :=
  ⟨h.cells.1, h.cells.2.1, h.cells.2.2.1, h.cells.2.2.2, h.rc.calls, h.rc.free 1⟩
theorem EvSt.grown {W' : World} (h : EvSt w g P tv cv ts cs b c x W) (hb : Below (g + 1) W W') (hg : W.grownBy W' cv.ownBlock) :
    InvC g P cv x W' ∧ RecB W' g tv cv b c ∧ Below g w W' ∧ NRd W' g tv ts ∧ g < w.heap.size := by
  have hr := h.rc.below hb (by omega)
  have hl : Lies W' P 84 (evCs x).toArray := Lies.keep h.ev (hg.block P (Lies.lt h.ev) h.apart)
  exact ⟨⟨Lies.cell hl 0, Lies.cell hl 1, Lies.cell hl 2, Lies.cell hl 3, hr.calls, hr.free 1⟩, hr, h.below.trans (hb.mono (by omega)), h.types.below (hb.mono (by omega)), h.lt⟩
theorem EvSt.start (h1 : RecB w g tv cv b c) (h2 : COwn w (g + 1) cv cs) (h3 : NRd w g tv ts) : EvSt w g w.heap.size tv cv ts cs b c x (w.alloc (.cells (evCs x).toArray 84)) :=
  ⟨Lies.new _ _ _, (Below.refl _ _).alloc (Nat.le_of_lt (Lies.lt h1)) _, h1.alloc _, h2.alloc _, h3.below ((Below.refl _ _).alloc (Nat.le_of_lt (Lies.lt h1)) _), Nat.le_refl _, Lies.lt h1⟩
theorem EvSt.busyPut (h : EvSt w g P tv cv ts cs b c x W) {p : Nat} (hp : p < 8) (u : Bool) : EvSt w g P tv cv ts cs (updB b p u) c x (W.setCell ⟨g, 2 + p, none⟩ (.bool u)) := by
  have hb : Below g W (W.setCell ⟨g, 2 + p, none⟩ (.bool u)) := (Below.refl _ _).setCell (Nat.le_refl g) _
  have h1 := h.far
  have h2 := h.lt
  exact ⟨Lies.far h.ev (by show P ≠ g; omega) _, h.below.trans hb, h.rc.setBusy hp u, h.own.far (by show g < g + 1; omega) _, h.types.below hb, h1, h2⟩
theorem EvSt.curPut (h : EvSt w g P tv cv ts cs b c x W) {p : Nat} (hp : p < 8) (u : Int) : EvSt w g P tv cv ts cs b (updI c p u) x (W.setCell ⟨g, 10 + p, none⟩ (.int .i64 u)) := by
  have hb : Below g W (W.setCell ⟨g, 10 + p, none⟩ (.int .i64 u)) := (Below.refl _ _).setCell (Nat.le_refl g) _
  have h1 := h.far
  have h2 := h.lt
  exact ⟨Lies.far h.ev (by show P ≠ g; omega) _, h.below.trans hb, h.rc.setCur hp u, h.own.far (by show g < g + 1; omega) _, h.types.below hb, h1, h2⟩
/-- A number of call k is written. -/
theorem EvSt.put {h' cap : Nat} (h : EvSt w g P tv (.slice (some ⟨h', 0, none⟩) cs.length cap) ts cs b c x W) {k j : Nat} {d y : Cl} (hk : cs[k]? = some d) (hj : j < 7) {u : Value} (he : (clCs d).set j u = clCs y) (h1 : g < h') (h2 : h' < w.heap.size) :
    EvSt w g P tv (.slice (some ⟨h', 0, none⟩) (cs.set k y).length cap) ts (cs.set k y) b c x (W.setCell ⟨h', k * 7 + j, none⟩ u) := by
  have hP := h.far
  have hb : Below g W (W.setCell ⟨h', k * 7 + j, none⟩ u) := (Below.refl _ _).setCell (Nat.le_of_lt h1) u
  refine ⟨Lies.far h.ev (by show P ≠ h'; omega) u, h.below.trans hb, ?_, h.own.put hk hj he, h.types.below hb, hP, h.lt⟩
  have := h.rc.far (p := ⟨h', k * 7 + j, none⟩) (by show g ≠ h'; omega) u
  rw [List.length_set]
  exact this
end
set_option maxHeartbeats 4000000 in
theorem respond_any {g : Nat} {tv : Value} {ts : List Int} {cs : List Cl} {w : World} (h : RecS g tv ts cs w) (n : Nat) (x : Ev) (p : Nat) (hp : p < 8) (hx : x.who = (p : Int)) :
    Calls Tryd.prog 77 #[.pointer (some ⟨g, 0, none⟩), .int .i64 n, evV x] w (Did g tv ts w (respS n cs x)) := by
  obtain ⟨who, thing, kind, val⟩ := x
  simp only at hx
  subst hx
  obtain ⟨⟨cv, b, c, h1, h2, h3⟩, h4⟩ := h
  have hb1 := h3.busy p hp
  have hc1 := h3.cur p hp
  have HI := Lib.hid (EvSt.start (x := ⟨p, thing, kind, val⟩) h1 h2 h4)
  have H3 := Lib.hid h3
  have p1 : (0 : Int) ≤ (p : Int) := by omega
  have p2 : (p : Int) < 8 := by omega
  clear h1 h3 h4
  cases hbp : b p
  · have ho : openOf cs (p : Int) < 0 := by
      apply Classical.byContradiction; intro hn
      have := hb1.2 (by omega)
      rw [hbp] at this; cases this
    have e : respS n cs ⟨p, thing, kind, val⟩ = .inl 4 := if_pos ho
    rw [e]
    have HBP := Lib.hid hbp
    clear hb1 hc1 hbp ho e h2
    go_enter Tryd.func77, Tryd.ntmps77
    go_wp2_with fail
    have HI' := HI.out
    clear HI
    generalize w.heap.size = P at HI' ⊢
    change Code.wp _ _ _ _ (w.alloc (.cells #[.int .i64 p, .int .i64 thing, .int .i64 kind, .int .i64 val] 84))
    generalize w.alloc (.cells #[.int .i64 p, .int .i64 thing, .int .i64 kind, .int .i64 val] 84) = W at HI' ⊢
    obtain ⟨d0, d1, d2, d3⟩ := HI'.cells
    have r2 := HI'.rc.busy hp
    rw [HBP.out] at r2
    have HB := Lib.hid HI'
    clear HI'
    go_quiet (fail)
    go_wp2_with fail
    go_ret
    exact ⟨belowN HB.out.below _, rfl⟩
  · have h0 : 0 ≤ openOf cs (p : Int) := hb1.1 hbp
    obtain ⟨cl, e1, e2, e3, e4⟩ := openOf_at h0
    obtain ⟨k, hk⟩ : ∃ k : Nat, openOf cs (p : Int) = (k : Int) := ⟨(openOf cs (p : Int)).toNat, by omega⟩
    have hcp : c p = (k : Int) := (hc1 hbp).trans hk
    rw [hk, Int.toNat_natCast] at e1 e4
    have hget : cs.getD k default = cl := by rw [List.getD_eq_getElem?_getD, e1]; rfl
    have er : respS n cs ⟨p, thing, kind, val⟩ = if cl.thing ≠ thing ∨ givesB cl.kind val = false then .inl 3 else .inr (cs.set k { cl with res := val, til := n }) := by
      unfold respS
      simp only
      rw [hk, Int.toNat_natCast, hget, if_neg (by omega)]
    generalize respS n cs ⟨p, thing, kind, val⟩ = s at er ⊢
    have HS := Lib.hid er
    obtain ⟨h', cap, rfl, q1, q2, q3, q4, -, -⟩ := h2.at_ e1
    have HQ := Lib.hid (And.intro e1 hk)
    have HBP := Lib.hid (And.intro hbp hcp)
    have k1 : (0 : Int) ≤ (k : Int) := by omega
    have k2 : (k : Int) < (cs.length : Int) := by omega
    clear hb1 hc1 hbp er h0 hk hcp hget e1 h2
    unfold maxLen at q4
    go_enter Tryd.func77, Tryd.ntmps77
    go_wp2_with fail
    have HI' := HI.out
    clear HI
    have Q2 := Lib.hid q2
    clear q2
    generalize w.heap.size = P at HI' ⊢
    change Code.wp _ _ _ _ (w.alloc (.cells #[.int .i64 p, .int .i64 thing, .int .i64 kind, .int .i64 val] 84))
    generalize w.alloc (.cells #[.int .i64 p, .int .i64 thing, .int .i64 kind, .int .i64 val] 84) = W at HI' ⊢
    obtain ⟨d0, d1, d2, d3⟩ := HI'.cells
    have r2 := HI'.rc.busy hp
    rw [HBP.out.1] at r2
    have HB := Lib.hid HI'
    clear HI'
    go_quiet (fail)
    go_wp2_with fail
    have HI' := HB.out.drewN nq
    clear d0 d1 d2 d3 r2 HB
    generalize W.drewN nq = W1 at HI' ⊢
    clear W
    obtain ⟨d0, d1, d2, d3⟩ := HI'.cells
    have r1 := HI'.rc.calls
    have r3 := HI'.rc.cur hp
    rw [HBP.out.2] at r3
    have HB := Lib.hid HI'
    clear HI'
    go_quiet (fail)
    go_wp2_with fail
    have HI' := HB.out.drewN nq
    clear d0 d1 d2 d3 r1 r3 HB
    generalize W1.drewN nq = W2 at HI' ⊢
    clear W1
    obtain ⟨d0, d1, d2, d3⟩ := HI'.cells
    obtain ⟨h'', cap'', hv, -, -, -, -, hf, q6⟩ := HI'.own.at_ HQ.out.1
    injection hv with hv
    injection hv with hv
    injection hv with hv
    subst hv
    have c1 : W2.cell? ⟨h', k * 7 + 1, none⟩ = some (.int .i64 cl.thing) := q6 1 _ rfl
    have c2 : W2.cell? ⟨h', k * 7 + 2, none⟩ = some (.int .i64 cl.kind) := q6 2 _ rfl
    have c4 : W2.cell? ⟨h', k * 7 + 4, none⟩ = some (.int .i64 cl.res) := q6 4 _ rfl
    have c6 : W2.cell? ⟨h', k * 7 + 6, none⟩ = some (.int .i64 cl.til) := q6 6 _ rfl
    have HB := Lib.hid (And.intro HI' hf)
    clear HI' q6 hf
    by_cases t1 : cl.thing = thing
    · have t2 : (cl.thing != thing) = false := by rw [bne_eq_false_iff_eq]; exact t1
      have T1 := Lib.hid t1
      clear t1
      cases hgv : givesB cl.kind val
      · have HG := Lib.hid hgv
        have hc := fun W => gives_any cl.kind val W
        rw [hgv] at hc
        have HC := Lib.hid hc
        clear hgv hc
        go_quiet ((go_at_call 96; exact quiet_left (HC.out _)))
        go_wp2_with fail
        go_ret
        have e := HS.out
        rw [if_pos (Or.inr HG.out)] at e
        rw [e]
        exact ⟨belowN HB.out.1.below _, rfl⟩
      · have HG := Lib.hid hgv
        have hc := fun W => gives_any cl.kind val W
        rw [hgv] at hc
        have HC := Lib.hid hc
        clear hgv hc
        have hf := HB.out.2
        go_quiet ((go_at_call 96; exact quiet_left (HC.out _)))
        go_wp2_with fail
        have hs1 := (HB.out.1.drewN nq).put (j := 4) (y := { cl with res := val }) HQ.out.1 (by decide) (u := .int .i64 val) rfl (by omega) Q2.out
        have hk1 : (cs.set k { cl with res := val })[k]? = some { cl with res := val } := by rw [List.getElem?_set_self e4]
        have hs2 := hs1.put (j := 6) (y := { cl with res := val, til := n }) hk1 (by decide) (u := .int .i64 n) rfl (by omega) Q2.out
        rw [List.set_set] at hs2
        have HE := Lib.hid hs2
        clear hs1 hs2 hk1 d0 d1 d2 d3 c1 c2 c4 c6 hf HB
        generalize ((W2.drewN nq).setCell ⟨h', k * 7 + 4, none⟩ (.int .i64 val)).setCell ⟨h', k * 7 + 6, none⟩ (.int .i64 n) = W3 at HE ⊢
        have d0 := HE.out.cells.1
        have r2 := HE.out.rc.busy hp
        have rf := HE.out.rc.free (2 + p)
        go_still_tail 6, (by kernel_rfl)
        change wpList _ _ _ _ _ W3.drew
        have HE2 := Lib.hid HE.out.drew
        clear d0 r2 rf HE
        generalize W3.drew = W4 at HE2 ⊢
        have r2 := HE2.out.rc.busy hp
        have rf := HE2.out.rc.free (2 + p)
        go_wp2_with fail
        go_ret
        have e := HS.out
        rw [if_neg (fun h => h.elim (fun h => h T1.out) (fun h => by rw [HG.out] at h; cases h))] at e
        rw [e]
        have hgl := HE2.out.lt
        refine ⟨HE2.out.below.setCell (Nat.le_refl _) _, rfl, ⟨_, _, _, HE2.out.rc.setBusy hp false, HE2.out.own.far (by show g < g + 1; omega) _, ?_⟩, HE2.out.types.below ((Below.refl g W4).setCell (p := ⟨g, 2 + p, none⟩) (Nat.le_refl g) _)⟩
        exact H3.out.answered hp HQ.out.2 HQ.out.1 rfl (by show ((n : Nat) : Int) ≠ -1; omega)
    · have t2 : (cl.thing != thing) = true := by rw [bne_iff_ne]; exact t1
      have T1 := Lib.hid t1
      clear t1
      go_quiet (fail)
      go_wp2_with fail
      go_ret
      have e := HS.out
      rw [if_pos (Or.inl T1.out)] at e
      rw [e]
      exact ⟨belowN HB.out.1.below _, rfl⟩
end Go.Proofs.YtfgangkpebkicaaDoor

/-
  append(s, x): s the call's own row of things of several cells, x one more, in a new block: the run, at Oper.wp, at a list, at a step of a region that draws.
-/
namespace Go.Proofs.YtfgangkpebkicaaDoor
open Go.RowKit
set_option maxRecDepth 20000
theorem info_cl : (Tryd.prog.info? 51).map (fun i => (i.zero, i.size, i.bytes)) = some (some (clV default), 7, 56) := by kernel_rfl
theorem info_of {P : Program} {t : TypeId} {z : Option Value} {s b : Nat} (h : (P.info? t).map (fun i => (i.zero, i.size, i.bytes)) = some (z, s, b)) : ∃ i, P.info? t = some i ∧ i.zero = z ∧ i.size = s ∧ i.bytes = b := by
  cases hi : P.info? t with
  | none => rw [hi] at h; cases h
  | some i =>
    rw [hi] at h
    simp only [Option.map_some, Option.some.injEq, Prod.mk.injEq] at h
    exact ⟨i, rfl, h.1, h.2.1, h.2.2⟩
theorem run_app_cl {W : World} {base G : Nat} {v : Value} {l : List Cl} {y : Cl} (ty : TypeId) (hown : COwn W base v l) (hG : ∀ j u, (clCs y)[j]? = some u → W.cell? ⟨G, j, none⟩ = some u) (hlen : l.length ≤ 65536) (hbase : base ≤ W.heap.size) :
    ∃ v' w', (Builtin.append_ #[31, 31] ty #[v, .slice (some ⟨G, 0, none⟩) 1 1]).run Tryd.prog W = .ok v' w' ∧ COwn w' base v' (l ++ [y]) ∧ Below base W w' ∧ W.grownBy w' v.ownBlock := by
  obtain ⟨i0, hi, hz0, hz1, hz2⟩ := info_of info_cl
  have hl := World.ownsRow.lt hown
  obtain ⟨v', w', hr, h2, h3, _⟩ := run_append_own (P := Tryd.prog) W base 31 ty 51 i0 (clV default) 7 56 Tryd.underlying31 hi hz0 hz1 hz2 rfl (by decide) v l.length (l.flatMap clCs) hown
    ⟨G, 0, none⟩ 1 1 (clCs y) rfl (fun j u hu => by
      rw [Addr.add_lit, Nat.zero_add]
      exact hG j u hu) (fun u hu => by
      simp only [List.mem_cons, List.not_mem_nil, or_false] at hu
      rcases hu with rfl | rfl | rfl | rfl | rfl | rfl | rfl <;> rfl) (by unfold maxLen; omega) (by omega) hbase
  refine ⟨v', w', hr, ?_, (Below.refl base W).grown h3 hbase (fun k hk => (hl k hk).1), h3⟩
  unfold COwn
  rw [List.length_append, List.flatMap_append]
  simpa using h2
theorem own_slice {w : World} {B : Nat} {v : Value} {l : List Cl} (h : COwn w B v l) : ∃ A c, v = .slice A l.length c := by
  obtain ⟨A, c, h, _⟩ := h.rd.is
  exact ⟨A, c, h⟩
theorem wp_app_cl {W : World} {o : Oper} {a : Act} {K : Act → World → Prop} {Q : Exit → Act → World → Prop} (s x : Operand)
    (ho : o.op = .call { callee := .builtin .append, args := #[s, x], argTypes := #[31, 31] })
    (base G : Nat) (v : Value) (l : List Cl) (y : Cl) (hs : a.eval s = v) (hx : a.eval x = .slice (some ⟨G, 0, none⟩) 1 1) (hown : COwn W base v l) (hG : ∀ j u, (clCs y)[j]? = some u → W.cell? ⟨G, j, none⟩ = some u) (hlen : l.length ≤ 65536) (hbase : base ≤ W.heap.size)
    (h : ∀ v' w', COwn w' base v' (l ++ [y]) → Below base W w' → W.grownBy w' v.ownBlock → K (a.put o.dst v') w') : Oper.wp Tryd.prog o a W K Q := by
  obtain ⟨v', w', hrun, r1, r2, r3⟩ := run_app_cl o.type hown hG hlen hbase
  unfold Oper.wp
  simp [execOp, ho, resolve, invoke, builtin, hs, hx, hrun, Result.andThen]
  exact h v' w' r1 r2 r3
theorem wpList_app_cl {W : World} {ops : Array Oper} {rest : List Oper} {o : Oper} {a : Act} {Q : Exit → Act → World → Prop} (hgd : o.guard = none) (s x : Operand)
    (ho : o.op = .call { callee := .builtin .append, args := #[s, x], argTypes := #[31, 31] })
    (base G : Nat) (v : Value) (l : List Cl) (y : Cl) (hs : a.eval s = v) (hx : a.eval x = .slice (some ⟨G, 0, none⟩) 1 1) (hown : COwn W base v l) (hG : ∀ j u, (clCs y)[j]? = some u → W.cell? ⟨G, j, none⟩ = some u) (hlen : l.length ≤ 65536) (hbase : base ≤ W.heap.size)
    (h : ∀ v' w', COwn w' base v' (l ++ [y]) → Below base W w' → W.grownBy w' v.ownBlock → wpList Tryd.prog ops Q rest (a.put o.dst v') w') : wpList Tryd.prog ops Q (o :: rest) a W :=
  wpList_plain hgd fun _ hK => wp_app_cl s x ho base G v l y hs hx hown hG hlen hbase fun v' w' h1 h2 h3 => hK _ _ (h v' w' h1 h2 h3)
theorem step_app_cl {W : World} {ops : Array Oper} {o : Oper} {a : Act} {K : Act → World → Prop} {Q : Exit → Act → World → Prop} {E : Prop} (hgd : o.guard = none) (s x : Operand)
    (ho : o.op = .call { callee := .builtin .append, args := #[s, x], argTypes := #[31, 31] })
    (base G : Nat) (v : Value) (l : List Cl) (y : Cl) (hs : a.eval s = v) (hx : a.eval x = .slice (some ⟨G, 0, none⟩) 1 1) (hown : COwn W base v l) (hG : ∀ j u, (clCs y)[j]? = some u → W.cell? ⟨G, j, none⟩ = some u) (hlen : l.length ≤ 65536) (hbase : base ≤ W.heap.size)
    (h : ∀ v' w', COwn w' base v' (l ++ [y]) → Below base W w' → W.grownBy w' v.ownBlock → K (a.put o.dst v') w') :
    if Region.wanted o (yielded ops a.tmps) = true then Oper.wp Tryd.prog o a W K Q else E := by
  have hw : Region.wanted o (yielded ops a.tmps) = true := by simp [Region.wanted, hgd]
  rw [if_pos hw]
  exact wp_app_cl s x ho base G v l y hs hx hown hG hlen hbase h
end Go.Proofs.YtfgangkpebkicaaDoor
