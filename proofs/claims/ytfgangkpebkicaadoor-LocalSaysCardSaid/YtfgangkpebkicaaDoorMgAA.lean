/-
  Joined by a program out of: Lies, BTab, BTabM, HistPure, LitsInj, LGrpPure, KeyInt, LRd, HistSmall.
-/
import Derived.Test.YtfgangkpebkicaaDoorProg
import Derived.WalkKit
import Derived.Deep.QuietTactic
import Derived.BigQuiet
import Derived.Lib.Hide
import Derived.Deep.Draws
import Derived.Laws.OwnMore
import Derived.Deep.AppendLies
import Derived.Maps.GroupsBeside
import Derived.Maps.OwnSet
import Derived.Maps.OwnOps

/-
  Words for memory: a block that is known whole.
-/
namespace Go.Proofs.YtfgangkpebkicaaDoor
open Go.RowKit
set_option maxRecDepth 20000
/-- Block g of w: the cells cs, of type t, none of them frozen. -/
def Lies (w : World) (g : Nat) (t : TypeId) (cs : Array Value) : Prop := w.heap[g]? = some (.cells cs t (0, 0))
section
variable {w w' : World} {g : Nat} {t : TypeId} {cs : Array Value}
/-- It still lies there, wherever the heap has the same block. -/
theorem Lies.keep (h : Lies w g t cs) (e : w'.heap[g]? = w.heap[g]?) : Lies w' g t cs := by
  show w'.heap[g]? = _
  rw [e]
  exact h
theorem Lies.lt (h : Lies w g t cs) : g < w.heap.size := (Array.getElem?_eq_some_iff.1 h).1
theorem Lies.below {B : Nat} (h : Lies w g t cs) (hb : Below B w w') (hg : g < B) : Lies w' g t cs := h.keep (hb.block g hg)
theorem Lies.alloc (h : Lies w g t cs) (o : Obj) : Lies (w.alloc o) g t cs := h.below ((Below.refl _ _).alloc (Nat.le_refl _) o) h.lt
theorem Lies.far (h : Lies w g t cs) {p : Addr} (hp : g ≠ p.block) (u : Value) : Lies (w.setCell p u) g t cs := h.keep (Below.heap_setCell w p u g hp)
theorem Lies.drew (h : Lies w g t cs) : Lies w.drew g t cs := h.keep rfl
theorem Lies.new (w : World) (t : TypeId) (cs : Array Value) : Lies (w.alloc (.cells cs t)) w.heap.size t cs := by
  show (w.heap.push _)[w.heap.size]? = _
  simp
theorem Lies.cell (h : Lies w g t cs) (i : Nat) : w.cell? ⟨g, i, none⟩ = cs[i]? := cell_of_row w g i cs t (0, 0) h
theorem Lies.frozen (h : Lies w g t cs) (i : Nat) : w.frozen? ⟨g, i, none⟩ = false := by
  have h' : w.heap[g]? = some (.cells cs t (0, 0)) := h
  simp [World.frozen?, h']
theorem Lies.set_ (h : Lies w g t cs) (i : Nat) (u : Value) : Lies (w.setCell ⟨g, i, none⟩ u) g t (cs.setIfInBounds i u) := by
  have h' : w.heap[g]? = some (.cells cs t (0, 0)) := h
  simp [Lies, World.setCell, Array.getElem?_modify, h']
theorem Lies.cast {cs' : Array Value} (h : Lies w g t cs) (e : cs = cs') : Lies w g t cs' := by rw [← e]; exact h
end
theorem belowN {B : Nat} {a w : World} (h : Below B a w) (n : Nat) : Below B a (w.drewN n) := ⟨h.os, h.tape, h.output, h.size, h.block⟩
theorem Lies.drewN {w : World} {g : Nat} {t : TypeId} {cs : Array Value} (h : Lies w g t cs) (n : Nat) : Lies (w.drewN n) g t cs := h
/-- The cells of a block that was just made. -/
theorem new_cells (W : World) (t : TypeId) (l : List Value) : ∀ j u, l[j]? = some u → (W.alloc (.cells l.toArray t)).cell? ⟨W.heap.size, j, none⟩ = some u := by
  intro j u hu
  rw [Lies.cell (Lies.new W t l.toArray)]
  simpa using hu
theorem quiet_left {P : Program} {f : FuncId} {args : Array Value} {w : World} {n : Nat} {v : Value}
    (h : Calls P f args (w.drewN n) fun e w' => e = .returned v ∧ w.drewN n = w') : Calls P f args (w.drewN n) fun e w'' => e = .returned v ∧ ∃ m, w'' = w.drewN m :=
  h.mono fun _ _ ⟨he, hm⟩ => ⟨he, n, hm.symm⟩
theorem ret_bool {a b : Bool} (h : a = b) : Ending.returned (.bool a) = .returned (.bool b) := by rw [h]
theorem ret_int {k : IntKind} {a b : Int} (h : a = b) : Ending.returned (.int k a) = .returned (.int k b) := by rw [h]
end Go.Proofs.YtfgangkpebkicaaDoor

/-
  Tables of truths.
-/
namespace Go.Proofs.YtfgangkpebkicaaDoor
open Go.RowKit
set_option maxRecDepth 20000
/-- The cells of a table of N truths. -/
def bitCs (N : Nat) (S : Nat → Bool) : Array Value := (Array.range N).map fun i => .bool (S i)
def BTab (w : World) (g N : Nat) (S : Nat → Bool) : Prop := Lies w g 4 (bitCs N S)
theorem bitCs_get (N : Nat) (S : Nat → Bool) (i : Nat) (h : i < N) : (bitCs N S)[i]? = some (.bool (S i)) := by
  simp [bitCs, h]
theorem bitCs_set (N : Nat) (S : Nat → Bool) (i : Nat) (x : Bool) : (bitCs N S).setIfInBounds i (.bool x) = bitCs N (fun j => if j = i then x else S j) := by
  apply Array.ext_getElem?
  intro j
  rw [Array.getElem?_setIfInBounds]
  by_cases h : i = j
  · subst h
    by_cases hi : i < N <;> simp [bitCs, hi]
  · rw [if_neg h]
    by_cases hj : j < N <;> simp [bitCs, hj, show ¬ j = i from fun e => h e.symm]
theorem BTab.cell {w : World} {g N : Nat} {S : Nat → Bool} (h : BTab w g N S) {i : Nat} (hi : i < N) : w.cell? ⟨g, i, none⟩ = some (.bool (S i)) := by
  rw [Lies.cell h, bitCs_get N S i hi]
theorem BTab.set_ {w : World} {g N : Nat} {S : Nat → Bool} (h : BTab w g N S) (i : Nat) (x : Bool) : BTab (w.setCell ⟨g, i, none⟩ (.bool x)) g N (fun j => if j = i then x else S j) :=
  Lies.cast (Lies.set_ h i (.bool x)) (bitCs_set N S i x)
end Go.Proofs.YtfgangkpebkicaaDoor

/-
  A table of truths, made.
-/
namespace Go.Proofs.YtfgangkpebkicaaDoor
open Go.RowKit
set_option maxRecDepth 20000

theorem info_bool : (Tryd.prog.info? 4).map (fun i => (i.zero, i.size, i.bytes)) = some (some (.bool false), 1, 1) := by kernel_rfl
theorem made_bools (N : Nat) (l : Int) (hl : l = N) (hN : N ≤ 65536) (w : World) :
    (Instr.makeSlice 24 (.int .i64 l) (.int .i64 l)).run Tryd.prog w = .ok (.slice (some ⟨w.heap.size, 0, none⟩) N N) (w.alloc (.cells (bitCs N fun _ => false) 4)) := by
  obtain ⟨i0, hi, hz0, hz1, hz2⟩ := info_parts info_bool
  subst hl
  rw [run_make w 24 4 i0 (.bool false) Tryd.underlying24 hi hz0 .i64 .i64 N N (by omega) (by omega) (by rw [hz2]; omega) (by omega), hz1]
  simp only [Int.toNat_natCast, Nat.mul_one]
  congr 3
  apply Array.ext
  · simp [bitCs, madeCells]
  · intro j h1 h2
    simp [bitCs, madeCells, Value.cells, Nat.mod_one]

end Go.Proofs.YtfgangkpebkicaaDoor

/-
  Plain mathematics for package history: events, calls, which calls a list of events tells. No Go, no program.
-/
namespace Go.Proofs.YtfgangkpebkicaaDoor
open Go.RowKit
set_option maxRecDepth 20000
/-- An event. -/
structure Ev where
  who : Int
  thing : Int
  kind : Int
  val : Int
/-- A call. -/
structure Cl where
  who : Int
  thing : Int
  kind : Int
  arg : Int
  res : Int
  frm : Int
  til : Int
theorem Ev.same {a b : Ev} (h1 : a.who = b.who) (h2 : a.thing = b.thing) (h3 : a.kind = b.kind) (h4 : a.val = b.val) : a = b := by
  cases a; cases b; simp at h1 h2 h3 h4; subst h1 h2 h3 h4; rfl
theorem Cl.same {a b : Cl} (h1 : a.who = b.who) (h2 : a.thing = b.thing) (h3 : a.kind = b.kind) (h4 : a.arg = b.arg) (h5 : a.res = b.res) (h6 : a.frm = b.frm) (h7 : a.til = b.til) : a = b := by
  cases a; cases b; simp at h1 h2 h3 h4 h5 h6 h7; subst h1 h2 h3 h4 h5 h6 h7; rfl
instance : DecidableEq Ev := fun a b =>
  if h : a.who = b.who ∧ a.thing = b.thing ∧ a.kind = b.kind ∧ a.val = b.val then isTrue (Ev.same h.1 h.2.1 h.2.2.1 h.2.2.2)
  else isFalse fun e => h (by subst e; exact ⟨rfl, rfl, rfl, rfl⟩)
instance : DecidableEq Cl := fun a b =>
  if h : a.who = b.who ∧ a.thing = b.thing ∧ a.kind = b.kind ∧ a.arg = b.arg ∧ a.res = b.res ∧ a.frm = b.frm ∧ a.til = b.til then isTrue (Cl.same h.1 h.2.1 h.2.2.1 h.2.2.2.1 h.2.2.2.2.1 h.2.2.2.2.2.1 h.2.2.2.2.2.2)
  else isFalse fun e => h (by subst e; exact ⟨rfl, rfl, rfl, rfl, rfl, rfl, rfl⟩)
instance : Inhabited Ev := ⟨⟨0, 0, 0, 0⟩⟩
instance : Inhabited Cl := ⟨⟨0, 0, 0, 0, 0, 0, 0⟩⟩
/-- Between two bounds, both let in. -/
def btw (a n b : Int) : Bool := decide (a ≤ n ∧ n ≤ b)
theorem btw_iff {a n b : Int} : btw a n b = true ↔ a ≤ n ∧ n ≤ b := decide_eq_true_iff
theorem btw_not {a n b : Int} : btw a n b = false ↔ ¬ (a ≤ n ∧ n ≤ b) := decide_eq_false_iff_not
/-- The type to which a kind belongs, or 0. -/
def kindType (k : Int) : Int := if k = 1 ∨ k = 2 then 1 else if k = 3 ∨ k = 4 then 2 else if k = 5 ∨ k = 6 then 3 else if k = 7 ∨ k = 8 ∨ k = 9 then 4 else if k = 10 then 5 else 0
def fitsB (t k : Int) : Bool := decide (t ≠ 0 ∧ t = kindType k)
/-- May a kind be called so? -/
def takesB (k v : Int) : Bool := if k = 1 ∨ k = 3 ∨ k = 5 ∨ k = 7 ∨ k = 8 ∨ k = 9 then btw 1 v 1000 else v == 0
/-- May a kind be answered so? -/
def givesB (k v : Int) : Bool := if k = 2 ∨ k = 10 then btw 0 v 1000 else if k = 4 ∨ k = 6 then v == -1 || btw 1 v 1000 else if k = 7 ∨ k = 8 ∨ k = 9 then btw 0 v 1 else v == 0
theorem fits_kind {t k : Int} (h : fitsB t k = true) : 1 ≤ k ∧ k ≤ 10 ∧ 1 ≤ t ∧ t ≤ 5 := by
  unfold fitsB at h
  rw [decide_eq_true_iff] at h
  obtain ⟨h1, h2⟩ := h
  unfold kindType at h2
  repeat' split at h2
  all_goals omega
/-- The last of the calls (the first of which is number k) that is theirs and open; else what was found before. -/
def openFrom (who : Int) : Nat → Int → List Cl → Int
  | _, a, [] => a
  | k, a, c :: r => openFrom who (k + 1) (if c.who = who ∧ c.til = -1 then (k : Int) else a) r
def openOf (cs : List Cl) (who : Int) : Int := openFrom who 0 (-1) cs
/-- What an answer makes of the calls, or the error. -/
def respS (n : Nat) (cs : List Cl) (x : Ev) : Int ⊕ List Cl :=
  if openOf cs x.who < 0 then .inl 4
  else if (cs.getD (openOf cs x.who).toNat default).thing ≠ x.thing ∨ givesB (cs.getD (openOf cs x.who).toNat default).kind x.val = false then .inl 3
  else .inr (cs.set (openOf cs x.who).toNat { cs.getD (openOf cs x.who).toNat default with res := x.val, til := n })
/-- What a new call makes of the calls, or the error. -/
def invS (ts : List Int) (n : Nat) (cs : List Cl) (x : Ev) : Int ⊕ List Cl :=
  if fitsB (ts.getD x.thing.toNat 0) x.kind = false ∨ takesB x.kind x.val = false then .inl 3
  else if 0 ≤ openOf cs x.who then .inl 5
  else .inr (cs ++ [⟨x.who, x.thing, x.kind, x.val, 0, n, -1⟩])
/-- What one more event makes of the calls, or the error. -/
def step (ts : List Int) (n : Nat) (cs : List Cl) (x : Ev) : Int ⊕ List Cl :=
  if ¬ (0 ≤ x.who ∧ x.who ≤ 7) ∨ ¬ (0 ≤ x.thing ∧ x.thing < ts.length) then .inl 3
  else if x.kind = 0 then respS n cs x else invS ts n cs x
/-- The calls that the events tell, the first of which is number n, behind those of the events before. -/
def run (ts : List Int) : Nat → List Cl → List Ev → List Cl × Nat × Int
  | _, cs, [] => (cs, 0, 0)
  | n, cs, x :: r => match step ts n cs x with
    | .inl e => ([], n, e)
    | .inr cs' => run ts (n + 1) cs' r
def typesB (ts : List Int) : Bool := decide (1 ≤ ts.length ∧ ts.length ≤ 4) && ts.all fun t => decide (1 ≤ t ∧ t ≤ 5)
/-- The calls of a history, or the place of the first fault and the error. -/
def callsOf (ts : List Int) (l : List Ev) : List Cl × Nat × Int :=
  if typesB ts = false then ([], 0, 1) else if 200 < l.length then ([], 0, 2) else run ts 0 [] l
theorem openFrom_ge (who : Int) : ∀ (cs : List Cl) (k : Nat) (a : Int), (openFrom who k a cs = a) ∨ (∃ i c, cs[i]? = some c ∧ c.who = who ∧ c.til = -1 ∧ openFrom who k a cs = ((k + i : Nat) : Int))
  | [], k, a => .inl rfl
  | c :: r, k, a => by
    rw [openFrom]
    rcases openFrom_ge who r (k + 1) (if c.who = who ∧ c.til = -1 then (k : Int) else a) with h | ⟨i, d, h1, h2, h3, h4⟩
    · rw [h]
      by_cases hc : c.who = who ∧ c.til = -1
      · rw [if_pos hc]
        exact .inr ⟨0, c, rfl, hc.1, hc.2, rfl⟩
      · rw [if_neg hc]
        exact .inl rfl
    · exact .inr ⟨i + 1, d, by simpa using h1, h2, h3, by rw [h4]; congr 1; omega⟩
/-- Where something is open it is one's own call, not answered. -/
theorem openOf_at {cs : List Cl} {who : Int} (h : 0 ≤ openOf cs who) : ∃ c, cs[(openOf cs who).toNat]? = some c ∧ c.who = who ∧ c.til = -1 ∧ (openOf cs who).toNat < cs.length := by
  unfold openOf at h ⊢
  rcases openFrom_ge who cs 0 (-1) with h1 | ⟨i, c, h1, h2, h3, h4⟩
  · omega
  · rw [h4]
    have : ((0 + i : Nat) : Int).toNat = i := by omega
    rw [this]
    exact ⟨c, h1, h2, h3, (List.getElem?_eq_some_iff.1 h1).1⟩
theorem openOf_ge (cs : List Cl) (who : Int) : -1 ≤ openOf cs who := by
  unfold openOf
  rcases openFrom_ge who cs 0 (-1) with h1 | ⟨i, c, h1, h2, h3, h4⟩
  · omega
  · omega
theorem openOf_lt (cs : List Cl) (who : Int) : openOf cs who < cs.length := by
  by_cases h : 0 ≤ openOf cs who
  · obtain ⟨c, h1, h2, h3, h4⟩ := openOf_at h
    omega
  · have := openOf_ge cs who
    omega
theorem openFrom_append (who : Int) : ∀ (cs : List Cl) (k : Nat) (a : Int) (r : List Cl), openFrom who k a (cs ++ r) = openFrom who (k + cs.length) (openFrom who k a cs) r
  | [], k, a, r => by simp [openFrom]
  | c :: cs, k, a, r => by
    rw [List.cons_append, openFrom, openFrom_append who cs, openFrom]
    congr 1
    simp; omega
theorem openOf_snoc (cs : List Cl) (c : Cl) (who : Int) : openOf (cs ++ [c]) who = if c.who = who ∧ c.til = -1 then (cs.length : Int) else openOf cs who := by
  unfold openOf
  rw [openFrom_append, openFrom, openFrom]
  simp
/-- Each has at most one call that is open. -/
def OneOpen (cs : List Cl) : Prop := ∀ (i j : Nat) (c d : Cl), cs[i]? = some c → cs[j]? = some d → c.who = d.who → c.til = -1 → d.til = -1 → i = j
theorem openOf_none {cs : List Cl} {who : Int} (h : openOf cs who < 0) {i : Nat} {c : Cl} (hc : cs[i]? = some c) (hw : c.who = who) : c.til ≠ -1 := by
  intro ht
  have hlt : i < cs.length := (List.getElem?_eq_some_iff.1 hc).1
  have e : cs = cs.take i ++ (c :: cs.drop (i + 1)) := by
    have h1 : cs.drop i = c :: cs.drop (i + 1) := by
      rw [List.drop_eq_getElem_cons hlt, (List.getElem?_eq_some_iff.1 hc).2]
    rw [← h1, List.take_append_drop]
  have key : ∀ (r : List Cl) (k : Nat) (a : Int), 0 ≤ a → 0 ≤ openFrom who k a r := by
    intro r k a ha
    rcases openFrom_ge who r k a with h1 | ⟨i, c, h1, h2, h3, h4⟩
    · omega
    · omega
  unfold openOf at h
  rw [e, openFrom_append, openFrom, if_pos ⟨hw, ht⟩] at h
  have := key (cs.drop (i + 1)) (0 + (cs.take i).length + 1) (((0 + (cs.take i).length : Nat)) : Int) (by omega)
  omega
/-- With one at most, it is just that one. -/
theorem openOf_eq {cs : List Cl} {who : Int} (h1 : OneOpen cs) {i : Nat} {c : Cl} (hc : cs[i]? = some c) (hw : c.who = who) (ht : c.til = -1) : openOf cs who = (i : Int) := by
  have h0 : 0 ≤ openOf cs who := by
    apply Classical.byContradiction
    intro hn
    exact openOf_none (by omega) hc hw ht
  obtain ⟨d, e1, e2, e3, _⟩ := openOf_at h0
  have := h1 _ _ _ _ hc e1 (by rw [hw, e2]) ht e3
  omega
theorem openOf_iff {cs : List Cl} (h1 : OneOpen cs) {who : Int} {i : Nat} : openOf cs who = (i : Int) ↔ ∃ c, cs[i]? = some c ∧ c.who = who ∧ c.til = -1 := by
  constructor
  · intro h
    obtain ⟨c, e1, e2, e3, _⟩ := openOf_at (cs := cs) (who := who) (by omega)
    rw [h] at e1
    exact ⟨c, by simpa using e1, e2, e3⟩
  · rintro ⟨c, e1, e2, e3⟩
    exact openOf_eq h1 e1 e2 e3
theorem OneOpen.nil : OneOpen [] := fun i j c d h => by simp at h
theorem OneOpen.snoc {cs : List Cl} (h : OneOpen cs) {c : Cl} (hc : openOf cs c.who < 0) : OneOpen (cs ++ [c]) := by
  intro i j a b ha hb hw h1 h2
  rw [List.getElem?_append] at ha hb
  split at ha
  · split at hb
    · exact h i j a b ha hb hw h1 h2
    · have : j - cs.length = 0 := by
        apply Classical.byContradiction; intro hn
        rw [List.getElem?_eq_none (by simp; omega)] at hb; cases hb
      rw [this] at hb
      simp at hb
      subst hb
      exact absurd h1 (openOf_none hc ha hw)
  · have hi : i - cs.length = 0 := by
      apply Classical.byContradiction; intro hn
      rw [List.getElem?_eq_none (by simp; omega)] at ha; cases ha
    rw [hi] at ha
    simp at ha
    subst ha
    split at hb
    · exact absurd h2 (openOf_none hc hb hw.symm)
    · have : j - cs.length = 0 := by
        apply Classical.byContradiction; intro hn
        rw [List.getElem?_eq_none (by simp; omega)] at hb; cases hb
      omega
theorem OneOpen.set {cs : List Cl} (h : OneOpen cs) (k : Nat) {c : Cl} (hc : c.til ≠ -1) : OneOpen (cs.set k c) := by
  intro i j a b ha hb hw h1 h2
  rw [List.getElem?_set] at ha hb
  split at ha
  · split at ha
    · injection ha with ha; subst ha; exact absurd h1 hc
    · cases ha
  · split at hb
    · split at hb
      · injection hb with hb; subst hb; exact absurd h2 hc
      · cases hb
    · exact h i j a b ha hb hw h1 h2
theorem openOf_set {cs : List Cl} (h : OneOpen cs) {who who' : Int} (h0 : 0 ≤ openOf cs who) {c : Cl} (hc : c.til ≠ -1) :
    openOf (cs.set (openOf cs who).toNat c) who' = if who' = who then -1 else openOf cs who' := by
  have hone := h.set (openOf cs who).toNat hc
  obtain ⟨d, e1, e2, e3, e4⟩ := openOf_at h0
  by_cases e : who' = who
  · rw [if_pos e]
    have h2 := openOf_ge (cs.set (openOf cs who).toNat c) who'
    apply Classical.byContradiction
    intro hn
    obtain ⟨f, f1, f2, f3, f4⟩ := openOf_at (cs := cs.set (openOf cs who).toNat c) (who := who') (by omega)
    rw [List.getElem?_set] at f1
    split at f1
    · injection f1 with f1; subst f1; exact hc f3
    · rename_i hne
      have := h _ _ _ _ f1 e1 (by rw [f2, e2, e]) f3 e3
      exact hne this.symm
  · rw [if_neg e]
    by_cases h2 : 0 ≤ openOf cs who'
    · obtain ⟨f, f1, f2, f3, f4⟩ := openOf_at h2
      have := openOf_eq hone (i := (openOf cs who').toNat) (c := f) (who := who') (by
        rw [List.getElem?_set, if_neg, f1]
        intro hk
        rw [hk, f1] at e1
        injection e1 with e1
        subst e1
        exact e (f2.symm.trans e2)) f2 f3
      omega
    · have h3 := openOf_ge cs who'
      have h4 := openOf_ge (cs.set (openOf cs who).toNat c) who'
      apply Classical.byContradiction
      intro hn
      obtain ⟨f, f1, f2, f3, f4⟩ := openOf_at (cs := cs.set (openOf cs who).toNat c) (who := who') (by omega)
      rw [List.getElem?_set] at f1
      split at f1
      · injection f1 with f1; subst f1; exact hc f3
      · exact openOf_none (by omega) f1 f2 f3
theorem step_len {ts : List Int} {n : Nat} {cs cs' : List Cl} {x : Ev} (h : step ts n cs x = .inr cs') : cs'.length ≤ cs.length + 1 := by
  unfold step respS invS at h
  repeat' split at h
  all_goals (try cases h)
  · simp
  · simp
theorem step_err {ts : List Int} {n : Nat} {cs : List Cl} {x : Ev} {r : Int} (h : step ts n cs x = .inl r) : r ≠ 0 := by
  unfold step respS invS at h
  repeat' split at h
  all_goals (try cases h)
  all_goals decide
theorem run_drop {ts : List Int} {l : List Ev} {k : Nat} (hk : k < l.length) (cs : List Cl) : run ts k cs (l.drop k) = match step ts k cs l[k] with
    | .inl e => ([], k, e)
    | .inr cs' => run ts (k + 1) cs' (l.drop (k + 1)) := by
  rw [List.drop_eq_getElem_cons hk, run]
end Go.Proofs.YtfgangkpebkicaaDoor

/-
  Rows of numbers, told apart.
-/
namespace Go.Proofs.YtfgangkpebkicaaDoor
open Go.RowKit Go.Maps
open Go.ChangeShapes (lits)
set_option maxRecDepth 20000
theorem lits_inj {H : Type} {q : IntKind} : ∀ {a b : List Int}, lits (H := H) q a = lits q b → a = b
  | [], [], _ => rfl
  | [], y :: b, h => by simp [lits] at h
  | x :: a, [], h => by simp [lits] at h
  | x :: a, y :: b, h => by
    simp only [lits, List.map_cons, List.cons.injEq] at h
    have h1 := h.1
    injection h1 with h1
    injection h1 with h2 h3
    rw [h3, lits_inj (H := H) (q := q) (a := a) (b := b) h.2]
end Go.Proofs.YtfgangkpebkicaaDoor

/-
  Plain: the numbers of each thing's calls, as a map's datum.
-/
namespace Go.Proofs.YtfgangkpebkicaaDoor
open Go.RowKit Go.Maps Go.MapKept
open Go.ChangeShapes (lits)
set_option maxRecDepth 20000
/-- The numbers of thing q's calls among the first k. -/
def idxK (cs : List Cl) (q : Int) (k : Nat) : List Int := ((List.range k).filter fun i => (cs.getD i default).thing == q).map fun i : Nat => (i : Int)
theorem idxK_succ (cs : List Cl) (q : Int) (k : Nat) : idxK cs q (k + 1) = if (cs.getD k default).thing = q then idxK cs q k ++ [(k : Int)] else idxK cs q k := by
  unfold idxK
  rw [List.range_succ, List.filter_append, List.map_append]
  rw [List.filter_cons, List.filter_nil]
  by_cases h : (cs.getD k default).thing = q
  · rw [if_pos (by rw [beq_iff_eq]; exact h), if_pos h]
    rfl
  · rw [if_neg (by rw [beq_iff_eq]; exact h), if_neg h]
    exact List.append_nil _
/-- What the map tells behind k calls. -/
def GrpD (cs : List Cl) (k : Nat) (D : DataW Unit) : Prop := IsMap D ∧ ∀ q : Int, D.atKey (.int .i64 q) .nil = if idxK cs q k = [] then .nil else .slice (lits .i64 (idxK cs q k)) []
theorem GrpD.zero (cs : List Cl) : GrpD cs 0 (.map []) := ⟨⟨[], rfl⟩, fun q => by rw [if_pos (show idxK cs q 0 = [] from rfl)]; rfl⟩
/-- What the look-up hands over is what was laid there. -/
theorem GrpD.at_ {cs : List Cl} {k : Nat} {D : DataW Unit} (h : GrpD cs k D) {w : World} {base : Nat} {e : TypeId} {v : Value} {zs : List Int} {q : Int} (hat : D.atKey (.int .i64 q) .nil = rowDatum .i64 v zs) (ho : w.ownsInts base e .i64 v zs) : zs = idxK cs q k := by
  rw [h.2 q] at hat
  rcases ho.datum (H := Unit) with ⟨h1, rfl⟩ | h1
  · rw [h1] at hat
    split at hat
    · rename_i h2; exact h2.symm
    · cases hat
  · rw [h1] at hat
    split at hat
    · cases hat
    · injection hat with h2
      exact (lits_inj h2).symm
theorem GrpD.succ {cs : List Cl} {k : Nat} {D : DataW Unit} (h : GrpD cs k D) {w : World} {base : Nat} {e : TypeId} {v : Value} (ho : w.ownsInts base e .i64 v (idxK cs (cs.getD k default).thing k ++ [(k : Int)])) :
    GrpD cs (k + 1) (D.put (.int .i64 (cs.getD k default).thing) (rowDatum .i64 v (idxK cs (cs.getD k default).thing k ++ [(k : Int)]))) := by
  refine ⟨h.1.put _ _, fun q => ?_⟩
  rw [idxK_succ]
  by_cases e : (cs.getD k default).thing = q
  · subst e
    rw [atKey_put_same (k := .int .i64 (cs.getD k default).thing) h.1 (show WideAt.IsKeyLit (.int .i64 _) from trivial), if_pos rfl, if_neg (by simp), ho.datum_pos (by simp)]
  · rw [if_neg e, atKey_put_other (fun h2 => e (by injection h2 with h3 h4; exact h4.symm)), h.2 q]
end Go.Proofs.YtfgangkpebkicaaDoor

/-
  Numbers as keys of a map.
-/
namespace Go.Proofs.YtfgangkpebkicaaDoor
open Go.RowKit Go.Maps
set_option maxRecDepth 20000
theorem keyed_int : Keyed Tryd.prog 3 := int_keyed Tryd.underlying3
theorem key_int {k : Int} (h0 : -1000000 ≤ k) (h1 : k ≤ 1000000) : keyOf Tryd.prog 3 (.int .i64 k) = some (.int .i64 k) := by
  simp [keyOf, Tryd.underlying3, mapKey]
  exact WalkArith.wf_i64 (by omega)
end Go.Proofs.YtfgangkpebkicaaDoor

/-
  Slices that read as a list of things of s cells each: events, calls, numbers.
-/
namespace Go.Proofs.YtfgangkpebkicaaDoor
open Go.RowKit
set_option maxRecDepth 20000
abbrev intCs (x : Int) : List Value := [.int .i64 x]
abbrev evCs (x : Ev) : List Value := [.int .i64 x.who, .int .i64 x.thing, .int .i64 x.kind, .int .i64 x.val]
abbrev clCs (c : Cl) : List Value := [.int .i64 c.who, .int .i64 c.thing, .int .i64 c.kind, .int .i64 c.arg, .int .i64 c.res, .int .i64 c.frm, .int .i64 c.til]
abbrev evV (x : Ev) : Value := .agg #[.int .i64 x.who, .int .i64 x.thing, .int .i64 x.kind, .int .i64 x.val]
abbrev clV (c : Cl) : Value := .agg #[.int .i64 c.who, .int .i64 c.thing, .int .i64 c.kind, .int .i64 c.arg, .int .i64 c.res, .int .i64 c.frm, .int .i64 c.til]
/-- The value v is a slice that reads as the list l, each of s cells, in a block below B. -/
def LRd {α : Type} (s : Nat) (f : α → List Value) (w : World) (B : Nat) (v : Value) (l : List α) : Prop :=
  ∃ A cap, v = .slice A l.length cap ∧ l.length ≤ cap ∧ cap ≤ maxLen ∧ (0 < l.length → ∃ g o, A = some ⟨g, o, none⟩ ∧ g < B ∧ ∀ k x, l[k]? = some x → ∀ j u, (f x)[j]? = some u → w.cell? ⟨g, o + k * s + j, none⟩ = some u)
section
variable {α : Type} {s : Nat} {f : α → List Value} {w w' : World} {B B' : Nat} {v : Value} {l : List α}
theorem LRd.below (h : LRd s f w B v l) (hb : Below B w w') : LRd s f w' B v l := by
  obtain ⟨A, cap, hv, h0, h1, h2⟩ := h
  refine ⟨A, cap, hv, h0, h1, fun h0 => ?_⟩
  obtain ⟨g, o, hA, hg, hc⟩ := h2 h0
  exact ⟨g, o, hA, hg, fun k x hk j u hu => (hb.cell (p := ⟨g, o + k * s + j, none⟩) hg).trans (hc k x hk j u hu)⟩
theorem LRd.mono (h : LRd s f w B v l) (hB : B ≤ B') : LRd s f w B' v l := by
  obtain ⟨A, cap, hv, h0, h1, h2⟩ := h
  refine ⟨A, cap, hv, h0, h1, fun h0 => ?_⟩
  obtain ⟨g, o, hA, hg, hc⟩ := h2 h0
  exact ⟨g, o, hA, by omega, hc⟩
theorem LRd.is (h : LRd s f w B v l) : ∃ A cap, v = .slice A l.length cap ∧ l.length ≤ cap ∧ cap ≤ maxLen := by
  obtain ⟨A, cap, hv, h0, h1, h2⟩ := h
  exact ⟨A, cap, hv, h0, h1⟩
theorem LRd.at_ {A : Option Addr} {n cap : Nat} (h : LRd s f w B (.slice A n cap) l) {k : Nat} {x : α} (hk : l[k]? = some x) :
    ∃ g o, A = some ⟨g, o, none⟩ ∧ g < B ∧ ∀ j u, (f x)[j]? = some u → w.cell? ⟨g, o + k * s + j, none⟩ = some u := by
  obtain ⟨A', cap', hv, h0, h1, h2⟩ := h
  injection hv with hv1 hv2 hv3
  subst hv1
  obtain ⟨g, o, hA, hg, hc⟩ := h2 (by have := (List.getElem?_eq_some_iff.1 hk).1; omega)
  exact ⟨g, o, hA, hg, hc k x hk⟩
theorem LRd.nil (w : World) (B : Nat) : LRd s f w B (.slice none 0 0) ([] : List α) := ⟨none, 0, rfl, Nat.le_refl _, Nat.zero_le _, fun h => by simp at h⟩
theorem LRd.take_ {A : Option Addr} {m cap : Nat} (h : LRd s f w B (.slice A m cap) l) {n : Nat} (hn : n ≤ l.length) : LRd s f w B (.slice A n cap) (l.take n) := by
  obtain ⟨A', cap', hv, h0, h1, h2⟩ := h
  injection hv with hv1 hv2 hv3
  subst hv1
  subst hv3
  have e : (l.take n).length = n := by rw [List.length_take]; omega
  refine ⟨A, cap, by rw [e], by omega, h1, fun hp => ?_⟩
  obtain ⟨g, o, hA, hg, hc⟩ := h2 (by omega)
  refine ⟨g, o, hA, hg, fun k x hk => hc k x ?_⟩
  rw [List.getElem?_take] at hk
  split at hk
  · exact hk
  · cases hk
theorem flat_at (hf : ∀ x, (f x).length = s) : ∀ {l : List α} {k : Nat} {x : α}, l[k]? = some x → ∀ {j : Nat} {u : Value}, (f x)[j]? = some u → (l.flatMap f)[k * s + j]? = some u
  | [], k, x, h, _, _, _ => by simp at h
  | y :: r, 0, x, h, j, u, hu => by
    simp at h
    subst h
    rw [List.flatMap_cons, List.getElem?_append, if_pos (by have := (List.getElem?_eq_some_iff.1 hu).1; omega), Nat.zero_mul, Nat.zero_add]
    exact hu
  | y :: r, k + 1, x, h, j, u, hu => by
    have h' : r[k]? = some x := by simpa using h
    have hj := (List.getElem?_eq_some_iff.1 hu).1
    have e : (k + 1) * s + j - (f y).length = k * s + j := by rw [hf y, Nat.add_mul]; omega
    rw [List.flatMap_cons, List.getElem?_append, if_neg (by rw [hf y, Nat.add_mul]; omega), e]
    exact flat_at (l := r) hf h' hu
theorem flat_len (hf : ∀ x, (f x).length = s) : ∀ l : List α, (l.flatMap f).length = l.length * s
  | [] => by simp
  | y :: r => by rw [List.flatMap_cons, List.length_append, flat_len hf r, hf y, List.length_cons, Nat.add_mul]; omega
/-- What is left behind the first k of it. -/
theorem LRd.drop_ {g o n cap : Nat} (h : LRd s f w B (.slice (some ⟨g, o, none⟩) n cap) l) {k : Nat} (hk : k ≤ n) : LRd s f w B (.slice (some ⟨g, o + k * s, none⟩) (n - k) (cap - k)) (l.drop k) := by
  obtain ⟨A', cap', hv, h0, h1, h2⟩ := h
  injection hv with hv1 hv2 hv3
  subst hv2
  subst hv3
  have e : (l.drop k).length = l.length - k := List.length_drop
  refine ⟨_, _, by rw [e], by omega, by unfold maxLen at *; omega, fun hp => ?_⟩
  obtain ⟨g', o', hA, hg, hc⟩ := h2 (by omega)
  rw [← hv1] at hA
  injection hA with hA
  injection hA with hA1 hA2
  subst hA1
  subst hA2
  refine ⟨g, _, rfl, hg, fun i x hi j u hu => ?_⟩
  rw [List.getElem?_drop] at hi
  have := hc _ _ hi j u hu
  rw [Nat.add_mul, ← Nat.add_assoc] at this
  exact this
/-- A row of the call's own reads as its list. -/
theorem LRd.of_own {base : Nat} {t : TypeId} (hf : ∀ x, (f x).length = s) (h : w.ownsRow base t s v l.length (l.flatMap f)) : LRd s f w w.heap.size v l := by
  rcases h.2 with ⟨rfl, h0⟩ | ⟨g, cap, cur, rfl, h1, h2, h3, h4, h5, h6⟩
  · exact ⟨none, 0, by rw [h0], by omega, Nat.zero_le _, fun h => by omega⟩
  · refine ⟨_, cap, rfl, h3, h4, fun _ => ⟨g, 0, rfl, ?_, fun k x hk j u hu => ?_⟩⟩
    · exact (Array.getElem?_eq_some_iff.1 h2).1
    · have hkl := (List.getElem?_eq_some_iff.1 hk).1
      have hjl : j < s := by have := (List.getElem?_eq_some_iff.1 hu).1; rw [hf x] at this; exact this
      have hlt : k * s + j < l.length * s := by
        have : (k + 1) * s ≤ l.length * s := Nat.mul_le_mul_right s hkl
        rw [Nat.add_mul] at this
        omega
      rw [Nat.zero_add, World.ownsRow.cellAt h (k * s + j) hlt]
      exact flat_at (l := l) hf hk hu
/-- A block of exactly these cells reads as the list. -/
theorem LRd.of_lit (hf : ∀ x, (f x).length = s) (t : TypeId) {cs : Array Value} (hcs : cs.toList = l.flatMap f) {n : Nat} (hn : n = l.length) (hm : n ≤ maxLen) :
    LRd s f (w.alloc (.cells cs t)) (w.heap.size + 1) (.slice (some ⟨w.heap.size, 0, none⟩) n n) l := by
  subst hn
  refine ⟨_, _, rfl, Nat.le_refl _, hm, fun _ => ⟨_, 0, rfl, by omega, fun k x hk j u hu => ?_⟩⟩
  rw [Nat.zero_add, cell_of_row _ _ _ cs t (0, 0) (heap_alloc_new w _)]
  have h1 := flat_at (l := l) hf hk hu
  rw [← hcs] at h1
  simpa using h1
end
abbrev ERd (w : World) (B : Nat) (v : Value) (l : List Ev) : Prop := LRd 4 evCs w B v l
abbrev CRd (w : World) (B : Nat) (v : Value) (l : List Cl) : Prop := LRd 7 clCs w B v l
abbrev NRd (w : World) (B : Nat) (v : Value) (l : List Int) : Prop := LRd 1 intCs w B v l
/-- A slice of the call's own (in blocks from B on) that holds these calls; these events. -/
def COwn (w : World) (B : Nat) (v : Value) (l : List Cl) : Prop := w.ownsRow B 51 7 v l.length (l.flatMap clCs)
def EOwn (w : World) (B : Nat) (v : Value) (l : List Ev) : Prop := w.ownsRow B 84 4 v l.length (l.flatMap evCs)
theorem COwn.rd {w : World} {B : Nat} {v : Value} {l : List Cl} (h : COwn w B v l) : CRd w w.heap.size v l := LRd.of_own (fun _ => rfl) h
theorem EOwn.rd {w : World} {B : Nat} {v : Value} {l : List Ev} (h : EOwn w B v l) : ERd w w.heap.size v l := LRd.of_own (fun _ => rfl) h
section
variable {w : World} {B : Nat} {A : Option Addr} {n cap k : Nat}
theorem LRd.ev {l : List Ev} (h : ERd w B (.slice A n cap) l) {x : Ev} (hk : l[k]? = some x) : ∃ g o, A = some ⟨g, o, none⟩ ∧ g < B ∧ w.cell? ⟨g, o + k * 4, none⟩ = some (.int .i64 x.who) ∧ w.cell? ⟨g, o + k * 4 + 1, none⟩ = some (.int .i64 x.thing) ∧ w.cell? ⟨g, o + k * 4 + 2, none⟩ = some (.int .i64 x.kind) ∧ w.cell? ⟨g, o + k * 4 + 3, none⟩ = some (.int .i64 x.val) := by
  obtain ⟨g, o, hA, hg, hc⟩ := LRd.at_ h hk
  exact ⟨g, o, hA, hg, hc 0 _ rfl, hc 1 _ rfl, hc 2 _ rfl, hc 3 _ rfl⟩
theorem LRd.cl {l : List Cl} (h : CRd w B (.slice A n cap) l) {x : Cl} (hk : l[k]? = some x) : ∃ g o, A = some ⟨g, o, none⟩ ∧ g < B ∧ w.cell? ⟨g, o + k * 7, none⟩ = some (.int .i64 x.who) ∧ w.cell? ⟨g, o + k * 7 + 1, none⟩ = some (.int .i64 x.thing) ∧ w.cell? ⟨g, o + k * 7 + 2, none⟩ = some (.int .i64 x.kind) ∧ w.cell? ⟨g, o + k * 7 + 3, none⟩ = some (.int .i64 x.arg) ∧ w.cell? ⟨g, o + k * 7 + 4, none⟩ = some (.int .i64 x.res) ∧ w.cell? ⟨g, o + k * 7 + 5, none⟩ = some (.int .i64 x.frm) ∧ w.cell? ⟨g, o + k * 7 + 6, none⟩ = some (.int .i64 x.til) := by
  obtain ⟨g, o, hA, hg, hc⟩ := LRd.at_ h hk
  exact ⟨g, o, hA, hg, hc 0 _ rfl, hc 1 _ rfl, hc 2 _ rfl, hc 3 _ rfl, hc 4 _ rfl, hc 5 _ rfl, hc 6 _ rfl⟩
theorem LRd.num {l : List Int} (h : NRd w B (.slice A n cap) l) {x : Int} (hk : l[k]? = some x) : ∃ g o, A = some ⟨g, o, none⟩ ∧ g < B ∧ w.cell? ⟨g, o + k, none⟩ = some (.int .i64 x) := by
  obtain ⟨g, o, hA, hg, hc⟩ := LRd.at_ h hk
  have := hc 0 _ rfl
  rw [Nat.mul_one] at this
  exact ⟨g, o, hA, hg, this⟩
end
end Go.Proofs.YtfgangkpebkicaaDoor

/-
  Contracts of the small functions of package history and of its reference: ranges, kinds, what may be asked and answered.
-/
namespace Go.Proofs.YtfgangkpebkicaaDoor
open Go.RowKit
set_option maxRecDepth 20000
theorem within_any (n a b : Int) (w : World) : Calls Tryd.prog 63 #[.int .i64 n, .int .i64 a, .int .i64 b] w fun e w' => e = .returned (.bool (btw a n b)) ∧ w = w' := by
  by_cases h1 : a ≤ n
  · by_cases h2 : n ≤ b
    · have h : btw a n b = true := btw_iff.2 ⟨h1, h2⟩
      rw [h]
      clear h
      go_enter Tryd.func63, Tryd.ntmps63
      go_wp2
      go_ret
      exact ⟨rfl, rfl⟩
    · have h : btw a n b = false := btw_not.2 fun h => h2 h.2
      rw [h]
      clear h
      go_enter Tryd.func63, Tryd.ntmps63
      go_wp2
      go_ret
      exact ⟨rfl, rfl⟩
  · have h : btw a n b = false := btw_not.2 fun h => h1 h.1
    rw [h]
    clear h
    go_enter Tryd.func63, Tryd.ntmps63
    go_wp2
    go_ret
    exact ⟨rfl, rfl⟩
theorem within_yes {n a b : Int} (w : World) (h : a ≤ n ∧ n ≤ b) : Calls Tryd.prog 63 #[.int .i64 n, .int .i64 a, .int .i64 b] w fun e w' => e = .returned (.bool true) ∧ w = w' := by
  have := within_any n a b w
  rwa [btw_iff.2 h] at this
theorem within_no {n a b : Int} (w : World) (h : ¬ (a ≤ n ∧ n ≤ b)) : Calls Tryd.prog 63 #[.int .i64 n, .int .i64 a, .int .i64 b] w fun e w' => e = .returned (.bool false) ∧ w = w' := by
  have := within_any n a b w
  rwa [btw_not.2 h] at this
theorem kind_ways (k : Int) : k = 1 ∨ k = 2 ∨ k = 3 ∨ k = 4 ∨ k = 5 ∨ k = 6 ∨ k = 7 ∨ k = 8 ∨ k = 9 ∨ k = 10 ∨
    ((k == 1) = false ∧ (k == 2) = false ∧ (k == 3) = false ∧ (k == 4) = false ∧ (k == 5) = false ∧ (k == 6) = false ∧ (k == 7) = false ∧ (k == 8) = false ∧ (k == 9) = false ∧ (k == 10) = false) := by
  simp only [beq_eq_false_iff_ne]
  omega
theorem kindType_other {k : Int} (h : (k == 1) = false ∧ (k == 2) = false ∧ (k == 3) = false ∧ (k == 4) = false ∧ (k == 5) = false ∧ (k == 6) = false ∧ (k == 7) = false ∧ (k == 8) = false ∧ (k == 9) = false ∧ (k == 10) = false) : kindType k = 0 := by
  simp only [beq_eq_false_iff_ne] at h
  unfold kindType
  (repeat' split) <;> omega
theorem takes_other {k v : Int} (h : (k == 1) = false ∧ (k == 2) = false ∧ (k == 3) = false ∧ (k == 4) = false ∧ (k == 5) = false ∧ (k == 6) = false ∧ (k == 7) = false ∧ (k == 8) = false ∧ (k == 9) = false ∧ (k == 10) = false) : takesB k v = (v == 0) := by
  simp only [beq_eq_false_iff_ne] at h
  unfold takesB
  split
  · omega
  · rfl
theorem gives_other {k v : Int} (h : (k == 1) = false ∧ (k == 2) = false ∧ (k == 3) = false ∧ (k == 4) = false ∧ (k == 5) = false ∧ (k == 6) = false ∧ (k == 7) = false ∧ (k == 8) = false ∧ (k == 9) = false ∧ (k == 10) = false) : givesB k v = (v == 0) := by
  simp only [beq_eq_false_iff_ne] at h
  unfold givesB
  (repeat' split) <;> first | omega | rfl
set_option maxHeartbeats 1000000 in
theorem typeOf_any (k : Int) (w : World) : Calls Tryd.prog 111 #[.int .i64 k] w fun e w' => e = .returned (.int .i64 (kindType k)) ∧ w = w' := by
  rcases kind_ways k with rfl | rfl | rfl | rfl | rfl | rfl | rfl | rfl | rfl | rfl | h
  all_goals try (
    go_enter Tryd.func111, Tryd.ntmps111
    go_wp2
    go_ret
    exact ⟨rfl, rfl⟩)
  rw [kindType_other h]
  obtain ⟨h1, h2, h3, h4, h5, h6, h7, h8, h9, h10⟩ := h
  go_enter Tryd.func111, Tryd.ntmps111
  go_wp2
  go_ret
  exact ⟨rfl, rfl⟩
set_option maxHeartbeats 2000000 in
theorem takes_any (k v : Int) (w : World) : Calls Tryd.prog 98 #[.int .i64 k, .int .i64 v] w fun e w' => e = .returned (.bool (takesB k v)) ∧ w = w' := by
  rcases kind_ways k with rfl | rfl | rfl | rfl | rfl | rfl | rfl | rfl | rfl | rfl | h
  all_goals try (
    show Calls _ _ _ _ fun e w' => e = .returned (.bool (btw 1 v 1000)) ∧ w = w'
    go_enter Tryd.func98, Tryd.ntmps98
    go_wp2_with (go_at_call 63; (with_reducible refine (within_any _ _ _ _).mono ?_); rintro e w' ⟨rfl, rfl⟩)
    go_ret
    exact ⟨rfl, rfl⟩)
  all_goals try (
    show Calls _ _ _ _ fun e w' => e = .returned (.bool (v == 0)) ∧ w = w'
    generalize hv : (v == 0) = d
    go_enter Tryd.func98, Tryd.ntmps98
    go_wp2
    go_ret
    exact ⟨rfl, rfl⟩)
  rw [takes_other h]
  obtain ⟨h1, h2, h3, h4, h5, h6, h7, h8, h9, h10⟩ := h
  generalize hv : (v == 0) = d
  go_enter Tryd.func98, Tryd.ntmps98
  go_wp2
  go_ret
  exact ⟨rfl, rfl⟩
set_option maxHeartbeats 2000000 in
theorem gives_any (k v : Int) (w : World) : Calls Tryd.prog 96 #[.int .i64 k, .int .i64 v] w fun e w' => e = .returned (.bool (givesB k v)) ∧ w = w' := by
  rcases kind_ways k with rfl | rfl | rfl | rfl | rfl | rfl | rfl | rfl | rfl | rfl | h
  all_goals try (
    show Calls _ _ _ _ fun e w' => e = .returned (.bool (btw 0 v 1000)) ∧ w = w'
    go_enter Tryd.func96, Tryd.ntmps96
    go_wp2_with (go_at_call 63; (with_reducible refine (within_any _ _ _ _).mono ?_); rintro e w' ⟨rfl, rfl⟩)
    go_ret
    exact ⟨rfl, rfl⟩)
  all_goals try (
    show Calls _ _ _ _ fun e w' => e = .returned (.bool (btw 0 v 1)) ∧ w = w'
    go_enter Tryd.func96, Tryd.ntmps96
    go_wp2_with (go_at_call 63; (with_reducible refine (within_any _ _ _ _).mono ?_); rintro e w' ⟨rfl, rfl⟩)
    go_ret
    exact ⟨rfl, rfl⟩)
  all_goals try (
    show Calls _ _ _ _ fun e w' => e = .returned (.bool (v == 0)) ∧ w = w'
    generalize hv : (v == 0) = d
    go_enter Tryd.func96, Tryd.ntmps96
    go_wp2
    go_ret
    exact ⟨rfl, rfl⟩)
  all_goals try (
    show Calls _ _ _ _ fun e w' => e = .returned (.bool (v == -1 || btw 1 v 1000)) ∧ w = w'
    by_cases h1 : v = -1
    · subst h1
      go_enter Tryd.func96, Tryd.ntmps96
      go_wp2
      go_ret
      exact ⟨rfl, rfl⟩
    · have hz : (v == -1) = false := by rw [beq_eq_false_iff_ne]; exact h1
      rw [hz, Bool.false_or]
      clear h1
      go_enter Tryd.func96, Tryd.ntmps96
      go_wp2_with (go_at_call 63; (with_reducible refine (within_any _ _ _ _).mono ?_); rintro e w' ⟨rfl, rfl⟩)
      go_ret
      exact ⟨rfl, rfl⟩)
  rw [gives_other h]
  obtain ⟨h1, h2, h3, h4, h5, h6, h7, h8, h9, h10⟩ := h
  generalize hv : (v == 0) = d
  go_enter Tryd.func96, Tryd.ntmps96
  go_wp2
  go_ret
  exact ⟨rfl, rfl⟩
theorem fits_any (t k : Int) (w : World) : Calls Tryd.prog 97 #[.int .i64 t, .int .i64 k] w fun e w' => e = .returned (.bool (fitsB t k)) ∧ w = w' := by
  by_cases h : t = 0
  · subst h
    have e : fitsB 0 k = false := by simp [fitsB]
    rw [e]
    go_enter Tryd.func97, Tryd.ntmps97
    go_wp2
    go_ret
    exact ⟨rfl, rfl⟩
  · have hz : (t != 0) = true := by rw [bne_iff_ne]; exact h
    have e : fitsB t k = (t == kindType k) := by
      unfold fitsB
      rw [Bool.eq_iff_iff, decide_eq_true_iff, beq_iff_eq]
      exact ⟨fun h => h.2, fun h' => ⟨h, h'⟩⟩
    rw [e]
    clear h e
    generalize hd : (t == kindType k) = d
    go_enter Tryd.func97, Tryd.ntmps97
    go_wp2_with (go_at_call 111; (with_reducible refine (typeOf_any _ _).mono ?_); rintro e w' ⟨rfl, rfl⟩)
    go_ret
    exact ⟨rfl, rfl⟩
end Go.Proofs.YtfgangkpebkicaaDoor
