/-
  Slices that read as a list of things of s cells each: events, calls, numbers.
-/
import Derived.Test.YtphhbojdolhieaaLies
import Derived.Test.YtphhbojdolhieaaHistPure
import Derived.Deep.AppendLies
namespace Go.Proofs.Ytphhbojdolhieaa
open Go.RowKit
set_option maxRecDepth 20000
abbrev intCs (x : Int) : List Value := [.int .i64 x]
abbrev evCs (x : Ev) : List Value := [.int .i64 x.who, .int .i64 x.thing, .int .i64 x.kind, .int .i64 x.val]
abbrev clCs (c : Cl) : List Value := [.int .i64 c.who, .int .i64 c.thing, .int .i64 c.kind, .int .i64 c.arg, .int .i64 c.res, .int .i64 c.frm, .int .i64 c.til]
abbrev evV (x : Ev) : Value := .agg #[.int .i64 x.who, .int .i64 x.thing, .int .i64 x.kind, .int .i64 x.val]
abbrev clV (c : Cl) : Value := .agg #[.int .i64 c.who, .int .i64 c.thing, .int .i64 c.kind, .int .i64 c.arg, .int .i64 c.res, .int .i64 c.frm, .int .i64 c.til]
/-- The value v is a slice that reads as the list l, each of s cells, in a block below B. -/
def LRd {α : Type} (s : Nat) (f : α → List Value) (w : World) (B : Nat) (v : Value) (l : List α) : Prop :=
  ∃ A cap, v = .slice A l.length cap ∧ l.length ≤ cap ∧ cap ≤ maxLen ∧ (0 < l.length → ∃ g o, A = some ⟨g, o, none⟩ ∧ g < B ∧ ∀ k x, l[k]? = some x → ∀ j u, (f x)[j]? = some u → w.cell? ⟨g, o + k * s + j, none⟩ = some u)
section
variable {α : Type} {s : Nat} {f : α → List Value} {w w' : World} {B B' : Nat} {v : Value} {l : List α}
theorem LRd.below (h : LRd s f w B v l) (hb : Below B w w') : LRd s f w' B v l := by
  obtain ⟨A, cap, hv, h0, h1, h2⟩ := h
  refine ⟨A, cap, hv, h0, h1, fun h0 => ?_⟩
  obtain ⟨g, o, hA, hg, hc⟩ := h2 h0
  exact ⟨g, o, hA, hg, fun k x hk j u hu => (hb.cell (p := ⟨g, o + k * s + j, none⟩) hg).trans (hc k x hk j u hu)⟩
theorem LRd.mono (h : LRd s f w B v l) (hB : B ≤ B') : LRd s f w B' v l := by
  obtain ⟨A, cap, hv, h0, h1, h2⟩ := h
  refine ⟨A, cap, hv, h0, h1, fun h0 => ?_⟩
  obtain ⟨g, o, hA, hg, hc⟩ := h2 h0
  exact ⟨g, o, hA, by omega, hc⟩
theorem LRd.is (h : LRd s f w B v l) : ∃ A cap, v = .slice A l.length cap ∧ l.length ≤ cap ∧ cap ≤ maxLen := by
  obtain ⟨A, cap, hv, h0, h1, h2⟩ := h
  exact ⟨A, cap, hv, h0, h1⟩
theorem LRd.at_ {A : Option Addr} {n cap : Nat} (h : LRd s f w B (.slice A n cap) l) {k : Nat} {x : α} (hk : l[k]? = some x) :
    ∃ g o, A = some ⟨g, o, none⟩ ∧ g < B ∧ ∀ j u, (f x)[j]? = some u → w.cell? ⟨g, o + k * s + j, none⟩ = some u := by
  obtain ⟨A', cap', hv, h0, h1, h2⟩ := h
  injection hv with hv1 hv2 hv3
  subst hv1
  obtain ⟨g, o, hA, hg, hc⟩ := h2 (by have := (List.getElem?_eq_some_iff.1 hk).1; omega)
  exact ⟨g, o, hA, hg, hc k x hk⟩
theorem LRd.nil (w : World) (B : Nat) : LRd s f w B (.slice none 0 0) ([] : List α) := ⟨none, 0, rfl, Nat.le_refl _, Nat.zero_le _, fun h => by simp at h⟩
theorem LRd.take_ {A : Option Addr} {m cap : Nat} (h : LRd s f w B (.slice A m cap) l) {n : Nat} (hn : n ≤ l.length) : LRd s f w B (.slice A n cap) (l.take n) := by
  obtain ⟨A', cap', hv, h0, h1, h2⟩ := h
  injection hv with hv1 hv2 hv3
  subst hv1
  subst hv3
  have e : (l.take n).length = n := by rw [List.length_take]; omega
  refine ⟨A, cap, by rw [e], by omega, h1, fun hp => ?_⟩
  obtain ⟨g, o, hA, hg, hc⟩ := h2 (by omega)
  refine ⟨g, o, hA, hg, fun k x hk => hc k x ?_⟩
  rw [List.getElem?_take] at hk
  split at hk
  · exact hk
  · cases hk
theorem flat_at (hf : ∀ x, (f x).length = s) : ∀ {l : List α} {k : Nat} {x : α}, l[k]? = some x → ∀ {j : Nat} {u : Value}, (f x)[j]? = some u → (l.flatMap f)[k * s + j]? = some u
  | [], k, x, h, _, _, _ => by simp at h
  | y :: r, 0, x, h, j, u, hu => by
    simp at h
    subst h
    rw [List.flatMap_cons, List.getElem?_append, if_pos (by have := (List.getElem?_eq_some_iff.1 hu).1; omega), Nat.zero_mul, Nat.zero_add]
    exact hu
  | y :: r, k + 1, x, h, j, u, hu => by
    have h' : r[k]? = some x := by simpa using h
    have hj := (List.getElem?_eq_some_iff.1 hu).1
    have e : (k + 1) * s + j - (f y).length = k * s + j := by rw [hf y, Nat.add_mul]; omega
    rw [List.flatMap_cons, List.getElem?_append, if_neg (by rw [hf y, Nat.add_mul]; omega), e]
    exact flat_at (l := r) hf h' hu
theorem flat_len (hf : ∀ x, (f x).length = s) : ∀ l : List α, (l.flatMap f).length = l.length * s
  | [] => by simp
  | y :: r => by rw [List.flatMap_cons, List.length_append, flat_len hf r, hf y, List.length_cons, Nat.add_mul]; omega
/-- What is left behind the first k of it. -/
theorem LRd.drop_ {g o n cap : Nat} (h : LRd s f w B (.slice (some ⟨g, o, none⟩) n cap) l) {k : Nat} (hk : k ≤ n) : LRd s f w B (.slice (some ⟨g, o + k * s, none⟩) (n - k) (cap - k)) (l.drop k) := by
  obtain ⟨A', cap', hv, h0, h1, h2⟩ := h
  injection hv with hv1 hv2 hv3
  subst hv2
  subst hv3
  have e : (l.drop k).length = l.length - k := List.length_drop
  refine ⟨_, _, by rw [e], by omega, by unfold maxLen at *; omega, fun hp => ?_⟩
  obtain ⟨g', o', hA, hg, hc⟩ := h2 (by omega)
  rw [← hv1] at hA
  injection hA with hA
  injection hA with hA1 hA2
  subst hA1
  subst hA2
  refine ⟨g, _, rfl, hg, fun i x hi j u hu => ?_⟩
  rw [List.getElem?_drop] at hi
  have := hc _ _ hi j u hu
  rw [Nat.add_mul, ← Nat.add_assoc] at this
  exact this
/-- A row of the call's own reads as its list. -/
theorem LRd.of_own {base : Nat} {t : TypeId} (hf : ∀ x, (f x).length = s) (h : w.ownsRow base t s v l.length (l.flatMap f)) : LRd s f w w.heap.size v l := by
  rcases h.2 with ⟨rfl, h0⟩ | ⟨g, cap, cur, rfl, h1, h2, h3, h4, h5, h6⟩
  · exact ⟨none, 0, by rw [h0], by omega, Nat.zero_le _, fun h => by omega⟩
  · refine ⟨_, cap, rfl, h3, h4, fun _ => ⟨g, 0, rfl, ?_, fun k x hk j u hu => ?_⟩⟩
    · exact (Array.getElem?_eq_some_iff.1 h2).1
    · have hkl := (List.getElem?_eq_some_iff.1 hk).1
      have hjl : j < s := by have := (List.getElem?_eq_some_iff.1 hu).1; rw [hf x] at this; exact this
      have hlt : k * s + j < l.length * s := by
        have : (k + 1) * s ≤ l.length * s := Nat.mul_le_mul_right s hkl
        rw [Nat.add_mul] at this
        omega
      rw [Nat.zero_add, World.ownsRow.cellAt h (k * s + j) hlt]
      exact flat_at (l := l) hf hk hu
/-- A block of exactly these cells reads as the list. -/
theorem LRd.of_lit (hf : ∀ x, (f x).length = s) (t : TypeId) {cs : Array Value} (hcs : cs.toList = l.flatMap f) {n : Nat} (hn : n = l.length) (hm : n ≤ maxLen) :
    LRd s f (w.alloc (.cells cs t)) (w.heap.size + 1) (.slice (some ⟨w.heap.size, 0, none⟩) n n) l := by
  subst hn
  refine ⟨_, _, rfl, Nat.le_refl _, hm, fun _ => ⟨_, 0, rfl, by omega, fun k x hk j u hu => ?_⟩⟩
  rw [Nat.zero_add, cell_of_row _ _ _ cs t (0, 0) (heap_alloc_new w _)]
  have h1 := flat_at (l := l) hf hk hu
  rw [← hcs] at h1
  simpa using h1
end
abbrev ERd (w : World) (B : Nat) (v : Value) (l : List Ev) : Prop := LRd 4 evCs w B v l
abbrev CRd (w : World) (B : Nat) (v : Value) (l : List Cl) : Prop := LRd 7 clCs w B v l
abbrev NRd (w : World) (B : Nat) (v : Value) (l : List Int) : Prop := LRd 1 intCs w B v l
/-- A slice of the call's own (in blocks from B on) that holds these calls; these events. -/
def COwn (w : World) (B : Nat) (v : Value) (l : List Cl) : Prop := w.ownsRow B 47 7 v l.length (l.flatMap clCs)
def EOwn (w : World) (B : Nat) (v : Value) (l : List Ev) : Prop := w.ownsRow B 55 4 v l.length (l.flatMap evCs)
theorem COwn.rd {w : World} {B : Nat} {v : Value} {l : List Cl} (h : COwn w B v l) : CRd w w.heap.size v l := LRd.of_own (fun _ => rfl) h
theorem EOwn.rd {w : World} {B : Nat} {v : Value} {l : List Ev} (h : EOwn w B v l) : ERd w w.heap.size v l := LRd.of_own (fun _ => rfl) h
section
variable {w : World} {B : Nat} {A : Option Addr} {n cap k : Nat}
theorem LRd.ev {l : List Ev} (h : ERd w B (.slice A n cap) l) {x : Ev} (hk : l[k]? = some x) : ∃ g o, A = some ⟨g, o, none⟩ ∧ g < B ∧ w.cell? ⟨g, o + k * 4, none⟩ = some (.int .i64 x.who) ∧ w.cell? ⟨g, o + k * 4 + 1, none⟩ = some (.int .i64 x.thing) ∧ w.cell? ⟨g, o + k * 4 + 2, none⟩ = some (.int .i64 x.kind) ∧ w.cell? ⟨g, o + k * 4 + 3, none⟩ = some (.int .i64 x.val) := by
  obtain ⟨g, o, hA, hg, hc⟩ := LRd.at_ h hk
  exact ⟨g, o, hA, hg, hc 0 _ rfl, hc 1 _ rfl, hc 2 _ rfl, hc 3 _ rfl⟩
theorem LRd.cl {l : List Cl} (h : CRd w B (.slice A n cap) l) {x : Cl} (hk : l[k]? = some x) : ∃ g o, A = some ⟨g, o, none⟩ ∧ g < B ∧ w.cell? ⟨g, o + k * 7, none⟩ = some (.int .i64 x.who) ∧ w.cell? ⟨g, o + k * 7 + 1, none⟩ = some (.int .i64 x.thing) ∧ w.cell? ⟨g, o + k * 7 + 2, none⟩ = some (.int .i64 x.kind) ∧ w.cell? ⟨g, o + k * 7 + 3, none⟩ = some (.int .i64 x.arg) ∧ w.cell? ⟨g, o + k * 7 + 4, none⟩ = some (.int .i64 x.res) ∧ w.cell? ⟨g, o + k * 7 + 5, none⟩ = some (.int .i64 x.frm) ∧ w.cell? ⟨g, o + k * 7 + 6, none⟩ = some (.int .i64 x.til) := by
  obtain ⟨g, o, hA, hg, hc⟩ := LRd.at_ h hk
  exact ⟨g, o, hA, hg, hc 0 _ rfl, hc 1 _ rfl, hc 2 _ rfl, hc 3 _ rfl, hc 4 _ rfl, hc 5 _ rfl, hc 6 _ rfl⟩
theorem LRd.num {l : List Int} (h : NRd w B (.slice A n cap) l) {x : Int} (hk : l[k]? = some x) : ∃ g o, A = some ⟨g, o, none⟩ ∧ g < B ∧ w.cell? ⟨g, o + k, none⟩ = some (.int .i64 x) := by
  obtain ⟨g, o, hA, hg, hc⟩ := LRd.at_ h hk
  have := hc 0 _ rfl
  rw [Nat.mul_one] at this
  exact ⟨g, o, hA, hg, this⟩
end
end Go.Proofs.Ytphhbojdolhieaa
