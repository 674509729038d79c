/-
  append of spans to an empty slice; a block whose first cells hold spans.
-/
import Derived.Test.YtfjanniojphdoaaMakeParts
import Derived.WideShapes
namespace Go.Proofs.Ytfjanniojphdoaa
open Go.RowKit
set_option maxRecDepth 20000

/-- A block whose first N cells hold numbers. -/
def SpH (w : World) (g N : Nat) (f : Nat → Int) : Prop := ∃ cur : Array Value, Lies w g 34 cur ∧ N ≤ cur.size ∧ ∀ j, j < N → cur[j]? = some (.int .i64 (f j))
section
variable {w w' : World} {g N : Nat} {f : Nat → Int}
theorem SpH.cell (h : SpH w g N f) {j : Nat} (hj : j < N) : w.cell? ⟨g, j, none⟩ = some (.int .i64 (f j)) := by
  obtain ⟨cur, hl, _, hc⟩ := h
  rw [Lies.cell hl]
  exact hc j hj
theorem SpH.free (h : SpH w g N f) (j : Nat) : w.frozen? ⟨g, j, none⟩ = false := by
  obtain ⟨cur, hl, _, _⟩ := h
  exact Lies.frozen hl j
theorem SpH.lt (h : SpH w g N f) : g < w.heap.size := by
  obtain ⟨cur, hl, _, _⟩ := h
  exact Lies.lt hl
theorem SpH.below {B : Nat} (h : SpH w g N f) (hb : Below B w w') (hg : g < B) : SpH w' g N f := by
  obtain ⟨cur, hl, h2⟩ := h
  exact ⟨cur, Lies.below hl hb hg, h2⟩
theorem SpH.far {p : Addr} (h : SpH w g N f) (hp : g ≠ p.block) (u : Value) : SpH (w.setCell p u) g N f := by
  obtain ⟨cur, hl, h2⟩ := h
  exact ⟨cur, Lies.far hl hp u, h2⟩
theorem SpH.set_ (h : SpH w g N f) {k : Nat} (hk : k < N) (x : Int) : SpH (w.setCell ⟨g, k, none⟩ (.int .i64 x)) g N (fun i => if i = k then x else f i) := by
  obtain ⟨cur, hl, hs, hc⟩ := h
  refine ⟨_, Lies.set_ hl k (.int .i64 x), by simpa using hs, fun j hj => ?_⟩
  rw [Array.getElem?_setIfInBounds]
  by_cases e : k = j
  · subst e
    rw [if_pos rfl, if_pos (by omega)]
    simp
  · rw [if_neg e, hc j hj]
    simp [show ¬ j = k from fun h => e h.symm]
theorem SpH.congr {f' : Nat → Int} (h : SpH w g N f) (e : ∀ i, i < N → f i = f' i) : SpH w g N f' := by
  obtain ⟨cur, hl, hs, hc⟩ := h
  exact ⟨cur, hl, hs, fun j hj => by rw [hc j hj, e j hj]⟩
theorem SpH.rd {m : Nat} {F T : Nat → Int} (h : SpH w g (m * 2) f) (c : Nat) (hF : ∀ i, i < m → f (i * 2) = F i) (hT : ∀ i, i < m → f (i * 2 + 1) = T i) : SRd w (g + 1) (.slice (some ⟨g, 0, none⟩) m c) m F T :=
  ⟨_, c, rfl, fun _ => ⟨g, 0, rfl, by omega, fun j hj => ⟨by rw [Nat.zero_add, ← hF j hj]; exact h.cell (by omega), by rw [Nat.zero_add, ← hT j hj]; exact h.cell (by omega)⟩⟩⟩
end
/-- From and To, one behind the other. -/
def both (F T : Nat → Int) (c : Nat) : Int := if c % 2 = 0 then F (c / 2) else T (c / 2)
theorem both_from (F T : Nat → Int) (i : Nat) : both F T (i * 2) = F i := by
  unfold both
  rw [if_pos (by omega), show i * 2 / 2 = i by omega]
theorem both_to (F T : Nat → Int) (i : Nat) : both F T (i * 2 + 1) = T i := by
  unfold both
  rw [if_neg (by omega), show (i * 2 + 1) / 2 = i by omega]
theorem SRd.both {w : World} {B m c g o : Nat} {F T : Nat → Int} (h : SRd w B (.slice (some ⟨g, o, none⟩) m c) m F T) {j : Nat} (hj : j < m * 2) : w.cell? ⟨g, o + j, none⟩ = some (.int .i64 (both F T j)) := by
  obtain ⟨h1, h2⟩ := h.cells (j := j / 2) (by omega)
  unfold Go.Proofs.Ytfjanniojphdoaa.both
  by_cases e : j % 2 = 0
  · rw [if_pos e, ← h1, show o + j = o + j / 2 * 2 by omega]
  · rw [if_neg e, ← h2, show o + j = o + j / 2 * 2 + 1 by omega]

/-- append(s, xs...), s empty. -/
theorem app_spans {W : World} {ops : Array Oper} {rest : List Oper} {o : Oper} {a : Act} {Q : Exit → Act → World → Prop} (hgd : o.guard = none) (s x : Operand)
    (ho : o.op = .call { callee := .builtin .append, args := #[s, x], argTypes := #[22, 22] })
    (B : Nat) (v : Value) (hs : a.eval s = v) (hown : W.ownsRow B 34 2 v 0 []) (g o' n cap : Nat) (f : Nat → Int) (hx : a.eval x = .slice (some ⟨g, o', none⟩) n cap)
    (hc : ∀ j, j < n * 2 → W.cell? ⟨g, o' + j, none⟩ = some (.int .i64 (f j))) (hn : n ≤ 12) (hB : B ≤ W.heap.size)
    (k : ∀ v' w', w'.ownsRow B 34 2 v' n ((List.range (n * 2)).map fun j => .int .i64 (f j)) → (v' = .slice none 0 0 → v = .slice none 0 0) → Below B W w' → wpList Try.prog ops Q rest (a.put o.dst v') w') :
    wpList Try.prog ops Q (o :: rest) a W := by
  obtain ⟨i0, hi, hz0, hz1, hz2⟩ := info_parts info_span
  refine wpList_append_own _ hgd s x 22 ho B 34 i0 (.agg #[.int .i64 0, .int .i64 0]) 2 16 Try.underlying22 hi hz0 hz1 hz2 rfl (by decide) v 0 [] hs hown
    ⟨g, o', none⟩ n cap ((List.range (n * 2)).map fun j => .int .i64 (f j)) hx (by simp) ?_ ?_ (by unfold maxLen; omega) (by omega) hB ?_
  · intro j u hu
    rw [List.getElem?_map] at hu
    rcases Nat.lt_or_ge j (n * 2) with h | h
    · rw [List.getElem?_range h] at hu
      injection hu with hu
      subst hu
      rw [WideShapes.add_plain]
      exact hc j h
    · rw [List.getElem?_eq_none (by simpa using h)] at hu
      cases hu
  · intro u hu
    rw [List.mem_map] at hu
    obtain ⟨j, _, rfl⟩ := hu
    rfl
  · intro v' w' h1 h2 h3
    refine k v' w' ?_ ?_ ?_
    · simpa using h1
    · intro e
      exact (h3.1 e).1
    · have hl := World.ownsRow.lt hown
      exact (Below.refl B W).grown h2 hB (fun k hk => (hl k hk).1)

theorem spans_of_owned {w : World} {B n : Nat} {v : Value} {f : Nat → Int} (h : w.ownsRow B 34 2 v n ((List.range (n * 2)).map fun j => .int .i64 (f j))) (hne : v ≠ .slice none 0 0) :
    ∃ g cap, v = .slice (some ⟨g, 0, none⟩) n cap ∧ B ≤ g ∧ n ≤ cap ∧ SpH w g (n * 2) f := by
  rcases h.2 with ⟨h1, _⟩ | ⟨g, cap, cur, h1, h2, h3, h4, h5, h6, h7⟩
  · exact absurd h1 hne
  · refine ⟨g, cap, h1, h2, h4, cur, h3, by omega, fun j hj => ?_⟩
    have h8 := congrArg (fun l => l[j]?) h7
    simp only [List.getElem?_map, List.getElem?_range hj, List.getElem?_take, if_pos hj, Option.map_some] at h8
    rw [Array.getElem?_toList] at h8
    exact h8
theorem own_none (W : World) : (W.alloc (.cells #[] 34)).ownsRow W.heap.size 34 2 (.slice (some ⟨W.heap.size, 0, none⟩) 0 0) 0 [] :=
  ⟨rfl, .inr ⟨W.heap.size, 0, #[], rfl, Nat.le_refl _, heap_alloc_new W _, Nat.le_refl _, by unfold maxLen; omega, rfl, rfl⟩⟩
end Go.Proofs.Ytfjanniojphdoaa
