/-
  Queues of integers: slices of the call's own that begin anywhere in their block; the rest behind the first; append of one. Tables of truths.
-/
import Derived.Test.YtcpmhflkooipdaaDoorSeq
import Derived.ArgAppend
namespace Go.Proofs.YtcpmhflkooipdaaDoor
open Go.RowKit
set_option maxRecDepth 20000

/-- The cells of a table of N truths. -/
def bitCs (N : Nat) (S : Nat → Bool) : Array Value := (Array.range N).map fun i => .bool (S i)
def BTab (w : World) (g N : Nat) (S : Nat → Bool) : Prop := Lies w g 4 (bitCs N S)
theorem bitCs_get (N : Nat) (S : Nat → Bool) (i : Nat) (h : i < N) : (bitCs N S)[i]? = some (.bool (S i)) := by
  simp [bitCs, h]
theorem bitCs_set (N : Nat) (S : Nat → Bool) (i : Nat) (x : Bool) : (bitCs N S).setIfInBounds i (.bool x) = bitCs N (fun j => if j = i then x else S j) := by
  apply Array.ext_getElem?
  intro j
  rw [Array.getElem?_setIfInBounds]
  by_cases h : i = j
  · subst h
    by_cases hi : i < N <;> simp [bitCs, hi]
  · rw [if_neg h]
    by_cases hj : j < N <;> simp [bitCs, hj, show ¬ j = i from fun e => h e.symm]
theorem BTab.cell {w : World} {g N : Nat} {S : Nat → Bool} (h : BTab w g N S) {i : Nat} (hi : i < N) : w.cell? ⟨g, i, none⟩ = some (.bool (S i)) := by
  rw [Lies.cell h, bitCs_get N S i hi]
theorem BTab.set_ {w : World} {g N : Nat} {S : Nat → Bool} (h : BTab w g N S) (i : Nat) (x : Bool) : BTab (w.setCell ⟨g, i, none⟩ (.bool x)) g N (fun j => if j = i then x else S j) :=
  Lies.cast (Lies.set_ h i (.bool x)) (bitCs_set N S i x)

theorem info_bool : (Tryd.prog.info? 4).map (fun i => (i.zero, i.size, i.bytes)) = some (some (.bool false), 1, 1) := by kernel_rfl
theorem made_bools (N : Nat) (l : Int) (hl : l = N) (hN : N ≤ 65536) (w : World) :
    (Instr.makeSlice 65 (.int .i64 l) (.int .i64 l)).run Tryd.prog w = .ok (.slice (some ⟨w.heap.size, 0, none⟩) N N) (w.alloc (.cells (bitCs N fun _ => false) 4)) := by
  obtain ⟨i0, hi, hz0, hz1, hz2⟩ := info_parts info_bool
  subst hl
  rw [run_make w 65 4 i0 (.bool false) Tryd.underlying65 hi hz0 .i64 .i64 N N (by omega) (by omega) (by rw [hz2]; omega) (by omega), hz1]
  simp only [Int.toNat_natCast, Nat.mul_one]
  congr 3
  apply Array.ext
  · simp [bitCs, madeCells]
  · intro j h1 h2
    simp [bitCs, madeCells, Value.cells, Nat.mod_one]

/-- The value v is a slice of the call's own (in blocks from B on) that holds the numbers l; it may begin anywhere in its block. -/
def QOwn (w : World) (B : Nat) (v : Value) (l : List Nat) : Prop :=
  ∃ g o cap cs, v = .slice (some ⟨g, o, none⟩) l.length cap ∧ B ≤ g ∧ Lies w g 3 cs ∧ l.length ≤ cap ∧ cap ≤ maxLen ∧ o + cap ≤ cs.size ∧ ∀ x, x < l.length → cs[o + x]? = some (.int .i64 ((l.getD x 0 : Nat) : Int))
section
variable {w w' : World} {B : Nat} {v : Value} {l : List Nat}
theorem QOwn.then_ (h : QOwn w B v l) (hb : Below w.heap.size w w') : QOwn w' B v l := by
  obtain ⟨g, o, cap, cs, h1, h2, h3, h4⟩ := h
  exact ⟨g, o, cap, cs, h1, h2, Lies.below h3 hb h3.lt, h4⟩
theorem QOwn.alloc (h : QOwn w B v l) (o : Obj) : QOwn (w.alloc o) B v l := h.then_ ((Below.refl _ _).alloc (Nat.le_refl _) o)
theorem QOwn.far (h : QOwn w B v l) {p : Addr} (hp : p.block < B) (u : Value) : QOwn (w.setCell p u) B v l := by
  obtain ⟨g, o, cap, cs, h1, h2, h3, h4⟩ := h
  exact ⟨g, o, cap, cs, h1, h2, Lies.far h3 (by omega) u, h4⟩
theorem QOwn.first (w : World) (i : Nat) (hB : B ≤ w.heap.size) : QOwn (w.alloc (.cells #[.int .i64 (i : Int)] 3)) B (.slice (some ⟨w.heap.size, 0, none⟩) 1 1) [i] :=
  ⟨w.heap.size, 0, 1, #[.int .i64 (i : Int)], rfl, hB, Lies.new _ _ _, Nat.le_refl _, by unfold maxLen; omega, Nat.le_refl _, fun x hx => by
    obtain rfl : x = 0 := by simpa using hx
    rfl⟩
end

/-- Where the rest behind the first begins. -/
def tailAt (o cap : Nat) : Nat := if cap = 1 then o else o + 1
theorem slice_tail (g o L cap : Nat) (hL : 0 < L) (w : World) :
    (Instr.slice 29 (.slice (some ⟨g, o, none⟩) L cap) (some (.int .i64 1)) none none).run Tryd.prog w = .ok (.slice (some ⟨g, tailAt o cap, none⟩) (L - 1) (cap - 1)) w := by
  have hi : ∃ i0, Tryd.prog.info? 3 = some i0 ∧ i0.size = 1 := by
    obtain ⟨i0, hi, hz0, hz1, hz2⟩ := info_parts info_int
    exact ⟨i0, hi, hz1⟩
  obtain ⟨i0, hi, hz1⟩ := hi
  have hb : (1 : Int) ≤ (L : Int) := by omega
  simp [Instr.slice, run_underlying Tryd.underlying29, Instr.sliceBounds, run_sliceBound, sizeOf, typeInfo, hi, hz1, hb, tailAt, Addr.add_lit]
  split <;> rfl

theorem QOwn.tail {w : World} {B g o L cap k : Nat} {l : List Nat} (h : QOwn w B (.slice (some ⟨g, o, none⟩) L cap) (k :: l)) :
    w.cell? ⟨g, o, none⟩ = some (.int .i64 (k : Int)) ∧ QOwn w B (.slice (some ⟨g, tailAt o cap, none⟩) (L - 1) (cap - 1)) l := by
  obtain ⟨g', o', cap', cs, h1, h2, h3, h4, h5, h6, h7⟩ := h
  injection h1 with e1 e2 e3
  injection e1 with e1
  injection e1 with e1 e4
  subst e1 e2 e3 e4
  simp only [List.length_cons] at *
  refine ⟨?_, g, tailAt o cap, cap - 1, cs, by simp, h2, h3, by omega, by omega, ?_, fun x hx => ?_⟩
  · rw [Lies.cell h3]
    simpa using h7 0 (by omega)
  · unfold tailAt; split <;> omega
  · have hc : cap ≠ 1 := by omega
    have := h7 (x + 1) (by omega)
    rw [tailAt, if_neg hc, Nat.add_assoc, Nat.add_comm 1 x, this]
    simp

/-- append(s, y) to a queue, behind the block that holds y. -/
theorem app_q {W : World} {ops : Array Oper} {rest : List Oper} {o : Oper} {a : Act} {Q : Exit → Act → World → Prop} (hgd : o.guard = none) (s x : Operand)
    (ho : o.op = .call { callee := .builtin .append, args := #[s, x], argTypes := #[29, 29] })
    (B : Nat) (v : Value) (l : List Nat) (hs : a.eval s = v) (hown : QOwn W B v l) (y N : Nat) (hN : W.heap.size = N) (hx : a.eval x = .slice (some ⟨N, 0, none⟩) 1 1)
    (hlen : l.length ≤ 65536) (hB : B ≤ W.heap.size)
    (k : ∀ v' w', QOwn w' B v' (l ++ [y]) → Below B W w' → wpList Tryd.prog ops Q rest (a.put o.dst v') w') :
    wpList Tryd.prog ops Q (o :: rest) a (W.alloc (.cells #[.int .i64 (y : Int)] 3)) := by
  subst hN
  obtain ⟨i0, hi, hz0, hz1, hz2⟩ := info_parts info_int
  obtain ⟨g, of, cap, cs, rfl, hg, hl, hle, hm, hsz, hc⟩ := hown
  have hl' := Lies.alloc hl (.cells #[.int .i64 (y : Int)] 3)
  have hglt := hl.lt
  refine wpList_append_arg _ hgd s x 29 ho 3 i0 (.int .i64 0) 1 8 Tryd.underlying29 hi hz0 hz1 hz2 rfl (by decide) g of l.length cap (l.map fun (n : Nat) => Value.int .i64 (n : Int)) hs (by simp) ?olds
    ⟨W.heap.size, 0, none⟩ 1 1 [.int .i64 (y : Int)] hx rfl ?c1 ?c2 ?spare (by unfold maxLen; omega) (by omega) ?room ?grow
  case olds =>
    intro j u hu
    rw [Lies.cell hl']
    rw [List.getElem?_map] at hu
    cases hj : l[j]? with
    | none => rw [hj] at hu; cases hu
    | some n =>
      rw [hj] at hu
      injection hu with hu
      have hjl : j < l.length := (List.getElem?_eq_some_iff.1 hj).1
      rw [hc j hjl, ← hu]
      simp [List.getD, hj]
  case c1 =>
    intro j u hu
    match j, hu with
    | 0, hu => injection hu with hu; subst hu; exact (World.cell?_alloc_at _ _ _ _ rfl).trans rfl
    | j + 1, hu => simp at hu
  case c2 =>
    intro u hu
    simp at hu
    subst hu
    rfl
  case spare =>
    intro hr j hj
    obtain rfl : j = 0 := by simpa using hj
    refine ⟨?_, Lies.frozen hl' _⟩
    rw [Lies.cell hl']
    simp
    omega
  case room =>
    intro hr
    refine k _ _ ?_ ?_
    · refine ⟨g, of, cap, _, by simp, hg, Lies.set_ hl' _ _, by simpa using hr, hm, by simpa using hsz, fun x hx => ?_⟩
      rw [Array.getElem?_setIfInBounds]
      rcases Nat.lt_or_ge x l.length with h | h
      · rw [if_neg (by omega), hc x h]
        simp [List.getD, h, List.getElem?_append_left h]
      · obtain rfl : x = l.length := by simp at hx; omega
        rw [if_pos (by omega), if_pos (by omega)]
        simp
    · exact ((Below.refl B W).alloc hB _).setCell hg _
  case grow =>
    intro hr v' w' h1 h2
    refine k v' w' ?_ ?_
    · obtain ⟨h3, h4 | ⟨g', cap', cur, rfl, h5, h6, h7, h8, h9, h10⟩⟩ := h1
      · omega
      · refine ⟨g', 0, cap', cur, by simp, by simp at h5; omega, h6, by simpa using h7, h8, by omega, fun x hx => ?_⟩
        have hx' : x < l.length + 1 := by simpa using hx
        have e : (cur.toList.take ((l.length + 1) * 1))[x]? = cur[0 + x]? := by
          rw [List.getElem?_take]
          simp [hx']
        rw [← e, h10]
        rcases Nat.lt_or_ge x l.length with h | h
        · rw [List.getElem?_append_left (by simpa using h)]
          simp [List.getD, h, List.getElem?_append_left h]
        · obtain rfl : x = l.length := by omega
          simp
    · exact ((Below.refl B W).alloc hB _).grown h2 (by simp; omega) (fun k hk => by cases hk)
end Go.Proofs.YtcpmhflkooipdaaDoor
