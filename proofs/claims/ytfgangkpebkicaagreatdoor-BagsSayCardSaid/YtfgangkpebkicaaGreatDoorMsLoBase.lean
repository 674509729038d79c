/-
  Joined by a program out of: LoBase.
-/
import Derived.Test.YtfgangkpebkicaaGreatDoorMsRo
import Derived.Test.YtfgangkpebkicaaGreatDoorMsLinIdx
import Derived.Test.YtfgangkpebkicaaGreatDoorMsLoIdx
import Derived.Test.YtfgangkpebkicaaGreatDoorMgAW

/-
  What the reference's LeastOrder leaves as it was; what it tries, plainly.
-/
namespace Go.Proofs.YtfgangkpebkicaaGreatDoor
open Go.RowKit
set_option maxRecDepth 20000
structure LoR (w : World) (n : Nat) (r : Nat → Nat) (X : World) : Prop where
  below : Below w.heap.size w X
  rel : RelB X w.heap.size n r
theorem LoR.next {w : World} {n : Nat} {r : Nat → Nat} {X X' : World} (h : LoR w n r X) (hb : Below X.heap.size X X') : LoR w n r X' :=
  ⟨h.below.trans (hb.mono h.below.size), Lies.below h.rel hb (Lies.lt h.rel)⟩
/-- A call and its number in their boxes. -/
structure LoK (w : World) (n : Nat) (r : Nat → Nat) (P k : Nat) (y0 y1 y2 y3 y4 y5 y6 : Int) (X : World) : Prop where
  lo : LoR w n r X
  bk : Lies X P 3 #[.int .i64 (k : Int)]
  bc : Lies X (P + 1) 58 #[.int .i64 y0, .int .i64 y1, .int .i64 y2, .int .i64 y3, .int .i64 y4, .int .i64 y5, .int .i64 y6]
theorem LoK.next {w : World} {n : Nat} {r : Nat → Nat} {P k : Nat} {y0 y1 y2 y3 y4 y5 y6 : Int} {X X' : World} (h : LoK w n r P k y0 y1 y2 y3 y4 y5 y6 X) (hb : Below X.heap.size X X') : LoK w n r P k y0 y1 y2 y3 y4 y5 y6 X' :=
  ⟨h.lo.next hb, Lies.below h.bk hb (Lies.lt h.bk), Lies.below h.bc hb (Lies.lt h.bc)⟩
theorem LoK.cells {w : World} {n : Nat} {r : Nat → Nat} {P k : Nat} {y0 y1 y2 y3 y4 y5 y6 : Int} {X : World} (h : LoK w n r P k y0 y1 y2 y3 y4 y5 y6 X) : X.cell? ⟨P, 0, none⟩ = some (.int .i64 (k : Int)) ∧ X.cell? ⟨P + 1, 1, none⟩ = some (.int .i64 y1) ∧ X.cell? ⟨P + 1, 2, none⟩ = some (.int .i64 y2) ∧ X.cell? ⟨P + 1, 3, none⟩ = some (.int .i64 y3) ∧ X.cell? ⟨P + 1, 4, none⟩ = some (.int .i64 y4) ∧ X.cell? ⟨P + 1, 6, none⟩ = some (.int .i64 y6) :=
  ⟨Lies.cell h.bk 0, Lies.cell h.bc 1, Lies.cell h.bc 2, Lies.cell h.bc 3, Lies.cell h.bc 4, Lies.cell h.bc 6⟩
/-- What LeastOrder answers. -/
def LoPost (w : World) (o : Option (List (Nat × Int))) (ws : List (Int × Int)) (e : Ending) (w' : World) : Prop :=
  Below w.heap.size w w' ∧ ((o = none ∧ e = .returned (.slice none 0 0)) ∨ ∃ S a N c, o = some S ∧ e = .returned (.slice (some a) N c) ∧ SRd w' w'.heap.size (.slice (some a) N c) (ws ++ asSteps S))
/-- All that stand ahead of k among the first m are done. -/
def allB (r : Nat → Nat) (ws : List (Int × Int)) (k m : Nat) : Bool := decide (∀ i, i < m → (r i).testBit k = true → (i : Int) ∈ ws.map (·.1))
theorem allB_zero (r : Nat → Nat) (ws : List (Int × Int)) (k : Nat) : allB r ws k 0 = true := decide_eq_true fun i hi => by omega
theorem allB_yes {r : Nat → Nat} {ws : List (Int × Int)} {k m : Nat} (h : (r m).testBit k = true → (m : Int) ∈ ws.map (·.1)) : allB r ws k (m + 1) = allB r ws k m := by
  unfold allB
  rw [Bool.eq_iff_iff, decide_eq_true_iff, decide_eq_true_iff]
  constructor
  · intro h1 i hi; exact h1 i (by omega)
  · intro h1 i hi hb
    by_cases e : i = m
    · subst e; exact h hb
    · exact h1 i (by omega) hb
theorem allB_no {r : Nat → Nat} {ws : List (Int × Int)} {k m : Nat} (h1 : (r m).testBit k = true) (h2 : ¬ (m : Int) ∈ ws.map (·.1)) : allB r ws k (m + 1) = false := by
  unfold allB
  rw [decide_eq_false_iff_not]
  intro h; exact h2 (h m (by omega) h1)
theorem tryG_no {b : Nat → Nat} {go : Pt → Option (List (Nat × Int))} {ts : List Int} {cs : List Cl} {p : Pt} {n k : Nat} (hk : k < n) (h : mayG b ts cs p k = false) : tryG b go ts cs p (n - k) k = tryG b go ts cs p (n - (k + 1)) (k + 1) := by
  obtain ⟨m, hm⟩ : ∃ m, n - k = m + 1 := ⟨n - k - 1, by omega⟩
  rw [hm, tryG, h, if_neg (by decide), show n - (k + 1) = m by omega]
theorem tryG_yes {b : Nat → Nat} {go : Pt → Option (List (Nat × Int))} {ts : List Int} {cs : List Cl} {p : Pt} {n k : Nat} (hk : k < n) (h : mayG b ts cs p k = true) : tryG b go ts cs p (n - k) k = match go (nextP ts cs p k) with
    | some l => some ((k, (thingO ts cs p k).2.1) :: l)
    | none => tryG b go ts cs p (n - (k + 1)) (k + 1) := by
  obtain ⟨m, hm⟩ : ∃ m, n - k = m + 1 := ⟨n - k - 1, by omega⟩
  rw [hm, tryG, h, if_pos rfl, show n - (k + 1) = m by omega]
  cases go (nextP ts cs p k) <;> rfl
theorem asSteps_cons (k : Nat) (v : Int) (S : List (Nat × Int)) : asSteps ((k, v) :: S) = ((k : Int), v) :: asSteps S := rfl
/-- Whether k may come next, as the reference looks at it. -/
theorem may_ref {b : Nat → Nat} {ts : List Int} {cs : List Cl} {r : Nat → Nat} {ws : List (Int × Int)} {p : Pt} (h : Legal ts cs r ws p) (hn : cs.length ≤ 16) {k : Nat} (hk : k < cs.length) (hb : ∀ i, i < cs.length → ((b k).testBit i = (r i).testBit k)) (hb2 : ∀ i, cs.length ≤ i → (b k).testBit i = false) (hnm : ¬ (k : Int) ∈ ws.map (·.1)) :
    mayG b ts cs p k = (((thingO ts cs p k).2.2 == 0 && ((cs.getD k default).til == -1 || (thingO ts cs p k).2.1 == (cs.getD k default).res)) && allB r ws k cs.length) := by
  rw [Bool.eq_iff_iff, mayG_iff h.small hn hb hb2]
  unfold allB
  simp only [Bool.and_eq_true, beq_iff_eq, Bool.or_eq_true, decide_eq_true_eq]
  constructor
  · rintro ⟨_, h2, h3, h4⟩
    exact ⟨⟨h2, h3⟩, fun i hi hr => (h.done i hi).1 (h4 i hi hr)⟩
  · rintro ⟨⟨h2, h3⟩, h4⟩
    refine ⟨?_, h2, h3, fun i hi hr => (h.done i hi).2 (h4 i hi hr)⟩
    cases hd : p.done.testBit k
    · rfl
    · exact absurd ((h.done k hk).1 hd) hnm
theorem may_in {b : Nat → Nat} {ts : List Int} {cs : List Cl} {r : Nat → Nat} {ws : List (Int × Int)} {p : Pt} (h : Legal ts cs r ws p) {k : Nat} (hk : k < cs.length) (hm : (k : Int) ∈ ws.map (·.1)) : mayG b ts cs p k = false := by
  unfold mayG
  rw [(h.done k hk).2 hm]
  rfl
/-- Behind what writes into newer blocks alone. -/
theorem LoK.next_own {w : World} {n : Nat} {r : Nat → Nat} {P k : Nat} {y0 y1 y2 y3 y4 y5 y6 : Int} {X X' : World} (h : LoK w n r P k y0 y1 y2 y3 y4 y5 y6 X) {B : Nat} (hb : Below B X X') (h1 : P + 1 < B ∧ w.heap.size < B) : LoK w n r P k y0 y1 y2 y3 y4 y5 y6 X' :=
  ⟨⟨h.lo.below.trans (hb.mono (by omega)), Lies.below h.lo.rel hb h1.2⟩, Lies.below h.bk hb (by omega), Lies.below h.bc hb h1.1⟩
theorem srd_lies {w : World} {g : Nat} {k v : Int} (h : Lies w g 64 #[.int .i64 k, .int .i64 v]) : SRd w (g + 1) (.slice (some ⟨g, 0, none⟩) 1 1) [(k, v)] := by
  refine ⟨_, _, rfl, Nat.le_refl _, by unfold maxLen; omega, fun _ => ⟨g, 0, rfl, by omega, fun i x hi j u hu => ?_⟩⟩
  have h0 : i = 0 := by have := (List.getElem?_eq_some_iff.1 hi).1; simp at this; omega
  subst h0
  simp at hi
  subst hi
  rw [Lies.cell h]
  simpa using hu
theorem Lies.grownS {W w' : World} {g : Nat} {t : TypeId} {cs : Array Value} {row : Option Nat} (h : Lies W g t cs) (hg : W.grownBy w' row) (hne : some g ≠ row) : Lies w' g t cs := h.keep (hg.block g h.lt hne)
theorem own_block_lo {w : World} {B : Nat} {v : Value} {l : List (Int × Int)} (h : TOwn w B v l) (hl : l ≠ []) : ∃ g cap, v = .slice (some ⟨g, 0, none⟩) l.length cap ∧ B ≤ g ∧ g < w.heap.size := by
  rcases h.2 with ⟨_, h0⟩ | ⟨g, cap, cur, rfl, hB, hg, _⟩
  · exact absurd (List.length_eq_zero_iff.1 h0) hl
  · exact ⟨g, cap, rfl, hB, (Array.getElem?_eq_some_iff.1 hg).1⟩
/-- The relation in its box, a number in its. -/
def LoS (Q P n : Nat) (r : Nat → Nat) (k : Nat) (W : World) : Prop := RelB W Q n r ∧ W.cell? ⟨P, 0, none⟩ = some (.int .i64 (k : Int))
theorem st_nil_ne (w : World) : (binOp .neq 38 (.slice none 0 0) (.slice none 0 0)).run Tryz.prog w = .ok (.bool false) w := by kernel_rfl
theorem st_some_ne (a : Addr) (m c : Nat) (w : World) : (binOp .neq 38 (.slice (some a) m c) (.slice none 0 0)).run Tryz.prog w = .ok (.bool true) w := by kernel_rfl
theorem own_empty (W : World) : TOwn (W.alloc (.cells #[] 64)) W.heap.size (.slice (some ⟨W.heap.size, 0, none⟩) 0 0) [] := ⟨rfl, .inr ⟨W.heap.size, 0, #[], rfl, Nat.le_refl _, heap_alloc_new W _, Nat.le_refl _, by unfold maxLen; omega, rfl, rfl⟩⟩
theorem rite_small {cs : List Cl} {ts : List Int} {r : Nat → Nat} {ws : List (Int × Int)} {p : Pt} (h : Legal ts cs r ws p) : ws.length ≤ cs.length := by
  have := nodup_lt cs.length h.once (fun k hk => by
    obtain ⟨x, hx, rfl⟩ := List.mem_map.1 hk
    exact h.rng x hx)
  rwa [List.length_map] at this
theorem run_app_spsG {W : World} {base n cap : Nat} {v : Value} {A : Option Addr} {l ys : List (Int × Int)} {B : Nat} (ty : TypeId) (hown : TOwn W base v l) (hr : SRd W B (.slice A n cap) ys) (hlen : ((l.length + ys.length) + (l.length + ys.length) / 4 + 192) * 16 ≤ 281474976710656) (hbase : base ≤ W.heap.size) (hA : A ≠ none) :
    ∃ v' w', (Builtin.append_ #[38, 38] ty #[v, .slice A n cap]).run Tryz.prog W = .ok v' w' ∧ TOwn w' base v' (l ++ ys) ∧ Below base W w' ∧ W.grownBy w' v.ownBlock := by
  obtain ⟨i0, hi, hz0, hz1, hz2⟩ := info_of info_sp
  have hl := World.ownsRow.lt hown
  obtain ⟨A', cap', he, m1, m2, hc⟩ := hr
  injection he with e1 e2 e3
  subst e1 e2 e3
  cases A with
  | none => exact absurd rfl hA
  | some a =>
    have hlf : (ys.flatMap spCs).length = ys.length * 2 := flat_len (f := spCs) (s := 2) (fun _ => rfl) ys
    obtain ⟨v', w', hr, h2, h3, _⟩ := run_append_own_wide (P := Tryz.prog) W base 38 ty 64 i0 (.agg #[.int .i64 0, .int .i64 0]) 2 16 Tryz.underlying38 hi hz0 hz1 hz2 rfl (by decide) v l.length (l.flatMap spCs) hown
      a ys.length cap (ys.flatMap spCs) hlf (fun j u hu => by
        have hj := (List.getElem?_eq_some_iff.1 hu).1
        rw [hlf] at hj
        obtain ⟨g, o, ha, _, hcell⟩ := hc (by omega)
        injection ha with ha
        subst ha
        have hx := List.getElem?_eq_getElem (show j / 2 < ys.length by omega)
        have hm : j % 2 < (spCs ys[j / 2]).length := by show j % 2 < 2; omega
        have hf := flat_at (l := ys) (f := spCs) (s := 2) (fun _ => rfl) hx (List.getElem?_eq_getElem hm)
        have e : j / 2 * 2 + j % 2 = j := by omega
        rw [e, hu] at hf
        have := hcell (j / 2) _ hx (j % 2) _ ((List.getElem?_eq_getElem hm).trans hf.symm)
        rw [Addr.add_lit]
        rw [Nat.add_assoc, e] at this
        exact this) (fun u hu => by
        rw [List.mem_flatMap] at hu
        obtain ⟨x, _, hx⟩ := hu
        simp only [List.mem_cons, List.not_mem_nil, or_false] at hx
        rcases hx with rfl | rfl <;> rfl) (by unfold maxLen; omega) hlen hbase
    refine ⟨v', w', hr, ?_, (Below.refl base W).grown h3 hbase (fun k hk => (hl k hk).1), h3⟩
    unfold TOwn
    rw [List.length_append, List.flatMap_append]
    exact h2
end Go.Proofs.YtfgangkpebkicaaGreatDoor
