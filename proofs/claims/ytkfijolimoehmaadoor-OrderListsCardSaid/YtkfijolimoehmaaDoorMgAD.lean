/-
  Joined by a program out of: RelRight, Rights, Queue, SrchPure.
-/
import Derived.Test.YtkfijolimoehmaaDoorMgAC
import Derived.Test.YtkfijolimoehmaaDoorMgAB
import Derived.ArgAppend

/-
  Contract of alibref.RelRight.
-/
namespace Go.Proofs.YtkfijolimoehmaaDoor
open Go.RowKit
set_option maxRecDepth 20000

/-- A pair that stands there and is out of bounds. -/
def outOf (n : Nat) (a : Nat → Nat) (i j : Nat) : Prop := (a i).testBit j = true ∧ (n ≤ i ∨ n ≤ j)
theorem rowBad_of {n : Nat} {a : Nat → Nat} {i j : Nat} (hn : n ≤ 12) (ha : a i < 65536) (h : outOf n a i j) : rowBad n i (a i) = true := by
  obtain ⟨h1, h2⟩ := h
  cases hb : rowBad n i (a i)
  · exfalso
    unfold rowBad at hb
    rw [Bool.or_eq_false_iff, Bool.and_eq_false_iff] at hb
    obtain ⟨b1, b2⟩ := hb
    have hz : a i &&& (65535 - (2 ^ n - 1)) = 0 := by
      rw [bne_eq_false_iff_eq] at b1
      exact b1
    have h3 := sub_of_zero ha (ones_lt hn) hz j h1
    rw [ones_bit, decide_eq_true_iff] at h3
    rcases h2 with h2 | h2
    · rcases b2 with b2 | b2
      · rw [decide_eq_false_iff_not] at b2
        omega
      · rw [bne_eq_false_iff_eq] at b2
        rw [b2] at h1
        simp at h1
    · omega
  · rfl
theorem good_not_out {n : Nat} {a : Nat → Nat} (h : Good n a) {i j : Nat} (hi : i < 12) : ¬ outOf n a i j := fun ho => by
  have := rowBad_of h.le (h.lt i hi) ho
  rw [h.rows i hi] at this
  cases this
/-- The three ways of a relation that is handed in. -/
theorem rel_ways (n : Int) (a : Nat → Nat) (ha : ∀ i, a i < 65536) : (n < 0 ∨ 12 < n) ∨ ∃ m : Nat, n = m ∧ m ≤ 12 ∧ ((∃ i, i < 12 ∧ rowBad m i (a i) = true) ∨ Good m a) := by
  by_cases h0 : n < 0
  · exact .inl (.inl h0)
  by_cases h1 : 12 < n
  · exact .inl (.inr h1)
  obtain ⟨m, rfl⟩ : ∃ m : Nat, n = m := ⟨n.toNat, by omega⟩
  refine .inr ⟨m, rfl, by omega, ?_⟩
  by_cases hb : ∃ i, i < 12 ∧ rowBad m i (a i) = true
  · exact .inl hb
  · exact .inr ⟨by omega, fun i _ => ha i, fun i hi => by
      cases h : rowBad m i (a i)
      · rfl
      · exact absurd ⟨i, hi, h⟩ hb⟩
theorem out_of_bad {n : Nat} {a : Nat → Nat} {i : Nat} (ha : a i < 65536) (h : rowBad n i (a i) = true) : ∃ j, j < 16 ∧ outOf n a i j := by
  unfold rowBad at h
  rw [Bool.or_eq_true, Bool.and_eq_true] at h
  rcases h with h | ⟨h1, h2⟩
  · rw [bne_iff_ne] at h
    obtain ⟨j, hj⟩ : ∃ j, (a i &&& (65535 - (2 ^ n - 1))).testBit j = true := by
      apply Classical.byContradiction
      intro hne
      apply h
      apply Nat.eq_of_testBit_eq
      intro j
      rw [Nat.zero_testBit]
      cases hb : (a i &&& (65535 - (2 ^ n - 1))).testBit j
      · rfl
      · exact absurd ⟨j, hb⟩ hne
    rw [Nat.testBit_and, Bool.and_eq_true] at hj
    have hj16 := bit_lt16 ha hj.1
    refine ⟨j, hj16, hj.1, ?_⟩
    right
    rcases Nat.lt_or_ge j n with h3 | h3
    · exfalso
      have h4 := hj.2
      by_cases hn : n ≤ 16
      · have h5 : 2 ^ n - 1 < 65536 := by
          have := Nat.pow_le_pow_right (show 0 < 2 by decide) hn
          have := Nat.two_pow_pos n
          omega
        rw [not_bit _ _ h5, ones_bit, decide_eq_true h3] at h4
        simp at h4
      · have h5 : 65535 - (2 ^ n - 1) = 0 := by
          have := Nat.pow_le_pow_right (show 0 < 2 by decide) (show 16 ≤ n by omega)
          omega
        rw [h5] at h4
        simp at h4
    · exact h3
  · rw [decide_eq_true_iff] at h1
    rw [bne_iff_ne] at h2
    obtain ⟨j, hj⟩ : ∃ j, (a i).testBit j = true := by
      apply Classical.byContradiction
      intro hne
      apply h2
      apply Nat.eq_of_testBit_eq
      intro j
      rw [Nat.zero_testBit]
      cases hb : (a i).testBit j
      · rfl
      · exact absurd ⟨j, hb⟩ hne
    exact ⟨j, bit_lt16 ha hj, hj, Or.inl h1⟩

theorem rright_arg (n : Int) (a : Nat → Nat) (w : World) (h : n < 0 ∨ 12 < n) :
    Calls Tryd.prog 8 #[relV n a] w fun e w' => e = .returned (.int .i64 1) ∧ Below w.heap.size w w' := by
  have hd : decide (0 ≤ n ∧ n ≤ 12) = false := decide_eq_false (by omega)
  have hb0 : Below w.heap.size w (w.alloc (.cells (relCs n a) 25)) := (Below.refl _ _).alloc (Nat.le_refl _) _
  have HB := Lib.hid hb0
  clear hb0 h
  go_enter Tryd.func8, Tryd.ntmps8
  go_wp2_with fail
  refine (between_any n 0 12 _).mono ?_
  rintro e w' ⟨rfl, rfl⟩
  rw [hd]
  go_wp2_with fail
  go_ret
  exact ⟨rfl, HB.out⟩

set_option maxHeartbeats 4000000 in
theorem rright_go (n : Nat) (a : Nat → Nat) (w : World) (hn : n ≤ 12) :
    Calls Tryd.prog 8 #[relV n a] w fun e w' => Below w.heap.size w w' ∧ ((e = .returned (.int .i64 3) ∧ ∃ i j, i < 12 ∧ j < 16 ∧ outOf n a i j) ∨ (e = .returned (.int .i64 0) ∧ ∀ i j, i < 12 → j < 16 → ¬ outOf n a i j)) := by
  have hd : decide ((0 : Int) ≤ (n : Int) ∧ (n : Int) ≤ 12) = true := decide_eq_true (by omega)
  have hR : FsR w n a (w.alloc (.cells (relCs n a) 25)) := ⟨(Below.refl _ _).alloc (Nat.le_refl _) _, Lies.new _ _ _⟩
  have HR := Lib.hid hR
  clear hR
  go_enter Tryd.func8, Tryd.ntmps8
  go_wp2_with fail
  refine (between_any n 0 12 _).mono ?_
  rintro e w' ⟨rfl, rfl⟩
  rw [hd]
  clear hd
  go_wp2_with fail
  have hR := HR.out
  clear HR
  change Code.wp _ _ _ _ (w.alloc (.cells (relCs n a) 25))
  generalize w.alloc (.cells (relCs n a) 25) = W at hR ⊢
  go_loopw [9] (fun v wr => ∃ i : Nat, i ≤ 12 ∧ v = .int .i64 i ∧ FsR w n a wr ∧ ∀ x, x < i → ∀ j, j < 16 → ¬ outOf n a x j) (fun v _ => 12 - (intOf v).toNat)
  case atStart => exact ⟨0, by omega, rfl, hR, fun x hx => by omega⟩
  case round =>
    clear hR
    obtain ⟨i, hi, rfl, hR, h1⟩ := hrel
    have H1 := Lib.hid h1
    clear h1
    by_cases hi12 : i < 12
    · have hi12' : (i : Int) < 12 := by omega
      have HR := Lib.hid hR
      clear hR
      go_wp2_with fail
      have hR := HR.out
      clear HR
      obtain ⟨wo1, rfl⟩ : ∃ wo : World, wo = wr := ⟨_, rfl⟩
      go_loopw [12] (fun v wr => ∃ j : Nat, j ≤ 16 ∧ v = .int .i64 j ∧ FsR w n a wr ∧ ∀ x, x < j → ¬ outOf n a i x) (fun v _ => 16 - (intOf v).toNat)
      case atStart => exact ⟨0, by omega, rfl, hR, fun x hx => by omega⟩
      case round =>
        clear hR
        obtain ⟨j, hj, rfl, hR, h2⟩ := hrel
        have H2 := Lib.hid h2
        clear h2
        by_cases hj16 : j < 16
        · have c0 := hR.rel.size
          obtain ⟨c1, c2, c3, c4, c5, c6, c7, c8, c9, c10, c11, c12⟩ := hR.rel.rows
          have HR := Lib.hid hR
          clear hR
          have j15 : j ≤ 15 := by omega
          cases e1 : (a i).testBit j
          · have HB := Lib.hid (show ¬ outOf n a i j from fun h => by rw [h.1] at e1; cases e1)
            go_wp2_with (go_at_call 19; refine (ahead_any _ a _ _ _ (by omega) (by omega)).mono ?_; rintro e w' ⟨rfl, hb'⟩; clear c0 c1 c2 c3 c4 c5 c6 c7 c8 c9 c10 c11 c12; have hR' := HR.out.next hb'; have c0 := hR'.rel.size; have HR := Lib.hid hR'; clear hR' hb')
            go_roundw
            case rel => exact ⟨j + 1, by omega, by go_num, HR.out, fun x hx => (Nat.lt_or_ge x j).elim (fun h => H2.out x h) (fun h => by
              obtain rfl : x = j := by omega
              exact HB.out)⟩
            case measure => simp [intOf]; omega
          · by_cases hout : n ≤ i ∨ n ≤ j
            · have HB := Lib.hid (show outOf n a i j from ⟨e1, hout⟩)
              by_cases k1 : n ≤ i
              · have k1' : (n : Int) ≤ (i : Int) := by omega
                clear hout
                go_wp2_with (go_at_call 19; refine (ahead_any _ a _ _ _ (by omega) (by omega)).mono ?_; rintro e w' ⟨rfl, hb'⟩; clear c0 c1 c2 c3 c4 c5 c6 c7 c8 c9 c10 c11 c12; have hR' := HR.out.next hb'; have c0 := hR'.rel.size; have HR := Lib.hid hR'; clear hR' hb')
                go_ret
                exact ⟨HR.out.below, Or.inl ⟨rfl, i, j, by omega, by omega, HB.out⟩⟩
              · have k1' : ¬ (n : Int) ≤ (i : Int) := by omega
                have k2' : (n : Int) ≤ (j : Int) := by omega
                clear hout
                go_wp2_with (go_at_call 19; refine (ahead_any _ a _ _ _ (by omega) (by omega)).mono ?_; rintro e w' ⟨rfl, hb'⟩; clear c0 c1 c2 c3 c4 c5 c6 c7 c8 c9 c10 c11 c12; have hR' := HR.out.next hb'; have c0 := hR'.rel.size; have HR := Lib.hid hR'; clear hR' hb')
                go_ret
                exact ⟨HR.out.below, Or.inl ⟨rfl, i, j, by omega, by omega, HB.out⟩⟩
            · have HB := Lib.hid (show ¬ outOf n a i j from fun h => hout h.2)
              have k1' : ¬ (n : Int) ≤ (i : Int) := by omega
              have k2' : ¬ (n : Int) ≤ (j : Int) := by omega
              clear hout
              go_wp2_with (go_at_call 19; refine (ahead_any _ a _ _ _ (by omega) (by omega)).mono ?_; rintro e w' ⟨rfl, hb'⟩; clear c0 c1 c2 c3 c4 c5 c6 c7 c8 c9 c10 c11 c12; have hR' := HR.out.next hb'; have c0 := hR'.rel.size; have HR := Lib.hid hR'; clear hR' hb')
              go_roundw
              case rel => exact ⟨j + 1, by omega, by go_num, HR.out, fun x hx => (Nat.lt_or_ge x j).elim (fun h => H2.out x h) (fun h => by
                obtain rfl : x = j := by omega
                exact HB.out)⟩
              case measure => simp [intOf]; omega
        · obtain rfl : j = 16 := by omega
          have HR := Lib.hid hR
          clear hR
          go_wp2_with fail
          go_roundw
          case rel => exact ⟨i + 1, by omega, by go_num, HR.out, fun x hx => (Nat.lt_or_ge x i).elim (fun h => H1.out x h) (fun h => by
            obtain rfl : x = i := by omega
            exact H2.out)⟩
          case measure => simp [intOf]; omega
    · obtain rfl : i = 12 := by omega
      have HR := Lib.hid hR
      clear hR
      go_wp2_with fail
      go_ret
      exact ⟨HR.out.below, Or.inr ⟨rfl, fun i j hi hj => H1.out i hi j hj⟩⟩
end Go.Proofs.YtkfijolimoehmaaDoor

/-
  What Check and the reference's RelRight tell: the same, in all ways.
-/
namespace Go.Proofs.YtkfijolimoehmaaDoor
open Go.RowKit
set_option maxRecDepth 20000

/-- The reference tells E of the relation, whatever the memory. -/
def Rights (n : Int) (a : Nat → Nat) (E : Int) : Prop := ∀ w : World, Calls Tryd.prog 8 #[relV n a] w fun e w' => e = .returned (.int .i64 E) ∧ Below w.heap.size w w'

theorem right_ways (n : Int) (a : Nat → Nat) (ha : ∀ i, a i < 65536) : (∃ E, (E != 0) = true ∧ Checks n a E ∧ Rights n a E) ∨ ∃ m : Nat, n = m ∧ Good m a ∧ Checks n a 0 ∧ Rights n a 0 := by
  rcases rel_ways n a ha with h | ⟨m, rfl, hm, ⟨i, hi, hb⟩ | hg⟩
  · exact .inl ⟨1, rfl, fun w => check_arg n a w h, fun w => rright_arg n a w h⟩
  · refine .inl ⟨3, rfl, fun w => check_form m a w hm (fun i _ => ha i) i hi hb, fun w => (rright_go m a w hm).mono ?_⟩
    rintro e w' ⟨hb', ⟨rfl, _⟩ | ⟨_, h⟩⟩
    · exact ⟨rfl, hb'⟩
    · obtain ⟨j, hj, ho⟩ := out_of_bad (ha i) hb
      exact absurd ho (h i j hi hj)
  · refine .inr ⟨m, rfl, hg, fun w => check_ok m a w hm (fun i _ => ha i) hg.rows, fun w => (rright_go m a w hm).mono ?_⟩
    rintro e w' ⟨hb', ⟨_, i, j, hi, _, ho⟩ | ⟨rfl, _⟩⟩
    · exact absurd ho (good_not_out hg hi)
    · exact ⟨rfl, hb'⟩
end Go.Proofs.YtkfijolimoehmaaDoor

/-
  Queues of integers: slices of the call's own that begin anywhere in their block; the rest behind the first; append of one. Tables of truths.
-/
namespace Go.Proofs.YtkfijolimoehmaaDoor
open Go.RowKit
set_option maxRecDepth 20000

/-- The cells of a table of N truths. -/
def bitCs (N : Nat) (S : Nat → Bool) : Array Value := (Array.range N).map fun i => .bool (S i)
def BTab (w : World) (g N : Nat) (S : Nat → Bool) : Prop := Lies w g 4 (bitCs N S)
theorem bitCs_get (N : Nat) (S : Nat → Bool) (i : Nat) (h : i < N) : (bitCs N S)[i]? = some (.bool (S i)) := by
  simp [bitCs, h]
theorem bitCs_set (N : Nat) (S : Nat → Bool) (i : Nat) (x : Bool) : (bitCs N S).setIfInBounds i (.bool x) = bitCs N (fun j => if j = i then x else S j) := by
  apply Array.ext_getElem?
  intro j
  rw [Array.getElem?_setIfInBounds]
  by_cases h : i = j
  · subst h
    by_cases hi : i < N <;> simp [bitCs, hi]
  · rw [if_neg h]
    by_cases hj : j < N <;> simp [bitCs, hj, show ¬ j = i from fun e => h e.symm]
theorem BTab.cell {w : World} {g N : Nat} {S : Nat → Bool} (h : BTab w g N S) {i : Nat} (hi : i < N) : w.cell? ⟨g, i, none⟩ = some (.bool (S i)) := by
  rw [Lies.cell h, bitCs_get N S i hi]
theorem BTab.set_ {w : World} {g N : Nat} {S : Nat → Bool} (h : BTab w g N S) (i : Nat) (x : Bool) : BTab (w.setCell ⟨g, i, none⟩ (.bool x)) g N (fun j => if j = i then x else S j) :=
  Lies.cast (Lies.set_ h i (.bool x)) (bitCs_set N S i x)

theorem info_bool : (Tryd.prog.info? 4).map (fun i => (i.zero, i.size, i.bytes)) = some (some (.bool false), 1, 1) := by kernel_rfl
theorem made_bools (N : Nat) (l : Int) (hl : l = N) (hN : N ≤ 65536) (w : World) :
    (Instr.makeSlice 65 (.int .i64 l) (.int .i64 l)).run Tryd.prog w = .ok (.slice (some ⟨w.heap.size, 0, none⟩) N N) (w.alloc (.cells (bitCs N fun _ => false) 4)) := by
  obtain ⟨i0, hi, hz0, hz1, hz2⟩ := info_parts info_bool
  subst hl
  rw [run_make w 65 4 i0 (.bool false) Tryd.underlying65 hi hz0 .i64 .i64 N N (by omega) (by omega) (by rw [hz2]; omega) (by omega), hz1]
  simp only [Int.toNat_natCast, Nat.mul_one]
  congr 3
  apply Array.ext
  · simp [bitCs, madeCells]
  · intro j h1 h2
    simp [bitCs, madeCells, Value.cells, Nat.mod_one]

/-- The value v is a slice of the call's own (in blocks from B on) that holds the numbers l; it may begin anywhere in its block. -/
def QOwn (w : World) (B : Nat) (v : Value) (l : List Nat) : Prop :=
  ∃ g o cap cs, v = .slice (some ⟨g, o, none⟩) l.length cap ∧ B ≤ g ∧ Lies w g 3 cs ∧ l.length ≤ cap ∧ cap ≤ maxLen ∧ o + cap ≤ cs.size ∧ ∀ x, x < l.length → cs[o + x]? = some (.int .i64 ((l.getD x 0 : Nat) : Int))
section
variable {w w' : World} {B : Nat} {v : Value} {l : List Nat}
theorem QOwn.then_ (h : QOwn w B v l) (hb : Below w.heap.size w w') : QOwn w' B v l := by
  obtain ⟨g, o, cap, cs, h1, h2, h3, h4⟩ := h
  exact ⟨g, o, cap, cs, h1, h2, Lies.below h3 hb h3.lt, h4⟩
theorem QOwn.alloc (h : QOwn w B v l) (o : Obj) : QOwn (w.alloc o) B v l := h.then_ ((Below.refl _ _).alloc (Nat.le_refl _) o)
theorem QOwn.far (h : QOwn w B v l) {p : Addr} (hp : p.block < B) (u : Value) : QOwn (w.setCell p u) B v l := by
  obtain ⟨g, o, cap, cs, h1, h2, h3, h4⟩ := h
  exact ⟨g, o, cap, cs, h1, h2, Lies.far h3 (by omega) u, h4⟩
theorem QOwn.first (w : World) (i : Nat) (hB : B ≤ w.heap.size) : QOwn (w.alloc (.cells #[.int .i64 (i : Int)] 3)) B (.slice (some ⟨w.heap.size, 0, none⟩) 1 1) [i] :=
  ⟨w.heap.size, 0, 1, #[.int .i64 (i : Int)], rfl, hB, Lies.new _ _ _, Nat.le_refl _, by unfold maxLen; omega, Nat.le_refl _, fun x hx => by
    obtain rfl : x = 0 := by simpa using hx
    rfl⟩
end

/-- Where the rest behind the first begins. -/
def tailAt (o cap : Nat) : Nat := if cap = 1 then o else o + 1
theorem slice_tail (g o L cap : Nat) (hL : 0 < L) (w : World) :
    (Instr.slice 29 (.slice (some ⟨g, o, none⟩) L cap) (some (.int .i64 1)) none none).run Tryd.prog w = .ok (.slice (some ⟨g, tailAt o cap, none⟩) (L - 1) (cap - 1)) w := by
  have hi : ∃ i0, Tryd.prog.info? 3 = some i0 ∧ i0.size = 1 := by
    obtain ⟨i0, hi, hz0, hz1, hz2⟩ := info_parts info_int
    exact ⟨i0, hi, hz1⟩
  obtain ⟨i0, hi, hz1⟩ := hi
  have hb : (1 : Int) ≤ (L : Int) := by omega
  simp [Instr.slice, run_underlying Tryd.underlying29, Instr.sliceBounds, run_sliceBound, sizeOf, typeInfo, hi, hz1, hb, tailAt, Addr.add_lit]
  split <;> rfl

theorem QOwn.tail {w : World} {B g o L cap k : Nat} {l : List Nat} (h : QOwn w B (.slice (some ⟨g, o, none⟩) L cap) (k :: l)) :
    w.cell? ⟨g, o, none⟩ = some (.int .i64 (k : Int)) ∧ QOwn w B (.slice (some ⟨g, tailAt o cap, none⟩) (L - 1) (cap - 1)) l := by
  obtain ⟨g', o', cap', cs, h1, h2, h3, h4, h5, h6, h7⟩ := h
  injection h1 with e1 e2 e3
  injection e1 with e1
  injection e1 with e1 e4
  subst e1 e2 e3 e4
  simp only [List.length_cons] at *
  refine ⟨?_, g, tailAt o cap, cap - 1, cs, by simp, h2, h3, by omega, by omega, ?_, fun x hx => ?_⟩
  · rw [Lies.cell h3]
    simpa using h7 0 (by omega)
  · unfold tailAt; split <;> omega
  · have hc : cap ≠ 1 := by omega
    have := h7 (x + 1) (by omega)
    rw [tailAt, if_neg hc, Nat.add_assoc, Nat.add_comm 1 x, this]
    simp

/-- append(s, y) to a queue, behind the block that holds y. -/
theorem app_q {W : World} {ops : Array Oper} {rest : List Oper} {o : Oper} {a : Act} {Q : Exit → Act → World → Prop} (hgd : o.guard = none) (s x : Operand)
    (ho : o.op = .call { callee := .builtin .append, args := #[s, x], argTypes := #[29, 29] })
    (B : Nat) (v : Value) (l : List Nat) (hs : a.eval s = v) (hown : QOwn W B v l) (y N : Nat) (hN : W.heap.size = N) (hx : a.eval x = .slice (some ⟨N, 0, none⟩) 1 1)
    (hlen : l.length ≤ 65536) (hB : B ≤ W.heap.size)
    (k : ∀ v' w', QOwn w' B v' (l ++ [y]) → Below B W w' → wpList Tryd.prog ops Q rest (a.put o.dst v') w') :
    wpList Tryd.prog ops Q (o :: rest) a (W.alloc (.cells #[.int .i64 (y : Int)] 3)) := by
  subst hN
  obtain ⟨i0, hi, hz0, hz1, hz2⟩ := info_parts info_int
  obtain ⟨g, of, cap, cs, rfl, hg, hl, hle, hm, hsz, hc⟩ := hown
  have hl' := Lies.alloc hl (.cells #[.int .i64 (y : Int)] 3)
  have hglt := hl.lt
  refine wpList_append_arg _ hgd s x 29 ho 3 i0 (.int .i64 0) 1 8 Tryd.underlying29 hi hz0 hz1 hz2 rfl (by decide) g of l.length cap (l.map fun (n : Nat) => Value.int .i64 (n : Int)) hs (by simp) ?olds
    ⟨W.heap.size, 0, none⟩ 1 1 [.int .i64 (y : Int)] hx rfl ?c1 ?c2 ?spare (by unfold maxLen; omega) (by omega) ?room ?grow
  case olds =>
    intro j u hu
    rw [Lies.cell hl']
    rw [List.getElem?_map] at hu
    cases hj : l[j]? with
    | none => rw [hj] at hu; cases hu
    | some n =>
      rw [hj] at hu
      injection hu with hu
      have hjl : j < l.length := (List.getElem?_eq_some_iff.1 hj).1
      rw [hc j hjl, ← hu]
      simp [List.getD, hj]
  case c1 =>
    intro j u hu
    match j, hu with
    | 0, hu => injection hu with hu; subst hu; exact (World.cell?_alloc_at _ _ _ _ rfl).trans rfl
    | j + 1, hu => simp at hu
  case c2 =>
    intro u hu
    simp at hu
    subst hu
    rfl
  case spare =>
    intro hr j hj
    obtain rfl : j = 0 := by simpa using hj
    refine ⟨?_, Lies.frozen hl' _⟩
    rw [Lies.cell hl']
    simp
    omega
  case room =>
    intro hr
    refine k _ _ ?_ ?_
    · refine ⟨g, of, cap, _, by simp, hg, Lies.set_ hl' _ _, by simpa using hr, hm, by simpa using hsz, fun x hx => ?_⟩
      rw [Array.getElem?_setIfInBounds]
      rcases Nat.lt_or_ge x l.length with h | h
      · rw [if_neg (by omega), hc x h]
        simp [List.getD, h, List.getElem?_append_left h]
      · obtain rfl : x = l.length := by simp at hx; omega
        rw [if_pos (by omega), if_pos (by omega)]
        simp
    · exact ((Below.refl B W).alloc hB _).setCell hg _
  case grow =>
    intro hr v' w' h1 h2
    refine k v' w' ?_ ?_
    · obtain ⟨h3, h4 | ⟨g', cap', cur, rfl, h5, h6, h7, h8, h9, h10⟩⟩ := h1
      · omega
      · refine ⟨g', 0, cap', cur, by simp, by simp at h5; omega, h6, by simpa using h7, h8, by omega, fun x hx => ?_⟩
        have hx' : x < l.length + 1 := by simpa using hx
        have e : (cur.toList.take ((l.length + 1) * 1))[x]? = cur[0 + x]? := by
          rw [List.getElem?_take]
          simp [hx']
        rw [← e, h10]
        rcases Nat.lt_or_ge x l.length with h | h
        · rw [List.getElem?_append_left (by simpa using h)]
          simp [List.getD, h, List.getElem?_append_left h]
        · obtain rfl : x = l.length := by omega
          simp
    · exact ((Below.refl B W).alloc hB _).grown h2 (by simp; omega) (fun k hk => by cases hk)
end Go.Proofs.YtkfijolimoehmaaDoor

/-
  Plain: the closure is the least that is closed; a search from one item that ends has found all of it.
-/
namespace Go.Proofs.YtkfijolimoehmaaDoor
open Go.RowKit
set_option maxRecDepth 20000

/-- Whatever holds for all steps, and may be joined, holds for the closure. -/
theorem warsh_min {n : Nat} {a : Nat → Nat} {R : Nat → Nat → Prop} (h0 : ∀ i, i < n → ∀ j, (a i).testBit j = true → R i j)
    (ht : ∀ i v j, R i v → R v j → R i j) : ∀ k, k ≤ n → ∀ i, i < n → ∀ j, (warsh n a k i).testBit j = true → R i j
  | 0, _ => h0
  | k + 1, hk => fun i hi j hj => by
    change (stepV n (warsh n a k) k i).testBit j = true at hj
    rw [stepV_bit n _ k _ _ hi] at hj
    simp only [Bool.or_eq_true, Bool.and_eq_true] at hj
    rcases hj with h1 | ⟨h1, h2⟩
    · exact warsh_min h0 ht k (by omega) i hi j h1
    · exact ht i k j (warsh_min h0 ht k (by omega) i hi k h1) (warsh_min h0 ht k (by omega) k (by omega) j h2)
theorem clo_min {n : Nat} {a : Nat → Nat} {R : Nat → Nat → Prop} (h0 : ∀ i, i < n → ∀ j, (a i).testBit j = true → R i j)
    (ht : ∀ i v j, R i v → R v j → R i j) {i : Nat} (hi : i < n) {j : Nat} (hj : (clo n a i).testBit j = true) : R i j := warsh_min h0 ht n (Nat.le_refl _) i hi j hj

/-- A search from i for j: what was seen, what is left to do; of item k the first m steps have been gone. -/
structure Srch (n : Nat) (a : Nat → Nat) (i j : Nat) (S : Nat → Bool) (l : List Nat) (k m : Nat) : Prop where
  seen : ∀ x, S x = true → x < n ∧ (clo n a i).testBit x = true ∧ x ≠ j
  todo : ∀ x, x ∈ l → x < n ∧ (x = i ∨ S x = true)
  cur : k < n ∧ (k = i ∨ S k = true)
  done : ∀ x, (x = i ∨ S x = true) → x ∈ l ∨ (x = k ∧ ∀ y, y < m → (a k).testBit y = true → S y = true) ∨ ∀ y, (a x).testBit y = true → S y = true

section
variable {n i j k m : Nat} {a : Nat → Nat} {S : Nat → Bool} {l : List Nat}
theorem Srch.first (hi : i < n) : Srch n a i j (fun _ => false) [] i 0 :=
  ⟨fun _ h => absurd h (by decide), fun _ h => absurd h (by simp), ⟨hi, .inl rfl⟩, fun x h => by
    rcases h with rfl | h
    · exact .inr (.inl ⟨rfl, fun y hy => by omega⟩)
    · cases h⟩
/-- All steps of k have been gone: to the next one. -/
theorem Srch.pop {k' : Nat} (hG : Good n a) (h : Srch n a i j S (k' :: l) k n) : Srch n a i j S l k' 0 := by
  refine ⟨h.seen, fun x hx => h.todo x (List.mem_cons_of_mem _ hx), h.todo k' (by simp), fun x hx => ?_⟩
  rcases h.done x hx with h1 | ⟨rfl, h1⟩ | h1
  · rcases List.mem_cons.1 h1 with rfl | h1
    · exact .inr (.inl ⟨rfl, fun y hy => by omega⟩)
    · exact .inl h1
  · refine .inr (.inr fun y hy => h1 y ?_ hy)
    exact hG.inn (Nat.lt_of_lt_of_le h.cur.1 hG.le) hy
  · exact .inr (.inr h1)
/-- Nothing is left: j is not come to. -/
theorem Srch.no (hG : Good n a) (hi : i < n) (h : Srch n a i j S [] k n) : (clo n a i).testBit j = false := by
  have hc : ∀ x, (x = i ∨ S x = true) → ∀ y, (a x).testBit y = true → S y = true := fun x hx => by
    rcases h.done x hx with h1 | ⟨rfl, h1⟩ | h1
    · simp at h1
    · exact fun y hy => h1 y (hG.inn (Nat.lt_of_lt_of_le h.cur.1 hG.le) hy) hy
    · exact h1
  cases hj : (clo n a i).testBit j with
  | false => rfl
  | true =>
    have := clo_min (R := fun u v => (u = i ∨ S u = true) → S v = true) (fun u _ v huv hu => hc u hu v huv) (fun u v w h1 h2 hu => h2 (.inr (h1 hu))) hi hj
    exact absurd rfl (h.seen j (this (.inl rfl))).2.2
theorem Srch.step_in (h : Srch n a i j S l k m) (hi : i < n) {y : Nat} (hy : (a k).testBit y = true) : (clo n a i).testBit y = true := by
  rcases h.cur.2 with e | e
  · rw [e] at hy; exact clo_has n a i y hy
  · exact clo_trans n a i hi k h.cur.1 (h.seen k e).2.1 y (clo_has n a k y hy)
/-- The m-th step leads nowhere, or to what was seen. -/
theorem Srch.skip (h : Srch n a i j S l k m) (hm : (a k).testBit m = false ∨ S m = true) : Srch n a i j S l k (m + 1) := by
  refine ⟨h.seen, h.todo, h.cur, fun x hx => ?_⟩
  rcases h.done x hx with h1 | ⟨h0, h1⟩ | h1
  · exact .inl h1
  · refine .inr (.inl ⟨h0, fun y hy hk => ?_⟩)
    rcases Nat.lt_or_ge y m with hl | hl
    · exact h1 y hl hk
    · obtain rfl : y = m := by omega
      rcases hm with hm | hm
      · rw [hm] at hk; cases hk
      · exact hm
  · exact .inr (.inr h1)
/-- The m-th step leads to something new. -/
theorem Srch.push (h : Srch n a i j S l k m) (hi : i < n) (hmn : m < n) (hm : (a k).testBit m = true) (hj : m ≠ j) : Srch n a i j (fun x => if x = m then true else S x) (l ++ [m]) k (m + 1) := by
  have hs : ∀ y, S y = true → (if y = m then true else S y) = true := fun y hy => by split <;> simp [hy]
  refine ⟨fun x hx => ?_, fun x hx => ?_, ⟨h.cur.1, h.cur.2.imp id (hs k)⟩, fun x hx => ?_⟩
  · by_cases e : x = m
    · subst e; exact ⟨hmn, h.step_in hi hm, hj⟩
    · rw [if_neg e] at hx; exact h.seen x hx
  · rcases List.mem_append.1 hx with hx | hx
    · exact ⟨(h.todo x hx).1, (h.todo x hx).2.imp id (hs x)⟩
    · have e : x = m := by simpa using hx
      subst e
      exact ⟨hmn, .inr (by simp)⟩
  · by_cases e : x = m
    · subst e; exact .inl (by simp)
    · have hx' : x = i ∨ S x = true := by
        rcases hx with hx | hx
        · exact .inl hx
        · rw [if_neg e] at hx; exact .inr hx
      rcases h.done x hx' with h1 | ⟨h0, h1⟩ | h1
      · exact .inl (List.mem_append_left _ h1)
      · refine .inr (.inl ⟨h0, fun y hy hk => ?_⟩)
        by_cases ey : y = m
        · rw [if_pos ey]
        · exact hs y (h1 y (by omega) hk)
      · exact .inr (.inr fun y hy => hs y (h1 y hy))
end

/-- How many of the first n were not seen. -/
def unseen (S : Nat → Bool) : Nat → Nat
  | 0 => 0
  | n + 1 => unseen S n + if S n = true then 0 else 1
theorem unseen_le (S : Nat → Bool) : ∀ n, unseen S n ≤ n
  | 0 => Nat.le_refl _
  | n + 1 => by
    have := unseen_le S n
    unfold unseen
    split <;> omega
theorem unseen_far (S : Nat → Bool) (m : Nat) : ∀ n, n ≤ m → unseen (fun x => if x = m then true else S x) n = unseen S n
  | 0, _ => rfl
  | n + 1, h => by
    unfold unseen
    rw [unseen_far S m n (by omega)]
    simp [show n ≠ m by omega]
theorem unseen_push (S : Nat → Bool) (m : Nat) (hS : S m = false) : ∀ n, m < n → unseen (fun x => if x = m then true else S x) n + 1 = unseen S n
  | 0, h => by omega
  | n + 1, h => by
    unfold unseen
    by_cases e : m = n
    · subst e
      rw [unseen_far S m m (Nat.le_refl _)]
      simp [hS]
    · have := unseen_push S m hS n (by omega)
      simp only [if_neg (Ne.symm e)]
      omega
end Go.Proofs.YtkfijolimoehmaaDoor
