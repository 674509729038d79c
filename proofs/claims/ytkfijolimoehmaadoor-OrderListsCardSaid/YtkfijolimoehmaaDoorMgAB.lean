/-
  Joined by a program out of: Ready, Tab, IRd, Rd, Seq, Close, Clo.
-/
import Derived.Test.YtkfijolimoehmaaDoorMgAA
import Derived.Test.YtkfijolimoehmaaDoorProg
import Derived.WalkKit
import Derived.Deep.QuietTactic
import Derived.BigQuiet
import Derived.Lib.Hide
import Derived.OwnWalk

/-
  Contract of order.ready.
-/
namespace Go.Proofs.YtkfijolimoehmaaDoor
open Go.RowKit
set_option maxRecDepth 20000

set_option maxHeartbeats 1000000 in
theorem ready_any (n : Nat) (b : Nat → Nat) (d : Nat) (w : World) (hn : n ≤ 12) (hb : ∀ i, i < 12 → b i < 65536) (hd : d < 65536) :
    Calls Tryd.prog 26 #[relV n b, .int .u16 d] w fun e w' => e = .returned (.int .u16 (rdyUp b d n)) ∧ Below w.heap.size w w' := by
  have hB : RelB (w.alloc (.cells (relCs n b) 25)) w.heap.size n b := Lies.new _ _ _
  have hb0 : Below w.heap.size w (w.alloc (.cells (relCs n b) 25)) := (Below.refl _ _).alloc (Nat.le_refl _) _
  go_enter Tryd.func26, Tryd.ntmps26
  go_wp2_with fail
  change Code.wp _ _ _ _ (w.alloc (.cells (relCs n b) 25))
  generalize w.alloc (.cells (relCs n b) 25) = W at hB hb0 ⊢
  go_loop [5, 9] (fun s i => ∃ k : Nat, k ≤ n ∧ i = .int .i64 k ∧ s = .int .u16 (rdyUp b d k)) (fun _ i => n - (intOf i).toNat)
  case atStart => exact ⟨0, by omega, rfl, rfl⟩
  case round =>
    obtain ⟨k, hk, rfl, rfl⟩ := hrel
    by_cases hkn : k < n
    · have hr := hB.row' (show k < 12 by omega)
      have hv := u16_andNot_nat (b k) d (hb k (by omega)) hd
      have ho := or_pow (rdyUp b d k) k (rdyUp_lt b d 16 k (by omega)) (by omega)
      have hp := pow_u16 k (by omega)
      have he : rdyUp b d (k + 1) = if d.testBit k = false ∧ b k &&& (65535 - d) = 0 then rdyUp b d k ||| 2 ^ k else rdyUp b d k := rfl
      have hz := nat_eq0 (b k &&& (65535 - d))
      cases hdk : d.testBit k
      · by_cases hbk : b k &&& (65535 - d) = 0
        · rw [if_pos ⟨hdk, hbk⟩] at he
          rw [decide_eq_true hbk] at hz
          have HE := Lib.hid he
          have HD := Lib.hid hdk
          clear he hbk hdk
          go_wp2_with (go_at_call 22; refine (has_no d k _ hd (by omega) HD.out).mono ?_; rintro e w' ⟨rfl, rfl⟩)
          go_round
          case rel => exact ⟨k + 1, by omega, by go_num, by rw [HE.out]⟩
          case measure => simp [intOf]; omega
        · rw [if_neg (fun h => hbk h.2)] at he
          rw [decide_eq_false hbk] at hz
          have HE := Lib.hid he
          have HD := Lib.hid hdk
          clear he hbk hdk
          go_wp2_with (go_at_call 22; refine (has_no d k _ hd (by omega) HD.out).mono ?_; rintro e w' ⟨rfl, rfl⟩)
          go_round
          case rel => exact ⟨k + 1, by omega, by go_num, by rw [HE.out]⟩
          case measure => simp [intOf]; omega
      · rw [if_neg (fun h => by rw [hdk] at h; exact absurd h.1 (by decide))] at he
        have HE := Lib.hid he
        have HD := Lib.hid hdk
        clear he hdk hz
        go_wp2_with (go_at_call 22; refine (has_yes d k _ hd (by omega) HD.out).mono ?_; rintro e w' ⟨rfl, rfl⟩)
        go_round
        case rel => exact ⟨k + 1, by omega, by go_num, by rw [HE.out]⟩
        case measure => simp [intOf]; omega
    · have hkn' : k = n := by omega
      subst hkn'
      go_wp2_with fail
      go_ret
      exact ⟨rfl, hb0⟩
end Go.Proofs.YtkfijolimoehmaaDoor

/-
  A table of integers in a block of the call's own; how it is made; how a number of one bit is joined to a set.
-/
namespace Go.Proofs.YtkfijolimoehmaaDoor
open Go.RowKit
set_option maxRecDepth 20000

/-- The cells of a table of N integers. -/
def tabCs (N : Nat) (f : Nat → Int) : Array Value := (Array.range N).map fun i => .int .i64 (f i)
def ITab (w : World) (g N : Nat) (f : Nat → Int) : Prop := Lies w g 3 (tabCs N f)

theorem tabCs_get (N : Nat) (f : Nat → Int) (i : Nat) (h : i < N) : (tabCs N f)[i]? = some (.int .i64 (f i)) := by
  simp [tabCs, h]
theorem tabCs_set (N : Nat) (f : Nat → Int) (i : Nat) (x : Int) : (tabCs N f).setIfInBounds i (.int .i64 x) = tabCs N (fun j => if j = i then x else f j) := by
  apply Array.ext_getElem?
  intro j
  rw [Array.getElem?_setIfInBounds]
  by_cases h : i = j
  · subst h
    by_cases hi : i < N <;> simp [tabCs, hi]
  · rw [if_neg h]
    by_cases hj : j < N <;> simp [tabCs, hj, show ¬ j = i from fun e => h e.symm]

section
variable {w : World} {g N : Nat} {f : Nat → Int}
theorem ITab.cell (h : ITab w g N f) {i : Nat} (hi : i < N) : w.cell? ⟨g, i, none⟩ = some (.int .i64 (f i)) := by
  rw [Lies.cell h, tabCs_get N f i hi]
theorem ITab.free (h : ITab w g N f) (i : Nat) : w.frozen? ⟨g, i, none⟩ = false := Lies.frozen h i
theorem ITab.set_ (h : ITab w g N f) (i : Nat) (x : Int) : ITab (w.setCell ⟨g, i, none⟩ (.int .i64 x)) g N (fun j => if j = i then x else f j) :=
  Lies.cast (Lies.set_ h i (.int .i64 x)) (tabCs_set N f i x)
theorem ITab.congr {f' : Nat → Int} (h : ITab w g N f) (e : ∀ i, i < N → f i = f' i) : ITab w g N f' := by
  refine Lies.cast h ?_
  apply Array.ext
  · simp [tabCs]
  · intro j h1 h2
    have : j < N := by simpa [tabCs] using h1
    simp [tabCs, e j this]
end

theorem info_int : (Tryd.prog.info? 3).map (fun i => (i.zero, i.size, i.bytes)) = some (some (.int .i64 0), 1, 8) := by kernel_rfl

theorem made_ints (N : Nat) (l : Int) (hl : l = N) (hN : N ≤ 65536) (w : World) :
    (Instr.makeSlice 29 (.int .i64 l) (.int .i64 l)).run Tryd.prog w = .ok (.slice (some ⟨w.heap.size, 0, none⟩) N N) (w.alloc (.cells (tabCs N fun _ => 0) 3)) := by
  obtain ⟨i0, hi, hz0, hz1, hz2⟩ := info_parts info_int
  subst hl
  rw [run_make w 29 3 i0 (.int .i64 0) Tryd.underlying29 hi hz0 .i64 .i64 N N (by omega) (by omega) (by rw [hz2]; omega) (by omega), hz1]
  simp only [Int.toNat_natCast, Nat.mul_one]
  congr 3
  apply Array.ext
  · simp [tabCs, madeCells]
  · intro j h1 h2
    simp [tabCs, madeCells, Value.cells, Nat.mod_one]
end Go.Proofs.YtkfijolimoehmaaDoor

/-
  Slices that read as a list of integers.
-/
namespace Go.Proofs.YtkfijolimoehmaaDoor
open Go.RowKit
set_option maxRecDepth 20000

/-- The value v is a slice that reads as the integers xs, in a block below B. -/
def IRd (w : World) (B : Nat) (v : Value) (xs : List Int) : Prop :=
  ∃ A cap, v = .slice A xs.length cap ∧ (0 < xs.length → ∃ g, A = some ⟨g, 0, none⟩ ∧ g < B ∧ ∀ j, j < xs.length → w.cell? ⟨g, j, none⟩ = some (.int .i64 (xs.getD j 0)))
theorem IRd.below {w w' : World} {B : Nat} {v : Value} {xs : List Int} (h : IRd w B v xs) (hb : Below B w w') : IRd w' B v xs := by
  obtain ⟨A, cap, hv, h2⟩ := h
  refine ⟨A, cap, hv, fun h0 => ?_⟩
  obtain ⟨g, hA, hg, hc⟩ := h2 h0
  exact ⟨g, hA, hg, fun j hj => (hb.cell (p := ⟨g, j, none⟩) hg).trans (hc j hj)⟩
theorem IRd.mono {w : World} {B B' : Nat} {v : Value} {xs : List Int} (h : IRd w B v xs) (hB : B ≤ B') : IRd w B' v xs := by
  obtain ⟨A, cap, hv, h2⟩ := h
  refine ⟨A, cap, hv, fun h0 => ?_⟩
  obtain ⟨g, hA, hg, hc⟩ := h2 h0
  exact ⟨g, hA, by omega, hc⟩

theorem rdBelowN {B : Nat} {a w : World} (h : Below B a w) (n : Nat) : Below B a (w.drewN n) := ⟨h.os, h.tape, h.output, h.size, h.block⟩

end Go.Proofs.YtkfijolimoehmaaDoor

/-
  The contract of slices.Equal.
-/
namespace Go.Proofs.YtkfijolimoehmaaDoor
open Go.RowKit
set_option maxRecDepth 20000

theorem equal_len (A1 A2 : Option Addr) (n m c1 c2 : Nat) (w : World) (h : n ≠ m) :
    Calls Tryd.prog 11 #[.slice A1 n c1, .slice A2 m c2] w fun e w' => e = .returned (.bool false) ∧ w = w' := by
  have hz : ((n : Int) != (m : Int)) = true := by rw [bne_iff_ne]; omega
  go_enter Tryd.func11, Tryd.ntmps11
  go_wp2
  go_ret
  exact ⟨rfl, rfl⟩
theorem equal_nil (A1 A2 : Option Addr) (c1 c2 : Nat) (w : World) :
    Calls Tryd.prog 11 #[.slice A1 0 c1, .slice A2 0 c2] w fun e w' => e = .returned (.bool true) ∧ w = w' := by
  go_enter Tryd.func11, Tryd.ntmps11
  go_wp2
  go_loop [13] (fun i => i = .int .i64 0) (fun _ => 0)
  case atStart => rfl
  case round =>
    obtain rfl := hrel
    go_wp2
    go_ret
    exact ⟨rfl, rfl⟩

/-- The first k of both are alike. -/
def alike (xs ys : List Int) (k : Nat) : Prop := ∀ j, j < k → xs.getD j 0 = ys.getD j 0
theorem alike_all {xs ys : List Int} (hl : xs.length = ys.length) (h : alike xs ys xs.length) : xs = ys := by
  apply List.ext_getElem hl
  intro j h1 h2
  have := h j h1
  simpa [List.getD, h1, h2] using this
theorem alike_not {xs ys : List Int} {k : Nat} (h : xs.getD k 0 ≠ ys.getD k 0) : xs ≠ ys := fun e => h (by rw [e])

set_option maxHeartbeats 1000000 in
theorem equal_pos (g1 g2 n c1 c2 : Nat) (xs ys : List Int) (w : World) (hx : xs.length = n) (hy : ys.length = n) (hn : n ≤ 1000000) (h0 : 0 < n)
    (hc1 : ∀ j, j < n → w.cell? ⟨g1, j, none⟩ = some (.int .i64 (xs.getD j 0))) (hc2 : ∀ j, j < n → w.cell? ⟨g2, j, none⟩ = some (.int .i64 (ys.getD j 0))) :
    Calls Tryd.prog 11 #[.slice (some ⟨g1, 0, none⟩) n c1, .slice (some ⟨g2, 0, none⟩) n c2] w fun e w' => e = .returned (.bool (decide (xs = ys))) ∧ Below w.heap.size w w' := by
  have HC1 := Lib.hid hc1
  have HC2 := Lib.hid hc2
  have HX := Lib.hid hx
  have HY := Lib.hid hy
  clear hc1 hc2 hx hy
  go_enter Tryd.func11, Tryd.ntmps11
  go_wp2_with fail
  go_loopw [13] (fun i wr => ∃ k : Nat, k ≤ n ∧ i = .int .i64 k ∧ alike xs ys k ∧ ∃ nq, wr = w.drewN nq) (fun i _ => n - (intOf i).toNat)
  case atStart => exact ⟨0, by omega, rfl, fun j hj => by omega, 0, rfl⟩
  case round =>
    obtain ⟨k, hk, rfl, ha, nq, rfl⟩ := hrel
    have HA := Lib.hid ha
    clear ha
    by_cases hkn : k < n
    · have d1 : w.cell? ⟨g1, k, none⟩ = some (.int .i64 (xs.getD k 0)) := HC1.out k hkn
      have d2 : w.cell? ⟨g2, k, none⟩ = some (.int .i64 (ys.getD k 0)) := HC2.out k hkn
      have i1 : (0 : Int) ≤ (k : Int) := by omega
      have i2 : (k : Int) < (n : Int) := by omega
      generalize hxk : xs.getD k 0 = x at d1
      generalize hyk : ys.getD k 0 = y at d2
      have HXK := Lib.hid hxk
      have HYK := Lib.hid hyk
      clear hxk hyk
      by_cases hxy : x = y
      · have hz : (x != y) = false := by rw [bne_eq_false_iff_eq]; exact hxy
        have HXY := Lib.hid hxy
        clear hxy
        go_wp2_with fail
        go_quiet (fail)
        go_wp2_with fail
        go_roundw
        case rel => exact ⟨k + 1, by omega, by go_num, fun j hj => by
          rcases Nat.lt_or_ge j k with h | h
          · exact HA.out j h
          · obtain rfl : j = k := by omega
            rw [HXK.out, HYK.out, HXY.out], _, rfl⟩
        case measure => simp [intOf]; omega
      · have hz : (x != y) = true := by rw [bne_iff_ne]; exact hxy
        have HXY := Lib.hid hxy
        clear hxy
        go_wp2_with fail
        go_quiet (fail)
        go_wp2_with fail
        go_ret
        exact ⟨congrArg (fun b => Ending.returned (.bool b)) (decide_eq_false (alike_not (k := k) (by rw [HXK.out, HYK.out]; exact HXY.out))).symm, rdBelowN (rdBelowN (Below.refl _ _) _) _⟩
    · have hkn' : k = n := by omega
      subst hkn'
      go_wp2_with fail
      go_ret
      exact ⟨congrArg (fun b => Ending.returned (.bool b)) (decide_eq_true (alike_all (by rw [HX.out, HY.out]) (by rw [HX.out]; exact HA.out))).symm, rdBelowN (Below.refl _ _) _⟩

/-- slices.Equal of two slices that read as xs and ys. -/
theorem equal_any {B1 B2 : Nat} {v1 v2 : Value} {xs ys : List Int} {w : World} (h1 : IRd w B1 v1 xs) (h2 : IRd w B2 v2 ys) (hn : xs.length ≤ 1000000) :
    Calls Tryd.prog 11 #[v1, v2] w fun e w' => e = .returned (.bool (decide (xs = ys))) ∧ Below w.heap.size w w' := by
  obtain ⟨A1, c1, rfl, k1⟩ := h1
  obtain ⟨A2, c2, rfl, k2⟩ := h2
  by_cases hl : xs.length = ys.length
  · by_cases h0 : xs.length = 0
    · have e1 : xs = [] := List.eq_nil_of_length_eq_zero h0
      have e2 : ys = [] := List.eq_nil_of_length_eq_zero (by omega)
      subst e1
      subst e2
      exact (equal_nil A1 A2 c1 c2 w).mono fun e w' ⟨he, hw⟩ => ⟨he, hw ▸ Below.refl _ _⟩
    · have p1 : 0 < xs.length := Nat.pos_of_ne_zero h0
      have p2 : 0 < ys.length := hl ▸ p1
      obtain ⟨g1, rfl, _, hc1⟩ := k1 p1
      obtain ⟨g2, rfl, _, hc2⟩ := k2 p2
      rw [← hl]
      exact equal_pos g1 g2 xs.length c1 c2 xs ys w rfl hl.symm hn p1 hc1 (fun j hj => hc2 j (hl ▸ hj))
  · have e : decide (xs = ys) = false := decide_eq_false fun e => hl (by rw [e])
    rw [e]
    exact (equal_len A1 A2 xs.length ys.length c1 c2 w hl).mono fun e w' ⟨he, hw⟩ => ⟨he, hw ▸ Below.refl _ _⟩
theorem equal_same {B1 B2 : Nat} {v1 v2 : Value} {xs : List Int} {w : World} (h1 : IRd w B1 v1 xs) (h2 : IRd w B2 v2 xs) (hn : xs.length ≤ 1000000) :
    Calls Tryd.prog 11 #[v1, v2] w fun e w' => e = .returned (.bool true) ∧ Below w.heap.size w w' := by
  have h := equal_any h1 h2 hn
  rw [decide_eq_true rfl] at h
  exact h
end Go.Proofs.YtkfijolimoehmaaDoor

/-
  Slices of integers of the call's own: make with a capacity, append of one; slices that read as a list.
-/
namespace Go.Proofs.YtkfijolimoehmaaDoor
open Go.RowKit
set_option maxRecDepth 20000

/-- The value v is a slice of the call's own (in blocks from B on) that holds the integers xs. -/
def IOwn (w : World) (B : Nat) (v : Value) (xs : List Int) : Prop := w.ownsRow B 3 1 v xs.length (xs.map (Value.int .i64))

theorem IOwn.drew {w : World} {B : Nat} {v : Value} {xs : List Int} (h : IOwn w B v xs) : IOwn w.drew B v xs := h
theorem IOwn.alloc {w : World} {B : Nat} {v : Value} {xs : List Int} (h : IOwn w B v xs) (o : Obj) : IOwn (w.alloc o) B v xs := World.ownsRow.alloc h o
theorem IOwn.then_ {w w' : World} {B : Nat} {v : Value} {xs : List Int} (h : IOwn w B v xs) (hb : Below w.heap.size w w') : IOwn w' B v xs :=
  World.ownsRow.kept h (row := none) ⟨hb.os, hb.tape, hb.output, hb.size, fun k hk _ => hb.block k hk⟩ (by
    cases hv : v.ownBlock with
    | none => exact .inl rfl
    | some k => exact .inr (by simp))
theorem IOwn.mono {w : World} {B B' : Nat} {v : Value} {xs : List Int} (h : IOwn w B v xs) (hB : B' ≤ B) : IOwn w B' v xs := by
  obtain ⟨h1, h2⟩ := h
  refine ⟨h1, ?_⟩
  rcases h2 with h2 | ⟨g, cap, cur, h3, h4, h5⟩
  · exact .inl h2
  · exact .inr ⟨g, cap, cur, h3, Nat.le_trans hB h4, h5⟩

theorem made_cap (N : Nat) (hN : N ≤ 65536) (w : World) :
    (Instr.makeSlice 29 (.int .i64 0) (.int .i64 N)).run Tryd.prog w = .ok (.slice (some ⟨w.heap.size, 0, none⟩) 0 N) (w.alloc (.cells (tabCs N fun _ => 0) 3)) := by
  obtain ⟨i0, hi, hz0, hz1, hz2⟩ := info_parts info_int
  rw [run_make w 29 3 i0 (.int .i64 0) Tryd.underlying29 hi hz0 .i64 .i64 0 N (by omega) (by omega) (by rw [hz2]; omega) (by omega), hz1]
  simp only [Int.toNat_natCast, Nat.mul_one]
  congr 3
  apply Array.ext
  · simp [tabCs, madeCells]
  · intro j h1 h2
    simp [tabCs, madeCells, Value.cells, Nat.mod_one]

theorem IOwn.made (w : World) (N : Nat) (hN : N ≤ 65536) : IOwn (w.alloc (.cells (tabCs N fun _ => 0) 3)) w.heap.size (.slice (some ⟨w.heap.size, 0, none⟩) 0 N) [] :=
  World.ownsRow_made w _ N (Nat.le_refl _) (by unfold maxLen; omega) (by simp [tabCs])

/-- append(s, y), behind the block that holds y. -/
theorem app_one {W : World} {ops : Array Oper} {rest : List Oper} {o : Oper} {a : Act} {Q : Exit → Act → World → Prop} (hgd : o.guard = none) (s x : Operand)
    (ho : o.op = .call { callee := .builtin .append, args := #[s, x], argTypes := #[29, 29] })
    (B : Nat) (v : Value) (xs : List Int) (hs : a.eval s = v) (hown : IOwn W B v xs) (y : Int) (hx : a.eval x = .slice (some ⟨W.heap.size, 0, none⟩) 1 1)
    (hlen : xs.length ≤ 65536) (hB : B ≤ W.heap.size)
    (k : ∀ v' w', IOwn w' B v' (xs ++ [y]) → Below B W w' → wpList Tryd.prog ops Q rest (a.put o.dst v') w') :
    wpList Tryd.prog ops Q (o :: rest) a (W.alloc (.cells #[.int .i64 y] 3)) := by
  obtain ⟨i0, hi, hz0, hz1, hz2⟩ := info_parts info_int
  refine wpList_append_own _ hgd s x 29 ho B 3 i0 (.int .i64 0) 1 8 Tryd.underlying29 hi hz0 hz1 hz2 rfl (by decide) v xs.length (xs.map (Value.int .i64)) hs (World.ownsRow.alloc hown _)
    ⟨W.heap.size, 0, none⟩ 1 1 [.int .i64 y] hx rfl ?_ ?_ (by unfold maxLen; omega) (by omega) (by simp; omega) ?_
  · intro j u hu
    match j, hu with
    | 0, hu => injection hu with hu; subst hu; exact (World.cell?_alloc_at _ _ _ _ rfl).trans rfl
    | j + 1, hu => simp at hu
  · intro u hu
    simp at hu
    subst hu
    rfl
  · intro v' w' h1 h2 _
    refine k v' w' ?_ ?_
    · unfold IOwn
      simpa using h1
    · have hl := World.ownsRow.lt hown
      exact ((Below.refl B W).alloc hB _).grown h2 (by simp; omega) (fun k hk => (hl k hk).1)

theorem IOwn.rd {w : World} {B : Nat} {v : Value} {xs : List Int} (h : IOwn w B v xs) : IRd w w.heap.size v xs := by
  rcases h.2 with ⟨rfl, h0⟩ | ⟨g, cap, cur, rfl, h1, h2, h3⟩
  · exact ⟨none, 0, by rw [h0], fun h => by omega⟩
  · refine ⟨_, cap, rfl, fun _ => ⟨g, rfl, ?_, fun j hj => ?_⟩⟩
    · rcases Nat.lt_or_ge g w.heap.size with h' | h'
      · exact h'
      · rw [Array.getElem?_eq_none h'] at h2; cases h2
    · rw [World.ownsRow.cellAt h j (by omega)]
      simp [hj]
end Go.Proofs.YtkfijolimoehmaaDoor

/-
  Contract of order.Close.
-/
namespace Go.Proofs.YtkfijolimoehmaaDoor
open Go.RowKit
set_option maxRecDepth 20000

/-- What stays true while the closure is made: old memory, the argument's block, the result's block, the closure's block. -/
structure CRel (w : World) (G n : Nat) (a c : Nat → Nat) (wr : World) : Prop where
  below : Below w.heap.size w wr
  arg : RelB wr w.heap.size n a
  res : RelB wr (w.heap.size + 1) 0 (fun _ => 0)
  clo : RelB wr G n c
  far : w.heap.size + 2 ≤ G

theorem CRel.set_ {w wr : World} {G n : Nat} {a c : Nat → Nat} (h : CRel w G n a c wr) {k : Nat} (hk : k < 12) (x : Nat) :
    CRel w G n a (fun i => if i = k then x else c i) (wr.setCell ⟨G, 1 + k, none⟩ (.int .u16 x)) :=
  ⟨h.below.setCell (by have := h.far; show w.heap.size ≤ G; omega) _, Lies.far h.arg (by have := h.far; show w.heap.size ≠ G; omega) _, Lies.far h.res (by have := h.far; show w.heap.size + 1 ≠ G; omega) _, h.clo.set' hk x, h.far⟩
theorem CRel.drew {w wr : World} {G n : Nat} {a c : Nat → Nat} (h : CRel w G n a c wr) : CRel w G n a c wr.drew :=
  ⟨h.below.drew, h.arg, h.res, h.clo, h.far⟩
theorem CRel.congr {w wr : World} {G n : Nat} {a c d : Nat → Nat} (h : CRel w G n a c wr) (e : ∀ i, i < 12 → c i = d i) : CRel w G n a d wr :=
  ⟨h.below, h.arg, h.res, h.clo.congr e, h.far⟩

set_option maxHeartbeats 1000000 in
theorem close_ok (n : Nat) (a : Nat → Nat) (w : World) (hn : n ≤ 12) (ha : ∀ i, i < 12 → a i < 65536) (hg : ∀ i, i < 12 → rowBad n i (a i) = false) :
    Calls Tryd.prog 5 #[relV n a] w fun e w' => e = .returned (.tuple #[relV n (warsh n a n), .bool (cyc (warsh n a n) n), .int .i64 0]) ∧ Below w.heap.size w w' := by
  go_enter Tryd.func5, Tryd.ntmps5
  go_wp2_with fail
  refine (check_ok n a _ hn ha hg).mono ?_
  rintro e w1 ⟨rfl, hb1⟩
  have hB1 : RelB w1 w.heap.size n a := Lies.below ((Lies.new w _ _).alloc _) hb1 (by rw [World.size_alloc, World.size_alloc]; omega)
  have hB0 : RelB w1 (w.heap.size + 1) 0 (fun _ => 0) := Lies.below (Lies.cast (by have h := Lies.new (w.alloc (.cells (relCs n a) 25)) 25 (relCs 0 fun _ => 0); rw [World.size_alloc] at h; exact h) rfl) hb1 (by rw [World.size_alloc, World.size_alloc]; omega)
  have hB2 : w.heap.size + 2 ≤ w1.heap.size := by have := hb1.size; simp at this; omega
  have hlt : w.heap.size < w1.heap.size := by omega
  have hbw : Below w.heap.size w w1 := (((Below.refl _ _).alloc (Nat.le_refl _) _).alloc (by simp) _).trans (hb1.mono (by simp; omega))
  have HC : CRel w w1.heap.size n a a (w1.alloc (.cells (relCs n a) 25)) := ⟨hbw.alloc (by omega) _, Lies.alloc hB1 _, Lies.alloc hB0 _, Lies.new _ _ _, hB2⟩
  have hs := hB1.size
  obtain ⟨c0, c1, c2, c3, c4, c5, c6, c7, c8, c9, c10, c11⟩ := hB1.rows
  clear hb1 hB1 hbw hB0
  go_wp2_with fail
  clear hs c0 c1 c2 c3 c4 c5 c6 c7 c8 c9 c10 c11
  generalize hG : w1.heap.size = G at *
  generalize hW : w1.alloc (Obj.cells #[Value.int IntKind.i64 ↑n, Value.int IntKind.u16 ↑(a 0), Value.int IntKind.u16 ↑(a 1), Value.int IntKind.u16 ↑(a 2), Value.int IntKind.u16 ↑(a 3), Value.int IntKind.u16 ↑(a 4), Value.int IntKind.u16 ↑(a 5), Value.int IntKind.u16 ↑(a 6), Value.int IntKind.u16 ↑(a 7), Value.int IntKind.u16 ↑(a 8), Value.int IntKind.u16 ↑(a 9), Value.int IntKind.u16 ↑(a 10), Value.int IntKind.u16 ↑(a 11)] 25) = W at *
  clear hG hW
  go_loopw [20] (fun i wr => ∃ k : Nat, k ≤ n ∧ i = .int .i64 k ∧ CRel w G n a (warsh n a k) wr) (fun i _ => n - (intOf i).toNat)
  case atStart => exact ⟨0, by omega, rfl, HC⟩
  case round =>
    obtain ⟨k, hk, rfl, hC⟩ := hrel
    have hs := hC.arg.size
    have hs2 := hC.res.size
    by_cases hkn : k < n
    · go_wp2_with fail
      obtain ⟨wo, rfl⟩ : ∃ wo : World, wo = wr := ⟨_, rfl⟩
      clear hs hs2
      go_loopw [25] (fun i wr => ∃ m : Nat, m ≤ n ∧ i = .int .i64 m ∧ CRel w G n a (stepV m (warsh n a k) k) wr) (fun i _ => n - (intOf i).toNat)
      case atStart => exact ⟨0, by omega, rfl, by rw [stepV_zero]; exact hC⟩
      case round =>
        clear hC
        obtain ⟨m, hm, rfl, hC⟩ := hrel
        by_cases hmn : m < n
        · have hm12 : m < 12 := by omega
          have hk12 : k < 12 := by omega
          have hlm := stepV_lt (m := m) (v := k) (warsh_lt (n := n) (B := 16) ha k (by omega)) hk12 m hm12
          have cm := hC.clo.row' hm12
          have ck := hC.clo.row' hk12
          have fm := hC.clo.free (1 + m)
          rw [stepV_at] at cm hlm
          rw [stepV_via] at ck
          have hlk := warsh_lt (n := n) (B := 16) ha k (by omega) k hk12
          have ho := u16_or_nat (warsh n a k m) (warsh n a k k) hlm hlk
          have hs := stepV_succ m (warsh n a k) k
          cases hb : (warsh n a k m).testBit k
          · rw [hb] at hs
            have HS := Lib.hid hs
            have Hb := Lib.hid hb
            clear hs hb
            go_wp2_with (go_at_call 22; refine (has_no _ k _ hlm (by omega) Hb.out).mono ?_; rintro e w' ⟨rfl, rfl⟩)
            go_roundw
            case rel => exact ⟨m + 1, by omega, by go_num, hC.congr (fun i hi => by rw [HS.out]; split <;> simp_all [stepV_at])⟩
            case measure => simp [intOf]; omega
          · rw [hb] at hs
            have HS := Lib.hid hs
            have Hb := Lib.hid hb
            clear hs hb
            go_wp2_with (go_at_call 22; refine (has_yes _ k _ hlm (by omega) Hb.out).mono ?_; rintro e w' ⟨rfl, rfl⟩)
            go_region
            go_wp2
            go_roundw
            case rel => exact ⟨m + 1, by omega, by go_num, (CRel.drew (hC.set_ hm12 _)).congr (fun i hi => by rw [HS.out]; split <;> simp_all)⟩
            case measure => simp [intOf]; omega
        · have hmn' : m = n := by omega
          subst hmn'
          go_wp2_with fail
          go_roundw
          case rel => exact ⟨k + 1, by omega, by go_num, hC⟩
          case measure => simp [intOf]; omega
    · have hkn' : k = n := by omega
      subst hkn'
      have hl := warsh_lt (n := k) (B := 16) ha k (by omega)
      go_wp2_with fail
      obtain ⟨wo, rfl⟩ : ∃ wo : World, wo = wr := ⟨_, rfl⟩
      clear hs hs2
      go_loop [9, 49] (fun b i => ∃ m : Nat, m ≤ k ∧ i = .int .i64 m ∧ b = .bool (cyc (warsh k a k) m)) (fun _ i => k - (intOf i).toNat)
      case atStart => exact ⟨0, by omega, rfl, rfl⟩
      case round =>
        obtain ⟨m, hm, rfl, rfl⟩ := hrel
        by_cases hmn : m < k
        · have hm12 : m < 12 := by omega
          have hlm := hl m hm12
          have cm := hC.clo.row' hm12
          have hcy : cyc (warsh k a k) (m + 1) = (cyc (warsh k a k) m || (warsh k a k m).testBit m) := rfl
          cases hb : cyc (warsh k a k) m
          · rw [hb, Bool.false_or] at hcy
            have HY := Lib.hid hcy
            clear hcy hb
            go_wp2_with (go_at_call 22; refine (has_any _ m _ hlm (by omega)).mono ?_; rintro e w' ⟨rfl, rfl⟩)
            go_round
            case rel => exact ⟨m + 1, by omega, by go_num, by rw [HY.out]⟩
            case measure => simp [intOf]; omega
          · rw [hb, Bool.true_or] at hcy
            have HY := Lib.hid hcy
            clear hcy hb
            go_wp2_with fail
            go_round
            case rel => exact ⟨m + 1, by omega, by go_num, by rw [HY.out]⟩
            case measure => simp [intOf]; omega
        · have hmn' : m = k := by omega
          subst hmn'
          have hr := hC.res.size
          obtain ⟨r0, r1, r2, r3, r4, r5, r6, r7, r8, r9, r10, r11⟩ := hC.res.rows
          have hs := hC.clo.size
          obtain ⟨c0, c1, c2, c3, c4, c5, c6, c7, c8, c9, c10, c11⟩ := hC.clo.rows
          have hf := hC.res.free
          have hfar := hC.far
          go_wp2_with fail
          have hz := hC.res.fill m (warsh m a m)
          have hbz := fillW_below hC.below (g := w.heap.size + 1) (by omega) m (warsh m a m)
          clear hr r0 r1 r2 r3 r4 r5 r6 r7 r8 r9 r10 r11 hs c0 c1 c2 c3 c4 c5 c6 c7 c8 c9 c10 c11 hf
          change bodyPost _ _ _ _ _ (fillW wo (w.heap.size + 1) m (warsh m a m))
          generalize fillW wo (w.heap.size + 1) m (warsh m a m) = wz at hz hbz ⊢
          have hs := hz.size
          obtain ⟨c0, c1, c2, c3, c4, c5, c6, c7, c8, c9, c10, c11⟩ := hz.rows
          exact bodyPost_ret (v := .tuple #[relV m (warsh m a m), .bool (cyc (warsh m a m) m), .int .i64 0])
            (by simp [results, Tryd.results5, go_sem, hs, c0, c1, c2, c3, c4, c5, c6, c7, c8, c9, c10, c11]) rfl ⟨rfl, hbz⟩
end Go.Proofs.YtkfijolimoehmaaDoor

/-
  Contracts of order.Close, by whether Check finds a fault.
-/
namespace Go.Proofs.YtkfijolimoehmaaDoor
open Go.RowKit
set_option maxRecDepth 20000

/-- The zero relation, as a value. -/
abbrev zeroV : Value := .agg #[.int .i64 0, .int .u16 0, .int .u16 0, .int .u16 0, .int .u16 0, .int .u16 0, .int .u16 0, .int .u16 0, .int .u16 0, .int .u16 0, .int .u16 0, .int .u16 0, .int .u16 0]

/-- What Check answers, whatever the memory. -/
def Checks (n : Int) (a : Nat → Nat) (E : Int) : Prop := ∀ w : World, Calls Tryd.prog 9 #[relV n a] w fun e w' => e = .returned (.int .i64 E) ∧ Below w.heap.size w w'

theorem close_err (n : Int) (a : Nat → Nat) (E : Int) (w : World) (hE : (E != 0) = true) (hc : Checks n a E) :
    Calls Tryd.prog 5 #[relV n a] w fun e w' => e = .returned (.tuple #[zeroV, .bool false, .int .i64 E]) ∧ Below w.heap.size w w' := by
  go_enter Tryd.func5, Tryd.ntmps5
  go_wp2_with fail
  refine (hc _).mono ?_
  rintro e w1 ⟨rfl, hb1⟩
  have hB0 : RelB w1 (w.heap.size + 1) 0 (fun _ => 0) := Lies.below (Lies.cast (by have h := Lies.new (w.alloc (.cells (relCs n a) 25)) 25 (relCs 0 fun _ => 0); rw [World.size_alloc] at h; exact h) rfl) hb1 (by rw [World.size_alloc, World.size_alloc]; omega)
  have hbw : Below w.heap.size w w1 := (((Below.refl _ _).alloc (Nat.le_refl _) _).alloc (by simp) _).trans (hb1.mono (by simp; omega))
  have hs := hB0.size
  obtain ⟨c0, c1, c2, c3, c4, c5, c6, c7, c8, c9, c10, c11⟩ := hB0.rows
  have hf := hB0.free
  have HB := Lib.hid hbw
  clear hb1 hc hbw
  go_wp2_with fail
  have hz := hB0.fill 0 (fun _ => 0)
  have hbz := fillW_below HB.out (g := w.heap.size + 1) (by omega) 0 (fun _ => 0)
  clear hs c0 c1 c2 c3 c4 c5 c6 c7 c8 c9 c10 c11 hf
  change bodyPost _ _ _ _ _ (fillW w1 (w.heap.size + 1) 0 (fun _ => 0))
  generalize fillW w1 (w.heap.size + 1) 0 (fun _ => 0) = wz at hz hbz ⊢
  have hs := hz.size
  obtain ⟨c0, c1, c2, c3, c4, c5, c6, c7, c8, c9, c10, c11⟩ := hz.rows
  exact bodyPost_ret (v := .tuple #[zeroV, .bool false, .int .i64 E])
    (by simp [results, Tryd.results5, go_sem, hs, c0, c1, c2, c3, c4, c5, c6, c7, c8, c9, c10, c11]) rfl ⟨rfl, hbz⟩

/-- A relation on n items that Check lets by. -/
structure Good (n : Nat) (a : Nat → Nat) : Prop where
  le : n ≤ 12
  lt : ∀ i, i < 12 → a i < 65536
  rows : ∀ i, i < 12 → rowBad n i (a i) = false
/-- Its closure. -/
def clo (n : Nat) (a : Nat → Nat) : Nat → Nat := warsh n a n

theorem close_any (n : Nat) (a : Nat → Nat) (w : World) (h : Good n a) :
    Calls Tryd.prog 5 #[relV n a] w fun e w' => e = .returned (.tuple #[relV n (clo n a), .bool (cyc (clo n a) n), .int .i64 0]) ∧ Below w.heap.size w w' :=
  close_ok n a w h.le h.lt h.rows
theorem close_yes (n : Nat) (a : Nat → Nat) (w : World) (h : Good n a) (hy : cyc (clo n a) n = true) :
    Calls Tryd.prog 5 #[relV n a] w fun e w' => e = .returned (.tuple #[relV n (clo n a), .bool true, .int .i64 0]) ∧ Below w.heap.size w w' := hy ▸ close_any n a w h
theorem close_no (n : Nat) (a : Nat → Nat) (w : World) (h : Good n a) (hy : cyc (clo n a) n = false) :
    Calls Tryd.prog 5 #[relV n a] w fun e w' => e = .returned (.tuple #[relV n (clo n a), .bool false, .int .i64 0]) ∧ Below w.heap.size w w' := hy ▸ close_any n a w h
end Go.Proofs.YtkfijolimoehmaaDoor
