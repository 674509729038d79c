/-
  Joined by a program out of: AppInt, ContN, RefSteps, RefAsk.
-/
import Derived.Test.YtecpjeililiafaaDoorMgAE
import Derived.Test.YtecpjeililiafaaDoorMgAC
import Derived.Test.YtecpjeililiafaaDoorMgAB
import Derived.Lib.AppendZeros
import Derived.Test.YtecpjeililiafaaDoorMgBC
import Derived.Test.YtecpjeililiafaaDoorMgAI

/-
  append(s, x): s the call's own row of integers, x one more in a block of its own; append(s, t..): s new and empty, t any slice of integers.
-/
namespace Go.Proofs.YtecpjeililiafaaDoor
open Go.RowKit
set_option maxRecDepth 20000

/-- A slice of the call's own (in blocks from B on) that holds these numbers. -/
def NOwn (w : World) (B : Nat) (v : Value) (l : List Int) : Prop := w.ownsRow B 3 1 v l.length (l.flatMap intCs)
theorem NOwn.rd {w : World} {B : Nat} {v : Value} {l : List Int} (h : NOwn w B v l) : NRd w w.heap.size v l := LRd.of_own (fun _ => rfl) h
theorem NOwn.nil (w : World) (B : Nat) : NOwn w B (.slice none 0 0) [] := World.ownsRow_nil _ _ _ _
theorem NOwn.below {w w' : World} {B : Nat} {v : Value} {l : List Int} (h : NOwn w B v l) (hb : Below w.heap.size w w') : NOwn w' B v l := by
  refine ⟨h.1, h.2.elim (fun h => .inl h) fun ⟨g, cap, cur, h1, h2, h3, h4, h5, h6, h7⟩ => .inr ⟨g, cap, cur, h1, h2, ?_, h4, h5, h6, h7⟩⟩
  rw [hb.block g (Array.getElem?_eq_some_iff.1 h3).1]
  exact h3
theorem NOwn.alloc {w : World} {B : Nat} {v : Value} {l : List Int} (h : NOwn w B v l) (o : Obj) : NOwn (w.alloc o) B v l := h.below ((Below.refl _ _).alloc (Nat.le_refl _) o)

theorem run_app_int {W : World} {base G : Nat} {v : Value} {l : List Int} {y : Int} (ty : TypeId) (hown : NOwn W base v l) (hG : W.cell? ⟨G, 0, none⟩ = some (.int .i64 y)) (hlen : l.length ≤ 65536) (hbase : base ≤ W.heap.size) :
    ∃ v' w', (Builtin.append_ #[22, 22] ty #[v, .slice (some ⟨G, 0, none⟩) 1 1]).run Tryd.prog W = .ok v' w' ∧ NOwn w' base v' (l ++ [y]) ∧ Below base W w' := by
  obtain ⟨i0, hi, hz0, hz1, hz2⟩ := info_of info_int
  have hl := World.ownsRow.lt hown
  obtain ⟨v', w', hr, h2, h3, _⟩ := run_append_own (P := Tryd.prog) W base 22 ty 3 i0 (.int .i64 0) 1 8 Tryd.underlying22 hi hz0 hz1 hz2 rfl (by decide) v l.length (l.flatMap intCs) hown
    ⟨G, 0, none⟩ 1 1 (intCs y) rfl (fun j u hu => by
      rw [Addr.add_lit, Nat.zero_add]
      have hj : j = 0 := by
        have := (List.getElem?_eq_some_iff.1 hu).1
        simp at this
        omega
      subst hj
      simp only [List.getElem?_cons_zero, Option.some.injEq] at hu
      subst hu
      exact hG) (fun u hu => by
      simp only [List.mem_cons, List.not_mem_nil, or_false] at hu
      subst hu
      rfl) (by unfold maxLen; omega) (by omega) hbase
  refine ⟨v', w', hr, ?_, (Below.refl base W).grown h3 hbase (fun k hk => (hl k hk).1)⟩
  unfold NOwn
  rw [List.length_append, List.flatMap_append]
  simpa using h2
theorem wp_app_int {W : World} {o : Oper} {a : Act} {K : Act → World → Prop} {Q : Exit → Act → World → Prop} (s x : Operand)
    (ho : o.op = .call { callee := .builtin .append, args := #[s, x], argTypes := #[22, 22] })
    (base G : Nat) (v : Value) (l : List Int) (y : Int) (hs : a.eval s = v) (hx : a.eval x = .slice (some ⟨G, 0, none⟩) 1 1) (hown : NOwn W base v l) (hG : W.cell? ⟨G, 0, none⟩ = some (.int .i64 y)) (hlen : l.length ≤ 65536) (hbase : base ≤ W.heap.size)
    (h : ∀ v' w', NOwn w' base v' (l ++ [y]) → Below base W w' → K (a.put o.dst v') w') : Oper.wp Tryd.prog o a W K Q := by
  obtain ⟨v', w', hrun, r1, r2⟩ := run_app_int o.type hown hG hlen hbase
  unfold Oper.wp
  simp [execOp, ho, resolve, invoke, builtin, hs, hx, hrun, Result.andThen]
  exact h v' w' r1 r2
theorem wpList_app_int {W : World} {ops : Array Oper} {rest : List Oper} {o : Oper} {a : Act} {Q : Exit → Act → World → Prop} (hgd : o.guard = none) (s x : Operand)
    (ho : o.op = .call { callee := .builtin .append, args := #[s, x], argTypes := #[22, 22] })
    (base G : Nat) (v : Value) (l : List Int) (y : Int) (hs : a.eval s = v) (hx : a.eval x = .slice (some ⟨G, 0, none⟩) 1 1) (hown : NOwn W base v l) (hG : W.cell? ⟨G, 0, none⟩ = some (.int .i64 y)) (hlen : l.length ≤ 65536) (hbase : base ≤ W.heap.size)
    (h : ∀ v' w', NOwn w' base v' (l ++ [y]) → Below base W w' → wpList Tryd.prog ops Q rest (a.put o.dst v') w') : wpList Tryd.prog ops Q (o :: rest) a W :=
  wpList_plain hgd fun _ hK => wp_app_int s x ho base G v l y hs hx hown hG hlen hbase fun v' w' h1 h2 => hK _ _ (h v' w' h1 h2)

/-- Any slice of integers behind a row of one's own. -/
theorem run_app_ints {W : World} {base n cap : Nat} {v : Value} {A : Option Addr} {l ys : List Int} {B : Nat} (ty : TypeId) (hown : NOwn W base v l) (hr : NRd W B (.slice A n cap) ys) (hlen : l.length + ys.length ≤ 65536) (hbase : base ≤ W.heap.size) (hA : A ≠ none) :
    ∃ v' w', (Builtin.append_ #[22, 22] ty #[v, .slice A n cap]).run Tryd.prog W = .ok v' w' ∧ NOwn w' base v' (l ++ ys) ∧ Below base W w' := by
  obtain ⟨i0, hi, hz0, hz1, hz2⟩ := info_of info_int
  have hl := World.ownsRow.lt hown
  obtain ⟨A', cap', he, m1, m2, hc⟩ := hr
  injection he with e1 e2 e3
  subst e1 e2 e3
  cases A with
  | none => exact absurd rfl hA
  | some a =>
    have hlf : (ys.flatMap intCs).length = ys.length * 1 := flat_len (f := intCs) (s := 1) (fun _ => rfl) ys
    obtain ⟨v', w', hr, h2, h3, _⟩ := run_append_own (P := Tryd.prog) W base 22 ty 3 i0 (.int .i64 0) 1 8 Tryd.underlying22 hi hz0 hz1 hz2 rfl (by decide) v l.length (l.flatMap intCs) hown
      a ys.length cap (ys.flatMap intCs) hlf (fun j u hu => by
        have hj := (List.getElem?_eq_some_iff.1 hu).1
        rw [hlf] at hj
        obtain ⟨g, o, ha, _, hcell⟩ := hc (by omega)
        injection ha with ha
        subst ha
        have hx := List.getElem?_eq_getElem (show j < ys.length by omega)
        have hf := flat_at (l := ys) (f := intCs) (s := 1) (fun _ => rfl) hx (j := 0) rfl
        rw [Nat.mul_one, Nat.add_zero, hu] at hf
        injection hf with hf
        subst hf
        have := hcell j _ hx 0 _ rfl
        rw [Addr.add_lit]
        simpa using this) (fun u hu => by
        rw [List.mem_flatMap] at hu
        obtain ⟨x, _, hx⟩ := hu
        simp only [List.mem_cons, List.not_mem_nil, or_false] at hx
        subst hx
        rfl) (by unfold maxLen; omega) (by omega) hbase
    refine ⟨v', w', hr, ?_, (Below.refl base W).grown h3 hbase (fun k hk => (hl k hk).1)⟩
    unfold NOwn
    rw [List.length_append, List.flatMap_append]
    exact h2
end Go.Proofs.YtecpjeililiafaaDoor

/-
  slices.Index and slices.Contains over any slice of integers.
-/
namespace Go.Proofs.YtecpjeililiafaaDoor
open Go.RowKit
set_option maxRecDepth 20000

set_option maxHeartbeats 1000000 in
theorem indexN_any {B : Nat} {v : Value} {xs : List Int} {w : World} (h : NRd w B v xs) (x : Int) :
    Calls Tryd.prog 102 #[v, .int .i64 x] w fun e w' => ∃ r : Int, e = .returned (.int .i64 r) ∧ decide (0 ≤ r) = decide (x ∈ xs) ∧ Below w.heap.size w w' := by
  obtain ⟨A, cap, rfl, m1, m2⟩ := h.is
  unfold maxLen at m2
  obtain ⟨L, hL⟩ : ∃ L, L = xs.length := ⟨_, rfl⟩
  have HC := Lib.hid h
  have HLL := Lib.hid hL
  rw [← hL] at m1 ⊢
  clear h hL
  go_enter Tryd.func102, Tryd.ntmps102
  go_wp2_with fail
  go_loopw [8] (fun i wr => ∃ k : Nat, k ≤ L ∧ i = .int .i64 k ∧ (∀ (j : Nat) (y : Int), j < k → xs[j]? = some y → y ≠ x) ∧ Below w.heap.size w wr) (fun i _ => L - (intOf i).toNat)
  case atStart => exact ⟨0, by omega, rfl, fun j y hj => by omega, Below.refl _ _⟩
  case round =>
    obtain ⟨k, hk, rfl, ha, hb⟩ := hrel
    by_cases hkn : k < L
    · obtain ⟨y, hy⟩ : ∃ y, xs[k]? = some y := ⟨_, List.getElem?_eq_getElem (by rw [← HLL.out]; exact hkn)⟩
      have hr := HC.out
      rw [← HLL.out] at hr
      obtain ⟨g, o, rfl, hg, d0⟩ := hr.num hy
      have hgw : g < w.heap.size := World.block_lt_of_cell? w ⟨g, o + k, none⟩ d0
      have d1 : wr.cell? ⟨g, o + k, none⟩ = some (.int .i64 y) := (hb.cell (p := ⟨g, o + k, none⟩) hgw).trans d0
      have i1 : (0 : Int) ≤ (k : Int) := by omega
      have i2 : (k : Int) < (L : Int) := by omega
      have HA := Lib.hid (And.intro ha (And.intro hb hy))
      clear ha hb hy hr d0
      by_cases hxy : x = y
      · have hz : (x == y) = true := by rw [beq_iff_eq]; exact hxy
        have HX := Lib.hid hxy
        clear hxy
        go_wp2_with fail
        go_ret
        refine ⟨k, rfl, ?_, HA.out.2.1⟩
        rw [decide_eq_true i1]
        exact (decide_eq_true (by rw [HX.out]; exact List.mem_of_getElem? HA.out.2.2)).symm
      · have hz : (x == y) = false := by rw [beq_eq_false_iff_ne]; exact hxy
        have HX := Lib.hid hxy
        clear hxy
        go_wp2_with fail
        go_roundw
        case rel => exact ⟨k + 1, by omega, by go_num, fun j z hj hz => by
          rcases Nat.lt_or_ge j k with h | h
          · exact HA.out.1 j z h hz
          · obtain rfl : j = k := by omega
            rw [HA.out.2.2] at hz
            injection hz with hz
            subst hz
            exact fun e => HX.out e.symm, HA.out.2.1⟩
        case measure => simp [intOf]; omega
    · obtain rfl : k = L := by omega
      have HA := Lib.hid (And.intro ha hb)
      clear ha hb
      go_wp2_with fail
      go_ret
      refine ⟨-1, rfl, ?_, HA.out.2⟩
      rw [decide_eq_false (show ¬ (0 : Int) ≤ -1 by omega)]
      refine (decide_eq_false fun hm => ?_).symm
      obtain ⟨j, hj, e⟩ := List.getElem_of_mem hm
      exact HA.out.1 j x (by rw [HLL.out]; exact hj) (by rw [List.getElem?_eq_getElem hj, e]) rfl

theorem containsN_any {B : Nat} {v : Value} {xs : List Int} {w : World} (h : NRd w B v xs) (x : Int) :
    Calls Tryd.prog 76 #[v, .int .i64 x] w fun e w' => e = .returned (.bool (decide (x ∈ xs))) ∧ Below w.heap.size w w' := by
  have hi := indexN_any h x
  clear h
  go_enter Tryd.func76, Tryd.ntmps76
  go_wp2_with fail
  refine hi.mono ?_
  rintro e w1 ⟨r, rfl, hr, hb⟩
  have HB := Lib.hid (And.intro hb hr)
  clear hi hb hr
  by_cases h0 : (0 : Int) ≤ r
  · go_wp2_with fail
    go_ret
    exact ⟨ret_bool (by rw [← HB.out.2] <;> simp [h0]), HB.out.1⟩
  · go_wp2_with fail
    go_ret
    exact ⟨ret_bool (by rw [← HB.out.2] <;> simp [h0]), HB.out.1⟩
end Go.Proofs.YtecpjeililiafaaDoor

/-
  Contract of the reference's Stepped: registers, tickets, queues, stacks.
-/
namespace Go.Proofs.YtecpjeililiafaaDoor
open Go.RowKit
set_option maxRecDepth 20000

/-- What the reference answers: a state that reads so, the answer, the error. -/
def RefPost (w : World) (o : List Int × Int × Int) (e : Ending) (w' : World) : Prop :=
  ∃ v, e = .returned (.tuple #[v, .int .i64 o.2.1, .int .i64 o.2.2]) ∧ NRd w' w'.heap.size v o.1 ∧ Below w.heap.size w w'
theorem nrd_new (w : World) (x : Int) : NRd (w.alloc (.cells #[.int .i64 x] 3)) (w.heap.size + 1) (.slice (some ⟨w.heap.size, 0, none⟩) 1 1) [x] :=
  LRd.of_lit (f := intCs) (s := 1) (w := w) (l := [x]) (fun _ => rfl) 3 (cs := #[.int .i64 x]) rfl (n := 1) rfl (by unfold maxLen; omega)
theorem new_int (W : World) (t : TypeId) (y : Int) : (W.alloc (.cells #[.int .i64 y] t)).cell? ⟨W.heap.size, 0, none⟩ = some (.int .i64 y) := new_cells W t [.int .i64 y] 0 _ rfl
theorem nrd_zero (w : World) (B : Nat) (A : Option Addr) {cap : Nat} (hm : cap ≤ maxLen) : NRd w B (.slice A 0 cap) [] := ⟨A, cap, rfl, Nat.zero_le _, hm, fun h => by simp at h⟩
theorem nrd_drewN {w : World} {B : Nat} {v : Value} {l : List Int} (h : NRd w B v l) (n : Nat) : NRd (w.drewN n) B v l := h

set_option maxHeartbeats 1000000 in
theorem ref1 {v : Value} {l : List Int} {w : World} (hr : NRd w w.heap.size v l) (arg : Int) : Calls Tryd.prog 68 #[v, .int .i64 1, .int .i64 arg] w (RefPost w (stepped l 1 arg)) := by
  obtain ⟨A, cap, rfl, m1, m2⟩ := hr.is
  unfold maxLen at m2
  clear hr
  go_enter Tryd.func68, Tryd.ntmps68
  go_wp2_with fail
  go_ret3
  exact ⟨_, rfl, (nrd_new w arg).mono (by simp), (Below.refl _ _).alloc (Nat.le_refl _) _⟩

set_option maxHeartbeats 1000000 in
theorem ref2 {v : Value} {l : List Int} {w : World} (hr : NRd w w.heap.size v l) (arg : Int) (h0 : 0 < l.length) : Calls Tryd.prog 68 #[v, .int .i64 2, .int .i64 arg] w (RefPost w (stepped l 2 arg)) := by
  obtain ⟨A, cap, rfl, m1, m2⟩ := hr.is
  unfold maxLen at m2
  have e : stepped l 2 arg = (l, l.getD 0 0, 0) := rfl
  rw [e]
  have hx : l[0]? = some (l.getD 0 0) := by rw [List.getD_eq_getElem?_getD, List.getElem?_eq_getElem h0]; rfl
  obtain ⟨g, o, rfl, hg, d0⟩ := hr.num hx
  rw [Nat.add_zero] at d0
  have HR := Lib.hid hr
  clear e hr hx
  generalize l.getD 0 0 = y at d0 ⊢
  go_enter Tryd.func68, Tryd.ntmps68
  go_wp2_with fail
  go_quiet (fail)
  go_wp2_with fail
  go_ret3
  exact ⟨_, rfl, HR.out, belowN (Below.refl _ _) _⟩

set_option maxHeartbeats 1000000 in
theorem ref10 {v : Value} {l : List Int} {w : World} (hr : NRd w w.heap.size v l) (arg : Int) (h0 : l.length = 1) (h1 : 0 ≤ l.getD 0 0) (h2 : l.getD 0 0 ≤ 1000) : Calls Tryd.prog 68 #[v, .int .i64 10, .int .i64 arg] w (RefPost w (stepped l 10 arg)) := by
  obtain ⟨A, cap, rfl, m1, m2⟩ := hr.is
  unfold maxLen at m2
  have e : stepped l 10 arg = if l.getD 0 0 = 1000 then ([], 0, 2) else ([l.getD 0 0 + 1], l.getD 0 0, 0) := rfl
  rw [e]
  have hx : l[0]? = some (l.getD 0 0) := by rw [List.getD_eq_getElem?_getD, List.getElem?_eq_getElem (by omega)]; rfl
  obtain ⟨g, o, rfl, hg, d0⟩ := hr.num hx
  rw [Nat.add_zero] at d0
  clear e hr hx
  generalize l.getD 0 0 = y at d0 h1 h2 ⊢
  rw [h0] at m1 ⊢
  by_cases hy : y = 1000
  · rw [if_pos hy]
    subst hy
    go_enter Tryd.func68, Tryd.ntmps68
    go_wp2_with fail
    go_ret3
    exact ⟨_, rfl, LRd.nil _ _, Below.refl _ _⟩
  · rw [if_neg hy]
    have hz : (y == 1000) = false := by rw [beq_eq_false_iff_ne]; exact hy
    have hw : IntKind.i64.wrap (y + 1) = y + 1 := IntWalk.i64_in _ (by omega)
    clear hy
    go_enter Tryd.func68, Tryd.ntmps68
    go_wp2_with fail
    go_region
    go_wp2_with fail
    go_ret3
    exact ⟨_, rfl, nrd_drewN ((nrd_new w (y + 1)).mono (by simp)) 1, ((Below.refl _ _).alloc (Nat.le_refl _) _).drew⟩

set_option maxHeartbeats 2000000 in
theorem ref3 {v : Value} {l : List Int} {w : World} (hr : NRd w w.heap.size v l) (arg : Int) (hn : l.length ≤ 50) : Calls Tryd.prog 68 #[v, .int .i64 3, .int .i64 arg] w (RefPost w (stepped l 3 arg)) := by
  obtain ⟨A, cap, rfl, m1, m2⟩ := hr.is
  unfold maxLen at m2
  have e : stepped l 3 arg = if l.length = 50 then ([], 0, 2) else (insAt l l.length arg, 0, 0) := rfl
  rw [e]
  clear e
  by_cases h50 : l.length = 50
  · rw [if_pos h50]
    have hz : ((l.length : Int) == 50) = true := by rw [beq_iff_eq]; omega
    clear h50 hn hr
    go_enter Tryd.func68, Tryd.ntmps68
    go_wp2_with fail
    go_ret3
    exact ⟨_, rfl, LRd.nil _ _, Below.refl _ _⟩
  · rw [if_neg h50]
    have hz : ((l.length : Int) == 50) = false := by rw [beq_eq_false_iff_ne]; omega
    have hi : insAt l l.length arg = l ++ [arg] := by simp [insAt]
    rw [hi]
    have hempty : NOwn (w.alloc (.cells #[] 3)) w.heap.size (.slice (some ⟨w.heap.size, 0, none⟩) 0 0) [] := ⟨rfl, .inr ⟨w.heap.size, 0, #[], rfl, Nat.le_refl _, heap_alloc_new w _, Nat.le_refl _, by unfold maxLen; omega, rfl, rfl⟩⟩
    have hr1 : NRd (w.alloc (.cells #[] 3)) w.heap.size (.slice A l.length cap) l := hr.below ((Below.refl _ _).alloc (Nat.le_refl _) _)
    cases A with
    | none =>
      have h0 : l = [] := by
        apply List.length_eq_zero_iff.1
        apply Classical.byContradiction
        intro hp
        obtain ⟨g, o, hA, _⟩ := hr.ints (by omega)
        cases hA
      subst h0
      have hsrc : Src Tryd.prog 1 22 (.slice none 0 cap) 0 [] (w.alloc (.cells #[] 3)) := Src.ofNil _ Tryd.underlying22 cap
      have HO := Lib.hid (And.intro hempty ((Below.refl w.heap.size w).alloc (Nat.le_refl _) (.cells #[] 3)))
      clear hempty hr1 hr h50 hn hi
      go_enter Tryd.func68, Tryd.ntmps68
      go_wp2_with (first | (at_builtin; refine wpList_append_room1 _ rfl (.tmp 63) (.tmp 64) 22 22 rfl 3 _ _ Tryd.underlying22 info_int w.heap.size 0 0 0 rfl _ rfl 0 [] hsrc (by omega) (fun j hj => by simp at hj) (fun j hj => by simp at hj) ?_) | (at_builtin; refine wpList_app_int rfl (.tmp 65) (.tmp 67) rfl w.heap.size (w.alloc (.cells #[] 3)).heap.size _ [] arg rfl rfl (HO.out.1.alloc (.cells #[.int .i64 arg] 3)) (new_int (w.alloc (.cells #[] 3)) 3 arg) (by simp) (by show w.heap.size ≤ ((w.alloc (.cells #[] 3)).alloc (.cells #[.int .i64 arg] 3)).heap.size; simp; omega) ?_; intro v2 w2 ho2 hb2))
      go_ret3
      exact ⟨_, rfl, ho2.rd, (HO.out.2.alloc HO.out.2.size _).trans hb2⟩
    | some a =>
      obtain ⟨v1, w1, hrun, ho1, hb1⟩ := run_app_ints 22 hempty hr1 (by simp; omega) (by simp) (by simp)
      rw [List.nil_append] at ho1
      have HO := Lib.hid (And.intro ho1 (((Below.refl w.heap.size w).alloc (Nat.le_refl _) (.cells #[] 3)).trans hb1))
      have HRUN := Lib.hid hrun
      have HN := Lib.hid hn
      clear hempty hr1 hr h50 hn hi ho1 hb1 hrun
      go_enter Tryd.func68, Tryd.ntmps68
      go_wp2_with (first | (at_builtin; refine Lib.wpList_append_run _ rfl (.tmp 63) (.tmp 64) _ _ rfl _ _ rfl rfl v1 w1 HRUN.out ?_) | (at_builtin; refine wpList_app_int rfl (.tmp 65) (.tmp 67) rfl w.heap.size w1.heap.size _ l arg rfl rfl (HO.out.1.alloc (.cells #[.int .i64 arg] 3)) (new_int w1 3 arg) (by have := HN.out; omega) (by have := HO.out.2.size; simp; omega) ?_; intro v2 w2 ho2 hb2))
      go_ret3
      exact ⟨_, rfl, ho2.rd, (HO.out.2.alloc HO.out.2.size _).trans hb2⟩

set_option maxHeartbeats 2000000 in
theorem ref5 {v : Value} {l : List Int} {w : World} (hr : NRd w w.heap.size v l) (arg : Int) (hn : l.length ≤ 50) : Calls Tryd.prog 68 #[v, .int .i64 5, .int .i64 arg] w (RefPost w (stepped l 5 arg)) := by
  obtain ⟨A, cap, rfl, m1, m2⟩ := hr.is
  unfold maxLen at m2
  have e : stepped l 5 arg = if l.length = 50 then ([], 0, 2) else (insAt l l.length arg, 0, 0) := rfl
  rw [e]
  clear e
  by_cases h50 : l.length = 50
  · rw [if_pos h50]
    have hz : ((l.length : Int) == 50) = true := by rw [beq_iff_eq]; omega
    clear h50 hn hr
    go_enter Tryd.func68, Tryd.ntmps68
    go_wp2_with fail
    go_ret3
    exact ⟨_, rfl, LRd.nil _ _, Below.refl _ _⟩
  · rw [if_neg h50]
    have hz : ((l.length : Int) == 50) = false := by rw [beq_eq_false_iff_ne]; omega
    have hi : insAt l l.length arg = l ++ [arg] := by simp [insAt]
    rw [hi]
    have hempty : NOwn (w.alloc (.cells #[] 3)) w.heap.size (.slice (some ⟨w.heap.size, 0, none⟩) 0 0) [] := ⟨rfl, .inr ⟨w.heap.size, 0, #[], rfl, Nat.le_refl _, heap_alloc_new w _, Nat.le_refl _, by unfold maxLen; omega, rfl, rfl⟩⟩
    have hr1 : NRd (w.alloc (.cells #[] 3)) w.heap.size (.slice A l.length cap) l := hr.below ((Below.refl _ _).alloc (Nat.le_refl _) _)
    cases A with
    | none =>
      have h0 : l = [] := by
        apply List.length_eq_zero_iff.1
        apply Classical.byContradiction
        intro hp
        obtain ⟨g, o, hA, _⟩ := hr.ints (by omega)
        cases hA
      subst h0
      have hsrc : Src Tryd.prog 1 22 (.slice none 0 cap) 0 [] (w.alloc (.cells #[] 3)) := Src.ofNil _ Tryd.underlying22 cap
      have HO := Lib.hid (And.intro hempty ((Below.refl w.heap.size w).alloc (Nat.le_refl _) (.cells #[] 3)))
      clear hempty hr1 hr h50 hn hi
      go_enter Tryd.func68, Tryd.ntmps68
      go_wp2_with (first | (at_builtin; refine wpList_append_room1 _ rfl (.tmp 63) (.tmp 64) 22 22 rfl 3 _ _ Tryd.underlying22 info_int w.heap.size 0 0 0 rfl _ rfl 0 [] hsrc (by omega) (fun j hj => by simp at hj) (fun j hj => by simp at hj) ?_) | (at_builtin; refine wpList_app_int rfl (.tmp 65) (.tmp 67) rfl w.heap.size (w.alloc (.cells #[] 3)).heap.size _ [] arg rfl rfl (HO.out.1.alloc (.cells #[.int .i64 arg] 3)) (new_int (w.alloc (.cells #[] 3)) 3 arg) (by simp) (by show w.heap.size ≤ ((w.alloc (.cells #[] 3)).alloc (.cells #[.int .i64 arg] 3)).heap.size; simp; omega) ?_; intro v2 w2 ho2 hb2))
      go_ret3
      exact ⟨_, rfl, ho2.rd, (HO.out.2.alloc HO.out.2.size _).trans hb2⟩
    | some a =>
      obtain ⟨v1, w1, hrun, ho1, hb1⟩ := run_app_ints 22 hempty hr1 (by simp; omega) (by simp) (by simp)
      rw [List.nil_append] at ho1
      have HO := Lib.hid (And.intro ho1 (((Below.refl w.heap.size w).alloc (Nat.le_refl _) (.cells #[] 3)).trans hb1))
      have HRUN := Lib.hid hrun
      have HN := Lib.hid hn
      clear hempty hr1 hr h50 hn hi ho1 hb1 hrun
      go_enter Tryd.func68, Tryd.ntmps68
      go_wp2_with (first | (at_builtin; refine Lib.wpList_append_run _ rfl (.tmp 63) (.tmp 64) _ _ rfl _ _ rfl rfl v1 w1 HRUN.out ?_) | (at_builtin; refine wpList_app_int rfl (.tmp 65) (.tmp 67) rfl w.heap.size w1.heap.size _ l arg rfl rfl (HO.out.1.alloc (.cells #[.int .i64 arg] 3)) (new_int w1 3 arg) (by have := HN.out; omega) (by have := HO.out.2.size; simp; omega) ?_; intro v2 w2 ho2 hb2))
      go_ret3
      exact ⟨_, rfl, ho2.rd, (HO.out.2.alloc HO.out.2.size _).trans hb2⟩


theorem getD_lt {l : List Int} {p : Nat} (hp : p < l.length) : l[p]? = some (l.getD p 0) := by rw [List.getD_eq_getElem?_getD, List.getElem?_eq_getElem hp]; rfl
theorem del_front (l : List Int) : delAt l 0 = l.drop 1 := by simp [delAt]
theorem del_back {l : List Int} (h : 0 < l.length) : delAt l (l.length - 1) = l.take (l.length - 1) := by
  unfold delAt
  rw [show l.length - 1 + 1 = l.length by omega, List.drop_length, List.append_nil]

set_option maxHeartbeats 2000000 in
theorem ref4 {v : Value} {l : List Int} {w : World} (hr : NRd w w.heap.size v l) (arg : Int) : Calls Tryd.prog 68 #[v, .int .i64 4, .int .i64 arg] w (RefPost w (stepped l 4 arg)) := by
  obtain ⟨A, cap, rfl, m1, m2⟩ := hr.is
  unfold maxLen at m2
  have e : stepped l 4 arg = if l.length = 0 then (l, -1, 0) else (delAt l 0, l.getD 0 0, 0) := rfl
  rw [e]
  clear e
  by_cases h0 : l.length = 0
  · rw [if_pos h0]
    have HR := Lib.hid hr
    have hz : ((l.length : Int) == 0) = true := by rw [beq_iff_eq]; omega
    clear hr h0
    go_enter Tryd.func68, Tryd.ntmps68
    go_wp2_with fail
    go_ret3
    exact ⟨_, rfl, HR.out, Below.refl _ _⟩
  · rw [if_neg h0, del_front]
    obtain ⟨g, o, rfl, hg, d0⟩ := hr.num (getD_lt (l := l) (p := 0) (by omega))
    rw [Nat.add_zero] at d0
    have hz : ((l.length : Int) == 0) = false := by rw [beq_eq_false_iff_ne]; omega
    have HD := Lib.hid (LRd.drop_ hr (k := 1) (by omega))
    generalize hL : l.length = L at HD h0 hz m1 ⊢
    have HLL := Lib.hid hL
    have i1 : ¬ (L : Int) < 1 := by omega
    have i2 : (0 : Int) < (L : Int) := by omega
    clear hr hL
    generalize l.getD 0 0 = y at d0 ⊢
    by_cases hc : cap = 1
    · subst hc
      obtain rfl : L = 1 := by omega
      go_enter Tryd.func68, Tryd.ntmps68
      go_wp2_with fail
      go_quiet (fail)
      go_wp2_with fail
      go_ret3
      have e : l.drop 1 = [] := List.drop_eq_nil_of_le (by rw [HLL.out]; omega)
      rw [e]
      exact ⟨_, rfl, nrd_zero _ _ _ (by unfold maxLen; omega), belowN (Below.refl _ _) _⟩
    · have hc' : (1 : Int) < (cap : Int) := by omega
      go_enter Tryd.func68, Tryd.ntmps68
      go_wp2_with fail
      go_quiet (fail)
      go_wp2_with fail
      go_ret3
      exact ⟨_, rfl, nrd_drewN HD.out _, belowN (Below.refl _ _) _⟩

set_option maxHeartbeats 2000000 in
theorem ref6 {v : Value} {l : List Int} {w : World} (hr : NRd w w.heap.size v l) (arg : Int) : Calls Tryd.prog 68 #[v, .int .i64 6, .int .i64 arg] w (RefPost w (stepped l 6 arg)) := by
  obtain ⟨A, cap, rfl, m1, m2⟩ := hr.is
  unfold maxLen at m2
  have e : stepped l 6 arg = if l.length = 0 then (l, -1, 0) else (delAt l (l.length - 1), l.getD (l.length - 1) 0, 0) := rfl
  rw [e]
  clear e
  by_cases h0 : l.length = 0
  · rw [if_pos h0]
    have HR := Lib.hid hr
    have hz : ((l.length : Int) == 0) = true := by rw [beq_iff_eq]; omega
    clear hr h0
    go_enter Tryd.func68, Tryd.ntmps68
    go_wp2_with fail
    go_ret3
    exact ⟨_, rfl, HR.out, Below.refl _ _⟩
  · rw [if_neg h0, del_back (by omega)]
    obtain ⟨g, o, rfl, hg, d0⟩ := hr.num (getD_lt (l := l) (p := l.length - 1) (by omega))
    have hz : ((l.length : Int) == 0) = false := by rw [beq_eq_false_iff_ne]; omega
    have HD := Lib.hid (LRd.take_ hr (n := l.length - 1) (by omega))
    generalize l.getD (l.length - 1) 0 = y at d0 ⊢
    generalize hL : l.length = L at HD h0 hz m1 d0 ⊢
    have i1 : (0 : Int) ≤ (L : Int) - 1 := by omega
    have i2 : (L : Int) - 1 < (L : Int) := by omega
    have i3 : (L : Int) - 1 ≤ (cap : Int) := by omega
    have hw : IntKind.i64.wrap ((L : Int) - 1) = (L : Int) - 1 := IntWalk.i64_in _ (by omega)
    have ht : ((L : Int) - 1).toNat = L - 1 := by omega
    clear hr hL
    go_enter Tryd.func68, Tryd.ntmps68
    go_wp2_with fail
    go_quiet (fail)
    go_wp2_with fail
    go_ret3
    exact ⟨_, rfl, nrd_drewN HD.out _, belowN (Below.refl _ _) _⟩
end Go.Proofs.YtecpjeililiafaaDoor

/-
  Contracts of the reference's Begin, Asked.
-/
namespace Go.Proofs.YtecpjeililiafaaDoor
open Go.RowKit
set_option maxRecDepth 20000

set_option maxHeartbeats 1000000 in
theorem begin_any (typ : Int) (w : World) : Calls Tryd.prog 67 #[.int .i64 typ] w fun e w' => ∃ v, e = .returned v ∧ NRd w' w'.heap.size v (beginL typ) ∧ Below w.heap.size w w' := by
  by_cases h1 : typ = 1
  · subst h1
    go_enter Tryd.func67, Tryd.ntmps67
    go_wp2
    go_ret
    exact ⟨_, rfl, (nrd_new w 0).mono (by simp), (Below.refl _ _).alloc (Nat.le_refl _) _⟩
  · by_cases h5 : typ = 5
    · subst h5
      go_enter Tryd.func67, Tryd.ntmps67
      go_wp2
      go_ret
      exact ⟨_, rfl, (nrd_new w 0).mono (by simp), (Below.refl _ _).alloc (Nat.le_refl _) _⟩
    · have e : beginL typ = [] := by
        unfold beginL oneB
        rw [if_neg (by simp [h1, h5])]
      rw [e]
      have z1 : (typ == 1) = false := by rw [beq_eq_false_iff_ne]; exact h1
      have z5 : (typ == 5) = false := by rw [beq_eq_false_iff_ne]; exact h5
      clear h1 h5 e
      go_enter Tryd.func67, Tryd.ntmps67
      go_wp2
      go_ret
      exact ⟨_, rfl, LRd.nil _ _, Below.refl _ _⟩

theorem quiet_at {P : Program} {f : FuncId} {args : Array Value} {w : World} {a b : Nat} {v : Value}
    (h : Calls P f args (w.drewN (a + b)) fun e w' => e = .returned v ∧ w.drewN (a + b) = w') : Calls P f args (w.drewN (a + b)) fun e w'' => e = .returned v ∧ ∃ m, w'' = w.drewN (a + m) :=
  h.mono fun _ _ ⟨he, hm⟩ => ⟨he, b, hm.symm⟩
theorem kindsL_short (t : Int) : (kindsL t).length ≤ 1000000 := by
  unfold kindsL
  (repeat' split) <;> simp

set_option maxHeartbeats 1000000 in
theorem asked_any (typ kind arg : Int) (w : World) : Calls Tryd.prog 97 #[.int .i64 typ, .int .i64 kind, .int .i64 arg] w fun e w' => e = .returned (.bool (fitsB typ kind && takesB kind arg)) ∧ Below w.heap.size w w' := by
  cases hf : fitsB typ kind
  · rw [Bool.false_and]
    have HF := Lib.hid hf
    clear hf
    go_enter Tryd.func97, Tryd.ntmps97
    go_wp2_with fail
    refine (kinds_any _ _).mono ?_
    rintro e w1 ⟨kv, rfl, hk, hb1⟩
    have H1 := Lib.hid (And.intro hk hb1)
    clear hk hb1
    go_wp2_with fail
    refine (contains_any H1.out.1 (kindsL_short _) _).mono ?_
    rw [kinds_fit, HF.out]
    rintro e w2 ⟨rfl, hb2⟩
    have H2 := Lib.hid (H1.out.2.trans (hb2.mono H1.out.2.size))
    clear hb2
    go_wp2_with fail
    go_ret
    exact ⟨rfl, H2.out⟩
  · rw [Bool.true_and, ← asks_takes hf]
    have HF := Lib.hid hf
    clear hf
    generalize hq : asksB kind arg = q
    have HQ := Lib.hid hq
    clear hq
    go_enter Tryd.func97, Tryd.ntmps97
    go_wp2_with fail
    refine (kinds_any _ _).mono ?_
    rintro e w1 ⟨kv, rfl, hk, hb1⟩
    have H1 := Lib.hid (And.intro hk hb1)
    clear hk hb1
    go_wp2_with fail
    refine (contains_any H1.out.1 (kindsL_short _) _).mono ?_
    rw [kinds_fit, HF.out]
    rintro e w2 ⟨rfl, hb2⟩
    have H2 := Lib.hid (H1.out.2.trans (hb2.mono H1.out.2.size))
    clear hb2
    go_wp2_with fail
    refine (asks_any _ _ _).mono ?_
    rw [HQ.out]
    rintro e w3 ⟨rfl, hb3⟩
    have H3 := Lib.hid (H2.out.trans (hb3.mono H2.out.size))
    clear hb3
    go_wp2_with fail
    go_ret
    exact ⟨rfl, H3.out⟩

end Go.Proofs.YtecpjeililiafaaDoor
