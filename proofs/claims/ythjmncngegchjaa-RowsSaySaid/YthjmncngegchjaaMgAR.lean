/-
  Joined by a program out of: AppEv, AppEv2, RSwap, EqAid, EqSn, Ok, RLives.
-/
import Derived.Test.YthjmncngegchjaaMgAF
import Derived.Deep.CutRange
import Derived.WalkKit
import Derived.Test.YthjmncngegchjaaMgAN
import Derived.Laws.StructEq
import Derived.Deep.QuietTactic
import Derived.BigQuiet
import Derived.Test.YthjmncngegchjaaMgAO
import Derived.Test.YthjmncngegchjaaMgAQ

/-
  append(s, x): events.
-/
namespace Go.Proofs.Ythjmncngegchjaa
open Go.RowKit
set_option maxRecDepth 20000
theorem info_ev : (Try.prog.info? 52).map (fun i => (i.zero, i.size, i.bytes)) = some (some (evV default), 4, 32) := by kernel_rfl
theorem EOwn.then_ {w w' : World} {B : Nat} {v : Value} {l : List Ev} (h : EOwn w B v l) (hb : Below w.heap.size w w') : EOwn w' B v l :=
  World.ownsRow.kept h (row := none) ⟨hb.os, hb.tape, hb.output, hb.size, fun k hk _ => hb.block k hk⟩ (by
    cases hv : v.ownBlock with
    | none => exact .inl rfl
    | some k => exact .inr (by simp))
theorem EOwn.alloc {w : World} {B : Nat} {v : Value} {l : List Ev} (h : EOwn w B v l) (o : Obj) : EOwn (w.alloc o) B v l := World.ownsRow.alloc h o
theorem run_app_ev {W : World} {base G : Nat} {v : Value} {l : List Ev} {y : Ev} (ty : TypeId) (hown : EOwn W base v l) (hG : ∀ j u, (evCs y)[j]? = some u → W.cell? ⟨G, j, none⟩ = some u) (hlen : l.length ≤ 65536) (hbase : base ≤ W.heap.size) :
    ∃ v' w', (Builtin.append_ #[22, 22] ty #[v, .slice (some ⟨G, 0, none⟩) 1 1]).run Try.prog W = .ok v' w' ∧ EOwn w' base v' (l ++ [y]) ∧ Below base W w' ∧ W.grownBy w' v.ownBlock := by
  obtain ⟨i0, hi, hz0, hz1, hz2⟩ := info_of info_ev
  have hl := World.ownsRow.lt hown
  obtain ⟨v', w', hr, h2, h3, _⟩ := run_append_own (P := Try.prog) W base 22 ty 52 i0 (evV default) 4 32 Try.underlying22 hi hz0 hz1 hz2 rfl (by decide) v l.length (l.flatMap evCs) hown
    ⟨G, 0, none⟩ 1 1 (evCs y) rfl (fun j u hu => by
      rw [Addr.add_lit, Nat.zero_add]
      exact hG j u hu) (fun u hu => by
      simp only [List.mem_cons, List.not_mem_nil, or_false] at hu
      rcases hu with rfl | rfl | rfl | rfl <;> rfl) (by unfold maxLen; omega) (by omega) hbase
  refine ⟨v', w', hr, ?_, (Below.refl base W).grown h3 hbase (fun k hk => (hl k hk).1), h3⟩
  unfold EOwn
  rw [List.length_append, List.flatMap_append]
  simpa using h2
theorem own_sliceE {w : World} {B : Nat} {v : Value} {l : List Ev} (h : EOwn w B v l) : ∃ A c, v = .slice A l.length c := by
  obtain ⟨A, c, h, _⟩ := h.rd.is
  exact ⟨A, c, h⟩
theorem wp_app_ev {W : World} {o : Oper} {a : Act} {K : Act → World → Prop} {Q : Exit → Act → World → Prop} (s x : Operand)
    (ho : o.op = .call { callee := .builtin .append, args := #[s, x], argTypes := #[22, 22] })
    (base G : Nat) (v : Value) (l : List Ev) (y : Ev) (hs : a.eval s = v) (hx : a.eval x = .slice (some ⟨G, 0, none⟩) 1 1) (hown : EOwn W base v l) (hG : ∀ j u, (evCs y)[j]? = some u → W.cell? ⟨G, j, none⟩ = some u) (hlen : l.length ≤ 65536) (hbase : base ≤ W.heap.size)
    (h : ∀ v' w', EOwn w' base v' (l ++ [y]) → Below base W w' → W.grownBy w' v.ownBlock → K (a.put o.dst v') w') : Oper.wp Try.prog o a W K Q := by
  obtain ⟨v', w', hrun, r1, r2, r3⟩ := run_app_ev o.type hown hG hlen hbase
  unfold Oper.wp
  simp [execOp, ho, resolve, invoke, builtin, hs, hx, hrun, Result.andThen]
  exact h v' w' r1 r2 r3
theorem wpList_app_ev {W : World} {ops : Array Oper} {rest : List Oper} {o : Oper} {a : Act} {Q : Exit → Act → World → Prop} (hgd : o.guard = none) (s x : Operand)
    (ho : o.op = .call { callee := .builtin .append, args := #[s, x], argTypes := #[22, 22] })
    (base G : Nat) (v : Value) (l : List Ev) (y : Ev) (hs : a.eval s = v) (hx : a.eval x = .slice (some ⟨G, 0, none⟩) 1 1) (hown : EOwn W base v l) (hG : ∀ j u, (evCs y)[j]? = some u → W.cell? ⟨G, j, none⟩ = some u) (hlen : l.length ≤ 65536) (hbase : base ≤ W.heap.size)
    (h : ∀ v' w', EOwn w' base v' (l ++ [y]) → Below base W w' → W.grownBy w' v.ownBlock → wpList Try.prog ops Q rest (a.put o.dst v') w') : wpList Try.prog ops Q (o :: rest) a W :=
  wpList_plain hgd fun _ hK => wp_app_ev s x ho base G v l y hs hx hown hG hlen hbase fun v' w' h1 h2 h3 => hK _ _ (h v' w' h1 h2 h3)
theorem step_app_ev {W : World} {ops : Array Oper} {o : Oper} {a : Act} {K : Act → World → Prop} {Q : Exit → Act → World → Prop} {E : Prop} (hgd : o.guard = none) (s x : Operand)
    (ho : o.op = .call { callee := .builtin .append, args := #[s, x], argTypes := #[22, 22] })
    (base G : Nat) (v : Value) (l : List Ev) (y : Ev) (hs : a.eval s = v) (hx : a.eval x = .slice (some ⟨G, 0, none⟩) 1 1) (hown : EOwn W base v l) (hG : ∀ j u, (evCs y)[j]? = some u → W.cell? ⟨G, j, none⟩ = some u) (hlen : l.length ≤ 65536) (hbase : base ≤ W.heap.size)
    (h : ∀ v' w', EOwn w' base v' (l ++ [y]) → Below base W w' → W.grownBy w' v.ownBlock → K (a.put o.dst v') w') :
    if Region.wanted o (yielded ops a.tmps) = true then Oper.wp Try.prog o a W K Q else E := by
  have hw : Region.wanted o (yielded ops a.tmps) = true := by simp [Region.wanted, hgd]
  rw [if_pos hw]
  exact wp_app_ev s x ho base G v l y hs hx hown hG hlen hbase h
end Go.Proofs.Ythjmncngegchjaa

/-
  append(s, x, y): two events at once.
-/
namespace Go.Proofs.Ythjmncngegchjaa
open Go.RowKit
set_option maxRecDepth 20000

theorem run_app_ev2 {W : World} {base G : Nat} {v : Value} {l : List Ev} {y z : Ev} (ty : TypeId) (hown : EOwn W base v l) (hG : ∀ j u, (evCs y ++ evCs z)[j]? = some u → W.cell? ⟨G, j, none⟩ = some u) (hlen : l.length ≤ 65536) (hbase : base ≤ W.heap.size) :
    ∃ v' w', (Builtin.append_ #[22, 22] ty #[v, .slice (some ⟨G, 0, none⟩) 2 2]).run Try.prog W = .ok v' w' ∧ EOwn w' base v' (l ++ [y, z]) ∧ Below base W w' ∧ W.grownBy w' v.ownBlock := by
  obtain ⟨i0, hi, hz0, hz1, hz2⟩ := info_of info_ev
  have hl := World.ownsRow.lt hown
  obtain ⟨v', w', hr, h2, h3, _⟩ := run_append_own (P := Try.prog) W base 22 ty 52 i0 (evV default) 4 32 Try.underlying22 hi hz0 hz1 hz2 rfl (by decide) v l.length (l.flatMap evCs) hown
    ⟨G, 0, none⟩ 2 2 (evCs y ++ evCs z) rfl (fun j u hu => by
      rw [Addr.add_lit, Nat.zero_add]
      exact hG j u hu) (fun u hu => by
      simp only [List.mem_append, List.mem_cons, List.not_mem_nil, or_false] at hu
      rcases hu with (rfl | rfl | rfl | rfl) | (rfl | rfl | rfl | rfl) <;> rfl) (by unfold maxLen; omega) (by omega) hbase
  refine ⟨v', w', hr, ?_, (Below.refl base W).grown h3 hbase (fun k hk => (hl k hk).1), h3⟩
  unfold EOwn
  rw [List.length_append, List.flatMap_append]
  simpa [List.flatMap_cons] using h2

theorem wp_app_ev2 {W : World} {o : Oper} {a : Act} {K : Act → World → Prop} {Q : Exit → Act → World → Prop} (s x : Operand)
    (ho : o.op = .call { callee := .builtin .append, args := #[s, x], argTypes := #[22, 22] })
    (base G : Nat) (v : Value) (l : List Ev) (y z : Ev) (hs : a.eval s = v) (hx : a.eval x = .slice (some ⟨G, 0, none⟩) 2 2) (hown : EOwn W base v l) (hG : ∀ j u, (evCs y ++ evCs z)[j]? = some u → W.cell? ⟨G, j, none⟩ = some u) (hlen : l.length ≤ 65536) (hbase : base ≤ W.heap.size)
    (h : ∀ v' w', EOwn w' base v' (l ++ [y, z]) → Below base W w' → W.grownBy w' v.ownBlock → K (a.put o.dst v') w') : Oper.wp Try.prog o a W K Q := by
  obtain ⟨v', w', hrun, r1, r2, r3⟩ := run_app_ev2 o.type hown hG hlen hbase
  unfold Oper.wp
  simp [execOp, ho, resolve, invoke, builtin, hs, hx, hrun, Result.andThen]
  exact h v' w' r1 r2 r3
theorem wpList_app_ev2 {W : World} {ops : Array Oper} {rest : List Oper} {o : Oper} {a : Act} {Q : Exit → Act → World → Prop} (hgd : o.guard = none) (s x : Operand)
    (ho : o.op = .call { callee := .builtin .append, args := #[s, x], argTypes := #[22, 22] })
    (base G : Nat) (v : Value) (l : List Ev) (y z : Ev) (hs : a.eval s = v) (hx : a.eval x = .slice (some ⟨G, 0, none⟩) 2 2) (hown : EOwn W base v l) (hG : ∀ j u, (evCs y ++ evCs z)[j]? = some u → W.cell? ⟨G, j, none⟩ = some u) (hlen : l.length ≤ 65536) (hbase : base ≤ W.heap.size)
    (h : ∀ v' w', EOwn w' base v' (l ++ [y, z]) → Below base W w' → W.grownBy w' v.ownBlock → wpList Try.prog ops Q rest (a.put o.dst v') w') : wpList Try.prog ops Q (o :: rest) a W :=
  wpList_plain hgd fun _ hK => wp_app_ev2 s x ho base G v l y z hs hx hown hG hlen hbase fun v' w' h1 h2 h3 => hK _ _ (h v' w' h1 h2 h3)
end Go.Proofs.Ythjmncngegchjaa

/-
  alibkeep.swapped: two are put, one behind the other, and come out the other way round.
-/
namespace Go.Proofs.Ythjmncngegchjaa
open Go.RowKit
set_option maxRecDepth 20000

/-- What is done. -/
abbrev swapD : List (Int × Int × Int) := [(3, 1, 0), (3, 2, 0), (4, 0, 2), (4, 0, 1)]
abbrev tpCs (d : Int × Int × Int) : List Value := [.int .i64 d.1, .int .i64 d.2.1, .int .i64 d.2.2]
def evsD (l : List (Int × Int × Int)) : List Ev := l.flatMap fun d => [⟨0, 0, d.1, d.2.1⟩, ⟨0, 0, 0, d.2.2⟩]
abbrev swapE : List Ev := [⟨0, 0, 3, 1⟩, ⟨0, 0, 0, 0⟩, ⟨0, 0, 3, 2⟩, ⟨0, 0, 0, 0⟩, ⟨0, 0, 4, 0⟩, ⟨0, 0, 0, 2⟩, ⟨0, 0, 4, 0⟩, ⟨0, 0, 0, 1⟩]
theorem evsD_take {l : List (Int × Int × Int)} {k : Nat} {d : Int × Int × Int} (h : l[k]? = some d) : evsD (l.take (k + 1)) = evsD (l.take k) ++ [⟨0, 0, d.1, d.2.1⟩, ⟨0, 0, 0, d.2.2⟩] := by
  unfold evsD
  rw [List.take_add_one, h, List.flatMap_append]
  rfl
theorem evsD_len : ∀ l : List (Int × Int × Int), (evsD l).length = 2 * l.length
  | [] => rfl
  | d :: r => by
    have := evsD_len r
    unfold evsD at this ⊢
    rw [List.flatMap_cons, List.length_append, this, List.length_cons]
    simp only [List.length_cons, List.length_nil]
    omega
structure SwR (w : World) (v : Value) (k : Nat) (W : World) : Prop where
  below : Below w.heap.size w W
  dos : LRd 3 tpCs W (w.heap.size + 1) (.slice (some ⟨w.heap.size, 0, none⟩) 4 4) swapD
  own : EOwn W (w.heap.size + 1) v (evsD (swapD.take k))
  sz : w.heap.size + 1 ≤ W.heap.size
theorem SwR.next {w : World} {v : Value} {k : Nat} {W w' : World} (h : SwR w v k W) (hb : Below W.heap.size W w') : SwR w v k w' :=
  ⟨h.below.trans (hb.mono h.below.size), h.dos.below (hb.mono h.sz), h.own.then_ hb, Nat.le_trans h.sz hb.size⟩
set_option maxHeartbeats 4000000 in
theorem swapped_any (w : World) : Calls Try.prog 30 #[] w fun e w' => ∃ A c, e = .returned (.slice A 8 c) ∧ ERd w' w'.heap.size (.slice A 8 c) swapE ∧ Below w.heap.size w w' := by
  have h0 : SwR w (.slice none 0 0) 0 (w.alloc (.cells #[.int .i64 3, .int .i64 1, .int .i64 0, .int .i64 3, .int .i64 2, .int .i64 0, .int .i64 4, .int .i64 0, .int .i64 2, .int .i64 4, .int .i64 0, .int .i64 1] 88)) := by
    refine ⟨(Below.refl _ _).alloc (Nat.le_refl _) _, ?_, ⟨rfl, .inl ⟨rfl, rfl⟩⟩, by simp⟩
    exact LRd.of_lit (f := tpCs) (s := 3) (w := w) (l := swapD) (fun _ => rfl) 88 (cs := #[.int .i64 3, .int .i64 1, .int .i64 0, .int .i64 3, .int .i64 2, .int .i64 0, .int .i64 4, .int .i64 0, .int .i64 2, .int .i64 4, .int .i64 0, .int .i64 1]) rfl (n := 4) rfl (by unfold maxLen; omega)
  have H0 := Lib.hid h0
  clear h0
  go_enter Try.func30, Try.ntmps30
  go_wp2_with fail
  have h0 := H0.out
  clear H0
  change Code.wp _ _ _ _ (w.alloc (.cells #[.int .i64 3, .int .i64 1, .int .i64 0, .int .i64 3, .int .i64 2, .int .i64 0, .int .i64 4, .int .i64 0, .int .i64 2, .int .i64 4, .int .i64 0, .int .i64 1] 88))
  generalize w.alloc (.cells #[.int .i64 3, .int .i64 1, .int .i64 0, .int .i64 3, .int .i64 2, .int .i64 0, .int .i64 4, .int .i64 0, .int .i64 2, .int .i64 4, .int .i64 0, .int .i64 1] 88) = W at h0 ⊢
  go_loopw [1, 10] (fun v i wr => ∃ k : Nat, k ≤ 4 ∧ i = .int .i64 k ∧ SwR w v k wr) (fun _ i _ => 4 - (intOf i).toNat)
  case atStart => exact ⟨0, by omega, rfl, h0⟩
  case round =>
    clear h0
    obtain ⟨k, hk, rfl, hO⟩ := hrel
    by_cases hkn : k < 4
    · obtain ⟨d, hd⟩ : ∃ d, swapD[k]? = some d := ⟨_, List.getElem?_eq_getElem (by simpa using hkn)⟩
      obtain ⟨g, o, hA, -, hc⟩ := LRd.at_ hO.dos hd
      injection hA with hA
      injection hA with hA1 hA2
      subst hA1 hA2
      have d0 := hc 0 _ rfl
      have d1 := hc 1 _ rfl
      have d2 := hc 2 _ rfl
      have het := evsD_take hd
      obtain ⟨x0, x1, x2⟩ := d
      simp only [Nat.zero_add, Nat.add_zero] at d0 d1 d2 het
      have i1 : (0 : Int) ≤ (k : Int) := by omega
      have i2 : (k : Int) < 4 := by omega
      have hal : Below wr.heap.size wr (wr.alloc (.cells #[.int .i64 x0, .int .i64 x1, .int .i64 x2] 88)) := (Below.refl _ _).alloc (Nat.le_refl _) _
      have HO := Lib.hid (And.intro (hO.next hal) (And.intro (Lies.new wr 88 #[.int .i64 x0, .int .i64 x1, .int .i64 x2]) het))
      clear hO hd hal het hc
      go_upto_region 5 with fail
      clear d0 d1 d2
      change Code.wp _ _ _ _ (wr.alloc (.cells #[.int .i64 x0, .int .i64 x1, .int .i64 x2] 88))
      generalize wr.alloc (.cells #[.int .i64 x0, .int .i64 x1, .int .i64 x2] 88) = W2 at HO ⊢
      generalize wr.heap.size = Y at HO ⊢
      have e0 := Lies.cell HO.out.2.1 0
      have e1 := Lies.cell HO.out.2.1 1
      have e2 := Lies.cell HO.out.2.1 2
      simp only [List.getElem?_toArray, List.getElem?_cons_zero, List.getElem?_cons_succ] at e0 e1 e2
      have hO4 := HO.out.1.next ((Below.refl _ _).alloc (Nat.le_refl _) (.cells #[.int .i64 0, .int .i64 0, .int .i64 x0, .int .i64 x1, .int .i64 0, .int .i64 0, .int .i64 0, .int .i64 x2] 52))
      have hown := hO4.own
      have hsz := hO4.sz
      have hnew := new_cells W2 52 (evCs ⟨0, 0, x0, x1⟩ ++ evCs ⟨0, 0, 0, x2⟩)
      have hlen : (evsD (swapD.take k)).length ≤ 65536 := by
        rw [evsD_len, List.length_take]
        omega
      obtain ⟨Av, cv, hvv⟩ := own_sliceE hO4.own
      have HZ := Lib.hid (And.intro hO4 HO.out.2.2)
      obtain ⟨acc, hacc⟩ : ∃ acc, acc = evsD (swapD.take k) := ⟨_, rfl⟩
      have HACC := Lib.hid hacc
      rw [← hacc] at hown hlen hvv
      rw [hvv] at hown ⊢
      clear hO4 hacc
      go_wp2_with (at_builtin; refine wpList_app_ev2 rfl (.tmp 14) (.tmp 23) rfl (w.heap.size + 1) W2.heap.size _ acc ⟨0, 0, x0, x1⟩ ⟨0, 0, 0, x2⟩ rfl rfl hown hnew hlen hsz ?_; intro v' w7 ho7 hb7 _)
      go_roundw
      case rel => exact ⟨k + 1, by omega, by go_num, ⟨HZ.out.1.below.trans (hb7.mono (by omega)), HZ.out.1.dos.below hb7, by rw [HZ.out.2, ← HACC.out]; exact ho7, Nat.le_trans HZ.out.1.sz hb7.size⟩⟩
      case measure => simp [intOf]; omega
    · obtain rfl : k = 4 := by omega
      have hown : EOwn wr (w.heap.size + 1) u1 swapE := hO.own
      have HZ := Lib.hid (And.intro hO.below hown)
      obtain ⟨Av, cv, rfl⟩ := own_sliceE hown
      clear hO hown
      go_wp2_with fail
      go_ret
      exact ⟨_, _, rfl, HZ.out.2.rd, HZ.out.1⟩
end Go.Proofs.Ythjmncngegchjaa

/-
  Two lists that are the same at each place.
-/
namespace Go.Proofs.Ythjmncngegchjaa
set_option maxRecDepth 20000

theorem take_eq {α : Type} {xs ys : List α} (hl : xs.length = ys.length) (h : ∀ (j : Nat) (x y : α), xs[j]? = some x → ys[j]? = some y → x = y) : xs = ys := by
  apply List.ext_getElem hl
  intro j h1 h2
  exact h j _ _ (List.getElem?_eq_getElem h1) (List.getElem?_eq_getElem h2)

end Go.Proofs.Ythjmncngegchjaa

/-
  slices.Equal of two lists of spans.
-/
namespace Go.Proofs.Ythjmncngegchjaa
open Go.RowKit
set_option maxRecDepth 20000

theorem sn_ne (x0 x1 y0 y1 : Int) (h : (x0, x1) ≠ (y0, y1)) : (x0 == y0) = false ∨ (x0 = y0 ∧ (x1 == y1) = false) := by
  simp only [beq_eq_false_iff_ne]
  by_cases h0 : x0 = y0
  · right
    refine ⟨h0, fun h1 => h (by rw [h0, h1])⟩
  · exact .inl h0
set_option maxHeartbeats 2000000 in
theorem eqSn_any {B1 B2 : Nat} {v1 v2 : Value} {xs ys : List (Int × Int)} {w : World} (h1 : SnRd w B1 v1 xs) (h2 : SnRd w B2 v2 ys) :
    Calls Try.prog 12 #[v1, v2] w fun e w' => e = .returned (.bool (decide (xs = ys))) ∧ Below w.heap.size w w' := by
  obtain ⟨A1, c1, rfl, m1, m2⟩ := h1.is
  obtain ⟨A2, c2, rfl, m3, m4⟩ := h2.is
  unfold maxLen at m2 m4
  have H1 := Lib.hid h1
  have H2 := Lib.hid h2
  clear h1 h2
  obtain ⟨n, hn⟩ : ∃ n, n = xs.length := ⟨_, rfl⟩
  obtain ⟨n', hn'⟩ : ∃ n, n = ys.length := ⟨_, rfl⟩
  rw [← hn, ← hn']
  rw [← hn] at m1
  rw [← hn'] at m3
  have HN := Lib.hid hn
  have HN' := Lib.hid hn'
  clear hn hn'
  by_cases hl : n = n'
  · subst hl
    go_enter Try.func12, Try.ntmps12
    go_wp2_with fail
    go_loopw [13] (fun i wr => ∃ k : Nat, k ≤ n ∧ i = .int .i64 k ∧ (∀ (j : Nat) (x y : Int × Int), j < k → xs[j]? = some x → ys[j]? = some y → x = y) ∧ ∃ nq, wr = w.drewN nq) (fun i _ => n - (intOf i).toNat)
    case atStart => exact ⟨0, by omega, rfl, fun j x y hj => by omega, 0, rfl⟩
    case round =>
      obtain ⟨k, hk, rfl, ha, nq, rfl⟩ := hrel
      have HA := Lib.hid ha
      clear ha
      by_cases hkn : k < n
      · obtain ⟨x, hx⟩ : ∃ x, xs[k]? = some x := ⟨_, List.getElem?_eq_getElem (by rw [← HN.out]; exact hkn)⟩
        obtain ⟨y, hy⟩ : ∃ y, ys[k]? = some y := ⟨_, List.getElem?_eq_getElem (by rw [← HN'.out]; exact hkn)⟩
        have h1' := H1.out
        have h2' := H2.out
        rw [← HN.out] at h1'
        rw [← HN'.out] at h2'
        obtain ⟨g1, o1, rfl, -, b0, b1⟩ := sn_at h1' hx
        obtain ⟨g2, o2, rfl, -, d0, d1⟩ := sn_at h2' hy
        have HX := Lib.hid (And.intro hx hy)
        clear h1' h2' hx hy
        have i1 : (0 : Int) ≤ (k : Int) := by omega
        have i2 : (k : Int) < (n : Int) := by omega
        by_cases hxy : x = y
        · have HXY := Lib.hid hxy
          subst hxy
          obtain ⟨x0, x1⟩ := x
          go_wp2_with fail
          go_quiet (fail)
          go_wp2_with fail
          go_roundw
          case rel => exact ⟨k + 1, by omega, by go_num, fun j a b hj ha hb => by
            rcases Nat.lt_or_ge j k with h | h
            · exact HA.out j a b h ha hb
            · obtain rfl : j = k := by omega
              rw [HX.out.1] at ha
              rw [HX.out.2] at hb
              exact Option.some.inj (ha.symm.trans hb), _, rfl⟩
          case measure => simp [intOf]; omega
        · obtain ⟨x0, x1⟩ := x
          obtain ⟨y0, y1⟩ := y
          simp only at b0 b1 d0 d1
          have hz := sn_ne _ _ _ _ hxy
          have HXY := Lib.hid hxy
          clear hxy
          rcases hz with hz | ⟨rfl, hz⟩
          all_goals (
            go_wp2_with fail
            go_quiet (fail)
            go_wp2_with fail
            go_ret
            exact ⟨ret_bool (decide_eq_false (fun e => HXY.out (by
              have h1 := HX.out.1
              rw [e, HX.out.2] at h1
              exact (Option.some.inj h1).symm))).symm, belowN (belowN (Below.refl _ _) _) _⟩)
      · obtain rfl : k = n := by omega
        go_wp2_with fail
        go_ret
        exact ⟨ret_bool (decide_eq_true (take_eq (HN.out.symm.trans HN'.out) (fun j x y hx hy => HA.out j x y (by rw [HN.out]; exact (List.getElem?_eq_some_iff.1 hx).1) hx hy))).symm, belowN (Below.refl _ _) _⟩
  · have hz : ((n : Int) != (n' : Int)) = true := by rw [bne_iff_ne]; omega
    have hne : decide (xs = ys) = false := decide_eq_false (fun e => hl (by rw [HN.out, HN'.out, e]))
    rw [hne]
    clear hne hl
    go_enter Try.func12, Try.ntmps12
    go_wp2_with fail
    go_ret
    exact ⟨rfl, Below.refl _ _⟩
end Go.Proofs.Ythjmncngegchjaa

/-
  Contract of alibkeep.ok.
-/
namespace Go.Proofs.Ythjmncngegchjaa
open Go.RowKit
set_option maxRecDepth 20000
theorem all_zero {xs : List Int} (h : ∀ j, j < xs.length → xs.getD j 0 = 0) : ∀ x ∈ xs, x = 0 := by
  intro x hx
  obtain ⟨j, hj, rfl⟩ := List.getElem_of_mem hx
  have := h j hj
  rwa [List.getD_eq_getElem?_getD, List.getElem?_eq_getElem hj] at this
theorem not_all_zero {xs : List Int} {k : Nat} (hk : k < xs.length) (h : xs.getD k 0 ≠ 0) : ¬ ∀ x ∈ xs, x = 0 := fun ha => by
  rw [List.getD_eq_getElem?_getD, List.getElem?_eq_getElem hk] at h
  exact h (ha _ (List.getElem_mem hk))
theorem ok_any {B : Nat} {v : Value} {xs : List Int} {w : World} (h : IRd w B v xs) (hn : xs.length ≤ 1000000) :
    Calls Try.prog 15 #[v] w fun e w' => e = .returned (.bool (decide (∀ x ∈ xs, x = 0))) ∧ w = w' := by
  obtain ⟨A, c, rfl, k⟩ := h
  have HK := Lib.hid k
  clear k
  go_enter Try.func15, Try.ntmps15
  go_wp2_with fail
  go_loopw [7] (fun i wr => ∃ k : Nat, k ≤ xs.length ∧ i = .int .i64 k ∧ (∀ j, j < k → xs.getD j 0 = 0) ∧ w = wr) (fun i _ => xs.length - (intOf i).toNat)
  case atStart => exact ⟨0, by omega, rfl, fun j hj => by omega, rfl⟩
  case round =>
    obtain ⟨k, hk, rfl, ha, rfl⟩ := hrel
    have HA := Lib.hid ha
    clear ha
    by_cases hkn : k < xs.length
    · obtain ⟨g, rfl, hg, hc⟩ := HK.out (by omega)
      have d1 : w.cell? ⟨g, k, none⟩ = some (.int .i64 (xs.getD k 0)) := hc k hkn
      clear hc
      have i1 : (0 : Int) ≤ (k : Int) := by omega
      have i2 : (k : Int) < (xs.length : Int) := by omega
      generalize hxk : xs.getD k 0 = x at d1
      have HXK := Lib.hid hxk
      clear hxk
      by_cases hx : x = 0
      · subst hx
        go_wp2_with fail
        go_roundw
        case rel => exact ⟨k + 1, by omega, by go_num, fun j hj => by
          rcases Nat.lt_or_ge j k with h | h
          · exact HA.out j h
          · obtain rfl : j = k := by omega
            exact HXK.out, by trivial⟩
        case measure => simp [intOf]; omega
      · have hz : (x != 0) = true := by rw [bne_iff_ne]; exact hx
        have HX := Lib.hid hx
        clear hx
        go_wp2_with fail
        go_ret
        exact ⟨congrArg (fun b => Ending.returned (.bool b)) (decide_eq_false (not_all_zero hkn (by rw [HXK.out]; exact HX.out))).symm, rfl⟩
    · have hkn' : k = xs.length := by omega
      subst hkn'
      go_wp2_with fail
      go_ret
      exact ⟨congrArg (fun b => Ending.returned (.bool b)) (decide_eq_true (all_zero HA.out)).symm, rfl⟩
/-- A slice that was just written out. -/
theorem IRd.fresh (w : World) (t : TypeId) (xs : List Int) (n : Nat) (hn : n = xs.length) (cs : Array Value) (hcs : cs = (xs.map (Value.int .i64)).toArray) :
    IRd (w.alloc (.cells cs t)) (w.heap.size + 1) (.slice (some ⟨w.heap.size, 0, none⟩) n n) xs := by
  subst hn
  refine ⟨_, _, rfl, fun _ => ⟨_, rfl, by omega, fun j hj => ?_⟩⟩
  rw [cell_of_row _ _ j cs t (0, 0) (heap_alloc_new w _), hcs]
  simp [hj]
theorem ok_zero {B : Nat} {v : Value} {xs : List Int} {w : World} (h : IRd w B v xs) (hz : ∀ x ∈ xs, x = 0) (hn : xs.length ≤ 1000000) :
    Calls Try.prog 15 #[v] w fun e w' => e = .returned (.bool true) ∧ w = w' := by
  have := ok_any h hn
  rw [decide_eq_true hz] at this
  exact this
theorem ok_not {B : Nat} {v : Value} {xs : List Int} {w : World} (h : IRd w B v xs) {x : Int} (hx : x ∈ xs) (hz : x ≠ 0) (hn : xs.length ≤ 1000000) :
    Calls Try.prog 15 #[v] w fun e w' => e = .returned (.bool false) ∧ w = w' := by
  have := ok_any h hn
  rw [decide_eq_false (fun k => hz (k x hx))] at this
  exact this
end Go.Proofs.Ythjmncngegchjaa

/-
  alibkeep.rowsLives answers true.
-/
namespace Go.Proofs.Ythjmncngegchjaa
open Go.RowKit Go.Maps
set_option maxRecDepth 20000

theorem rsw_ok : rowsE swapE = 0 := by decide +kernel
theorem rsw_kind : (badQ (callsOf [2] swapE).1).kind = 6 := by decide +kernel
theorem rsw_a : (badQ (callsOf [2] swapE).1).a = 1 := by decide +kernel
theorem rsw_b : (badQ (callsOf [2] swapE).1).b = 2 := by decide +kernel
theorem rsw_bad : badQ (callsOf [2] swapE).1 = ⟨6, 1, 2⟩ := by
  have h1 := rsw_kind
  have h2 := rsw_a
  have h3 := rsw_b
  cases h : badQ (callsOf [2] swapE).1
  rw [h] at h1 h2 h3
  simp only at h1 h2 h3
  subst h1 h2 h3
  rfl
theorem rsw_stays : staysL (callsOf [2] swapE).1 = [(1, 5), (3, 3)] := by decide +kernel
theorem rsw4_ok : rowsE (swapE.take 4) = 0 := by decide +kernel
theorem rsw4_kind : (badQ (callsOf [2] (swapE.take 4)).1).kind = 0 := by decide +kernel
theorem rsw_forms {w w' : World} {e : Ending} (h : CheckR w swapE e w') : e = .returned (.tuple #[.bool false, .agg #[.int .i64 6, .int .i64 1, .int .i64 2], .int .i64 0]) ∧ Below w.heap.size w w' := by
  obtain ⟨hb, ⟨h1, _⟩ | ⟨_, h2⟩⟩ := h
  · exact absurd rsw_ok h1
  · rw [rsw_bad] at h2
    exact ⟨h2, hb⟩
def swap4 : List Ev := swapE.take 4
theorem rsw4_forms {w w' : World} {e : Ending} (h : CheckR w swap4 e w') : e = .returned (.tuple #[.bool true, .agg #[.int .i64 0, .int .i64 0, .int .i64 0], .int .i64 0]) ∧ Below w.heap.size w w' := by
  obtain ⟨hb, ⟨h1, _⟩ | ⟨_, h2⟩⟩ := h
  · exact absurd rsw4_ok h1
  · have h3 : badQ (callsOf [2] swap4).1 = noBz := by
      rcases (rowsE_que rsw4_ok).bad with ⟨e, _⟩ | ⟨_, _, _, _, _, _, e⟩ | ⟨_, _, _, _, _, _, _, _, _, _, _, _, e⟩ | ⟨_, _, _, _, _, _, _, _, _, _, _, e⟩ | ⟨_, _, _, _, _, _, e⟩ | ⟨_, _, _, _, _, _, _, _, _, _, e⟩
      · exact e
      all_goals
        have h4 := rsw4_kind
        rw [e] at h4
        cases h4
    rw [h3] at h2
    exact ⟨h2, hb⟩
set_option maxHeartbeats 4000000 in
theorem rlives_any (w : World) : Calls Try.prog 13 #[] w fun e w' => e = .returned (.bool true) ∧ Below w.heap.size w w' := by
  go_enter Try.func13, Try.ntmps13
  go_wp2_with fail
  refine (swapped_any _).mono ?_
  rintro e w1 ⟨A1, c1, rfl, he1, hb1⟩
  have HC := Lib.hid (rcheck_any he1)
  have H1 := Lib.hid hb1
  clear he1 hb1
  go_wp2_with fail
  refine HC.out.mono ?_
  intro e w2 hck
  obtain ⟨rfl, hb2⟩ := rsw_forms hck
  have hb3 : Below w.heap.size w (w2.alloc (.cells #[.int .i64 6, .int .i64 1, .int .i64 2] 28)) := (H1.out.trans (hb2.mono H1.out.size)).alloc (H1.out.trans (hb2.mono H1.out.size)).size _
  have H2 := Lib.hid (And.intro hb3 (Lies.new w2 28 #[.int .i64 6, .int .i64 1, .int .i64 2]))
  clear hb2 HC H1 hb3 hck
  go_wp2_with fail
  change Calls _ _ _ (w2.alloc (.cells #[.int .i64 6, .int .i64 1, .int .i64 2] 28)) _
  generalize w2.alloc (.cells #[.int .i64 6, .int .i64 1, .int .i64 2] 28) = W3 at H2 ⊢
  generalize w2.heap.size = G at H2 ⊢
  refine (swapped_any _).mono ?_
  rintro e w4 ⟨A4, c4, rfl, he4, hb4⟩
  have h44 := LRd.take_ he4 (n := 4) (by decide)
  have HC := Lib.hid (rcheck_any (l := swap4) h44)
  have H4 := Lib.hid (And.intro (H2.out.1.trans (hb4.mono H2.out.1.size)) (Lies.below H2.out.2 hb4 H2.out.2.lt))
  obtain ⟨g4, o4, rfl, -⟩ := LRd.at_ he4 (k := 0) rfl
  obtain ⟨_, _, hcs, hcl, hcm⟩ := he4.is
  injection hcs with hcs1 hcs2 hcs3
  subst hcs1 hcs3
  clear hcs2
  unfold maxLen at hcm
  have c8 : (8 : Nat) ≤ c4 := hcl
  clear he4 hb4 H2 h44 hcl
  go_wp2_with fail
  refine HC.out.mono ?_
  intro e w5 hck
  obtain ⟨rfl, hb5⟩ := rsw4_forms hck
  have hbw := H4.out.1.trans (hb5.mono H4.out.1.size)
  have hb6 : Below w5.heap.size w5 (w5.alloc (.cells #[.int .i64 0, .int .i64 0, .int .i64 0] 28)) := (Below.refl _ _).alloc (Nat.le_refl _) _
  have hl5 := Lies.below H4.out.2 hb5 H4.out.2.lt
  have H5 := Lib.hid (And.intro (hbw.trans (hb6.mono hbw.size)) (Lies.below hl5 hb6 hl5.lt))
  clear hb5 HC H4 hck hbw hb6 hl5
  go_wp2_with fail
  change Calls _ _ _ (w5.alloc (.cells #[.int .i64 0, .int .i64 0, .int .i64 0] 28)) _
  generalize w5.alloc (.cells #[.int .i64 0, .int .i64 0, .int .i64 0] 28) = W6 at H5 ⊢
  refine (swapped_any _).mono ?_
  rintro e w7 ⟨A7, c7, rfl, he7, hb7⟩
  have HC := Lib.hid (rstaysF_any he7)
  have H7 := Lib.hid (And.intro (H5.out.1.trans (hb7.mono H5.out.1.size)) (Lies.below H5.out.2 hb7 H5.out.2.lt))
  clear he7 hb7 H5
  go_wp2_with fail
  refine HC.out.mono ?_
  rintro e w8 ⟨hb8, h⟩
  have h' : ∃ v, e = .returned (.tuple #[v, .int .i64 0]) ∧ SnRd w8 w8.heap.size v [(1, 5), (3, 3)] := by
    rcases h with ⟨h1, _⟩ | ⟨_, h1⟩
    · exact absurd rsw_ok h1
    · rw [rsw_stays] at h1
      exact h1
  obtain ⟨v, rfl, hv⟩ := h'
  obtain ⟨Av, cv, rfl, -, -⟩ := hv.is
  have H8 := Lib.hid (And.intro (H7.out.1.trans (hb8.mono H7.out.1.size)) (And.intro (Lies.below H7.out.2 hb8 H7.out.2.lt) hv))
  clear HC H7 hb8 h hv
  simp only [List.length_cons, List.length_nil]
  have hal2 : Below w8.heap.size w8 (w8.alloc (.cells #[.int .i64 0, .int .i64 0, .int .i64 0] 24)) := (Below.refl _ _).alloc (Nat.le_refl _) _
  have H9 := Lib.hid (And.intro (H8.out.1.trans (hal2.mono H8.out.1.size)) (And.intro (Lies.below H8.out.2.1 hal2 H8.out.2.1.lt) ((H8.out.2.2.below hal2).mono hal2.size)))
  have HOK := Lib.hid (ok_zero (IRd.fresh w8 24 [0, 0, 0] 3 rfl #[.int .i64 0, .int .i64 0, .int .i64 0] rfl) (by decide) (by decide))
  clear hal2 H8
  go_wp2_with fail
  refine HOK.out.mono ?_
  rintro e w9 ⟨rfl, rfl⟩
  have g0 := Lies.cell H9.out.2.1 0
  have g1 := Lies.cell H9.out.2.1 1
  have g2 := Lies.cell H9.out.2.1 2
  simp only [List.getElem?_toArray, List.getElem?_cons_zero, List.getElem?_cons_succ] at g0 g1 g2
  generalize w8.alloc (.cells #[.int .i64 0, .int .i64 0, .int .i64 0] 24) = W8 at H9 g0 g1 g2 ⊢
  have hal : Below W8.heap.size W8 (W8.alloc (.cells #[.int .i64 1, .int .i64 5, .int .i64 3, .int .i64 3] 35)) := (Below.refl _ _).alloc (Nat.le_refl _) _
  have hN : SnRd (W8.alloc (.cells #[.int .i64 1, .int .i64 5, .int .i64 3, .int .i64 3] 35)) (W8.heap.size + 1) (.slice (some ⟨W8.heap.size, 0, none⟩) 2 2) [(1, 5), (3, 3)] :=
    LRd.of_lit (f := snCs) (s := 2) (w := W8) (l := [(1, 5), (3, 3)]) (fun _ => rfl) 35 (cs := #[.int .i64 1, .int .i64 5, .int .i64 3, .int .i64 3]) rfl (n := 2) rfl (by unfold maxLen; omega)
  have HEQ := Lib.hid (eqSn_any (H9.out.2.2.below hal) hN)
  have HA := Lib.hid (H9.out.1.alloc H9.out.1.size (.cells #[.int .i64 1, .int .i64 5, .int .i64 3, .int .i64 3] 35))
  clear hal hN HOK H9
  go_wp2_with fail
  refine HEQ.out.mono ?_
  rintro e w9 ⟨rfl, hb9⟩
  have HZ := Lib.hid (HA.out.trans (hb9.mono HA.out.size))
  clear hb9 HEQ HA
  go_wp2_with fail
  go_ret
  exact ⟨rfl, HZ.out⟩
end Go.Proofs.Ythjmncngegchjaa
