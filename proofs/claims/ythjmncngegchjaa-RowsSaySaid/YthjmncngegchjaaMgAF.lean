/-
  Joined by a program out of: AppRow, RMem, HistSmall, RSmall.
-/
import Derived.Test.YthjmncngegchjaaMgAE
import Derived.Deep.AppendLies
import Derived.Laws.StructEq
import Derived.Deep.CutRange

/-
  append(s, x): s the call's own row of things of several cells, x one more, in a new block: the run, at Oper.wp, at a list, at a step of a region that draws.
-/
namespace Go.Proofs.Ythjmncngegchjaa
open Go.RowKit
set_option maxRecDepth 20000
theorem info_cl : (Try.prog.info? 49).map (fun i => (i.zero, i.size, i.bytes)) = some (some (clV default), 7, 56) := by kernel_rfl
theorem info_of {P : Program} {t : TypeId} {z : Option Value} {s b : Nat} (h : (P.info? t).map (fun i => (i.zero, i.size, i.bytes)) = some (z, s, b)) : ∃ i, P.info? t = some i ∧ i.zero = z ∧ i.size = s ∧ i.bytes = b := by
  cases hi : P.info? t with
  | none => rw [hi] at h; cases h
  | some i =>
    rw [hi] at h
    simp only [Option.map_some, Option.some.injEq, Prod.mk.injEq] at h
    exact ⟨i, rfl, h.1, h.2.1, h.2.2⟩
theorem run_app_cl {W : World} {base G : Nat} {v : Value} {l : List Cl} {y : Cl} (ty : TypeId) (hown : COwn W base v l) (hG : ∀ j u, (clCs y)[j]? = some u → W.cell? ⟨G, j, none⟩ = some u) (hlen : l.length ≤ 65536) (hbase : base ≤ W.heap.size) :
    ∃ v' w', (Builtin.append_ #[31, 31] ty #[v, .slice (some ⟨G, 0, none⟩) 1 1]).run Try.prog W = .ok v' w' ∧ COwn w' base v' (l ++ [y]) ∧ Below base W w' ∧ W.grownBy w' v.ownBlock := by
  obtain ⟨i0, hi, hz0, hz1, hz2⟩ := info_of info_cl
  have hl := World.ownsRow.lt hown
  obtain ⟨v', w', hr, h2, h3, _⟩ := run_append_own (P := Try.prog) W base 31 ty 49 i0 (clV default) 7 56 Try.underlying31 hi hz0 hz1 hz2 rfl (by decide) v l.length (l.flatMap clCs) hown
    ⟨G, 0, none⟩ 1 1 (clCs y) rfl (fun j u hu => by
      rw [Addr.add_lit, Nat.zero_add]
      exact hG j u hu) (fun u hu => by
      simp only [List.mem_cons, List.not_mem_nil, or_false] at hu
      rcases hu with rfl | rfl | rfl | rfl | rfl | rfl | rfl <;> rfl) (by unfold maxLen; omega) (by omega) hbase
  refine ⟨v', w', hr, ?_, (Below.refl base W).grown h3 hbase (fun k hk => (hl k hk).1), h3⟩
  unfold COwn
  rw [List.length_append, List.flatMap_append]
  simpa using h2
theorem own_slice {w : World} {B : Nat} {v : Value} {l : List Cl} (h : COwn w B v l) : ∃ A c, v = .slice A l.length c := by
  obtain ⟨A, c, h, _⟩ := h.rd.is
  exact ⟨A, c, h⟩
theorem wp_app_cl {W : World} {o : Oper} {a : Act} {K : Act → World → Prop} {Q : Exit → Act → World → Prop} (s x : Operand)
    (ho : o.op = .call { callee := .builtin .append, args := #[s, x], argTypes := #[31, 31] })
    (base G : Nat) (v : Value) (l : List Cl) (y : Cl) (hs : a.eval s = v) (hx : a.eval x = .slice (some ⟨G, 0, none⟩) 1 1) (hown : COwn W base v l) (hG : ∀ j u, (clCs y)[j]? = some u → W.cell? ⟨G, j, none⟩ = some u) (hlen : l.length ≤ 65536) (hbase : base ≤ W.heap.size)
    (h : ∀ v' w', COwn w' base v' (l ++ [y]) → Below base W w' → W.grownBy w' v.ownBlock → K (a.put o.dst v') w') : Oper.wp Try.prog o a W K Q := by
  obtain ⟨v', w', hrun, r1, r2, r3⟩ := run_app_cl o.type hown hG hlen hbase
  unfold Oper.wp
  simp [execOp, ho, resolve, invoke, builtin, hs, hx, hrun, Result.andThen]
  exact h v' w' r1 r2 r3
theorem wpList_app_cl {W : World} {ops : Array Oper} {rest : List Oper} {o : Oper} {a : Act} {Q : Exit → Act → World → Prop} (hgd : o.guard = none) (s x : Operand)
    (ho : o.op = .call { callee := .builtin .append, args := #[s, x], argTypes := #[31, 31] })
    (base G : Nat) (v : Value) (l : List Cl) (y : Cl) (hs : a.eval s = v) (hx : a.eval x = .slice (some ⟨G, 0, none⟩) 1 1) (hown : COwn W base v l) (hG : ∀ j u, (clCs y)[j]? = some u → W.cell? ⟨G, j, none⟩ = some u) (hlen : l.length ≤ 65536) (hbase : base ≤ W.heap.size)
    (h : ∀ v' w', COwn w' base v' (l ++ [y]) → Below base W w' → W.grownBy w' v.ownBlock → wpList Try.prog ops Q rest (a.put o.dst v') w') : wpList Try.prog ops Q (o :: rest) a W :=
  wpList_plain hgd fun _ hK => wp_app_cl s x ho base G v l y hs hx hown hG hlen hbase fun v' w' h1 h2 h3 => hK _ _ (h v' w' h1 h2 h3)
theorem step_app_cl {W : World} {ops : Array Oper} {o : Oper} {a : Act} {K : Act → World → Prop} {Q : Exit → Act → World → Prop} {E : Prop} (hgd : o.guard = none) (s x : Operand)
    (ho : o.op = .call { callee := .builtin .append, args := #[s, x], argTypes := #[31, 31] })
    (base G : Nat) (v : Value) (l : List Cl) (y : Cl) (hs : a.eval s = v) (hx : a.eval x = .slice (some ⟨G, 0, none⟩) 1 1) (hown : COwn W base v l) (hG : ∀ j u, (clCs y)[j]? = some u → W.cell? ⟨G, j, none⟩ = some u) (hlen : l.length ≤ 65536) (hbase : base ≤ W.heap.size)
    (h : ∀ v' w', COwn w' base v' (l ++ [y]) → Below base W w' → W.grownBy w' v.ownBlock → K (a.put o.dst v') w') :
    if Region.wanted o (yielded ops a.tmps) = true then Oper.wp Try.prog o a W K Q else E := by
  have hw : Region.wanted o (yielded ops a.tmps) = true := by simp [Region.wanted, hgd]
  rw [if_pos hw]
  exact wp_app_cl s x ho base G v l y hs hx hown hG hlen hbase h
end Go.Proofs.Ythjmncngegchjaa

/-
  What package rows keeps in memory: maps from values to calls, the record.
-/
namespace Go.Proofs.Ythjmncngegchjaa
open Go.RowKit Go.Maps
open Go.ChangeShapes (lits)
set_option maxRecDepth 20000

theorem NMap.belowB {w w' : World} {B b n : Nat} {F : Int → Option Int} (h : NMap w b n F) (hb : Below B w w') (hB : b < B) : NMap w' b n F := h.keep (hb.block b hB)
theorem NMap.congr {w : World} {b n : Nat} {F G : Int → Option Int} (h : NMap w b n F) (e : ∀ k, F k = G k) : NMap w b n G := by
  rw [← (funext e : F = G)]
  exact h
/-- What a map gives: the number that is there, or 0. -/
theorem NMap.val {w : World} {b n : Nat} {F : Int → Option Int} (h : NMap w b n F) (k : Int) (h0 : -1000000 ≤ k) (h1 : k ≤ 1000000) :
    (Instr.lookup 74 (.map (some b)) (.int .i64 k) true).run Try.prog w = .ok (.tuple #[.int .i64 ((F k).getD 0), .bool (F k).isSome]) w ∧ (Instr.lookup 74 (.map (some b)) (.int .i64 k) false).run Try.prog w = .ok (.int .i64 ((F k).getD 0)) w := by
  obtain ⟨D, h, h2⟩ := h
  obtain ⟨v, ps, hrun, hv⟩ := h.look_ok keyed_int Try.underlying74 (zero_num w) (zd := nuDat 0) (zp := []) (nuR_mk _) (key_int h0 h1)
  obtain ⟨v', ps', hrun', hv'⟩ := h.lookup keyed_int Try.underlying74 (zero_num w) (zd := nuDat 0) (zp := []) (nuR_mk _) (key_int h0 h1)
  obtain ⟨r, rfl, hd⟩ := nuR_inv hv
  obtain ⟨r', rfl, hd'⟩ := nuR_inv hv'
  have hat : D.atKey (.int .i64 k) (nuDat 0) = nuDat ((F k).getD 0) := by
    cases hF : F k with
    | none => exact atKey_of_not_has (by rw [(h2 k).1, hF]; rfl) _
    | some y => exact (h2 k).2 y hF _
  rw [hat] at hd hd'
  rw [← (h2 k).1]
  exact ⟨by rw [nuDat_inj hd]; exact hrun, by rw [nuDat_inj hd']; exact hrun'⟩
/-- m[k] = v, as it runs. -/
theorem NMap.store {w : World} {b n : Nat} {F : Int → Option Int} (h : NMap w b n F) (k r : Int) (h0 : -1000000 ≤ k) (h1 : k ≤ 1000000) (hn : n ≤ 1000000000000) :
    ∃ w', (Instr.mapUpdate 74 (.map (some b)) (.int .i64 k) (.int .i64 r)).run Try.prog w = .ok () w' ∧ NMap w' b (n + 1) (fun c => if c = k then some r else F c) ∧ w.grownBy w' (some b) := by
  obtain ⟨D, h, h2⟩ := h
  obtain ⟨w', hrun, h3, h4⟩ := h.update keyed_int Try.underlying74 (by unfold maxLen; omega) (key_int h0 h1) (nuR_mk r)
  refine ⟨w', hrun, ⟨_, h3, fun c => ?_⟩, h4⟩
  by_cases e : c = k
  · subst e
    simp only [if_true]
    refine ⟨has_put_same h.isMap (by first | exact trivial | decide | simp [WideAt.IsKeyLit]) _, fun y hy zd => ?_⟩
    injection hy with hy
    subst hy
    exact atKey_put_same (k := .int .i64 c) h.isMap (by first | exact trivial | decide | simp [WideAt.IsKeyLit]) _ _
  · simp only [e, if_false]
    have hne : (Lit.int .i64 k) ≠ .int .i64 c := fun h5 => e (Eq.symm (by injection h5))
    refine ⟨(has_put_other hne.symm _).trans (h2 c).1, fun y hy zd => ?_⟩
    rw [atKey_put_other hne.symm]
    exact (h2 c).2 y hy zd
/-- What stands in the record. -/
structure Rec (w : World) (B Q N : Nat) (A : Option Addr) (cap n : Nat) (cs : List Cl) (M1 M2 : Nat) (F1 F2 : Int → Option Int) : Prop where
  rcd : Lies w Q 76 #[.slice A n cap, .map (some M1), .map (some M2)]
  cls : CRd w B (.slice A n cap) cs
  enq : ∃ m, m ≤ N ∧ NMap w M1 m F1
  deq : ∃ m, m ≤ N ∧ NMap w M2 m F2
  sz : B ≤ M1 ∧ M1 < M2 ∧ M2 < Q
section
variable {w w' : World} {B Q N N' : Nat} {A : Option Addr} {cap n : Nat} {cs : List Cl} {M1 M2 : Nat} {F1 F2 G1 G2 : Int → Option Int}
theorem Rec.next (h : Rec w B Q N A cap n cs M1 M2 F1 F2) (hb : Below w.heap.size w w') : Rec w' B Q N A cap n cs M1 M2 F1 F2 := by
  obtain ⟨m1, a1, a2⟩ := h.enq
  obtain ⟨m2, b1, b2⟩ := h.deq
  have h1 := h.sz
  have h2 := h.rcd.lt
  exact ⟨Lies.below h.rcd hb h.rcd.lt, h.cls.below (hb.mono (by omega)), ⟨m1, a1, a2.below hb⟩, ⟨m2, b1, b2.below hb⟩, h1⟩
theorem Rec.drew (h : Rec w B Q N A cap n cs M1 M2 F1 F2) : Rec w.drew B Q N A cap n cs M1 M2 F1 F2 := by
  obtain ⟨m1, a1, a2⟩ := h.enq
  obtain ⟨m2, b1, b2⟩ := h.deq
  exact ⟨h.rcd, h.cls, ⟨m1, a1, a2.keep rfl⟩, ⟨m2, b1, b2.keep rfl⟩, h.sz⟩
theorem Rec.more (h : Rec w B Q N A cap n cs M1 M2 F1 F2) (hN : N ≤ N') (e1 : ∀ k, F1 k = G1 k) (e2 : ∀ k, F2 k = G2 k) : Rec w B Q N' A cap n cs M1 M2 G1 G2 := by
  obtain ⟨m1, a1, a2⟩ := h.enq
  obtain ⟨m2, b1, b2⟩ := h.deq
  exact ⟨h.rcd, h.cls, ⟨m1, by omega, a2.congr e1⟩, ⟨m2, by omega, b2.congr e2⟩, h.sz⟩
/-- m[k] = v in the one map. -/
theorem Rec.put1 (h : Rec w B Q N A cap n cs M1 M2 F1 F2) (hg : w.grownBy w' (some M1)) (hm : ∃ m, m ≤ N + 1 ∧ NMap w' M1 m G1) : Rec w' B Q (N + 1) A cap n cs M1 M2 G1 F2 ∧ Below B w w' := by
  obtain ⟨m2, b1, b2⟩ := h.deq
  have h1 := h.sz
  have h2 := h.rcd.lt
  have hb : Below M1 w w' := ⟨hg.os, hg.tape, hg.output, hg.size, fun i hi => hg.block i (by omega) (fun e => by injection e with e; omega)⟩
  exact ⟨⟨Lies.keep h.rcd (hg.block Q h2 (fun e => by injection e with e; omega)), h.cls.below (hb.mono h1.1), hm, ⟨m2, by omega, b2.keep (hg.block M2 (by omega) (fun e => by injection e with e; omega))⟩, h1⟩, hb.mono h1.1⟩
theorem Rec.put2 (h : Rec w B Q N A cap n cs M1 M2 F1 F2) (hg : w.grownBy w' (some M2)) (hm : ∃ m, m ≤ N + 1 ∧ NMap w' M2 m G2) : Rec w' B Q (N + 1) A cap n cs M1 M2 F1 G2 ∧ Below B w w' := by
  obtain ⟨m1, b1, b2⟩ := h.enq
  have h1 := h.sz
  have h2 := h.rcd.lt
  have hb : Below M2 w w' := ⟨hg.os, hg.tape, hg.output, hg.size, fun i hi => hg.block i (by omega) (fun e => by injection e with e; omega)⟩
  exact ⟨⟨Lies.keep h.rcd (hg.block Q h2 (fun e => by injection e with e; omega)), h.cls.below (hb.mono (by omega)), ⟨m1, by omega, b2.keep (hg.block M1 (by omega) (fun e => by injection e with e; omega))⟩, hm, h1⟩, hb.mono (by omega)⟩
end
end Go.Proofs.Ythjmncngegchjaa

/-
  Contracts of the small functions of package history and of its reference: ranges, kinds, what may be asked and answered.
-/
namespace Go.Proofs.Ythjmncngegchjaa
open Go.RowKit
set_option maxRecDepth 20000
theorem within_any (n a b : Int) (w : World) : Calls Try.prog 50 #[.int .i64 n, .int .i64 a, .int .i64 b] w fun e w' => e = .returned (.bool (btw a n b)) ∧ w = w' := by
  by_cases h1 : a ≤ n
  · by_cases h2 : n ≤ b
    · have h : btw a n b = true := btw_iff.2 ⟨h1, h2⟩
      rw [h]
      clear h
      go_enter Try.func50, Try.ntmps50
      go_wp2
      go_ret
      exact ⟨rfl, rfl⟩
    · have h : btw a n b = false := btw_not.2 fun h => h2 h.2
      rw [h]
      clear h
      go_enter Try.func50, Try.ntmps50
      go_wp2
      go_ret
      exact ⟨rfl, rfl⟩
  · have h : btw a n b = false := btw_not.2 fun h => h1 h.1
    rw [h]
    clear h
    go_enter Try.func50, Try.ntmps50
    go_wp2
    go_ret
    exact ⟨rfl, rfl⟩
theorem within_yes {n a b : Int} (w : World) (h : a ≤ n ∧ n ≤ b) : Calls Try.prog 50 #[.int .i64 n, .int .i64 a, .int .i64 b] w fun e w' => e = .returned (.bool true) ∧ w = w' := by
  have := within_any n a b w
  rwa [btw_iff.2 h] at this
theorem within_no {n a b : Int} (w : World) (h : ¬ (a ≤ n ∧ n ≤ b)) : Calls Try.prog 50 #[.int .i64 n, .int .i64 a, .int .i64 b] w fun e w' => e = .returned (.bool false) ∧ w = w' := by
  have := within_any n a b w
  rwa [btw_not.2 h] at this
theorem kind_ways (k : Int) : k = 1 ∨ k = 2 ∨ k = 3 ∨ k = 4 ∨ k = 5 ∨ k = 6 ∨ k = 7 ∨ k = 8 ∨ k = 9 ∨ k = 10 ∨
    ((k == 1) = false ∧ (k == 2) = false ∧ (k == 3) = false ∧ (k == 4) = false ∧ (k == 5) = false ∧ (k == 6) = false ∧ (k == 7) = false ∧ (k == 8) = false ∧ (k == 9) = false ∧ (k == 10) = false) := by
  simp only [beq_eq_false_iff_ne]
  omega
theorem kindType_other {k : Int} (h : (k == 1) = false ∧ (k == 2) = false ∧ (k == 3) = false ∧ (k == 4) = false ∧ (k == 5) = false ∧ (k == 6) = false ∧ (k == 7) = false ∧ (k == 8) = false ∧ (k == 9) = false ∧ (k == 10) = false) : kindType k = 0 := by
  simp only [beq_eq_false_iff_ne] at h
  unfold kindType
  (repeat' split) <;> omega
theorem takes_other {k v : Int} (h : (k == 1) = false ∧ (k == 2) = false ∧ (k == 3) = false ∧ (k == 4) = false ∧ (k == 5) = false ∧ (k == 6) = false ∧ (k == 7) = false ∧ (k == 8) = false ∧ (k == 9) = false ∧ (k == 10) = false) : takesB k v = (v == 0) := by
  simp only [beq_eq_false_iff_ne] at h
  unfold takesB
  split
  · omega
  · rfl
theorem gives_other {k v : Int} (h : (k == 1) = false ∧ (k == 2) = false ∧ (k == 3) = false ∧ (k == 4) = false ∧ (k == 5) = false ∧ (k == 6) = false ∧ (k == 7) = false ∧ (k == 8) = false ∧ (k == 9) = false ∧ (k == 10) = false) : givesB k v = (v == 0) := by
  simp only [beq_eq_false_iff_ne] at h
  unfold givesB
  (repeat' split) <;> first | omega | rfl
set_option maxHeartbeats 1000000 in
theorem typeOf_any (k : Int) (w : World) : Calls Try.prog 62 #[.int .i64 k] w fun e w' => e = .returned (.int .i64 (kindType k)) ∧ w = w' := by
  rcases kind_ways k with rfl | rfl | rfl | rfl | rfl | rfl | rfl | rfl | rfl | rfl | h
  all_goals try (
    go_enter Try.func62, Try.ntmps62
    go_wp2
    go_ret
    exact ⟨rfl, rfl⟩)
  rw [kindType_other h]
  obtain ⟨h1, h2, h3, h4, h5, h6, h7, h8, h9, h10⟩ := h
  go_enter Try.func62, Try.ntmps62
  go_wp2
  go_ret
  exact ⟨rfl, rfl⟩
set_option maxHeartbeats 2000000 in
theorem takes_any (k v : Int) (w : World) : Calls Try.prog 58 #[.int .i64 k, .int .i64 v] w fun e w' => e = .returned (.bool (takesB k v)) ∧ w = w' := by
  rcases kind_ways k with rfl | rfl | rfl | rfl | rfl | rfl | rfl | rfl | rfl | rfl | h
  all_goals try (
    show Calls _ _ _ _ fun e w' => e = .returned (.bool (btw 1 v 1000)) ∧ w = w'
    go_enter Try.func58, Try.ntmps58
    go_wp2_with (go_at_call 50; (with_reducible refine (within_any _ _ _ _).mono ?_); rintro e w' ⟨rfl, rfl⟩)
    go_ret
    exact ⟨rfl, rfl⟩)
  all_goals try (
    show Calls _ _ _ _ fun e w' => e = .returned (.bool (v == 0)) ∧ w = w'
    generalize hv : (v == 0) = d
    go_enter Try.func58, Try.ntmps58
    go_wp2
    go_ret
    exact ⟨rfl, rfl⟩)
  rw [takes_other h]
  obtain ⟨h1, h2, h3, h4, h5, h6, h7, h8, h9, h10⟩ := h
  generalize hv : (v == 0) = d
  go_enter Try.func58, Try.ntmps58
  go_wp2
  go_ret
  exact ⟨rfl, rfl⟩
set_option maxHeartbeats 2000000 in
theorem gives_any (k v : Int) (w : World) : Calls Try.prog 56 #[.int .i64 k, .int .i64 v] w fun e w' => e = .returned (.bool (givesB k v)) ∧ w = w' := by
  rcases kind_ways k with rfl | rfl | rfl | rfl | rfl | rfl | rfl | rfl | rfl | rfl | h
  all_goals try (
    show Calls _ _ _ _ fun e w' => e = .returned (.bool (btw 0 v 1000)) ∧ w = w'
    go_enter Try.func56, Try.ntmps56
    go_wp2_with (go_at_call 50; (with_reducible refine (within_any _ _ _ _).mono ?_); rintro e w' ⟨rfl, rfl⟩)
    go_ret
    exact ⟨rfl, rfl⟩)
  all_goals try (
    show Calls _ _ _ _ fun e w' => e = .returned (.bool (btw 0 v 1)) ∧ w = w'
    go_enter Try.func56, Try.ntmps56
    go_wp2_with (go_at_call 50; (with_reducible refine (within_any _ _ _ _).mono ?_); rintro e w' ⟨rfl, rfl⟩)
    go_ret
    exact ⟨rfl, rfl⟩)
  all_goals try (
    show Calls _ _ _ _ fun e w' => e = .returned (.bool (v == 0)) ∧ w = w'
    generalize hv : (v == 0) = d
    go_enter Try.func56, Try.ntmps56
    go_wp2
    go_ret
    exact ⟨rfl, rfl⟩)
  all_goals try (
    show Calls _ _ _ _ fun e w' => e = .returned (.bool (v == -1 || btw 1 v 1000)) ∧ w = w'
    by_cases h1 : v = -1
    · subst h1
      go_enter Try.func56, Try.ntmps56
      go_wp2
      go_ret
      exact ⟨rfl, rfl⟩
    · have hz : (v == -1) = false := by rw [beq_eq_false_iff_ne]; exact h1
      rw [hz, Bool.false_or]
      clear h1
      go_enter Try.func56, Try.ntmps56
      go_wp2_with (go_at_call 50; (with_reducible refine (within_any _ _ _ _).mono ?_); rintro e w' ⟨rfl, rfl⟩)
      go_ret
      exact ⟨rfl, rfl⟩)
  rw [gives_other h]
  obtain ⟨h1, h2, h3, h4, h5, h6, h7, h8, h9, h10⟩ := h
  generalize hv : (v == 0) = d
  go_enter Try.func56, Try.ntmps56
  go_wp2
  go_ret
  exact ⟨rfl, rfl⟩
theorem fits_any (t k : Int) (w : World) : Calls Try.prog 57 #[.int .i64 t, .int .i64 k] w fun e w' => e = .returned (.bool (fitsB t k)) ∧ w = w' := by
  by_cases h : t = 0
  · subst h
    have e : fitsB 0 k = false := by simp [fitsB]
    rw [e]
    go_enter Try.func57, Try.ntmps57
    go_wp2
    go_ret
    exact ⟨rfl, rfl⟩
  · have hz : (t != 0) = true := by rw [bne_iff_ne]; exact h
    have e : fitsB t k = (t == kindType k) := by
      unfold fitsB
      rw [Bool.eq_iff_iff, decide_eq_true_iff, beq_iff_eq]
      exact ⟨fun h => h.2, fun h' => ⟨h, h'⟩⟩
    rw [e]
    clear h e
    generalize hd : (t == kindType k) = d
    go_enter Try.func57, Try.ntmps57
    go_wp2_with (go_at_call 62; (with_reducible refine (typeOf_any _ _).mono ?_); rintro e w' ⟨rfl, rfl⟩)
    go_ret
    exact ⟨rfl, rfl⟩
end Go.Proofs.Ythjmncngegchjaa

/-
  Contracts of the small functions of package rows.
-/
namespace Go.Proofs.Ythjmncngegchjaa
open Go.RowKit Go.Maps
set_option maxRecDepth 20000

theorem rresp_any (c : Cl) (w : World) : Calls Try.prog 37 #[clV c] w fun e w' => e = .returned (.bool (c.til != -1)) ∧ Below w.heap.size w w' := by
  generalize hv : (c.til != -1) = d
  go_enter Try.func37, Try.ntmps37
  go_wp2
  go_ret
  exact ⟨rfl, (Below.refl _ _).alloc (Nat.le_refl _) _⟩
theorem rfound_any (c : Cl) (w : World) : Calls Try.prog 40 #[clV c] w fun e w' => e = .returned (.bool (c.res == -1)) ∧ Below w.heap.size w w' := by
  generalize hv : (c.res == -1) = d
  go_enter Try.func40, Try.ntmps40
  go_wp2
  go_ret
  exact ⟨rfl, (Below.refl _ _).alloc (Nat.le_refl _) _⟩
theorem rprec_any (c d : Cl) (w : World) : Calls Try.prog 43 #[clV c, clV d] w fun e w' => e = .returned (.bool (precB c d)) ∧ Below w.heap.size w w' := by
  obtain ⟨a0, a1, a2, a3, a4, a5, a6⟩ := c
  obtain ⟨b0, b1, b2, b3, b4, b5, b6⟩ := d
  have e : precB ⟨a0, a1, a2, a3, a4, a5, a6⟩ ⟨b0, b1, b2, b3, b4, b5, b6⟩ = (a6 != -1 && decide (a6 < b5)) := rfl
  rw [e]
  obtain ⟨P, hP⟩ : ∃ P, P = (a6 != -1 && decide (a6 < b5)) := ⟨_, rfl⟩
  rw [← hP]
  have HP := Lib.hid hP
  clear hP
  obtain ⟨W, hW⟩ : ∃ W, W = (w.alloc (.cells #[.int .i64 a0, .int .i64 a1, .int .i64 a2, .int .i64 a3, .int .i64 a4, .int .i64 a5, .int .i64 a6] 49)).alloc (.cells #[.int .i64 b0, .int .i64 b1, .int .i64 b2, .int .i64 b3, .int .i64 b4, .int .i64 b5, .int .i64 b6] 49) := ⟨_, rfl⟩
  have hbb : Below w.heap.size w W := by rw [hW]; exact ((Below.refl _ _).alloc (Nat.le_refl _) _).alloc (by simp) _
  have l1 : Lies W w.heap.size 49 #[.int .i64 a0, .int .i64 a1, .int .i64 a2, .int .i64 a3, .int .i64 a4, .int .i64 a5, .int .i64 a6] := by rw [hW]; exact Lies.alloc (Lies.new _ _ _) _
  have l2 : Lies W (w.heap.size + 1) 49 #[.int .i64 b0, .int .i64 b1, .int .i64 b2, .int .i64 b3, .int .i64 b4, .int .i64 b5, .int .i64 b6] := by
    rw [hW]
    have := Lies.new (w.alloc (.cells #[.int .i64 a0, .int .i64 a1, .int .i64 a2, .int .i64 a3, .int .i64 a4, .int .i64 a5, .int .i64 a6] 49)) 49 #[.int .i64 b0, .int .i64 b1, .int .i64 b2, .int .i64 b3, .int .i64 b4, .int .i64 b5, .int .i64 b6]
    rw [World.size_alloc] at this
    exact this
  have HB := Lib.hid (And.intro hbb (And.intro l1 l2))
  have HW := Lib.hid hW
  have HR := Lib.hid (rresp_any ⟨a0, a1, a2, a3, a4, a5, a6⟩)
  clear e hbb l1 l2 hW
  go_enter Try.func43, Try.ntmps43
  go_wp2_with fail
  refine ((HR.out _).mono ?_)
  rw [← HW.out]
  rintro e w1 ⟨rfl, hb1⟩
  have k1 := Lies.below HB.out.2.1 hb1 HB.out.2.1.lt
  have k2 := Lies.below HB.out.2.2 hb1 HB.out.2.2.lt
  have c6 := Lies.cell k1 6
  have d5 := Lies.cell k2 5
  simp only [List.getElem?_toArray, List.getElem?_cons_zero, List.getElem?_cons_succ] at c6 d5
  have HZ := Lib.hid (HB.out.1.trans (hb1.mono HB.out.1.size))
  clear k1 k2 hb1 HB HR
  simp only
  by_cases h1 : a6 = -1
  · have hz : (a6 != -1) = false := by rw [h1]; rfl
    have HQ := Lib.hid hz
    clear h1
    go_wp2_with fail
    go_ret
    exact ⟨by rw [HP.out, HQ.out]; rfl, HZ.out⟩
  · have hz : (a6 != -1) = true := by rw [bne_iff_ne]; exact h1
    have HQ := Lib.hid hz
    clear h1
    go_wp2_with fail
    go_ret
    exact ⟨by rw [HP.out, HQ.out, Bool.true_and]; rfl, HZ.out⟩
/-- What one more call makes of the record: may it be, and the two maps. -/
def addQ (F1 F2 : Int → Option Int) (k : Int) (c : Cl) : Bool × (Int → Option Int) × (Int → Option Int) :=
  if c.kind = 3 then (!(F1 c.arg).isSome, (fun v => if v = c.arg then some k else F1 v), F2)
  else if c.til = -1 then (false, F1, F2)
  else (true, F1, if (F2 c.res).isSome = false ∧ c.res ≠ -1 then (fun v => if v = c.res then some k else F2 v) else F2)
set_option maxHeartbeats 8000000 in
theorem radd_any {w : World} {B Q N : Nat} {A : Option Addr} {cap n : Nat} {cs : List Cl} {M1 M2 : Nat} {F1 F2 : Int → Option Int} (h : Rec w B Q N A cap n cs M1 M2 F1 F2) (hN : N ≤ 1000) (k : Int) (c : Cl) (hc : (c.kind = 3 ∧ 1 ≤ c.arg ∧ c.arg ≤ 1000) ∨ (c.kind = 4 ∧ -1 ≤ c.res ∧ c.res ≤ 1000)) :
    Calls Try.prog 35 #[.pointer (some ⟨Q, 0, none⟩), .int .i64 k, clV c] w fun e w' => e = .returned (.bool (addQ F1 F2 k c).1) ∧ Rec w' B Q (N + 1) A cap n cs M1 M2 (addQ F1 F2 k c).2.1 (addQ F1 F2 k c).2.2 ∧ Below B w w' := by
  obtain ⟨x0, x1, x2, x3, x4, x5, x6⟩ := c
  obtain ⟨W, hW⟩ : ∃ W, W = w.alloc (.cells #[.int .i64 x0, .int .i64 x1, .int .i64 x2, .int .i64 x3, .int .i64 x4, .int .i64 x5, .int .i64 x6] 49) := ⟨_, rfl⟩
  have hal : Below w.heap.size w W := by rw [hW]; exact (Below.refl _ _).alloc (Nat.le_refl _) _
  have hBs : B ≤ w.heap.size := by have := h.sz; have := h.rcd.lt; omega
  have H0 := Lib.hid (And.intro (h.next hal) (And.intro (show Lies W w.heap.size 49 #[.int .i64 x0, .int .i64 x1, .int .i64 x2, .int .i64 x3, .int .i64 x4, .int .i64 x5, .int .i64 x6] by rw [hW]; exact Lies.new _ _ _) (And.intro (hal.mono hBs) hN)))
  have HW := Lib.hid hW
  simp only at hc
  clear h hal hBs hW hN
  rcases hc with ⟨rfl, ha1, ha2⟩ | ⟨rfl, ha1, ha2⟩
  · -- one that puts
    have e0 : addQ F1 F2 k ⟨x0, x1, 3, x3, x4, x5, x6⟩ = (!(F1 x3).isSome, (fun v => if v = x3 then some k else F1 v), F2) := rfl
    rw [e0]
    clear e0
    obtain ⟨m0, hm0, hmp0⟩ := H0.out.1.drew.enq
    have hlk := (hmp0.val x3 (by omega) (by omega)).1
    obtain ⟨m1, hm1, hmp⟩ := H0.out.1.drew.drew.enq
    obtain ⟨W2, hrun, hmp2, hg⟩ := hmp.store x3 k (by omega) (by omega) (by have := H0.out.2.2.2; omega)
    have HP := Lib.hid (H0.out.1.drew.drew.put1 hg ⟨m1 + 1, by omega, hmp2⟩)
    have r1 := Lies.cell H0.out.1.rcd 1
    have c2 := Lies.cell H0.out.2.1 2
    have c3 := Lies.cell H0.out.2.1 3
    simp only [List.getElem?_toArray, List.getElem?_cons_zero, List.getElem?_cons_succ] at r1 c2 c3
    generalize (F1 x3).getD 0 = z at hlk
    generalize (F1 x3).isSome = ok at hlk ⊢
    have HB := Lib.hid H0.out.2.2.1.drew.drew
    clear hmp0 hm0 hmp hmp2 hg hm1 H0 ha1 ha2
    go_enter Try.func35, Try.ntmps35
    go_upto_region 1 with fail
    change Code.wp _ _ _ _ (w.alloc (.cells #[.int .i64 x0, .int .i64 x1, .int .i64 3, .int .i64 x3, .int .i64 x4, .int .i64 x5, .int .i64 x6] 49))
    rw [← HW.out]
    generalize w.heap.size = G at c2 c3 ⊢
    clear HW
    go_wp2_with fail
    go_region
    go_wp2_with fail
    go_region
    go_wp2_with fail
    go_ret
    exact ⟨rfl, HP.out.1, HB.out.trans HP.out.2⟩
  · -- one that takes
    obtain ⟨R, hR⟩ : ∃ R, R = addQ F1 F2 k ⟨x0, x1, 4, x3, x4, x5, x6⟩ := ⟨_, rfl⟩
    have e0 : R = if x6 = -1 then (false, F1, F2) else (true, F1, if (F2 x4).isSome = false ∧ x4 ≠ -1 then (fun v => if v = x4 then some k else F2 v) else F2) := hR
    rw [← hR]
    obtain ⟨R1, R2, R3⟩ := R
    have HE := Lib.hid e0
    clear e0 hR
    have HRS := Lib.hid (rresp_any ⟨x0, x1, 4, x3, x4, x5, x6⟩)
    have HFD := Lib.hid (rfound_any ⟨x0, x1, 4, x3, x4, x5, x6⟩)
    have c0 := Lies.cell H0.out.2.1 0
    have c1 := Lies.cell H0.out.2.1 1
    have c2 := Lies.cell H0.out.2.1 2
    have c3 := Lies.cell H0.out.2.1 3
    have c4 := Lies.cell H0.out.2.1 4
    have c5 := Lies.cell H0.out.2.1 5
    have c6 := Lies.cell H0.out.2.1 6
    simp only [List.getElem?_toArray, List.getElem?_cons_zero, List.getElem?_cons_succ] at c0 c1 c2 c3 c4 c5 c6
    have HA := Lib.hid (And.intro ha1 ha2)
    clear ha1 ha2
    simp only
    go_enter Try.func35, Try.ntmps35
    go_upto_region 1 with fail
    change Code.wp _ _ _ _ (w.alloc (.cells #[.int .i64 x0, .int .i64 x1, .int .i64 4, .int .i64 x3, .int .i64 x4, .int .i64 x5, .int .i64 x6] 49))
    rw [← HW.out]
    generalize w.heap.size = G at H0 c0 c1 c2 c3 c4 c5 c6 ⊢
    clear HW
    go_wp2_with fail
    refine ((HRS.out _).mono ?_)
    rintro e w1 ⟨rfl, hb1⟩
    have H1 := Lib.hid (And.intro (H0.out.1.next hb1) (And.intro (Lies.below H0.out.2.1 hb1 H0.out.2.1.lt) (And.intro (H0.out.2.2.1.trans (hb1.mono (by have := H0.out.1.sz; have := H0.out.1.rcd.lt; omega))) H0.out.2.2.2)))
    clear HRS hb1 H0 c0 c1 c2 c3 c4 c5 c6
    simp only
    by_cases ht : x6 = -1
    · have hE := HE.out
      rw [if_pos ht] at hE
      injection hE with e1 e2
      injection e2 with e2 e3
      subst e1 e2 e3 ht
      have HZ := Lib.hid (And.intro (H1.out.1.more (Nat.le_succ N) (fun _ => rfl) (fun _ => rfl)) H1.out.2.2.1)
      clear H1 HE
      go_wp2_with fail
      go_ret
      exact ⟨rfl, HZ.out⟩
    · have hE := HE.out
      rw [if_neg ht] at hE
      injection hE with e1 e2
      injection e2 with e2 e3
      subst e1 e2
      clear HE
      have hz : (x6 != -1) = true := by rw [bne_iff_ne]; exact ht
      rw [hz]
      clear ht hz
      obtain ⟨m0, hm0, hmp0⟩ := H1.out.1.drew.deq
      have hlk := (hmp0.val x4 (by have := HA.out; omega) (by have := HA.out; omega)).1
      have r2 := Lies.cell H1.out.1.rcd 2
      have c0 := Lies.cell H1.out.2.1 0
      have c1 := Lies.cell H1.out.2.1 1
      have c2 := Lies.cell H1.out.2.1 2
      have c3 := Lies.cell H1.out.2.1 3
      have c4 := Lies.cell H1.out.2.1 4
      have c5 := Lies.cell H1.out.2.1 5
      have c6 := Lies.cell H1.out.2.1 6
      simp only [List.getElem?_toArray, List.getElem?_cons_zero, List.getElem?_cons_succ] at r2 c0 c1 c2 c3 c4 c5 c6
      obtain ⟨ok, hok⟩ : ∃ ok, ok = (F2 x4).isSome := ⟨_, rfl⟩
      generalize (F2 x4).getD 0 = z at hlk
      rw [← hok] at hlk
      have HOK := Lib.hid (And.intro hok e3)
      clear hmp0 hm0 hok e3
      go_wp2_with fail
      go_region
      clear hlk r2
      have HFD2 := HFD
      clear HFD
      cases ok
      · go_wp2_with fail
        refine ((HFD2.out _).mono ?_)
        rintro e w2 ⟨rfl, hb2⟩
        have hr2 := H1.out.1.drew.next hb2
        have hl2 := Lies.below (show Lies w1.drew G 49 #[.int .i64 x0, .int .i64 x1, .int .i64 4, .int .i64 x3, .int .i64 x4, .int .i64 x5, .int .i64 x6] from H1.out.2.1) hb2 H1.out.2.1.lt
        have hbb := H1.out.2.2.1.drew.trans (hb2.mono (show B ≤ w1.drew.heap.size by have := H1.out.1.sz; have := H1.out.1.rcd.lt; show B ≤ w1.heap.size; omega))
        have H2 := Lib.hid (And.intro hr2 (And.intro hl2 (And.intro hbb H1.out.2.2.2)))
        clear HFD2 hb2 hr2 hl2 hbb H1 c0 c1 c2 c3 c4 c5 c6
        simp only
        by_cases h4 : x4 = -1
        · have hR3 : R3 = F2 := by rw [HOK.out.2, if_neg]; exact fun h => h.2 h4
          have HZ := Lib.hid (And.intro (H2.out.1.more (Nat.le_succ N) (fun _ => rfl) (fun v => congrFun hR3.symm v)) H2.out.2.2.1)
          have hz : (x4 == -1) = true := by rw [beq_iff_eq]; exact h4
          rw [hz]
          clear hR3 H2 HOK h4 hz
          go_wp2_with fail
          go_ret
          exact ⟨rfl, HZ.out⟩
        · have hR3 : R3 = (fun v => if v = x4 then some k else F2 v) := by rw [HOK.out.2, if_pos]; exact ⟨HOK.out.1.symm, h4⟩
          have hz : (x4 == -1) = false := by rw [beq_eq_false_iff_ne]; exact h4
          rw [hz]
          obtain ⟨m1, hm1, hmp⟩ := H2.out.1.drew.deq
          obtain ⟨W2, hrun, hmp2, hg⟩ := hmp.store x4 k (by have := HA.out; omega) (by have := HA.out; omega) (by have := H2.out.2.2.2; omega)
          have hput := H2.out.1.drew.put2 hg ⟨m1 + 1, by omega, hmp2⟩
          rw [← hR3] at hput
          have HP := Lib.hid hput
          have r2 := Lies.cell H2.out.1.rcd 2
          have c4 := Lies.cell H2.out.2.1 4
          simp only [List.getElem?_toArray, List.getElem?_cons_zero, List.getElem?_cons_succ] at r2 c4
          have HB := Lib.hid H2.out.2.2.1.drew
          clear hR3 hz h4 hmp hm1 hmp2 hg hput H2 HOK
          go_wp2_with fail
          go_region
          go_wp2_with fail
          go_ret
          exact ⟨rfl, HP.out.1, HB.out.trans HP.out.2⟩
      · have hR3 : R3 = F2 := by rw [HOK.out.2, if_neg]; rw [← HOK.out.1]; simp
        have HZ := Lib.hid (And.intro (H1.out.1.drew.more (Nat.le_succ N) (fun _ => rfl) (fun v => congrFun hR3.symm v)) H1.out.2.2.1.drew)
        clear hR3 H1 HOK
        go_wp2_with fail
        go_ret
        exact ⟨rfl, HZ.out⟩
end Go.Proofs.Ythjmncngegchjaa
