/-
  Joined by a program out of: ZMem, ZSmall.
-/
import Derived.Test.YtphhbojdolhieaaGreatDoorMgAB
import Derived.Test.YtphhbojdolhieaaGreatDoorMgAC
import Derived.Maps.OwnSet
import Derived.Maps.OwnOps
import Derived.Laws.StructEq
import Derived.Deep.CutRange

/-
  What package zones keeps in memory: writes in a map, reads and zones in rows.
-/
namespace Go.Proofs.YtphhbojdolhieaaGreatDoor
open Go.RowKit Go.Maps
open Go.ChangeShapes (lits)
set_option maxRecDepth 20000
instance : Inhabited Zop := ⟨⟨0, 0, 0, 0⟩⟩
instance : Inhabited Zn := ⟨⟨0, 0, 0, false⟩⟩
abbrev zoCs (r : Zop) : List Value := [.int .i64 r.index, .int .i64 r.value, .int .i64 r.frm, .int .i64 r.til]
abbrev zoV (r : Zop) : Value := .agg #[.int .i64 r.index, .int .i64 r.value, .int .i64 r.frm, .int .i64 r.til]
abbrev znCs (z : Zn) : List Value := [.int .i64 z.value, .int .i64 z.first, .int .i64 z.last, .bool z.fwd]
abbrev znV (z : Zn) : Value := .agg #[.int .i64 z.value, .int .i64 z.first, .int .i64 z.last, .bool z.fwd]
abbrev bzV (x : Bz) : Value := .agg #[.int .i64 x.kind, .int .i64 x.a, .int .i64 x.b]
abbrev bzCs (x : Bz) : List Value := [.int .i64 x.kind, .int .i64 x.a, .int .i64 x.b]
abbrev ZoRd (w : World) (B : Nat) (v : Value) (l : List Zop) : Prop := LRd 4 zoCs w B v l
abbrev ZnRd (w : World) (B : Nat) (v : Value) (l : List Zn) : Prop := LRd 4 znCs w B v l
abbrev BzRd (w : World) (B : Nat) (v : Value) (l : List Bz) : Prop := LRd 3 bzCs w B v l
def ZoOwn (w : World) (B : Nat) (v : Value) (l : List Zop) : Prop := w.ownsRow B 63 4 v l.length (l.flatMap zoCs)
def ZnOwn (w : World) (B : Nat) (v : Value) (l : List Zn) : Prop := w.ownsRow B 58 4 v l.length (l.flatMap znCs)
theorem ZoOwn.rd {w : World} {B : Nat} {v : Value} {l : List Zop} (h : ZoOwn w B v l) : ZoRd w w.heap.size v l := LRd.of_own (fun _ => rfl) h
theorem ZnOwn.rd {w : World} {B : Nat} {v : Value} {l : List Zn} (h : ZnOwn w B v l) : ZnRd w w.heap.size v l := LRd.of_own (fun _ => rfl) h
theorem ZoOwn.nil (w : World) (B : Nat) : ZoOwn w B (.slice none 0 0) [] := ⟨rfl, .inl ⟨rfl, rfl⟩⟩
theorem ZnOwn.nil (w : World) (B : Nat) : ZnOwn w B (.slice none 0 0) [] := ⟨rfl, .inl ⟨rfl, rfl⟩⟩
section
variable {w : World} {B : Nat} {A : Option Addr} {n cap k : Nat}
theorem zo_at {l : List Zop} (h : ZoRd w B (.slice A n cap) l) {x : Zop} (hk : l[k]? = some x) : ∃ g o, A = some ⟨g, o, none⟩ ∧ g < B ∧ w.cell? ⟨g, o + k * 4, none⟩ = some (.int .i64 x.index) ∧ w.cell? ⟨g, o + k * 4 + 1, none⟩ = some (.int .i64 x.value) ∧ w.cell? ⟨g, o + k * 4 + 2, none⟩ = some (.int .i64 x.frm) ∧ w.cell? ⟨g, o + k * 4 + 3, none⟩ = some (.int .i64 x.til) := by
  obtain ⟨g, o, hA, hg, hc⟩ := LRd.at_ h hk
  exact ⟨g, o, hA, hg, hc 0 _ rfl, hc 1 _ rfl, hc 2 _ rfl, hc 3 _ rfl⟩
theorem zn_at {l : List Zn} (h : ZnRd w B (.slice A n cap) l) {x : Zn} (hk : l[k]? = some x) : ∃ g o, A = some ⟨g, o, none⟩ ∧ g < B ∧ w.cell? ⟨g, o + k * 4, none⟩ = some (.int .i64 x.value) ∧ w.cell? ⟨g, o + k * 4 + 1, none⟩ = some (.int .i64 x.first) ∧ w.cell? ⟨g, o + k * 4 + 2, none⟩ = some (.int .i64 x.last) ∧ w.cell? ⟨g, o + k * 4 + 3, none⟩ = some (.bool x.fwd) := by
  obtain ⟨g, o, hA, hg, hc⟩ := LRd.at_ h hk
  exact ⟨g, o, hA, hg, hc 0 _ rfl, hc 1 _ rfl, hc 2 _ rfl, hc 3 _ rfl⟩
theorem bz_at {l : List Bz} (h : BzRd w B (.slice A n cap) l) {x : Bz} (hk : l[k]? = some x) : ∃ g o, A = some ⟨g, o, none⟩ ∧ g < B ∧ w.cell? ⟨g, o + k * 3, none⟩ = some (.int .i64 x.kind) ∧ w.cell? ⟨g, o + k * 3 + 1, none⟩ = some (.int .i64 x.a) ∧ w.cell? ⟨g, o + k * 3 + 2, none⟩ = some (.int .i64 x.b) := by
  obtain ⟨g, o, hA, hg, hc⟩ := LRd.at_ h hk
  exact ⟨g, o, hA, hg, hc 0 _ rfl, hc 1 _ rfl, hc 2 _ rfl⟩
end
theorem info_zo : (Tryz.prog.info? 63).map (fun i => (i.zero, i.size, i.bytes)) = some (some (zoV default), 4, 32) := by kernel_rfl
theorem info_zn : (Tryz.prog.info? 58).map (fun i => (i.zero, i.size, i.bytes)) = some (some (znV default), 4, 32) := by kernel_rfl
theorem run_app_zo {W : World} {base G : Nat} {v : Value} {l : List Zop} {y : Zop} (ty : TypeId) (hown : ZoOwn W base v l) (hG : ∀ j u, (zoCs y)[j]? = some u → W.cell? ⟨G, j, none⟩ = some u) (hlen : l.length ≤ 65536) (hbase : base ≤ W.heap.size) :
    ∃ v' w', (Builtin.append_ #[35, 35] ty #[v, .slice (some ⟨G, 0, none⟩) 1 1]).run Tryz.prog W = .ok v' w' ∧ ZoOwn w' base v' (l ++ [y]) ∧ Below base W w' ∧ W.grownBy w' v.ownBlock := by
  obtain ⟨i0, hi, hz0, hz1, hz2⟩ := info_of info_zo
  have hl := World.ownsRow.lt hown
  obtain ⟨v', w', hr, h2, h3, _⟩ := run_append_own (P := Tryz.prog) W base 35 ty 63 i0 (zoV default) 4 32 Tryz.underlying35 hi hz0 hz1 hz2 rfl (by decide) v l.length (l.flatMap zoCs) hown
    ⟨G, 0, none⟩ 1 1 (zoCs y) rfl (fun j u hu => by
      rw [Addr.add_lit, Nat.zero_add]
      exact hG j u hu) (fun u hu => by
      simp only [List.mem_cons, List.not_mem_nil, or_false] at hu
      rcases hu with rfl | rfl | rfl | rfl <;> rfl) (by unfold maxLen; omega) (by omega) hbase
  refine ⟨v', w', hr, ?_, (Below.refl base W).grown h3 hbase (fun k hk => (hl k hk).1), h3⟩
  unfold ZoOwn
  rw [List.length_append, List.flatMap_append]
  simpa using h2
theorem own_slice_zo {w : World} {B : Nat} {v : Value} {l : List Zop} (h : ZoOwn w B v l) : ∃ A c, v = .slice A l.length c := by
  obtain ⟨A, c, h, _⟩ := h.rd.is
  exact ⟨A, c, h⟩
theorem wp_app_zo {W : World} {o : Oper} {a : Act} {K : Act → World → Prop} {Q : Exit → Act → World → Prop} (s x : Operand)
    (ho : o.op = .call { callee := .builtin .append, args := #[s, x], argTypes := #[35, 35] })
    (base G : Nat) (v : Value) (l : List Zop) (y : Zop) (hs : a.eval s = v) (hx : a.eval x = .slice (some ⟨G, 0, none⟩) 1 1) (hown : ZoOwn W base v l) (hG : ∀ j u, (zoCs y)[j]? = some u → W.cell? ⟨G, j, none⟩ = some u) (hlen : l.length ≤ 65536) (hbase : base ≤ W.heap.size)
    (h : ∀ v' w', ZoOwn w' base v' (l ++ [y]) → Below base W w' → W.grownBy w' v.ownBlock → K (a.put o.dst v') w') : Oper.wp Tryz.prog o a W K Q := by
  obtain ⟨v', w', hrun, r1, r2, r3⟩ := run_app_zo o.type hown hG hlen hbase
  unfold Oper.wp
  simp [execOp, ho, resolve, invoke, builtin, hs, hx, hrun, Result.andThen]
  exact h v' w' r1 r2 r3
theorem wpList_app_zo {W : World} {ops : Array Oper} {rest : List Oper} {o : Oper} {a : Act} {Q : Exit → Act → World → Prop} (hgd : o.guard = none) (s x : Operand)
    (ho : o.op = .call { callee := .builtin .append, args := #[s, x], argTypes := #[35, 35] })
    (base G : Nat) (v : Value) (l : List Zop) (y : Zop) (hs : a.eval s = v) (hx : a.eval x = .slice (some ⟨G, 0, none⟩) 1 1) (hown : ZoOwn W base v l) (hG : ∀ j u, (zoCs y)[j]? = some u → W.cell? ⟨G, j, none⟩ = some u) (hlen : l.length ≤ 65536) (hbase : base ≤ W.heap.size)
    (h : ∀ v' w', ZoOwn w' base v' (l ++ [y]) → Below base W w' → W.grownBy w' v.ownBlock → wpList Tryz.prog ops Q rest (a.put o.dst v') w') : wpList Tryz.prog ops Q (o :: rest) a W :=
  wpList_plain hgd fun _ hK => wp_app_zo s x ho base G v l y hs hx hown hG hlen hbase fun v' w' h1 h2 h3 => hK _ _ (h v' w' h1 h2 h3)
theorem step_app_zo {W : World} {ops : Array Oper} {o : Oper} {a : Act} {K : Act → World → Prop} {Q : Exit → Act → World → Prop} {E : Prop} (hgd : o.guard = none) (s x : Operand)
    (ho : o.op = .call { callee := .builtin .append, args := #[s, x], argTypes := #[35, 35] })
    (base G : Nat) (v : Value) (l : List Zop) (y : Zop) (hs : a.eval s = v) (hx : a.eval x = .slice (some ⟨G, 0, none⟩) 1 1) (hown : ZoOwn W base v l) (hG : ∀ j u, (zoCs y)[j]? = some u → W.cell? ⟨G, j, none⟩ = some u) (hlen : l.length ≤ 65536) (hbase : base ≤ W.heap.size)
    (h : ∀ v' w', ZoOwn w' base v' (l ++ [y]) → Below base W w' → W.grownBy w' v.ownBlock → K (a.put o.dst v') w') :
    if Region.wanted o (yielded ops a.tmps) = true then Oper.wp Tryz.prog o a W K Q else E := by
  have hw : Region.wanted o (yielded ops a.tmps) = true := by simp [Region.wanted, hgd]
  rw [if_pos hw]
  exact wp_app_zo s x ho base G v l y hs hx hown hG hlen hbase h
theorem run_app_zn {W : World} {base G : Nat} {v : Value} {l : List Zn} {y : Zn} (ty : TypeId) (hown : ZnOwn W base v l) (hG : ∀ j u, (znCs y)[j]? = some u → W.cell? ⟨G, j, none⟩ = some u) (hlen : l.length ≤ 65536) (hbase : base ≤ W.heap.size) :
    ∃ v' w', (Builtin.append_ #[40, 40] ty #[v, .slice (some ⟨G, 0, none⟩) 1 1]).run Tryz.prog W = .ok v' w' ∧ ZnOwn w' base v' (l ++ [y]) ∧ Below base W w' ∧ W.grownBy w' v.ownBlock := by
  obtain ⟨i0, hi, hz0, hz1, hz2⟩ := info_of info_zn
  have hl := World.ownsRow.lt hown
  obtain ⟨v', w', hr, h2, h3, _⟩ := run_append_own (P := Tryz.prog) W base 40 ty 58 i0 (znV default) 4 32 Tryz.underlying40 hi hz0 hz1 hz2 rfl (by decide) v l.length (l.flatMap znCs) hown
    ⟨G, 0, none⟩ 1 1 (znCs y) rfl (fun j u hu => by
      rw [Addr.add_lit, Nat.zero_add]
      exact hG j u hu) (fun u hu => by
      simp only [List.mem_cons, List.not_mem_nil, or_false] at hu
      rcases hu with rfl | rfl | rfl | rfl <;> rfl) (by unfold maxLen; omega) (by omega) hbase
  refine ⟨v', w', hr, ?_, (Below.refl base W).grown h3 hbase (fun k hk => (hl k hk).1), h3⟩
  unfold ZnOwn
  rw [List.length_append, List.flatMap_append]
  simpa using h2
theorem own_slice_zn {w : World} {B : Nat} {v : Value} {l : List Zn} (h : ZnOwn w B v l) : ∃ A c, v = .slice A l.length c := by
  obtain ⟨A, c, h, _⟩ := h.rd.is
  exact ⟨A, c, h⟩
theorem wp_app_zn {W : World} {o : Oper} {a : Act} {K : Act → World → Prop} {Q : Exit → Act → World → Prop} (s x : Operand)
    (ho : o.op = .call { callee := .builtin .append, args := #[s, x], argTypes := #[40, 40] })
    (base G : Nat) (v : Value) (l : List Zn) (y : Zn) (hs : a.eval s = v) (hx : a.eval x = .slice (some ⟨G, 0, none⟩) 1 1) (hown : ZnOwn W base v l) (hG : ∀ j u, (znCs y)[j]? = some u → W.cell? ⟨G, j, none⟩ = some u) (hlen : l.length ≤ 65536) (hbase : base ≤ W.heap.size)
    (h : ∀ v' w', ZnOwn w' base v' (l ++ [y]) → Below base W w' → W.grownBy w' v.ownBlock → K (a.put o.dst v') w') : Oper.wp Tryz.prog o a W K Q := by
  obtain ⟨v', w', hrun, r1, r2, r3⟩ := run_app_zn o.type hown hG hlen hbase
  unfold Oper.wp
  simp [execOp, ho, resolve, invoke, builtin, hs, hx, hrun, Result.andThen]
  exact h v' w' r1 r2 r3
theorem wpList_app_zn {W : World} {ops : Array Oper} {rest : List Oper} {o : Oper} {a : Act} {Q : Exit → Act → World → Prop} (hgd : o.guard = none) (s x : Operand)
    (ho : o.op = .call { callee := .builtin .append, args := #[s, x], argTypes := #[40, 40] })
    (base G : Nat) (v : Value) (l : List Zn) (y : Zn) (hs : a.eval s = v) (hx : a.eval x = .slice (some ⟨G, 0, none⟩) 1 1) (hown : ZnOwn W base v l) (hG : ∀ j u, (znCs y)[j]? = some u → W.cell? ⟨G, j, none⟩ = some u) (hlen : l.length ≤ 65536) (hbase : base ≤ W.heap.size)
    (h : ∀ v' w', ZnOwn w' base v' (l ++ [y]) → Below base W w' → W.grownBy w' v.ownBlock → wpList Tryz.prog ops Q rest (a.put o.dst v') w') : wpList Tryz.prog ops Q (o :: rest) a W :=
  wpList_plain hgd fun _ hK => wp_app_zn s x ho base G v l y hs hx hown hG hlen hbase fun v' w' h1 h2 h3 => hK _ _ (h v' w' h1 h2 h3)
theorem step_app_zn {W : World} {ops : Array Oper} {o : Oper} {a : Act} {K : Act → World → Prop} {Q : Exit → Act → World → Prop} {E : Prop} (hgd : o.guard = none) (s x : Operand)
    (ho : o.op = .call { callee := .builtin .append, args := #[s, x], argTypes := #[40, 40] })
    (base G : Nat) (v : Value) (l : List Zn) (y : Zn) (hs : a.eval s = v) (hx : a.eval x = .slice (some ⟨G, 0, none⟩) 1 1) (hown : ZnOwn W base v l) (hG : ∀ j u, (znCs y)[j]? = some u → W.cell? ⟨G, j, none⟩ = some u) (hlen : l.length ≤ 65536) (hbase : base ≤ W.heap.size)
    (h : ∀ v' w', ZnOwn w' base v' (l ++ [y]) → Below base W w' → W.grownBy w' v.ownBlock → K (a.put o.dst v') w') :
    if Region.wanted o (yielded ops a.tmps) = true then Oper.wp Tryz.prog o a W K Q else E := by
  have hw : Region.wanted o (yielded ops a.tmps) = true := by simp [Region.wanted, hgd]
  rw [if_pos hw]
  exact wp_app_zn s x ho base G v l y hs hx hown hG hlen hbase h
def zoDat (r : Zop) : DataW Unit := .slice (lits .i64 [r.index, r.value, r.frm, r.til]) []
def zoR : Value → Option (DataW Unit × List MemPlace)
  | .agg a => match a.toList with
    | [.int .i64 p, .int .i64 q, .int .i64 x, .int .i64 y] => some (zoDat ⟨p, q, x, y⟩, [])
    | _ => none
  | _ => none
theorem zoR_mk (r : Zop) : zoR (zoV r) = some (zoDat r, []) := rfl
theorem zoDat_inj {a b : Zop} (h : zoDat a = zoDat b) : a = b := by
  unfold zoDat at h
  injection h with h
  have := lits_inj h
  injection this with h1 h2
  injection h2 with h2 h3
  injection h3 with h3 h4
  injection h4 with h4 _
  cases a; cases b
  simp only at h1 h2 h3 h4
  subst h1 h2 h3 h4
  rfl
theorem zoR_inv {v : Value} {d : DataW Unit} {ps : List MemPlace} (h : zoR v = some (d, ps)) : ∃ r, v = zoV r ∧ d = zoDat r := by
  unfold zoR at h
  split at h
  · rename_i a
    split at h
    · rename_i p q x y e
      injection h with h
      injection h with h1 h2
      refine ⟨⟨p, q, x, y⟩, ?_, h1.symm⟩
      show Value.agg a = .agg _
      congr 1
      exact Array.ext' e
    · cases h
  · cases h
/-- Block b is a map of at most n numbers; what it holds for each is its write. -/
def ZMap (w : World) (b n : Nat) (F : Int → Option Zop) : Prop :=
  ∃ D : DataW Unit, w.ownsMap Tryz.prog 3 zoR b n D ∧ ∀ k : Int, has D (.int .i64 k) = (F k).isSome ∧ ∀ r, F k = some r → ∀ zd, D.atKey (.int .i64 k) zd = zoDat r
theorem ZMap.made (w : World) : ZMap (w.alloc (.map #[] 0)) w.heap.size 0 (fun _ => none) := ⟨_, World.ownsMap_made w _ _ _, fun _ => ⟨rfl, fun r h => by cases h⟩⟩
theorem ZMap.lt {w : World} {b n : Nat} {F : Int → Option Zop} (h : ZMap w b n F) : b < w.heap.size := by
  obtain ⟨D, h, _⟩ := h
  exact h.lt
theorem ZMap.keep {w w' : World} {b n : Nat} {F : Int → Option Zop} (h : ZMap w b n F) (e : w'.heap[b]? = w.heap[b]?) : ZMap w' b n F := by
  obtain ⟨D, ⟨es, clock, h1, h2, h3, h4⟩, h5⟩ := h
  exact ⟨D, ⟨es, clock, e.trans h1, h2, h3, h4⟩, h5⟩
theorem ZMap.below {w w' : World} {B b n : Nat} {F : Int → Option Zop} (h : ZMap w b n F) (hb : Below B w w') (hB : b < B) : ZMap w' b n F := h.keep (hb.block b hB)
theorem ZMap.congr {w : World} {b n : Nat} {F G : Int → Option Zop} (h : ZMap w b n F) (e : ∀ k, F k = G k) : ZMap w b n G := by
  rw [← (funext e : F = G)]
  exact h
theorem zero_zo (w : World) : (zeroValue 63).run Tryz.prog w = .ok (zoV default) w := by kernel_rfl
theorem keyed_z : Keyed Tryz.prog 3 := int_keyed Tryz.underlying3
theorem key_z {k : Int} (h0 : -1000000 ≤ k) (h1 : k ≤ 1000000) : keyOf Tryz.prog 3 (.int .i64 k) = some (.int .i64 k) := by
  simp [keyOf, Tryz.underlying3, mapKey]
  exact WalkArith.wf_i64 (by omega)
/-- What a map gives: the write of that value, or one that is all 0. -/
theorem ZMap.val {w : World} {b n : Nat} {F : Int → Option Zop} (h : ZMap w b n F) (k : Int) (h0 : -1000000 ≤ k) (h1 : k ≤ 1000000) :
    (Instr.lookup 34 (.map (some b)) (.int .i64 k) true).run Tryz.prog w = .ok (.tuple #[zoV ((F k).getD default), .bool (F k).isSome]) w ∧ (Instr.lookup 34 (.map (some b)) (.int .i64 k) false).run Tryz.prog w = .ok (zoV ((F k).getD default)) w := by
  obtain ⟨D, h, h2⟩ := h
  obtain ⟨v, ps, hrun, hv⟩ := h.look_ok keyed_z Tryz.underlying34 (zero_zo w) (zd := zoDat default) (zp := []) (zoR_mk _) (key_z h0 h1)
  obtain ⟨v', ps', hrun', hv'⟩ := h.lookup keyed_z Tryz.underlying34 (zero_zo w) (zd := zoDat default) (zp := []) (zoR_mk _) (key_z h0 h1)
  obtain ⟨r, rfl, hd⟩ := zoR_inv hv
  obtain ⟨r', rfl, hd'⟩ := zoR_inv hv'
  have hat : D.atKey (.int .i64 k) (zoDat default) = zoDat ((F k).getD default) := by
    cases hF : F k with
    | none => exact atKey_of_not_has (by rw [(h2 k).1, hF]; rfl) _
    | some y => exact (h2 k).2 y hF _
  rw [hat] at hd hd'
  rw [← (h2 k).1]
  exact ⟨by rw [zoDat_inj hd]; exact hrun, by rw [zoDat_inj hd']; exact hrun'⟩
/-- v, ok := m[k] -/
theorem ZMap.look {w : World} {ops : Array Oper} {rest : List Oper} {o : Oper} {a : Act} {Q : Exit → Act → World → Prop} (hg : o.guard = none) (m x : Operand) (hop : o.op = Op.lookup 34 m x true)
    {b n : Nat} {F : Int → Option Zop} (h : ZMap w b n F) (k : Int) (h0 : -1000000 ≤ k) (h1 : k ≤ 1000000) (hm : a.eval m = .map (some b)) (hx : a.eval x = .int .i64 k)
    (hK : ∀ r : Zop, (∀ y, F k = some y → r = y) → wpList Tryz.prog ops Q rest (a.put o.dst (.tuple #[zoV r, .bool (F k).isSome])) w) : wpList Tryz.prog ops Q (o :: rest) a w := by
  obtain ⟨D, h, h2⟩ := h
  refine wpList_lookup_own_ok w hg m x 34 hop 3 63 keyed_z Tryz.underlying34 zoR (zero_zo w) (zoDat default) [] (zoR_mk _) b n D hm h _ _ hx (key_z h0 h1) fun v ps hv => ?_
  obtain ⟨r, rfl, hd⟩ := zoR_inv hv
  rw [(h2 k).1]
  refine hK r fun y hF => ?_
  rw [(h2 k).2 y hF] at hd
  exact (zoDat_inj hd).symm
theorem ZMap.put {w : World} {ops : Array Oper} {rest : List Oper} {o : Oper} {a : Act} {Q : Exit → Act → World → Prop} (hg : o.guard = none) (m x v : Operand) (hop : o.op = Op.mapUpdate 34 m x v)
    {b n : Nat} {F : Int → Option Zop} (h : ZMap w b n F) (k : Int) (r : Zop) (h0 : -1000000 ≤ k) (h1 : k ≤ 1000000) (hn : n ≤ 1000000000000) (hm : a.eval m = .map (some b)) (hx : a.eval x = .int .i64 k) (hv : a.eval v = zoV r)
    (hK : ∀ w', ZMap w' b (n + 1) (fun c => if c = k then some r else F c) → w.grownBy w' (some b) → wpList Tryz.prog ops Q rest (a.put o.dst undef) w') : wpList Tryz.prog ops Q (o :: rest) a w := by
  obtain ⟨D, h, h2⟩ := h
  refine wpList_mapUpdate_own w hg m x v 34 hop 3 63 keyed_z Tryz.underlying34 zoR b n D hm h (by unfold maxLen; omega) _ _ _ hx hv (key_z h0 h1) _ [] (zoR_mk r) (fun w' h3 h4 => hK w' ⟨_, h3, fun c => ?_⟩ h4)
  by_cases e : c = k
  · subst e
    simp only [if_true]
    refine ⟨has_put_same h.isMap (by first | exact trivial | decide | simp [WideAt.IsKeyLit]) _, fun y hy zd => ?_⟩
    injection hy with hy
    subst hy
    exact atKey_put_same (k := .int .i64 c) h.isMap (by first | exact trivial | decide | simp [WideAt.IsKeyLit]) _ _
  · simp only [e, if_false]
    have hne : (Lit.int .i64 k) ≠ .int .i64 c := fun h5 => e (Eq.symm (by injection h5))
    refine ⟨(has_put_other hne.symm _).trans (h2 c).1, fun y hy zd => ?_⟩
    rw [atKey_put_other hne.symm]
    exact (h2 c).2 y hy zd
end Go.Proofs.YtphhbojdolhieaaGreatDoor

/-
  Contracts of the small functions of package zones, and of cmp.Or.
-/
namespace Go.Proofs.YtphhbojdolhieaaGreatDoor
open Go.RowKit
set_option maxRecDepth 20000
abbrev fill3 (w : World) (g : Nat) (a b c : Value) : World := ((w.setCell ⟨g, 0, none⟩ a).setCell ⟨g, 1, none⟩ b).setCell ⟨g, 2, none⟩ c
abbrev fill4 (w : World) (g : Nat) (a b c d : Value) : World := (((w.setCell ⟨g, 0, none⟩ a).setCell ⟨g, 1, none⟩ b).setCell ⟨g, 2, none⟩ c).setCell ⟨g, 3, none⟩ d
abbrev fill2 (w : World) (g : Nat) (a b : Value) : World := (w.setCell ⟨g, 0, none⟩ a).setCell ⟨g, 1, none⟩ b
section
variable {w w0 : World} {g B : Nat} {t : TypeId} {a b c d : Value}
theorem fill2_lies {x y : Value} (h : Lies w g t #[x, y]) : Lies (fill2 w g a b) g t #[a, b] := Lies.cast (Lies.set_ (Lies.set_ h 0 a) 1 b) (by simp)
theorem fill3_lies {x y z : Value} (h : Lies w g t #[x, y, z]) : Lies (fill3 w g a b c) g t #[a, b, c] := Lies.cast (Lies.set_ (Lies.set_ (Lies.set_ h 0 a) 1 b) 2 c) (by simp)
theorem fill4_lies {x y z u : Value} (h : Lies w g t #[x, y, z, u]) : Lies (fill4 w g a b c d) g t #[a, b, c, d] := Lies.cast (Lies.set_ (Lies.set_ (Lies.set_ (Lies.set_ h 0 a) 1 b) 2 c) 3 d) (by simp)
theorem fill2_below (h : Below B w0 w) (hg : B ≤ g) : Below B w0 (fill2 w g a b) := (h.setCell (p := ⟨g, 0, none⟩) hg _).setCell (p := ⟨g, 1, none⟩) hg _
theorem fill3_below (h : Below B w0 w) (hg : B ≤ g) : Below B w0 (fill3 w g a b c) := ((h.setCell (p := ⟨g, 0, none⟩) hg _).setCell (p := ⟨g, 1, none⟩) hg _).setCell (p := ⟨g, 2, none⟩) hg _
theorem fill4_below (h : Below B w0 w) (hg : B ≤ g) : Below B w0 (fill4 w g a b c d) := (((h.setCell (p := ⟨g, 0, none⟩) hg _).setCell (p := ⟨g, 1, none⟩) hg _).setCell (p := ⟨g, 2, none⟩) hg _).setCell (p := ⟨g, 3, none⟩) hg _
end
theorem zresp_any (c : Cl) (w : World) : Calls Tryz.prog 22 #[clV c] w fun e w' => e = .returned (.bool (c.til != -1)) ∧ Below w.heap.size w w' := by
  generalize hv : (c.til != -1) = d
  go_enter Tryz.func22, Tryz.ntmps22
  go_wp2
  go_ret
  exact ⟨rfl, (Below.refl _ _).alloc (Nat.le_refl _) _⟩
theorem zlap_any (a b : Zn) (w : World) : Calls Tryz.prog 26 #[znV a, znV b] w fun e w' => e = .returned (.bool (lapZ a b)) ∧ Below w.heap.size w w' := by
  obtain ⟨a0, a1, a2, a3⟩ := a
  obtain ⟨b0, b1, b2, b3⟩ := b
  have e : lapZ ⟨a0, a1, a2, a3⟩ ⟨b0, b1, b2, b3⟩ = (decide (a1 < b2) && decide (b1 < a2)) := by
    unfold lapZ
    rw [Bool.decide_and]
  rw [e]
  have hbb : Below w.heap.size w ((w.alloc (.cells #[.int .i64 a0, .int .i64 a1, .int .i64 a2, .bool a3] 58)).alloc (.cells #[.int .i64 b0, .int .i64 b1, .int .i64 b2, .bool b3] 58)) := ((Below.refl _ _).alloc (Nat.le_refl _) _).alloc (by simp) _
  have HB := Lib.hid hbb
  clear e hbb
  by_cases h1 : a1 < b2
  · by_cases h2 : b1 < a2
    · have d1 : decide (a1 < b2) = true := decide_eq_true h1
      have d2 : decide (b1 < a2) = true := decide_eq_true h2
      rw [d1, d2]
      go_enter Tryz.func26, Tryz.ntmps26
      go_wp2_with fail
      go_ret
      exact ⟨rfl, HB.out⟩
    · have d1 : decide (a1 < b2) = true := decide_eq_true h1
      have d2 : decide (b1 < a2) = false := decide_eq_false h2
      rw [d1, d2]
      go_enter Tryz.func26, Tryz.ntmps26
      go_wp2_with fail
      go_ret
      exact ⟨rfl, HB.out⟩
  · have d1 : decide (a1 < b2) = false := decide_eq_false h1
    rw [d1]
    go_enter Tryz.func26, Tryz.ntmps26
    go_wp2_with fail
    go_ret
    exact ⟨rfl, HB.out⟩
/-- The first that is not nothing. -/
def orL : List Bz → Bz
  | [] => noBz
  | x :: r => if x.kind = 0 ∧ x.a = 0 ∧ x.b = 0 then orL r else x
structure OrR (w : World) (A : Option Addr) (cap n : Nat) (l : List Bz) (wr : World) : Prop where
  below : Below w.heap.size w wr
  row : BzRd wr w.heap.size (.slice A n cap) l
  res : Lies wr w.heap.size 24 #[.int .i64 0, .int .i64 0, .int .i64 0]
  zer : Lies wr (w.heap.size + 1) 24 #[.int .i64 0, .int .i64 0, .int .i64 0]
theorem OrR.next {w : World} {A : Option Addr} {cap n : Nat} {l : List Bz} {wr w' : World} (h : OrR w A cap n l wr) (hb : Below wr.heap.size wr w') : OrR w A cap n l w' :=
  ⟨h.below.trans (hb.mono h.below.size), h.row.below (hb.mono h.below.size), Lies.below h.res hb h.res.lt, Lies.below h.zer hb h.zer.lt⟩
set_option maxHeartbeats 4000000 in
theorem or_any {v : Value} {l : List Bz} {w : World} (h : BzRd w w.heap.size v l) (hm : l.length ≤ 100) :
    Calls Tryz.prog 9 #[v] w fun e w' => e = .returned (bzV (orL l)) ∧ Below w.heap.size w w' := by
  obtain ⟨A, cap, rfl, m1, m2⟩ := h.is
  obtain ⟨n, hn⟩ : ∃ n, n = l.length := ⟨_, rfl⟩
  rw [← hn] at h hm ⊢
  obtain ⟨R, hR⟩ : ∃ R, R = orL l := ⟨_, rfl⟩
  have h0 : OrR w A cap n l ((w.alloc (.cells #[.int .i64 0, .int .i64 0, .int .i64 0] 24)).alloc (.cells #[.int .i64 0, .int .i64 0, .int .i64 0] 24)) := by
    have hb : Below w.heap.size w ((w.alloc (.cells #[.int .i64 0, .int .i64 0, .int .i64 0] 24)).alloc (.cells #[.int .i64 0, .int .i64 0, .int .i64 0] 24)) := ((Below.refl _ _).alloc (Nat.le_refl _) _).alloc (by simp) _
    have hz := Lies.new (w.alloc (.cells #[.int .i64 0, .int .i64 0, .int .i64 0] 24)) 24 #[.int .i64 0, .int .i64 0, .int .i64 0]
    rw [World.size_alloc] at hz
    exact ⟨hb, h.below hb, Lies.alloc (Lies.new _ _ _) _, hz⟩
  rw [← hR]
  have HN := Lib.hid (And.intro hn hR)
  clear h hn hR m1 m2
  go_enter Tryz.func9, Tryz.ntmps9
  go_wp2_with fail
  change Code.wp _ _ _ _ ((w.alloc (.cells #[.int .i64 0, .int .i64 0, .int .i64 0] 24)).alloc (.cells #[.int .i64 0, .int .i64 0, .int .i64 0] 24))
  generalize (w.alloc (.cells #[.int .i64 0, .int .i64 0, .int .i64 0] 24)).alloc (.cells #[.int .i64 0, .int .i64 0, .int .i64 0] 24) = W at h0 ⊢
  go_loopw [8] (fun i wr => ∃ k : Nat, k ≤ n ∧ i = .int .i64 k ∧ orL (l.drop k) = R ∧ OrR w A cap n l wr) (fun i _ => n - (intOf i).toNat)
  case atStart => exact ⟨0, by omega, rfl, by rw [List.drop_zero, HN.out.2], h0⟩
  case round =>
    clear h0
    obtain ⟨k, hk, rfl, hor, hO⟩ := hrel
    by_cases hkn : k < n
    · obtain ⟨x, hx⟩ : ∃ x, l[k]? = some x := ⟨_, List.getElem?_eq_getElem (by rw [← HN.out.1]; exact hkn)⟩
      have hdrop : l.drop k = x :: l.drop (k + 1) := by
        obtain ⟨h2, h3⟩ := List.getElem?_eq_some_iff.1 hx
        rw [List.drop_eq_getElem_cons h2, h3]
      rw [hdrop, orL] at hor
      obtain ⟨g, o, rfl, -, d0, d1, d2⟩ := bz_at hO.row hx
      obtain ⟨x0, x1, x2⟩ := x
      simp only at d0 d1 d2 hor
      have i1 : (0 : Int) ≤ (k : Int) := by omega
      have i2 : (k : Int) < (n : Int) := by omega
      have hnew := Lies.new wr 24 #[.int .i64 x0, .int .i64 x1, .int .i64 x2]
      have hO2 := hO.next ((Below.refl _ _).alloc (Nat.le_refl _) (.cells #[.int .i64 x0, .int .i64 x1, .int .i64 x2] 24))
      have HO := Lib.hid (And.intro hO2 hor)
      have HNW := Lib.hid hnew
      clear hO hx hdrop hor hO2 hnew
      go_upto_region 5 with fail
      clear d0 d1 d2
      change Code.wp _ _ _ _ (wr.alloc (.cells #[.int .i64 x0, .int .i64 x1, .int .i64 x2] 24))
      generalize wr.alloc (.cells #[.int .i64 x0, .int .i64 x1, .int .i64 x2] 24) = W2 at HO HNW ⊢
      generalize wr.heap.size = X at HNW ⊢
      have e0 := Lies.cell HNW.out 0
      have e1 := Lies.cell HNW.out 1
      have e2 := Lies.cell HNW.out 2
      have z0 := Lies.cell HO.out.1.zer 0
      have z1 := Lies.cell HO.out.1.zer 1
      have z2 := Lies.cell HO.out.1.zer 2
      have r0 := Lies.cell HO.out.1.res 0
      have r1 := Lies.cell HO.out.1.res 1
      have r2 := Lies.cell HO.out.1.res 2
      have rf : ∀ i, W2.frozen? ⟨w.heap.size, i, none⟩ = false := fun i => Lies.frozen HO.out.1.res i
      simp only [List.getElem?_toArray, List.getElem?_cons_zero, List.getElem?_cons_succ] at e0 e1 e2 z0 z1 z2 r0 r1 r2
      by_cases hx : x0 = 0 ∧ x1 = 0 ∧ x2 = 0
      · obtain ⟨rfl, rfl, rfl⟩ := hx
        have hor := HO.out.2
        rw [if_pos ⟨rfl, rfl, rfl⟩] at hor
        have HO3 := Lib.hid (And.intro HO.out.1 hor)
        clear hor HO r0 r1 r2 rf
        go_wp2_with fail
        go_roundw
        case rel => exact ⟨k + 1, by omega, by go_num, HO3.out.2, HO3.out.1⟩
        case measure => simp [intOf]; omega
      · have hor := HO.out.2
        rw [if_neg hx] at hor
        have hne : (x0 == 0) = false ∨ (x0 = 0 ∧ (x1 == 0) = false) ∨ (x0 = 0 ∧ x1 = 0 ∧ (x2 == 0) = false) := by
          simp only [beq_eq_false_iff_ne]
          omega
        have HO3 := Lib.hid (And.intro HO.out.1 hor)
        clear hor hx HO
        rcases hne with hne | ⟨rfl, hne⟩ | ⟨rfl, rfl, hne⟩
        · go_wp2_with fail
          clear r0 r1 r2 rf
          have hl := fill3_lies (a := .int .i64 x0) (b := .int .i64 x1) (c := .int .i64 x2) HO3.out.1.res
          have hb := fill3_below (a := .int .i64 x0) (b := .int .i64 x1) (c := .int .i64 x2) HO3.out.1.below (g := w.heap.size) (Nat.le_refl _)
          change bodyPost _ _ _ _ _ (fill3 W2 w.heap.size (.int .i64 x0) (.int .i64 x1) (.int .i64 x2))
          generalize fill3 W2 w.heap.size (.int .i64 x0) (.int .i64 x1) (.int .i64 x2) = wz at hl hb ⊢
          have q0 := Lies.cell hl 0
          have q1 := Lies.cell hl 1
          have q2 := Lies.cell hl 2
          simp only [List.getElem?_toArray, List.getElem?_cons_zero, List.getElem?_cons_succ] at q0 q1 q2
          exact bodyPost_ret (v := bzV ⟨x0, x1, x2⟩) (by simp [results, Tryz.results9, go_sem, q0, q1, q2]) rfl ⟨by rw [← HO3.out.2] <;> rfl, hb⟩
        · go_wp2_with fail
          clear r0 r1 r2 rf
          have hl := fill3_lies (a := .int .i64 0) (b := .int .i64 x1) (c := .int .i64 x2) HO3.out.1.res
          have hb := fill3_below (a := .int .i64 0) (b := .int .i64 x1) (c := .int .i64 x2) HO3.out.1.below (g := w.heap.size) (Nat.le_refl _)
          change bodyPost _ _ _ _ _ (fill3 W2 w.heap.size (.int .i64 0) (.int .i64 x1) (.int .i64 x2))
          generalize fill3 W2 w.heap.size (.int .i64 0) (.int .i64 x1) (.int .i64 x2) = wz at hl hb ⊢
          have q0 := Lies.cell hl 0
          have q1 := Lies.cell hl 1
          have q2 := Lies.cell hl 2
          simp only [List.getElem?_toArray, List.getElem?_cons_zero, List.getElem?_cons_succ] at q0 q1 q2
          exact bodyPost_ret (v := bzV ⟨0, x1, x2⟩) (by simp [results, Tryz.results9, go_sem, q0, q1, q2]) rfl ⟨by rw [← HO3.out.2] <;> rfl, hb⟩
        · go_wp2_with fail
          clear r0 r1 r2 rf
          have hl := fill3_lies (a := .int .i64 0) (b := .int .i64 0) (c := .int .i64 x2) HO3.out.1.res
          have hb := fill3_below (a := .int .i64 0) (b := .int .i64 0) (c := .int .i64 x2) HO3.out.1.below (g := w.heap.size) (Nat.le_refl _)
          change bodyPost _ _ _ _ _ (fill3 W2 w.heap.size (.int .i64 0) (.int .i64 0) (.int .i64 x2))
          generalize fill3 W2 w.heap.size (.int .i64 0) (.int .i64 0) (.int .i64 x2) = wz at hl hb ⊢
          have q0 := Lies.cell hl 0
          have q1 := Lies.cell hl 1
          have q2 := Lies.cell hl 2
          simp only [List.getElem?_toArray, List.getElem?_cons_zero, List.getElem?_cons_succ] at q0 q1 q2
          exact bodyPost_ret (v := bzV ⟨0, 0, x2⟩) (by simp [results, Tryz.results9, go_sem, q0, q1, q2]) rfl ⟨by rw [← HO3.out.2] <;> rfl, hb⟩
    · obtain rfl : n = k := by omega
      rw [List.drop_eq_nil_of_le (by rw [← HN.out.1]; exact Nat.le_refl _), orL] at hor
      have r0 := Lies.cell hO.res 0
      have r1 := Lies.cell hO.res 1
      have r2 := Lies.cell hO.res 2
      have z0 := Lies.cell hO.zer 0
      have z1 := Lies.cell hO.zer 1
      have z2 := Lies.cell hO.zer 2
      have rf : ∀ i, wr.frozen? ⟨w.heap.size, i, none⟩ = false := fun i => Lies.frozen hO.res i
      simp only [List.getElem?_toArray, List.getElem?_cons_zero, List.getElem?_cons_succ] at z0 z1 z2 r0 r1 r2
      have HO3 := Lib.hid (And.intro hO hor)
      clear hO hor
      go_wp2_with fail
      clear r0 r1 r2 rf
      have hl := fill3_lies (a := .int .i64 0) (b := .int .i64 0) (c := .int .i64 0) HO3.out.1.res
      have hb := fill3_below (a := .int .i64 0) (b := .int .i64 0) (c := .int .i64 0) HO3.out.1.below (g := w.heap.size) (Nat.le_refl _)
      change bodyPost _ _ _ _ _ (fill3 wr w.heap.size (.int .i64 0) (.int .i64 0) (.int .i64 0))
      generalize fill3 wr w.heap.size (.int .i64 0) (.int .i64 0) (.int .i64 0) = wz at hl hb ⊢
      have q0 := Lies.cell hl 0
      have q1 := Lies.cell hl 1
      have q2 := Lies.cell hl 2
      simp only [List.getElem?_toArray, List.getElem?_cons_zero, List.getElem?_cons_succ] at q0 q1 q2
      exact bodyPost_ret (v := bzV ⟨0, 0, 0⟩) (by simp [results, Tryz.results9, go_sem, q0, q1, q2]) rfl ⟨by rw [← HO3.out.2] <;> rfl, hb⟩
end Go.Proofs.YtphhbojdolhieaaGreatDoor
