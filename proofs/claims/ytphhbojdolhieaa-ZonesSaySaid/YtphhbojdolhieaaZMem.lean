/-
  What package zones keeps in memory: writes in a map, reads and zones in rows.
-/
import Derived.Test.YtphhbojdolhieaaZonePure
import Derived.Test.YtphhbojdolhieaaLRd
import Derived.Test.YtphhbojdolhieaaAppRow
import Derived.Test.YtphhbojdolhieaaLGrpPure
import Derived.Maps.OwnSet
import Derived.Maps.OwnOps
namespace Go.Proofs.Ytphhbojdolhieaa
open Go.RowKit Go.Maps
open Go.ChangeShapes (lits)
set_option maxRecDepth 20000
instance : Inhabited Zop := ⟨⟨0, 0, 0, 0⟩⟩
instance : Inhabited Zn := ⟨⟨0, 0, 0, false⟩⟩
abbrev zoCs (r : Zop) : List Value := [.int .i64 r.index, .int .i64 r.value, .int .i64 r.frm, .int .i64 r.til]
abbrev zoV (r : Zop) : Value := .agg #[.int .i64 r.index, .int .i64 r.value, .int .i64 r.frm, .int .i64 r.til]
abbrev znCs (z : Zn) : List Value := [.int .i64 z.value, .int .i64 z.first, .int .i64 z.last, .bool z.fwd]
abbrev znV (z : Zn) : Value := .agg #[.int .i64 z.value, .int .i64 z.first, .int .i64 z.last, .bool z.fwd]
abbrev bzV (x : Bz) : Value := .agg #[.int .i64 x.kind, .int .i64 x.a, .int .i64 x.b]
abbrev bzCs (x : Bz) : List Value := [.int .i64 x.kind, .int .i64 x.a, .int .i64 x.b]
abbrev ZoRd (w : World) (B : Nat) (v : Value) (l : List Zop) : Prop := LRd 4 zoCs w B v l
abbrev ZnRd (w : World) (B : Nat) (v : Value) (l : List Zn) : Prop := LRd 4 znCs w B v l
abbrev BzRd (w : World) (B : Nat) (v : Value) (l : List Bz) : Prop := LRd 3 bzCs w B v l
def ZoOwn (w : World) (B : Nat) (v : Value) (l : List Zop) : Prop := w.ownsRow B 78 4 v l.length (l.flatMap zoCs)
def ZnOwn (w : World) (B : Nat) (v : Value) (l : List Zn) : Prop := w.ownsRow B 35 4 v l.length (l.flatMap znCs)
theorem ZoOwn.rd {w : World} {B : Nat} {v : Value} {l : List Zop} (h : ZoOwn w B v l) : ZoRd w w.heap.size v l := LRd.of_own (fun _ => rfl) h
theorem ZnOwn.rd {w : World} {B : Nat} {v : Value} {l : List Zn} (h : ZnOwn w B v l) : ZnRd w w.heap.size v l := LRd.of_own (fun _ => rfl) h
theorem ZoOwn.nil (w : World) (B : Nat) : ZoOwn w B (.slice none 0 0) [] := ⟨rfl, .inl ⟨rfl, rfl⟩⟩
theorem ZnOwn.nil (w : World) (B : Nat) : ZnOwn w B (.slice none 0 0) [] := ⟨rfl, .inl ⟨rfl, rfl⟩⟩
section
variable {w : World} {B : Nat} {A : Option Addr} {n cap k : Nat}
theorem zo_at {l : List Zop} (h : ZoRd w B (.slice A n cap) l) {x : Zop} (hk : l[k]? = some x) : ∃ g o, A = some ⟨g, o, none⟩ ∧ g < B ∧ w.cell? ⟨g, o + k * 4, none⟩ = some (.int .i64 x.index) ∧ w.cell? ⟨g, o + k * 4 + 1, none⟩ = some (.int .i64 x.value) ∧ w.cell? ⟨g, o + k * 4 + 2, none⟩ = some (.int .i64 x.frm) ∧ w.cell? ⟨g, o + k * 4 + 3, none⟩ = some (.int .i64 x.til) := by
  obtain ⟨g, o, hA, hg, hc⟩ := LRd.at_ h hk
  exact ⟨g, o, hA, hg, hc 0 _ rfl, hc 1 _ rfl, hc 2 _ rfl, hc 3 _ rfl⟩
theorem zn_at {l : List Zn} (h : ZnRd w B (.slice A n cap) l) {x : Zn} (hk : l[k]? = some x) : ∃ g o, A = some ⟨g, o, none⟩ ∧ g < B ∧ w.cell? ⟨g, o + k * 4, none⟩ = some (.int .i64 x.value) ∧ w.cell? ⟨g, o + k * 4 + 1, none⟩ = some (.int .i64 x.first) ∧ w.cell? ⟨g, o + k * 4 + 2, none⟩ = some (.int .i64 x.last) ∧ w.cell? ⟨g, o + k * 4 + 3, none⟩ = some (.bool x.fwd) := by
  obtain ⟨g, o, hA, hg, hc⟩ := LRd.at_ h hk
  exact ⟨g, o, hA, hg, hc 0 _ rfl, hc 1 _ rfl, hc 2 _ rfl, hc 3 _ rfl⟩
theorem bz_at {l : List Bz} (h : BzRd w B (.slice A n cap) l) {x : Bz} (hk : l[k]? = some x) : ∃ g o, A = some ⟨g, o, none⟩ ∧ g < B ∧ w.cell? ⟨g, o + k * 3, none⟩ = some (.int .i64 x.kind) ∧ w.cell? ⟨g, o + k * 3 + 1, none⟩ = some (.int .i64 x.a) ∧ w.cell? ⟨g, o + k * 3 + 2, none⟩ = some (.int .i64 x.b) := by
  obtain ⟨g, o, hA, hg, hc⟩ := LRd.at_ h hk
  exact ⟨g, o, hA, hg, hc 0 _ rfl, hc 1 _ rfl, hc 2 _ rfl⟩
end
theorem info_zo : (Try.prog.info? 78).map (fun i => (i.zero, i.size, i.bytes)) = some (some (zoV default), 4, 32) := by kernel_rfl
theorem info_zn : (Try.prog.info? 35).map (fun i => (i.zero, i.size, i.bytes)) = some (some (znV default), 4, 32) := by kernel_rfl
theorem run_app_zo {W : World} {base G : Nat} {v : Value} {l : List Zop} {y : Zop} (ty : TypeId) (hown : ZoOwn W base v l) (hG : ∀ j u, (zoCs y)[j]? = some u → W.cell? ⟨G, j, none⟩ = some u) (hlen : l.length ≤ 65536) (hbase : base ≤ W.heap.size) :
    ∃ v' w', (Builtin.append_ #[57, 57] ty #[v, .slice (some ⟨G, 0, none⟩) 1 1]).run Try.prog W = .ok v' w' ∧ ZoOwn w' base v' (l ++ [y]) ∧ Below base W w' ∧ W.grownBy w' v.ownBlock := by
  obtain ⟨i0, hi, hz0, hz1, hz2⟩ := info_of info_zo
  have hl := World.ownsRow.lt hown
  obtain ⟨v', w', hr, h2, h3, _⟩ := run_append_own (P := Try.prog) W base 57 ty 78 i0 (zoV default) 4 32 Try.underlying57 hi hz0 hz1 hz2 rfl (by decide) v l.length (l.flatMap zoCs) hown
    ⟨G, 0, none⟩ 1 1 (zoCs y) rfl (fun j u hu => by
      rw [Addr.add_lit, Nat.zero_add]
      exact hG j u hu) (fun u hu => by
      simp only [List.mem_cons, List.not_mem_nil, or_false] at hu
      rcases hu with rfl | rfl | rfl | rfl <;> rfl) (by unfold maxLen; omega) (by omega) hbase
  refine ⟨v', w', hr, ?_, (Below.refl base W).grown h3 hbase (fun k hk => (hl k hk).1), h3⟩
  unfold ZoOwn
  rw [List.length_append, List.flatMap_append]
  simpa using h2
theorem own_slice_zo {w : World} {B : Nat} {v : Value} {l : List Zop} (h : ZoOwn w B v l) : ∃ A c, v = .slice A l.length c := by
  obtain ⟨A, c, h, _⟩ := h.rd.is
  exact ⟨A, c, h⟩
theorem wp_app_zo {W : World} {o : Oper} {a : Act} {K : Act → World → Prop} {Q : Exit → Act → World → Prop} (s x : Operand)
    (ho : o.op = .call { callee := .builtin .append, args := #[s, x], argTypes := #[57, 57] })
    (base G : Nat) (v : Value) (l : List Zop) (y : Zop) (hs : a.eval s = v) (hx : a.eval x = .slice (some ⟨G, 0, none⟩) 1 1) (hown : ZoOwn W base v l) (hG : ∀ j u, (zoCs y)[j]? = some u → W.cell? ⟨G, j, none⟩ = some u) (hlen : l.length ≤ 65536) (hbase : base ≤ W.heap.size)
    (h : ∀ v' w', ZoOwn w' base v' (l ++ [y]) → Below base W w' → W.grownBy w' v.ownBlock → K (a.put o.dst v') w') : Oper.wp Try.prog o a W K Q := by
  obtain ⟨v', w', hrun, r1, r2, r3⟩ := run_app_zo o.type hown hG hlen hbase
  unfold Oper.wp
  simp [execOp, ho, resolve, invoke, builtin, hs, hx, hrun, Result.andThen]
  exact h v' w' r1 r2 r3
theorem wpList_app_zo {W : World} {ops : Array Oper} {rest : List Oper} {o : Oper} {a : Act} {Q : Exit → Act → World → Prop} (hgd : o.guard = none) (s x : Operand)
    (ho : o.op = .call { callee := .builtin .append, args := #[s, x], argTypes := #[57, 57] })
    (base G : Nat) (v : Value) (l : List Zop) (y : Zop) (hs : a.eval s = v) (hx : a.eval x = .slice (some ⟨G, 0, none⟩) 1 1) (hown : ZoOwn W base v l) (hG : ∀ j u, (zoCs y)[j]? = some u → W.cell? ⟨G, j, none⟩ = some u) (hlen : l.length ≤ 65536) (hbase : base ≤ W.heap.size)
    (h : ∀ v' w', ZoOwn w' base v' (l ++ [y]) → Below base W w' → W.grownBy w' v.ownBlock → wpList Try.prog ops Q rest (a.put o.dst v') w') : wpList Try.prog ops Q (o :: rest) a W :=
  wpList_plain hgd fun _ hK => wp_app_zo s x ho base G v l y hs hx hown hG hlen hbase fun v' w' h1 h2 h3 => hK _ _ (h v' w' h1 h2 h3)
theorem step_app_zo {W : World} {ops : Array Oper} {o : Oper} {a : Act} {K : Act → World → Prop} {Q : Exit → Act → World → Prop} {E : Prop} (hgd : o.guard = none) (s x : Operand)
    (ho : o.op = .call { callee := .builtin .append, args := #[s, x], argTypes := #[57, 57] })
    (base G : Nat) (v : Value) (l : List Zop) (y : Zop) (hs : a.eval s = v) (hx : a.eval x = .slice (some ⟨G, 0, none⟩) 1 1) (hown : ZoOwn W base v l) (hG : ∀ j u, (zoCs y)[j]? = some u → W.cell? ⟨G, j, none⟩ = some u) (hlen : l.length ≤ 65536) (hbase : base ≤ W.heap.size)
    (h : ∀ v' w', ZoOwn w' base v' (l ++ [y]) → Below base W w' → W.grownBy w' v.ownBlock → K (a.put o.dst v') w') :
    if Region.wanted o (yielded ops a.tmps) = true then Oper.wp Try.prog o a W K Q else E := by
  have hw : Region.wanted o (yielded ops a.tmps) = true := by simp [Region.wanted, hgd]
  rw [if_pos hw]
  exact wp_app_zo s x ho base G v l y hs hx hown hG hlen hbase h
theorem run_app_zn {W : World} {base G : Nat} {v : Value} {l : List Zn} {y : Zn} (ty : TypeId) (hown : ZnOwn W base v l) (hG : ∀ j u, (znCs y)[j]? = some u → W.cell? ⟨G, j, none⟩ = some u) (hlen : l.length ≤ 65536) (hbase : base ≤ W.heap.size) :
    ∃ v' w', (Builtin.append_ #[23, 23] ty #[v, .slice (some ⟨G, 0, none⟩) 1 1]).run Try.prog W = .ok v' w' ∧ ZnOwn w' base v' (l ++ [y]) ∧ Below base W w' ∧ W.grownBy w' v.ownBlock := by
  obtain ⟨i0, hi, hz0, hz1, hz2⟩ := info_of info_zn
  have hl := World.ownsRow.lt hown
  obtain ⟨v', w', hr, h2, h3, _⟩ := run_append_own (P := Try.prog) W base 23 ty 35 i0 (znV default) 4 32 Try.underlying23 hi hz0 hz1 hz2 rfl (by decide) v l.length (l.flatMap znCs) hown
    ⟨G, 0, none⟩ 1 1 (znCs y) rfl (fun j u hu => by
      rw [Addr.add_lit, Nat.zero_add]
      exact hG j u hu) (fun u hu => by
      simp only [List.mem_cons, List.not_mem_nil, or_false] at hu
      rcases hu with rfl | rfl | rfl | rfl <;> rfl) (by unfold maxLen; omega) (by omega) hbase
  refine ⟨v', w', hr, ?_, (Below.refl base W).grown h3 hbase (fun k hk => (hl k hk).1), h3⟩
  unfold ZnOwn
  rw [List.length_append, List.flatMap_append]
  simpa using h2
theorem own_slice_zn {w : World} {B : Nat} {v : Value} {l : List Zn} (h : ZnOwn w B v l) : ∃ A c, v = .slice A l.length c := by
  obtain ⟨A, c, h, _⟩ := h.rd.is
  exact ⟨A, c, h⟩
theorem wp_app_zn {W : World} {o : Oper} {a : Act} {K : Act → World → Prop} {Q : Exit → Act → World → Prop} (s x : Operand)
    (ho : o.op = .call { callee := .builtin .append, args := #[s, x], argTypes := #[23, 23] })
    (base G : Nat) (v : Value) (l : List Zn) (y : Zn) (hs : a.eval s = v) (hx : a.eval x = .slice (some ⟨G, 0, none⟩) 1 1) (hown : ZnOwn W base v l) (hG : ∀ j u, (znCs y)[j]? = some u → W.cell? ⟨G, j, none⟩ = some u) (hlen : l.length ≤ 65536) (hbase : base ≤ W.heap.size)
    (h : ∀ v' w', ZnOwn w' base v' (l ++ [y]) → Below base W w' → W.grownBy w' v.ownBlock → K (a.put o.dst v') w') : Oper.wp Try.prog o a W K Q := by
  obtain ⟨v', w', hrun, r1, r2, r3⟩ := run_app_zn o.type hown hG hlen hbase
  unfold Oper.wp
  simp [execOp, ho, resolve, invoke, builtin, hs, hx, hrun, Result.andThen]
  exact h v' w' r1 r2 r3
theorem wpList_app_zn {W : World} {ops : Array Oper} {rest : List Oper} {o : Oper} {a : Act} {Q : Exit → Act → World → Prop} (hgd : o.guard = none) (s x : Operand)
    (ho : o.op = .call { callee := .builtin .append, args := #[s, x], argTypes := #[23, 23] })
    (base G : Nat) (v : Value) (l : List Zn) (y : Zn) (hs : a.eval s = v) (hx : a.eval x = .slice (some ⟨G, 0, none⟩) 1 1) (hown : ZnOwn W base v l) (hG : ∀ j u, (znCs y)[j]? = some u → W.cell? ⟨G, j, none⟩ = some u) (hlen : l.length ≤ 65536) (hbase : base ≤ W.heap.size)
    (h : ∀ v' w', ZnOwn w' base v' (l ++ [y]) → Below base W w' → W.grownBy w' v.ownBlock → wpList Try.prog ops Q rest (a.put o.dst v') w') : wpList Try.prog ops Q (o :: rest) a W :=
  wpList_plain hgd fun _ hK => wp_app_zn s x ho base G v l y hs hx hown hG hlen hbase fun v' w' h1 h2 h3 => hK _ _ (h v' w' h1 h2 h3)
theorem step_app_zn {W : World} {ops : Array Oper} {o : Oper} {a : Act} {K : Act → World → Prop} {Q : Exit → Act → World → Prop} {E : Prop} (hgd : o.guard = none) (s x : Operand)
    (ho : o.op = .call { callee := .builtin .append, args := #[s, x], argTypes := #[23, 23] })
    (base G : Nat) (v : Value) (l : List Zn) (y : Zn) (hs : a.eval s = v) (hx : a.eval x = .slice (some ⟨G, 0, none⟩) 1 1) (hown : ZnOwn W base v l) (hG : ∀ j u, (znCs y)[j]? = some u → W.cell? ⟨G, j, none⟩ = some u) (hlen : l.length ≤ 65536) (hbase : base ≤ W.heap.size)
    (h : ∀ v' w', ZnOwn w' base v' (l ++ [y]) → Below base W w' → W.grownBy w' v.ownBlock → K (a.put o.dst v') w') :
    if Region.wanted o (yielded ops a.tmps) = true then Oper.wp Try.prog o a W K Q else E := by
  have hw : Region.wanted o (yielded ops a.tmps) = true := by simp [Region.wanted, hgd]
  rw [if_pos hw]
  exact wp_app_zn s x ho base G v l y hs hx hown hG hlen hbase h
def zoDat (r : Zop) : DataW Unit := .slice (lits .i64 [r.index, r.value, r.frm, r.til]) []
def zoR : Value → Option (DataW Unit × List MemPlace)
  | .agg a => match a.toList with
    | [.int .i64 p, .int .i64 q, .int .i64 x, .int .i64 y] => some (zoDat ⟨p, q, x, y⟩, [])
    | _ => none
  | _ => none
theorem zoR_mk (r : Zop) : zoR (zoV r) = some (zoDat r, []) := rfl
theorem zoDat_inj {a b : Zop} (h : zoDat a = zoDat b) : a = b := by
  unfold zoDat at h
  injection h with h
  have := lits_inj h
  injection this with h1 h2
  injection h2 with h2 h3
  injection h3 with h3 h4
  injection h4 with h4 _
  cases a; cases b
  simp only at h1 h2 h3 h4
  subst h1 h2 h3 h4
  rfl
theorem zoR_inv {v : Value} {d : DataW Unit} {ps : List MemPlace} (h : zoR v = some (d, ps)) : ∃ r, v = zoV r ∧ d = zoDat r := by
  unfold zoR at h
  split at h
  · rename_i a
    split at h
    · rename_i p q x y e
      injection h with h
      injection h with h1 h2
      refine ⟨⟨p, q, x, y⟩, ?_, h1.symm⟩
      show Value.agg a = .agg _
      congr 1
      exact Array.ext' e
    · cases h
  · cases h
/-- Block b is a map of at most n numbers; what it holds for each is its write. -/
def ZMap (w : World) (b n : Nat) (F : Int → Option Zop) : Prop :=
  ∃ D : DataW Unit, w.ownsMap Try.prog 3 zoR b n D ∧ ∀ k : Int, has D (.int .i64 k) = (F k).isSome ∧ ∀ r, F k = some r → ∀ zd, D.atKey (.int .i64 k) zd = zoDat r
theorem ZMap.made (w : World) : ZMap (w.alloc (.map #[] 0)) w.heap.size 0 (fun _ => none) := ⟨_, World.ownsMap_made w _ _ _, fun _ => ⟨rfl, fun r h => by cases h⟩⟩
theorem ZMap.lt {w : World} {b n : Nat} {F : Int → Option Zop} (h : ZMap w b n F) : b < w.heap.size := by
  obtain ⟨D, h, _⟩ := h
  exact h.lt
theorem ZMap.keep {w w' : World} {b n : Nat} {F : Int → Option Zop} (h : ZMap w b n F) (e : w'.heap[b]? = w.heap[b]?) : ZMap w' b n F := by
  obtain ⟨D, ⟨es, clock, h1, h2, h3, h4⟩, h5⟩ := h
  exact ⟨D, ⟨es, clock, e.trans h1, h2, h3, h4⟩, h5⟩
theorem ZMap.below {w w' : World} {B b n : Nat} {F : Int → Option Zop} (h : ZMap w b n F) (hb : Below B w w') (hB : b < B) : ZMap w' b n F := h.keep (hb.block b hB)
theorem ZMap.congr {w : World} {b n : Nat} {F G : Int → Option Zop} (h : ZMap w b n F) (e : ∀ k, F k = G k) : ZMap w b n G := by
  rw [← (funext e : F = G)]
  exact h
theorem zero_zo (w : World) : (zeroValue 78).run Try.prog w = .ok (zoV default) w := by kernel_rfl
theorem keyed_z : Keyed Try.prog 3 := int_keyed Try.underlying3
theorem key_z {k : Int} (h0 : -1000000 ≤ k) (h1 : k ≤ 1000000) : keyOf Try.prog 3 (.int .i64 k) = some (.int .i64 k) := by
  simp [keyOf, Try.underlying3, mapKey]
  exact WalkArith.wf_i64 (by omega)
/-- What a map gives: the write of that value, or one that is all 0. -/
theorem ZMap.val {w : World} {b n : Nat} {F : Int → Option Zop} (h : ZMap w b n F) (k : Int) (h0 : -1000000 ≤ k) (h1 : k ≤ 1000000) :
    (Instr.lookup 56 (.map (some b)) (.int .i64 k) true).run Try.prog w = .ok (.tuple #[zoV ((F k).getD default), .bool (F k).isSome]) w ∧ (Instr.lookup 56 (.map (some b)) (.int .i64 k) false).run Try.prog w = .ok (zoV ((F k).getD default)) w := by
  obtain ⟨D, h, h2⟩ := h
  obtain ⟨v, ps, hrun, hv⟩ := h.look_ok keyed_z Try.underlying56 (zero_zo w) (zd := zoDat default) (zp := []) (zoR_mk _) (key_z h0 h1)
  obtain ⟨v', ps', hrun', hv'⟩ := h.lookup keyed_z Try.underlying56 (zero_zo w) (zd := zoDat default) (zp := []) (zoR_mk _) (key_z h0 h1)
  obtain ⟨r, rfl, hd⟩ := zoR_inv hv
  obtain ⟨r', rfl, hd'⟩ := zoR_inv hv'
  have hat : D.atKey (.int .i64 k) (zoDat default) = zoDat ((F k).getD default) := by
    cases hF : F k with
    | none => exact atKey_of_not_has (by rw [(h2 k).1, hF]; rfl) _
    | some y => exact (h2 k).2 y hF _
  rw [hat] at hd hd'
  rw [← (h2 k).1]
  exact ⟨by rw [zoDat_inj hd]; exact hrun, by rw [zoDat_inj hd']; exact hrun'⟩
/-- v, ok := m[k] -/
theorem ZMap.look {w : World} {ops : Array Oper} {rest : List Oper} {o : Oper} {a : Act} {Q : Exit → Act → World → Prop} (hg : o.guard = none) (m x : Operand) (hop : o.op = Op.lookup 56 m x true)
    {b n : Nat} {F : Int → Option Zop} (h : ZMap w b n F) (k : Int) (h0 : -1000000 ≤ k) (h1 : k ≤ 1000000) (hm : a.eval m = .map (some b)) (hx : a.eval x = .int .i64 k)
    (hK : ∀ r : Zop, (∀ y, F k = some y → r = y) → wpList Try.prog ops Q rest (a.put o.dst (.tuple #[zoV r, .bool (F k).isSome])) w) : wpList Try.prog ops Q (o :: rest) a w := by
  obtain ⟨D, h, h2⟩ := h
  refine wpList_lookup_own_ok w hg m x 56 hop 3 78 keyed_z Try.underlying56 zoR (zero_zo w) (zoDat default) [] (zoR_mk _) b n D hm h _ _ hx (key_z h0 h1) fun v ps hv => ?_
  obtain ⟨r, rfl, hd⟩ := zoR_inv hv
  rw [(h2 k).1]
  refine hK r fun y hF => ?_
  rw [(h2 k).2 y hF] at hd
  exact (zoDat_inj hd).symm
theorem ZMap.put {w : World} {ops : Array Oper} {rest : List Oper} {o : Oper} {a : Act} {Q : Exit → Act → World → Prop} (hg : o.guard = none) (m x v : Operand) (hop : o.op = Op.mapUpdate 56 m x v)
    {b n : Nat} {F : Int → Option Zop} (h : ZMap w b n F) (k : Int) (r : Zop) (h0 : -1000000 ≤ k) (h1 : k ≤ 1000000) (hn : n ≤ 1000000000000) (hm : a.eval m = .map (some b)) (hx : a.eval x = .int .i64 k) (hv : a.eval v = zoV r)
    (hK : ∀ w', ZMap w' b (n + 1) (fun c => if c = k then some r else F c) → w.grownBy w' (some b) → wpList Try.prog ops Q rest (a.put o.dst undef) w') : wpList Try.prog ops Q (o :: rest) a w := by
  obtain ⟨D, h, h2⟩ := h
  refine wpList_mapUpdate_own w hg m x v 56 hop 3 78 keyed_z Try.underlying56 zoR b n D hm h (by unfold maxLen; omega) _ _ _ hx hv (key_z h0 h1) _ [] (zoR_mk r) (fun w' h3 h4 => hK w' ⟨_, h3, fun c => ?_⟩ h4)
  by_cases e : c = k
  · subst e
    simp only [if_true]
    refine ⟨has_put_same h.isMap (by first | exact trivial | decide | simp [WideAt.IsKeyLit]) _, fun y hy zd => ?_⟩
    injection hy with hy
    subst hy
    exact atKey_put_same (k := .int .i64 c) h.isMap (by first | exact trivial | decide | simp [WideAt.IsKeyLit]) _ _
  · simp only [e, if_false]
    have hne : (Lit.int .i64 k) ≠ .int .i64 c := fun h5 => e (Eq.symm (by injection h5))
    refine ⟨(has_put_other hne.symm _).trans (h2 c).1, fun y hy zd => ?_⟩
    rw [atKey_put_other hne.symm]
    exact (h2 c).2 y hy zd
end Go.Proofs.Ytphhbojdolhieaa
