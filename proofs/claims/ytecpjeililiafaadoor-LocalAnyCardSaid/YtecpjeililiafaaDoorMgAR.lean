/-
  Joined by a program out of: LinQuest.
-/
import Derived.Test.YtecpjeililiafaaDoorMgAQ
import Derived.Deep.AppendLies
import Derived.Test.YtecpjeililiafaaDoorMgAE

/-
  A quest in memory: the record, the steps so far, the map of what is remembered; one more step, one less; a store into the map.
-/
namespace Go.Proofs.YtecpjeililiafaaDoor
open Go.RowKit Go.Maps
set_option maxRecDepth 20000
variable {Rl : Nat → Nat → Bool}

abbrev quCs (tv cv : Value) (b : Nat → Nat) (an : Nat) (v : Value) (M : Nat) : Array Value := #[tv, cv, .int .u16 (b 0 : Nat), .int .u16 (b 1 : Nat), .int .u16 (b 2 : Nat), .int .u16 (b 3 : Nat), .int .u16 (b 4 : Nat), .int .u16 (b 5 : Nat), .int .u16 (b 6 : Nat), .int .u16 (b 7 : Nat), .int .u16 (b 8 : Nat), .int .u16 (an : Nat), v, .map (some M)]
/-- Blocks that a search leaves alone. -/
def Aw (Q M : Nat) (v : Value) (g : Nat) : Prop := g ≠ Q ∧ g ≠ M ∧ v.ownBlock ≠ some g
/-- Where a quest stands. -/
structure QSt (Rl : Nat → Nat → Bool) (B0 : Nat) (tv cv : Value) (ts : List Int) (cs : List Cl) (Q M : Nat) (v : Value) (S : List (Nat × Int)) (N : Nat) (F : List UInt8 → Bool) (w : World) : Prop where
  q : Lies w Q 131 (quCs tv cv (befP Rl cs) (ansP cs) v M)
  own : SOwn w B0 v S
  mp : FMap w M N F
  rt : NRd w B0 tv ts
  rc : CRd w B0 cv cs
  pw : Pow10 B0 w
  bq : B0 ≤ Q
  bm : B0 ≤ M
  qm : Q ≠ M
  vq : v.ownBlock ≠ some Q
  vm : v.ownBlock ≠ some M
section
variable {B0 : Nat} {tv cv : Value} {ts : List Int} {cs : List Cl} {Q M : Nat} {v : Value} {S : List (Nat × Int)} {N : Nat} {F : List UInt8 → Bool} {w w' : World}
theorem SOwn.block (h : SOwn w B0 v S) {g : Nat} (hg : v.ownBlock = some g) : B0 ≤ g ∧ g < w.heap.size := World.ownsRow.lt h g hg
theorem QSt.lt (h : QSt Rl B0 tv cv ts cs Q M v S N F w) : Q < w.heap.size := Lies.lt h.q
theorem QSt.base (h : QSt Rl B0 tv cv ts cs Q M v S N F w) : B0 ≤ w.heap.size := Nat.le_trans h.bq (Nat.le_of_lt h.lt)
theorem QSt.rec_ (h : QSt Rl B0 tv cv ts cs Q M v S N F w) : RecAt Rl w Q tv cv ts cs :=
  ⟨Lies.cell h.q 0, Lies.cell h.q 1, fun j hj => by
    rw [Lies.cell h.q]
    rcases nat9 hj with rfl | rfl | rfl | rfl | rfl | rfl | rfl | rfl | rfl <;> rfl, Lies.cell h.q 11, h.rt.mono h.base, h.rc.mono h.base, h.lt⟩
theorem QSt.steps (h : QSt Rl B0 tv cv ts cs Q M v S N F w) : w.cell? ⟨Q, 12, none⟩ = some v := Lies.cell h.q 12
theorem QSt.map_ (h : QSt Rl B0 tv cv ts cs Q M v S N F w) : w.cell? ⟨Q, 13, none⟩ = some (.map (some M)) := Lies.cell h.q 13
theorem QSt.free (h : QSt Rl B0 tv cv ts cs Q M v S N F w) (i : Nat) : w.frozen? ⟨Q, i, none⟩ = false := Lies.frozen h.q i
theorem QSt.next (h : QSt Rl B0 tv cv ts cs Q M v S N F w) (hb : Below w.heap.size w w') : QSt Rl B0 tv cv ts cs Q M v S N F w' :=
  ⟨Lies.below h.q hb h.lt, h.own.keep (fun g hg => hb.block g (h.own.block hg).2), h.mp.keep (hb.block M h.mp.lt), h.rt.below (hb.mono h.base), h.rc.below (hb.mono h.base), h.pw.on (hb.mono h.base), h.bq, h.bm, h.qm, h.vq, h.vm⟩
/-- The steps' slice is set. -/
theorem QSt.setV (h : QSt Rl B0 tv cv ts cs Q M v S N F w) {v' : Value} {S' : List (Nat × Int)} (ho : SOwn w B0 v' S') (h1 : v'.ownBlock ≠ some Q) (h2 : v'.ownBlock ≠ some M) : QSt Rl B0 tv cv ts cs Q M v' S' N F (w.setCell ⟨Q, 12, none⟩ v') := by
  have hb : Below B0 w (w.setCell ⟨Q, 12, none⟩ v') := (Below.refl _ _).setCell (p := ⟨Q, 12, none⟩) h.bq _
  have hk : ∀ g, g ≠ Q → (w.setCell ⟨Q, 12, none⟩ v').heap[g]? = w.heap[g]? := fun g hg => Below.heap_setCell _ _ _ _ hg
  exact ⟨Lies.cast (Lies.set_ h.q 12 v') (by simp [quCs]), ho.keep (fun g hg => hk g (fun e => h1 (by rw [hg, e]))), h.mp.keep (hk M (fun e => h.qm e.symm)), h.rt.below hb, h.rc.below hb, h.pw.on hb, h.bq, h.bm, h.qm, h1, h2⟩
theorem Kp.setV (v v' : Value) (w : World) (hv : v'.ownBlock = v.ownBlock ∨ ∀ g, v'.ownBlock = some g → w.heap.size ≤ g) : Kp Q M v w v' (w.setCell ⟨Q, 12, none⟩ v') :=
  ⟨rfl, rfl, rfl, by simp [World.setCell], fun g _ h1 _ _ => Below.heap_setCell _ _ _ _ h1, hv⟩
/-- A store into the map. -/
theorem QSt.put (h : QSt Rl B0 tv cv ts cs Q M v S N F w) (hg : w.grownBy w' (some M)) {F' : List UInt8 → Bool} (hm : FMap w' M (N + 1) F') : QSt Rl B0 tv cv ts cs Q M v S (N + 1) F' w' := by
  have hb : Below B0 w w' := ⟨hg.os, hg.tape, hg.output, hg.size, fun k hk => hg.block k (Nat.lt_of_lt_of_le hk h.base) (fun e => by have := h.bm; injection e with e; omega)⟩
  exact ⟨h.q.keep (hg.block Q h.lt (fun e => h.qm (Option.some.inj e))), h.own.keep (fun g hg' => hg.block g (h.own.block hg').2 (fun e => h.vm (by rw [hg', ← e]))), hm, h.rt.below hb, h.rc.below hb, h.pw.on hb, h.bq, h.bm, h.qm, h.vq, h.vm⟩
theorem Kp.put (v : Value) (hg : w.grownBy w' (some M)) : Kp Q M v w v w' :=
  ⟨hg.os, hg.tape, hg.output, hg.size, fun g h1 _ h3 _ => hg.block g h1 (fun e => h3 (Option.some.inj e)), .inl rfl⟩
theorem NAw.kp {v' : Value} {u : Value} {xs : List Int} (h : NAw (Aw Q M v) w u xs) (hk : Kp Q M v w v' w') : NAw (Aw Q M v') w' u xs := by
  have h1 : NAw (fun g => Aw Q M v g ∧ g < w.heap.size) w u xs := h.imp (fun g hg h => ⟨h, hg⟩)
  refine (h1.keep hk.size (fun g hs hg => hk.block g hg hs.1.1 hs.1.2.1 hs.1.2.2)).imp (fun g _ hs => ⟨hs.1.1, hs.1.2.1, ?_⟩)
  rcases hk.row with e | e
  · rw [e]; exact hs.1.2.2
  · intro h2
    have := e g h2
    omega
theorem Lies.kp {v' : Value} {g : Nat} {t : TypeId} {c : Array Value} (h : Lies w g t c) (ha : Aw Q M v g) (hk : Kp Q M v w v' w') : Lies w' g t c ∧ Aw Q M v' g := by
  refine ⟨h.keep (hk.block g h.lt ha.1 ha.2.1 ha.2.2), ha.1, ha.2.1, ?_⟩
  rcases hk.row with e | e
  · rw [e]; exact ha.2.2
  · intro h2
    have := e g h2
    have := h.lt
    omega
end
theorem info_step : (Tryd.prog.info? 42).map (fun i => (i.zero, i.size, i.bytes)) = some (some (.agg #[.int .i64 0, .int .i64 0]), 2, 16) := by kernel_rfl
/-- One more step. -/
theorem step_app {W : World} {B : Nat} {v : Value} {S : List (Nat × Int)} {d : Nat × Int} {G : Nat} (ty : TypeId) (h : SOwn W B v S) (hG : Lies W G 42 (stCs d).toArray) (hB : B ≤ W.heap.size) (hlen : S.length ≤ 1000) :
    ∃ g cap w', (Builtin.append_ #[24, 24] ty #[v, .slice (some ⟨G, 0, none⟩) 1 1]).run Tryd.prog W = .ok (.slice (some ⟨g, 0, none⟩) (S.length + 1) cap) w' ∧ SOwn w' B (.slice (some ⟨g, 0, none⟩) (S.length + 1) cap) (S ++ [d]) ∧ W.grownBy w' v.ownBlock ∧ (v.ownBlock = some g ∨ g = W.heap.size) := by
  obtain ⟨i0, hi, hz0, hz1, hz2⟩ := info_of info_step
  obtain ⟨g, cap, w', hr, h2, h3, h4, h5⟩ := run_append_lies (P := Tryd.prog) W 24 ty B 42 i0 (.agg #[.int .i64 0, .int .i64 0]) 2 16 Tryd.underlying24 hi hz0 hz1 hz2 rfl (by decide) v S.length (S.flatMap stCs) h
    ⟨G, 0, none⟩ 1 1 (stCs d) rfl (fun j u hu => by
      rw [Addr.add_lit, Nat.zero_add, hG.cell]
      simpa using hu) (fun u hu => by
      simp only [List.mem_cons, List.not_mem_nil, or_false] at hu
      rcases hu with rfl | rfl <;> rfl) (by decide) (by unfold maxLen; omega) (by omega) hB W.heap.size rfl
  refine ⟨g, cap, w', hr, ?_, h3, h4⟩
  unfold SOwn
  rw [List.length_append, List.flatMap_append]
  simpa using h2
/-- One step less. -/
theorem SOwn.cut {w : World} {B g cap n : Nat} {S : List (Nat × Int)} {d : Nat × Int} (h : SOwn w B (.slice (some ⟨g, 0, none⟩) n cap) (S ++ [d])) : n = S.length + 1 ∧ S.length ≤ cap ∧ SOwn w B (.slice (some ⟨g, 0, none⟩) S.length cap) S := by
  obtain ⟨h1, h2⟩ := h
  rcases h2 with ⟨h3, _⟩ | ⟨g', cap', cur, e, h3, h4, h5, h6, h7, h8⟩
  · cases h3
  · injection e with e1 e2 e3
    injection e1 with e1
    injection e1 with e1
    subst e1
    subst e3
    rw [List.length_append] at e2 h5 h8
    simp only [List.length_cons, List.length_nil] at e2 h5 h8
    have hfl : ∀ l : List (Nat × Int), (l.flatMap stCs).length = l.length * 2 := fun l => by
      induction l with
      | nil => rfl
      | cons a l ih => rw [List.flatMap_cons, List.length_append, ih, List.length_cons]; simp; omega
    refine ⟨e2, by omega, hfl S, .inr ⟨g, cap, cur, rfl, h3, h4, by omega, h6, h7, ?_⟩⟩
    rw [List.flatMap_append] at h8
    have h9 := congrArg (fun l => l.take (S.length * 2)) h8
    simp only [List.take_take] at h9
    rw [show min (S.length * 2) ((S.length + (0 + 1)) * 2) = S.length * 2 by omega] at h9
    rw [h9, List.take_append_of_le_length (by rw [hfl]; omega), List.take_of_length_le (by rw [hfl]; omega)]
end Go.Proofs.YtecpjeililiafaaDoor
