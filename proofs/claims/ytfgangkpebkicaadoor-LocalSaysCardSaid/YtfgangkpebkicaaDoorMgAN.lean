/-
  Joined by a program out of: LinExt.
-/
import Derived.Test.YtfgangkpebkicaaDoorMgAM
import Derived.Test.YtfgangkpebkicaaDoorMgAB
import Derived.Deep.RegionHeld3
import Derived.Deep.CutRange

/-
  Contract of (*quest).extend.
-/
namespace Go.Proofs.YtfgangkpebkicaaDoor
open Go.RowKit Go.Maps
set_option maxRecDepth 20000
variable {Rl : Nat → Nat → Bool}
def ExtPost (Rl : Nat → Nat → Bool) (B0 : Nat) (tv cv : Value) (ts : List Int) (cs : List Cl) (Q M : Nat) (v : Value) (S : List (Nat × Int)) (N f : Nat) (o : Option (List (Nat × Int))) (w : World) (e : Ending) (w' : World) : Prop :=
  ∃ v' N' F', e = .returned (.bool o.isSome) ∧ Kp Q M v w v' w' ∧ QSt Rl B0 tv cv ts cs Q M v' (S ++ o.getD []) N' F' w' ∧ Mem8 Rl ts cs F' ∧ N' ≤ N + 10 ^ (f + 1)
/-- The contract, with f calls left. -/
def ExtOk (Rl : Nat → Nat → Bool) (B0 : Nat) (tv cv : Value) (ts : List Int) (cs : List Cl) (Q M : Nat) (f : Nat) : Prop :=
  ∀ (p : Pt) (w : World) (v : Value) (S : List (Nat × Int)) (N : Nat) (F : List UInt8 → Bool) (s : Nat → Value), leftN cs.length p = f → PtOk p → QSt Rl B0 tv cv ts cs Q M v S N F w → Mem8 Rl ts cs F → S.length + f ≤ 100 → N + 10 ^ (f + 1) ≤ 1000000000000 →
    (∀ i, i < 4 → NAw (Aw Q M v) w (s i) (p.st i)) → Calls Tryd.prog 58 #[.pointer (some ⟨Q, 0, none⟩), ptV p.done s] w (ExtPost Rl B0 tv cv ts cs Q M v S N f (findO Rl ts cs f p) w)
/-- What stands in the middle of it. -/
structure ExR (Rl : Nat → Nat → Bool) (B0 : Nat) (tv cv : Value) (ts : List Int) (cs : List Cl) (Q M : Nat) (v0 : Value) (w0 : World) (P d : Nat) (s : Nat → Value) (p : Pt) (v : Value) (S : List (Nat × Int)) (N : Nat) (F : List UInt8 → Bool) (X : World) : Prop where
  kp : Kp Q M v0 w0 v X
  q : QSt Rl B0 tv cv ts cs Q M v S N F X
  pb : PtB X P d s
  pa : Aw Q M v P
  st : ∀ i, i < 4 → NAw (Aw Q M v) X (s i) (p.st i)
section
variable {B0 : Nat} {tv cv : Value} {ts : List Int} {cs : List Cl} {Q M : Nat} {v0 : Value} {w0 : World} {P d : Nat} {s : Nat → Value} {p : Pt} {v v' : Value} {S S' : List (Nat × Int)} {N N' : Nat} {F F' : List UInt8 → Bool} {X X' : World}
theorem ExR.go (h : ExR Rl B0 tv cv ts cs Q M v0 w0 P d s p v S N F X) (k : Kp Q M v X v' X') (q' : QSt Rl B0 tv cv ts cs Q M v' S' N' F' X') : ExR Rl B0 tv cv ts cs Q M v0 w0 P d s p v' S' N' F' X' :=
  ⟨h.kp.trans k, q', (Lies.kp h.pb h.pa k).1, (Lies.kp h.pb h.pa k).2, fun i hi => (h.st i hi).kp k⟩
theorem ExR.next (h : ExR Rl B0 tv cv ts cs Q M v0 w0 P d s p v S N F X) (hb : Below X.heap.size X X') : ExR Rl B0 tv cv ts cs Q M v0 w0 P d s p v S N F X' := h.go (Kp.of_below hb) (h.q.next hb)
end
theorem key_len {p : Pt} (h : PtOk p) : (keyB p).length ≤ 65536 := by
  have h1 := dec_len (d := p.done) (by have := h.done; omega)
  have h2 := rowsB8_len h.st 4 (Nat.le_refl _)
  unfold keyB
  rw [List.length_append]
  omega
theorem find_full {ts : List Int} {cs : List Cl} {p : Pt} (h : fullB cs p = true) (f : Nat) : findO Rl ts cs f p = some [] := by
  cases f <;> rw [findO, if_pos h]
/-- One more step: behind the append, and behind the store. -/
theorem QSt.app {B0 : Nat} {tv cv : Value} {ts : List Int} {cs : List Cl} {Q M : Nat} {v : Value} {S S' : List (Nat × Int)} {N : Nat} {F : List UInt8 → Bool} {w W w' : World} (h : QSt Rl B0 tv cv ts cs Q M v S N F w) (hb : Below w.heap.size w W) {g m cap : Nat} (ho : SOwn w' B0 (.slice (some ⟨g, 0, none⟩) m cap) S') (hg : W.grownBy w' v.ownBlock) (hl : v.ownBlock = some g ∨ g = W.heap.size) :
    Lies w' Q 113 (quCs tv cv (befP Rl cs) (ansP cs) v M) ∧ QSt Rl B0 tv cv ts cs Q M (.slice (some ⟨g, 0, none⟩) m cap) S' N F (w'.setCell ⟨Q, 12, none⟩ (.slice (some ⟨g, 0, none⟩) m cap)) ∧ Kp Q M v w (.slice (some ⟨g, 0, none⟩) m cap) (w'.setCell ⟨Q, 12, none⟩ (.slice (some ⟨g, 0, none⟩) m cap)) := by
  have hW := h.next hb
  have hgb : Below B0 W w' := ⟨hg.os, hg.tape, hg.output, hg.size, fun k hk => hg.block k (Nat.lt_of_lt_of_le hk hW.base) (fun e => by have := (hW.own.block e.symm).1; omega)⟩
  have hq' : Lies w' Q 113 (quCs tv cv (befP Rl cs) (ansP cs) v M) := Lies.keep hW.q (hg.block Q hW.lt (fun e => h.vq e.symm))
  have hm' : FMap w' M N F := hW.mp.keep (hg.block M hW.mp.lt (fun e => h.vm e.symm))
  have n1 : (Value.slice (some ⟨g, 0, none⟩) m cap).ownBlock ≠ some Q := by
    intro e
    have e : g = Q := Option.some.inj e
    subst e
    rcases hl with hl | hl
    · exact h.vq hl
    · have := hW.lt; omega
  have n2 : (Value.slice (some ⟨g, 0, none⟩) m cap).ownBlock ≠ some M := by
    intro e
    have e : g = M := Option.some.inj e
    subst e
    rcases hl with hl | hl
    · exact h.vm hl
    · have := hW.mp.lt; omega
  have hk : ∀ x, x ≠ Q → (w'.setCell ⟨Q, 12, none⟩ (.slice (some ⟨g, 0, none⟩) m cap)).heap[x]? = w'.heap[x]? := fun x hx => Below.heap_setCell _ _ _ _ hx
  have hb2 : Below B0 w' (w'.setCell ⟨Q, 12, none⟩ (.slice (some ⟨g, 0, none⟩) m cap)) := (Below.refl _ _).setCell (p := ⟨Q, 12, none⟩) h.bq _
  refine ⟨hq', ⟨Lies.cast (Lies.set_ hq' 12 _) (by simp [quCs]), ho.keep (fun x hx => hk x (fun e => n1 (by rw [hx, e]))), hm'.keep (hk M (fun e => h.qm e.symm)), (hW.rt.below hgb).below hb2, (hW.rc.below hgb).below hb2, (hW.pw.on hgb).on hb2, h.bq, h.bm, h.qm, n1, n2⟩, ⟨hg.os.trans hb.os, hg.tape.trans hb.tape, hg.output.trans hb.output, ?_, fun x hx h1 h2 h3 => ?_, ?_⟩⟩
  · show w.heap.size ≤ (w'.setCell _ _).heap.size
    simp only [World.setCell, Array.size_modify]
    exact Nat.le_trans hb.size hg.size
  · rw [hk x h1, hg.block x (Nat.lt_of_lt_of_le hx hb.size) (fun e => h3 e.symm), hb.block x hx]
  · rcases hl with hl | hl
    · exact .inl hl.symm
    · exact .inr fun x hx => by
        have e : g = x := Option.some.inj hx
        have := hb.size
        omega
theorem wpList_app_step {W : World} {ops : Array Oper} {rest : List Oper} {o : Oper} {a : Act} {Q : Exit → Act → World → Prop} (hgd : o.guard = none) (s x : Operand)
    (ho : o.op = .call { callee := .builtin .append, args := #[s, x], argTypes := #[34, 34] })
    (base G : Nat) (v : Value) (l : List (Nat × Int)) (y : Nat × Int) (hs : a.eval s = v) (hx : a.eval x = .slice (some ⟨G, 0, none⟩) 1 1) (hown : SOwn W base v l) (hG : Lies W G 38 (stCs y).toArray) (hlen : l.length ≤ 1000) (hbase : base ≤ W.heap.size)
    (h : ∀ g cap w', SOwn w' base (.slice (some ⟨g, 0, none⟩) (l.length + 1) cap) (l ++ [y]) → W.grownBy w' v.ownBlock → (v.ownBlock = some g ∨ g = W.heap.size) → wpList Tryd.prog ops Q rest (a.put o.dst (.slice (some ⟨g, 0, none⟩) (l.length + 1) cap)) w') : wpList Tryd.prog ops Q (o :: rest) a W := by
  refine wpList_plain hgd fun _ hK => ?_
  obtain ⟨g, cap, w', hrun, r1, r2, r3⟩ := step_app o.type hown hG hbase hlen
  unfold Oper.wp
  simp [execOp, ho, resolve, invoke, builtin, hs, hx, hrun, Result.andThen]
  exact hK _ _ (h g cap w' r1 r2 r3)
theorem perform_tri {w : World} {Q : Nat} {tv cv : Value} {ts : List Int} {cs : List Cl} (hR : RecAt Rl w Q tv cv ts cs) (hts : ts.length ≤ 4) (hcs : cs.length ≤ 9) (hth : ∀ c, c ∈ cs → 0 ≤ c.thing ∧ c.thing < ts.length) {S : Nat → Prop} {p : Pt} {d : Nat} (hpd : d = p.done) (hd : d < 65536)
    (B0 B1 B2 B3 : Option Addr) (l0 l1 l2 l3 k0 k1 k2 k3 : Nat) (hs : ∀ i, i < 4 → NAw S w (four (.slice B0 l0 k0) (.slice B1 l1 k1) (.slice B2 l2 k2) (.slice B3 l3 k3) i) (p.st i)) (k : Nat) (hk : k < cs.length) :
    Calls Tryd.prog 75 #[.pointer (some ⟨Q, 0, none⟩), ptV d (four (.slice B0 l0 k0) (.slice B1 l1 k1) (.slice B2 l2 k2) (.slice B3 l3 k3)), .int .i64 k] w fun e w' => Below w.heap.size w w' ∧ ∃ d2 C0 C1 C2 C3 m0 m1 m2 m3 c0 c1 c2 c3 res,
      e = .returned (.tuple #[.agg #[.int .u16 (d2 : Nat), .slice C0 m0 c0, .slice C1 m1 c1, .slice C2 m2 c2, .slice C3 m3 c3], .int .i64 res, .bool (mayB Rl ts cs p k)]) ∧
      (mayB Rl ts cs p k = true → d2 = (nextP ts cs p k).done ∧ res = (thingO ts cs p k).2.1 ∧ ∀ i, i < 4 → NAw (fun g => S g ∨ w.heap.size ≤ g) w' (four (.slice C0 m0 c0) (.slice C1 m1 c1) (.slice C2 m2 c2) (.slice C3 m3 c3) i) ((nextP ts cs p k).st i)) := by
  subst hpd
  have hnb : nextB Rl ts cs p (k : Int) = mayB Rl ts cs p k := by unfold nextB; rw [decide_eq_true ⟨by omega, by omega⟩]; simp
  refine (perform_core hR hts hcs hth hd B0 B1 B2 B3 l0 l1 l2 l3 k0 k1 k2 k3 hs (k : Int)).mono ?_
  rintro e w' ⟨hb, h⟩
  rw [hnb] at h
  refine ⟨hb, ?_⟩
  rcases h with ⟨h1, rfl⟩ | ⟨h1, pv, rfl, s, rfl, h2⟩
  · exact ⟨0, none, none, none, none, 0, 0, 0, 0, 0, 0, 0, 0, 0, by rw [h1], fun h => by rw [h1] at h; cases h⟩
  · simp only [Int.toNat_natCast] at h2 ⊢
    have hat := fun i hi => four_at s (i := i) hi
    obtain ⟨C0, c0, e0, -⟩ := h2 0 (by omega)
    obtain ⟨C1, c1, e1, -⟩ := h2 1 (by omega)
    obtain ⟨C2, c2, e2, -⟩ := h2 2 (by omega)
    obtain ⟨C3, c3, e3, -⟩ := h2 3 (by omega)
    rw [e0, e1, e2, e3] at hat
    refine ⟨_, C0, C1, C2, C3, _, _, _, _, c0, c1, c2, c3, _, ?_, fun _ => ⟨rfl, rfl, fun i hi => by rw [hat i hi]; exact h2 i hi⟩⟩
    rw [h1]
    show Ending.returned (.tuple #[.agg #[_, s 0, s 1, s 2, s 3], _, _]) = _
    rw [e0, e1, e2, e3]
set_option maxHeartbeats 8000000 in
theorem ext_core {B0 : Nat} {tv : Value} {ts : List Int} {cs : List Cl} {Q M : Nat} (Ac : Option Addr) (capc : Nat) (hts : ts.length ≤ 4) (hcs : cs.length ≤ 9) (hth : ∀ c, c ∈ cs → 0 ≤ c.thing ∧ c.thing < ts.length) (f : Nat) (ih : ∀ f', f = f' + 1 → ExtOk Rl B0 tv (.slice Ac cs.length capc) ts cs Q M f')
    (p : Pt) (w : World) (v : Value) (S : List (Nat × Int)) (N : Nat) (F : List UInt8 → Bool) (A0 A1 A2 A3 : Option Addr) (k0 k1 k2 k3 : Nat) (hlf : leftN cs.length p = f) (hok : PtOk p) (hq : QSt Rl B0 tv (.slice Ac cs.length capc) ts cs Q M v S N F w) (hm : Mem8 Rl ts cs F) (hSf : S.length + f ≤ 100) (hNf : N + 10 ^ (f + 1) ≤ 1000000000000)
    (hst : ∀ i, i < 4 → NAw (Aw Q M v) w ((four (.slice A0 (p.st 0).length k0) (.slice A1 (p.st 1).length k1) (.slice A2 (p.st 2).length k2) (.slice A3 (p.st 3).length k3)) i) (p.st i)) :
    Calls Tryd.prog 58 #[.pointer (some ⟨Q, 0, none⟩), ptV p.done (four (.slice A0 (p.st 0).length k0) (.slice A1 (p.st 1).length k1) (.slice A2 (p.st 2).length k2) (.slice A3 (p.st 3).length k3))] w (ExtPost Rl B0 tv (.slice Ac cs.length capc) ts cs Q M v S N f (findO Rl ts cs f p) w) := by
  obtain ⟨n, hn⟩ : ∃ n, n = cs.length := ⟨_, rfl⟩
  obtain ⟨d, hdd⟩ : ∃ d, d = p.done := ⟨_, rfl⟩
  have hd : d < 65536 := by have := hok.done; omega
  rw [← hdd]
  rw [← hn] at hq ih ⊢
  have hb0 : Below w.heap.size w (w.alloc (.cells (ptCs d (four (.slice A0 (p.st 0).length k0) (.slice A1 (p.st 1).length k1) (.slice A2 (p.st 2).length k2) (.slice A3 (p.st 3).length k3))) 117)) := (Below.refl _ _).alloc (Nat.le_refl _) _
  have h1 : ExR Rl B0 tv (.slice Ac n capc) ts cs Q M v w w.heap.size d (four (.slice A0 (p.st 0).length k0) (.slice A1 (p.st 1).length k1) (.slice A2 (p.st 2).length k2) (.slice A3 (p.st 3).length k3)) p v S N F (w.alloc (.cells (ptCs d (four (.slice A0 (p.st 0).length k0) (.slice A1 (p.st 1).length k1) (.slice A2 (p.st 2).length k2) (.slice A3 (p.st 3).length k3))) 117)) :=
    ⟨Kp.of_below hb0, hq.next hb0, Lies.new _ _ _, ⟨by have := hq.lt; omega, by have := hq.mp.lt; omega, fun e => by have := (hq.own.block e).2; omega⟩, fun i hi => (hst i hi).next hb0⟩
  have HN := Lib.hid (And.intro hn (And.intro hdd hlf))
  have HS := Lib.hid (And.intro hts (And.intro hcs hth))
  have HO := Lib.hid hok
  have HM := Lib.hid hm
  have HL := Lib.hid (And.intro hSf hNf)
  have IH := Lib.hid ih
  have H1 := Lib.hid h1
  clear hn hdd hlf hok hq hm hSf hNf hst ih h1 hb0 hth
  obtain ⟨o, ho⟩ : ∃ o, o = findO Rl ts cs f p := ⟨_, rfl⟩
  rw [← ho]
  have HOO := Lib.hid ho
  clear ho
  go_enter Tryd.func58, Tryd.ntmps58
  go_upto_region 1 with fail
  change Code.wp _ _ _ _ (w.alloc (.cells (ptCs d (four (.slice A0 (p.st 0).length k0) (.slice A1 (p.st 1).length k1) (.slice A2 (p.st 2).length k2) (.slice A3 (p.st 3).length k3))) 117))
  generalize w.alloc (.cells (ptCs d (four (.slice A0 (p.st 0).length k0) (.slice A1 (p.st 1).length k1) (.slice A2 (p.st 2).length k2) (.slice A3 (p.st 3).length k3))) 117) = W0 at H1 ⊢
  generalize w.heap.size = P at H1 ⊢
  have HSR : Hid (∀ X v9 S9 N9 F9, ExR Rl B0 tv (.slice Ac n capc) ts cs Q M v w P d (four (.slice A0 (p.st 0).length k0) (.slice A1 (p.st 1).length k1) (.slice A2 (p.st 2).length k2) (.slice A3 (p.st 3).length k3)) p v9 S9 N9 F9 X → ∀ W, Below X.heap.size X W → (W.cell? ⟨P, 0, none⟩ = some (.int .u16 (d : Nat)) ∧ W.cell? ⟨P, 1, none⟩ = some (.slice A0 (p.st 0).length k0) ∧ W.cell? ⟨P, 2, none⟩ = some (.slice A1 (p.st 1).length k1) ∧ W.cell? ⟨P, 3, none⟩ = some (.slice A2 (p.st 2).length k2) ∧ W.cell? ⟨P, 4, none⟩ = some (.slice A3 (p.st 3).length k3))) := Lib.hid fun X v9 S9 N9 F9 h W hb => PtB.cells (show PtB W P d (four (.slice A0 (p.st 0).length k0) (.slice A1 (p.st 1).length k1) (.slice A2 (p.st 2).length k2) (.slice A3 (p.st 3).length k3)) from Lies.below h.pb hb h.pb.lt)
  refine wp_region_held_drew (S := fun W => (W.cell? ⟨P, 0, none⟩ = some (.int .u16 (d : Nat)) ∧ W.cell? ⟨P, 1, none⟩ = some (.slice A0 (p.st 0).length k0) ∧ W.cell? ⟨P, 2, none⟩ = some (.slice A1 (p.st 1).length k1) ∧ W.cell? ⟨P, 3, none⟩ = some (.slice A2 (p.st 2).length k2) ∧ W.cell? ⟨P, 4, none⟩ = some (.slice A3 (p.st 3).length k3))) (by kernel_rfl) (HSR.out _ _ _ _ _ H1.out _ (Below.refl _ _).drew) (fun hHeld => ?_)
  change wpAnyH _ _ _ _ _ 5 _ _ _
  have HD : Hid (Below W0.heap.size W0 W0.drew) := Lib.hid (Below.refl _ _).drew
  clear hHeld
  generalize W0.drew = WD at HD ⊢
  refine takeAt 0 10 (oi := _) (v := ?_) rfl rfl (by kernel_rfl) (by kernel_rfl) (by kernel_rfl) (fun _ _ _ h => h) (by rfl) ?_ (HSR.out _ _ _ _ _ H1.out _ HD.out) ?_
  rotate_left
  · (intro w hSw; obtain ⟨z0, z1, z2, z3, z4⟩ := hSw; go_simp; try with_reducible rfl)
  simp only [Act.put, List.setIfInBounds_toArray, List.set_cons_zero, List.set_cons_succ]
  refine takeAt 1 11 (oi := _) (v := ?_) rfl rfl (by kernel_rfl) (by kernel_rfl) (by kernel_rfl) (fun _ _ _ h => h) (by rfl) ?_ (HSR.out _ _ _ _ _ H1.out _ HD.out) ?_
  rotate_left
  · (intro w hSw; obtain ⟨z0, z1, z2, z3, z4⟩ := hSw; go_simp; try with_reducible rfl)
  simp only [Act.put, List.setIfInBounds_toArray, List.set_cons_zero, List.set_cons_succ]
  refine takeAt 2 12 (oi := _) (v := ?_) rfl rfl (by kernel_rfl) (by kernel_rfl) (by kernel_rfl) (fun _ _ _ h => h) (by rfl) ?_ (HSR.out _ _ _ _ _ H1.out _ HD.out) ?_
  rotate_left
  · (intro w hSw; obtain ⟨z0, z1, z2, z3, z4⟩ := hSw; go_simp; try with_reducible rfl)
  simp only [Act.put, List.setIfInBounds_toArray, List.set_cons_zero, List.set_cons_succ]
  refine takeAt 3 13 (oi := _) (v := ?_) rfl rfl (by kernel_rfl) (by kernel_rfl) (by kernel_rfl) (fun _ _ _ h => h) (by rfl) ?_ (HSR.out _ _ _ _ _ H1.out _ HD.out) ?_
  rotate_left
  · (intro w hSw; obtain ⟨z0, z1, z2, z3, z4⟩ := hSw; go_simp; try with_reducible rfl)
  simp only [Act.put, List.setIfInBounds_toArray, List.set_cons_zero, List.set_cons_succ]
  refine wpAnyH_ready (rs := [4]) (by kernel_rfl) (by simp) ?_
  refine AllReadyH.cons (o := _) rfl (fun K hK => ?_) AllReadyH.nil
  go_simp
  refine (complete_any (H1.out.next HD.out).q.rec_ HS.out.2.1 hd (four (.slice A0 (p.st 0).length k0) (.slice A1 (p.st 1).length k1) (.slice A2 (p.st 2).length k2) (.slice A3 (p.st 3).length k3)) p HN.out.2.1.symm).mono ?_
  rintro e w1 ⟨rfl, hb1⟩
  have HD1 := Lib.hid (HD.out.trans (hb1.mono HD.out.size))
  refine hK.out _ _ (HSR.out _ _ _ _ _ H1.out _ HD1.out) (fun _ => ?_)
  clear hK K
  refine wpAnyH_done (by kernel_rfl) ?_ _
  have HX1 := Lib.hid (H1.out.next HD1.out)
  clear HD HD1 H1 hb1
  cases hfull : fullB cs p
  · have HF := Lib.hid hfull
    clear hfull
    go_wp2_with fail
    refine (key_core A0 A1 A2 A3 k0 k1 k2 k3 HX1.out.pb hd (fun i hi => (HX1.out.st i hi).rd) HO.out.st (HX1.out.q.pw.mono HX1.out.q.base)).mono ?_
    rintro e w2 ⟨rfl, hb2⟩
    have HX2 := Lib.hid (HX1.out.next hb2)
    have hks : keyB ⟨d, p.st⟩ = keyB p := by rw [HN.out.2.1]
    rw [hks]
    have hkl := key_len HO.out
    have hhit := HM.out.hit HO.out
    have hput := fun (F' : List UInt8 → Bool) (h : Mem8 Rl ts cs F') => h.put HO.out
    generalize keyB p = ks at hkl hhit hput ⊢
    have hlook := HX2.out.q.mp.look ks hkl
    have c13 := HX2.out.q.map_
    have c1 := HX2.out.q.rec_.c1
    have HH := Lib.hid (And.intro hkl (And.intro hhit hput))
    clear HX1 hb2 hks hkl hhit hput
    cases hF : F ks
    · rw [hF] at hlook
      clear hF
      have hff : f ≠ 0 := fun e => by
        have := full_left (cs := cs) (p := p) (by rw [HN.out.2.2]; exact e)
        rw [HF.out] at this
        cases this
      obtain ⟨f', rfl⟩ : ∃ f', f = f' + 1 := ⟨f - 1, by omega⟩
      have hoo : o = tryO Rl (findO Rl ts cs f') ts cs p n 0 := by rw [HOO.out, findO, if_neg (by rw [HF.out]; decide), ← HN.out.1]
      have hn9 : n ≤ 9 := by rw [HN.out.1]; exact hcs
      have HT := Lib.hid hoo
      have IH' := Lib.hid (IH.out f' rfl)
      clear hoo hff IH HOO
      go_wp2_with fail
      clear hlook c13 c1
      go_loopw [28] (fun t wr => ∃ (k : Nat) (v1 : Value) (N1 : Nat) (F1 : List UInt8 → Bool), k ≤ n ∧ t = .int .i64 k ∧ tryO Rl (findO Rl ts cs f') ts cs p (n - k) k = o ∧ ExR Rl B0 tv (.slice Ac n capc) ts cs Q M v w P d (four (.slice A0 (p.st 0).length k0) (.slice A1 (p.st 1).length k1) (.slice A2 (p.st 2).length k2) (.slice A3 (p.st 3).length k3)) p v1 S N1 F1 wr ∧ Mem8 Rl ts cs F1 ∧ N1 ≤ N + k * 10 ^ (f' + 1)) (fun t _ => n - (intOf t).toNat)
      case atStart => exact ⟨0, v, N, F, by omega, rfl, HT.out.symm, HX2.out, HM.out, by omega⟩
      case round =>
        obtain ⟨k, v1, N1, F1, hk, rfl, hT, hX, hM1, hN1⟩ := hrel
        by_cases hkn : k < n
        · have HX := Lib.hid hX
          have HK := Lib.hid (And.intro hT (And.intro hM1 hN1))
          clear hT hX hM1 hN1
          go_upto_region 9 with fail
          go_cut [7, 8, 9, 28] from 28 to 72 (fun a b c t wx => t = .int .i64 k ∧ ∃ P2 d2 C0 C1 C2 C3 m0 m1 m2 m3 c0 c1 c2 c3 res, a = .pointer (some ⟨P2, 0, none⟩) ∧ b = .int .i64 res ∧ c = .bool (mayB Rl ts cs p k) ∧ ExR Rl B0 tv (.slice Ac n capc) ts cs Q M v w P d (four (.slice A0 (p.st 0).length k0) (.slice A1 (p.st 1).length k1) (.slice A2 (p.st 2).length k2) (.slice A3 (p.st 3).length k3)) p v1 S N1 F1 wx ∧ Aw Q M v1 P2 ∧ PtB wx P2 d2 (four (.slice C0 m0 c0) (.slice C1 m1 c1) (.slice C2 m2 c2) (.slice C3 m3 c3)) ∧
            (mayB Rl ts cs p k = true → d2 = (nextP ts cs p k).done ∧ res = (thingO ts cs p k).2.1 ∧ ∀ i, i < 4 → NAw (Aw Q M v1) wx ((four (.slice C0 m0 c0) (.slice C1 m1 c1) (.slice C2 m2 c2) (.slice C3 m3 c3)) i) ((nextP ts cs p k).st i)))
          case first =>
            refine wp_region_held_drew (S := fun W => (W.cell? ⟨P, 0, none⟩ = some (.int .u16 (d : Nat)) ∧ W.cell? ⟨P, 1, none⟩ = some (.slice A0 (p.st 0).length k0) ∧ W.cell? ⟨P, 2, none⟩ = some (.slice A1 (p.st 1).length k1) ∧ W.cell? ⟨P, 3, none⟩ = some (.slice A2 (p.st 2).length k2) ∧ W.cell? ⟨P, 4, none⟩ = some (.slice A3 (p.st 3).length k3))) (by kernel_rfl) (HSR.out _ _ _ _ _ HX.out _ (Below.refl _ _).drew) (fun hHeld => ?_)
            change wpAnyH _ _ _ _ _ 14 _ _ _
            have HD : Hid (Below wr.heap.size wr wr.drew) := Lib.hid (Below.refl _ _).drew
            clear hHeld
            generalize wr.drew = WD at HD ⊢
            refine takeAt 0 32 (oi := _) (v := ?_) rfl rfl (by kernel_rfl) (by kernel_rfl) (by kernel_rfl) (fun _ _ _ h => h) (by rfl) ?_ (HSR.out _ _ _ _ _ HX.out _ HD.out) ?_
            rotate_left
            · (intro w hSw; obtain ⟨z0, z1, z2, z3, z4⟩ := hSw; go_simp; try with_reducible rfl)
            simp only [Act.put, List.setIfInBounds_toArray, List.set_cons_zero, List.set_cons_succ]
            refine takeAt 1 33 (oi := _) (v := ?_) rfl rfl (by kernel_rfl) (by kernel_rfl) (by kernel_rfl) (fun _ _ _ h => h) (by rfl) ?_ (HSR.out _ _ _ _ _ HX.out _ HD.out) ?_
            rotate_left
            · (intro w hSw; obtain ⟨z0, z1, z2, z3, z4⟩ := hSw; go_simp; try with_reducible rfl)
            simp only [Act.put, List.setIfInBounds_toArray, List.set_cons_zero, List.set_cons_succ]
            refine takeAt 2 34 (oi := _) (v := ?_) rfl rfl (by kernel_rfl) (by kernel_rfl) (by kernel_rfl) (fun _ _ _ h => h) (by rfl) ?_ (HSR.out _ _ _ _ _ HX.out _ HD.out) ?_
            rotate_left
            · (intro w hSw; obtain ⟨z0, z1, z2, z3, z4⟩ := hSw; go_simp; try with_reducible rfl)
            simp only [Act.put, List.setIfInBounds_toArray, List.set_cons_zero, List.set_cons_succ]
            refine takeAt 3 35 (oi := _) (v := ?_) rfl rfl (by kernel_rfl) (by kernel_rfl) (by kernel_rfl) (fun _ _ _ h => h) (by rfl) ?_ (HSR.out _ _ _ _ _ HX.out _ HD.out) ?_
            rotate_left
            · (intro w hSw; obtain ⟨z0, z1, z2, z3, z4⟩ := hSw; go_simp; try with_reducible rfl)
            simp only [Act.put, List.setIfInBounds_toArray, List.set_cons_zero, List.set_cons_succ]
            refine takeAt 4 36 (oi := _) (v := ?_) rfl rfl (by kernel_rfl) (by kernel_rfl) (by kernel_rfl) (fun _ _ _ h => h) (by rfl) ?_ (HSR.out _ _ _ _ _ HX.out _ HD.out) ?_
            rotate_left
            · (intro w hSw; obtain ⟨z0, z1, z2, z3, z4⟩ := hSw; go_simp; try with_reducible rfl)
            simp only [Act.put, List.setIfInBounds_toArray, List.set_cons_zero, List.set_cons_succ]
            refine wpAnyH_ready (rs := [5, 10]) (by kernel_rfl) (by simp) ?_
            refine AllReadyH.cons (o := _) rfl (fun K hK => ?_) (AllReadyH.cons (o := _) rfl (fun K hK => ?_) AllReadyH.nil)
            · go_simp
              refine (perform_tri (HX.out.next HD.out).q.rec_ HS.out.1 HS.out.2.1 HS.out.2.2 HN.out.2.1 hd A0 A1 A2 A3 (p.st 0).length (p.st 1).length (p.st 2).length (p.st 3).length k0 k1 k2 k3 (HX.out.next HD.out).st k (by rw [← HN.out.1]; exact hkn)).mono ?_
              rintro e w3 ⟨hb3, d2, C0, C1, C2, C3, m0, m1, m2, m3, c0, c1, c2, c3, res, rfl, hpost⟩
              have HD3 := Lib.hid (HD.out.trans (hb3.mono HD.out.size))
              refine hK.out _ _ (HSR.out _ _ _ _ _ HX.out _ HD3.out) (fun _ => ?_)
              clear hK K
              refine takeAt 6 31 (oi := _) (v := ?_) rfl rfl (by kernel_rfl) (by kernel_rfl) (by kernel_rfl) (fun _ _ _ h => h) (by rfl) ?_ (HSR.out _ _ _ _ _ HX.out _ HD3.out) ?_
              rotate_left
              · (intro w hSw; obtain ⟨z0, z1, z2, z3, z4⟩ := hSw; go_simp; try with_reducible rfl)
              simp only [Act.put, List.setIfInBounds_toArray, List.set_cons_zero, List.set_cons_succ]
              refine takeAt 7 38 (oi := _) (v := ?_) rfl rfl (by kernel_rfl) (by kernel_rfl) (by kernel_rfl) (fun _ _ _ h => h) (by rfl) ?_ (HSR.out _ _ _ _ _ HX.out _ HD3.out) ?_
              rotate_left
              · (intro w hSw; obtain ⟨z0, z1, z2, z3, z4⟩ := hSw; go_simp; try with_reducible rfl)
              simp only [Act.put, List.setIfInBounds_toArray, List.set_cons_zero, List.set_cons_succ]
              refine takeAt 8 39 (oi := _) (v := ?_) rfl rfl (by kernel_rfl) (by kernel_rfl) (by kernel_rfl) (fun _ _ _ h => h) (by rfl) ?_ (HSR.out _ _ _ _ _ HX.out _ HD3.out) ?_
              rotate_left
              · (intro w hSw; obtain ⟨z0, z1, z2, z3, z4⟩ := hSw; go_simp; try with_reducible rfl)
              simp only [Act.put, List.setIfInBounds_toArray, List.set_cons_zero, List.set_cons_succ]
              refine takeAt 9 40 (oi := _) (v := ?_) rfl rfl (by kernel_rfl) (by kernel_rfl) (by kernel_rfl) (fun _ _ _ h => h) (by rfl) ?_ (HSR.out _ _ _ _ _ HX.out _ HD3.out) ?_
              rotate_left
              · (intro w hSw; obtain ⟨z0, z1, z2, z3, z4⟩ := hSw; go_simp; try with_reducible rfl)
              simp only [Act.put, List.setIfInBounds_toArray, List.set_cons_zero, List.set_cons_succ]
              refine wpAnyH_ready (rs := [10]) (by kernel_rfl) (by simp) ?_
              refine AllReadyH.cons (o := _) rfl (fun K hK => ?_) AllReadyH.nil
              go_simp
              have HZ := Lib.hid (Lies.new w3 117 (ptCs 0 nilS))
              have HDZ := Lib.hid (HD3.out.alloc HD3.out.size (.cells (ptCs 0 nilS) 117))
              refine hK.out _ _ (HSR.out _ _ _ _ _ HX.out _ HDZ.out) (fun _ => ?_)
              clear hK K
              refine wpAnyH_ready (rs := [11]) (by kernel_rfl) (by simp) ?_
              refine AllReadyH.cons (o := _) rfl (fun K hK => ?_) AllReadyH.nil
              go_simp
              have HPB := Lib.hid (Lies.new w3 117 (ptCs d2 (four (.slice C0 m0 c0) (.slice C1 m1 c1) (.slice C2 m2 c2) (.slice C3 m3 c3))))
              have HDP := Lib.hid (HD3.out.alloc HD3.out.size (.cells (ptCs d2 (four (.slice C0 m0 c0) (.slice C1 m1 c1) (.slice C2 m2 c2) (.slice C3 m3 c3))) 117))
              refine hK.out _ _ (HSR.out _ _ _ _ _ HX.out _ HDP.out) (fun _ => ?_)
              clear hK K
              refine takeAt 12 8 (oi := _) (v := ?_) rfl rfl (by kernel_rfl) (by kernel_rfl) (by kernel_rfl) (fun _ _ _ h => h) (by rfl) ?_ (HSR.out _ _ _ _ _ HX.out _ HDP.out) ?_
              rotate_left
              · (intro w hSw; obtain ⟨z0, z1, z2, z3, z4⟩ := hSw; go_simp; try with_reducible rfl)
              simp only [Act.put, List.setIfInBounds_toArray, List.set_cons_zero, List.set_cons_succ]
              refine takeAt 13 9 (oi := _) (v := ?_) rfl rfl (by kernel_rfl) (by kernel_rfl) (by kernel_rfl) (fun _ _ _ h => h) (by rfl) ?_ (HSR.out _ _ _ _ _ HX.out _ HDP.out) ?_
              rotate_left
              · (intro w hSw; obtain ⟨z0, z1, z2, z3, z4⟩ := hSw; go_simp; try with_reducible rfl)
              simp only [Act.put, List.setIfInBounds_toArray, List.set_cons_zero, List.set_cons_succ]
              refine wpAnyH_done (by kernel_rfl) ?_ _
              go_wp2_with fail
              go_meet
              have hlt3 := HD3.out.size
              refine ⟨rfl, w3.heap.size, d2, C0, C1, C2, C3, m0, m1, m2, m3, c0, c1, c2, c3, res, rfl, rfl, rfl, HX.out.next HDP.out, ⟨by have := HX.out.q.lt; omega, by have := HX.out.q.mp.lt; omega, fun e => by have := (HX.out.q.own.block e).2; omega⟩, HPB.out, fun hmay => ?_⟩
              obtain ⟨g1, g2, g3⟩ := hpost hmay
              refine ⟨g1, g2, fun i hi => ((g3 i hi).imp (S' := Aw Q M v1) (fun g hg hS => ?_)).next ((Below.refl _ _).alloc (Nat.le_refl _) _)⟩
              rcases hS with hS | hS
              · exact hS
              · have := HD.out.size
                exact ⟨by have := HX.out.q.lt; omega, by have := HX.out.q.mp.lt; omega, fun e => by have := (HX.out.q.own.block e).2; omega⟩
            · go_simp
              have HZ := Lib.hid (Lies.new WD 117 (ptCs 0 nilS))
              have HDZ := Lib.hid (HD.out.alloc HD.out.size (.cells (ptCs 0 nilS) 117))
              refine hK.out _ _ (HSR.out _ _ _ _ _ HX.out _ HDZ.out) (fun _ => ?_)
              clear hK K
              refine wpAnyH_ready (rs := [5]) (by kernel_rfl) (by simp) ?_
              refine AllReadyH.cons (o := _) rfl (fun K hK => ?_) AllReadyH.nil
              go_simp
              refine (perform_tri (HX.out.next HDZ.out).q.rec_ HS.out.1 HS.out.2.1 HS.out.2.2 HN.out.2.1 hd A0 A1 A2 A3 (p.st 0).length (p.st 1).length (p.st 2).length (p.st 3).length k0 k1 k2 k3 (fun i hi => (((HX.out.next HD.out).st i hi).imp (S' := fun g => Aw Q M v1 g ∧ g < WD.heap.size) (fun g hg h => ⟨h, hg⟩)).next ((Below.refl _ _).alloc (Nat.le_refl _) (.cells (ptCs 0 nilS) 117))) k (by rw [← HN.out.1]; exact hkn)).mono ?_
              rintro e w3 ⟨hb3, d2, C0, C1, C2, C3, m0, m1, m2, m3, c0, c1, c2, c3, res, rfl, hpost⟩
              have HD3 := Lib.hid (HDZ.out.trans (hb3.mono HDZ.out.size))
              refine hK.out _ _ (HSR.out _ _ _ _ _ HX.out _ HD3.out) (fun _ => ?_)
              clear hK K
              refine takeAt 6 31 (oi := _) (v := ?_) rfl rfl (by kernel_rfl) (by kernel_rfl) (by kernel_rfl) (fun _ _ _ h => h) (by rfl) ?_ (HSR.out _ _ _ _ _ HX.out _ HD3.out) ?_
              rotate_left
              · (intro w hSw; obtain ⟨z0, z1, z2, z3, z4⟩ := hSw; go_simp; try with_reducible rfl)
              simp only [Act.put, List.setIfInBounds_toArray, List.set_cons_zero, List.set_cons_succ]
              refine takeAt 7 38 (oi := _) (v := ?_) rfl rfl (by kernel_rfl) (by kernel_rfl) (by kernel_rfl) (fun _ _ _ h => h) (by rfl) ?_ (HSR.out _ _ _ _ _ HX.out _ HD3.out) ?_
              rotate_left
              · (intro w hSw; obtain ⟨z0, z1, z2, z3, z4⟩ := hSw; go_simp; try with_reducible rfl)
              simp only [Act.put, List.setIfInBounds_toArray, List.set_cons_zero, List.set_cons_succ]
              refine takeAt 8 39 (oi := _) (v := ?_) rfl rfl (by kernel_rfl) (by kernel_rfl) (by kernel_rfl) (fun _ _ _ h => h) (by rfl) ?_ (HSR.out _ _ _ _ _ HX.out _ HD3.out) ?_
              rotate_left
              · (intro w hSw; obtain ⟨z0, z1, z2, z3, z4⟩ := hSw; go_simp; try with_reducible rfl)
              simp only [Act.put, List.setIfInBounds_toArray, List.set_cons_zero, List.set_cons_succ]
              refine takeAt 9 40 (oi := _) (v := ?_) rfl rfl (by kernel_rfl) (by kernel_rfl) (by kernel_rfl) (fun _ _ _ h => h) (by rfl) ?_ (HSR.out _ _ _ _ _ HX.out _ HD3.out) ?_
              rotate_left
              · (intro w hSw; obtain ⟨z0, z1, z2, z3, z4⟩ := hSw; go_simp; try with_reducible rfl)
              simp only [Act.put, List.setIfInBounds_toArray, List.set_cons_zero, List.set_cons_succ]
              refine wpAnyH_ready (rs := [11]) (by kernel_rfl) (by simp) ?_
              refine AllReadyH.cons (o := _) rfl (fun K hK => ?_) AllReadyH.nil
              have hzb : PtB w3 WD.heap.size 0 nilS := Lies.below HZ.out hb3 HZ.out.lt
              obtain ⟨y0, y1, y2, y3, y4⟩ := hzb.cells
              have hfz := hzb.free
              go_simp
              clear y0 y1 y2 y3 y4 hfz
              have hPB : PtB (fillP w3 WD.heap.size d2 (four (.slice C0 m0 c0) (.slice C1 m1 c1) (.slice C2 m2 c2) (.slice C3 m3 c3))) WD.heap.size d2 (four (.slice C0 m0 c0) (.slice C1 m1 c1) (.slice C2 m2 c2) (.slice C3 m3 c3)) := hzb.fill d2 (four (.slice C0 m0 c0) (.slice C1 m1 c1) (.slice C2 m2 c2) (.slice C3 m3 c3))
              have hDP : Below wr.heap.size wr (fillP w3 WD.heap.size d2 (four (.slice C0 m0 c0) (.slice C1 m1 c1) (.slice C2 m2 c2) (.slice C3 m3 c3))) := fillP_below HD3.out (g := WD.heap.size) HD.out.size d2 (four (.slice C0 m0 c0) (.slice C1 m1 c1) (.slice C2 m2 c2) (.slice C3 m3 c3))
              have hfar := fun g (hg : g ≠ WD.heap.size) => fillP_far (w := w3) hg d2 (four (.slice C0 m0 c0) (.slice C1 m1 c1) (.slice C2 m2 c2) (.slice C3 m3 c3))
              have hszf : w3.heap.size ≤ (fillP w3 WD.heap.size d2 (four (.slice C0 m0 c0) (.slice C1 m1 c1) (.slice C2 m2 c2) (.slice C3 m3 c3))).heap.size := (fillP_below (Below.refl 0 w3) (g := WD.heap.size) (Nat.zero_le _) d2 (four (.slice C0 m0 c0) (.slice C1 m1 c1) (.slice C2 m2 c2) (.slice C3 m3 c3))).size
              have HPB := Lib.hid (And.intro hPB (And.intro hDP (And.intro hfar hszf)))
              clear hPB hDP hfar hszf hzb
              change K _ (fillP w3 WD.heap.size d2 (four (.slice C0 m0 c0) (.slice C1 m1 c1) (.slice C2 m2 c2) (.slice C3 m3 c3)))
              generalize fillP w3 WD.heap.size d2 (four (.slice C0 m0 c0) (.slice C1 m1 c1) (.slice C2 m2 c2) (.slice C3 m3 c3)) = W4 at HPB ⊢
              refine hK.out _ _ (HSR.out _ _ _ _ _ HX.out _ HPB.out.2.1) (fun _ => ?_)
              clear hK K
              refine takeAt 12 8 (oi := _) (v := ?_) rfl rfl (by kernel_rfl) (by kernel_rfl) (by kernel_rfl) (fun _ _ _ h => h) (by rfl) ?_ (HSR.out _ _ _ _ _ HX.out _ HPB.out.2.1) ?_
              rotate_left
              · (intro w hSw; obtain ⟨z0, z1, z2, z3, z4⟩ := hSw; go_simp; try with_reducible rfl)
              simp only [Act.put, List.setIfInBounds_toArray, List.set_cons_zero, List.set_cons_succ]
              refine takeAt 13 9 (oi := _) (v := ?_) rfl rfl (by kernel_rfl) (by kernel_rfl) (by kernel_rfl) (fun _ _ _ h => h) (by rfl) ?_ (HSR.out _ _ _ _ _ HX.out _ HPB.out.2.1) ?_
              rotate_left
              · (intro w hSw; obtain ⟨z0, z1, z2, z3, z4⟩ := hSw; go_simp; try with_reducible rfl)
              simp only [Act.put, List.setIfInBounds_toArray, List.set_cons_zero, List.set_cons_succ]
              refine wpAnyH_done (by kernel_rfl) ?_ _
              go_wp2_with fail
              go_meet
              have hltd := HD.out.size
              refine ⟨rfl, WD.heap.size, d2, C0, C1, C2, C3, m0, m1, m2, m3, c0, c1, c2, c3, res, rfl, rfl, rfl, HX.out.next HPB.out.2.1, ⟨by have := HX.out.q.lt; omega, by have := HX.out.q.mp.lt; omega, fun e => by have := (HX.out.q.own.block e).2; omega⟩, HPB.out.1, fun hmay => ?_⟩
              obtain ⟨g1, g2, g3⟩ := hpost hmay
              have hsz2 : (WD.alloc (.cells (ptCs 0 nilS) 117)).heap.size = WD.heap.size + 1 := World.size_alloc _ _
              refine ⟨g1, g2, fun i hi => ?_⟩
              refine ((g3 i hi).imp (S' := fun g => Aw Q M v1 g ∧ g ≠ WD.heap.size) (fun g hg hS => ?_)).keep HPB.out.2.2.2 (fun g hg _ => HPB.out.2.2.1 g hg.2) |>.imp (fun g _ h => h.1)
              rcases hS with hS | hS
              · exact ⟨hS.1, by have := hS.2; omega⟩
              · exact ⟨⟨by have := HX.out.q.lt; omega, by have := HX.out.q.mp.lt; omega, fun e => by have := (HX.out.q.own.block e).2; omega⟩, by omega⟩
          case rest =>
            obtain ⟨rfl, P2, d2, C0, C1, C2, C3, m0, m1, m2, m3, c0, c1, c2, c3, res, rfl, rfl, rfl, hX2, hPA2, hPB2, hpost⟩ := hcut
            have HX' := Lib.hid hX2
            have hstep : n - k = (n - (k + 1)) + 1 := by omega
            have hT := HK.out.1
            rw [hstep, tryO] at hT
            cases hmay : mayB Rl ts cs p k
            · rw [if_neg (by rw [hmay]; decide)] at hT
              have HT2 := Lib.hid hT
              clear hX2 hPA2 hPB2 hpost hstep hT hmay
              go_wp2_with fail
              go_roundw
              case rel => exact ⟨k + 1, v1, N1, F1, by omega, by go_num, HT2.out, HX'.out, HK.out.2.1, by have := HK.out.2.2; rw [Nat.add_mul]; omega⟩
              case measure => simp [intOf]; omega
            · rw [if_pos hmay] at hT
              obtain ⟨rfl, rfl, hst2⟩ := hpost hmay
              have HT2 := Lib.hid hT
              have HP2 := Lib.hid (And.intro hPA2 (And.intro hPB2 (And.intro hst2 hmay)))
              have c12 := HX'.out.q.steps
              have f12 := HX'.out.q.free 12
              clear hX2 hPA2 hPB2 hpost hstep hT hst2 hmay
              have hlS : S.length ≤ 1000 := by have := HL.out.1; omega
              have HAL : Hid (SOwn (wc.alloc (.cells (stCs (k, (thingO ts cs p k).2.1)).toArray 38)) B0 v1 S ∧ Lies (wc.alloc (.cells (stCs (k, (thingO ts cs p k).2.1)).toArray 38)) wc.heap.size 38 (stCs (k, (thingO ts cs p k).2.1)).toArray ∧ B0 ≤ (wc.alloc (.cells (stCs (k, (thingO ts cs p k).2.1)).toArray 38)).heap.size) :=
                Lib.hid ⟨(HX'.out.q.next ((Below.refl _ _).alloc (Nat.le_refl _) _)).own, Lies.new _ _ _, (HX'.out.q.next ((Below.refl _ _).alloc (Nat.le_refl _) _)).base⟩
              go_upto_region 12 with (at_builtin; refine wpList_app_step rfl (.tmp 47) (.tmp 51) rfl B0 wc.heap.size v1 S (k, (thingO ts cs p k).2.1) rfl rfl HAL.out.1 HAL.out.2.1 hlS HAL.out.2.2 ?_; intro g9 cap9 w5 ho5 hg5 hl5; have HAP := Lib.hid (HX'.out.q.app ((Below.refl _ _).alloc (Nat.le_refl _) _) ho5 hg5 hl5); have c12b : w5.cell? ⟨Q, 12, none⟩ = some v1 := Lies.cell HAP.out.1 12; have f12b : w5.frozen? ⟨Q, 12, none⟩ = false := Lies.frozen HAP.out.1 12; clear ho5 hg5 hl5)
              have HX3 := Lib.hid (HX'.out.go HAP.out.2.2 HAP.out.2.1)
              have HP3 : Hid (PtB (w5.setCell ⟨Q, 12, none⟩ (.slice (some ⟨g9, 0, none⟩) (S.length + 1) cap9)) P2 (nextP ts cs p k).done (four (.slice C0 m0 c0) (.slice C1 m1 c1) (.slice C2 m2 c2) (.slice C3 m3 c3)) ∧ ∀ i, i < 4 → NAw (Aw Q M (.slice (some ⟨g9, 0, none⟩) (S.length + 1) cap9)) (w5.setCell ⟨Q, 12, none⟩ (.slice (some ⟨g9, 0, none⟩) (S.length + 1) cap9)) ((four (.slice C0 m0 c0) (.slice C1 m1 c1) (.slice C2 m2 c2) (.slice C3 m3 c3)) i) ((nextP ts cs p k).st i)) := Lib.hid ⟨(Lies.kp HP2.out.2.1 HP2.out.1 HAP.out.2.2).1, fun i hi => (HP2.out.2.2.1 i hi).kp HAP.out.2.2⟩
              have HMY := Lib.hid HP2.out.2.2.2
              clear HAP c12b f12b c12 f12 HAL HP2
              generalize w5.setCell ⟨Q, 12, none⟩ (.slice (some ⟨g9, 0, none⟩) (S.length + 1) cap9) = X3 at HX3 HP3 ⊢
              obtain ⟨y0, y1, y2, y3, y4⟩ := HP3.out.1.cells
              have hth9 : (cs.getD k default).thing.toNat < 4 := by
                have hkc : k < cs.length := by rw [← HN.out.1]; exact hkn
                have := HS.out.2.2 (cs.getD k default) (by rw [List.getD_eq_getElem?_getD, List.getElem?_eq_getElem hkc]; exact List.getElem_mem hkc)
                have := HS.out.1
                omega
              have hdn := may_done HMY.out
              have hlft : leftN cs.length (nextP ts cs p k) = f' := by
                have h1 := left_next (ts := ts) (cs := cs) (p := p) (n := cs.length) (k := k) (by rw [← HN.out.1]; exact hkn) hdn
                have h2 := HN.out.2.2
                omega
              have HLF := Lib.hid (And.intro hlft (HO.out.next (by omega : k < 9) hth9 HMY.out))
              clear hth9 hdn hlft
              have hN1 : N1 + 10 ^ (f' + 1) ≤ 1000000000000 := by
                have h1 := HK.out.2.2
                have h2 := HL.out.2
                have h3 : k * 10 ^ (f' + 1) + 10 ^ (f' + 1) ≤ 9 * 10 ^ (f' + 1) := by
                  have : (k + 1) * 10 ^ (f' + 1) ≤ 9 * 10 ^ (f' + 1) := Nat.mul_le_mul_right _ (by omega)
                  rw [Nat.add_mul] at this
                  omega
                rw [Nat.pow_succ 10 (f' + 1)] at h2
                omega
              have HN1 := Lib.hid hN1
              clear hN1
              go_wp2_with fail
              clear y0 y1 y2 y3 y4
              refine (IH'.out (nextP ts cs p k) X3 _ (S ++ [(k, (thingO ts cs p k).2.1)]) N1 F1 (four (.slice C0 m0 c0) (.slice C1 m1 c1) (.slice C2 m2 c2) (.slice C3 m3 c3)) HLF.out.1 HLF.out.2 HX3.out.q HK.out.2.1 (by have := HL.out.1; rw [List.length_append]; simp only [List.length_cons, List.length_nil]; omega) HN1.out HP3.out.2).mono ?_
              rintro e X4 ⟨v2, N2, F2, rfl, hk2, hq2, hm2, hN2⟩
              have hX4 := HX3.out.go hk2 hq2
              have hT3 := HT2.out
              have hNb : N2 ≤ N + (k + 1) * 10 ^ (f' + 1) := by have := HK.out.2.2; rw [Nat.add_mul]; omega
              have H4 := Lib.hid (And.intro hm2 hNb)
              clear hk2 hq2 hm2 hN2 hNb HP3
              generalize findO Rl ts cs f' (nextP ts cs p k) = oo at hX4 hT3 ⊢
              cases oo with
              | some l2 =>
                have hoo : o = some ((k, (thingO ts cs p k).2.1) :: l2) := hT3.symm
                subst hoo
                have HX4 := Lib.hid hX4
                clear hX4 hT3
                go_wp2_with fail
                go_ret
                refine ⟨v2, N2, F2, rfl, HX4.out.kp, by simpa using HX4.out.q, H4.out.1, ?_⟩
                have h1 := H4.out.2
                have h2 : (k + 1) * 10 ^ (f' + 1) ≤ 10 * 10 ^ (f' + 1) := Nat.mul_le_mul_right _ (by omega)
                rw [Nat.pow_succ 10 (f' + 1)]
                omega
              | none =>
                simp only [Option.getD_none, List.append_nil] at hX4
                obtain ⟨g2, cap2, rfl⟩ : ∃ g2 cap2, v2 = .slice (some ⟨g2, 0, none⟩) (S.length + 1) cap2 := by
                  rcases hX4.q.own.2 with ⟨_, h0⟩ | ⟨g2, cap2, cur, h3, _⟩
                  · simp at h0
                  · exact ⟨g2, cap2, by rw [h3]; simp⟩
                obtain ⟨_, hle, hown⟩ := SOwn.cut hX4.q.own
                have c12 := hX4.q.steps
                have f12 := hX4.q.free 12
                have HT3 := Lib.hid hT3
                have HX4 := Lib.hid (And.intro hX4 hown)
                have u1 : (0 : Int) ≤ (S.length : Int) := by omega
                have u2 : (S.length : Int) ≤ (cap2 : Int) := by omega
                clear hX4 hT3 hown
                go_wp2_with fail
                go_region
                have hq5 := HX4.out.1.q.setV HX4.out.2 HX4.out.1.q.vq HX4.out.1.q.vm
                have HX5 := Lib.hid ((HX4.out.1.go (Kp.setV _ (.slice (some ⟨g2, 0, none⟩) S.length cap2) X4 (.inl rfl)) hq5).next (Below.refl _ _).drew)
                clear hq5 c12 f12
                generalize (X4.setCell ⟨Q, 12, none⟩ (.slice (some ⟨g2, 0, none⟩) S.length cap2)).drew = X5 at HX5 ⊢
                go_wp2_with fail
                go_roundw
                case rel => exact ⟨k + 1, _, N2, F2, by omega, by go_num, HT3.out, HX5.out, H4.out.1, H4.out.2⟩
                case measure => simp [intOf]; omega
        · obtain rfl : n = k := by omega
          rw [Nat.sub_self, tryO] at hT
          obtain rfl : o = none := hT.symm
          have hdead : Dead Rl ts cs p := by
            unfold Dead
            rw [HN.out.2.2, findO, if_neg (by rw [HF.out]; decide), ← HN.out.1, ← HT.out]
          have hmem := HH.out.2.2 F1 hM1 hdead
          have c13 := hX.q.map_
          have hN2 : N1 ≤ 1000000000000 := by
            have h2 := HL.out.2
            have h3 : n * 10 ^ (f' + 1) ≤ 9 * 10 ^ (f' + 1) := Nat.mul_le_mul_right _ hn9
            rw [Nat.pow_succ 10 (f' + 1)] at h2
            omega
          have HX := Lib.hid (And.intro hX (And.intro hmem hN1))
          have hkl := HH.out.1
          clear hX hM1 hN1 hT hdead hmem
          go_wp2_with (at_mapUpdate; refine FMap.put rfl (.tmp 76) (.tmp 77) _ rfl HX.out.1.q.mp ks hkl hN2 rfl rfl rfl ?_; intro w5 hm5 hg5; have HM5 := Lib.hid (And.intro hm5 hg5); clear hm5 hg5)
          go_ret
          refine ⟨v1, N1 + 1, _, rfl, HX.out.1.kp.trans (Kp.put v1 HM5.out.2), by simpa using HX.out.1.q.put HM5.out.2 HM5.out.1, HX.out.2.1, ?_⟩
          have h1 := HX.out.2.2
          have h3 : n * 10 ^ (f' + 1) ≤ 9 * 10 ^ (f' + 1) := Nat.mul_le_mul_right _ hn9
          have h4 : 1 ≤ 10 ^ (f' + 1) := Nat.one_le_pow _ _ (by decide)
          rw [Nat.pow_succ 10 (f' + 1)]
          omega
    · rw [hF] at hlook
      have hdead := HH.out.2.1 hF
      have hoo : o = none := by rw [HOO.out, ← HN.out.2.2]; exact hdead
      subst hoo
      clear hF hdead
      go_wp2_with fail
      go_ret
      exact ⟨v, N, F, rfl, HX2.out.kp, by simpa using HX2.out.q, HM.out, Nat.le_add_right _ _⟩
  · have hoo : o = some [] := by rw [HOO.out]; exact find_full hfull f
    subst hoo
    clear hfull
    go_wp2_with fail
    go_ret
    exact ⟨v, N, F, rfl, HX1.out.kp, by simpa using HX1.out.q, HM.out, Nat.le_add_right _ _⟩
/-- The contract of extend: with f calls left it finds what is least from there on. -/
theorem ext_any {B0 : Nat} {tv : Value} {ts : List Int} {cs : List Cl} {Q M : Nat} (Ac : Option Addr) (capc : Nat) (hts : ts.length ≤ 4) (hcs : cs.length ≤ 9) (hth : ∀ c, c ∈ cs → 0 ≤ c.thing ∧ c.thing < ts.length) : ∀ f, ExtOk Rl B0 tv (.slice Ac cs.length capc) ts cs Q M f := by
  intro f
  induction f with
  | zero =>
    intro p w v S N F s h1 h2 h3 h4 h5 h6 h7
    obtain ⟨A0, k0, e0, -⟩ := h7 0 (by omega)
    obtain ⟨A1, k1, e1, -⟩ := h7 1 (by omega)
    obtain ⟨A2, k2, e2, -⟩ := h7 2 (by omega)
    obtain ⟨A3, k3, e3, -⟩ := h7 3 (by omega)
    have e : ptV p.done s = ptV p.done (four (.slice A0 (p.st 0).length k0) (.slice A1 (p.st 1).length k1) (.slice A2 (p.st 2).length k2) (.slice A3 (p.st 3).length k3)) := by show Value.agg #[_, s 0, s 1, s 2, s 3] = _; rw [e0, e1, e2, e3]; rfl
    rw [e]
    exact ext_core Ac capc hts hcs hth 0 (fun f' h => by omega) p w v S N F A0 A1 A2 A3 k0 k1 k2 k3 h1 h2 h3 h4 h5 h6 (fun i hi => by
      have h8 := h7 i hi
      rcases nat4 hi with rfl | rfl | rfl | rfl
      · rw [e0] at h8; exact h8
      · rw [e1] at h8; exact h8
      · rw [e2] at h8; exact h8
      · rw [e3] at h8; exact h8)
  | succ f ih =>
    intro p w v S N F s h1 h2 h3 h4 h5 h6 h7
    obtain ⟨A0, k0, e0, -⟩ := h7 0 (by omega)
    obtain ⟨A1, k1, e1, -⟩ := h7 1 (by omega)
    obtain ⟨A2, k2, e2, -⟩ := h7 2 (by omega)
    obtain ⟨A3, k3, e3, -⟩ := h7 3 (by omega)
    have e : ptV p.done s = ptV p.done (four (.slice A0 (p.st 0).length k0) (.slice A1 (p.st 1).length k1) (.slice A2 (p.st 2).length k2) (.slice A3 (p.st 3).length k3)) := by show Value.agg #[_, s 0, s 1, s 2, s 3] = _; rw [e0, e1, e2, e3]; rfl
    rw [e]
    exact ext_core Ac capc hts hcs hth (f + 1) (fun f' h => by have e : f' = f := (by omega); rw [e]; exact ih) p w v S N F A0 A1 A2 A3 k0 k1 k2 k3 h1 h2 h3 h4 h5 h6 (fun i hi => by
      have h8 := h7 i hi
      rcases nat4 hi with rfl | rfl | rfl | rfl
      · rw [e0] at h8; exact h8
      · rw [e1] at h8; exact h8
      · rw [e2] at h8; exact h8
      · rw [e3] at h8; exact h8)
end Go.Proofs.YtfgangkpebkicaaDoor
