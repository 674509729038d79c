/-
  Joined by a program out of: Respond, AppRow, Invoke, Add, Calls.
-/
import Derived.Test.YtfgangkpebkicaaDoorMgAC
import Derived.Test.YtfgangkpebkicaaDoorMgAA
import Derived.Deep.AppendLies
import Derived.Test.YtfgangkpebkicaaDoorMgAB

/-
  Contract of (*history.record).respond.
-/
namespace Go.Proofs.YtfgangkpebkicaaDoor
open Go.RowKit
set_option maxRecDepth 20000
/-- What a method of the record did: an error; or it knows the calls that the event makes. -/
def Did (g : Nat) (tv : Value) (ts : List Int) (w : World) (s : Int ⊕ List Cl) (e : Ending) (w' : World) : Prop :=
  Below g w w' ∧ match s with
    | .inl r => e = .returned (.int .i64 r)
    | .inr cs' => e = .returned (.int .i64 0) ∧ RecS g tv ts cs' w'
/-- The event that was handed in lies in block P, behind all that was there; the record in block g. -/
structure EvSt (w : World) (g P : Nat) (tv cv : Value) (ts : List Int) (cs : List Cl) (b : Nat → Bool) (c : Nat → Int) (x : Ev) (W : World) : Prop where
  ev : Lies W P 84 (evCs x).toArray
  below : Below g w W
  rc : RecB W g tv cv b c
  own : COwn W (g + 1) cv cs
  types : NRd W g tv ts
  far : w.heap.size ≤ P
  lt : g < w.heap.size
section
variable {w W : World} {g P : Nat} {tv cv : Value} {ts : List Int} {cs : List Cl} {b : Nat → Bool} {c : Nat → Int} {x : Ev}
theorem EvSt.drewN (h : EvSt w g P tv cv ts cs b c x W) (n : Nat) : EvSt w g P tv cv ts cs b c x (W.drewN n) := ⟨h.ev, belowN h.below n, h.rc, h.own, h.types, h.far, h.lt⟩
theorem EvSt.drew (h : EvSt w g P tv cv ts cs b c x W) : EvSt w g P tv cv ts cs b c x W.drew := h.drewN 1
theorem EvSt.next {W' : World} (h : EvSt w g P tv cv ts cs b c x W) (hb : Below W.heap.size W W') : EvSt w g P tv cv ts cs b c x W' := by
  have h1 := h.lt
  have h2 := Lies.lt h.rc
  exact ⟨Lies.below h.ev hb (Lies.lt h.ev), h.below.trans (hb.mono (by omega)), h.rc.below hb h2, h.own.then_ hb, h.types.below (hb.mono (by omega)), h.far, h1⟩
theorem EvSt.alloc (h : EvSt w g P tv cv ts cs b c x W) (o : Obj) : EvSt w g P tv cv ts cs b c x (W.alloc o) := h.next ((Below.refl _ _).alloc (Nat.le_refl _) o)
theorem EvSt.apart (h : EvSt w g P tv cv ts cs b c x W) : some P ≠ cv.ownBlock := by
  rcases h.own.2 with ⟨rfl, h0⟩ | ⟨g', cap, cur, rfl, h1, h2, h3, h4, h5, h6⟩
  · simp [Value.ownBlock]
  · intro e
    simp only [Value.ownBlock, Option.some.injEq] at e
    subst e
    have := h.ev
    unfold Lies at this
    rw [h2] at this
    injection this with this
    injection this with _ this _
    exact absurd this (by decide)
theorem EvSt.cells (h : EvSt w g P tv cv ts cs b c x W) : W.cell? ⟨P, 0, none⟩ = some (.int .i64 x.who) ∧ W.cell? ⟨P, 1, none⟩ = some (.int .i64 x.thing) ∧ W.cell? ⟨P, 2, none⟩ = some (.int .i64 x.kind) ∧ W.cell? ⟨P, 3, none⟩ = some (.int .i64 x.val) :=
  ⟨Lies.cell h.ev 0, Lies.cell h.ev 1, Lies.cell h.ev 2, Lies.cell h.ev 3⟩
/-- The event's cells, the record's calls, and that they may be written. -/
def InvC (g P : Nat) (cv : Value) (x : Ev) (W : World) : Prop := W.cell? ⟨P, 0, none⟩ = some (.int .i64 x.who) ∧ W.cell? ⟨P, 1, none⟩ = some (.int .i64 x.thing) ∧ W.cell? ⟨P, 2, none⟩ = some (.int .i64 x.kind) ∧ W.cell? ⟨P, 3, none⟩ = some (.int .i64 x.val) ∧ W.cell? ⟨g, 1, none⟩ = some cv ∧ W.frozen? ⟨g, 1, none⟩ = false
theorem EvSt.held (h : EvSt w g P tv cv ts cs b c x W) : InvC g P cv x W :=
  ⟨h.cells.1, h.cells.2.1, h.cells.2.2.1, h.cells.2.2.2, h.rc.calls, h.rc.free 1⟩
theorem EvSt.grown {W' : World} (h : EvSt w g P tv cv ts cs b c x W) (hb : Below (g + 1) W W') (hg : W.grownBy W' cv.ownBlock) :
    InvC g P cv x W' ∧ RecB W' g tv cv b c ∧ Below g w W' ∧ NRd W' g tv ts ∧ g < w.heap.size := by
  have hr := h.rc.below hb (by omega)
  have hl : Lies W' P 84 (evCs x).toArray := Lies.keep h.ev (hg.block P (Lies.lt h.ev) h.apart)
  exact ⟨⟨Lies.cell hl 0, Lies.cell hl 1, Lies.cell hl 2, Lies.cell hl 3, hr.calls, hr.free 1⟩, hr, h.below.trans (hb.mono (by omega)), h.types.below (hb.mono (by omega)), h.lt⟩
theorem EvSt.start (h1 : RecB w g tv cv b c) (h2 : COwn w (g + 1) cv cs) (h3 : NRd w g tv ts) : EvSt w g w.heap.size tv cv ts cs b c x (w.alloc (.cells (evCs x).toArray 84)) :=
  ⟨Lies.new _ _ _, (Below.refl _ _).alloc (Nat.le_of_lt (Lies.lt h1)) _, h1.alloc _, h2.alloc _, h3.below ((Below.refl _ _).alloc (Nat.le_of_lt (Lies.lt h1)) _), Nat.le_refl _, Lies.lt h1⟩
theorem EvSt.busyPut (h : EvSt w g P tv cv ts cs b c x W) {p : Nat} (hp : p < 8) (u : Bool) : EvSt w g P tv cv ts cs (updB b p u) c x (W.setCell ⟨g, 2 + p, none⟩ (.bool u)) := by
  have hb : Below g W (W.setCell ⟨g, 2 + p, none⟩ (.bool u)) := (Below.refl _ _).setCell (Nat.le_refl g) _
  have h1 := h.far
  have h2 := h.lt
  exact ⟨Lies.far h.ev (by show P ≠ g; omega) _, h.below.trans hb, h.rc.setBusy hp u, h.own.far (by show g < g + 1; omega) _, h.types.below hb, h1, h2⟩
theorem EvSt.curPut (h : EvSt w g P tv cv ts cs b c x W) {p : Nat} (hp : p < 8) (u : Int) : EvSt w g P tv cv ts cs b (updI c p u) x (W.setCell ⟨g, 10 + p, none⟩ (.int .i64 u)) := by
  have hb : Below g W (W.setCell ⟨g, 10 + p, none⟩ (.int .i64 u)) := (Below.refl _ _).setCell (Nat.le_refl g) _
  have h1 := h.far
  have h2 := h.lt
  exact ⟨Lies.far h.ev (by show P ≠ g; omega) _, h.below.trans hb, h.rc.setCur hp u, h.own.far (by show g < g + 1; omega) _, h.types.below hb, h1, h2⟩
/-- A number of call k is written. -/
theorem EvSt.put {h' cap : Nat} (h : EvSt w g P tv (.slice (some ⟨h', 0, none⟩) cs.length cap) ts cs b c x W) {k j : Nat} {d y : Cl} (hk : cs[k]? = some d) (hj : j < 7) {u : Value} (he : (clCs d).set j u = clCs y) (h1 : g < h') (h2 : h' < w.heap.size) :
    EvSt w g P tv (.slice (some ⟨h', 0, none⟩) (cs.set k y).length cap) ts (cs.set k y) b c x (W.setCell ⟨h', k * 7 + j, none⟩ u) := by
  have hP := h.far
  have hb : Below g W (W.setCell ⟨h', k * 7 + j, none⟩ u) := (Below.refl _ _).setCell (Nat.le_of_lt h1) u
  refine ⟨Lies.far h.ev (by show P ≠ h'; omega) u, h.below.trans hb, ?_, h.own.put hk hj he, h.types.below hb, hP, h.lt⟩
  have := h.rc.far (p := ⟨h', k * 7 + j, none⟩) (by show g ≠ h'; omega) u
  rw [List.length_set]
  exact this
end
set_option maxHeartbeats 4000000 in
theorem respond_any {g : Nat} {tv : Value} {ts : List Int} {cs : List Cl} {w : World} (h : RecS g tv ts cs w) (n : Nat) (x : Ev) (p : Nat) (hp : p < 8) (hx : x.who = (p : Int)) :
    Calls Tryd.prog 77 #[.pointer (some ⟨g, 0, none⟩), .int .i64 n, evV x] w (Did g tv ts w (respS n cs x)) := by
  obtain ⟨who, thing, kind, val⟩ := x
  simp only at hx
  subst hx
  obtain ⟨⟨cv, b, c, h1, h2, h3⟩, h4⟩ := h
  have hb1 := h3.busy p hp
  have hc1 := h3.cur p hp
  have HI := Lib.hid (EvSt.start (x := ⟨p, thing, kind, val⟩) h1 h2 h4)
  have H3 := Lib.hid h3
  have p1 : (0 : Int) ≤ (p : Int) := by omega
  have p2 : (p : Int) < 8 := by omega
  clear h1 h3 h4
  cases hbp : b p
  · have ho : openOf cs (p : Int) < 0 := by
      apply Classical.byContradiction; intro hn
      have := hb1.2 (by omega)
      rw [hbp] at this; cases this
    have e : respS n cs ⟨p, thing, kind, val⟩ = .inl 4 := if_pos ho
    rw [e]
    have HBP := Lib.hid hbp
    clear hb1 hc1 hbp ho e h2
    go_enter Tryd.func77, Tryd.ntmps77
    go_wp2_with fail
    have HI' := HI.out
    clear HI
    generalize w.heap.size = P at HI' ⊢
    change Code.wp _ _ _ _ (w.alloc (.cells #[.int .i64 p, .int .i64 thing, .int .i64 kind, .int .i64 val] 84))
    generalize w.alloc (.cells #[.int .i64 p, .int .i64 thing, .int .i64 kind, .int .i64 val] 84) = W at HI' ⊢
    obtain ⟨d0, d1, d2, d3⟩ := HI'.cells
    have r2 := HI'.rc.busy hp
    rw [HBP.out] at r2
    have HB := Lib.hid HI'
    clear HI'
    go_quiet (fail)
    go_wp2_with fail
    go_ret
    exact ⟨belowN HB.out.below _, rfl⟩
  · have h0 : 0 ≤ openOf cs (p : Int) := hb1.1 hbp
    obtain ⟨cl, e1, e2, e3, e4⟩ := openOf_at h0
    obtain ⟨k, hk⟩ : ∃ k : Nat, openOf cs (p : Int) = (k : Int) := ⟨(openOf cs (p : Int)).toNat, by omega⟩
    have hcp : c p = (k : Int) := (hc1 hbp).trans hk
    rw [hk, Int.toNat_natCast] at e1 e4
    have hget : cs.getD k default = cl := by rw [List.getD_eq_getElem?_getD, e1]; rfl
    have er : respS n cs ⟨p, thing, kind, val⟩ = if cl.thing ≠ thing ∨ givesB cl.kind val = false then .inl 3 else .inr (cs.set k { cl with res := val, til := n }) := by
      unfold respS
      simp only
      rw [hk, Int.toNat_natCast, hget, if_neg (by omega)]
    generalize respS n cs ⟨p, thing, kind, val⟩ = s at er ⊢
    have HS := Lib.hid er
    obtain ⟨h', cap, rfl, q1, q2, q3, q4, -, -⟩ := h2.at_ e1
    have HQ := Lib.hid (And.intro e1 hk)
    have HBP := Lib.hid (And.intro hbp hcp)
    have k1 : (0 : Int) ≤ (k : Int) := by omega
    have k2 : (k : Int) < (cs.length : Int) := by omega
    clear hb1 hc1 hbp er h0 hk hcp hget e1 h2
    unfold maxLen at q4
    go_enter Tryd.func77, Tryd.ntmps77
    go_wp2_with fail
    have HI' := HI.out
    clear HI
    have Q2 := Lib.hid q2
    clear q2
    generalize w.heap.size = P at HI' ⊢
    change Code.wp _ _ _ _ (w.alloc (.cells #[.int .i64 p, .int .i64 thing, .int .i64 kind, .int .i64 val] 84))
    generalize w.alloc (.cells #[.int .i64 p, .int .i64 thing, .int .i64 kind, .int .i64 val] 84) = W at HI' ⊢
    obtain ⟨d0, d1, d2, d3⟩ := HI'.cells
    have r2 := HI'.rc.busy hp
    rw [HBP.out.1] at r2
    have HB := Lib.hid HI'
    clear HI'
    go_quiet (fail)
    go_wp2_with fail
    have HI' := HB.out.drewN nq
    clear d0 d1 d2 d3 r2 HB
    generalize W.drewN nq = W1 at HI' ⊢
    clear W
    obtain ⟨d0, d1, d2, d3⟩ := HI'.cells
    have r1 := HI'.rc.calls
    have r3 := HI'.rc.cur hp
    rw [HBP.out.2] at r3
    have HB := Lib.hid HI'
    clear HI'
    go_quiet (fail)
    go_wp2_with fail
    have HI' := HB.out.drewN nq
    clear d0 d1 d2 d3 r1 r3 HB
    generalize W1.drewN nq = W2 at HI' ⊢
    clear W1
    obtain ⟨d0, d1, d2, d3⟩ := HI'.cells
    obtain ⟨h'', cap'', hv, -, -, -, -, hf, q6⟩ := HI'.own.at_ HQ.out.1
    injection hv with hv
    injection hv with hv
    injection hv with hv
    subst hv
    have c1 : W2.cell? ⟨h', k * 7 + 1, none⟩ = some (.int .i64 cl.thing) := q6 1 _ rfl
    have c2 : W2.cell? ⟨h', k * 7 + 2, none⟩ = some (.int .i64 cl.kind) := q6 2 _ rfl
    have c4 : W2.cell? ⟨h', k * 7 + 4, none⟩ = some (.int .i64 cl.res) := q6 4 _ rfl
    have c6 : W2.cell? ⟨h', k * 7 + 6, none⟩ = some (.int .i64 cl.til) := q6 6 _ rfl
    have HB := Lib.hid (And.intro HI' hf)
    clear HI' q6 hf
    by_cases t1 : cl.thing = thing
    · have t2 : (cl.thing != thing) = false := by rw [bne_eq_false_iff_eq]; exact t1
      have T1 := Lib.hid t1
      clear t1
      cases hgv : givesB cl.kind val
      · have HG := Lib.hid hgv
        have hc := fun W => gives_any cl.kind val W
        rw [hgv] at hc
        have HC := Lib.hid hc
        clear hgv hc
        go_quiet ((go_at_call 96; exact quiet_left (HC.out _)))
        go_wp2_with fail
        go_ret
        have e := HS.out
        rw [if_pos (Or.inr HG.out)] at e
        rw [e]
        exact ⟨belowN HB.out.1.below _, rfl⟩
      · have HG := Lib.hid hgv
        have hc := fun W => gives_any cl.kind val W
        rw [hgv] at hc
        have HC := Lib.hid hc
        clear hgv hc
        have hf := HB.out.2
        go_quiet ((go_at_call 96; exact quiet_left (HC.out _)))
        go_wp2_with fail
        have hs1 := (HB.out.1.drewN nq).put (j := 4) (y := { cl with res := val }) HQ.out.1 (by decide) (u := .int .i64 val) rfl (by omega) Q2.out
        have hk1 : (cs.set k { cl with res := val })[k]? = some { cl with res := val } := by rw [List.getElem?_set_self e4]
        have hs2 := hs1.put (j := 6) (y := { cl with res := val, til := n }) hk1 (by decide) (u := .int .i64 n) rfl (by omega) Q2.out
        rw [List.set_set] at hs2
        have HE := Lib.hid hs2
        clear hs1 hs2 hk1 d0 d1 d2 d3 c1 c2 c4 c6 hf HB
        generalize ((W2.drewN nq).setCell ⟨h', k * 7 + 4, none⟩ (.int .i64 val)).setCell ⟨h', k * 7 + 6, none⟩ (.int .i64 n) = W3 at HE ⊢
        have d0 := HE.out.cells.1
        have r2 := HE.out.rc.busy hp
        have rf := HE.out.rc.free (2 + p)
        go_still_tail 6, (by kernel_rfl)
        change wpList _ _ _ _ _ W3.drew
        have HE2 := Lib.hid HE.out.drew
        clear d0 r2 rf HE
        generalize W3.drew = W4 at HE2 ⊢
        have r2 := HE2.out.rc.busy hp
        have rf := HE2.out.rc.free (2 + p)
        go_wp2_with fail
        go_ret
        have e := HS.out
        rw [if_neg (fun h => h.elim (fun h => h T1.out) (fun h => by rw [HG.out] at h; cases h))] at e
        rw [e]
        have hgl := HE2.out.lt
        refine ⟨HE2.out.below.setCell (Nat.le_refl _) _, rfl, ⟨_, _, _, HE2.out.rc.setBusy hp false, HE2.out.own.far (by show g < g + 1; omega) _, ?_⟩, HE2.out.types.below ((Below.refl g W4).setCell (p := ⟨g, 2 + p, none⟩) (Nat.le_refl g) _)⟩
        exact H3.out.answered hp HQ.out.2 HQ.out.1 rfl (by show ((n : Nat) : Int) ≠ -1; omega)
    · have t2 : (cl.thing != thing) = true := by rw [bne_iff_ne]; exact t1
      have T1 := Lib.hid t1
      clear t1
      go_quiet (fail)
      go_wp2_with fail
      go_ret
      have e := HS.out
      rw [if_pos (Or.inl T1.out)] at e
      rw [e]
      exact ⟨belowN HB.out.1.below _, rfl⟩
end Go.Proofs.YtfgangkpebkicaaDoor

/-
  append(s, x): s the call's own row of things of several cells, x one more, in a new block: the run, at Oper.wp, at a list, at a step of a region that draws.
-/
namespace Go.Proofs.YtfgangkpebkicaaDoor
open Go.RowKit
set_option maxRecDepth 20000
theorem info_cl : (Tryd.prog.info? 51).map (fun i => (i.zero, i.size, i.bytes)) = some (some (clV default), 7, 56) := by kernel_rfl
theorem info_of {P : Program} {t : TypeId} {z : Option Value} {s b : Nat} (h : (P.info? t).map (fun i => (i.zero, i.size, i.bytes)) = some (z, s, b)) : ∃ i, P.info? t = some i ∧ i.zero = z ∧ i.size = s ∧ i.bytes = b := by
  cases hi : P.info? t with
  | none => rw [hi] at h; cases h
  | some i =>
    rw [hi] at h
    simp only [Option.map_some, Option.some.injEq, Prod.mk.injEq] at h
    exact ⟨i, rfl, h.1, h.2.1, h.2.2⟩
theorem run_app_cl {W : World} {base G : Nat} {v : Value} {l : List Cl} {y : Cl} (ty : TypeId) (hown : COwn W base v l) (hG : ∀ j u, (clCs y)[j]? = some u → W.cell? ⟨G, j, none⟩ = some u) (hlen : l.length ≤ 65536) (hbase : base ≤ W.heap.size) :
    ∃ v' w', (Builtin.append_ #[31, 31] ty #[v, .slice (some ⟨G, 0, none⟩) 1 1]).run Tryd.prog W = .ok v' w' ∧ COwn w' base v' (l ++ [y]) ∧ Below base W w' ∧ W.grownBy w' v.ownBlock := by
  obtain ⟨i0, hi, hz0, hz1, hz2⟩ := info_of info_cl
  have hl := World.ownsRow.lt hown
  obtain ⟨v', w', hr, h2, h3, _⟩ := run_append_own (P := Tryd.prog) W base 31 ty 51 i0 (clV default) 7 56 Tryd.underlying31 hi hz0 hz1 hz2 rfl (by decide) v l.length (l.flatMap clCs) hown
    ⟨G, 0, none⟩ 1 1 (clCs y) rfl (fun j u hu => by
      rw [Addr.add_lit, Nat.zero_add]
      exact hG j u hu) (fun u hu => by
      simp only [List.mem_cons, List.not_mem_nil, or_false] at hu
      rcases hu with rfl | rfl | rfl | rfl | rfl | rfl | rfl <;> rfl) (by unfold maxLen; omega) (by omega) hbase
  refine ⟨v', w', hr, ?_, (Below.refl base W).grown h3 hbase (fun k hk => (hl k hk).1), h3⟩
  unfold COwn
  rw [List.length_append, List.flatMap_append]
  simpa using h2
theorem own_slice {w : World} {B : Nat} {v : Value} {l : List Cl} (h : COwn w B v l) : ∃ A c, v = .slice A l.length c := by
  obtain ⟨A, c, h, _⟩ := h.rd.is
  exact ⟨A, c, h⟩
theorem wp_app_cl {W : World} {o : Oper} {a : Act} {K : Act → World → Prop} {Q : Exit → Act → World → Prop} (s x : Operand)
    (ho : o.op = .call { callee := .builtin .append, args := #[s, x], argTypes := #[31, 31] })
    (base G : Nat) (v : Value) (l : List Cl) (y : Cl) (hs : a.eval s = v) (hx : a.eval x = .slice (some ⟨G, 0, none⟩) 1 1) (hown : COwn W base v l) (hG : ∀ j u, (clCs y)[j]? = some u → W.cell? ⟨G, j, none⟩ = some u) (hlen : l.length ≤ 65536) (hbase : base ≤ W.heap.size)
    (h : ∀ v' w', COwn w' base v' (l ++ [y]) → Below base W w' → W.grownBy w' v.ownBlock → K (a.put o.dst v') w') : Oper.wp Tryd.prog o a W K Q := by
  obtain ⟨v', w', hrun, r1, r2, r3⟩ := run_app_cl o.type hown hG hlen hbase
  unfold Oper.wp
  simp [execOp, ho, resolve, invoke, builtin, hs, hx, hrun, Result.andThen]
  exact h v' w' r1 r2 r3
theorem wpList_app_cl {W : World} {ops : Array Oper} {rest : List Oper} {o : Oper} {a : Act} {Q : Exit → Act → World → Prop} (hgd : o.guard = none) (s x : Operand)
    (ho : o.op = .call { callee := .builtin .append, args := #[s, x], argTypes := #[31, 31] })
    (base G : Nat) (v : Value) (l : List Cl) (y : Cl) (hs : a.eval s = v) (hx : a.eval x = .slice (some ⟨G, 0, none⟩) 1 1) (hown : COwn W base v l) (hG : ∀ j u, (clCs y)[j]? = some u → W.cell? ⟨G, j, none⟩ = some u) (hlen : l.length ≤ 65536) (hbase : base ≤ W.heap.size)
    (h : ∀ v' w', COwn w' base v' (l ++ [y]) → Below base W w' → W.grownBy w' v.ownBlock → wpList Tryd.prog ops Q rest (a.put o.dst v') w') : wpList Tryd.prog ops Q (o :: rest) a W :=
  wpList_plain hgd fun _ hK => wp_app_cl s x ho base G v l y hs hx hown hG hlen hbase fun v' w' h1 h2 h3 => hK _ _ (h v' w' h1 h2 h3)
theorem step_app_cl {W : World} {ops : Array Oper} {o : Oper} {a : Act} {K : Act → World → Prop} {Q : Exit → Act → World → Prop} {E : Prop} (hgd : o.guard = none) (s x : Operand)
    (ho : o.op = .call { callee := .builtin .append, args := #[s, x], argTypes := #[31, 31] })
    (base G : Nat) (v : Value) (l : List Cl) (y : Cl) (hs : a.eval s = v) (hx : a.eval x = .slice (some ⟨G, 0, none⟩) 1 1) (hown : COwn W base v l) (hG : ∀ j u, (clCs y)[j]? = some u → W.cell? ⟨G, j, none⟩ = some u) (hlen : l.length ≤ 65536) (hbase : base ≤ W.heap.size)
    (h : ∀ v' w', COwn w' base v' (l ++ [y]) → Below base W w' → W.grownBy w' v.ownBlock → K (a.put o.dst v') w') :
    if Region.wanted o (yielded ops a.tmps) = true then Oper.wp Tryd.prog o a W K Q else E := by
  have hw : Region.wanted o (yielded ops a.tmps) = true := by simp [Region.wanted, hgd]
  rw [if_pos hw]
  exact wp_app_cl s x ho base G v l y hs hx hown hG hlen hbase h
end Go.Proofs.YtfgangkpebkicaaDoor

/-
  Contract of (*history.record).invoke.
-/
namespace Go.Proofs.YtfgangkpebkicaaDoor
open Go.RowKit
set_option maxRecDepth 20000
set_option maxHeartbeats 4000000 in
theorem invoke_any {g : Nat} {tv : Value} {ts : List Int} {cs : List Cl} {w : World} (h : RecS g tv ts cs w) (n : Nat) (x : Ev) (p q : Nat) (hp : p < 8) (hx : x.who = (p : Int)) (hq : q < ts.length) (hy : x.thing = (q : Int)) (hlen : cs.length ≤ 200) :
    Calls Tryd.prog 78 #[.pointer (some ⟨g, 0, none⟩), .int .i64 n, evV x] w (Did g tv ts w (invS ts n cs x)) := by
  obtain ⟨who, thing, kind, val⟩ := x
  simp only at hx hy
  subst hx
  subst hy
  obtain ⟨⟨cv, b, c, h1, h2, h3⟩, h4⟩ := h
  have hb1 := h3.busy p hp
  have HI := Lib.hid (EvSt.start (x := ⟨p, q, kind, val⟩) h1 h2 h4)
  have H3 := Lib.hid h3
  have p1 : (0 : Int) ≤ (p : Int) := by omega
  have p2 : (p : Int) < 8 := by omega
  have q1 : (0 : Int) ≤ (q : Int) := by omega
  have q2 : (q : Int) < (ts.length : Int) := by omega
  obtain ⟨t, ht⟩ : ∃ t, ts[q]? = some t := ⟨_, List.getElem?_eq_getElem hq⟩
  have hget : ts.getD q 0 = t := by rw [List.getD_eq_getElem?_getD, ht]; rfl
  have er : invS ts n cs ⟨p, q, kind, val⟩ = if fitsB t kind = false ∨ takesB kind val = false then .inl 3 else if 0 ≤ openOf cs (p : Int) then .inl 5 else .inr (cs ++ [⟨p, q, kind, val, 0, n, -1⟩]) := by
    unfold invS
    simp only
    rw [Int.toNat_natCast, hget]
  generalize invS ts n cs ⟨p, q, kind, val⟩ = s at er ⊢
  have HS := Lib.hid er
  have HT := Lib.hid ht
  obtain ⟨At, capt, rfl, m1, m2⟩ := h4.is
  obtain ⟨Ac, capc, rfl, m3, m4⟩ := h2.rd.is
  obtain ⟨gt, o, rfl, -, -⟩ := h4.num ht
  clear h1 h2 h3 h4 er hget ht
  unfold maxLen at m2 m4
  go_enter Tryd.func78, Tryd.ntmps78
  go_wp2_with fail
  have HI' := HI.out
  clear HI
  generalize w.heap.size = P at HI' ⊢
  change Code.wp _ _ _ _ (w.alloc (.cells #[.int .i64 p, .int .i64 q, .int .i64 kind, .int .i64 val] 84))
  generalize w.alloc (.cells #[.int .i64 p, .int .i64 q, .int .i64 kind, .int .i64 val] 84) = W at HI' ⊢
  obtain ⟨d0, d1, d2, d3⟩ := HI'.cells
  have r0 := HI'.rc.types
  obtain ⟨gt', o', hv, -, rt⟩ := HI'.types.num HT.out
  injection hv with hv
  injection hv with hv1 hv2 hv3
  subst hv1
  subst hv2
  have HB := Lib.hid HI'
  clear HI'
  have HF := Lib.hid (fun W => fits_any t kind W)
  have HK := Lib.hid (fun W => takes_any kind val W)
  cases hf : fitsB t kind
  · have HG := Lib.hid hf
    rw [hf] at HF
    clear hf
    go_quiet ((go_at_call 97; exact quiet_left (HF.out _)))
    go_wp2_with fail
    go_ret
    have e := HS.out
    rw [if_pos (Or.inl HG.out)] at e
    rw [e]
    exact ⟨belowN HB.out.below _, rfl⟩
  · have HG := Lib.hid hf
    rw [hf] at HF
    clear hf
    cases ht : takesB kind val
    · have HT := Lib.hid ht
      rw [ht] at HK
      clear ht
      go_quiet (first | (go_at_call 97; exact quiet_left (HF.out _)) | (go_at_call 98; exact quiet_left (HK.out _)))
      go_wp2_with fail
      go_ret
      have e := HS.out
      rw [if_pos (Or.inr HT.out)] at e
      rw [e]
      exact ⟨belowN HB.out.below _, rfl⟩
    · have HT := Lib.hid ht
      rw [ht] at HK
      clear ht
      go_quiet (first | (go_at_call 97; exact quiet_left (HF.out _)) | (go_at_call 98; exact quiet_left (HK.out _)))
      go_wp2_with fail
      have HI' := HB.out.drewN nq
      clear d0 d1 d2 d3 r0 rt HB HF HK
      generalize W.drewN nq = W1 at HI' ⊢
      clear W
      obtain ⟨d0, d1, d2, d3⟩ := HI'.cells
      have r2 := HI'.rc.busy hp
      have HB := Lib.hid HI'
      clear HI'
      cases hbp : b p
      · rw [hbp] at r2
        have HO : openOf cs (p : Int) < 0 := by
          apply Classical.byContradiction; intro hn
          have := hb1.2 (by omega)
          rw [hbp] at this; cases this
        have e := HS.out
        rw [if_neg (fun h => h.elim (fun h => by rw [HG.out] at h; cases h) (fun h => by rw [HT.out] at h; cases h)), if_neg (by omega)] at e
        subst e
        have HO := Lib.hid HO
        clear hb1 hbp HS HG HT
        go_quiet (fail)
        go_wp2_with fail
        have HI' := HB.out.drewN nq
        clear d0 d1 d2 d3 r2 HB
        generalize W1.drewN nq = W2 at HI' ⊢
        clear W1
        have d0 := HI'.cells.1
        have r2 := HI'.rc.busy hp
        have rf := HI'.rc.free (2 + p)
        have HB := Lib.hid HI'
        clear HI'
        go_still_tail 6, (by kernel_rfl)
        change wpList _ _ _ _ _ W2.drew
        have HI' := HB.out.drew
        clear d0 r2 rf HB
        generalize W2.drew = W3 at HI' ⊢
        clear W2
        have r2 := HI'.rc.busy hp
        have rf := HI'.rc.free (2 + p)
        have HB := Lib.hid (HI'.busyPut hp true)
        clear HI'
        go_wp2_with fail
        generalize W3.setCell ⟨g, 2 + p, none⟩ (.bool true) = W4 at HB ⊢
        clear r2 rf W3
        have d0 := HB.out.cells.1
        have r1 := HB.out.rc.calls
        have r3 := HB.out.rc.cur hp
        have rf := HB.out.rc.free (10 + p)
        go_still_tail 11, (by kernel_rfl)
        change wpList _ _ _ _ _ W4.drew
        have HI' := HB.out.drew
        clear d0 r1 r3 rf HB
        generalize W4.drew = W5 at HI' ⊢
        clear W4
        have r3 := HI'.rc.cur hp
        have rf := HI'.rc.free (10 + p)
        have HB := Lib.hid (HI'.curPut hp (cs.length : Int))
        clear HI'
        go_wp2_with fail
        generalize W5.setCell ⟨g, 10 + p, none⟩ (.int .i64 (cs.length : Int)) = W6 at HB ⊢
        clear r3 rf W5
        obtain ⟨d0, d1, d2, d3⟩ := HB.out.cells
        have r1 := HB.out.rc.calls
        have rf := HB.out.rc.free 1
        have HD := Lib.hid HB.out.drew
        have hG6 : g < W6.heap.size := Lies.lt HB.out.rc
        have hS0 : InvC g P (.slice Ac cs.length capc) ⟨p, q, kind, val⟩ W6.drew := HD.out.held
        clear d0 d1 d2 d3 r1 rf
        refine wp_region_last (InvC g P (.slice Ac cs.length capc) ⟨p, q, kind, val⟩) 17 3 (by kernel_rfl) (by rfl) (by decide) (by kernel_rfl) (by kernel_rfl) (by kernel_rfl) (by kernel_rfl) ?_
        simp only [List.take_succ_cons, List.take_zero]
        iterate 15 (
          refine takeNext 17 51 (oi := _) (v := ?_) rfl rfl (by kernel_rfl) (by kernel_rfl) (by kernel_rfl) (fun _ _ _ h => h) (by rfl) ?_ (by assumption) ?_
          rotate_left
          · (intro w hSw; obtain ⟨s0, s1, s2, s3, s4, s5⟩ := hSw; go_simp; try with_reducible rfl)
          simp only [Act.put, List.setIfInBounds_toArray, List.set_cons_zero, List.set_cons_succ, Nat.reduceAdd, Nat.reduceSub])
        refine wpAnyH_ready (rs := [15]) (by kernel_rfl) (by simp) ?_
        refine AllReadyH.cons (o := _) rfl (fun K hK => ?_) AllReadyH.nil
        go_simp
        refine hK.out _ _ (HD.out.alloc (.cells (clCs ⟨p, q, kind, val, 0, n, -1⟩).toArray 51)).held (fun _ => ?_)
        clear hK K
        refine wpAnyH_ready (rs := [16]) (by kernel_rfl) (by simp) ?_
        refine AllReadyH.cons (o := _) rfl (fun K hK => ?_) AllReadyH.nil
        refine step_app_cl (by rfl) (.tmp 55) (.tmp 66) (by rfl) (g + 1) W6.heap.size _ cs ⟨p, q, kind, val, 0, n, -1⟩ (by rfl) (by rfl) (HD.out.own.alloc (.cells (clCs ⟨p, q, kind, val, 0, n, -1⟩).toArray 51)) (new_cells W6.drew 51 (clCs ⟨p, q, kind, val, 0, n, -1⟩)) (by omega) (by simp; omega) ?_
        intro v' w5 ho5 hb5 hg5
        obtain ⟨A', c', rfl⟩ := own_slice ho5
        have HN := Lib.hid (And.intro ho5 ((HD.out.alloc (.cells (clCs ⟨p, q, kind, val, 0, n, -1⟩).toArray 51)).grown hb5 hg5))
        clear ho5 hb5 hg5
        refine hK.out _ _ HN.out.2.1 (fun _ => ?_)
        clear hK K
        refine wpAnyH_done (by kernel_rfl) ?_ _
        have rn := HN.out.2.2.1.calls
        have rm := HN.out.2.2.1.free 1
        simp only [LastQ, List.drop_succ_cons, List.drop_zero]
        go_wp2_with fail
        go_ret
        have ho : COwn w5 (g + 1) (.slice A' (cs.length + 1) c') (cs ++ [⟨p, q, kind, val, 0, n, -1⟩]) := by
          have := HN.out.1
          rw [List.length_append] at this
          exact this
        have hb : Below g w5 (w5.setCell ⟨g, 1, none⟩ (.slice A' (cs.length + 1) c')) := (Below.refl _ _).setCell (Nat.le_refl g) _
        exact ⟨HN.out.2.2.2.1.trans hb, rfl, ⟨_, _, _, HN.out.2.2.1.setCalls _, ho.far (by show g < g + 1; omega) _, H3.out.called HO.out rfl rfl⟩, HN.out.2.2.2.2.1.below hb⟩
      · have h0 : 0 ≤ openOf cs (p : Int) := hb1.1 hbp
        rw [hbp] at r2
        have e := HS.out
        rw [if_neg (fun h => h.elim (fun h => by rw [HG.out] at h; cases h) (fun h => by rw [HT.out] at h; cases h)), if_pos h0] at e
        subst e
        clear hb1 hbp h0 HS
        go_quiet (fail)
        go_wp2_with fail
        go_ret
        exact ⟨belowN HB.out.below _, rfl⟩
end Go.Proofs.YtfgangkpebkicaaDoor

/-
  Contract of (*history.record).add.
-/
namespace Go.Proofs.YtfgangkpebkicaaDoor
open Go.RowKit
set_option maxRecDepth 20000
set_option maxHeartbeats 4000000 in
theorem add_any {g : Nat} {tv : Value} {ts : List Int} {cs : List Cl} {w : World} (h : RecS g tv ts cs w) (n : Nat) (x : Ev) (hlen : cs.length ≤ 200) :
    Calls Tryd.prog 62 #[.pointer (some ⟨g, 0, none⟩), .int .i64 n, evV x] w (Did g tv ts w (step ts n cs x)) := by
  obtain ⟨who, thing, kind, val⟩ := x
  have HR := Lib.hid h
  obtain ⟨⟨cv, b, c, h1, h2, h3⟩, h4⟩ := h
  have HI := Lib.hid (EvSt.start (x := ⟨who, thing, kind, val⟩) h1 h2 h4)
  obtain ⟨At, capt, rfl, m1, m2⟩ := h4.is
  obtain ⟨Ac, capc, rfl, m3, m4⟩ := h2.rd.is
  clear h1 h2 h3 h4
  unfold maxLen at m2 m4
  have hgl := HR.out.lt
  have er : step ts n cs ⟨who, thing, kind, val⟩ = if ¬ (0 ≤ who ∧ who ≤ 7) ∨ ¬ (0 ≤ thing ∧ thing < ts.length) then .inl 3 else if kind = 0 then respS n cs ⟨who, thing, kind, val⟩ else invS ts n cs ⟨who, thing, kind, val⟩ := rfl
  generalize step ts n cs ⟨who, thing, kind, val⟩ = s at er ⊢
  have HS := Lib.hid er
  have hw : IntKind.i64.wrap ((ts.length : Int) - 1) = (ts.length : Int) - 1 := by rw [IntKind.wrap_i64]; omega
  have HRA := Lib.hid (HR.out.next ((Below.refl _ _).alloc (Nat.le_refl _) (.cells (evCs ⟨who, thing, kind, val⟩).toArray 84)))
  clear er HR
  go_enter Tryd.func62, Tryd.ntmps62
  go_wp2_with fail
  have HI' := HI.out
  have HRA' := HRA.out
  clear HI HRA
  generalize w.heap.size = P at HI' ⊢
  change Code.wp _ _ _ _ (w.alloc (.cells #[.int .i64 who, .int .i64 thing, .int .i64 kind, .int .i64 val] 84))
  generalize w.alloc (.cells #[.int .i64 who, .int .i64 thing, .int .i64 kind, .int .i64 val] 84) = W at HI' HRA' ⊢
  obtain ⟨d0, d1, d2, d3⟩ := HI'.cells
  have r0 := HI'.rc.types
  have HB := Lib.hid HI'
  have HR := Lib.hid HRA'
  clear HI' HRA'
  cases c1 : btw 0 who 7
  · have C1 := Lib.hid c1
    go_quiet ((go_at_call 63; exact quiet_left (within_any _ _ _ _)))
    go_wp2_with fail
    go_ret
    have e := HS.out
    rw [if_pos (Or.inl (btw_not.1 C1.out))] at e
    rw [e]
    exact ⟨belowN HB.out.below _, rfl⟩
  · have C1 := Lib.hid c1
    cases c2 : btw 0 thing ((ts.length : Int) - 1)
    · have C2 := Lib.hid c2
      go_quiet ((go_at_call 63; exact quiet_left (within_any _ _ _ _)))
      go_wp2_with fail
      go_ret
      have e := HS.out
      have hn := btw_not.1 C2.out
      rw [if_pos (Or.inr (by omega))] at e
      rw [e]
      exact ⟨belowN HB.out.below _, rfl⟩
    · have C2 := Lib.hid c2
      go_quiet ((go_at_call 63; exact quiet_left (within_any _ _ _ _)))
      have e := HS.out
      have hn1 := btw_iff.1 C1.out
      have hn2 := btw_iff.1 C2.out
      rw [if_neg (by omega)] at e
      obtain ⟨p, rfl⟩ : ∃ p : Nat, who = (p : Int) := ⟨who.toNat, by omega⟩
      obtain ⟨q, rfl⟩ : ∃ q : Nat, thing = (q : Int) := ⟨thing.toNat, by omega⟩
      have hp : p < 8 := by omega
      have hq : q < ts.length := by omega
      clear HS hn1 hn2 C1 C2 c1 c2
      have hpl : Below W.heap.size W (W.drewN nq) := belowN (Below.refl _ _) _
      by_cases hk : kind = 0
      · subst hk
        rw [if_pos rfl] at e
        have hc := respond_any (HR.out.next hpl) n ⟨p, q, 0, val⟩ p hp rfl
        rw [← e] at hc
        have HC := Lib.hid hc
        clear hc e
        have HL := Lib.hid hpl
        clear hpl
        go_wp2_with fail
        refine HC.out.mono ?_
        rintro e w' ⟨hb, hd⟩
        have hb' : Below g w w' := HB.out.below.trans ((belowN (Below.refl _ _) _).trans hb)
        cases s with
        | inl r =>
          simp only at hd
          subst hd
          have HX := Lib.hid hb'
          clear hb hb'
          go_wp2_with fail
          go_ret
          exact ⟨HX.out, rfl⟩
        | inr cs' =>
          obtain ⟨rfl, hd⟩ := hd
          have HX := Lib.hid (And.intro hb' hd)
          clear hb hb' hd
          go_wp2_with fail
          go_ret
          exact ⟨HX.out.1, rfl, HX.out.2⟩
      · rw [if_neg hk] at e
        have hz : (kind == 0) = false := by rw [beq_eq_false_iff_ne]; exact hk
        have hc := invoke_any (HR.out.next hpl) n ⟨p, q, kind, val⟩ p q hp rfl hq rfl hlen
        rw [← e] at hc
        have HC := Lib.hid hc
        clear hc e
        have HL := Lib.hid hpl
        clear hpl hk
        go_wp2_with fail
        refine HC.out.mono ?_
        rintro e w' ⟨hb, hd⟩
        have hb' : Below g w w' := HB.out.below.trans ((belowN (Below.refl _ _) _).trans hb)
        cases s with
        | inl r =>
          simp only at hd
          subst hd
          have HX := Lib.hid hb'
          clear hb hb'
          go_wp2_with fail
          go_ret
          exact ⟨HX.out, rfl⟩
        | inr cs' =>
          obtain ⟨rfl, hd⟩ := hd
          have HX := Lib.hid (And.intro hb' hd)
          clear hb hb' hd
          go_wp2_with fail
          go_ret
          exact ⟨HX.out.1, rfl, HX.out.2⟩
end Go.Proofs.YtfgangkpebkicaaDoor

/-
  Contract of history.Calls.
-/
namespace Go.Proofs.YtfgangkpebkicaaDoor
open Go.RowKit
set_option maxRecDepth 20000
/-- What Calls answers: the calls, where, and what went wrong. -/
def CallsPost (w : World) (o : List Cl × Nat × Int) (e : Ending) (w' : World) : Prop :=
  ∃ v, e = .returned (.tuple #[v, .int .i64 (o.2.1 : Nat), .int .i64 o.2.2]) ∧ Below w.heap.size w w' ∧ CRd w' w'.heap.size v o.1
theorem rec_start (w : World) (tv : Value) (ts : List Int) (h : NRd w w.heap.size tv ts) : RecS w.heap.size tv ts [] (w.alloc (.cells (recCs tv (.slice none 0 0) (fun _ => false) (fun _ => 0)) 125)) := by
  refine ⟨⟨.slice none 0 0, _, _, Lies.new w _ _, World.ownsRow_nil _ _ _ _, OneOpen.nil, fun p _ => ?_, fun p _ h => by cases h⟩, h.below ((Below.refl _ _).alloc (Nat.le_refl _) _)⟩
  simp [openOf, openFrom]
set_option maxHeartbeats 4000000 in
theorem calls_any {tv lv : Value} {ts : List Int} {l : List Ev} {w : World} (ht : NRd w w.heap.size tv ts) (hl : ERd w w.heap.size lv l) :
    Calls Tryd.prog 37 #[tv, lv] w (CallsPost w (callsOf ts l)) := by
  have er : callsOf ts l = if typesB ts = false then ([], 0, 1) else if 200 < l.length then ([], 0, 2) else run ts 0 [] l := rfl
  generalize callsOf ts l = o at er ⊢
  obtain ⟨At, capt, rfl, m1, m2⟩ := ht.is
  obtain ⟨Al, capl, rfl, m3, m4⟩ := hl.is
  unfold maxLen at m2 m4
  have HT := Lib.hid ht
  have HL := Lib.hid hl
  clear ht hl
  cases hb : typesB ts
  · rw [if_pos hb] at er
    subst er
    have HV := Lib.hid (valid_any HT.out)
    rw [hb] at HV
    clear hb
    go_enter Tryd.func37, Tryd.ntmps37
    go_wp2_with fail
    refine HV.out.mono ?_
    rintro e w' ⟨rfl, rfl⟩
    go_wp2_with fail
    go_ret3
    exact ⟨_, rfl, Below.refl _ _, LRd.nil _ _⟩
  · rw [if_neg (by rw [hb]; decide)] at er
    have HV := Lib.hid (valid_any HT.out)
    rw [hb] at HV
    clear hb
    by_cases hn : 200 < l.length
    · rw [if_pos hn] at er
      subst er
      have hn' : (200 : Int) < (l.length : Int) := by omega
      go_enter Tryd.func37, Tryd.ntmps37
      go_wp2_with fail
      refine HV.out.mono ?_
      rintro e w' ⟨rfl, rfl⟩
      go_wp2_with fail
      go_ret3
      exact ⟨_, rfl, Below.refl _ _, LRd.nil _ _⟩
    · rw [if_neg hn] at er
      have hn' : ¬ (200 : Int) < (l.length : Int) := by omega
      have HE := Lib.hid er
      have HR0 := Lib.hid (rec_start w _ ts HT.out)
      clear er
      go_enter Tryd.func37, Tryd.ntmps37
      go_wp2_with fail
      refine HV.out.mono ?_
      rintro e w' ⟨rfl, rfl⟩
      go_wp2_with fail
      obtain ⟨L, hL⟩ : ∃ L, L = l.length := ⟨_, rfl⟩
      have HR1 := HR0.out
      clear HR0
      change Code.wp _ _ _ _ (w.alloc (.cells (recCs (.slice At ts.length capt) (.slice none 0 0) (fun _ => false) (fun _ => 0)) 125))
      have hb0 : Below w.heap.size w (w.alloc (.cells (recCs (.slice At ts.length capt) (.slice none 0 0) (fun _ => false) (fun _ => 0)) 125)) := (Below.refl _ _).alloc (Nat.le_refl _) _
      obtain ⟨g, hg⟩ : ∃ g, g = w.heap.size := ⟨_, rfl⟩
      rw [← hg] at HR1
      rw [← hg]
      have HG := Lib.hid hg
      clear hg
      generalize w.alloc (.cells (recCs (.slice At ts.length capt) (.slice none 0 0) (fun _ => false) (fun _ => 0)) 125) = W at HR1 hb0 ⊢
      rw [← hL]
      rw [← hL] at m3 hn hn'
      have HLL := Lib.hid hL
      clear hL
      go_loopw [21] (fun i wr => ∃ (k : Nat) (cs : List Cl), k ≤ L ∧ i = .int .i64 k ∧ cs.length ≤ k ∧ run ts 0 [] l = run ts k cs (l.drop k) ∧ RecS g (.slice At ts.length capt) ts cs wr ∧ Below w.heap.size w wr) (fun i _ => L - (intOf i).toNat)
      case atStart => exact ⟨0, [], by omega, rfl, by simp, by simp, HR1, hb0⟩
      case round =>
        clear HR1 hb0
        obtain ⟨k, cs, hk, rfl, hck, hrun, hR, hB⟩ := hrel
        have HA := Lib.hid (And.intro hrun (And.intro hR hB))
        by_cases hkL : k < L
        · have hkl : k < l.length := by rw [← HLL.out]; exact hkL
          obtain ⟨x, hx⟩ : ∃ x, l[k]? = some x := ⟨_, List.getElem?_eq_getElem hkl⟩
          have hxe : l[k] = x := (List.getElem?_eq_some_iff.1 hx).2
          have hL' := HL.out.below hB
          rw [← HLL.out] at hL'
          obtain ⟨gl, o', rfl, hgl, d0, d1, d2, d3⟩ := hL'.ev hx
          have hst := run_drop (ts := ts) hkl cs
          rw [hxe] at hst
          generalize hs : step ts k cs x = s at hst
          have i1 : (0 : Int) ≤ (k : Int) := by omega
          have i2 : (k : Int) < (L : Int) := by omega
          obtain ⟨xw, xt, xk, xv⟩ := x
          have hR2 := hR.next ((Below.refl _ _).alloc (Nat.le_refl _) (.cells (evCs ⟨xw, xt, xk, xv⟩).toArray 84))
          have hl2 := Lies.new wr 84 (evCs ⟨xw, xt, xk, xv⟩).toArray
          have hb2 : Below w.heap.size w (wr.alloc (.cells (evCs ⟨xw, xt, xk, xv⟩).toArray 84)) := hB.alloc hB.size _
          have HX := Lib.hid (And.intro hst (And.intro hs (And.intro hR2 (And.intro hl2 hb2))))
          clear hx hxe hL' hst hs hrun hR hB hR2 hl2 hb2
          go_wp2_with fail
          change Calls _ _ _ (wr.alloc (.cells (evCs ⟨xw, xt, xk, xv⟩).toArray 84)) _
          generalize wr.alloc (.cells (evCs ⟨xw, xt, xk, xv⟩).toArray 84) = W2 at HX ⊢
          have hc := add_any HX.out.2.2.1 k ⟨xw, xt, xk, xv⟩ (by omega)
          rw [HX.out.2.1] at hc
          clear d0 d1 d2 d3
          refine hc.mono ?_
          rintro e w' ⟨hbw, hd⟩
          have hb' : Below w.heap.size w w' := HX.out.2.2.2.2.trans (by rw [← HG.out]; exact hbw)
          cases s with
          | inl r =>
            simp only at hd
            subst hd
            have hr : (r != 0) = true := by rw [bne_iff_ne]; exact step_err HX.out.2.1
            have HY := Lib.hid hb'
            clear hb' hbw hc
            go_wp2_with fail
            go_ret3
            have e := HE.out
            rw [HA.out.1, HX.out.1] at e
            subst e
            exact ⟨_, rfl, HY.out, LRd.nil _ _⟩
          | inr cs' =>
            obtain ⟨rfl, hd⟩ := hd
            have HY := Lib.hid (And.intro hb' hd)
            have HLN := Lib.hid (step_len HX.out.2.1)
            clear hb' hbw hd hc
            go_wp2_with fail
            go_roundw
            case rel => exact ⟨k + 1, cs', by omega, by go_num, by have := HLN.out; omega, HA.out.1.trans HX.out.1, HY.out.2, HY.out.1⟩
            case measure => simp [intOf]; omega
        · obtain rfl : k = L := by omega
          have hre : run ts 0 [] l = (cs, 0, 0) := by rw [HA.out.1, HLL.out, List.drop_length]; rfl
          have HZ := Lib.hid hre
          obtain ⟨⟨cv, b, c, h1, h2, h3⟩, h4⟩ := hR
          have r1 := h1.calls
          have HW := Lib.hid (And.intro h1 h2)
          clear hre hrun h1 h2 h3 h4 hB
          go_wp2_with fail
          go_ret3
          have e := HE.out
          rw [HZ.out] at e
          subst e
          exact ⟨_, rfl, HA.out.2.2, HW.out.2.rd⟩
end Go.Proofs.YtfgangkpebkicaaDoor
