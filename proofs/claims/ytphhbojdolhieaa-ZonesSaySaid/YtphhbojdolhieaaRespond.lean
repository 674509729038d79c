/-
  Contract of (*history.record).respond.
-/
import Derived.Test.YtphhbojdolhieaaRecord
namespace Go.Proofs.Ytphhbojdolhieaa
open Go.RowKit
set_option maxRecDepth 20000
/-- What a method of the record did: an error; or it knows the calls that the event makes. -/
def Did (g : Nat) (tv : Value) (ts : List Int) (w : World) (s : Int ⊕ List Cl) (e : Ending) (w' : World) : Prop :=
  Below g w w' ∧ match s with
    | .inl r => e = .returned (.int .i64 r)
    | .inr cs' => e = .returned (.int .i64 0) ∧ RecS g tv ts cs' w'
/-- The event that was handed in lies in block P, behind all that was there; the record in block g. -/
structure EvSt (w : World) (g P : Nat) (tv cv : Value) (ts : List Int) (cs : List Cl) (b : Nat → Bool) (c : Nat → Int) (x : Ev) (W : World) : Prop where
  ev : Lies W P 55 (evCs x).toArray
  below : Below g w W
  rc : RecB W g tv cv b c
  own : COwn W (g + 1) cv cs
  types : NRd W g tv ts
  far : w.heap.size ≤ P
  lt : g < w.heap.size
section
variable {w W : World} {g P : Nat} {tv cv : Value} {ts : List Int} {cs : List Cl} {b : Nat → Bool} {c : Nat → Int} {x : Ev}
theorem EvSt.drewN (h : EvSt w g P tv cv ts cs b c x W) (n : Nat) : EvSt w g P tv cv ts cs b c x (W.drewN n) := ⟨h.ev, belowN h.below n, h.rc, h.own, h.types, h.far, h.lt⟩
theorem EvSt.drew (h : EvSt w g P tv cv ts cs b c x W) : EvSt w g P tv cv ts cs b c x W.drew := h.drewN 1
theorem EvSt.next {W' : World} (h : EvSt w g P tv cv ts cs b c x W) (hb : Below W.heap.size W W') : EvSt w g P tv cv ts cs b c x W' := by
  have h1 := h.lt
  have h2 := Lies.lt h.rc
  exact ⟨Lies.below h.ev hb (Lies.lt h.ev), h.below.trans (hb.mono (by omega)), h.rc.below hb h2, h.own.then_ hb, h.types.below (hb.mono (by omega)), h.far, h1⟩
theorem EvSt.alloc (h : EvSt w g P tv cv ts cs b c x W) (o : Obj) : EvSt w g P tv cv ts cs b c x (W.alloc o) := h.next ((Below.refl _ _).alloc (Nat.le_refl _) o)
theorem EvSt.apart (h : EvSt w g P tv cv ts cs b c x W) : some P ≠ cv.ownBlock := by
  rcases h.own.2 with ⟨rfl, h0⟩ | ⟨g', cap, cur, rfl, h1, h2, h3, h4, h5, h6⟩
  · simp [Value.ownBlock]
  · intro e
    simp only [Value.ownBlock, Option.some.injEq] at e
    subst e
    have := h.ev
    unfold Lies at this
    rw [h2] at this
    injection this with this
    injection this with _ this _
    exact absurd this (by decide)
theorem EvSt.cells (h : EvSt w g P tv cv ts cs b c x W) : W.cell? ⟨P, 0, none⟩ = some (.int .i64 x.who) ∧ W.cell? ⟨P, 1, none⟩ = some (.int .i64 x.thing) ∧ W.cell? ⟨P, 2, none⟩ = some (.int .i64 x.kind) ∧ W.cell? ⟨P, 3, none⟩ = some (.int .i64 x.val) :=
  ⟨Lies.cell h.ev 0, Lies.cell h.ev 1, Lies.cell h.ev 2, Lies.cell h.ev 3⟩
/-- The event's cells, the record's calls, and that they may be written. -/
def InvC (g P : Nat) (cv : Value) (x : Ev) (W : World) : Prop := W.cell? ⟨P, 0, none⟩ = some (.int .i64 x.who) ∧ W.cell? ⟨P, 1, none⟩ = some (.int .i64 x.thing) ∧ W.cell? ⟨P, 2, none⟩ = some (.int .i64 x.kind) ∧ W.cell? ⟨P, 3, none⟩ = some (.int .i64 x.val) ∧ W.cell? ⟨g, 1, none⟩ = some cv ∧ W.frozen? ⟨g, 1, none⟩ = false
theorem EvSt.held (h : EvSt w g P tv cv ts cs b c x W) : InvC g P cv x W :=
  ⟨h.cells.1, h.cells.2.1, h.cells.2.2.1, h.cells.2.2.2, h.rc.calls, h.rc.free 1⟩
theorem EvSt.grown {W' : World} (h : EvSt w g P tv cv ts cs b c x W) (hb : Below (g + 1) W W') (hg : W.grownBy W' cv.ownBlock) :
    InvC g P cv x W' ∧ RecB W' g tv cv b c ∧ Below g w W' ∧ NRd W' g tv ts ∧ g < w.heap.size := by
  have hr := h.rc.below hb (by omega)
  have hl : Lies W' P 55 (evCs x).toArray := Lies.keep h.ev (hg.block P (Lies.lt h.ev) h.apart)
  exact ⟨⟨Lies.cell hl 0, Lies.cell hl 1, Lies.cell hl 2, Lies.cell hl 3, hr.calls, hr.free 1⟩, hr, h.below.trans (hb.mono (by omega)), h.types.below (hb.mono (by omega)), h.lt⟩
theorem EvSt.start (h1 : RecB w g tv cv b c) (h2 : COwn w (g + 1) cv cs) (h3 : NRd w g tv ts) : EvSt w g w.heap.size tv cv ts cs b c x (w.alloc (.cells (evCs x).toArray 55)) :=
  ⟨Lies.new _ _ _, (Below.refl _ _).alloc (Nat.le_of_lt (Lies.lt h1)) _, h1.alloc _, h2.alloc _, h3.below ((Below.refl _ _).alloc (Nat.le_of_lt (Lies.lt h1)) _), Nat.le_refl _, Lies.lt h1⟩
theorem EvSt.busyPut (h : EvSt w g P tv cv ts cs b c x W) {p : Nat} (hp : p < 8) (u : Bool) : EvSt w g P tv cv ts cs (updB b p u) c x (W.setCell ⟨g, 2 + p, none⟩ (.bool u)) := by
  have hb : Below g W (W.setCell ⟨g, 2 + p, none⟩ (.bool u)) := (Below.refl _ _).setCell (Nat.le_refl g) _
  have h1 := h.far
  have h2 := h.lt
  exact ⟨Lies.far h.ev (by show P ≠ g; omega) _, h.below.trans hb, h.rc.setBusy hp u, h.own.far (by show g < g + 1; omega) _, h.types.below hb, h1, h2⟩
theorem EvSt.curPut (h : EvSt w g P tv cv ts cs b c x W) {p : Nat} (hp : p < 8) (u : Int) : EvSt w g P tv cv ts cs b (updI c p u) x (W.setCell ⟨g, 10 + p, none⟩ (.int .i64 u)) := by
  have hb : Below g W (W.setCell ⟨g, 10 + p, none⟩ (.int .i64 u)) := (Below.refl _ _).setCell (Nat.le_refl g) _
  have h1 := h.far
  have h2 := h.lt
  exact ⟨Lies.far h.ev (by show P ≠ g; omega) _, h.below.trans hb, h.rc.setCur hp u, h.own.far (by show g < g + 1; omega) _, h.types.below hb, h1, h2⟩
/-- A number of call k is written. -/
theorem EvSt.put {h' cap : Nat} (h : EvSt w g P tv (.slice (some ⟨h', 0, none⟩) cs.length cap) ts cs b c x W) {k j : Nat} {d y : Cl} (hk : cs[k]? = some d) (hj : j < 7) {u : Value} (he : (clCs d).set j u = clCs y) (h1 : g < h') (h2 : h' < w.heap.size) :
    EvSt w g P tv (.slice (some ⟨h', 0, none⟩) (cs.set k y).length cap) ts (cs.set k y) b c x (W.setCell ⟨h', k * 7 + j, none⟩ u) := by
  have hP := h.far
  have hb : Below g W (W.setCell ⟨h', k * 7 + j, none⟩ u) := (Below.refl _ _).setCell (Nat.le_of_lt h1) u
  refine ⟨Lies.far h.ev (by show P ≠ h'; omega) u, h.below.trans hb, ?_, h.own.put hk hj he, h.types.below hb, hP, h.lt⟩
  have := h.rc.far (p := ⟨h', k * 7 + j, none⟩) (by show g ≠ h'; omega) u
  rw [List.length_set]
  exact this
end
set_option maxHeartbeats 4000000 in
theorem respond_any {g : Nat} {tv : Value} {ts : List Int} {cs : List Cl} {w : World} (h : RecS g tv ts cs w) (n : Nat) (x : Ev) (p : Nat) (hp : p < 8) (hx : x.who = (p : Int)) :
    Calls Try.prog 48 #[.pointer (some ⟨g, 0, none⟩), .int .i64 n, evV x] w (Did g tv ts w (respS n cs x)) := by
  obtain ⟨who, thing, kind, val⟩ := x
  simp only at hx
  subst hx
  obtain ⟨⟨cv, b, c, h1, h2, h3⟩, h4⟩ := h
  have hb1 := h3.busy p hp
  have hc1 := h3.cur p hp
  have HI := Lib.hid (EvSt.start (x := ⟨p, thing, kind, val⟩) h1 h2 h4)
  have H3 := Lib.hid h3
  have p1 : (0 : Int) ≤ (p : Int) := by omega
  have p2 : (p : Int) < 8 := by omega
  clear h1 h3 h4
  cases hbp : b p
  · have ho : openOf cs (p : Int) < 0 := by
      apply Classical.byContradiction; intro hn
      have := hb1.2 (by omega)
      rw [hbp] at this; cases this
    have e : respS n cs ⟨p, thing, kind, val⟩ = .inl 4 := if_pos ho
    rw [e]
    have HBP := Lib.hid hbp
    clear hb1 hc1 hbp ho e h2
    go_enter Try.func48, Try.ntmps48
    go_wp2_with fail
    have HI' := HI.out
    clear HI
    generalize w.heap.size = P at HI' ⊢
    change Code.wp _ _ _ _ (w.alloc (.cells #[.int .i64 p, .int .i64 thing, .int .i64 kind, .int .i64 val] 55))
    generalize w.alloc (.cells #[.int .i64 p, .int .i64 thing, .int .i64 kind, .int .i64 val] 55) = W at HI' ⊢
    obtain ⟨d0, d1, d2, d3⟩ := HI'.cells
    have r2 := HI'.rc.busy hp
    rw [HBP.out] at r2
    have HB := Lib.hid HI'
    clear HI'
    go_quiet (fail)
    go_wp2_with fail
    go_ret
    exact ⟨belowN HB.out.below _, rfl⟩
  · have h0 : 0 ≤ openOf cs (p : Int) := hb1.1 hbp
    obtain ⟨cl, e1, e2, e3, e4⟩ := openOf_at h0
    obtain ⟨k, hk⟩ : ∃ k : Nat, openOf cs (p : Int) = (k : Int) := ⟨(openOf cs (p : Int)).toNat, by omega⟩
    have hcp : c p = (k : Int) := (hc1 hbp).trans hk
    rw [hk, Int.toNat_natCast] at e1 e4
    have hget : cs.getD k default = cl := by rw [List.getD_eq_getElem?_getD, e1]; rfl
    have er : respS n cs ⟨p, thing, kind, val⟩ = if cl.thing ≠ thing ∨ givesB cl.kind val = false then .inl 3 else .inr (cs.set k { cl with res := val, til := n }) := by
      unfold respS
      simp only
      rw [hk, Int.toNat_natCast, hget, if_neg (by omega)]
    generalize respS n cs ⟨p, thing, kind, val⟩ = s at er ⊢
    have HS := Lib.hid er
    obtain ⟨h', cap, rfl, q1, q2, q3, q4, -, -⟩ := h2.at_ e1
    have HQ := Lib.hid (And.intro e1 hk)
    have HBP := Lib.hid (And.intro hbp hcp)
    have k1 : (0 : Int) ≤ (k : Int) := by omega
    have k2 : (k : Int) < (cs.length : Int) := by omega
    clear hb1 hc1 hbp er h0 hk hcp hget e1 h2
    unfold maxLen at q4
    go_enter Try.func48, Try.ntmps48
    go_wp2_with fail
    have HI' := HI.out
    clear HI
    have Q2 := Lib.hid q2
    clear q2
    generalize w.heap.size = P at HI' ⊢
    change Code.wp _ _ _ _ (w.alloc (.cells #[.int .i64 p, .int .i64 thing, .int .i64 kind, .int .i64 val] 55))
    generalize w.alloc (.cells #[.int .i64 p, .int .i64 thing, .int .i64 kind, .int .i64 val] 55) = W at HI' ⊢
    obtain ⟨d0, d1, d2, d3⟩ := HI'.cells
    have r2 := HI'.rc.busy hp
    rw [HBP.out.1] at r2
    have HB := Lib.hid HI'
    clear HI'
    go_quiet (fail)
    go_wp2_with fail
    have HI' := HB.out.drewN nq
    clear d0 d1 d2 d3 r2 HB
    generalize W.drewN nq = W1 at HI' ⊢
    clear W
    obtain ⟨d0, d1, d2, d3⟩ := HI'.cells
    have r1 := HI'.rc.calls
    have r3 := HI'.rc.cur hp
    rw [HBP.out.2] at r3
    have HB := Lib.hid HI'
    clear HI'
    go_quiet (fail)
    go_wp2_with fail
    have HI' := HB.out.drewN nq
    clear d0 d1 d2 d3 r1 r3 HB
    generalize W1.drewN nq = W2 at HI' ⊢
    clear W1
    obtain ⟨d0, d1, d2, d3⟩ := HI'.cells
    obtain ⟨h'', cap'', hv, -, -, -, -, hf, q6⟩ := HI'.own.at_ HQ.out.1
    injection hv with hv
    injection hv with hv
    injection hv with hv
    subst hv
    have c1 : W2.cell? ⟨h', k * 7 + 1, none⟩ = some (.int .i64 cl.thing) := q6 1 _ rfl
    have c2 : W2.cell? ⟨h', k * 7 + 2, none⟩ = some (.int .i64 cl.kind) := q6 2 _ rfl
    have c4 : W2.cell? ⟨h', k * 7 + 4, none⟩ = some (.int .i64 cl.res) := q6 4 _ rfl
    have c6 : W2.cell? ⟨h', k * 7 + 6, none⟩ = some (.int .i64 cl.til) := q6 6 _ rfl
    have HB := Lib.hid (And.intro HI' hf)
    clear HI' q6 hf
    by_cases t1 : cl.thing = thing
    · have t2 : (cl.thing != thing) = false := by rw [bne_eq_false_iff_eq]; exact t1
      have T1 := Lib.hid t1
      clear t1
      cases hgv : givesB cl.kind val
      · have HG := Lib.hid hgv
        have hc := fun W => gives_any cl.kind val W
        rw [hgv] at hc
        have HC := Lib.hid hc
        clear hgv hc
        go_quiet ((go_at_call 54; exact quiet_left (HC.out _)))
        go_wp2_with fail
        go_ret
        have e := HS.out
        rw [if_pos (Or.inr HG.out)] at e
        rw [e]
        exact ⟨belowN HB.out.1.below _, rfl⟩
      · have HG := Lib.hid hgv
        have hc := fun W => gives_any cl.kind val W
        rw [hgv] at hc
        have HC := Lib.hid hc
        clear hgv hc
        have hf := HB.out.2
        go_quiet ((go_at_call 54; exact quiet_left (HC.out _)))
        go_wp2_with fail
        have hs1 := (HB.out.1.drewN nq).put (j := 4) (y := { cl with res := val }) HQ.out.1 (by decide) (u := .int .i64 val) rfl (by omega) Q2.out
        have hk1 : (cs.set k { cl with res := val })[k]? = some { cl with res := val } := by rw [List.getElem?_set_self e4]
        have hs2 := hs1.put (j := 6) (y := { cl with res := val, til := n }) hk1 (by decide) (u := .int .i64 n) rfl (by omega) Q2.out
        rw [List.set_set] at hs2
        have HE := Lib.hid hs2
        clear hs1 hs2 hk1 d0 d1 d2 d3 c1 c2 c4 c6 hf HB
        generalize ((W2.drewN nq).setCell ⟨h', k * 7 + 4, none⟩ (.int .i64 val)).setCell ⟨h', k * 7 + 6, none⟩ (.int .i64 n) = W3 at HE ⊢
        have d0 := HE.out.cells.1
        have r2 := HE.out.rc.busy hp
        have rf := HE.out.rc.free (2 + p)
        go_still_tail 6, (by kernel_rfl)
        change wpList _ _ _ _ _ W3.drew
        have HE2 := Lib.hid HE.out.drew
        clear d0 r2 rf HE
        generalize W3.drew = W4 at HE2 ⊢
        have r2 := HE2.out.rc.busy hp
        have rf := HE2.out.rc.free (2 + p)
        go_wp2_with fail
        go_ret
        have e := HS.out
        rw [if_neg (fun h => h.elim (fun h => h T1.out) (fun h => by rw [HG.out] at h; cases h))] at e
        rw [e]
        have hgl := HE2.out.lt
        refine ⟨HE2.out.below.setCell (Nat.le_refl _) _, rfl, ⟨_, _, _, HE2.out.rc.setBusy hp false, HE2.out.own.far (by show g < g + 1; omega) _, ?_⟩, HE2.out.types.below ((Below.refl g W4).setCell (p := ⟨g, 2 + p, none⟩) (Nat.le_refl g) _)⟩
        exact H3.out.answered hp HQ.out.2 HQ.out.1 rfl (by show ((n : Nat) : Int) ≠ -1; omega)
    · have t2 : (cl.thing != thing) = true := by rw [bne_iff_ne]; exact t1
      have T1 := Lib.hid t1
      clear t1
      go_quiet (fail)
      go_wp2_with fail
      go_ret
      have e := HS.out
      rw [if_pos (Or.inl T1.out)] at e
      rw [e]
      exact ⟨belowN HB.out.1.below _, rfl⟩
end Go.Proofs.Ytphhbojdolhieaa
