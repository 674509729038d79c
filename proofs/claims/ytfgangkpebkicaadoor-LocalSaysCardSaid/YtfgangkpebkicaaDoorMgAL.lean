/-
  Joined by a program out of: LinPerf.
-/
import Derived.Test.YtfgangkpebkicaaDoorMgAK
import Derived.Test.YtfgangkpebkicaaDoorMgAG
import Derived.Test.YtfgangkpebkicaaDoorMgAB
import Derived.Deep.RegionHeld3
import Derived.Deep.CutRange

/-
  Contract of (*record).perform.
-/
namespace Go.Proofs.YtfgangkpebkicaaDoor
open Go.RowKit
set_option maxRecDepth 20000
variable {Rl : Nat → Nat → Bool}
/-- May call k come next, and is it one? -/
def nextB (Rl : Nat → Nat → Bool) (ts : List Int) (cs : List Cl) (p : Pt) (k : Int) : Bool := decide (0 ≤ k ∧ k < cs.length) && mayB Rl ts cs p k.toNat
def PerfPost (Rl : Nat → Nat → Bool) (w : World) (S : Nat → Prop) (ts : List Int) (cs : List Cl) (p : Pt) (k : Int) (e : Ending) (w' : World) : Prop :=
  Below w.heap.size w w' ∧ ((nextB Rl ts cs p k = false ∧ e = .returned (.tuple #[ptV 0 nilS, .int .i64 0, .bool false])) ∨
    (nextB Rl ts cs p k = true ∧ ∃ pv, e = .returned (.tuple #[pv, .int .i64 (thingO ts cs p k.toNat).2.1, .bool true]) ∧ PtRd (fun g => S g ∨ w.heap.size ≤ g) w' pv (nextP ts cs p k.toNat)))
structure PeR (w : World) (d : Nat) (s : Nat → Value) (wr : World) : Prop where
  below : Below w.heap.size w wr
  pt : PtB wr w.heap.size d s
  res : PtB wr (w.heap.size + 1) 0 nilS
theorem PeR.next {w wr w' : World} {d : Nat} {s : Nat → Value} (h : PeR w d s wr) (hb : Below wr.heap.size wr w') : PeR w d s w' :=
  ⟨h.below.trans (hb.mono h.below.size), Lies.below h.pt hb h.pt.lt, Lies.below h.res hb h.res.lt⟩
theorem PeR.setD {w wr : World} {d : Nat} {s : Nat → Value} (h : PeR w d s wr) (x : Nat) : PeR w x s (wr.setCell ⟨w.heap.size, 0, none⟩ (.int .u16 (x : Nat))) :=
  ⟨h.below.setCell (p := ⟨w.heap.size, 0, none⟩) (Nat.le_refl _) _, h.pt.setD x, Lies.far h.res (by show w.heap.size + 1 ≠ w.heap.size; omega) _⟩
theorem PeR.setS {w wr : World} {d : Nat} {s : Nat → Value} (h : PeR w d s wr) {k : Nat} (hk : k < 4) (x : Value) : PeR w d (fun i => if i = k then x else s i) (wr.setCell ⟨w.heap.size, 1 + k, none⟩ x) :=
  ⟨h.below.setCell (p := ⟨w.heap.size, 1 + k, none⟩) (Nat.le_refl _) _, h.pt.setS hk x, Lies.far h.res (by show w.heap.size + 1 ≠ w.heap.size; omega) _⟩
theorem PeR.drew {w wr : World} {d : Nat} {s : Nat → Value} (h : PeR w d s wr) : PeR w d s wr.drew := ⟨h.below.drew, h.pt, h.res⟩
theorem may_parts {ts : List Int} {cs : List Cl} {p : Pt} {k : Nat} {c : Cl} (hc : cs[k]? = some c) :
    mayB Rl ts cs p k = (!p.done.testBit k && (befP Rl cs k &&& (65535 - p.done) == 0) && ((stepO (ts.getD c.thing.toNat 0) (p.st c.thing.toNat) c.kind c.arg).2.2 == 0) && (c.til == -1 || (stepO (ts.getD c.thing.toNat 0) (p.st c.thing.toNat) c.kind c.arg).2.1 == c.res)) := by
  have e : cs.getD k default = c := by rw [List.getD_eq_getElem?_getD, hc]; rfl
  unfold mayB thingO
  rw [e]
theorem thing_is {ts : List Int} {cs : List Cl} {p : Pt} {k : Nat} {c : Cl} (hc : cs[k]? = some c) : thingO ts cs p k = stepO (ts.getD c.thing.toNat 0) (p.st c.thing.toNat) c.kind c.arg := by
  have e : cs.getD k default = c := by rw [List.getD_eq_getElem?_getD, hc]; rfl
  unfold thingO
  rw [e]
theorem lnot_ne (x y : Nat) (hx : x < 65536) (hy : y < 65536) : (bits BinOp.andNot IntKind.u16 (x : Int) (y : Int) != 0) = !((x &&& (65535 - y)) == 0) := by
  rw [bne, landnot x y hx hy]
set_option maxHeartbeats 8000000 in
theorem perform_core {w : World} {Q : Nat} {tv cv : Value} {ts : List Int} {cs : List Cl} (hR : RecAt Rl w Q tv cv ts cs) (hts : ts.length ≤ 4) (hcs : cs.length ≤ 9) (hth : ∀ c, c ∈ cs → 0 ≤ c.thing ∧ c.thing < ts.length) {S : Nat → Prop} {p : Pt} (hd : p.done < 65536)
    (B0 B1 B2 B3 : Option Addr) (l0 l1 l2 l3 k0 k1 k2 k3 : Nat) (hs : ∀ i, i < 4 → NAw S w ((four (.slice B0 l0 k0) (.slice B1 l1 k1) (.slice B2 l2 k2) (.slice B3 l3 k3)) i) (p.st i)) (k : Int) :
    Calls Tryd.prog 75 #[.pointer (some ⟨Q, 0, none⟩), ptV p.done (four (.slice B0 l0 k0) (.slice B1 l1 k1) (.slice B2 l2 k2) (.slice B3 l3 k3)), .int .i64 k] w (PerfPost Rl w S ts cs p k) := by
  obtain ⟨At, capt, rfl, -, -⟩ := hR.rt.is
  obtain ⟨Ac, capc, rfl, -, -⟩ := hR.rc.is
  obtain ⟨tl, hl⟩ : ∃ tl, tl = ts.length := ⟨_, rfl⟩
  obtain ⟨n, hn⟩ : ∃ n, n = cs.length := ⟨_, rfl⟩
  rw [← hl] at hR hts hth
  rw [← hn] at hR hcs
  obtain ⟨d, hdd⟩ : ∃ d, d = p.done := ⟨_, rfl⟩
  rw [← hdd] at hd ⊢
  have h1 : PeR w d (four (.slice B0 l0 k0) (.slice B1 l1 k1) (.slice B2 l2 k2) (.slice B3 l3 k3)) ((w.alloc (.cells (ptCs d (four (.slice B0 l0 k0) (.slice B1 l1 k1) (.slice B2 l2 k2) (.slice B3 l3 k3))) 117)).alloc (.cells (ptCs 0 nilS) 117)) := by
    have h2 := Lies.new (w.alloc (.cells (ptCs d (four (.slice B0 l0 k0) (.slice B1 l1 k1) (.slice B2 l2 k2) (.slice B3 l3 k3))) 117)) 117 (ptCs 0 nilS)
    rw [World.size_alloc] at h2
    exact ⟨((Below.refl _ _).alloc (Nat.le_refl _) _).alloc (by simp) _, Lies.alloc (Lies.new _ _ _) _, h2⟩
  have HQ : Hid (∀ wr, Below w.heap.size w wr → RecAt Rl wr Q (.slice At tl capt) (.slice Ac n capc) ts cs) := Lib.hid fun wr hb => hR.next hb
  have HS : Hid (∀ wr, Below w.heap.size w wr → ∀ i, i < 4 → NAw (fun g => S g ∧ g < w.heap.size) wr ((four (.slice B0 l0 k0) (.slice B1 l1 k1) (.slice B2 l2 k2) (.slice B3 l3 k3)) i) (p.st i)) := Lib.hid fun wr hb i hi => ((hs i hi).imp (fun g hg h => ⟨h, hg⟩)).next hb
  have HN := Lib.hid (And.intro hl (And.intro hn hdd))
  have HTH := Lib.hid hth
  have H1 := Lib.hid h1
  clear hl hn hdd hR hs hth h1
  go_enter Tryd.func75, Tryd.ntmps75
  go_upto_region 1 with fail
  have hP := H1.out
  clear H1
  change Code.wp _ _ _ _ ((w.alloc (.cells (ptCs d (four (.slice B0 l0 k0) (.slice B1 l1 k1) (.slice B2 l2 k2) (.slice B3 l3 k3))) 117)).alloc (.cells (ptCs 0 nilS) 117))
  generalize (w.alloc (.cells (ptCs d (four (.slice B0 l0 k0) (.slice B1 l1 k1) (.slice B2 l2 k2) (.slice B3 l3 k3))) 117)).alloc (.cells (ptCs 0 nilS) 117) = W at hP ⊢
  have c1 := (HQ.out W hP.below).c1
  have d0 := hP.pt.cells.1
  have HP := Lib.hid hP
  clear hP
  by_cases hk0 : k < 0
  · obtain ⟨q0, q1, q2, q3, q4⟩ := HP.out.res.cells
    have hf := HP.out.res.free
    go_wp2_with fail
    clear q0 q1 q2 q3 q4 hf
    have hz := HP.out.res.fill 0 nilS
    have hbz := fillP_below HP.out.below (g := w.heap.size + 1) (by omega) 0 nilS
    change bodyPost _ _ _ _ _ (fillP W (w.heap.size + 1) 0 nilS)
    generalize fillP W (w.heap.size + 1) 0 nilS = wz at hz hbz ⊢
    obtain ⟨z0, z1, z2, z3, z4⟩ := hz.cells
    exact bodyPost_ret (v := .tuple #[ptV 0 nilS, .int .i64 0, .bool false])
      (by simp [results, Tryd.results75, go_sem, z0, z1, z2, z3, z4]) rfl ⟨hbz, .inl ⟨by unfold nextB; rw [decide_eq_false (by omega)]; rfl, rfl⟩⟩
  · obtain ⟨m, rfl⟩ : ∃ m : Nat, k = (m : Int) := ⟨k.toNat, by omega⟩
    have hk1 : ¬ (m : Int) < 0 := by omega
    by_cases hmn : m < n
    · have hge : ¬ (n : Int) ≤ (m : Int) := by omega
      clear hk0
      obtain ⟨x, hx⟩ : ∃ x, cs[m]? = some x := ⟨_, List.getElem?_eq_getElem (by rw [← HN.out.2.1]; exact hmn)⟩
      have hmay := may_parts (Rl := Rl) (ts := ts) (p := p) hx
      have hnx : nextB Rl ts cs p (m : Int) = mayB Rl ts cs p m := by unfold nextB; rw [decide_eq_true ⟨by omega, by rw [← HN.out.2.1]; omega⟩]; simp
      rw [← HN.out.2.2] at hmay
      have HX := Lib.hid hx
      have HM := Lib.hid (And.intro hmay hnx)
      clear hx hmay hnx
      go_wp2_with fail
      refine (lhas_any d m _ hd (by omega)).mono ?_
      rintro e w' ⟨rfl, rfl⟩
      cases hb : d.testBit m
      · have HB := Lib.hid hb
        clear hb
        have b0 := (HQ.out W HP.out.below).bf m (by omega)
        have hbl := bef_lt (Rl := Rl) (cs := cs) (by have := HN.out.2.1; omega) m
        have hv := lnot_ne (befP Rl cs m) d hbl hd
        have i1 : (0 : Int) ≤ (m : Int) := by omega
        have i2 : (m : Int) < 9 := by omega
        cases hbf : (befP Rl cs m &&& (65535 - d)) == 0
        · rw [hbf] at hv
          have HBF := Lib.hid hbf
          clear hbf hbl
          generalize befP Rl cs m = bm at b0 hv
          have hv2 : (bits BinOp.andNot IntKind.u16 (bm : Int) (d : Int) != 0) = true := hv
          clear hv
          go_wp2_with fail
          go_region
          have HP1 := Lib.hid HP.out.drew
          clear b0 d0 c1
          generalize W.drew = W1 at HP1 ⊢
          obtain ⟨q0, q1, q2, q3, q4⟩ := HP1.out.res.cells
          have hf := HP1.out.res.free
          go_wp2_with fail
          clear q0 q1 q2 q3 q4 hf
          have hz := HP1.out.res.fill 0 nilS
          have hbz := fillP_below HP1.out.below (g := w.heap.size + 1) (by omega) 0 nilS
          change bodyPost _ _ _ _ _ (fillP W1 (w.heap.size + 1) 0 nilS)
          generalize fillP W1 (w.heap.size + 1) 0 nilS = wz at hz hbz ⊢
          obtain ⟨z0, z1, z2, z3, z4⟩ := hz.cells
          exact bodyPost_ret (v := .tuple #[ptV 0 nilS, .int .i64 0, .bool false])
            (by simp [results, Tryd.results75, go_sem, z0, z1, z2, z3, z4]) rfl ⟨hbz, .inl ⟨by rw [HM.out.2, HM.out.1, HBF.out]; simp, rfl⟩⟩
        · rw [hbf] at hv
          have HBF := Lib.hid hbf
          clear hbf hbl
          generalize hbm : befP Rl cs m = bm at b0 hv
          have hv2 : (bits BinOp.andNot IntKind.u16 (bm : Int) (d : Int) != 0) = false := hv
          clear hv hbm
          go_wp2_with fail
          go_region
          have HP1 := Lib.hid HP.out.drew
          clear b0 d0 c1 HP
          generalize W.drew = W1 at HP1 ⊢
          obtain ⟨x0, x1, x2, x3, x4, x5, x6⟩ := x
          have hth := HTH.out _ (List.mem_of_getElem? HX.out)
          simp only at hth
          obtain ⟨th, rfl⟩ : ∃ th : Nat, x1 = (th : Int) := ⟨x1.toNat, by omega⟩
          have hQ1 := HQ.out W1 HP1.out.below
          have a1 := hQ1.c1
          obtain ⟨g, o, hA, -, e0, e1, e2, e3, e4, e5, e6⟩ := hQ1.rc.cl HX.out
          subst hA
          have hthl : th < tl := by omega
          clear hQ1 hth hv2
          go_upto_region 6 with fail
          change Code.wp _ _ _ _ (W1.alloc (.cells (clCs ⟨x0, (th : Int), x2, x3, x4, x5, x6⟩).toArray 51))
          have hcl : Lies (W1.alloc (.cells (clCs ⟨x0, (th : Int), x2, x3, x4, x5, x6⟩).toArray 51)) W1.heap.size 51 (clCs ⟨x0, (th : Int), x2, x3, x4, x5, x6⟩).toArray := Lies.new _ _ _
          have hP2 := HP1.out.next ((Below.refl _ _).alloc (Nat.le_refl _) (.cells (clCs ⟨x0, (th : Int), x2, x3, x4, x5, x6⟩).toArray 51))
          have hC1 : w.heap.size + 1 < W1.heap.size := HP1.out.res.lt
          clear e0 e1 e2 e3 e4 e5 e6 a1 HP1
          generalize W1.alloc (.cells (clCs ⟨x0, (th : Int), x2, x3, x4, x5, x6⟩).toArray 51) = W2 at hcl hP2 ⊢
          generalize W1.heap.size = C1 at hcl hC1 ⊢
          have hQ2 := HQ.out W2 hP2.below
          obtain ⟨y, hy⟩ : ∃ y, ts[th]? = some y := ⟨_, List.getElem?_eq_getElem (by rw [← HN.out.1]; exact hthl)⟩
          obtain ⟨g2, o2, hA2, hg2, f0⟩ := hQ2.rt.num hy
          subst hA2
          have b0 := hQ2.c0
          have q1 : W2.cell? ⟨C1, 1, none⟩ = some (.int .i64 (th : Int)) := Lies.cell hcl 1
          have q2 : W2.cell? ⟨C1, 2, none⟩ = some (.int .i64 x2) := Lies.cell hcl 2
          have q3 : W2.cell? ⟨C1, 3, none⟩ = some (.int .i64 x3) := Lies.cell hcl 3
          have r1 := hP2.pt.row (k := th) (by omega)
          have j1 : (0 : Int) ≤ (th : Int) := by omega
          have j2 : (th : Int) < (tl : Int) := by omega
          have j3 : (th : Int) < 4 := by omega
          have hyd : ts.getD th 0 = y := by rw [List.getD_eq_getElem?_getD, hy]; rfl
          have htg := thing_is (ts := ts) (p := p) HX.out
          have hmm := HM.out.1
          simp only [Int.toNat_natCast] at htg hmm
          rw [hyd] at htg hmm
          rw [HB.out, HBF.out] at hmm
          have HMM := Lib.hid (HM.out.2.trans hmm)
          have HTG := Lib.hid htg
          have H2 := Lib.hid (And.intro hP2 hcl)
          clear hQ2 hy hyd htg hmm hP2 hcl
          have hS : ∀ W, Below W2.heap.size W2 W → (W.cell? ⟨Q, 0, none⟩ = some (.slice (some ⟨g2, o2, none⟩) tl capt) ∧ W.cell? ⟨g2, o2 + th, none⟩ = some (.int .i64 y) ∧ W.cell? ⟨C1, 1, none⟩ = some (.int .i64 (th : Int)) ∧ W.cell? ⟨C1, 2, none⟩ = some (.int .i64 x2) ∧ W.cell? ⟨C1, 3, none⟩ = some (.int .i64 x3) ∧ W.cell? ⟨w.heap.size, 1 + th, none⟩ = some ((four (.slice B0 l0 k0) (.slice B1 l1 k1) (.slice B2 l2 k2) (.slice B3 l3 k3)) th)) := fun W hb => ⟨(HQ.out W (H2.out.1.below.trans (hb.mono H2.out.1.below.size))).c0, (hb.cell (p := ⟨g2, o2 + th, none⟩) hg2).trans f0, (hb.cell (p := ⟨C1, 1, none⟩) (Lies.lt H2.out.2)).trans q1, (hb.cell (p := ⟨C1, 2, none⟩) (Lies.lt H2.out.2)).trans q2, (hb.cell (p := ⟨C1, 3, none⟩) (Lies.lt H2.out.2)).trans q3, (hb.cell (p := ⟨w.heap.size, 1 + th, none⟩) H2.out.1.pt.lt).trans r1⟩
          have HSR := Lib.hid hS
          clear hS b0 f0 q1 q2 q3 r1
          refine wp_region_held_drew (S := fun W => (W.cell? ⟨Q, 0, none⟩ = some (.slice (some ⟨g2, o2, none⟩) tl capt) ∧ W.cell? ⟨g2, o2 + th, none⟩ = some (.int .i64 y) ∧ W.cell? ⟨C1, 1, none⟩ = some (.int .i64 (th : Int)) ∧ W.cell? ⟨C1, 2, none⟩ = some (.int .i64 x2) ∧ W.cell? ⟨C1, 3, none⟩ = some (.int .i64 x3) ∧ W.cell? ⟨w.heap.size, 1 + th, none⟩ = some ((four (.slice B0 l0 k0) (.slice B1 l1 k1) (.slice B2 l2 k2) (.slice B3 l3 k3)) th))) (by kernel_rfl) (HSR.out _ (Below.refl _ _).drew) (fun hHeld => ?_)
          change wpAnyH _ _ _ _ _ 25 _ _ _
          have HD : Hid (Below W2.heap.size W2 W2.drew) := Lib.hid (Below.refl _ _).drew
          have H3 : Hid (PeR w d (four (.slice B0 l0 k0) (.slice B1 l1 k1) (.slice B2 l2 k2) (.slice B3 l3 k3)) W2.drew ∧ Lies W2.drew C1 51 (clCs ⟨x0, (th : Int), x2, x3, x4, x5, x6⟩).toArray) := Lib.hid ⟨H2.out.1.drew, Lies.drew H2.out.2⟩
          clear hHeld H2
          generalize W2.drew = W3 at H3 HD ⊢
          refine takeAt 0 50 (oi := _) (v := ?_) rfl rfl (by kernel_rfl) (by kernel_rfl) (by kernel_rfl) (fun _ _ _ h => h) (by rfl) ?_ (HSR.out _ HD.out) ?_
          rotate_left
          · (intro w hSw; obtain ⟨z0, z1, z2, z3, z4, z5⟩ := hSw; go_simp; try with_reducible rfl)
          simp only [Act.put, List.setIfInBounds_toArray, List.set_cons_zero, List.set_cons_succ]
          refine takeAt 1 51 (oi := _) (v := ?_) rfl rfl (by kernel_rfl) (by kernel_rfl) (by kernel_rfl) (fun _ _ _ h => h) (by rfl) ?_ (HSR.out _ HD.out) ?_
          rotate_left
          · (intro w hSw; obtain ⟨z0, z1, z2, z3, z4, z5⟩ := hSw; go_simp; try with_reducible rfl)
          simp only [Act.put, List.setIfInBounds_toArray, List.set_cons_zero, List.set_cons_succ]
          refine takeAt 2 52 (oi := _) (v := ?_) rfl rfl (by kernel_rfl) (by kernel_rfl) (by kernel_rfl) (fun _ _ _ h => h) (by rfl) ?_ (HSR.out _ HD.out) ?_
          rotate_left
          · (intro w hSw; obtain ⟨z0, z1, z2, z3, z4, z5⟩ := hSw; go_simp; try with_reducible rfl)
          simp only [Act.put, List.setIfInBounds_toArray, List.set_cons_zero, List.set_cons_succ]
          refine takeAt 3 53 (oi := _) (v := ?_) rfl rfl (by kernel_rfl) (by kernel_rfl) (by kernel_rfl) (fun _ _ _ h => h) (by rfl) ?_ (HSR.out _ HD.out) ?_
          rotate_left
          · (intro w hSw; obtain ⟨z0, z1, z2, z3, z4, z5⟩ := hSw; go_simp; try with_reducible rfl)
          simp only [Act.put, List.setIfInBounds_toArray, List.set_cons_zero, List.set_cons_succ]
          refine takeAt 4 54 (oi := _) (v := ?_) rfl rfl (by kernel_rfl) (by kernel_rfl) (by kernel_rfl) (fun _ _ _ h => h) (by rfl) ?_ (HSR.out _ HD.out) ?_
          rotate_left
          · (intro w hSw; obtain ⟨z0, z1, z2, z3, z4, z5⟩ := hSw; go_simp; try with_reducible rfl)
          simp only [Act.put, List.setIfInBounds_toArray, List.set_cons_zero, List.set_cons_succ]
          refine takeAt 5 55 (oi := _) (v := ?_) rfl rfl (by kernel_rfl) (by kernel_rfl) (by kernel_rfl) (fun _ _ _ h => h) (by rfl) ?_ (HSR.out _ HD.out) ?_
          rotate_left
          · (intro w hSw; obtain ⟨z0, z1, z2, z3, z4, z5⟩ := hSw; go_simp; try with_reducible rfl)
          simp only [Act.put, List.setIfInBounds_toArray, List.set_cons_zero, List.set_cons_succ]
          refine takeAt 6 56 (oi := _) (v := ?_) rfl rfl (by kernel_rfl) (by kernel_rfl) (by kernel_rfl) (fun _ _ _ h => h) (by rfl) ?_ (HSR.out _ HD.out) ?_
          rotate_left
          · (intro w hSw; obtain ⟨z0, z1, z2, z3, z4, z5⟩ := hSw; go_simp; try with_reducible rfl)
          simp only [Act.put, List.setIfInBounds_toArray, List.set_cons_zero, List.set_cons_succ]
          refine takeAt 7 57 (oi := _) (v := ?_) rfl rfl (by kernel_rfl) (by kernel_rfl) (by kernel_rfl) (fun _ _ _ h => h) (by rfl) ?_ (HSR.out _ HD.out) ?_
          rotate_left
          · (intro w hSw; obtain ⟨z0, z1, z2, z3, z4, z5⟩ := hSw; go_simp; try with_reducible rfl)
          simp only [Act.put, List.setIfInBounds_toArray, List.set_cons_zero, List.set_cons_succ]
          refine takeAt 8 58 (oi := _) (v := ?_) rfl rfl (by kernel_rfl) (by kernel_rfl) (by kernel_rfl) (fun _ _ _ h => h) (by rfl) ?_ (HSR.out _ HD.out) ?_
          rotate_left
          · (intro w hSw; obtain ⟨z0, z1, z2, z3, z4, z5⟩ := hSw; go_simp; try with_reducible rfl)
          simp only [Act.put, List.setIfInBounds_toArray, List.set_cons_zero, List.set_cons_succ]
          refine takeAt 9 59 (oi := _) (v := ?_) rfl rfl (by kernel_rfl) (by kernel_rfl) (by kernel_rfl) (fun _ _ _ h => h) (by rfl) ?_ (HSR.out _ HD.out) ?_
          rotate_left
          · (intro w hSw; obtain ⟨z0, z1, z2, z3, z4, z5⟩ := hSw; go_simp; try with_reducible rfl)
          simp only [Act.put, List.setIfInBounds_toArray, List.set_cons_zero, List.set_cons_succ]
          refine takeAt 10 60 (oi := _) (v := ?_) rfl rfl (by kernel_rfl) (by kernel_rfl) (by kernel_rfl) (fun _ _ _ h => h) (by rfl) ?_ (HSR.out _ HD.out) ?_
          rotate_left
          · (intro w hSw; obtain ⟨z0, z1, z2, z3, z4, z5⟩ := hSw; go_simp; try with_reducible rfl)
          simp only [Act.put, List.setIfInBounds_toArray, List.set_cons_zero, List.set_cons_succ]
          refine takeAt 11 61 (oi := _) (v := ?_) rfl rfl (by kernel_rfl) (by kernel_rfl) (by kernel_rfl) (fun _ _ _ h => h) (by rfl) ?_ (HSR.out _ HD.out) ?_
          rotate_left
          · (intro w hSw; obtain ⟨z0, z1, z2, z3, z4, z5⟩ := hSw; go_simp; try with_reducible rfl)
          simp only [Act.put, List.setIfInBounds_toArray, List.set_cons_zero, List.set_cons_succ]
          refine takeAt 12 62 (oi := _) (v := ?_) rfl rfl (by kernel_rfl) (by kernel_rfl) (by kernel_rfl) (fun _ _ _ h => h) (by rfl) ?_ (HSR.out _ HD.out) ?_
          rotate_left
          · (intro w hSw; obtain ⟨z0, z1, z2, z3, z4, z5⟩ := hSw; go_simp; try with_reducible rfl)
          simp only [Act.put, List.setIfInBounds_toArray, List.set_cons_zero, List.set_cons_succ]
          refine takeAt 13 63 (oi := _) (v := ?_) rfl rfl (by kernel_rfl) (by kernel_rfl) (by kernel_rfl) (fun _ _ _ h => h) (by rfl) ?_ (HSR.out _ HD.out) ?_
          rotate_left
          · (intro w hSw; obtain ⟨z0, z1, z2, z3, z4, z5⟩ := hSw; go_simp; try with_reducible rfl)
          simp only [Act.put, List.setIfInBounds_toArray, List.set_cons_zero, List.set_cons_succ]
          refine takeAt 14 64 (oi := _) (v := ?_) rfl rfl (by kernel_rfl) (by kernel_rfl) (by kernel_rfl) (fun _ _ _ h => h) (by rfl) ?_ (HSR.out _ HD.out) ?_
          rotate_left
          · (intro w hSw; obtain ⟨z0, z1, z2, z3, z4, z5⟩ := hSw; go_simp; try with_reducible rfl)
          simp only [Act.put, List.setIfInBounds_toArray, List.set_cons_zero, List.set_cons_succ]
          refine takeAt 15 65 (oi := _) (v := ?_) rfl rfl (by kernel_rfl) (by kernel_rfl) (by kernel_rfl) (fun _ _ _ h => h) (by rfl) ?_ (HSR.out _ HD.out) ?_
          rotate_left
          · (intro w hSw; obtain ⟨z0, z1, z2, z3, z4, z5⟩ := hSw; go_simp; try with_reducible rfl)
          simp only [Act.put, List.setIfInBounds_toArray, List.set_cons_zero, List.set_cons_succ]
          refine takeAt 16 66 (oi := _) (v := ?_) rfl rfl (by kernel_rfl) (by kernel_rfl) (by kernel_rfl) (fun _ _ _ h => h) (by rfl) ?_ (HSR.out _ HD.out) ?_
          rotate_left
          · (intro w hSw; obtain ⟨z0, z1, z2, z3, z4, z5⟩ := hSw; go_simp; try with_reducible rfl)
          simp only [Act.put, List.setIfInBounds_toArray, List.set_cons_zero, List.set_cons_succ]
          refine wpAnyH_ready (rs := [17]) (by kernel_rfl) (by simp) ?_
          refine AllReadyH.cons (o := _) rfl (fun K hK => ?_) AllReadyH.nil
          go_simp
          refine (step_any y x2 x3 (HS.out W3 H3.out.1.below th (by omega)).rd).mono ?_
          rintro e w4 ⟨v, rfl, ho, hb4⟩
          have HD4 := Lib.hid (HD.out.trans (hb4.mono HD.out.size))
          refine hK.out _ _ (HSR.out _ HD4.out) (fun _ => ?_)
          clear hK K
          refine takeAt 18 49 (oi := _) (v := ?_) rfl rfl (by kernel_rfl) (by kernel_rfl) (by kernel_rfl) (fun _ _ _ h => h) (by rfl) ?_ (HSR.out _ HD4.out) ?_
          rotate_left
          · (intro w hSw; obtain ⟨z0, z1, z2, z3, z4, z5⟩ := hSw; go_simp; try with_reducible rfl)
          simp only [Act.put, List.setIfInBounds_toArray, List.set_cons_zero, List.set_cons_succ]
          refine takeAt 19 68 (oi := _) (v := ?_) rfl rfl (by kernel_rfl) (by kernel_rfl) (by kernel_rfl) (fun _ _ _ h => h) (by rfl) ?_ (HSR.out _ HD4.out) ?_
          rotate_left
          · (intro w hSw; obtain ⟨z0, z1, z2, z3, z4, z5⟩ := hSw; go_simp; try with_reducible rfl)
          simp only [Act.put, List.setIfInBounds_toArray, List.set_cons_zero, List.set_cons_succ]
          refine takeAt 20 69 (oi := _) (v := ?_) rfl rfl (by kernel_rfl) (by kernel_rfl) (by kernel_rfl) (fun _ _ _ h => h) (by rfl) ?_ (HSR.out _ HD4.out) ?_
          rotate_left
          · (intro w hSw; obtain ⟨z0, z1, z2, z3, z4, z5⟩ := hSw; go_simp; try with_reducible rfl)
          simp only [Act.put, List.setIfInBounds_toArray, List.set_cons_zero, List.set_cons_succ]
          refine takeAt 21 70 (oi := _) (v := ?_) rfl rfl (by kernel_rfl) (by kernel_rfl) (by kernel_rfl) (fun _ _ _ h => h) (by rfl) ?_ (HSR.out _ HD4.out) ?_
          rotate_left
          · (intro w hSw; obtain ⟨z0, z1, z2, z3, z4, z5⟩ := hSw; go_simp; try with_reducible rfl)
          simp only [Act.put, List.setIfInBounds_toArray, List.set_cons_zero, List.set_cons_succ]
          refine takeAt 22 10 (oi := _) (v := ?_) rfl rfl (by kernel_rfl) (by kernel_rfl) (by kernel_rfl) (fun _ _ _ h => h) (by rfl) ?_ (HSR.out _ HD4.out) ?_
          rotate_left
          · (intro w hSw; obtain ⟨z0, z1, z2, z3, z4, z5⟩ := hSw; go_simp; try with_reducible rfl)
          simp only [Act.put, List.setIfInBounds_toArray, List.set_cons_zero, List.set_cons_succ]
          refine takeAt 23 11 (oi := _) (v := ?_) rfl rfl (by kernel_rfl) (by kernel_rfl) (by kernel_rfl) (fun _ _ _ h => h) (by rfl) ?_ (HSR.out _ HD4.out) ?_
          rotate_left
          · (intro w hSw; obtain ⟨z0, z1, z2, z3, z4, z5⟩ := hSw; go_simp; try with_reducible rfl)
          simp only [Act.put, List.setIfInBounds_toArray, List.set_cons_zero, List.set_cons_succ]
          refine takeAt 24 12 (oi := _) (v := ?_) rfl rfl (by kernel_rfl) (by kernel_rfl) (by kernel_rfl) (fun _ _ _ h => h) (by rfl) ?_ (HSR.out _ HD4.out) ?_
          rotate_left
          · (intro w hSw; obtain ⟨z0, z1, z2, z3, z4, z5⟩ := hSw; go_simp; try with_reducible rfl)
          simp only [Act.put, List.setIfInBounds_toArray, List.set_cons_zero, List.set_cons_succ]
          refine wpAnyH_done (by kernel_rfl) ?_ _
          clear HSR HD HD4
          generalize stepO y (p.st th) x2 x3 = so at ho HMM HTG ⊢
          obtain ⟨o1, o2', o3⟩ := so
          simp only at ho HMM HTG ⊢
          obtain ⟨A9, k9, rfl, -⟩ := ho.rd.is
          have hv4 : NAw (fun g => w.heap.size + 1 < g) w4 (.slice A9 o1.length k9) o1 := (NAw.of_own ho).imp (fun g _ hg => by have := H3.out.1.res.lt; omega)
          have hP4 := H3.out.1.next hb4
          have hcl4 := Lies.below H3.out.2 hb4 (Lies.lt H3.out.2)
          have s0 : w4.cell? ⟨C1, 0, none⟩ = some (.int .i64 x0) := Lies.cell hcl4 0
          have s1 : w4.cell? ⟨C1, 1, none⟩ = some (.int .i64 (th : Int)) := Lies.cell hcl4 1
          have s2 : w4.cell? ⟨C1, 2, none⟩ = some (.int .i64 x2) := Lies.cell hcl4 2
          have s3 : w4.cell? ⟨C1, 3, none⟩ = some (.int .i64 x3) := Lies.cell hcl4 3
          have s4 : w4.cell? ⟨C1, 4, none⟩ = some (.int .i64 x4) := Lies.cell hcl4 4
          have s5 : w4.cell? ⟨C1, 5, none⟩ = some (.int .i64 x5) := Lies.cell hcl4 5
          have s6 : w4.cell? ⟨C1, 6, none⟩ = some (.int .i64 x6) := Lies.cell hcl4 6
          have H4 := Lib.hid hP4
          have H4' := Lib.hid (And.intro hcl4 hv4)
          clear H3 ho hb4 hP4 hcl4 hv4
          by_cases hE : o3 = 0
          · subst hE
            go_wp2_with fail
            clear s0 s1 s2 s3 s4 s5 s6
            refine (lresp_any ⟨x0, (th : Int), x2, x3, x4, x5, x6⟩ w4).mono ?_
            rintro e w5 ⟨rfl, hb5⟩
            have hcl5 := Lies.below H4'.out.1 hb5 (Lies.lt H4'.out.1)
            have s4 : w5.cell? ⟨C1, 4, none⟩ = some (.int .i64 x4) := Lies.cell hcl5 4
            have H5 := Lib.hid (H4.out.next hb5)
            have H5' := Lib.hid (And.intro hcl5 (H4'.out.2.next hb5))
            clear H4 H4' hcl5 hb5
            by_cases t1 : x6 = -1
            · have hz : (x6 != -1) = false := by rw [bne_eq_false_iff_eq]; exact t1
              have HY : Hid (nextB Rl ts cs p (m : Int) = true) := Lib.hid (by rw [HMM.out, t1]; rfl)
              rw [hz]
              clear t1 hz
              go_wp2_with fail
              have d0 := H5.out.pt.cells.1
              have f0 := H5.out.pt.free 0
              have ho := or_pow d m hd (by omega)
              have hp := pow_u16 m (by omega)
              go_region
              have H6 := Lib.hid (H5.out.setD (d ||| 2 ^ m)).drew
              have H6' : Hid (Lies (w5.setCell ⟨w.heap.size, 0, none⟩ (.int .u16 ((d ||| 2 ^ m : Nat) : Int))).drew C1 51 (clCs ⟨x0, (th : Int), x2, x3, x4, x5, x6⟩).toArray ∧ NAw (fun g => w.heap.size + 1 < g) (w5.setCell ⟨w.heap.size, 0, none⟩ (.int .u16 ((d ||| 2 ^ m : Nat) : Int))).drew (.slice A9 o1.length k9) o1) :=
                Lib.hid ⟨Lies.drew (Lies.far H5'.out.1 (by show C1 ≠ w.heap.size; omega) _), (H5'.out.2.setCell ⟨w.heap.size, 0, none⟩ _ (fun g hg => by show g ≠ w.heap.size; omega)).keep (Nat.le_refl _) (fun _ _ _ => rfl)⟩
              clear d0 f0 ho hp H5 H5' s4
              generalize (w5.setCell ⟨w.heap.size, 0, none⟩ (.int .u16 ((d ||| 2 ^ m : Nat) : Int))).drew = w6 at H6 H6' ⊢
              have s1 : w6.cell? ⟨C1, 1, none⟩ = some (.int .i64 (th : Int)) := Lies.cell H6'.out.1 1
              have r1 := H6.out.pt.row (k := th) (by omega)
              have f1 := H6.out.pt.free (1 + th)
              go_upto_region 11 with fail
              have hP7 := H6.out.setS (k := th) (by omega) (.slice A9 o1.length k9)
              have hv7 := H6'.out.2.setCell ⟨w.heap.size, 1 + th, none⟩ (.slice A9 o1.length k9) (fun g hg => by show g ≠ w.heap.size; omega)
              clear s1 r1 f1 H6 H6'
              generalize w6.setCell ⟨w.heap.size, 1 + th, none⟩ (.slice A9 o1.length k9) = w7 at hP7 hv7 ⊢
              have hst : ∀ i, i < 4 → NAw (fun g => (S g ∧ g < w.heap.size) ∨ w.heap.size + 1 < g) w7 (if i = th then .slice A9 o1.length k9 else (four (.slice B0 l0 k0) (.slice B1 l1 k1) (.slice B2 l2 k2) (.slice B3 l3 k3)) i) (if i = th then o1 else p.st i) := fun i hi => by
                by_cases e : i = th
                · rw [if_pos e, if_pos e]
                  exact hv7.imp (fun g _ h => .inr h)
                · rw [if_neg e, if_neg e]
                  exact (HS.out w7 hP7.below i hi).imp (fun g _ h => .inl h)
              have hown := PtB.four hP7.pt
              have hat := fun i hi => four_at (fun i => if i = th then Value.slice A9 o1.length k9 else (four (.slice B0 l0 k0) (.slice B1 l1 k1) (.slice B2 l2 k2) (.slice B3 l3 k3)) i) (i := i) hi
              obtain ⟨C0, h0, g0, -⟩ := hst 0 (by omega)
              obtain ⟨C9, h1, g1, -⟩ := hst 1 (by omega)
              obtain ⟨C2, h2, g2', -⟩ := hst 2 (by omega)
              obtain ⟨C3, h3, g3, -⟩ := hst 3 (by omega)
              try simp only at hown hat
              rw [g0, g1, g2', g3] at hown hat
              generalize (if 0 = th then o1 else p.st 0).length = n0 at hown hat
              generalize (if 1 = th then o1 else p.st 1).length = n1 at hown hat
              generalize (if 2 = th then o1 else p.st 2).length = n2 at hown hat
              generalize (if 3 = th then o1 else p.st 3).length = n3 at hown hat
              have p0 : w7.cell? ⟨w.heap.size, 0, none⟩ = some (.int .u16 ((d ||| 2 ^ m : Nat) : Int)) := hown.cells.1
              have p1 : w7.cell? ⟨w.heap.size, 1, none⟩ = some (.slice C0 n0 h0) := hown.cells.2.1
              have p2 : w7.cell? ⟨w.heap.size, 2, none⟩ = some (.slice C9 n1 h1) := hown.cells.2.2.1
              have p3 : w7.cell? ⟨w.heap.size, 3, none⟩ = some (.slice C2 n2 h2) := hown.cells.2.2.2.1
              have p4 : w7.cell? ⟨w.heap.size, 4, none⟩ = some (.slice C3 n3 h3) := hown.cells.2.2.2.2
              obtain ⟨q0, q1, q2, q3, q4⟩ := hP7.res.cells
              have hf := hP7.res.free
              have H7 := Lib.hid (And.intro hP7 (And.intro hst hat))
              clear hP7 hst hat hown hv7 g0 g1 g2' g3
              generalize hdm : d ||| 2 ^ m = dm at p0
              go_wp2_with fail
              clear q0 q1 q2 q3 q4 hf p0 p1 p2 p3 p4
              have hz := H7.out.1.res.fill dm (four (.slice C0 n0 h0) (.slice C9 n1 h1) (.slice C2 n2 h2) (.slice C3 n3 h3))
              have hbz := fillP_below H7.out.1.below (g := w.heap.size + 1) (by omega) dm (four (.slice C0 n0 h0) (.slice C9 n1 h1) (.slice C2 n2 h2) (.slice C3 n3 h3))
              have hsz : w7.heap.size ≤ (fillP w7 (w.heap.size + 1) dm (four (.slice C0 n0 h0) (.slice C9 n1 h1) (.slice C2 n2 h2) (.slice C3 n3 h3))).heap.size := (fillP_below (Below.refl 0 w7) (g := w.heap.size + 1) (Nat.zero_le _) dm (four (.slice C0 n0 h0) (.slice C9 n1 h1) (.slice C2 n2 h2) (.slice C3 n3 h3))).size
              have hfa := fun g (hg : g ≠ w.heap.size + 1) => fillP_far (w := w7) hg dm (four (.slice C0 n0 h0) (.slice C9 n1 h1) (.slice C2 n2 h2) (.slice C3 n3 h3))
              change bodyPost _ _ _ _ _ (fillP w7 (w.heap.size + 1) dm (four (.slice C0 n0 h0) (.slice C9 n1 h1) (.slice C2 n2 h2) (.slice C3 n3 h3)))
              generalize fillP w7 (w.heap.size + 1) dm (four (.slice C0 n0 h0) (.slice C9 n1 h1) (.slice C2 n2 h2) (.slice C3 n3 h3)) = wz at hz hbz hsz hfa ⊢
              have z0 : wz.cell? ⟨w.heap.size + 1, 0, none⟩ = some (.int .u16 (dm : Nat)) := hz.cells.1
              have z1 : wz.cell? ⟨w.heap.size + 1, 1, none⟩ = some (.slice C0 n0 h0) := hz.cells.2.1
              have z2 : wz.cell? ⟨w.heap.size + 1, 2, none⟩ = some (.slice C9 n1 h1) := hz.cells.2.2.1
              have z3 : wz.cell? ⟨w.heap.size + 1, 3, none⟩ = some (.slice C2 n2 h2) := hz.cells.2.2.2.1
              have z4 : wz.cell? ⟨w.heap.size + 1, 4, none⟩ = some (.slice C3 n3 h3) := hz.cells.2.2.2.2
              refine bodyPost_ret (v := .tuple #[ptV dm (four (.slice C0 n0 h0) (.slice C9 n1 h1) (.slice C2 n2 h2) (.slice C3 n3 h3)), .int .i64 o2', .bool true])
                (by simp [results, Tryd.results75, go_sem, z0, z1, z2, z3, z4, four]) rfl ⟨hbz, .inr ⟨HY.out, _, by rw [show ((m : Int)).toNat = m from Int.toNat_natCast m, HTG.out], ⟨(four (.slice C0 n0 h0) (.slice C9 n1 h1) (.slice C2 n2 h2) (.slice C3 n3 h3)), by rw [← hdm, HN.out.2.2]; rfl, fun i hi => ?_⟩⟩⟩
              rw [H7.out.2.2 i hi]
              have h3 := ((H7.out.2.1 i hi).keep hsz (fun g hg _ => hfa g (by omega))).imp (S' := fun g => S g ∨ w.heap.size ≤ g) (fun g _ hg => hg.elim (fun h => .inl h.1) (fun h => .inr (by omega)))
              have e9 : (nextP ts cs p ((m : Int)).toNat).st i = if i = th then o1 else p.st i := by
                have e : cs.getD m default = ⟨x0, (th : Int), x2, x3, x4, x5, x6⟩ := by rw [List.getD_eq_getElem?_getD, HX.out]; rfl
                show (if i = (cs.getD ((m : Int)).toNat default).thing.toNat then (thingO ts cs p ((m : Int)).toNat).1 else p.st i) = _
                rw [show ((m : Int)).toNat = m from Int.toNat_natCast m, e, HTG.out]
                simp
              rw [e9]
              exact h3
            · have hz : (x6 != -1) = true := by rw [bne_iff_ne]; exact t1
              have hz2 : (x6 == -1) = false := by rw [beq_eq_false_iff_ne]; exact t1
              by_cases t2 : o2' = x4
              · have hy2 : (o2' != x4) = false := by rw [bne_eq_false_iff_eq]; exact t2
                have HY : Hid (nextB Rl ts cs p (m : Int) = true) := Lib.hid (by rw [HMM.out, t2]; simp)
                rw [hz]
                clear t1 hz hz2 t2
                go_wp2_with fail
                have d0 := H5.out.pt.cells.1
                have f0 := H5.out.pt.free 0
                have ho := or_pow d m hd (by omega)
                have hp := pow_u16 m (by omega)
                go_region
                have H6 := Lib.hid (H5.out.setD (d ||| 2 ^ m)).drew
                have H6' : Hid (Lies (w5.setCell ⟨w.heap.size, 0, none⟩ (.int .u16 ((d ||| 2 ^ m : Nat) : Int))).drew C1 51 (clCs ⟨x0, (th : Int), x2, x3, x4, x5, x6⟩).toArray ∧ NAw (fun g => w.heap.size + 1 < g) (w5.setCell ⟨w.heap.size, 0, none⟩ (.int .u16 ((d ||| 2 ^ m : Nat) : Int))).drew (.slice A9 o1.length k9) o1) :=
                  Lib.hid ⟨Lies.drew (Lies.far H5'.out.1 (by show C1 ≠ w.heap.size; omega) _), (H5'.out.2.setCell ⟨w.heap.size, 0, none⟩ _ (fun g hg => by show g ≠ w.heap.size; omega)).keep (Nat.le_refl _) (fun _ _ _ => rfl)⟩
                clear d0 f0 ho hp H5 H5' s4
                generalize (w5.setCell ⟨w.heap.size, 0, none⟩ (.int .u16 ((d ||| 2 ^ m : Nat) : Int))).drew = w6 at H6 H6' ⊢
                have s1 : w6.cell? ⟨C1, 1, none⟩ = some (.int .i64 (th : Int)) := Lies.cell H6'.out.1 1
                have r1 := H6.out.pt.row (k := th) (by omega)
                have f1 := H6.out.pt.free (1 + th)
                go_upto_region 11 with fail
                have hP7 := H6.out.setS (k := th) (by omega) (.slice A9 o1.length k9)
                have hv7 := H6'.out.2.setCell ⟨w.heap.size, 1 + th, none⟩ (.slice A9 o1.length k9) (fun g hg => by show g ≠ w.heap.size; omega)
                clear s1 r1 f1 H6 H6'
                generalize w6.setCell ⟨w.heap.size, 1 + th, none⟩ (.slice A9 o1.length k9) = w7 at hP7 hv7 ⊢
                have hst : ∀ i, i < 4 → NAw (fun g => (S g ∧ g < w.heap.size) ∨ w.heap.size + 1 < g) w7 (if i = th then .slice A9 o1.length k9 else (four (.slice B0 l0 k0) (.slice B1 l1 k1) (.slice B2 l2 k2) (.slice B3 l3 k3)) i) (if i = th then o1 else p.st i) := fun i hi => by
                  by_cases e : i = th
                  · rw [if_pos e, if_pos e]
                    exact hv7.imp (fun g _ h => .inr h)
                  · rw [if_neg e, if_neg e]
                    exact (HS.out w7 hP7.below i hi).imp (fun g _ h => .inl h)
                have hown := PtB.four hP7.pt
                have hat := fun i hi => four_at (fun i => if i = th then Value.slice A9 o1.length k9 else (four (.slice B0 l0 k0) (.slice B1 l1 k1) (.slice B2 l2 k2) (.slice B3 l3 k3)) i) (i := i) hi
                obtain ⟨C0, h0, g0, -⟩ := hst 0 (by omega)
                obtain ⟨C9, h1, g1, -⟩ := hst 1 (by omega)
                obtain ⟨C2, h2, g2', -⟩ := hst 2 (by omega)
                obtain ⟨C3, h3, g3, -⟩ := hst 3 (by omega)
                try simp only at hown hat
                rw [g0, g1, g2', g3] at hown hat
                generalize (if 0 = th then o1 else p.st 0).length = n0 at hown hat
                generalize (if 1 = th then o1 else p.st 1).length = n1 at hown hat
                generalize (if 2 = th then o1 else p.st 2).length = n2 at hown hat
                generalize (if 3 = th then o1 else p.st 3).length = n3 at hown hat
                have p0 : w7.cell? ⟨w.heap.size, 0, none⟩ = some (.int .u16 ((d ||| 2 ^ m : Nat) : Int)) := hown.cells.1
                have p1 : w7.cell? ⟨w.heap.size, 1, none⟩ = some (.slice C0 n0 h0) := hown.cells.2.1
                have p2 : w7.cell? ⟨w.heap.size, 2, none⟩ = some (.slice C9 n1 h1) := hown.cells.2.2.1
                have p3 : w7.cell? ⟨w.heap.size, 3, none⟩ = some (.slice C2 n2 h2) := hown.cells.2.2.2.1
                have p4 : w7.cell? ⟨w.heap.size, 4, none⟩ = some (.slice C3 n3 h3) := hown.cells.2.2.2.2
                obtain ⟨q0, q1, q2, q3, q4⟩ := hP7.res.cells
                have hf := hP7.res.free
                have H7 := Lib.hid (And.intro hP7 (And.intro hst hat))
                clear hP7 hst hat hown hv7 g0 g1 g2' g3
                generalize hdm : d ||| 2 ^ m = dm at p0
                go_wp2_with fail
                clear q0 q1 q2 q3 q4 hf p0 p1 p2 p3 p4
                have hz := H7.out.1.res.fill dm (four (.slice C0 n0 h0) (.slice C9 n1 h1) (.slice C2 n2 h2) (.slice C3 n3 h3))
                have hbz := fillP_below H7.out.1.below (g := w.heap.size + 1) (by omega) dm (four (.slice C0 n0 h0) (.slice C9 n1 h1) (.slice C2 n2 h2) (.slice C3 n3 h3))
                have hsz : w7.heap.size ≤ (fillP w7 (w.heap.size + 1) dm (four (.slice C0 n0 h0) (.slice C9 n1 h1) (.slice C2 n2 h2) (.slice C3 n3 h3))).heap.size := (fillP_below (Below.refl 0 w7) (g := w.heap.size + 1) (Nat.zero_le _) dm (four (.slice C0 n0 h0) (.slice C9 n1 h1) (.slice C2 n2 h2) (.slice C3 n3 h3))).size
                have hfa := fun g (hg : g ≠ w.heap.size + 1) => fillP_far (w := w7) hg dm (four (.slice C0 n0 h0) (.slice C9 n1 h1) (.slice C2 n2 h2) (.slice C3 n3 h3))
                change bodyPost _ _ _ _ _ (fillP w7 (w.heap.size + 1) dm (four (.slice C0 n0 h0) (.slice C9 n1 h1) (.slice C2 n2 h2) (.slice C3 n3 h3)))
                generalize fillP w7 (w.heap.size + 1) dm (four (.slice C0 n0 h0) (.slice C9 n1 h1) (.slice C2 n2 h2) (.slice C3 n3 h3)) = wz at hz hbz hsz hfa ⊢
                have z0 : wz.cell? ⟨w.heap.size + 1, 0, none⟩ = some (.int .u16 (dm : Nat)) := hz.cells.1
                have z1 : wz.cell? ⟨w.heap.size + 1, 1, none⟩ = some (.slice C0 n0 h0) := hz.cells.2.1
                have z2 : wz.cell? ⟨w.heap.size + 1, 2, none⟩ = some (.slice C9 n1 h1) := hz.cells.2.2.1
                have z3 : wz.cell? ⟨w.heap.size + 1, 3, none⟩ = some (.slice C2 n2 h2) := hz.cells.2.2.2.1
                have z4 : wz.cell? ⟨w.heap.size + 1, 4, none⟩ = some (.slice C3 n3 h3) := hz.cells.2.2.2.2
                refine bodyPost_ret (v := .tuple #[ptV dm (four (.slice C0 n0 h0) (.slice C9 n1 h1) (.slice C2 n2 h2) (.slice C3 n3 h3)), .int .i64 o2', .bool true])
                  (by simp [results, Tryd.results75, go_sem, z0, z1, z2, z3, z4, four]) rfl ⟨hbz, .inr ⟨HY.out, _, by rw [show ((m : Int)).toNat = m from Int.toNat_natCast m, HTG.out], ⟨(four (.slice C0 n0 h0) (.slice C9 n1 h1) (.slice C2 n2 h2) (.slice C3 n3 h3)), by rw [← hdm, HN.out.2.2]; rfl, fun i hi => ?_⟩⟩⟩
                rw [H7.out.2.2 i hi]
                have h3 := ((H7.out.2.1 i hi).keep hsz (fun g hg _ => hfa g (by omega))).imp (S' := fun g => S g ∨ w.heap.size ≤ g) (fun g _ hg => hg.elim (fun h => .inl h.1) (fun h => .inr (by omega)))
                have e9 : (nextP ts cs p ((m : Int)).toNat).st i = if i = th then o1 else p.st i := by
                  have e : cs.getD m default = ⟨x0, (th : Int), x2, x3, x4, x5, x6⟩ := by rw [List.getD_eq_getElem?_getD, HX.out]; rfl
                  show (if i = (cs.getD ((m : Int)).toNat default).thing.toNat then (thingO ts cs p ((m : Int)).toNat).1 else p.st i) = _
                  rw [show ((m : Int)).toNat = m from Int.toNat_natCast m, e, HTG.out]
                  simp
                rw [e9]
                exact h3
              · have hy2 : (o2' != x4) = true := by rw [bne_iff_ne]; exact t2
                have HY : Hid (nextB Rl ts cs p (m : Int) = false) := Lib.hid (by rw [HMM.out, hz2, beq_eq_false_iff_ne.2 t2]; rfl)
                rw [hz]
                clear t1 hz hz2 t2
                obtain ⟨q0, q1, q2, q3, q4⟩ := H5.out.res.cells
                have hf := H5.out.res.free
                go_wp2_with fail
                clear q0 q1 q2 q3 q4 hf
                have hz := H5.out.res.fill 0 nilS
                have hbz := fillP_below H5.out.below (g := w.heap.size + 1) (by omega) 0 nilS
                change bodyPost _ _ _ _ _ (fillP w5 (w.heap.size + 1) 0 nilS)
                generalize fillP w5 (w.heap.size + 1) 0 nilS = wz at hz hbz ⊢
                obtain ⟨z0, z1, z2, z3, z4⟩ := hz.cells
                exact bodyPost_ret (v := .tuple #[ptV 0 nilS, .int .i64 0, .bool false])
                  (by simp [results, Tryd.results75, go_sem, z0, z1, z2, z3, z4]) rfl ⟨hbz, .inl ⟨HY.out, rfl⟩⟩
          · have hE' : (o3 != 0) = true := by rw [bne_iff_ne]; exact hE
            have HY : Hid (nextB Rl ts cs p (m : Int) = false) := Lib.hid (by rw [HMM.out, beq_eq_false_iff_ne.2 hE]; rfl)
            clear s0 s1 s2 s3 s4 s5 s6
            obtain ⟨q0, q1, q2, q3, q4⟩ := H4.out.res.cells
            have hf := H4.out.res.free
            go_wp2_with fail
            clear q0 q1 q2 q3 q4 hf
            have hz := H4.out.res.fill 0 nilS
            have hbz := fillP_below H4.out.below (g := w.heap.size + 1) (by omega) 0 nilS
            change bodyPost _ _ _ _ _ (fillP w4 (w.heap.size + 1) 0 nilS)
            generalize fillP w4 (w.heap.size + 1) 0 nilS = wz at hz hbz ⊢
            obtain ⟨z0, z1, z2, z3, z4⟩ := hz.cells
            exact bodyPost_ret (v := .tuple #[ptV 0 nilS, .int .i64 0, .bool false])
              (by simp [results, Tryd.results75, go_sem, z0, z1, z2, z3, z4]) rfl ⟨hbz, .inl ⟨HY.out, rfl⟩⟩
      · have HB := Lib.hid hb
        clear hb
        obtain ⟨q0, q1, q2, q3, q4⟩ := HP.out.res.cells
        have hf := HP.out.res.free
        go_wp2_with fail
        clear q0 q1 q2 q3 q4 hf
        have hz := HP.out.res.fill 0 nilS
        have hbz := fillP_below HP.out.below (g := w.heap.size + 1) (by omega) 0 nilS
        change bodyPost _ _ _ _ _ (fillP W (w.heap.size + 1) 0 nilS)
        generalize fillP W (w.heap.size + 1) 0 nilS = wz at hz hbz ⊢
        obtain ⟨z0, z1, z2, z3, z4⟩ := hz.cells
        exact bodyPost_ret (v := .tuple #[ptV 0 nilS, .int .i64 0, .bool false])
          (by simp [results, Tryd.results75, go_sem, z0, z1, z2, z3, z4]) rfl ⟨hbz, .inl ⟨by rw [HM.out.2, HM.out.1, HB.out]; simp, rfl⟩⟩
    · have hge : (n : Int) ≤ (m : Int) := by omega
      obtain ⟨q0, q1, q2, q3, q4⟩ := HP.out.res.cells
      have hf := HP.out.res.free
      go_wp2_with fail
      clear q0 q1 q2 q3 q4 hf
      have hz := HP.out.res.fill 0 nilS
      have hbz := fillP_below HP.out.below (g := w.heap.size + 1) (by omega) 0 nilS
      change bodyPost _ _ _ _ _ (fillP W (w.heap.size + 1) 0 nilS)
      generalize fillP W (w.heap.size + 1) 0 nilS = wz at hz hbz ⊢
      obtain ⟨z0, z1, z2, z3, z4⟩ := hz.cells
      exact bodyPost_ret (v := .tuple #[ptV 0 nilS, .int .i64 0, .bool false])
        (by simp [results, Tryd.results75, go_sem, z0, z1, z2, z3, z4]) rfl ⟨hbz, .inl ⟨by have := HN.out.2.1; unfold nextB; rw [decide_eq_false (by omega)]; rfl, rfl⟩⟩
end Go.Proofs.YtfgangkpebkicaaDoor
