/-
  Joined by a program out of: LMap, LCollect.
-/
import Derived.Test.YtecpjeililiafaaDoorMgBH
import Derived.Test.YtecpjeililiafaaDoorMgAQ

/-
  A map from numbers to steps; rows of rows as they are handed in.
-/
namespace Go.Proofs.YtecpjeililiafaaDoor
open Go.RowKit Go.Maps
open Go.ChangeShapes (lits)
set_option maxRecDepth 20000

/-! ### Rows of rows -/
def QRd (w : World) (B : Nat) (v : Value) (ww : List (List (Int × Int))) : Prop :=
  ∃ A cap, v = .slice A ww.length cap ∧ ww.length ≤ cap ∧ cap ≤ maxLen ∧ (0 < ww.length → ∃ g o, A = some ⟨g, o, none⟩ ∧ g < B ∧ ∀ k l, ww[k]? = some l → ∃ Al cl, w.cell? ⟨g, o + k, none⟩ = some (.slice Al l.length cl) ∧ SRd w B (.slice Al l.length cl) l)
theorem QRd.is {w : World} {B : Nat} {v : Value} {ww : List (List (Int × Int))} (h : QRd w B v ww) : ∃ A cap, v = .slice A ww.length cap ∧ ww.length ≤ cap ∧ cap ≤ maxLen := by
  obtain ⟨A, cap, h1, h2, h3, _⟩ := h
  exact ⟨A, cap, h1, h2, h3⟩
theorem QRd.below {w w' : World} {B : Nat} {v : Value} {ww : List (List (Int × Int))} (h : QRd w B v ww) (hb : Below B w w') : QRd w' B v ww := by
  obtain ⟨A, cap, h1, h2, h3, h4⟩ := h
  refine ⟨A, cap, h1, h2, h3, fun hp => ?_⟩
  obtain ⟨g, o, hA, hg, hc⟩ := h4 hp
  refine ⟨g, o, hA, hg, fun k l hk => ?_⟩
  obtain ⟨Al, cl, k1, k2⟩ := hc k l hk
  exact ⟨Al, cl, (hb.cell (p := ⟨g, o + k, none⟩) hg).trans k1, k2.below hb⟩
theorem QRd.mono {w : World} {B B' : Nat} {v : Value} {ww : List (List (Int × Int))} (h : QRd w B v ww) (hB : B ≤ B') : QRd w B' v ww := by
  obtain ⟨A, cap, h1, h2, h3, h4⟩ := h
  refine ⟨A, cap, h1, h2, h3, fun hp => ?_⟩
  obtain ⟨g, o, hA, hg, hc⟩ := h4 hp
  refine ⟨g, o, hA, Nat.lt_of_lt_of_le hg hB, fun k l hk => ?_⟩
  obtain ⟨Al, cl, k1, k2⟩ := hc k l hk
  exact ⟨Al, cl, k1, k2.mono hB⟩
theorem QRd.at_ {w : World} {B n cap : Nat} {A : Option Addr} {ww : List (List (Int × Int))} (h : QRd w B (.slice A n cap) ww) {k : Nat} {l : List (Int × Int)} (hk : ww[k]? = some l) :
    ∃ g o Al cl, A = some ⟨g, o, none⟩ ∧ g < B ∧ w.cell? ⟨g, o + k, none⟩ = some (.slice Al l.length cl) ∧ SRd w B (.slice Al l.length cl) l := by
  obtain ⟨A', cap', e, h2, h3, h4⟩ := h
  injection e with e1 e2 e3
  obtain ⟨g, o, hA, hg, hc⟩ := h4 (by have := (List.getElem?_eq_some_iff.1 hk).1; omega)
  obtain ⟨Al, cl, k1, k2⟩ := hc k l hk
  exact ⟨g, o, Al, cl, e1.trans hA, hg, k1, k2⟩

/-! ### A map from numbers to steps -/
def stDat (k r : Int) : DataW Unit := .slice (lits .i64 [k, r]) []
def stR : Value → Option (DataW Unit × List MemPlace)
  | .agg a => match a.toList with
    | [.int .i64 x, .int .i64 y] => some (stDat x y, [])
    | _ => none
  | _ => none
theorem stR_mk (x y : Int) : stR (.agg #[.int .i64 x, .int .i64 y]) = some (stDat x y, []) := rfl
theorem stDat_inj {a b c d : Int} (h : stDat a b = stDat c d) : a = c ∧ b = d := by
  unfold stDat at h
  injection h with h
  have := lits_inj h
  injection this with h1 h2
  injection h2 with h2 _
  exact ⟨h1, h2⟩
theorem stR_inv {v : Value} {d : DataW Unit} {ps : List MemPlace} (h : stR v = some (d, ps)) : ∃ x y, v = .agg #[.int .i64 x, .int .i64 y] ∧ d = stDat x y := by
  unfold stR at h
  split at h
  · rename_i a
    split at h
    · rename_i x y e
      injection h with h
      injection h with h1 h2
      refine ⟨x, y, ?_, h1.symm⟩
      congr 1
      exact Array.ext' e
    · cases h
  · cases h
/-- Block b is a map of at most n numbers; what it holds for each is its step. -/
def JMap (w : World) (b n : Nat) (F : Int → Option Int) : Prop :=
  ∃ D : DataW Unit, w.ownsMap Tryd.prog 3 stR b n D ∧ ∀ k : Int, has D (.int .i64 k) = (F k).isSome ∧ ∀ r, F k = some r → ∀ zd, D.atKey (.int .i64 k) zd = stDat k r
theorem JMap.made (w : World) : JMap (w.alloc (.map #[] 0)) w.heap.size 0 (fun _ => none) := ⟨_, World.ownsMap_made w _ _ _, fun _ => ⟨rfl, fun r h => by cases h⟩⟩
theorem JMap.lt {w : World} {b n : Nat} {F : Int → Option Int} (h : JMap w b n F) : b < w.heap.size := by
  obtain ⟨D, h, _⟩ := h
  exact h.lt
theorem JMap.keep {w w' : World} {b n : Nat} {F : Int → Option Int} (h : JMap w b n F) (e : w'.heap[b]? = w.heap[b]?) : JMap w' b n F := by
  obtain ⟨D, ⟨es, clock, h1, h2, h3, h4⟩, h5⟩ := h
  exact ⟨D, ⟨es, clock, e.trans h1, h2, h3, h4⟩, h5⟩
theorem JMap.below {w w' : World} {b n : Nat} {F : Int → Option Int} (h : JMap w b n F) (hb : Below w.heap.size w w') : JMap w' b n F := h.keep (hb.block b h.lt)
theorem zero_step (w : World) : (zeroValue 42).run Tryd.prog w = .ok (.agg #[.int .i64 0, .int .i64 0]) w := by kernel_rfl
theorem key_int {k : Int} (h0 : -1000000 ≤ k) (h1 : k ≤ 1000000) : keyOf Tryd.prog 3 (.int .i64 k) = some (.int .i64 k) := by
  simp [keyOf, Tryd.underlying3, mapKey]
  exact WalkArith.wf_i64 (by omega)
theorem JMap.look {w : World} {ops : Array Oper} {rest : List Oper} {o : Oper} {a : Act} {Q : Exit → Act → World → Prop} (hg : o.guard = none) (m x : Operand) (hop : o.op = Op.lookup 98 m x true)
    {b n : Nat} {F : Int → Option Int} (h : JMap w b n F) (k : Int) (h0 : -1000000 ≤ k) (h1 : k ≤ 1000000) (hm : a.eval m = .map (some b)) (hx : a.eval x = .int .i64 k)
    (hK : ∀ z r : Int, ((F k).isSome = true → z = k ∧ F k = some r) → wpList Tryd.prog ops Q rest (a.put o.dst (.tuple #[.agg #[.int .i64 z, .int .i64 r], .bool (F k).isSome])) w) : wpList Tryd.prog ops Q (o :: rest) a w := by
  obtain ⟨D, h, h2⟩ := h
  refine wpList_lookup_own_ok w hg m x 98 hop 3 42 keyed_int Tryd.underlying98 stR (zero_step w) (stDat 0 0) [] rfl b n D hm h _ _ hx (key_int h0 h1) fun v ps hv => ?_
  obtain ⟨z, r, rfl, hd⟩ := stR_inv hv
  rw [(h2 k).1]
  refine hK z r fun hs => ?_
  cases hF : F k with
  | none => rw [hF] at hs; cases hs
  | some y =>
    rw [(h2 k).2 y hF] at hd
    obtain ⟨e1, e2⟩ := stDat_inj hd
    exact ⟨e1.symm, by rw [e2]⟩
theorem JMap.put {w : World} {ops : Array Oper} {rest : List Oper} {o : Oper} {a : Act} {Q : Exit → Act → World → Prop} (hg : o.guard = none) (m x v : Operand) (hop : o.op = Op.mapUpdate 98 m x v)
    {b n : Nat} {F : Int → Option Int} (h : JMap w b n F) (k r : Int) (h0 : -1000000 ≤ k) (h1 : k ≤ 1000000) (hn : n ≤ 1000000000000) (hm : a.eval m = .map (some b)) (hx : a.eval x = .int .i64 k) (hv : a.eval v = .agg #[.int .i64 k, .int .i64 r])
    (hK : ∀ w', JMap w' b (n + 1) (fun c => if c = k then some r else F c) → w.grownBy w' (some b) → wpList Tryd.prog ops Q rest (a.put o.dst undef) w') : wpList Tryd.prog ops Q (o :: rest) a w := by
  obtain ⟨D, h, h2⟩ := h
  refine wpList_mapUpdate_own w hg m x v 98 hop 3 42 keyed_int Tryd.underlying98 stR b n D hm h (by unfold maxLen; omega) _ _ _ hx hv (key_int h0 h1) _ [] (stR_mk k r) (fun w' h3 h4 => hK w' ⟨_, h3, fun c => ?_⟩ h4)
  by_cases e : c = k
  · subst e
    simp only [if_true]
    refine ⟨has_put_same h.isMap (by first | exact trivial | decide | simp [WideAt.IsKeyLit]) _, fun y hy zd => ?_⟩
    injection hy with hy
    subst hy
    exact atKey_put_same (k := .int .i64 c) h.isMap (by first | exact trivial | decide | simp [WideAt.IsKeyLit]) _ _
  · simp only [e, if_false]
    have hne : (Lit.int .i64 k) ≠ .int .i64 c := fun h5 => e (Eq.symm (by injection h5))
    refine ⟨(has_put_other hne.symm _).trans (h2 c).1, fun y hy zd => ?_⟩
    rw [atKey_put_other hne.symm]
    exact (h2 c).2 y hy zd
end Go.Proofs.YtecpjeililiafaaDoor

/-
  Contract of local.collect.
-/
namespace Go.Proofs.YtecpjeililiafaaDoor
open Go.RowKit Go.Maps
set_option maxRecDepth 20000

/-- All steps, with their lists' numbers. -/
def flatF : Nat → List (List (Int × Int)) → List (Nat × (Int × Int))
  | _, [] => []
  | t, l :: r => l.map (fun x => (t, x)) ++ flatF (t + 1) r
/-- The steps by their calls, or none where one can't stand there. -/
def colF (cs : List Cl) : List (Nat × (Int × Int)) → (Int → Option Int) → Option (Int → Option Int)
  | [], F => some F
  | (t, x) :: r, F => if ¬ (0 ≤ x.1 ∧ x.1 < cs.length) ∨ (cs.getD x.1.toNat default).thing ≠ (t : Int) then none else if (F x.1).isSome = true then none else colF cs r (fun c => if c = x.1 then some x.2 else F c)
def cntF (F : Int → Option Int) (n : Nat) : Nat := (List.range n).countP fun (k : Nat) => (F (k : Int)).isSome
theorem cntF_le (F : Int → Option Int) (n : Nat) : cntF F n ≤ n := by unfold cntF; exact Nat.le_trans List.countP_le_length (by simp)
theorem cntF_put {F : Int → Option Int} {n k : Nat} (hk : k < n) (hF : (F (k : Int)).isSome = false) (r : Int) : cntF (fun c => if c = (k : Int) then some r else F c) n = cntF F n + 1 := by
  unfold cntF
  refine countP_less hk (by simp) hF (fun j hj => ?_)
  dsimp only
  rw [if_neg (by omega)]
def ColPost (w : World) (cs : List Cl) (ww : List (List (Int × Int))) (e : Ending) (w' : World) : Prop :=
  Below w.heap.size w w' ∧ ((colF cs (flatF 0 ww) (fun _ => none) = none ∧ e = .returned (.tuple #[.map none, .bool false])) ∨ ∃ F b n, colF cs (flatF 0 ww) (fun _ => none) = some F ∧ e = .returned (.tuple #[.map (some b), .bool true]) ∧ JMap w' b n F ∧ n ≤ 12)
set_option maxHeartbeats 4000000 in
theorem lcollect_any {cv wv : Value} {cs : List Cl} {ww : List (List (Int × Int))} {w : World} (hc : CRd w w.heap.size cv cs) (hw : QRd w w.heap.size wv ww) (hn : cs.length ≤ 12) (hl : ww.length ≤ 4) :
    Calls Tryd.prog 73 #[cv, wv] w (ColPost w cs ww) := by
  obtain ⟨Ac, cc, rfl, -, -⟩ := hc.is
  obtain ⟨Aw, cw, rfl, -, -⟩ := hw.is
  obtain ⟨n, hnn⟩ : ∃ n, n = cs.length := ⟨_, rfl⟩
  obtain ⟨m, hm⟩ : ∃ m, m = ww.length := ⟨_, rfl⟩
  rw [← hnn] at hc hn ⊢
  rw [← hm] at hw hl ⊢
  have HCW := Lib.hid (And.intro hc hw)
  have HN := Lib.hid (And.intro hnn hm)
  have hb0 : Below w.heap.size w (w.alloc (.map #[] 0)) := (Below.refl _ _).alloc (Nat.le_refl _) _
  have HJ0 := Lib.hid (And.intro hb0 (JMap.made w))
  obtain ⟨R, hR⟩ : ∃ R, R = colF cs (flatF 0 ww) (fun _ => none) := ⟨_, rfl⟩
  have HR := Lib.hid hR
  have hmm := @run_makeMap Tryd.prog
  clear hc hw hnn hm hb0 hR
  go_enter Tryd.func73, Tryd.ntmps73
  go_wp2_with fail
  clear hmm
  have hj0 := HJ0.out
  clear HJ0
  change Code.wp _ _ _ _ (w.alloc (.map #[] 0))
  generalize w.alloc (.map #[] 0) = W at hj0 ⊢
  obtain ⟨b, hb⟩ : ∃ b, b = w.heap.size := ⟨_, rfl⟩
  rw [← hb] at hj0 ⊢
  have HBB := Lib.hid hb
  clear hb
  go_loopw [16] (fun t wr => ∃ (k : Nat) (F : Int → Option Int), k ≤ m ∧ t = .int .i64 k ∧ Below w.heap.size w wr ∧ JMap wr b (cntF F n) F ∧ colF cs (flatF k (ww.drop k)) F = R) (fun t _ => m - (intOf t).toNat)
  case atStart => exact ⟨0, fun _ => none, by omega, rfl, by rw [← HBB.out] at *; exact hj0.1, by rw [show cntF (fun _ => none) n = 0 from List.countP_eq_zero.2 (fun _ _ h => by cases h)]; exact hj0.2, by rw [List.drop_zero, HR.out]⟩
  case round =>
    clear hj0
    obtain ⟨k, F0, hk, rfl, hb, hj, hcol⟩ := hrel
    by_cases hkm : k < m
    · obtain ⟨l, hx⟩ : ∃ l, ww[k]? = some l := ⟨_, List.getElem?_eq_getElem (by rw [← HN.out.2]; exact hkm)⟩
      have hdrop : ww.drop k = l :: ww.drop (k + 1) := by
        obtain ⟨h2, h3⟩ := List.getElem?_eq_some_iff.1 hx
        rw [List.drop_eq_getElem_cons h2, h3]
      rw [hdrop, flatF] at hcol
      obtain ⟨g, o, Al, cl, rfl, hg, d0, hrow⟩ := (HCW.out.2.below hb).at_ hx
      have i1 : (0 : Int) ≤ (k : Int) := by omega
      have i2 : (k : Int) < (m : Int) := by omega
      obtain ⟨L, hL⟩ : ∃ L, L = l.length := ⟨_, rfl⟩
      have hL8 : L ≤ 9223372036854775807 := by
        obtain ⟨_, _, _, h1, h2⟩ := hrow.is
        unfold maxLen at h2
        omega
      rw [← hL] at d0 hrow
      have hrow0 : SRd w w.heap.size (.slice Al L cl) l := by
        obtain ⟨g', o', Al', cl', e1, _, d0', h'⟩ := HCW.out.2.at_ hx
        injection e1 with e1
        injection e1 with e1 e2
        subst e1 e2
        have d1 := hb.cell (p := ⟨g, o + k, none⟩) hg
        rw [d0, d0'] at d1
        injection d1 with d1
        injection d1 with d1 d2 d3
        subst d1 d3
        rw [← hL] at h'
        exact h'
      have HRW := Lib.hid (And.intro hrow0 hL)
      have HB := Lib.hid (And.intro hb (And.intro hj hcol))
      clear hx hdrop hcol hrow hrow0 hL hb hj
      go_wp2_with fail
      go_loopw [23] (fun t wr => ∃ (i : Nat) (F : Int → Option Int), i ≤ L ∧ t = .int .i64 i ∧ Below w.heap.size w wr ∧ JMap wr b (cntF F n) F ∧ colF cs ((l.drop i).map (fun x => (k, x)) ++ flatF (k + 1) (ww.drop (k + 1))) F = R) (fun t _ => L - (intOf t).toNat)
      case atStart => exact ⟨0, F0, by omega, rfl, HB.out.1, HB.out.2.1, HB.out.2.2⟩
      case round =>
        obtain ⟨i, F, hi, rfl, hb, hj, hcol⟩ := hrel
        by_cases hiL : i < L
        · obtain ⟨x, hx⟩ : ∃ x, l[i]? = some x := ⟨_, List.getElem?_eq_getElem (by rw [← HRW.out.2]; exact hiL)⟩
          have hdrop : l.drop i = x :: l.drop (i + 1) := by
            obtain ⟨h2, h3⟩ := List.getElem?_eq_some_iff.1 hx
            rw [List.drop_eq_getElem_cons h2, h3]
          rw [hdrop, List.map_cons, List.cons_append, colF] at hcol
          obtain ⟨g2, o2, rfl, -, x0, x1⟩ := (HRW.out.1.below hb).sp hx
          obtain ⟨q1, q2⟩ := x
          simp only at x0 x1 hcol
          have j1 : (0 : Int) ≤ (i : Int) := by omega
          have j2 : (i : Int) < (L : Int) := by omega
          have hal : Below wr.heap.size wr (wr.alloc (.cells #[.int .i64 q1, .int .i64 q2] 42)) := (Below.refl _ _).alloc (Nat.le_refl _) _
          have hnew : Lies (wr.alloc (.cells #[.int .i64 q1, .int .i64 q2] 42)) wr.heap.size 42 #[.int .i64 q1, .int .i64 q2] := Lies.new _ _ _
          have HO := Lib.hid (And.intro (hb.trans (hal.mono hb.size)) (And.intro (hj.below hal) hcol))
          clear hb hj hcol hx hdrop hal d0
          go_upto_region 8 with fail
          change Code.wp _ _ _ _ (wr.alloc (.cells #[.int .i64 q1, .int .i64 q2] 42))
          generalize wr.alloc (.cells #[.int .i64 q1, .int .i64 q2] 42) = W2 at hnew HO ⊢
          generalize wr.heap.size = X at hnew ⊢
          have c0 : W2.cell? ⟨X, 0, none⟩ = some (.int .i64 q1) := Lies.cell hnew 0
          have c1 : W2.cell? ⟨X, 1, none⟩ = some (.int .i64 q2) := Lies.cell hnew 1
          clear x0 x1
          by_cases h1 : q1 < 0
          · have hcr := HO.out.2.2
            rw [if_pos (.inl (by omega))] at hcr
            have HCR := Lib.hid hcr
            clear hcr
            go_wp2_with fail
            go_ret2
            exact ⟨HO.out.1, .inl ⟨by rw [← HR.out, ← HCR.out], rfl⟩⟩
          · by_cases h2 : (n : Int) ≤ q1
            · have hcr := HO.out.2.2
              rw [if_pos (.inl (by have := HN.out.1; omega))] at hcr
              have HCR := Lib.hid hcr
              clear hcr
              go_wp2_with fail
              go_ret2
              exact ⟨HO.out.1, .inl ⟨by rw [← HR.out, ← HCR.out], rfl⟩⟩
            · obtain ⟨q, rfl⟩ : ∃ q : Nat, q1 = (q : Int) := ⟨q1.toNat, by omega⟩
              have hqn : q < n := by omega
              obtain ⟨y, hy⟩ : ∃ y, cs[q]? = some y := ⟨_, List.getElem?_eq_getElem (by have := HN.out.1; omega)⟩
              obtain ⟨g3, o3, rfl, -, y0, y1, -⟩ := (HCW.out.1.below HO.out.1).cl hy
              have hyd : cs.getD q default = y := by rw [List.getD_eq_getElem?_getD, hy]; rfl
              have hcr := HO.out.2.2
              rw [Int.toNat_natCast, hyd] at hcr
              generalize y.thing = yt at y1 hcr
              by_cases h3 : yt = (k : Int)
              · have hz : (yt != (k : Int)) = false := by rw [bne_eq_false_iff_eq]; exact h3
                rw [if_neg (fun h => by rcases h with h | h; exact h ⟨by omega, by have := HN.out.1; omega⟩; exact h h3)] at hcr
                have HCR := Lib.hid hcr
                clear hcr hy hyd y0
                have hq0 : (0 : Int) ≤ (q : Int) := by omega
                have hq1 : (q : Int) < (n : Int) := by omega
                clear h1 h2 h3
                cases hF : (F (q : Int)).isSome
                · have hcr := HCR.out
                  rw [hF, if_neg (by decide)] at hcr
                  have HC2 := Lib.hid (And.intro hcr hF)
                  clear hcr
                  go_upto_region 11 with (at_lookup; refine JMap.look rfl _ _ rfl HO.out.2.1 (q : Int) (by omega) (by omega) rfl rfl ?_; intro z r _; rw [HC2.out.2])
                  have hal3 : Below W2.heap.size W2 (W2.alloc (.cells #[.int .i64 z, .int .i64 r] 42)) := (Below.refl _ _).alloc (Nat.le_refl _) _
                  have HO3 := Lib.hid (And.intro (HO.out.1.trans (hal3.mono HO.out.1.size)) (HO.out.2.1.below hal3))
                  have e0 : (W2.alloc (.cells #[.int .i64 z, .int .i64 r] 42)).cell? ⟨X, 0, none⟩ = some (.int .i64 q) := Lies.cell (Lies.alloc hnew _) 0
                  have e1 : (W2.alloc (.cells #[.int .i64 z, .int .i64 r] 42)).cell? ⟨X, 1, none⟩ = some (.int .i64 q2) := Lies.cell (Lies.alloc hnew _) 1
                  clear hal3 c0 c1 hnew y1
                  change Code.wp _ _ _ _ (W2.alloc (.cells #[.int .i64 z, .int .i64 r] 42))
                  generalize W2.alloc (.cells #[.int .i64 z, .int .i64 r] 42) = W3 at HO3 e0 e1 ⊢
                  go_wp2_with (at_mapUpdate; refine JMap.put rfl _ _ _ rfl HO3.out.2 (q : Int) q2 (by omega) (by omega) (by have := cntF_le F n; omega) rfl rfl rfl ?_; intro w4 hj4 hg4)
                  have hb4 : Below w.heap.size w w4 := HO3.out.1.trans ⟨hg4.os, hg4.tape, hg4.output, hg4.size, fun k hk => hg4.block k (Nat.lt_of_lt_of_le hk HO3.out.1.size) (fun e => by injection e with e; have := HBB.out; omega)⟩
                  rw [← cntF_put hqn HC2.out.2 q2] at hj4
                  have HZ := Lib.hid (And.intro hb4 hj4)
                  clear hb4 hj4 hg4
                  go_wp2_with fail
                  go_roundw
                  case rel => exact ⟨i + 1, _, by omega, by go_num, HZ.out.1, HZ.out.2, HC2.out.1⟩
                  case measure => simp [intOf]; omega
                · have hcr := HCR.out
                  rw [hF, if_pos rfl] at hcr
                  have HC2 := Lib.hid (And.intro hcr hF)
                  clear hcr
                  go_wp2_with (at_lookup; refine JMap.look rfl _ _ rfl HO.out.2.1 (q : Int) (by omega) (by omega) rfl rfl ?_; intro z r _; rw [HC2.out.2])
                  go_ret2
                  exact ⟨HO.out.1.alloc HO.out.1.size _, .inl ⟨by rw [← HR.out, ← HC2.out.1], rfl⟩⟩
              · have hz : (yt != (k : Int)) = true := by rw [bne_iff_ne]; exact h3
                rw [if_pos (.inr h3)] at hcr
                have HCR := Lib.hid hcr
                clear hcr hy hyd y0 h3
                have hq0 : (0 : Int) ≤ (q : Int) := by omega
                have hq1 : (q : Int) < (n : Int) := by omega
                go_wp2_with fail
                go_ret2
                exact ⟨HO.out.1, .inl ⟨by rw [← HR.out, ← HCR.out], rfl⟩⟩
        · obtain rfl : L = i := by omega
          rw [List.drop_eq_nil_of_le (by rw [← HRW.out.2]; exact Nat.le_refl _), List.map_nil, List.nil_append] at hcol
          have HO := Lib.hid (And.intro hb (And.intro hj hcol))
          clear hb hj hcol
          go_wp2_with fail
          go_roundw
          case rel => exact ⟨k + 1, F, by omega, by go_num, HO.out⟩
          case measure => simp [intOf]; omega
    · obtain rfl : m = k := by omega
      rw [List.drop_eq_nil_of_le (by rw [← HN.out.2]; exact Nat.le_refl _), flatF, colF] at hcol
      have HO := Lib.hid (And.intro hb (And.intro hj hcol))
      clear hb hj hcol
      go_wp2_with fail
      go_ret2
      exact ⟨HO.out.1, .inr ⟨F0, b, _, by rw [← HR.out, ← HO.out.2.2], rfl, HO.out.2.1, Nat.le_trans (cntF_le _ _) hn⟩⟩
end Go.Proofs.YtecpjeililiafaaDoor
