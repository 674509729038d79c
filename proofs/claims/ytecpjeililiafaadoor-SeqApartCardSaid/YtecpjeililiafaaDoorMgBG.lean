/-
  Joined by a program out of: ObjPlayPure, Played, AppDdRun, RoBase.
-/
import Derived.Test.YtecpjeililiafaaDoorMgAM
import Derived.Test.YtecpjeililiafaaDoorMgBF
import Derived.Test.YtecpjeililiafaaDoorMgAC
import Derived.Deep.DeepAppendWide
import Derived.Lib.AppendZeros
import Derived.Lib.SliceRun
import Derived.Test.YtecpjeililiafaaDoorMgBC
import Derived.Test.YtecpjeililiafaaDoorMgAH
import Derived.Test.YtecpjeililiafaaDoorMgBB

/-
  Slices of what is done; plays, plainly.
-/
namespace Go.Proofs.YtecpjeililiafaaDoor
open Go.RowKit
set_option maxRecDepth 20000

abbrev ddCs (d : Dd) : List Value := [.int .i64 d.kind, .int .i64 d.arg, .int .i64 d.res]
/-- A slice that reads as a list of what is done. -/
abbrev DRd (w : World) (B : Nat) (v : Value) (l : List Dd) : Prop := LRd 3 ddCs w B v l
theorem LRd.dd {w : World} {B : Nat} {A : Option Addr} {n cap k : Nat} {l : List Dd} (h : DRd w B (.slice A n cap) l) {x : Dd} (hk : l[k]? = some x) : ∃ g o, A = some ⟨g, o, none⟩ ∧ g < B ∧ w.cell? ⟨g, o + k * 3, none⟩ = some (.int .i64 x.kind) ∧ w.cell? ⟨g, o + k * 3 + 1, none⟩ = some (.int .i64 x.arg) ∧ w.cell? ⟨g, o + k * 3 + 2, none⟩ = some (.int .i64 x.res) := by
  obtain ⟨g, o, hA, hg, hc⟩ := LRd.at_ h hk
  exact ⟨g, o, hA, hg, hc 0 _ rfl, hc 1 _ rfl, hc 2 _ rfl⟩

/-- What Play answers. -/
def playR (typ : Int) (l : List Dd) : Nat := if btw 1 typ 5 = true then playN typ l else 0
theorem play_drop {typ : Int} {s : List Int} {l : List Dd} {k : Nat} (hk : k < l.length) : playFrom typ s (l.drop k) = if (stepO typ s l[k].kind l[k].arg).2.2 ≠ 0 ∨ (stepO typ s l[k].kind l[k].arg).2.1 ≠ l[k].res then 0 else playFrom typ (stepO typ s l[k].kind l[k].arg).1 (l.drop (k + 1)) + 1 := by
  rw [List.drop_eq_getElem_cons hk, playFrom]

end Go.Proofs.YtecpjeililiafaaDoor

/-
  Contract of the reference's Played.
-/
namespace Go.Proofs.YtecpjeililiafaaDoor
open Go.RowKit
set_option maxRecDepth 20000

theorem begin_ok {typ : Int} (h : btw 1 typ 5 = true) : stateE typ (beginL typ) = 0 := by
  rcases typ_ways typ with rfl | rfl | rfl | rfl | rfl | ⟨_, _, _, _, _, h'⟩
  · decide
  · decide
  · decide
  · decide
  · decide
  · rw [h'] at h; cases h

set_option maxHeartbeats 4000000 in
theorem played_any {lv : Value} {l : List Dd} {w : World} {typ : Int} (hb : btw 1 typ 5 = true) (hl : DRd w w.heap.size lv l) :
    Calls Tryd.prog 65 #[.int .i64 typ, lv] w fun e w' => e = .returned (.int .i64 (playN typ l : Nat)) ∧ Below w.heap.size w w' := by
  obtain ⟨Al, capl, rfl, m3, m4⟩ := hl.is
  unfold maxLen at m4
  have HL := Lib.hid hl
  have HB := Lib.hid (begin_ok hb)
  have e2 : playN typ l = playFrom typ (beginL typ) l := rfl
  generalize hp : playN typ l = P at e2 ⊢
  have HP := Lib.hid e2
  clear hl hb e2 hp
  go_enter Tryd.func65, Tryd.ntmps65
  go_wp2_with fail
  refine (begin_any _ _).mono ?_
  rintro e w1 ⟨v1, rfl, hr1, hb1⟩
  obtain ⟨L, hL⟩ : ∃ L, L = l.length := ⟨_, rfl⟩
  have HLL := Lib.hid hL
  have H1 := Lib.hid (And.intro hr1 hb1)
  rw [← hL] at m3
  clear hr1 hb1
  go_wp2_with fail
  rw [← hL]
  clear hL
  have H10 := H1.out
  clear H1
  go_loopw [5, 15] (fun sv i wr => ∃ (k : Nat) (s : List Int), k ≤ L ∧ i = .int .i64 k ∧ P = k + playFrom typ s (l.drop k) ∧ stateE typ s = 0 ∧ NRd wr wr.heap.size sv s ∧ Below w.heap.size w wr) (fun _ i _ => L - (intOf i).toNat)
  case atStart => exact ⟨0, beginL typ, by omega, rfl, by rw [HP.out]; simp, HB.out, H10.1, H10.2⟩
  case round =>
    clear H10
    obtain ⟨k, s, hk, rfl, hplay, hst, hN, hB⟩ := hrel
    obtain ⟨As, cs, rfl, m1, m2⟩ := hN.is
    have HA := Lib.hid (And.intro hplay (And.intro hN (And.intro hB hst)))
    clear m1 m2 hplay hN hst
    by_cases hkL : k < L
    · have hkl : k < l.length := by rw [← HLL.out]; exact hkL
      obtain ⟨x, hx⟩ : ∃ x, l[k]? = some x := ⟨_, List.getElem?_eq_getElem hkl⟩
      have hxe : l[k] = x := (List.getElem?_eq_some_iff.1 hx).2
      have hL' := HL.out.below hB
      rw [← HLL.out] at hL'
      obtain ⟨gl, o', rfl, hgl, d0, d1, d2⟩ := hL'.dd hx
      have hst := play_drop (typ := typ) (s := s) hkl
      rw [hxe] at hst
      have i1 : (0 : Int) ≤ (k : Int) := by omega
      have i2 : (k : Int) < (L : Int) := by omega
      obtain ⟨xk, xa, xr⟩ := x
      simp only at hst d0 d1 d2
      have est : stepO typ s xk xa = if (fitsB typ xk && takesB xk xa) = false then ([], 0, 3) else stepped s xk xa := by
        unfold stepO
        rw [if_neg (by rw [HA.out.2.2.2]; decide)]
      have hok := fun h => (stepO_ok (typ := typ) (s := s) (kind := xk) (arg := xa) h).1
      have hask := fun (W : World) => asked_any typ xk xa W
      have HBX := Lib.hid (hB.alloc hB.size (.cells (ddCs ⟨xk, xa, xr⟩).toArray 90))
      have hNX : NRd (wr.alloc (.cells (ddCs ⟨xk, xa, xr⟩).toArray 90)) (wr.alloc (.cells (ddCs ⟨xk, xa, xr⟩).toArray 90)).heap.size (.slice As s.length cs) s := NRd.alloc HA.out.2.1 _
      have HNX := Lib.hid hNX
      have HL2 := Lib.hid (Lies.new wr 90 (ddCs ⟨xk, xa, xr⟩).toArray)
      cases hi : fitsB typ xk && takesB xk xa
      · rw [hi, if_pos rfl] at est
        rw [est] at hst
        rw [hi] at hask
        rw [if_pos (Or.inl (by decide))] at hst
        have HX := Lib.hid hst
        have HK := Lib.hid hask
        clear hx hxe hL' hst hB hok hask est hi hNX
        go_wp2_with fail
        refine (HK.out _).mono ?_
        rintro e w2 ⟨rfl, hb2⟩
        have H2 := Lib.hid (HBX.out.trans (hb2.mono HBX.out.size))
        clear hb2
        go_wp2_with fail
        go_ret
        have e : P = k := by rw [HA.out.1, HX.out]; rfl
        exact ⟨by rw [e]; rfl, H2.out⟩
      · rw [hi, if_neg (by decide)] at est
        rw [est] at hst hok
        have hF := fun (W : World) (h : Below (wr.alloc (.cells (ddCs ⟨xk, xa, xr⟩).toArray 90)).heap.size (wr.alloc (.cells (ddCs ⟨xk, xa, xr⟩).toArray 90)) W) => refStep_any (nrdOn hNX h) HA.out.2.2.2 hi
        rw [hi] at hask
        unfold RefPost at hF
        generalize stepped s xk xa = o at hst hok hF
        obtain ⟨s', r, er⟩ := o
        simp only at hst hok hF
        have HX := Lib.hid (And.intro hst hok)
        have HK := Lib.hid hask
        have HF := Lib.hid hF
        clear hx hxe hL' hst hB hok hask est hi hNX hF
        go_wp2_with fail
        refine (HK.out _).mono ?_
        rintro e w2 ⟨rfl, hb2⟩
        have hl2 := HL2.out.below hb2 (by simp)
        have b0 : w2.cell? ⟨wr.heap.size, 0, none⟩ = some (.int .i64 xk) := by rw [hl2.cell]; rfl
        have b1 : w2.cell? ⟨wr.heap.size, 1, none⟩ = some (.int .i64 xa) := by rw [hl2.cell]; rfl
        have H2 := Lib.hid (And.intro hl2 hb2)
        clear hb2 hl2
        go_wp2_with fail
        refine (HF.out _ H2.out.2).mono ?_
        rintro e w3 ⟨v3, rfl, hr3, hb3⟩
        obtain ⟨A3, c3, rfl, m1, m2⟩ := hr3.is
        have hl3 := H2.out.1.below hb3 H2.out.1.lt
        have c2' : w3.cell? ⟨wr.heap.size, 2, none⟩ = some (.int .i64 xr) := by rw [hl3.cell]; rfl
        have H3 := Lib.hid (And.intro hr3 (blwOn (blwOn HA.out.2.2.1 (((Below.refl wr.heap.size wr).alloc (Nat.le_refl _) _).trans (H2.out.2.mono (by simp)))) hb3))
        clear m1 m2 hr3 hb3 hl3 b0 b1
        by_cases hz : er = 0
        · subst hz
          by_cases hr : r = xr
          · subst hr
            go_wp2_with fail
            go_roundw
            case rel => exact ⟨k + 1, s', by omega, by go_num, by
              rw [HA.out.1, HX.out.1, if_neg (by simp)]
              omega, HX.out.2 (by first | rfl | trivial), H3.out⟩
            case measure => simp [intOf]; omega
          · have hz : (r != xr) = true := by rw [bne_iff_ne]; exact hr
            have HR := Lib.hid hr
            clear hr
            go_wp2_with fail
            go_ret
            have e : P = k := by rw [HA.out.1, HX.out.1, if_pos (Or.inr HR.out)]; rfl
            exact ⟨by rw [e]; rfl, H3.out.2⟩
        · have hz' : (er != 0) = true := by rw [bne_iff_ne]; exact hz
          have HR := Lib.hid hz
          clear hz
          go_wp2_with fail
          go_ret
          have e : P = k := by rw [HA.out.1, HX.out.1, if_pos (Or.inl HR.out)]; rfl
          exact ⟨by rw [e]; rfl, H3.out.2⟩
    · obtain rfl : k = L := by omega
      have e : P = k := by
        rw [HA.out.1, HLL.out, List.drop_length]
        rfl
      have HE := Lib.hid e
      clear e hB
      go_wp2_with fail
      go_ret
      exact ⟨by rw [HE.out]; rfl, HA.out.2.2.1⟩

end Go.Proofs.YtecpjeililiafaaDoor

/-
  append of what is done: any slice of such behind a row of one's own.
-/
namespace Go.Proofs.YtecpjeililiafaaDoor
open Go.RowKit
set_option maxRecDepth 20000

/-- A slice of the call's own (in blocks from B on) that holds these. -/
def DOwn (w : World) (B : Nat) (v : Value) (l : List Dd) : Prop := w.ownsRow B 90 3 v l.length (l.flatMap ddCs)
theorem DOwn.rd {w : World} {B : Nat} {v : Value} {l : List Dd} (h : DOwn w B v l) : DRd w w.heap.size v l := LRd.of_own (fun _ => rfl) h
theorem DOwn.nil (w : World) (B : Nat) : DOwn w B (.slice none 0 0) [] := World.ownsRow_nil _ _ _ _
theorem DOwn.below {w w' : World} {B : Nat} {v : Value} {l : List Dd} (h : DOwn w B v l) (hb : Below w.heap.size w w') : DOwn w' B v l := by
  refine ⟨h.1, h.2.elim (fun h => .inl h) fun ⟨g, cap, cur, h1, h2, h3, h4, h5, h6, h7⟩ => .inr ⟨g, cap, cur, h1, h2, ?_, h4, h5, h6, h7⟩⟩
  rw [hb.block g (Array.getElem?_eq_some_iff.1 h3).1]
  exact h3
theorem DOwn.alloc {w : World} {B : Nat} {v : Value} {l : List Dd} (h : DOwn w B v l) (o : Obj) : DOwn (w.alloc o) B v l := h.below ((Below.refl _ _).alloc (Nat.le_refl _) o)
theorem info_dd : (Tryd.prog.info? 90).map (fun i => (i.zero, i.size, i.bytes)) = some (some (.agg #[.int .i64 0, .int .i64 0, .int .i64 0]), 3, 24) := by kernel_rfl

theorem run_app_dds {W : World} {base n cap : Nat} {v : Value} {A : Option Addr} {l ys : List Dd} {B : Nat} (ty : TypeId) (hown : DOwn W base v l) (hr : DRd W B (.slice A n cap) ys) (hlen : ((l.length + ys.length) + (l.length + ys.length) / 4 + 192) * 24 ≤ 281474976710656) (hbase : base ≤ W.heap.size) (hA : A ≠ none) :
    ∃ v' w', (Builtin.append_ #[88, 88] ty #[v, .slice A n cap]).run Tryd.prog W = .ok v' w' ∧ DOwn w' base v' (l ++ ys) ∧ Below base W w' := by
  obtain ⟨i0, hi, hz0, hz1, hz2⟩ := info_of info_dd
  have hl := World.ownsRow.lt hown
  obtain ⟨A', cap', he, m1, m2, hc⟩ := hr
  injection he with e1 e2 e3
  subst e1 e2 e3
  cases A with
  | none => exact absurd rfl hA
  | some a =>
    have hlf : (ys.flatMap ddCs).length = ys.length * 3 := flat_len (f := ddCs) (s := 3) (fun _ => rfl) ys
    obtain ⟨v', w', hr, h2, h3, _⟩ := run_append_own_wide (P := Tryd.prog) W base 88 ty 90 i0 (.agg #[.int .i64 0, .int .i64 0, .int .i64 0]) 3 24 Tryd.underlying88 hi hz0 hz1 hz2 rfl (by decide) v l.length (l.flatMap ddCs) hown
      a ys.length cap (ys.flatMap ddCs) hlf (fun j u hu => by
        have hj := (List.getElem?_eq_some_iff.1 hu).1
        rw [hlf] at hj
        obtain ⟨g, o, ha, _, hcell⟩ := hc (by omega)
        injection ha with ha
        subst ha
        have hx := List.getElem?_eq_getElem (show j / 3 < ys.length by omega)
        have hm : j % 3 < (ddCs ys[j / 3]).length := by show j % 3 < 3; omega
        have hf := flat_at (l := ys) (f := ddCs) (s := 3) (fun _ => rfl) hx (List.getElem?_eq_getElem hm)
        have e : j / 3 * 3 + j % 3 = j := by omega
        rw [e, hu] at hf
        have := hcell (j / 3) _ hx (j % 3) _ ((List.getElem?_eq_getElem hm).trans hf.symm)
        rw [Addr.add_lit]
        rw [Nat.add_assoc, e] at this
        exact this) (fun u hu => by
        rw [List.mem_flatMap] at hu
        obtain ⟨x, _, hx⟩ := hu
        simp only [List.mem_cons, List.not_mem_nil, or_false] at hx
        rcases hx with rfl | rfl | rfl <;> rfl) (by unfold maxLen; omega) hlen hbase
    refine ⟨v', w', hr, ?_, (Below.refl base W).grown h3 hbase (fun k hk => (hl k hk).1)⟩
    unfold DOwn
    rw [List.length_append, List.flatMap_append]
    exact h2

theorem step_run_app {W : World} {ops : Array Oper} {o : Oper} {a : Act} {K : Act → World → Prop} {Q : Exit → Act → World → Prop} {E : Prop} (hgd : o.guard = none) (s x : Operand) (t tn : TypeId)
    (ho : o.op = .call { callee := .builtin .append, args := #[s, x], argTypes := #[t, tn] }) (vs vx : Value) (hs : a.eval s = vs) (hx : a.eval x = vx)
    (v' : Value) (w' : World) (hr : (Builtin.append_ #[t, tn] o.type #[vs, vx]).run Tryd.prog W = .ok v' w') (h : K (a.put o.dst v') w') :
    if Region.wanted o (yielded ops a.tmps) = true then Oper.wp Tryd.prog o a W K Q else E := by
  have hw : Region.wanted o (yielded ops a.tmps) = true := by simp [Region.wanted, hgd]
  rw [if_pos hw]
  exact Lib.wp_append_run W s x t tn ho vs vx hs hx v' w' hr h

end Go.Proofs.YtecpjeililiafaaDoor

/-
  What the reference's RightOrder leaves as it was.
-/
namespace Go.Proofs.YtecpjeililiafaaDoor
open Go.RowKit
set_option maxRecDepth 20000

structure RoR (w : World) (G : Nat) (n : Nat) (r : Nat → Nat) (f : Nat → Int) (X : World) : Prop where
  below : Below w.heap.size w X
  rel : RelB X w.heap.size n r
  tab : ITab X G n f
  gG : w.heap.size < G
theorem RoR.next {w : World} {G n : Nat} {r : Nat → Nat} {f : Nat → Int} {X X' : World} (h : RoR w G n r f X) (hb : Below X.heap.size X X') : RoR w G n r f X' :=
  ⟨h.below.trans (hb.mono h.below.size), Lies.below h.rel hb (Lies.lt h.rel), Lies.below h.tab hb (Lies.lt h.tab), h.gG⟩
theorem RoR.set {w : World} {G n : Nat} {r : Nat → Nat} {f : Nat → Int} {X : World} (h : RoR w G n r f X) (k : Nat) (v : Int) : RoR w G n r (fun j => if j = k then v else f j) (X.setCell ⟨G, k, none⟩ (.int .i64 v)) :=
  ⟨h.below.setCell (Nat.le_of_lt h.gG) _, Lies.far h.rel (by have := h.gG; show w.heap.size ≠ G; omega) _, h.tab.set_ k v, h.gG⟩
theorem RoR.drew {w : World} {G n : Nat} {r : Nat → Nat} {f : Nat → Int} {X : World} (h : RoR w G n r f X) : RoR w G n r f X.drew := h.next (Below.refl _ _).drew
theorem RoR.alloc {w : World} {G n : Nat} {r : Nat → Nat} {f : Nat → Int} {X : World} (h : RoR w G n r f X) (o : Obj) : RoR w G n r f (X.alloc o) := h.next ((Below.refl _ _).alloc (Nat.le_refl _) o)
/-- A step in its box, a place of the table, a call. -/
def RoS (K G k gc oc : Nat) (x0 x1 v y4 y6 : Int) (W : World) : Prop := W.cell? ⟨K, 0, none⟩ = some (.int .i64 x0) ∧ W.cell? ⟨K, 1, none⟩ = some (.int .i64 x1) ∧ W.cell? ⟨G, k, none⟩ = some (.int .i64 v) ∧ W.cell? ⟨gc, oc + k * 7 + 4, none⟩ = some (.int .i64 y4) ∧ W.cell? ⟨gc, oc + k * 7 + 6, none⟩ = some (.int .i64 y6)
def RoB (K : Nat) (x0 : Int) (W : World) : Prop := W.cell? ⟨K, 0, none⟩ = some (.int .i64 x0)
/-- The relation in its box, two places of the table. -/
def RoT (Q G n : Nat) (r : Nat → Nat) (i j : Nat) (a b : Int) (W : World) : Prop := RelB W Q n r ∧ W.cell? ⟨G, i, none⟩ = some (.int .i64 a) ∧ W.cell? ⟨G, j, none⟩ = some (.int .i64 b)
/-- What is asked of call i among the others, up to j. -/
def PhJ (n : Nat) (r : Nat → Nat) (f : Nat → Int) (i j : Nat) : Prop := ∀ k, k < j → k < n → (r i).testBit k = true → 0 ≤ f k → 0 ≤ f i ∧ f i ≤ f k
theorem PhJ.succ {n : Nat} {r : Nat → Nat} {f : Nat → Int} {i j : Nat} (h : PhJ n r f i j) (h1 : (r i).testBit j = true → 0 ≤ f j → 0 ≤ f i ∧ f i ≤ f j) : PhJ n r f i (j + 1) := fun k hk hn hb hf => by
  by_cases e : k = j
  · subst e; exact h1 hb hf
  · exact h k (by omega) hn hb hf
theorem DOwn.base {w : World} {B B' : Nat} {v : Value} {l : List Dd} (h : DOwn w B v l) (hB : B' ≤ B) : DOwn w B' v l :=
  ⟨h.1, h.2.imp (fun h => h) fun ⟨g, cap, cur, h1, h2, h3⟩ => ⟨g, cap, cur, h1, Nat.le_trans hB h2, h3⟩⟩
theorem ownD_len (cs : List Cl) (t : Nat) (ws : List (Int × Int)) : (ownD cs t ws).length ≤ ws.length := by
  unfold ownD
  rw [List.length_map]
  exact List.length_filter_le _ _
theorem rite_len {cs : List Cl} {ws : List (Int × Int)} (h : PreOk cs ws ws.length) : ws.length ≤ cs.length := by
  have hon : (ws.map (·.1)).Nodup := by
    refine List.pairwise_iff_getElem.2 fun i j hi hj hij => ?_
    rw [List.length_map] at hi hj
    rw [List.getElem_map, List.getElem_map]
    exact h.once i j _ _ hij hj (List.getElem?_eq_getElem hi) (List.getElem?_eq_getElem hj)
  have := nodup_lt cs.length hon (fun k hk => by
    obtain ⟨x, hx, rfl⟩ := List.mem_map.1 hk
    obtain ⟨i, hi, rfl⟩ := List.getElem_of_mem hx
    exact h.rng i _ hi (List.getElem?_eq_getElem hi))
  rwa [List.length_map] at this
end Go.Proofs.YtecpjeililiafaaDoor
