/-
  Joined by a program out of: RelArg, Arg, End, ListCard.
-/
import Derived.Test.YtkfijolimoehmaaDoorMgAA
import Derived.Test.YtkfijolimoehmaaDoorRows
import Derived.ProofKit
import Derived.OpenShut
import Derived.LaidMore
import Derived.Lay
import Derived.Test.YtkfijolimoehmaaDoorMgAH
import Derived.Below
import Derived.Test.YtkfijolimoehmaaDoorMgAU
import Derived.Test.YtkfijolimoehmaaDoorTie
import Derived.Test.YtkfijolimoehmaaDoorCards
import Derived.SevenTiedAt
import Derived.Stop.Joined

/-
  The arguments of a row over package order, opened and shut: a relation by value.
-/
namespace Go.Proofs.YtkfijolimoehmaaDoor
open Go.ChangeShapes Go.WideShapes Go.ChangeAt Go.RowKit
set_option maxRecDepth 20000

section
variable {H : Type} {enc : TypeId × Value → H} {w : World} {base : Nat} {spare : Nat → Bool} {held : Bool}

/-- A relation's reading. -/
def relD (n : Int) (a : Nat → Nat) : DataW H := .agg [.lit (.int .i64 n), .agg ((List.range 12).map fun i => .lit (.int .u16 (a i)))]

theorem cells_rel : Tryd.prog.cellsOf 25 = 13 := by kernel_rfl
theorem cells_arr : Tryd.prog.cellsOf 23 = 12 := by kernel_rfl
theorem cells_u16 : Tryd.prog.cellsOf 22 = 1 := by kernel_rfl
theorem cells_int : Tryd.prog.cellsOf 3 = 1 := by kernel_rfl
theorem shape_rel : ∃ f0 f1, Tryd.prog.underlying 25 = some (.struct #[f0, f1]) ∧ f0.type = 3 ∧ f0.offset = 0 ∧ f1.type = 23 ∧ f1.offset = 1 := ⟨_, _, Tryd.underlying25, rfl, rfl, rfl, rfl⟩

theorem open_rel {r : Reach} {b0 : Nat} {v : Value} {d : DataW H} {p : List MemPlace} (hv : Value.okWide Tryd.prog w r b0 25 v) (h : DataW.Trod enc Tryd.prog w base spare held 25 v d p) :
    ∃ (n : Int) (a : Nat → Nat), v = relV n a ∧ d = relD n a ∧ p = [] ∧ (Lit.int .i64 n).wf = true ∧ ∀ i, a i < 65536 := by
  obtain ⟨f0, f1, hs, t0, o0, t1, o1⟩ := shape_rel
  obtain ⟨cs, rfl, hsz⟩ := okWide_struct hs hv
  obtain ⟨l⟩ := cs
  obtain ⟨fuel, hf⟩ := h
  obtain ⟨xs, m, _, hx, hl, hlen, hg⟩ := DataW.trod_struct hs hf
  have hll : l.length = 13 := hsz.trans cells_rel
  have g0 := hg 0 f0 rfl
  have g1 := hg 1 f1 rfl
  rw [t0, o0, cells_int] at g0
  rw [t1, o1, cells_arr] at g1
  obtain ⟨n, e0, hx0, hw0⟩ := DataW.trod_int Tryd.underlying3 (g0.trans (List.getElem?_eq_getElem (show 0 < xs.length by rw [hlen]; simp)))
  obtain ⟨ys, m', _, hy, _, hyl, hel⟩ := DataW.trod_array Tryd.underlying23 (g1.trans (List.getElem?_eq_getElem (show 1 < xs.length by rw [hlen]; simp)))
  have key : ∀ i, i < 12 → ∃ z : Nat, z < 65536 ∧ l[i + 1]? = some (.int .u16 (z : Int)) ∧ ys[i]? = some (.lit (.int .u16 (z : Int)), []) := by
    intro i hi
    have g := hel i hi
    rw [cells_u16, Nat.mul_one, List.getElem?_eq_getElem (show i < ys.length by omega)] at g
    obtain ⟨z, e1, e2, e3⟩ := DataW.trod_int Tryd.underlying22 g
    have hb := bounds_u16 e3
    have hz : ((z.toNat : Nat) : Int) = z := by omega
    refine ⟨z.toNat, by omega, ?_, ?_⟩
    · rw [hz]
      have h0 := congrArg (fun t => t[0]?) e1
      have h1 : (l.drop 1)[i]? = some (.int .u16 z) := by
        simpa [Value.cells, List.getElem?_take, hi] using h0
      rw [List.getElem?_drop, Nat.add_comm] at h1
      exact h1
    · rw [List.getElem?_eq_getElem (show i < ys.length by omega), e2, hz]
  clear hel g0 g1 hg
  obtain ⟨a, ka, ky, al⟩ : ∃ a : Nat → Nat, (∀ i, i < 12 → l[i + 1]? = some (.int .u16 ((a i : Nat) : Int))) ∧ (∀ i, i < 12 → ys[i]? = some (.lit (.int .u16 ((a i : Nat) : Int)), [])) ∧ ∀ i, a i < 65536 := by
    refine ⟨fun i => if hi : i < 12 then Classical.choose (key i hi) else 0, fun i hi => ?_, fun i hi => ?_, fun i => ?_⟩
    · have := (Classical.choose_spec (key i hi)).2.1
      simpa only [hi, dite_true] using this
    · have := (Classical.choose_spec (key i hi)).2.2
      simpa only [hi, dite_true] using this
    · by_cases hi : i < 12
      · simpa only [hi, dite_true] using (Classical.choose_spec (key i hi)).1
      · simp only [hi, dite_false]
        decide
  refine ⟨n, a, ?_⟩
  clear key
  have e0' : l.take 1 = [.int .i64 n] := by simpa [Value.cells] using e0
  clear e0 hv hf hsz hs
  rcases hl with _
  match l, hll, ys, hyl, e0', ka, ky with
  | [c0, c1, c2, c3, c4, c5, c6, c7, c8, c9, c10, c11, c12], _, [y0, y1, y2, y3, y4, y5, y6, y7, y8, y9, y10, y11], _, e0, ka, ky =>
    have q0 := ka 0 (by decide); have q1 := ka 1 (by decide); have q2 := ka 2 (by decide); have q3 := ka 3 (by decide); have q4 := ka 4 (by decide); have q5 := ka 5 (by decide); have q6 := ka 6 (by decide); have q7 := ka 7 (by decide); have q8 := ka 8 (by decide); have q9 := ka 9 (by decide); have q10 := ka 10 (by decide); have q11 := ka 11 (by decide)
    have r0 := ky 0 (by decide); have r1 := ky 1 (by decide); have r2 := ky 2 (by decide); have r3 := ky 3 (by decide); have r4 := ky 4 (by decide); have r5 := ky 5 (by decide); have r6 := ky 6 (by decide); have r7 := ky 7 (by decide); have r8 := ky 8 (by decide); have r9 := ky 9 (by decide); have r10 := ky 10 (by decide); have r11 := ky 11 (by decide)
    clear ka ky
    simp at e0 q0 q1 q2 q3 q4 q5 q6 q7 q8 q9 q10 q11 r0 r1 r2 r3 r4 r5 r6 r7 r8 r9 r10 r11
    subst e0 q0 q1 q2 q3 q4 q5 q6 q7 q8 q9 q10 q11 r0 r1 r2 r3 r4 r5 r6 r7 r8 r9 r10 r11
    match xs, hlen with
    | [x0, x1], _ =>
      simp at hx0 hy
      subst hx0 hy
      simp only [Prod.mk.injEq] at hx
      obtain ⟨rfl, rfl⟩ := hx
      exact ⟨rfl, by simp [relD, List.range_succ], by simp, hw0, al⟩

theorem shut_rel {n : Int} {a : Nat → Nat} (hn : (Lit.int .i64 n).wf = true) (ha : ∀ i, a i < 65536) : DataW.Trod enc Tryd.prog w base spare held 25 (relV n a) (relD n a) [] := by
  have wa : ∀ i, (Lit.int .u16 (a i)).wf = true := fun i => by
    have := ha i
    simp [Lit.wf, IntKind.min, IntKind.max, IntKind.signed, IntKind.bits]
    omega
  refine ⟨3, ?_⟩
  simp [DataW.trod, Value.cells, Tryd.underlying25, Tryd.underlying23, Tryd.underlying22, Tryd.underlying3, cells_rel, cells_arr, cells_u16, cells_int, hn, wa, relD, List.range_succ]
end
end Go.Proofs.YtkfijolimoehmaaDoor

/-
  The arguments of a row over package order, the listed table.
-/
namespace Go.Proofs.YtkfijolimoehmaaDoor
open Go.ChangeShapes Go.WideShapes Go.ChangeAt Go.RowKit
set_option maxRecDepth 20000

/-- The listed table, as the row says that it reads. -/
def tabLaid : List (String × DataW Unit) := [("math/bits.deBruijn32tab", Rows.laid_math_bits_deBruijn32tab)]

theorem tab_of_laid {W : World} (h : laidMetH Tryd.prog tabLaid W) : Tab W := by
  rw [MakeChecks.laidMetH_plain _ _ _ (by kernel_rfl)] at h
  obtain ⟨_, ⟨g, t, cs, fuel, p, q, hg, ht, hv, hd, _, _⟩, _, _⟩ := h
  obtain rfl := Option.some.inj ((show Tryd.prog.globalNamed "math/bits.deBruijn32tab" = some 0 by kernel_rfl).symm.trans hg)
  obtain rfl := Option.some.inj ((show (Tryd.prog.globals[0]?).map (·.type) = some 62 by kernel_rfl).symm.trans ht)
  obtain ⟨xs, m, _, ex, _, hl, hel⟩ := DataW.trod_array Tryd.underlying62 hd
  have c5 : Tryd.prog.cellsOf 5 = 1 := by kernel_rfl
  have e3 : xs.map (·.1) = deb.map fun z : Nat => (DataW.lit (.int .u8 (z : Int)) : DataW Unit) := (DataW.agg.inj (Prod.mk.inj ex).1).symm
  intro k hk
  have hE := hel k hk
  rw [c5, Nat.mul_one, List.getElem?_eq_getElem (by omega)] at hE
  obtain ⟨z, e1, e2, _⟩ := DataW.trod_int Tryd.underlying5 hE
  have hz : z = ((deb.getD k 0 : Nat) : Int) := by
    have e4 := congrArg (fun l => l[k]?) e3
    simp only [List.getElem?_map, List.getElem?_eq_getElem (show k < xs.length by omega), List.getElem?_eq_getElem (show k < deb.length from hk), Option.map_some, e2, Option.some.injEq, DataW.lit.injEq, Lit.int.injEq, true_and] at e4
    rw [e4, List.getD_eq_getElem?_getD, List.getElem?_eq_getElem (show k < deb.length from hk)]
    rfl
  have e5 : cs.toList[k]? = some (.int .u8 z) := by
    have := congrArg (fun l => l[0]?) e1
    simpa using this
  rw [World.var?_cell hg hv k, ← hz]
  simpa using e5

theorem Tab.pos {w : World} (h : Tab w) : 0 < w.heap.size := by
  rcases Nat.eq_zero_or_pos w.heap.size with h0 | h0
  · have := h 0 (by decide)
    simp [World.cell?, h0] at this
  · exact h0
end Go.Proofs.YtkfijolimoehmaaDoor

/-
  The last step of a row: a walk that leaves all old memory as it was ('Below') pays what the row asks.
-/
namespace Go.Proofs.YtkfijolimoehmaaDoor
open Go.ChangeShapes Go.WideShapes Go.ChangeAt Go.RowKit
set_option maxRecDepth 20000

section
variable {H : Type} {enc : TypeId × Value → H} {P : Program} {f : Func} {s : ChangeSpec} {ap fr ho ag : Bool} {W W' : World} {args : Array Value} {v : Value} {ds gs : List (DataW H)} {met pa pv : List MemPlace}

/-- What was met in reading the arguments is old, so it is as it was. -/
theorem end_of_below (hW : DataW.Whole enc P f.params.toList s.vars ap W args.toList ds gs met) (hb : Below W.heap.size W W') (hmet : met = pa ++ pv)
    (hr : ∀ (b : Nat) (sp : Nat → Bool) (hd : Bool), DataW.TrodAll enc P W' b sp hd f.resultTypes.toList (v.resultList f.resultTypes.size) (s.fn H (ds ++ gs)).results [])
    (ha : ∀ sp : Nat → Bool, (∀ p ∈ met, sp p.block = true) → DataW.TrodAll enc P W' 0 sp true f.params.toList args.toList (s.fn H (ds ++ gs)).args pa)
    (hv : ∀ sp : Nat → Bool, (∀ p ∈ met, sp p.block = true) → DataW.TrodVars enc P W' sp s.vars (s.fn H (ds ++ gs)).vars pv)
    (hok : ∀ (j : Nat) (t : TypeId) (r : Value), f.resultTypes[j]? = some t → (v.resultList f.resultTypes.size)[j]? = some r → Value.okWide P W' .any 0 t r) :
    s.post enc P f ap fr ho ag W args v W' := by
  subst hmet
  have old : ∀ {p : MemPlace}, p ∈ pa ++ pv → p.block < W.heap.size := fun hp => hW.lt _ hp
  have mark : ∀ p ∈ pa ++ pv, decide (p.block < W.heap.size) = true := fun p hp => decide_eq_true (old hp)
  have always : ∀ p ∈ pa ++ pv, (fun _ : Nat => true) p.block = true := fun _ _ => rfl
  have same : ([] ++ pa) ++ pv = pa ++ pv := by rw [List.nil_append]
  have keep : W.keptBut W' (fun p => p ∈ pa ++ pv ∧ (p ∈ pa ++ pv)) := World.keptBut_mono (fun p hp => ⟨hp, hp⟩) (hb.frame (· ∈ pa ++ pv))
  have frz : ∀ b off, MemPlace.cell b off ∈ ([] ++ pa) ++ pv → W'.frozen? ⟨b, off, none⟩ = W.frozen? ⟨b, off, none⟩ := fun b off hp => hb.frozen (p := ⟨b, off, none⟩) (old (p := .cell b off) (same ▸ hp))
  have whole := hW
  obtain ⟨_, _, _, _, _, hz, hn⟩ := hW
  refine ⟨ds, gs, pa ++ pv, [], pa, pv, whole, hr _ _ _, ha _ mark, hv _ mark, World.keptBut_mono (fun p hp => ⟨hp.1, Or.inr (List.mem_append.1 hp.2)⟩) keep, fun _ => ⟨hok, _, _, ([] ++ pa) ++ pv, ⟨[] ++ pa, pv, trodAll_append (ha _ always) (hr _ _ _), hv _ always, rfl, ?_, ?_⟩, ?_⟩⟩
  · exact fun b off hp => (frz b off hp).trans (hz b off (same ▸ hp))
  · exact fun h => same ▸ hn h
  · exact fun p hp _ => by simpa using hp
end
end Go.Proofs.YtkfijolimoehmaaDoor

/-
  The tied card of aliblaw.OrderLists: whatever relation is handed in (the listed table math/bits.deBruijn32tab reading as the program's own text lays it), the law answers true and leaves its argument as it was.
-/
namespace Go.Proofs.YtkfijolimoehmaaDoor
open Go.ChangeShapes Go.WideShapes Go.ChangeAt Go.RowKit
set_option maxRecDepth 20000

theorem lists_knob : ownKnob Tryd.prog.godebug = none := by kernel_rfl

set_option maxRecDepth 100000 in
theorem lists_lifted (os : Os) (started : os.Started) (H : Type) (enc : TypeId × Value → H) :
    ReturnsInHanded {} Tryd.checked os 4 .any (fun w args => (Rows.orderListsSpec.pre enc Tryd.prog Tryd.f4 [] false w args ∧ laidMetH Tryd.prog tabLaid w) ∧ sizedMet enc Tryd.prog Tryd.f4 (OpenSpec.ofChange Rows.orderListsSpec) false w args)
      (Rows.orderListsSpec.post enc Tryd.prog Tryd.f4 false true false false) := by
  refine returnsInHanded_of_change_and (C := Tryd.checked) (X := fun w _ => laidMetH Tryd.prog tabLaid w) (fun _ _ _ hh h => h.of_heap hh) lists_knob started (by kernel_rfl) Tryd.func4
    (ChangeSpec.witness_shaped (enc := enc) (C := Tryd.checked) (os := os) (X := fun w _ => laidMetH Tryd.prog tabLaid w) false (World.laidAll Tryd.prog os tabLaid) #[relV 0 fun _ => 0] 8 (World.laidAll_os _ _ _)
      (World.shaped_of_ZipB (by kernel_rfl) (by kernel_rfl)) (by kernel_rfl) (by kernel_rfl) (by kernel_rfl)
      (by rw [MakeChecks.laidMetH_plain _ _ _ (by kernel_rfl)]; exact laidMet_laidAll _ (by kernel_rfl) (by kernel_rfl))) ?_
  intro W base args ds gs before hval0 hW _ _ hL _
  have hval : ∀ (j : Nat) t v, Tryd.f4.params[j]? = some t → args[j]? = some v → Value.okWide Tryd.prog W .any base t v := hval0
  have hW' := hW
  obtain ⟨p, q, hA0, hV, rfl, _, _⟩ := hW
  have hA : DataW.TrodAll enc Tryd.prog W 0 (fun _ => true) true Tryd.f4.params.toList args.toList ds p := hA0
  rw [Tryd.params4] at hA hval
  obtain ⟨v0, d0, rfl, rfl, h0⟩ := trodAll_one hA
  obtain ⟨rfl, rfl⟩ := trodVars_none hV
  obtain ⟨n, a, rfl, rfl, rfl, wn, wa⟩ := open_rel (hval 0 25 v0 rfl rfl) h0
  have hT := tab_of_laid hL
  clear hA0 hval0
  simp only [List.append_nil] at hW'
  refine (lists_all n a W wa hT hT.pos).mono fun e W' ⟨he, hb⟩ => ?_
  subst he
  refine ⟨_, rfl, end_of_below (pa := []) (pv := []) hW' hb rfl (fun _ _ _ => ?_) (fun _ _ => ?_) (fun _ _ => rfl) (ok_one (by kernel_rfl) rfl (okWide_bool_mk Tryd.underlying4 _))⟩
  · exact trodAll_mk1 (shut_bool Tryd.underlying4 _)
  · exact trodAll_mk1 (shut_rel wn wa)

theorem lists_holds : Rows.OrderListsSaid :=
  OpenClaim.holds_of_wide 4 Tryd.f4 rfl rfl rfl rfl rfl rfl rfl ⟨rfl, rfl, rfl, rfl, rfl⟩ rfl rfl rfl rfl rfl (by kernel_rfl) Tryd.func4 (by kernel_rfl)
    (of_decide_eq_true (by kernel_rfl)) (by unfold Func.isWrapper; first | (rw [if_pos (by decide +kernel)]; kernel_rfl) | (rw [if_neg (by decide +kernel)]; exact ⟨rfl, rfl⟩))
    (fun os started H enc _ => lists_lifted os started H enc)

theorem lists_card : Rows.OrderListsCardSaid :=
  Claim7.holds_tied_plain_at .later [] [.data] true Rows.orderListsCard.stood.harness false lists_holds (fun _ h => by cases h) (by kernel_rfl) (fun _ h => by cases h) orderLists_row_tie rfl ⟨rfl, rfl⟩ (by kernel_rfl) rfl
    (fun f fn hf hfn => by
      obtain rfl : f = 4 := Option.some.inj ((show Tryd.prog.funcNamed "alibi/aliblaw.OrderLists" = some 4 by kernel_rfl).symm.trans hf) |>.symm
      obtain rfl : fn = Tryd.f4 := (Option.some.inj (Tryd.func4.symm.trans hfn)).symm
      exact ⟨by kernel_rfl, fun j t ht => by
        rw [Tryd.params4] at ht
        have hm : t ∈ [25] := by simpa using Array.mem_of_getElem? ht
        have hall : ([25].all fun u => !Tryd.prog.wantsStandIn u) = true := by kernel_rfl
        exact (show Tryd.prog.wantsStandIn t = false by simpa using List.all_eq_true.1 hall t hm)⟩)
    (by kernel_rfl)
#print axioms lists_card
end Go.Proofs.YtkfijolimoehmaaDoor
