/-
  Joined by a program out of: BagPart, BagShelf, AppInt, BagElems, LinEq.
-/
import Derived.Test.YtfgangkpebkicaaGreatDoorMgAU
import Derived.Test.YtfgangkpebkicaaGreatDoorProg
import Derived.Shelf.SortM.Plain
import Derived.Shelf.SortM.SortNone
import Derived.Shelf.Slices.CompactI
import Derived.Test.YtfgangkpebkicaaGreatDoorMgAF
import Derived.Test.YtfgangkpebkicaaGreatDoorMgAB
import Derived.Sort.OwnSortedInts
import Derived.Test.YtfgangkpebkicaaGreatDoorMgAP
import Derived.Laws.StructEq
import Derived.Deep.QuietTactic
import Derived.BigQuiet

/-
  Contract of bags.Part.
-/
namespace Go.Proofs.YtfgangkpebkicaaGreatDoor
open Go.RowKit
set_option maxRecDepth 20000
/-- The events of the calls of one number, or the error. -/
def bagP (l : List Ev) (n : Int) : List Ev × Int := if (callsOf [4] l).2.2 ≠ 0 then ([], (callsOf [4] l).2.2) else if ¬ (1 ≤ n ∧ n ≤ 1000) then ([], 1) else (bagL l n, 0)
def BPart (w : World) (o : List Ev × Int) (e : Ending) (w' : World) : Prop :=
  ∃ v, e = .returned (.tuple #[v, .int .i64 o.2]) ∧ Below w.heap.size w w' ∧ EOwn w' w.heap.size v o.1
theorem EOwn.base_mono {w : World} {B B' : Nat} {v : Value} {l : List Ev} (h : EOwn w B' v l) (hB : B ≤ B') : EOwn w B v l :=
  ⟨h.1, h.2.elim (fun h => .inl h) fun ⟨g, cap, cur, h1, h2, h3⟩ => .inr ⟨g, cap, cur, h1, Nat.le_trans hB h2, h3⟩⟩
set_option maxHeartbeats 4000000 in
theorem bpart_any {lv : Value} {l : List Ev} {w : World} (hl : ERd w w.heap.size lv l) (q : Int) :
    Calls Tryz.prog 6 #[lv, .int .i64 q] w (BPart w (bagP l q)) := by
  have er : bagP l q = if (callsOf [4] l).2.2 ≠ 0 then ([], (callsOf [4] l).2.2) else if ¬ (1 ≤ q ∧ q ≤ 1000) then ([], 1) else (bagL l q, 0) := rfl
  generalize bagP l q = o at er ⊢
  have HO := Lib.hid (bopen_any hl)
  have HL := Lib.hid hl
  obtain ⟨Al, capl, rfl, m3, m4⟩ := hl.is
  unfold maxLen at m4
  have HE := Lib.hid er
  obtain ⟨L, hL⟩ : ∃ L, L = l.length := ⟨_, rfl⟩
  rw [← hL] at m3 HO HL ⊢
  have HLL := Lib.hid hL
  clear hl er hL
  go_enter Tryz.func6, Tryz.ntmps6
  go_wp2_with fail
  refine HO.out.mono ?_
  rintro e w1 ⟨hb1, v1, rfl, hc1⟩
  by_cases h0 : (callsOf [4] l).2.2 = 0
  · have hlen := (calls_zero h0).2.1
    have er := HE.out
    rw [if_neg (by rw [h0]; decide)] at er
    rw [h0]
    by_cases c0 : q < 1
    · rw [if_pos (by omega)] at er
      subst er
      have H1 := Lib.hid hb1
      clear hc1 hb1 h0 HO HE
      go_wp2_with fail
      go_ret2
      exact ⟨_, rfl, H1.out, World.ownsRow_nil _ _ _ _⟩
    · by_cases c1 : (1000 : Int) < q
      · rw [if_pos (by omega)] at er
        subst er
        have H1 := Lib.hid hb1
        clear hc1 hb1 h0 HO HE
        go_wp2_with fail
        go_ret2
        exact ⟨_, rfl, H1.out, World.ownsRow_nil _ _ _ _⟩
      · rw [if_neg (by omega)] at er
        subst er
        have hL200 : L ≤ 200 := by rw [HLL.out]; exact hlen
        have hbag : ∀ z : Nat, bagK (callsOf [4] l).1 q (z : Int) = (argF (callsOf [4] l).1 z == q) := argF_bag h0 (by omega)
        have htd := (calls_orderly h0).1
        have hrg : ∀ c ∈ (callsOf [4] l).1, 0 ≤ c.frm ∧ c.frm < (L : Int) ∧ (c.til = -1 ∨ 0 ≤ c.til) ∧ c.til < (L : Int) := fun c hc => by
          have h1 := htd.tidy c hc
          have h2 := htd.ends c hc
          rw [HLL.out]
          omega
        have hcl : (callsOf [4] l).1.length ≤ 200 := calls_lenQ h0
        have HA := Lib.hid (bargs_any hc1 rfl rfl hL200 hcl hrg)
        have H1 := Lib.hid hb1
        have HK := Lib.hid hbag
        obtain ⟨Ac, cc, rfl, -, -⟩ := hc1.is
        generalize (callsOf [4] l).1.length = nc at HA ⊢
        clear hc1 hb1 h0 HO HE hbag htd hrg hcl hlen
        go_wp2_with fail
        refine HA.out.mono ?_
        rintro e w2 ⟨rfl, hb2, hT⟩
        have H2 := Lib.hid (And.intro (H1.out.trans (hb2.mono H1.out.size)) (And.intro hT (And.intro (Lies.lt hT) H1.out.size)))
        generalize w1.heap.size = G at H2
        clear HA H1 hb2 hT
        go_wp2_with fail
        go_loopw [8, 30] (fun v i wr => ∃ (k : Nat) (v0 : Value), k ≤ L ∧ i = .int .i64 k ∧ v0 = v ∧ EOwn wr (G + 1) v0 (subL (bagK (callsOf [4] l).1 q) 0 (l.take k)) ∧ Below w.heap.size w wr ∧ ITab wr G L (argF (callsOf [4] l).1) ∧ G < wr.heap.size) (fun _ i _ => L - (intOf i).toNat)
        case atStart => exact ⟨0, _, by omega, rfl, rfl, World.ownsRow_nil _ _ _ _, H2.out.1, H2.out.2.1, H2.out.2.2.1⟩
        case round =>
          have HG := Lib.hid H2.out.2.2.2
          clear H2
          obtain ⟨k, v0, hk, rfl, rfl, ho, hb, hT, hG⟩ := hrel
          by_cases hkL : k < L
          · obtain ⟨x, hx⟩ : ∃ x, l[k]? = some x := ⟨_, List.getElem?_eq_getElem (by rw [← HLL.out]; exact hkL)⟩
            have hst := subL_take (k := bagK (callsOf [4] l).1 q) hx
            rw [HK.out k] at hst
            have hl' := HL.out.below hb
            obtain ⟨g, o, rfl, -, d0, d1, d2, d3⟩ := hl'.ev hx
            have i1 : (0 : Int) ≤ (k : Int) := by omega
            have i2 : (k : Int) < (L : Int) := by omega
            have t0 := hT.cell hkL
            have hpl : (subL (bagK (callsOf [4] l).1 q) 0 (l.take k)).length ≤ 65536 := by
              have h1 := subL_len (bagK (callsOf [4] l).1 q) (l.take k) 0
              have h2 : (l.take k).length ≤ k := List.length_take_le _ _
              omega
            have hbs := hb.size
            have HB := Lib.hid (And.intro ho (And.intro hb (And.intro hst (And.intro hpl (And.intro hT hG)))))
            clear hl' hx ho hb hst hpl hT hG
            obtain ⟨xw, xt, xk, xv⟩ := x
            by_cases hq : argF (callsOf [4] l).1 k = q
            · have hz : (argF (callsOf [4] l).1 k == q) = true := by rw [beq_iff_eq]; exact hq
              have HQ := Lib.hid hq
              have HOW := Lib.hid (HB.out.1.alloc (.cells (evCs ⟨xw, xt, xk, xv⟩).toArray 37))
              have HW := Lib.hid (HB.out.2.1.alloc hbs (.cells (evCs ⟨xw, xt, xk, xv⟩).toArray 37))
              have HNC := Lib.hid (new_cells wr 37 (evCs ⟨xw, xt, xk, xv⟩))
              have HTA := Lib.hid (Lies.alloc HB.out.2.2.2.2.1 (.cells (evCs ⟨xw, xt, xk, xv⟩).toArray 37))
              generalize hFa : argF (callsOf [4] l).1 k = fa at hz t0
              clear hq hFa
              go_wp2_with (at_builtin; refine wpList_app_ev rfl (.tmp 38) (.tmp 43) rfl (G + 1) wr.heap.size _ (subL (bagK (callsOf [4] l).1 q) 0 (l.take k)) ⟨xw, xt, xk, xv⟩ rfl rfl HOW.out HNC.out HB.out.2.2.2.1 (Lies.lt HTA.out) ?_; intro v' w5 ho5 hb5 hg5; have HN := Lib.hid (And.intro ho5 (And.intro hb5 hg5)); clear ho5 hb5 hg5)
              go_roundw
              case rel =>
                have hne : some G ≠ v0.ownBlock := fun e => by
                  have := World.ownsRow.lt HB.out.1 G e.symm
                  omega
                refine ⟨k + 1, _, by omega, by go_num, rfl, ?_, HW.out.trans (HN.out.2.1.mono (by have := HG.out; omega)), ?_, ?_⟩
                · rw [HB.out.2.2.1, if_pos (by rw [beq_iff_eq]; exact HQ.out)]
                  exact HN.out.1
                · exact Lies.keep HTA.out (HN.out.2.2.block G (Lies.lt HTA.out) hne)
                · exact Nat.lt_of_lt_of_le (Lies.lt HTA.out) HN.out.2.1.size
              case measure => simp [intOf]; omega
            · have hz : (argF (callsOf [4] l).1 k == q) = false := by rw [beq_eq_false_iff_ne]; exact hq
              have HQ := Lib.hid hz
              generalize hFa : argF (callsOf [4] l).1 k = fa at hz t0
              clear hq hFa
              go_wp2_with fail
              go_roundw
              case rel =>
                refine ⟨k + 1, _, by omega, by go_num, rfl, ?_, HB.out.2.1, HB.out.2.2.2.2.1, HB.out.2.2.2.2.2⟩
                rw [HB.out.2.2.1, if_neg (by rw [HQ.out]; decide)]
                exact HB.out.1
              case measure => simp [intOf]; omega
          · obtain rfl : k = L := by omega
            have HB := Lib.hid (And.intro ho hb)
            have hbs := hb.size
            clear ho hb hT hG
            go_wp2_with fail
            go_ret2
            refine ⟨_, rfl, HB.out.2, ?_⟩
            have := (HB.out.1.base_mono (B := w.heap.size) (by have := HG.out; omega))
            rw [HLL.out, List.take_length] at this
            exact this
  · have er := HE.out
    rw [if_pos h0] at er
    have hz : ((callsOf [4] l).2.2 != 0) = true := by rw [bne_iff_ne]; exact h0
    generalize (callsOf [4] l).2.2 = r at hz er ⊢
    have H1 := Lib.hid (And.intro hb1 er)
    clear h0 HE er HO hb1 hc1
    go_wp2_with fail
    go_ret2
    have e := H1.out.2
    subst e
    exact ⟨_, rfl, H1.out.1, World.ownsRow_nil _ _ _ _⟩
end Go.Proofs.YtfgangkpebkicaaGreatDoor

/-
  The library's contracts of slices.Sort and slices.Compact over int, laid at this program.
-/
namespace Go.Proofs.YtfgangkpebkicaaGreatDoor
open Go.RowKit Go.Shelf Go.Sort
set_option maxRecDepth 20000
def srtRenB : Go.Shelf.Ren := ⟨fun | 5 => 36 | 7 => 43 | 8 => 44 | 10 => 51 | 11 => 52 | 12 => 53 | 13 => 54 | 14 => 55 | 15 => 56 | 16 => 57 | 17 => 58 | 18 => 59 | 19 => 60 | 20 => 61 | 30 => 70 | 31 => 71 | 32 => 72 | 33 => 73 | 34 => 74 | 35 => 75 | 40 => 84 | n => n,
  fun | 0 => 0 | 3 => 3 | 4 => 4 | 5 => 5 | 9 => 9 | 22 => 26 | 23 => 26 | 25 => 3 | 32 => 88 | 35 => 94 | 36 => 95 | 41 => 99 | 44 => 102 | 46 => 104 | 53 => 121 | 57 => 125 | 63 => 137 | 64 => 138 | n => n, fun n => n⟩
def cmpRenB : Go.Shelf.Ren := ⟨fun | 20 => 37 | n => n,
  fun | 0 => 0 | 3 => 3 | 4 => 4 | 22 => 26 | n => n, fun n => n⟩
theorem laysSortB : SlLaysM.n5 Tryz.prog srtRenB := {
  mixed := by kernel_rfl
  f5 := ⟨("slices.Sort[[]int,int]"), by decide, Tryz.func36.trans (congrArg some (by kernel_rfl))⟩
  f7 := ⟨("slices.pdqsortOrdered[int]"), by decide, Tryz.func43.trans (congrArg some (by kernel_rfl))⟩
  f8 := Tryz.func44.trans (congrArg some (by kernel_rfl))
  f10 := ⟨("slices.insertionSortOrdered[int]"), by decide, Tryz.func51.trans (congrArg some (by kernel_rfl))⟩
  f11 := ⟨("slices.heapSortOrdered[int]"), by decide, Tryz.func52.trans (congrArg some (by kernel_rfl))⟩
  f12 := ⟨("slices.breakPatternsOrdered[int]"), by decide, Tryz.func53.trans (congrArg some (by kernel_rfl))⟩
  f13 := ⟨("slices.choosePivotOrdered[int]"), by decide, Tryz.func54.trans (congrArg some (by kernel_rfl))⟩
  f14 := ⟨("slices.reverseRangeOrdered[int]"), by decide, Tryz.func55.trans (congrArg some (by kernel_rfl))⟩
  f15 := ⟨("slices.partialInsertionSortOrdered[int]"), by decide, Tryz.func56.trans (congrArg some (by kernel_rfl))⟩
  f16 := ⟨("cmp.Less[int]"), by decide, Tryz.func57.trans (congrArg some (by kernel_rfl))⟩
  f17 := ⟨("slices.partitionEqualOrdered[int]"), by decide, Tryz.func58.trans (congrArg some (by kernel_rfl))⟩
  f18 := ⟨("slices.partitionOrdered[int]"), by decide, Tryz.func59.trans (congrArg some (by kernel_rfl))⟩
  f19 := Tryz.func60.trans (congrArg some (by kernel_rfl))
  f20 := Tryz.func61.trans (congrArg some (by kernel_rfl))
  f30 := ⟨("slices.siftDownOrdered[int]"), by decide, Tryz.func70.trans (congrArg some (by kernel_rfl))⟩
  f31 := Tryz.func71.trans (congrArg some (by kernel_rfl))
  f32 := Tryz.func72.trans (congrArg some (by kernel_rfl))
  f33 := ⟨("slices.medianAdjacentOrdered[int]"), by decide, Tryz.func73.trans (congrArg some (by kernel_rfl))⟩
  f34 := ⟨("slices.medianOrdered[int]"), by decide, Tryz.func74.trans (congrArg some (by kernel_rfl))⟩
  f35 := ⟨("cmp.isNaN[int]"), by decide, Tryz.func75.trans (congrArg some (by kernel_rfl))⟩
  f40 := ⟨("slices.order2Ordered[int]"), by decide, Tryz.func84.trans (congrArg some (by kernel_rfl))⟩
  t0 := Tryz.underlying0
  a0 := Tryz.isAgg0
  z0 := Tryz.sizeOf0
  v0 := Tryz.zeroValue0
  t3 := Tryz.underlying3
  a3 := Tryz.isAgg3
  z3 := Tryz.sizeOf3
  v3 := Tryz.zeroValue3
  t4 := Tryz.underlying4
  a4 := Tryz.isAgg4
  z4 := Tryz.sizeOf4
  v4 := Tryz.zeroValue4
  t5 := Tryz.underlying5
  a5 := Tryz.isAgg5
  z5 := Tryz.sizeOf5
  v5 := Tryz.zeroValue5
  t9 := Tryz.underlying9
  a9 := Tryz.isAgg9
  z9 := Tryz.sizeOf9
  v9 := Tryz.zeroValue9
  t22 := Tryz.underlying26
  a22 := Tryz.isAgg26
  z22 := Tryz.sizeOf26
  v22 := Tryz.zeroValue26
  t23 := Tryz.underlying26
  a23 := Tryz.isAgg26
  z23 := Tryz.sizeOf26
  v23 := Tryz.zeroValue26
  t25 := Tryz.underlying3
  a25 := Tryz.isAgg3
  z25 := Tryz.sizeOf3
  v25 := Tryz.zeroValue3
  t32 := Tryz.underlying88
  a32 := Tryz.isAgg88
  z32 := Tryz.sizeOf88
  v32 := Tryz.zeroValue88
  t35 := Tryz.underlying94
  a35 := Tryz.isAgg94
  z35 := Tryz.sizeOf94
  v35 := Tryz.zeroValue94
  t36 := Tryz.underlying95
  a36 := Tryz.isAgg95
  z36 := Tryz.sizeOf95
  v36 := Tryz.zeroValue95
  t41 := Tryz.underlying99
  a41 := Tryz.isAgg99
  z41 := Tryz.sizeOf99
  v41 := Tryz.zeroValue99
  t44 := Tryz.underlying102
  a44 := Tryz.isAgg102
  z44 := Tryz.sizeOf102
  v44 := Tryz.zeroValue102
  t46 := Tryz.underlying104
  a46 := Tryz.isAgg104
  z46 := Tryz.sizeOf104
  v46 := Tryz.zeroValue104
  t53 := Tryz.underlying121
  a53 := Tryz.isAgg121
  z53 := Tryz.sizeOf121
  v53 := Tryz.zeroValue121
  t57 := Tryz.underlying125
  a57 := Tryz.isAgg125
  z57 := Tryz.sizeOf125
  v57 := Tryz.zeroValue125
  t63 := Tryz.underlying137
  a63 := Tryz.isAgg137
  z63 := Tryz.sizeOf137
  v63 := Tryz.zeroValue137
  t64 := Tryz.underlying138
  a64 := Tryz.isAgg138
  z64 := Tryz.sizeOf138
  v64 := Tryz.zeroValue138
  }
theorem laysCmpB : Lays2.n20 Tryz.prog cmpRenB := {
  mixed := by kernel_rfl
  f20 := Tryz.func37.trans (congrArg some (by kernel_rfl))
  t0 := Tryz.underlying0
  a0 := Tryz.isAgg0
  z0 := Tryz.sizeOf0
  v0 := Tryz.zeroValue0
  t3 := Tryz.underlying3
  a3 := Tryz.isAgg3
  z3 := Tryz.sizeOf3
  v3 := Tryz.zeroValue3
  t4 := Tryz.underlying4
  a4 := Tryz.isAgg4
  z4 := Tryz.sizeOf4
  v4 := Tryz.zeroValue4
  t22 := Tryz.underlying26
  a22 := Tryz.isAgg26
  z22 := Tryz.sizeOf26
  v22 := Tryz.zeroValue26
  i3 := by kernel_rfl
  }
end Go.Proofs.YtfgangkpebkicaaGreatDoor

/-
  append(s, x): s the call's own row of integers, x one more in a block of its own; append(s, t..): s new and empty, t any slice of integers.
-/
namespace Go.Proofs.YtfgangkpebkicaaGreatDoor
open Go.RowKit
set_option maxRecDepth 20000
/-- A slice of the call's own (in blocks from B on) that holds these numbers. -/
def NOwn (w : World) (B : Nat) (v : Value) (l : List Int) : Prop := w.ownsRow B 3 1 v l.length (l.flatMap intCs)
theorem NOwn.rd {w : World} {B : Nat} {v : Value} {l : List Int} (h : NOwn w B v l) : NRd w w.heap.size v l := LRd.of_own (fun _ => rfl) h
theorem NOwn.nil (w : World) (B : Nat) : NOwn w B (.slice none 0 0) [] := World.ownsRow_nil _ _ _ _
theorem NOwn.below {w w' : World} {B : Nat} {v : Value} {l : List Int} (h : NOwn w B v l) (hb : Below w.heap.size w w') : NOwn w' B v l := by
  refine ⟨h.1, h.2.elim (fun h => .inl h) fun ⟨g, cap, cur, h1, h2, h3, h4, h5, h6, h7⟩ => .inr ⟨g, cap, cur, h1, h2, ?_, h4, h5, h6, h7⟩⟩
  rw [hb.block g (Array.getElem?_eq_some_iff.1 h3).1]
  exact h3
theorem NOwn.alloc {w : World} {B : Nat} {v : Value} {l : List Int} (h : NOwn w B v l) (o : Obj) : NOwn (w.alloc o) B v l := h.below ((Below.refl _ _).alloc (Nat.le_refl _) o)
theorem run_app_int {W : World} {base G : Nat} {v : Value} {l : List Int} {y : Int} (ty : TypeId) (hown : NOwn W base v l) (hG : W.cell? ⟨G, 0, none⟩ = some (.int .i64 y)) (hlen : l.length ≤ 65536) (hbase : base ≤ W.heap.size) :
    ∃ v' w', (Builtin.append_ #[26, 26] ty #[v, .slice (some ⟨G, 0, none⟩) 1 1]).run Tryz.prog W = .ok v' w' ∧ NOwn w' base v' (l ++ [y]) ∧ Below base W w' := by
  obtain ⟨i0, hi, hz0, hz1, hz2⟩ := info_of info_int
  have hl := World.ownsRow.lt hown
  obtain ⟨v', w', hr, h2, h3, _⟩ := run_append_own (P := Tryz.prog) W base 26 ty 3 i0 (.int .i64 0) 1 8 Tryz.underlying26 hi hz0 hz1 hz2 rfl (by decide) v l.length (l.flatMap intCs) hown
    ⟨G, 0, none⟩ 1 1 (intCs y) rfl (fun j u hu => by
      rw [Addr.add_lit, Nat.zero_add]
      have hj : j = 0 := by
        have := (List.getElem?_eq_some_iff.1 hu).1
        simp at this
        omega
      subst hj
      simp only [List.getElem?_cons_zero, Option.some.injEq] at hu
      subst hu
      exact hG) (fun u hu => by
      simp only [List.mem_cons, List.not_mem_nil, or_false] at hu
      subst hu
      rfl) (by unfold maxLen; omega) (by omega) hbase
  refine ⟨v', w', hr, ?_, (Below.refl base W).grown h3 hbase (fun k hk => (hl k hk).1)⟩
  unfold NOwn
  rw [List.length_append, List.flatMap_append]
  simpa using h2
theorem wp_app_int {W : World} {o : Oper} {a : Act} {K : Act → World → Prop} {Q : Exit → Act → World → Prop} (s x : Operand)
    (ho : o.op = .call { callee := .builtin .append, args := #[s, x], argTypes := #[26, 26] })
    (base G : Nat) (v : Value) (l : List Int) (y : Int) (hs : a.eval s = v) (hx : a.eval x = .slice (some ⟨G, 0, none⟩) 1 1) (hown : NOwn W base v l) (hG : W.cell? ⟨G, 0, none⟩ = some (.int .i64 y)) (hlen : l.length ≤ 65536) (hbase : base ≤ W.heap.size)
    (h : ∀ v' w', NOwn w' base v' (l ++ [y]) → Below base W w' → K (a.put o.dst v') w') : Oper.wp Tryz.prog o a W K Q := by
  obtain ⟨v', w', hrun, r1, r2⟩ := run_app_int o.type hown hG hlen hbase
  unfold Oper.wp
  simp [execOp, ho, resolve, invoke, builtin, hs, hx, hrun, Result.andThen]
  exact h v' w' r1 r2
theorem wpList_app_int {W : World} {ops : Array Oper} {rest : List Oper} {o : Oper} {a : Act} {Q : Exit → Act → World → Prop} (hgd : o.guard = none) (s x : Operand)
    (ho : o.op = .call { callee := .builtin .append, args := #[s, x], argTypes := #[26, 26] })
    (base G : Nat) (v : Value) (l : List Int) (y : Int) (hs : a.eval s = v) (hx : a.eval x = .slice (some ⟨G, 0, none⟩) 1 1) (hown : NOwn W base v l) (hG : W.cell? ⟨G, 0, none⟩ = some (.int .i64 y)) (hlen : l.length ≤ 65536) (hbase : base ≤ W.heap.size)
    (h : ∀ v' w', NOwn w' base v' (l ++ [y]) → Below base W w' → wpList Tryz.prog ops Q rest (a.put o.dst v') w') : wpList Tryz.prog ops Q (o :: rest) a W :=
  wpList_plain hgd fun _ hK => wp_app_int s x ho base G v l y hs hx hown hG hlen hbase fun v' w' h1 h2 => hK _ _ (h v' w' h1 h2)
/-- Any slice of integers behind a row of one's own. -/
theorem run_app_ints {W : World} {base n cap : Nat} {v : Value} {A : Option Addr} {l ys : List Int} {B : Nat} (ty : TypeId) (hown : NOwn W base v l) (hr : NRd W B (.slice A n cap) ys) (hlen : l.length + ys.length ≤ 65536) (hbase : base ≤ W.heap.size) (hA : A ≠ none) :
    ∃ v' w', (Builtin.append_ #[26, 26] ty #[v, .slice A n cap]).run Tryz.prog W = .ok v' w' ∧ NOwn w' base v' (l ++ ys) ∧ Below base W w' := by
  obtain ⟨i0, hi, hz0, hz1, hz2⟩ := info_of info_int
  have hl := World.ownsRow.lt hown
  obtain ⟨A', cap', he, m1, m2, hc⟩ := hr
  injection he with e1 e2 e3
  subst e1 e2 e3
  cases A with
  | none => exact absurd rfl hA
  | some a =>
    have hlf : (ys.flatMap intCs).length = ys.length * 1 := flat_len (f := intCs) (s := 1) (fun _ => rfl) ys
    obtain ⟨v', w', hr, h2, h3, _⟩ := run_append_own (P := Tryz.prog) W base 26 ty 3 i0 (.int .i64 0) 1 8 Tryz.underlying26 hi hz0 hz1 hz2 rfl (by decide) v l.length (l.flatMap intCs) hown
      a ys.length cap (ys.flatMap intCs) hlf (fun j u hu => by
        have hj := (List.getElem?_eq_some_iff.1 hu).1
        rw [hlf] at hj
        obtain ⟨g, o, ha, _, hcell⟩ := hc (by omega)
        injection ha with ha
        subst ha
        have hx := List.getElem?_eq_getElem (show j < ys.length by omega)
        have hf := flat_at (l := ys) (f := intCs) (s := 1) (fun _ => rfl) hx (j := 0) rfl
        rw [Nat.mul_one, Nat.add_zero, hu] at hf
        injection hf with hf
        subst hf
        have := hcell j _ hx 0 _ rfl
        rw [Addr.add_lit]
        simpa using this) (fun u hu => by
        rw [List.mem_flatMap] at hu
        obtain ⟨x, _, hx⟩ := hu
        simp only [List.mem_cons, List.not_mem_nil, or_false] at hx
        subst hx
        rfl) (by unfold maxLen; omega) (by omega) hbase
    refine ⟨v', w', hr, ?_, (Below.refl base W).grown h3 hbase (fun k hk => (hl k hk).1)⟩
    unfold NOwn
    rw [List.length_append, List.flatMap_append]
    exact h2
end Go.Proofs.YtfgangkpebkicaaGreatDoor

/-
  Contract of bags.elements: the arguments of the calls in increasing order, each once.
-/
namespace Go.Proofs.YtfgangkpebkicaaGreatDoor
open Go.RowKit Go.Sort
set_option maxRecDepth 20000

theorem le_chain {d : Array Int} {n : Nat} (h : ∀ j, 0 < j → j < n → d[j - 1]! ≤ d[j]!) : ∀ {i j : Nat}, i ≤ j → j < n → d[i]! ≤ d[j]! := by
  intro i j
  induction j with
  | zero => intro h1 _; rw [Nat.le_zero.1 h1]; exact Int.le_refl _
  | succ j ih =>
    intro h1 h2
    by_cases e : i = j + 1
    · rw [e]; exact Int.le_refl _
    · have h3 := ih (by omega) (by omega)
      have h4 := h (j + 1) (by omega) h2
      rw [Nat.add_sub_cancel] at h4
      omega
/-- Of a list in order slices.Compact leaves each number once, in increasing order. -/
theorem compact_inc {zs : List Int} (h : zs.Pairwise (· ≤ ·)) : (Lib.compact zs).Pairwise (· < ·) ∧ (∀ x, x ∈ Lib.compact zs ↔ x ∈ zs) ∧ (Lib.compact zs).length ≤ zs.length := by
  have hget : ∀ j, j < zs.length → zs.toArray[j]! = zs.getD j 0 := fun j hj => by
    rw [getElem!_pos zs.toArray j (by simpa using hj), List.getD_eq_getElem?_getD, List.getElem?_eq_getElem hj]
    rfl
  have hadj : ∀ j, 0 < j → j < zs.length → zs.toArray[j - 1]! ≤ zs.toArray[j]! := fun j h0 hj => by
    rw [hget j hj, hget (j - 1) (by omega), List.getD_eq_getElem?_getD, List.getD_eq_getElem?_getD, List.getElem?_eq_getElem hj, List.getElem?_eq_getElem (by omega : j - 1 < zs.length)]
    exact List.pairwise_iff_getElem.1 h (j - 1) j (by omega) hj (by omega)
  refine ⟨?_, fun x => ?_, ?_⟩
  · unfold Lib.compact Lib.compactUpTo
    rw [List.pairwise_map, List.pairwise_filter]
    refine List.pairwise_lt_range.imp_of_mem fun {i j} hi hj hij _ hk => ?_
    have hj2 := List.mem_range.1 hj
    unfold Lib.keeps at hk
    rw [decide_eq_true_iff] at hk
    have h1 := hk.resolve_left (by omega)
    have h2 := le_chain hadj (show i ≤ j - 1 by omega) (by omega)
    have h3 := hadj j (by omega) hj2
    omega
  · unfold Lib.compact Lib.compactUpTo
    rw [List.mem_map]
    constructor
    · rintro ⟨j, hj, rfl⟩
      have hj2 := List.mem_range.1 (List.mem_filter.1 hj).1
      rw [hget j hj2, List.getD_eq_getElem?_getD, List.getElem?_eq_getElem hj2]
      exact List.getElem_mem _
    · intro hx
      obtain ⟨j, hj, e⟩ := List.getElem_of_mem hx
      have key : ∀ j, j < zs.length → ∃ i, i ≤ j ∧ Lib.keeps zs.toArray i = true ∧ zs.toArray[i]! = zs.toArray[j]! := by
        intro j
        induction j with
        | zero => intro _; exact ⟨0, Nat.le_refl _, by simp [Lib.keeps], rfl⟩
        | succ j ih =>
          intro hj
          cases hk : Lib.keeps zs.toArray (j + 1)
          · obtain ⟨i, h1, h2, h3⟩ := ih (by omega)
            refine ⟨i, by omega, h2, h3.trans ?_⟩
            unfold Lib.keeps at hk
            rw [decide_eq_false_iff_not, Nat.add_sub_cancel] at hk
            exact (Classical.byContradiction fun hn => hk (.inr fun e => hn e.symm))
          · exact ⟨j + 1, Nat.le_refl _, hk, rfl⟩
      obtain ⟨i, h1, h2, h3⟩ := key j hj
      refine ⟨i, List.mem_filter.2 ⟨List.mem_range.2 (by omega), h2⟩, ?_⟩
      rw [h3, hget j hj, List.getD_eq_getElem?_getD, List.getElem?_eq_getElem hj]
      exact e
  · unfold Lib.compact Lib.compactUpTo
    rw [List.length_map]
    have := List.length_filter_le (Lib.keeps zs.toArray) (List.range zs.length)
    rw [List.length_range] at this
    exact this
theorem sorted_le (l : List Int) : (l.mergeSort fun x y => decide (x ≤ y)).Pairwise (· ≤ ·) ∧ (l.mergeSort fun x y => decide (x ≤ y)).length = l.length ∧ ∀ x, x ∈ (l.mergeSort fun x y => decide (x ≤ y)) ↔ x ∈ l := by
  refine ⟨?_, List.length_mergeSort _, fun x => (List.mergeSort_perm _ _).mem_iff⟩
  have h1 := List.pairwise_mergeSort (le := fun x y : Int => decide (x ≤ y)) (fun a b c h1 h2 => by rw [decide_eq_true_iff] at *; omega) (fun a b => by rw [Bool.or_eq_true, decide_eq_true_iff, decide_eq_true_iff]; omega) l
  exact h1.imp fun h => of_decide_eq_true h
theorem flat_ints (l : List Int) : l.flatMap intCs = l.map (Value.int .i64) := by
  induction l with
  | nil => rfl
  | cons a l ih => rw [List.flatMap_cons, ih]; rfl
theorem NOwn.base_mono {w : World} {B B' : Nat} {v : Value} {l : List Int} (h : NOwn w B' v l) (hB : B ≤ B') : NOwn w B v l :=
  ⟨h.1, h.2.elim (fun h => .inl h) fun ⟨g, cap, cur, h1, h2, h3⟩ => .inr ⟨g, cap, cur, h1, Nat.le_trans hB h2, h3⟩⟩
/-- The call's own row of integers, sorted. -/
theorem bsort_any {B : Nat} {v : Value} {l : List Int} {w : World} (h : NOwn w B v l) (hB : B ≤ w.heap.size) (hl : l.length ≤ 65536) :
    Calls Tryz.prog 36 #[v] w fun e w' => e = .returned (.tuple #[]) ∧ NOwn w' B v (l.mergeSort fun x y => decide (x ≤ y)) ∧ Below B w w' := by
  obtain ⟨_, hs2, _⟩ := sorted_le l
  rcases h.2 with ⟨rfl, h0⟩ | ⟨g, cap, cur, rfl, h1, h2, h3, h4, h5, h6⟩
  · have hl0 : l = [] := List.length_eq_zero_iff.1 h0
    subst hl0
    refine (AnyM.slices_Sort_int_none (ρ := srtRenB) laysSortB none 0 w).mono ?_
    rintro e w' ⟨rfl, rfl⟩
    exact ⟨rfl, (by rw [List.mergeSort_nil]; exact NOwn.nil _ _), Below.refl _ _⟩
  · have ht : cur.toList.take l.length = l.map (Value.int .i64) := by rw [← flat_ints, ← h6, Nat.mul_one]
    refine (AnyM.slices_Sort_int (ρ := srtRenB) laysSortB g 0 cap l w (holds_of_blockI h2 ht) (Array.getElem?_eq_some_iff.1 h2).1 (by omega)).mono ?_
    rintro e w' ⟨rfl, n, os, rfl⟩
    refine ⟨rfl, ?_, (Below.refl B w).grown (grownBy_sortedI _) hB (fun k hk => by injection hk with hk; omega)⟩
    have := ownsRow_sortedI (base := B) (n := n) (os := os) (ts := l.mergeSort fun x y => decide (x ≤ y)) hs2 h1 h2 h3 h4 (by rw [h5])
    unfold NOwn
    rw [flat_ints, hs2]
    exact this
/-- The call's own row of integers, compacted. -/
theorem bcompact_any {B : Nat} {v : Value} {l : List Int} {w : World} (h : NOwn w B v l) (hB : B ≤ w.heap.size) (hl : l.length ≤ 65536) (hle : (Lib.compact l).length ≤ l.length) :
    Calls Tryz.prog 37 #[v] w fun e w' => ∃ v', e = .returned v' ∧ NOwn w' B v' (Lib.compact l) ∧ Below B w w' := by
  rcases h.2 with ⟨rfl, h0⟩ | ⟨g, cap, cur, rfl, h1, h2, h3, h4, h5, h6⟩
  · have hl0 : l = [] := List.length_eq_zero_iff.1 h0
    subst hl0
    refine (Any.slices_Compact_int_empty (ρ := cmpRenB) laysCmpB none 0 w).mono ?_
    rintro e w' ⟨rfl, rfl⟩
    exact ⟨_, rfl, NOwn.nil _ _, Below.refl _ _⟩
  · have ht : cur.toList.take l.length = l.map (Value.int .i64) := by rw [← flat_ints, ← h6, Nat.mul_one]
    refine (Any.slices_Compact_int (ρ := cmpRenB) laysCmpB g 0 cap l w (holds_of_blockI h2 ht) (by omega) h3).mono ?_
    rintro e w' ⟨rfl, q, rfl⟩
    have hd : (Lib.compact l ++ List.replicate (l.length - (Lib.compact l).length) (0 : Int)).length = l.length := by simp; omega
    have hg := grownBy_sortedI (w := w) (g := g) (n := q) (os := #[]) (Lib.compact l ++ List.replicate (l.length - (Lib.compact l).length) (0 : Int)).toArray
    have hh := heap_sortedI (n := q) (os := #[]) (Lib.compact l ++ List.replicate (l.length - (Lib.compact l).length) (0 : Int)).toArray h2
    rw [grow_empty] at hg hh
    refine ⟨_, rfl, ?_, (Below.refl B w).grown hg hB (fun k hk => by injection hk with hk; omega)⟩
    refine ⟨by rw [flat_ints]; simp, .inr ⟨g, cap, _, rfl, h1, hh, by omega, h4, by simp [putCells, h5], ?_⟩⟩
    have h7 := take_putCellsI cur (Lib.compact l ++ List.replicate (l.length - (Lib.compact l).length) (0 : Int)) (by rw [hd, h5]; omega)
    rw [flat_ints, Nat.mul_one]
    have h8 := congrArg (List.take (Lib.compact l).length) h7
    rw [List.take_take, Nat.min_eq_left (by rw [hd]; exact hle)] at h8
    rw [h8, List.map_append, List.take_append_of_le_length (by simp), List.take_of_length_le (by simp)]
/-- The arguments in order, each once. -/
def elemL (cs : List Cl) : List Int := Lib.compact ((cs.map (·.arg)).mergeSort fun x y => decide (x ≤ y))
theorem elemL_inc (cs : List Cl) : (elemL cs).Pairwise (· < ·) ∧ (∀ x, x ∈ elemL cs ↔ ∃ c ∈ cs, c.arg = x) ∧ (elemL cs).length ≤ cs.length := by
  obtain ⟨h1, h2, h3⟩ := sorted_le (cs.map (·.arg))
  obtain ⟨h4, h5, h6⟩ := compact_inc h1
  refine ⟨h4, fun x => ?_, ?_⟩
  · unfold elemL
    rw [h5, h3, List.mem_map]
  · unfold elemL
    rw [List.length_map] at h2
    omega
def argsL (cs : List Cl) : List Int := cs.map fun c => c.arg
set_option maxHeartbeats 4000000 in
theorem belems_any {v : Value} {cs : List Cl} {w : World} (h : CRd w w.heap.size v cs) (hc : cs.length ≤ 200) :
    Calls Tryz.prog 22 #[v] w fun e w' => ∃ v', e = .returned v' ∧ NOwn w' w.heap.size v' (elemL cs) ∧ Below w.heap.size w w' := by
  obtain ⟨A, c, rfl, m1, m2⟩ := h.is
  unfold maxLen at m2
  have H := Lib.hid h
  clear h
  obtain ⟨L, hL⟩ : ∃ L, L = cs.length := ⟨_, rfl⟩
  rw [← hL]
  rw [← hL] at m1 hc
  have HL := Lib.hid hL
  clear hL
  go_enter Tryz.func22, Tryz.ntmps22
  go_wp2_with fail
  go_loopw [3, 8] (fun v i wr => ∃ (k : Nat) (v0 : Value), k ≤ L ∧ i = .int .i64 k ∧ v0 = v ∧ NOwn wr w.heap.size v0 (argsL (cs.take k)) ∧ Below w.heap.size w wr) (fun _ i _ => L - (intOf i).toNat)
  case atStart => exact ⟨0, _, by omega, rfl, rfl, NOwn.nil _ _, Below.refl _ _⟩
  case round =>
    obtain ⟨k, v0, hk, rfl, rfl, ho, hb⟩ := hrel
    by_cases hkL : k < L
    · obtain ⟨x, hx⟩ : ∃ x, cs[k]? = some x := ⟨_, List.getElem?_eq_getElem (by rw [← HL.out]; exact hkL)⟩
      have h' := H.out.below hb
      rw [← HL.out] at h'
      obtain ⟨g, o, rfl, -, d0, d1, d2, d3, d4, d5, d6⟩ := h'.cl hx
      have i1 : (0 : Int) ≤ (k : Int) := by omega
      have i2 : (k : Int) < (L : Int) := by omega
      have hst : argsL (cs.take (k + 1)) = argsL (cs.take k) ++ [x.arg] := by
        unfold argsL
        rw [List.take_add_one, hx, Option.toList_some, List.map_append]
        rfl
      have hpl : (argsL (cs.take k)).length ≤ 65536 := by
        unfold argsL
        rw [List.length_map]
        have := List.length_take_le k cs
        omega
      obtain ⟨x0, x1, x2, x3, x4, x5, x6⟩ := x
      have hbs := hb.size
      have HOW := Lib.hid ((ho.alloc (.cells (clCs ⟨x0, x1, x2, x3, x4, x5, x6⟩).toArray 58)).alloc (.cells #[.int .i64 x3] 3))
      have HW := Lib.hid ((hb.alloc hbs (.cells (clCs ⟨x0, x1, x2, x3, x4, x5, x6⟩).toArray 58)).alloc (by simp; omega) (.cells #[.int .i64 x3] 3))
      have HB := Lib.hid (And.intro hst hpl)
      have hnc := new_cells (wr.alloc (.cells (clCs ⟨x0, x1, x2, x3, x4, x5, x6⟩).toArray 58)) 3 [.int .i64 x3] 0 _ rfl
      rw [World.size_alloc] at hnc
      have HNC := Lib.hid hnc
      clear h' hx ho hb hst hpl hnc
      go_wp2_with (at_builtin; refine wpList_app_int rfl (.tmp 12) (.tmp 15) rfl w.heap.size (wr.heap.size + 1) _ (argsL (cs.take k)) x3 rfl rfl HOW.out HNC.out HB.out.2 HW.out.size ?_; intro v' w5 ho5 hb5; have HN := Lib.hid (And.intro ho5 hb5); clear ho5 hb5)
      go_roundw
      case rel =>
        refine ⟨k + 1, _, by omega, by go_num, rfl, ?_, HW.out.trans HN.out.2⟩
        rw [HB.out.1]
        exact HN.out.1
      case measure => simp [intOf]; omega
    · obtain rfl : k = L := by omega
      rw [HL.out, List.take_length] at ho
      unfold argsL at ho
      obtain ⟨h1, h2, h3⟩ := sorted_le (cs.map (·.arg))
      have hml : (cs.map (·.arg)).length ≤ 65536 := by
        rw [List.length_map]
        have := HL.out
        omega
      have HS := Lib.hid (bsort_any ho hb.size hml)
      have HB := Lib.hid (And.intro hb hml)
      have HM := Lib.hid (And.intro h2 (compact_inc h1).2.2)
      clear ho hb hml h1 h2 h3
      go_wp2_with fail
      refine HS.out.mono ?_
      rintro e w2 ⟨rfl, ho2, hb2⟩
      have HC := Lib.hid (bcompact_any ho2 (HB.out.1.trans hb2).size (by rw [HM.out.1]; exact HB.out.2) HM.out.2)
      have H2 := Lib.hid (HB.out.1.trans hb2)
      clear ho2 hb2 HS
      go_wp2_with fail
      refine HC.out.mono ?_
      rintro e w3 ⟨v', rfl, ho3, hb3⟩
      have H3 := Lib.hid (And.intro ho3 (H2.out.trans hb3))
      clear ho3 hb3 HC
      go_wp2_with fail
      go_ret
      exact ⟨_, rfl, H3.out.1, H3.out.2⟩
end Go.Proofs.YtfgangkpebkicaaGreatDoor

/-
  slices.Equal of two lists of steps.
-/
namespace Go.Proofs.YtfgangkpebkicaaGreatDoor
open Go.RowKit
set_option maxRecDepth 20000
theorem LRd.sp {w : World} {B n cap : Nat} {A : Option Addr} {l : List (Int × Int)} (h : SRd w B (.slice A n cap) l) {k : Nat} {x : Int × Int} (hk : l[k]? = some x) : ∃ g o, A = some ⟨g, o, none⟩ ∧ g < B ∧ w.cell? ⟨g, o + k * 2, none⟩ = some (.int .i64 x.1) ∧ w.cell? ⟨g, o + k * 2 + 1, none⟩ = some (.int .i64 x.2) := by
  obtain ⟨g, o, h1, h2, h3⟩ := h.at_ hk
  exact ⟨g, o, h1, h2, by have := h3 0 _ rfl; simpa using this, h3 1 _ rfl⟩
end Go.Proofs.YtfgangkpebkicaaGreatDoor
