/-
  Joined by a program out of: LPartsW, CalmPure, AppInt, ContN, RefSteps, SeqFind, SkipAt, CloneEv, PlacePure, OwnEv, SLaterP, SeqPure.
-/
import Derived.Test.YtfgangkpebkicaaDoorMgAA
import Derived.Test.YtfgangkpebkicaaDoorMgAR
import Derived.Test.YtfgangkpebkicaaDoorMgAB
import Derived.Test.YtfgangkpebkicaaDoorMgAD
import Derived.Lib.AppendZeros
import Derived.Test.YtfgangkpebkicaaDoorMgAJ
import Derived.Test.YtfgangkpebkicaaDoorMgAQ
import Derived.Test.YtfgangkpebkicaaDoorMgAH
import Derived.Deep.DeepAppendWide
import Derived.Lib.SliceRun

/-
  Contract of local.Parts.
-/
namespace Go.Proofs.YtfgangkpebkicaaDoor
open Go.RowKit Go.Maps
set_option maxRecDepth 20000

set_option maxHeartbeats 4000000 in
theorem lparts_of {tv lv : Value} {ts : List Int} {l : List Ev} {w : World} (ht : NRd w w.heap.size tv ts) (hl : ERd w w.heap.size lv l) (hp : Pow10 w.heap.size w)
    (HO : Calls Tryd.prog 18 #[tv, lv] w fun e w' => Below w.heap.size w w' ∧ ∃ v, e = .returned (.tuple #[v, .int .i64 (openE ts l)])) :
    Calls Tryd.prog 6 #[tv, lv] w fun e w' => Below w.heap.size w w' ∧ ((openE ts l ≠ 0 ∧ e = .returned (.tuple #[.slice none 0 0, .int .i64 (openE ts l)])) ∨ (openE ts l = 0 ∧ ∃ g, e = .returned (.tuple #[.slice (some ⟨g, 0, none⟩) ts.length ts.length, .int .i64 0]) ∧ BTab w' g ts.length (pB ts l))) := by
  have HO' := HO
  clear HO
  have HO := Lib.hid HO'
  clear HO'
  obtain ⟨At, capt, rfl, m1, m2⟩ := ht.is
  obtain ⟨Al, capl, rfl, -, -⟩ := hl.is
  unfold maxLen at m2
  have HT := Lib.hid (And.intro ht (And.intro hl hp))
  obtain ⟨tl, htl⟩ : ∃ tl, tl = ts.length := ⟨_, rfl⟩
  obtain ⟨L, hL⟩ : ∃ L, L = l.length := ⟨_, rfl⟩
  rw [← htl, ← hL] at HO HT
  rw [← htl] at m1
  rw [← htl, ← hL]
  have HLL := Lib.hid htl
  clear ht hl hp htl hL
  obtain ⟨E, hEE⟩ : ∃ E, E = openE ts l := ⟨_, rfl⟩
  rw [← hEE] at HO ⊢
  have HEE := Lib.hid hEE
  clear hEE
  go_enter Tryd.func6, Tryd.ntmps6
  go_wp2_with fail
  refine HO.out.mono ?_
  rintro e w1 ⟨hb1, v, rfl⟩
  have H1 := Lib.hid hb1
  clear hb1 HO
  by_cases hE : E = 0
  · subst hE
    have h0 := openE_zero HEE.out.symm
    have htl4 : tl ≤ 4 := by
      have h1 := (calls_zero h0.1).1
      unfold typesB at h1
      rw [Bool.and_eq_true, decide_eq_true_iff] at h1
      rw [HLL.out]
      exact h1.1.2
    have hmk := made_bools tl tl rfl (by omega) w1
    have H0 := Lib.hid (And.intro h0.1 htl4)
    clear h0
    go_wp2_with fail
    clear hmk
    obtain ⟨G, hG⟩ : ∃ G, G = w1.heap.size := ⟨_, rfl⟩
    have hst : Below w.heap.size w (w1.alloc (.cells (bitCs tl fun _ => false) 4)) := H1.out.alloc H1.out.size _
    have hbt : BTab (w1.alloc (.cells (bitCs tl fun _ => false) 4)) w1.heap.size tl (fun j => decide (j < 0) && pB ts l j) := (Lies.new _ _ _).cast (by congr 1)
    rw [← hG] at hbt ⊢
    have HG := Lib.hid (show w.heap.size ≤ G by rw [hG]; exact H1.out.size)
    have HS := Lib.hid (And.intro hst hbt)
    clear hst hbt hG
    generalize w1.alloc (.cells (bitCs tl fun _ => false) 4) = W at HS ⊢
    go_loopw [27] (fun i wr => ∃ k : Nat, k ≤ tl ∧ i = .int .i64 k ∧ Below w.heap.size w wr ∧ BTab wr G tl (fun j => decide (j < k) && pB ts l j))
      (fun i _ => tl - (intOf i).toNat)
    case atStart => exact ⟨0, Nat.zero_le _, rfl, HS.out.1, HS.out.2⟩
    case round =>
      obtain ⟨k, hk, rfl, hbr, hB⟩ := hrel
      by_cases hlt : k < tl
      · have HB := Lib.hid (And.intro hbr hB)
        have HL := lleast_any ((HT.out.1.below hbr).mono hbr.size) ((HT.out.2.1.below hbr).mono hbr.size) ((HT.out.2.2.on hbr).mono hbr.size) H0.out.1 (q := (k : Int)) ⟨by omega, by rw [← HLL.out]; omega⟩
        rw [openE_part HEE.out.symm] at HL
        have HL := Lib.hid HL
        clear hbr hB
        go_wp2_with fail
        refine HL.out.mono ?_
        rintro e w2 ⟨hb2, u, B, rfl, -, -, -⟩
        have H2 := Lib.hid (HB.out.1.trans (hb2.mono HB.out.1.size))
        have hB2 : BTab w2 G tl (fun j => decide (j < k) && pB ts l j) := Lies.below HB.out.2 hb2 (Lies.lt HB.out.2)
        have hc2 := hB2.cell hlt
        have hf2 := Lies.frozen hB2 k
        have HB2 := Lib.hid hB2
        clear hb2 hB2
        go_wp2_with fail
        go_roundw
        case rel =>
          refine ⟨k + 1, by omega, by go_num, Below.setCell H2.out (show w.heap.size ≤ G from HG.out) _, ?_⟩
          have h9 := HB2.out.set_ k (pB ts l k)
          rwa [show (fun j => if j = k then pB ts l k else decide (j < k) && pB ts l j) = (fun j => decide (j < k + 1) && pB ts l j) by
            funext j
            by_cases e : j = k
            · subst e; rw [if_pos rfl, decide_eq_true (Nat.lt_succ_self j), Bool.true_and]
            · rw [if_neg e]
              congr 1
              rw [decide_eq_decide]
              omega] at h9
        case measure => simp [intOf]; omega
      · have : k = tl := by omega
        subst this
        go_wp2_with fail
        go_ret2
        refine ⟨hbr, G, rfl, ?_⟩
        have h9 : bitCs k (fun j => decide (j < k) && pB ts l j) = bitCs k (pB ts l) := by
          unfold bitCs
          apply Array.ext_getElem?
          intro j
          by_cases hj : j < k <;> simp [hj]
        exact Lies.cast hB h9
  · have hz : (E == 0) = false := by rw [beq_eq_false_iff_ne]; exact hE
    have HE := Lib.hid hE
    clear hE
    go_wp2_with fail
    go_ret2
    exact ⟨H1.out, .inl ⟨HE.out, rfl⟩⟩
theorem lparts_any {tv lv : Value} {ts : List Int} {l : List Ev} {w : World} (ht : NRd w w.heap.size tv ts) (hl : ERd w w.heap.size lv l) (hp : Pow10 w.heap.size w) :
    Calls Tryd.prog 6 #[tv, lv] w fun e w' => Below w.heap.size w w' ∧ ((openE ts l ≠ 0 ∧ e = .returned (.tuple #[.slice none 0 0, .int .i64 (openE ts l)])) ∨ (openE ts l = 0 ∧ ∃ g, e = .returned (.tuple #[.slice (some ⟨g, 0, none⟩) ts.length ts.length, .int .i64 0]) ∧ BTab w' g ts.length (pB ts l))) :=
  lparts_of ht hl hp ((lopen_any ht hl).mono fun _ _ h => ⟨h.1, h.2.imp fun _ h => h.1⟩)
end Go.Proofs.YtfgangkpebkicaaDoor

/-
  Plain: places at which nobody waits; how many stand ahead of each call.
-/
namespace Go.Proofs.YtfgangkpebkicaaDoor
open Go.RowKit
set_option maxRecDepth 20000
def Inc (cs : List Cl) : Prop := ∀ i j, i < j → j < cs.length → (cs.getD i default).frm < (cs.getD j default).frm
theorem Inc.step {ts : List Int} {n : Nat} {cs cs' : List Cl} {x : Ev} (ht : Tidy n cs) (h : Inc cs) (hs : step ts n cs x = .inr cs') : Inc cs' := by
  intro i j hij hj
  rcases step_ways hs with ⟨hk, k, hk2, _, _, ho, rfl, _⟩ | ⟨hk, _, rfl, _⟩
  · rw [List.length_set] at hj
    have := h i j hij hj
    have key : ∀ m, ((cs.set k { cs.getD k default with res := x.val, til := (n : Int) }).getD m default).frm = (cs.getD m default).frm := fun m => by
      rw [getD_set hk2]
      split
      · rename_i e; subst e; rfl
      · rfl
    rw [key, key]
    exact this
  · rw [List.length_append] at hj
    simp only [List.length_cons, List.length_nil, Nat.zero_add] at hj
    rw [getD_snoc, getD_snoc, if_pos (by omega)]
    by_cases e : j < cs.length
    · rw [if_pos e]
      exact h i j hij e
    · rw [if_neg e, if_pos (by omega)]
      have := (ht _ (List.mem_of_getElem? (getD_some (cs := cs) (i := i) (by omega)))).2.1
      exact this
theorem Inc.run {ts : List Int} : ∀ (l : List Ev) (n : Nat) (cs : List Cl), Tidy n cs → Inc cs → (run ts n cs l).2.2 = 0 → Inc (run ts n cs l).1
  | [], n, cs, _, h, _ => by rw [Go.Proofs.YtfgangkpebkicaaDoor.run]; exact h
  | x :: r, n, cs, ht, h, h0 => by
    rw [Go.Proofs.YtfgangkpebkicaaDoor.run] at h0 ⊢
    cases hs : Go.Proofs.YtfgangkpebkicaaDoor.step ts n cs x with
    | inl e => rw [hs] at h0; exact absurd h0 (step_err hs)
    | inr cs' =>
      rw [hs] at h0
      simp only at h0 ⊢
      exact Inc.run r (n + 1) cs' (step_tidy ht hs) (h.step ht hs) h0
end Go.Proofs.YtfgangkpebkicaaDoor

/-
  append(s, x): s the call's own row of integers, x one more in a block of its own; append(s, t..): s new and empty, t any slice of integers.
-/
namespace Go.Proofs.YtfgangkpebkicaaDoor
open Go.RowKit
set_option maxRecDepth 20000
/-- A slice of the call's own (in blocks from B on) that holds these numbers. -/
def NOwn (w : World) (B : Nat) (v : Value) (l : List Int) : Prop := w.ownsRow B 3 1 v l.length (l.flatMap intCs)
theorem NOwn.rd {w : World} {B : Nat} {v : Value} {l : List Int} (h : NOwn w B v l) : NRd w w.heap.size v l := LRd.of_own (fun _ => rfl) h
theorem NOwn.nil (w : World) (B : Nat) : NOwn w B (.slice none 0 0) [] := World.ownsRow_nil _ _ _ _
theorem NOwn.below {w w' : World} {B : Nat} {v : Value} {l : List Int} (h : NOwn w B v l) (hb : Below w.heap.size w w') : NOwn w' B v l := by
  refine ⟨h.1, h.2.elim (fun h => .inl h) fun ⟨g, cap, cur, h1, h2, h3, h4, h5, h6, h7⟩ => .inr ⟨g, cap, cur, h1, h2, ?_, h4, h5, h6, h7⟩⟩
  rw [hb.block g (Array.getElem?_eq_some_iff.1 h3).1]
  exact h3
theorem NOwn.alloc {w : World} {B : Nat} {v : Value} {l : List Int} (h : NOwn w B v l) (o : Obj) : NOwn (w.alloc o) B v l := h.below ((Below.refl _ _).alloc (Nat.le_refl _) o)
theorem run_app_int {W : World} {base G : Nat} {v : Value} {l : List Int} {y : Int} (ty : TypeId) (hown : NOwn W base v l) (hG : W.cell? ⟨G, 0, none⟩ = some (.int .i64 y)) (hlen : l.length ≤ 65536) (hbase : base ≤ W.heap.size) :
    ∃ v' w', (Builtin.append_ #[22, 22] ty #[v, .slice (some ⟨G, 0, none⟩) 1 1]).run Tryd.prog W = .ok v' w' ∧ NOwn w' base v' (l ++ [y]) ∧ Below base W w' := by
  obtain ⟨i0, hi, hz0, hz1, hz2⟩ := info_of info_int
  have hl := World.ownsRow.lt hown
  obtain ⟨v', w', hr, h2, h3, _⟩ := run_append_own (P := Tryd.prog) W base 22 ty 3 i0 (.int .i64 0) 1 8 Tryd.underlying22 hi hz0 hz1 hz2 rfl (by decide) v l.length (l.flatMap intCs) hown
    ⟨G, 0, none⟩ 1 1 (intCs y) rfl (fun j u hu => by
      rw [Addr.add_lit, Nat.zero_add]
      have hj : j = 0 := by
        have := (List.getElem?_eq_some_iff.1 hu).1
        simp at this
        omega
      subst hj
      simp only [List.getElem?_cons_zero, Option.some.injEq] at hu
      subst hu
      exact hG) (fun u hu => by
      simp only [List.mem_cons, List.not_mem_nil, or_false] at hu
      subst hu
      rfl) (by unfold maxLen; omega) (by omega) hbase
  refine ⟨v', w', hr, ?_, (Below.refl base W).grown h3 hbase (fun k hk => (hl k hk).1)⟩
  unfold NOwn
  rw [List.length_append, List.flatMap_append]
  simpa using h2
theorem wp_app_int {W : World} {o : Oper} {a : Act} {K : Act → World → Prop} {Q : Exit → Act → World → Prop} (s x : Operand)
    (ho : o.op = .call { callee := .builtin .append, args := #[s, x], argTypes := #[22, 22] })
    (base G : Nat) (v : Value) (l : List Int) (y : Int) (hs : a.eval s = v) (hx : a.eval x = .slice (some ⟨G, 0, none⟩) 1 1) (hown : NOwn W base v l) (hG : W.cell? ⟨G, 0, none⟩ = some (.int .i64 y)) (hlen : l.length ≤ 65536) (hbase : base ≤ W.heap.size)
    (h : ∀ v' w', NOwn w' base v' (l ++ [y]) → Below base W w' → K (a.put o.dst v') w') : Oper.wp Tryd.prog o a W K Q := by
  obtain ⟨v', w', hrun, r1, r2⟩ := run_app_int o.type hown hG hlen hbase
  unfold Oper.wp
  simp [execOp, ho, resolve, invoke, builtin, hs, hx, hrun, Result.andThen]
  exact h v' w' r1 r2
theorem wpList_app_int {W : World} {ops : Array Oper} {rest : List Oper} {o : Oper} {a : Act} {Q : Exit → Act → World → Prop} (hgd : o.guard = none) (s x : Operand)
    (ho : o.op = .call { callee := .builtin .append, args := #[s, x], argTypes := #[22, 22] })
    (base G : Nat) (v : Value) (l : List Int) (y : Int) (hs : a.eval s = v) (hx : a.eval x = .slice (some ⟨G, 0, none⟩) 1 1) (hown : NOwn W base v l) (hG : W.cell? ⟨G, 0, none⟩ = some (.int .i64 y)) (hlen : l.length ≤ 65536) (hbase : base ≤ W.heap.size)
    (h : ∀ v' w', NOwn w' base v' (l ++ [y]) → Below base W w' → wpList Tryd.prog ops Q rest (a.put o.dst v') w') : wpList Tryd.prog ops Q (o :: rest) a W :=
  wpList_plain hgd fun _ hK => wp_app_int s x ho base G v l y hs hx hown hG hlen hbase fun v' w' h1 h2 => hK _ _ (h v' w' h1 h2)
/-- Any slice of integers behind a row of one's own. -/
theorem run_app_ints {W : World} {base n cap : Nat} {v : Value} {A : Option Addr} {l ys : List Int} {B : Nat} (ty : TypeId) (hown : NOwn W base v l) (hr : NRd W B (.slice A n cap) ys) (hlen : l.length + ys.length ≤ 65536) (hbase : base ≤ W.heap.size) (hA : A ≠ none) :
    ∃ v' w', (Builtin.append_ #[22, 22] ty #[v, .slice A n cap]).run Tryd.prog W = .ok v' w' ∧ NOwn w' base v' (l ++ ys) ∧ Below base W w' := by
  obtain ⟨i0, hi, hz0, hz1, hz2⟩ := info_of info_int
  have hl := World.ownsRow.lt hown
  obtain ⟨A', cap', he, m1, m2, hc⟩ := hr
  injection he with e1 e2 e3
  subst e1 e2 e3
  cases A with
  | none => exact absurd rfl hA
  | some a =>
    have hlf : (ys.flatMap intCs).length = ys.length * 1 := flat_len (f := intCs) (s := 1) (fun _ => rfl) ys
    obtain ⟨v', w', hr, h2, h3, _⟩ := run_append_own (P := Tryd.prog) W base 22 ty 3 i0 (.int .i64 0) 1 8 Tryd.underlying22 hi hz0 hz1 hz2 rfl (by decide) v l.length (l.flatMap intCs) hown
      a ys.length cap (ys.flatMap intCs) hlf (fun j u hu => by
        have hj := (List.getElem?_eq_some_iff.1 hu).1
        rw [hlf] at hj
        obtain ⟨g, o, ha, _, hcell⟩ := hc (by omega)
        injection ha with ha
        subst ha
        have hx := List.getElem?_eq_getElem (show j < ys.length by omega)
        have hf := flat_at (l := ys) (f := intCs) (s := 1) (fun _ => rfl) hx (j := 0) rfl
        rw [Nat.mul_one, Nat.add_zero, hu] at hf
        injection hf with hf
        subst hf
        have := hcell j _ hx 0 _ rfl
        rw [Addr.add_lit]
        simpa using this) (fun u hu => by
        rw [List.mem_flatMap] at hu
        obtain ⟨x, _, hx⟩ := hu
        simp only [List.mem_cons, List.not_mem_nil, or_false] at hx
        subst hx
        rfl) (by unfold maxLen; omega) (by omega) hbase
    refine ⟨v', w', hr, ?_, (Below.refl base W).grown h3 hbase (fun k hk => (hl k hk).1)⟩
    unfold NOwn
    rw [List.length_append, List.flatMap_append]
    exact h2
end Go.Proofs.YtfgangkpebkicaaDoor

/-
  slices.Index and slices.Contains over any slice of integers.
-/
namespace Go.Proofs.YtfgangkpebkicaaDoor
open Go.RowKit
set_option maxRecDepth 20000
set_option maxHeartbeats 1000000 in
theorem indexN_any {B : Nat} {v : Value} {xs : List Int} {w : World} (h : NRd w B v xs) (x : Int) :
    Calls Tryd.prog 53 #[v, .int .i64 x] w fun e w' => ∃ r : Int, e = .returned (.int .i64 r) ∧ decide (0 ≤ r) = decide (x ∈ xs) ∧ Below w.heap.size w w' := by
  obtain ⟨A, cap, rfl, m1, m2⟩ := h.is
  unfold maxLen at m2
  obtain ⟨L, hL⟩ : ∃ L, L = xs.length := ⟨_, rfl⟩
  have HC := Lib.hid h
  have HLL := Lib.hid hL
  rw [← hL] at m1 ⊢
  clear h hL
  go_enter Tryd.func53, Tryd.ntmps53
  go_wp2_with fail
  go_loopw [8] (fun i wr => ∃ k : Nat, k ≤ L ∧ i = .int .i64 k ∧ (∀ (j : Nat) (y : Int), j < k → xs[j]? = some y → y ≠ x) ∧ Below w.heap.size w wr) (fun i _ => L - (intOf i).toNat)
  case atStart => exact ⟨0, by omega, rfl, fun j y hj => by omega, Below.refl _ _⟩
  case round =>
    obtain ⟨k, hk, rfl, ha, hb⟩ := hrel
    by_cases hkn : k < L
    · obtain ⟨y, hy⟩ : ∃ y, xs[k]? = some y := ⟨_, List.getElem?_eq_getElem (by rw [← HLL.out]; exact hkn)⟩
      have hr := HC.out
      rw [← HLL.out] at hr
      obtain ⟨g, o, rfl, hg, d0⟩ := hr.num hy
      have hgw : g < w.heap.size := World.block_lt_of_cell? w ⟨g, o + k, none⟩ d0
      have d1 : wr.cell? ⟨g, o + k, none⟩ = some (.int .i64 y) := (hb.cell (p := ⟨g, o + k, none⟩) hgw).trans d0
      have i1 : (0 : Int) ≤ (k : Int) := by omega
      have i2 : (k : Int) < (L : Int) := by omega
      have HA := Lib.hid (And.intro ha (And.intro hb hy))
      clear ha hb hy hr d0
      by_cases hxy : x = y
      · have hz : (x == y) = true := by rw [beq_iff_eq]; exact hxy
        have HX := Lib.hid hxy
        clear hxy
        go_wp2_with fail
        go_ret
        refine ⟨k, rfl, ?_, HA.out.2.1⟩
        rw [decide_eq_true i1]
        exact (decide_eq_true (by rw [HX.out]; exact List.mem_of_getElem? HA.out.2.2)).symm
      · have hz : (x == y) = false := by rw [beq_eq_false_iff_ne]; exact hxy
        have HX := Lib.hid hxy
        clear hxy
        go_wp2_with fail
        go_roundw
        case rel => exact ⟨k + 1, by omega, by go_num, fun j z hj hz => by
          rcases Nat.lt_or_ge j k with h | h
          · exact HA.out.1 j z h hz
          · obtain rfl : j = k := by omega
            rw [HA.out.2.2] at hz
            injection hz with hz
            subst hz
            exact fun e => HX.out e.symm, HA.out.2.1⟩
        case measure => simp [intOf]; omega
    · obtain rfl : k = L := by omega
      have HA := Lib.hid (And.intro ha hb)
      clear ha hb
      go_wp2_with fail
      go_ret
      refine ⟨-1, rfl, ?_, HA.out.2⟩
      rw [decide_eq_false (show ¬ (0 : Int) ≤ -1 by omega)]
      refine (decide_eq_false fun hm => ?_).symm
      obtain ⟨j, hj, e⟩ := List.getElem_of_mem hm
      exact HA.out.1 j x (by rw [HLL.out]; exact hj) (by rw [List.getElem?_eq_getElem hj, e]) rfl
theorem containsN_any {B : Nat} {v : Value} {xs : List Int} {w : World} (h : NRd w B v xs) (x : Int) :
    Calls Tryd.prog 26 #[v, .int .i64 x] w fun e w' => e = .returned (.bool (decide (x ∈ xs))) ∧ Below w.heap.size w w' := by
  have hi := indexN_any h x
  clear h
  go_enter Tryd.func26, Tryd.ntmps26
  go_wp2_with fail
  refine hi.mono ?_
  rintro e w1 ⟨r, rfl, hr, hb⟩
  have HB := Lib.hid (And.intro hb hr)
  clear hi hb hr
  by_cases h0 : (0 : Int) ≤ r
  · go_wp2_with fail
    go_ret
    exact ⟨ret_bool (by rw [← HB.out.2] <;> simp [h0]), HB.out.1⟩
  · go_wp2_with fail
    go_ret
    exact ⟨ret_bool (by rw [← HB.out.2] <;> simp [h0]), HB.out.1⟩
end Go.Proofs.YtfgangkpebkicaaDoor

/-
  Contract of the reference's Stepped: registers, tickets, queues, stacks.
-/
namespace Go.Proofs.YtfgangkpebkicaaDoor
open Go.RowKit
set_option maxRecDepth 20000
/-- What the reference answers: a state that reads so, the answer, the error. -/
def RefPost (w : World) (o : List Int × Int × Int) (e : Ending) (w' : World) : Prop :=
  ∃ v, e = .returned (.tuple #[v, .int .i64 o.2.1, .int .i64 o.2.2]) ∧ NRd w' w'.heap.size v o.1 ∧ Below w.heap.size w w'
theorem nrd_new (w : World) (x : Int) : NRd (w.alloc (.cells #[.int .i64 x] 3)) (w.heap.size + 1) (.slice (some ⟨w.heap.size, 0, none⟩) 1 1) [x] :=
  LRd.of_lit (f := intCs) (s := 1) (w := w) (l := [x]) (fun _ => rfl) 3 (cs := #[.int .i64 x]) rfl (n := 1) rfl (by unfold maxLen; omega)
theorem new_int (W : World) (t : TypeId) (y : Int) : (W.alloc (.cells #[.int .i64 y] t)).cell? ⟨W.heap.size, 0, none⟩ = some (.int .i64 y) := new_cells W t [.int .i64 y] 0 _ rfl
theorem nrd_zero (w : World) (B : Nat) (A : Option Addr) {cap : Nat} (hm : cap ≤ maxLen) : NRd w B (.slice A 0 cap) [] := ⟨A, cap, rfl, Nat.zero_le _, hm, fun h => by simp at h⟩
theorem nrd_drewN {w : World} {B : Nat} {v : Value} {l : List Int} (h : NRd w B v l) (n : Nat) : NRd (w.drewN n) B v l := h
set_option maxHeartbeats 1000000 in
theorem ref1 {v : Value} {l : List Int} {w : World} (hr : NRd w w.heap.size v l) (arg : Int) : Calls Tryd.prog 46 #[v, .int .i64 1, .int .i64 arg] w (RefPost w (stepped l 1 arg)) := by
  obtain ⟨A, cap, rfl, m1, m2⟩ := hr.is
  unfold maxLen at m2
  clear hr
  go_enter Tryd.func46, Tryd.ntmps46
  go_wp2_with fail
  go_ret3
  exact ⟨_, rfl, (nrd_new w arg).mono (by simp), (Below.refl _ _).alloc (Nat.le_refl _) _⟩
set_option maxHeartbeats 1000000 in
theorem ref2 {v : Value} {l : List Int} {w : World} (hr : NRd w w.heap.size v l) (arg : Int) (h0 : 0 < l.length) : Calls Tryd.prog 46 #[v, .int .i64 2, .int .i64 arg] w (RefPost w (stepped l 2 arg)) := by
  obtain ⟨A, cap, rfl, m1, m2⟩ := hr.is
  unfold maxLen at m2
  have e : stepped l 2 arg = (l, l.getD 0 0, 0) := rfl
  rw [e]
  have hx : l[0]? = some (l.getD 0 0) := by rw [List.getD_eq_getElem?_getD, List.getElem?_eq_getElem h0]; rfl
  obtain ⟨g, o, rfl, hg, d0⟩ := hr.num hx
  rw [Nat.add_zero] at d0
  have HR := Lib.hid hr
  clear e hr hx
  generalize l.getD 0 0 = y at d0 ⊢
  go_enter Tryd.func46, Tryd.ntmps46
  go_wp2_with fail
  go_quiet (fail)
  go_wp2_with fail
  go_ret3
  exact ⟨_, rfl, HR.out, belowN (Below.refl _ _) _⟩
set_option maxHeartbeats 1000000 in
theorem ref10 {v : Value} {l : List Int} {w : World} (hr : NRd w w.heap.size v l) (arg : Int) (h0 : l.length = 1) (h1 : 0 ≤ l.getD 0 0) (h2 : l.getD 0 0 ≤ 1000) : Calls Tryd.prog 46 #[v, .int .i64 10, .int .i64 arg] w (RefPost w (stepped l 10 arg)) := by
  obtain ⟨A, cap, rfl, m1, m2⟩ := hr.is
  unfold maxLen at m2
  have e : stepped l 10 arg = if l.getD 0 0 = 1000 then ([], 0, 2) else ([l.getD 0 0 + 1], l.getD 0 0, 0) := rfl
  rw [e]
  have hx : l[0]? = some (l.getD 0 0) := by rw [List.getD_eq_getElem?_getD, List.getElem?_eq_getElem (by omega)]; rfl
  obtain ⟨g, o, rfl, hg, d0⟩ := hr.num hx
  rw [Nat.add_zero] at d0
  clear e hr hx
  generalize l.getD 0 0 = y at d0 h1 h2 ⊢
  rw [h0] at m1 ⊢
  by_cases hy : y = 1000
  · rw [if_pos hy]
    subst hy
    go_enter Tryd.func46, Tryd.ntmps46
    go_wp2_with fail
    go_ret3
    exact ⟨_, rfl, LRd.nil _ _, Below.refl _ _⟩
  · rw [if_neg hy]
    have hz : (y == 1000) = false := by rw [beq_eq_false_iff_ne]; exact hy
    have hw : IntKind.i64.wrap (y + 1) = y + 1 := IntWalk.i64_in _ (by omega)
    clear hy
    go_enter Tryd.func46, Tryd.ntmps46
    go_wp2_with fail
    go_region
    go_wp2_with fail
    go_ret3
    exact ⟨_, rfl, nrd_drewN ((nrd_new w (y + 1)).mono (by simp)) 1, ((Below.refl _ _).alloc (Nat.le_refl _) _).drew⟩
set_option maxHeartbeats 2000000 in
theorem ref3 {v : Value} {l : List Int} {w : World} (hr : NRd w w.heap.size v l) (arg : Int) (hn : l.length ≤ 50) : Calls Tryd.prog 46 #[v, .int .i64 3, .int .i64 arg] w (RefPost w (stepped l 3 arg)) := by
  obtain ⟨A, cap, rfl, m1, m2⟩ := hr.is
  unfold maxLen at m2
  have e : stepped l 3 arg = if l.length = 50 then ([], 0, 2) else (insAt l l.length arg, 0, 0) := rfl
  rw [e]
  clear e
  by_cases h50 : l.length = 50
  · rw [if_pos h50]
    have hz : ((l.length : Int) == 50) = true := by rw [beq_iff_eq]; omega
    clear h50 hn hr
    go_enter Tryd.func46, Tryd.ntmps46
    go_wp2_with fail
    go_ret3
    exact ⟨_, rfl, LRd.nil _ _, Below.refl _ _⟩
  · rw [if_neg h50]
    have hz : ((l.length : Int) == 50) = false := by rw [beq_eq_false_iff_ne]; omega
    have hi : insAt l l.length arg = l ++ [arg] := by simp [insAt]
    rw [hi]
    have hempty : NOwn (w.alloc (.cells #[] 3)) w.heap.size (.slice (some ⟨w.heap.size, 0, none⟩) 0 0) [] := ⟨rfl, .inr ⟨w.heap.size, 0, #[], rfl, Nat.le_refl _, heap_alloc_new w _, Nat.le_refl _, by unfold maxLen; omega, rfl, rfl⟩⟩
    have hr1 : NRd (w.alloc (.cells #[] 3)) w.heap.size (.slice A l.length cap) l := hr.below ((Below.refl _ _).alloc (Nat.le_refl _) _)
    cases A with
    | none =>
      have h0 : l = [] := by
        apply List.length_eq_zero_iff.1
        apply Classical.byContradiction
        intro hp
        obtain ⟨g, o, hA, _⟩ := hr.ints (by omega)
        cases hA
      subst h0
      have hsrc : Src Tryd.prog 1 22 (.slice none 0 cap) 0 [] (w.alloc (.cells #[] 3)) := Src.ofNil _ Tryd.underlying22 cap
      have HO := Lib.hid (And.intro hempty ((Below.refl w.heap.size w).alloc (Nat.le_refl _) (.cells #[] 3)))
      clear hempty hr1 hr h50 hn hi
      go_enter Tryd.func46, Tryd.ntmps46
      go_wp2_with (first | (at_builtin; refine wpList_append_room1 _ rfl (.tmp 63) (.tmp 64) 22 22 rfl 3 _ _ Tryd.underlying22 info_int w.heap.size 0 0 0 rfl _ rfl 0 [] hsrc (by omega) (fun j hj => by simp at hj) (fun j hj => by simp at hj) ?_) | (at_builtin; refine wpList_app_int rfl (.tmp 65) (.tmp 67) rfl w.heap.size (w.alloc (.cells #[] 3)).heap.size _ [] arg rfl rfl (HO.out.1.alloc (.cells #[.int .i64 arg] 3)) (new_int (w.alloc (.cells #[] 3)) 3 arg) (by simp) (by show w.heap.size ≤ ((w.alloc (.cells #[] 3)).alloc (.cells #[.int .i64 arg] 3)).heap.size; simp; omega) ?_; intro v2 w2 ho2 hb2))
      go_ret3
      exact ⟨_, rfl, ho2.rd, (HO.out.2.alloc HO.out.2.size _).trans hb2⟩
    | some a =>
      obtain ⟨v1, w1, hrun, ho1, hb1⟩ := run_app_ints 22 hempty hr1 (by simp; omega) (by simp) (by simp)
      rw [List.nil_append] at ho1
      have HO := Lib.hid (And.intro ho1 (((Below.refl w.heap.size w).alloc (Nat.le_refl _) (.cells #[] 3)).trans hb1))
      have HRUN := Lib.hid hrun
      have HN := Lib.hid hn
      clear hempty hr1 hr h50 hn hi ho1 hb1 hrun
      go_enter Tryd.func46, Tryd.ntmps46
      go_wp2_with (first | (at_builtin; refine Lib.wpList_append_run _ rfl (.tmp 63) (.tmp 64) _ _ rfl _ _ rfl rfl v1 w1 HRUN.out ?_) | (at_builtin; refine wpList_app_int rfl (.tmp 65) (.tmp 67) rfl w.heap.size w1.heap.size _ l arg rfl rfl (HO.out.1.alloc (.cells #[.int .i64 arg] 3)) (new_int w1 3 arg) (by have := HN.out; omega) (by have := HO.out.2.size; simp; omega) ?_; intro v2 w2 ho2 hb2))
      go_ret3
      exact ⟨_, rfl, ho2.rd, (HO.out.2.alloc HO.out.2.size _).trans hb2⟩
set_option maxHeartbeats 2000000 in
theorem ref5 {v : Value} {l : List Int} {w : World} (hr : NRd w w.heap.size v l) (arg : Int) (hn : l.length ≤ 50) : Calls Tryd.prog 46 #[v, .int .i64 5, .int .i64 arg] w (RefPost w (stepped l 5 arg)) := by
  obtain ⟨A, cap, rfl, m1, m2⟩ := hr.is
  unfold maxLen at m2
  have e : stepped l 5 arg = if l.length = 50 then ([], 0, 2) else (insAt l l.length arg, 0, 0) := rfl
  rw [e]
  clear e
  by_cases h50 : l.length = 50
  · rw [if_pos h50]
    have hz : ((l.length : Int) == 50) = true := by rw [beq_iff_eq]; omega
    clear h50 hn hr
    go_enter Tryd.func46, Tryd.ntmps46
    go_wp2_with fail
    go_ret3
    exact ⟨_, rfl, LRd.nil _ _, Below.refl _ _⟩
  · rw [if_neg h50]
    have hz : ((l.length : Int) == 50) = false := by rw [beq_eq_false_iff_ne]; omega
    have hi : insAt l l.length arg = l ++ [arg] := by simp [insAt]
    rw [hi]
    have hempty : NOwn (w.alloc (.cells #[] 3)) w.heap.size (.slice (some ⟨w.heap.size, 0, none⟩) 0 0) [] := ⟨rfl, .inr ⟨w.heap.size, 0, #[], rfl, Nat.le_refl _, heap_alloc_new w _, Nat.le_refl _, by unfold maxLen; omega, rfl, rfl⟩⟩
    have hr1 : NRd (w.alloc (.cells #[] 3)) w.heap.size (.slice A l.length cap) l := hr.below ((Below.refl _ _).alloc (Nat.le_refl _) _)
    cases A with
    | none =>
      have h0 : l = [] := by
        apply List.length_eq_zero_iff.1
        apply Classical.byContradiction
        intro hp
        obtain ⟨g, o, hA, _⟩ := hr.ints (by omega)
        cases hA
      subst h0
      have hsrc : Src Tryd.prog 1 22 (.slice none 0 cap) 0 [] (w.alloc (.cells #[] 3)) := Src.ofNil _ Tryd.underlying22 cap
      have HO := Lib.hid (And.intro hempty ((Below.refl w.heap.size w).alloc (Nat.le_refl _) (.cells #[] 3)))
      clear hempty hr1 hr h50 hn hi
      go_enter Tryd.func46, Tryd.ntmps46
      go_wp2_with (first | (at_builtin; refine wpList_append_room1 _ rfl (.tmp 63) (.tmp 64) 22 22 rfl 3 _ _ Tryd.underlying22 info_int w.heap.size 0 0 0 rfl _ rfl 0 [] hsrc (by omega) (fun j hj => by simp at hj) (fun j hj => by simp at hj) ?_) | (at_builtin; refine wpList_app_int rfl (.tmp 65) (.tmp 67) rfl w.heap.size (w.alloc (.cells #[] 3)).heap.size _ [] arg rfl rfl (HO.out.1.alloc (.cells #[.int .i64 arg] 3)) (new_int (w.alloc (.cells #[] 3)) 3 arg) (by simp) (by show w.heap.size ≤ ((w.alloc (.cells #[] 3)).alloc (.cells #[.int .i64 arg] 3)).heap.size; simp; omega) ?_; intro v2 w2 ho2 hb2))
      go_ret3
      exact ⟨_, rfl, ho2.rd, (HO.out.2.alloc HO.out.2.size _).trans hb2⟩
    | some a =>
      obtain ⟨v1, w1, hrun, ho1, hb1⟩ := run_app_ints 22 hempty hr1 (by simp; omega) (by simp) (by simp)
      rw [List.nil_append] at ho1
      have HO := Lib.hid (And.intro ho1 (((Below.refl w.heap.size w).alloc (Nat.le_refl _) (.cells #[] 3)).trans hb1))
      have HRUN := Lib.hid hrun
      have HN := Lib.hid hn
      clear hempty hr1 hr h50 hn hi ho1 hb1 hrun
      go_enter Tryd.func46, Tryd.ntmps46
      go_wp2_with (first | (at_builtin; refine Lib.wpList_append_run _ rfl (.tmp 63) (.tmp 64) _ _ rfl _ _ rfl rfl v1 w1 HRUN.out ?_) | (at_builtin; refine wpList_app_int rfl (.tmp 65) (.tmp 67) rfl w.heap.size w1.heap.size _ l arg rfl rfl (HO.out.1.alloc (.cells #[.int .i64 arg] 3)) (new_int w1 3 arg) (by have := HN.out; omega) (by have := HO.out.2.size; simp; omega) ?_; intro v2 w2 ho2 hb2))
      go_ret3
      exact ⟨_, rfl, ho2.rd, (HO.out.2.alloc HO.out.2.size _).trans hb2⟩
theorem getD_lt {l : List Int} {p : Nat} (hp : p < l.length) : l[p]? = some (l.getD p 0) := by rw [List.getD_eq_getElem?_getD, List.getElem?_eq_getElem hp]; rfl
theorem del_front (l : List Int) : delAt l 0 = l.drop 1 := by simp [delAt]
theorem del_back {l : List Int} (h : 0 < l.length) : delAt l (l.length - 1) = l.take (l.length - 1) := by
  unfold delAt
  rw [show l.length - 1 + 1 = l.length by omega, List.drop_length, List.append_nil]
set_option maxHeartbeats 2000000 in
theorem ref4 {v : Value} {l : List Int} {w : World} (hr : NRd w w.heap.size v l) (arg : Int) : Calls Tryd.prog 46 #[v, .int .i64 4, .int .i64 arg] w (RefPost w (stepped l 4 arg)) := by
  obtain ⟨A, cap, rfl, m1, m2⟩ := hr.is
  unfold maxLen at m2
  have e : stepped l 4 arg = if l.length = 0 then (l, -1, 0) else (delAt l 0, l.getD 0 0, 0) := rfl
  rw [e]
  clear e
  by_cases h0 : l.length = 0
  · rw [if_pos h0]
    have HR := Lib.hid hr
    have hz : ((l.length : Int) == 0) = true := by rw [beq_iff_eq]; omega
    clear hr h0
    go_enter Tryd.func46, Tryd.ntmps46
    go_wp2_with fail
    go_ret3
    exact ⟨_, rfl, HR.out, Below.refl _ _⟩
  · rw [if_neg h0, del_front]
    obtain ⟨g, o, rfl, hg, d0⟩ := hr.num (getD_lt (l := l) (p := 0) (by omega))
    rw [Nat.add_zero] at d0
    have hz : ((l.length : Int) == 0) = false := by rw [beq_eq_false_iff_ne]; omega
    have HD := Lib.hid (LRd.drop_ hr (k := 1) (by omega))
    generalize hL : l.length = L at HD h0 hz m1 ⊢
    have HLL := Lib.hid hL
    have i1 : ¬ (L : Int) < 1 := by omega
    have i2 : (0 : Int) < (L : Int) := by omega
    clear hr hL
    generalize l.getD 0 0 = y at d0 ⊢
    by_cases hc : cap = 1
    · subst hc
      obtain rfl : L = 1 := by omega
      go_enter Tryd.func46, Tryd.ntmps46
      go_wp2_with fail
      go_quiet (fail)
      go_wp2_with fail
      go_ret3
      have e : l.drop 1 = [] := List.drop_eq_nil_of_le (by rw [HLL.out]; omega)
      rw [e]
      exact ⟨_, rfl, nrd_zero _ _ _ (by unfold maxLen; omega), belowN (Below.refl _ _) _⟩
    · have hc' : (1 : Int) < (cap : Int) := by omega
      go_enter Tryd.func46, Tryd.ntmps46
      go_wp2_with fail
      go_quiet (fail)
      go_wp2_with fail
      go_ret3
      exact ⟨_, rfl, nrd_drewN HD.out _, belowN (Below.refl _ _) _⟩
set_option maxHeartbeats 2000000 in
theorem ref6 {v : Value} {l : List Int} {w : World} (hr : NRd w w.heap.size v l) (arg : Int) : Calls Tryd.prog 46 #[v, .int .i64 6, .int .i64 arg] w (RefPost w (stepped l 6 arg)) := by
  obtain ⟨A, cap, rfl, m1, m2⟩ := hr.is
  unfold maxLen at m2
  have e : stepped l 6 arg = if l.length = 0 then (l, -1, 0) else (delAt l (l.length - 1), l.getD (l.length - 1) 0, 0) := rfl
  rw [e]
  clear e
  by_cases h0 : l.length = 0
  · rw [if_pos h0]
    have HR := Lib.hid hr
    have hz : ((l.length : Int) == 0) = true := by rw [beq_iff_eq]; omega
    clear hr h0
    go_enter Tryd.func46, Tryd.ntmps46
    go_wp2_with fail
    go_ret3
    exact ⟨_, rfl, HR.out, Below.refl _ _⟩
  · rw [if_neg h0, del_back (by omega)]
    obtain ⟨g, o, rfl, hg, d0⟩ := hr.num (getD_lt (l := l) (p := l.length - 1) (by omega))
    have hz : ((l.length : Int) == 0) = false := by rw [beq_eq_false_iff_ne]; omega
    have HD := Lib.hid (LRd.take_ hr (n := l.length - 1) (by omega))
    generalize l.getD (l.length - 1) 0 = y at d0 ⊢
    generalize hL : l.length = L at HD h0 hz m1 d0 ⊢
    have i1 : (0 : Int) ≤ (L : Int) - 1 := by omega
    have i2 : (L : Int) - 1 < (L : Int) := by omega
    have i3 : (L : Int) - 1 ≤ (cap : Int) := by omega
    have hw : IntKind.i64.wrap ((L : Int) - 1) = (L : Int) - 1 := IntWalk.i64_in _ (by omega)
    have ht : ((L : Int) - 1).toNat = L - 1 := by omega
    clear hr hL
    go_enter Tryd.func46, Tryd.ntmps46
    go_wp2_with fail
    go_quiet (fail)
    go_wp2_with fail
    go_ret3
    exact ⟨_, rfl, nrd_drewN HD.out _, belowN (Below.refl _ _) _⟩
end Go.Proofs.YtfgangkpebkicaaDoor

/-
  Contracts of package seq's faces: Right, Find, Calm, Quiet.
-/
namespace Go.Proofs.YtfgangkpebkicaaDoor
open Go.RowKit
set_option maxRecDepth 20000
theorem TOwn.lower {w : World} {B B' : Nat} {v : Value} {l : List (Int × Int)} (h : TOwn w B v l) (hB : B' ≤ B) : TOwn w B' v l :=
  ⟨h.1, h.2.imp (fun h => h) fun ⟨g, cap, cur, h1, h2, h3⟩ => ⟨g, cap, cur, h1, Nat.le_trans hB h2, h3⟩⟩
theorem NOwn.lower {w : World} {B B' : Nat} {v : Value} {l : List Int} (h : NOwn w B v l) (hB : B' ≤ B) : NOwn w B' v l :=
  ⟨h.1, h.2.imp (fun h => h) fun ⟨g, cap, cur, h1, h2, h3⟩ => ⟨g, cap, cur, h1, Nat.le_trans hB h2, h3⟩⟩
end Go.Proofs.YtfgangkpebkicaaDoor

/-
  An operation that its guard passes by, in a region that draws its order.
-/
namespace Go.Proofs.YtfgangkpebkicaaDoor
set_option maxRecDepth 20000
/-- What may be passed by: its guard says so. -/
theorem skipAt (i d : Nat) {P : Program} {md : Region.Mode} {Q : Exit → Act → World → Prop} {ops : Array Oper} {S : World → Prop} {oi : Oper} {fuel : Nat} {listed : Array Bool} {a : Act} {w : World} (hi : ops[i]? = some oi) (hd : oi.dst = some d)
    (hs : Region.noSelect ops = true) (hf : Region.free md ops listed i = true) (hr : (Region.ready md ops listed).contains i = true)
    (hQ : ∀ c a w, Q (.panic c) (a.put (some d) undef) w → Q (.panic c) a w) (hy : Region.wanted oi (yielded ops a.tmps) = false) (hS : S w)
    (h : wpAnyH P md ops Q S fuel (listed.setIfInBounds i true) (a.put (some d) undef) w) : wpAnyH P md ops Q S (fuel + 1) listed a w := by
  rw [← hd] at hQ h
  exact wpAnyH_take hi hs hf hr hQ (.inr ⟨hy, rfl⟩) hS h
end Go.Proofs.YtfgangkpebkicaaDoor

/-
  append of events: any slice of such behind a row of one's own; slices.Clone over such.
-/
namespace Go.Proofs.YtfgangkpebkicaaDoor
open Go.RowKit
set_option maxRecDepth 20000
theorem EOwn.nil (w : World) (B : Nat) : EOwn w B (.slice none 0 0) [] := World.ownsRow_nil _ _ _ _
theorem EOwn.below {w w' : World} {B : Nat} {v : Value} {l : List Ev} (h : EOwn w B v l) (hb : Below w.heap.size w w') : EOwn w' B v l := by
  refine ⟨h.1, h.2.elim (fun h => .inl h) fun ⟨g, cap, cur, h1, h2, h3, h4, h5, h6, h7⟩ => .inr ⟨g, cap, cur, h1, h2, ?_, h4, h5, h6, h7⟩⟩
  rw [hb.block g (Array.getElem?_eq_some_iff.1 h3).1]
  exact h3
end Go.Proofs.YtfgangkpebkicaaDoor

/-
  Plain mathematics for history.place: events put where calls say.
-/
namespace Go.Proofs.YtfgangkpebkicaaDoor
open Go.RowKit
set_option maxRecDepth 20000
/-- A whole event is written. -/
theorem flat_put : ∀ (es : List Ev) (q : Nat) (e : Ev), q < es.length → ((((es.flatMap evCs).set (q * 4) (.int .i64 e.who)).set (q * 4 + 1) (.int .i64 e.thing)).set (q * 4 + 2) (.int .i64 e.kind)).set (q * 4 + 3) (.int .i64 e.val) = (es.set q e).flatMap evCs
  | [], q, e, h => by simp at h
  | z :: r, 0, e, _ => by simp [List.flatMap_cons]
  | z :: r, q + 1, e, h => by
    have h' : q < r.length := by simpa using h
    have ih := flat_put r q e h'
    rw [List.flatMap_cons, List.set_cons_succ, List.flatMap_cons, ← ih]
    have e0 : (q + 1) * 4 = (evCs z).length + q * 4 := by simp; omega
    rw [e0, show (evCs z).length + q * 4 + 1 = (evCs z).length + (q * 4 + 1) by omega, show (evCs z).length + q * 4 + 2 = (evCs z).length + (q * 4 + 2) by omega, show (evCs z).length + q * 4 + 3 = (evCs z).length + (q * 4 + 3) by omega]
    simp only [List.set_append_right _ _ (Nat.le_add_right _ _), Nat.add_sub_cancel_left]
end Go.Proofs.YtfgangkpebkicaaDoor

/-
  Rows of events of the call's own: a cell is read, a cell is written.
-/
namespace Go.Proofs.YtfgangkpebkicaaDoor
open Go.RowKit
set_option maxRecDepth 20000
/-- One cell of a row of one's own is written. -/
theorem own_set {w : World} {B s n cap : Nat} {t : TypeId} {g : Nat} {xs : List Value} (h : w.ownsRow B t s (.slice (some ⟨g, 0, none⟩) n cap) n xs) (j : Nat) (u : Value) : (w.setCell ⟨g, j, none⟩ u).ownsRow B t s (.slice (some ⟨g, 0, none⟩) n cap) n (xs.set j u) := by
  refine ⟨by rw [List.length_set]; exact h.1, ?_⟩
  rcases h.2 with ⟨h', _⟩ | ⟨g', cap', cur, h', hB, hg, h1, h2, h3, h4⟩
  · simp at h'
  · simp only [Value.slice.injEq, Option.some.injEq, Addr.mk.injEq, and_true, true_and] at h'
    obtain ⟨rfl, rfl⟩ := h'
    refine .inr ⟨g, cap, cur.setIfInBounds j u, rfl, hB, Lies.set_ hg j u, h1, h2, by simpa using h3, ?_⟩
    rw [← h4, Array.toList_setIfInBounds, List.take_set]
theorem EOwn.drew {w : World} {B : Nat} {v : Value} {l : List Ev} (h : EOwn w B v l) : EOwn w.drew B v l := h
end Go.Proofs.YtfgangkpebkicaaDoor

/-
  The walk of the law SearchLater.
-/
namespace Go.Proofs.YtfgangkpebkicaaDoor
open Go.RowKit
set_option maxRecDepth 20000
/-- An event of a row of one's own is written. -/
theorem EOwn.put {w : World} {B g n cap q : Nat} {l : List Ev} (h : EOwn w B (.slice (some ⟨g, 0, none⟩) n cap) l) (hn : n = l.length) (hq : q < l.length) (e : Ev) :
    EOwn ((((w.setCell ⟨g, q * 4, none⟩ (.int .i64 e.who)).setCell ⟨g, q * 4 + 1, none⟩ (.int .i64 e.thing)).setCell ⟨g, q * 4 + 2, none⟩ (.int .i64 e.kind)).setCell ⟨g, q * 4 + 3, none⟩ (.int .i64 e.val)) B (.slice (some ⟨g, 0, none⟩) n cap) (l.set q e) := by
  subst hn
  unfold EOwn
  rw [List.length_set, ← flat_put l q e hq]
  exact own_set (own_set (own_set (own_set h _ _) _ _) _ _) _ _
end Go.Proofs.YtfgangkpebkicaaDoor

/-
  Plain: right orders by each one's own order: two events exchanged; all calls one behind the other.
-/
namespace Go.Proofs.YtfgangkpebkicaaDoor
open Go.RowKit
set_option maxRecDepth 20000
theorem range_self (ws : List (Int × Int)) : ws = (List.range ws.length).map fun i => ws.getD i default := by
  apply List.ext_getElem
  · simp
  · intro i h1 h2
    rw [List.getElem_map, List.getElem_range, List.getD_eq_getElem?_getD, List.getElem?_eq_getElem h1]
    rfl
end Go.Proofs.YtfgangkpebkicaaDoor
