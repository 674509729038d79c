/-
  Joined by a program out of: LParts, LOpen, CalmPure, AppInt, ContN.
-/
import Derived.Test.YtfgangkpebkicaaDoorMgAS
import Derived.Test.YtfgangkpebkicaaDoorMgAT
import Derived.Test.YtfgangkpebkicaaDoorMgAI
import Derived.Maps.RangeWalk
import Derived.Test.YtfgangkpebkicaaDoorMgAC
import Derived.Test.YtfgangkpebkicaaDoorMgAD
import Derived.Test.YtfgangkpebkicaaDoorMgAA

/-
  Contract of local.Parts, over a contract of local.open.
-/
namespace Go.Proofs.YtfgangkpebkicaaDoor
open Go.RowKit
set_option maxRecDepth 20000
/-- How many calls a thing has. -/
def ownN (cs : List Cl) (q : Int) : Nat := (cs.filter fun c => c.thing == q).length
/-- The error of package local about a history, or 0. -/
def openE (ts : List Int) (l : List Ev) : Int := if (callsOf ts l).2.2 ≠ 0 then (callsOf ts l).2.2 else if 12 < (callsOf ts l).1.length then 2 else if ((callsOf ts l).1.any fun c => decide (9 < ownN (callsOf ts l).1 c.thing)) = true then 2 else 0
theorem openE_zero {ts : List Int} {l : List Ev} (h : openE ts l = 0) : (callsOf ts l).2.2 = 0 ∧ (callsOf ts l).1.length ≤ 12 ∧ ∀ q, ownN (callsOf ts l).1 q ≤ 9 := by
  unfold openE at h
  split at h
  · rename_i h1; exact absurd h h1
  rename_i h1
  split at h
  · cases h
  rename_i h2
  split at h
  · cases h
  rename_i h3
  refine ⟨Classical.byContradiction h1, by omega, fun q => Classical.byContradiction fun hq => h3 ?_⟩
  rw [List.any_eq_true]
  have hpos : 0 < (((callsOf ts l).1).filter fun c => c.thing == q).length := by unfold ownN at hq; omega
  obtain ⟨c, hc⟩ := List.exists_mem_of_length_pos hpos
  rw [List.mem_filter, beq_iff_eq] at hc
  exact ⟨c, hc.1, by rw [decide_eq_true_iff, hc.2]; omega⟩
theorem openE_part {ts : List Int} {l : List Ev} (h : openE ts l = 0) (q : Int) : searchE (callsOf ts (partL l q)) = 0 := by
  obtain ⟨h1, _, h3⟩ := openE_zero h
  refine search_ok.2 ⟨part_ok h1 q, ?_⟩
  rw [(calls_part h1 q).1]
  unfold prt
  rw [List.length_map]
  exact h3 q
/-- Has the part of thing k a right order? -/
def pB (ts : List Int) (l : List Ev) (k : Nat) : Bool := foundB ts (callsOf ts (partL l (k : Int)))
end Go.Proofs.YtfgangkpebkicaaDoor

/-
  Contract of local.open; package local's Parts, whole.
-/
namespace Go.Proofs.YtfgangkpebkicaaDoor
open Go.RowKit Go.Maps
set_option maxRecDepth 20000
def LOpenPost (w : World) (cs : List Cl) (X : Int) (e : Ending) (w' : World) : Prop :=
  Below w.heap.size w w' ∧ ∃ v, e = .returned (.tuple #[v, .int .i64 X]) ∧ (X = 0 → CRd w' w'.heap.size v cs) ∧ (X ≠ 0 → v = .slice none 0 0)
theorem idxK_len (cs : List Cl) (q : Int) : (idxK cs q cs.length).length = ownN cs q := by
  have key : ∀ k, k ≤ cs.length → (idxK cs q k).length = ((cs.take k).filter fun c => c.thing == q).length := fun k => by
    induction k with
    | zero => intro _; rfl
    | succ k ih =>
      intro hk
      rw [idxK_succ, List.take_add_one, getD_some (show k < cs.length by omega), List.filter_append, List.length_append, ← ih (by omega)]
      generalize cs.getD k default = y
      by_cases h : y.thing = q
      · rw [if_pos h]; simp [h]
      · rw [if_neg h]; simp [h]
  rw [key _ (Nat.le_refl _), List.take_length]
  rfl
theorem row_slice {w : World} {base : Nat} {e : TypeId} {v : Value} {zs : List Int} (h : w.ownsInts base e .i64 v zs) : ∃ c : Option Addr × Nat × Nat, v = .slice c.1 c.2.1 c.2.2 ∧ c.2.1 = zs.length := by
  rcases h.1.2 with ⟨rfl, h0⟩ | ⟨g, cap, cur, rfl, _⟩
  · exact ⟨(none, 0, 0), rfl, h0.symm⟩
  · exact ⟨(_, _, _), rfl, rfl⟩
theorem lit_ne {a b : Int} (h : a ≠ b) : (Lit.int .i64 a).sameKey (.int .i64 b) = false := sameKey_ne fun e => h (by injection e)
set_option maxHeartbeats 4000000 in
theorem lopen_any {tv lv : Value} {ts : List Int} {l : List Ev} {w : World} (ht : NRd w w.heap.size tv ts) (hl : ERd w w.heap.size lv l) :
    Calls Tryd.prog 18 #[tv, lv] w (LOpenPost w (callsOf ts l).1 (openE ts l)) := by
  have HCL := Lib.hid (calls_any ht hl)
  have hse : openE ts l = if (callsOf ts l).2.2 ≠ 0 then (callsOf ts l).2.2 else if 12 < (callsOf ts l).1.length then 2 else if ((callsOf ts l).1.any fun c => decide (9 < ownN (callsOf ts l).1 c.thing)) = true then 2 else 0 := rfl
  have hth := @calls_thing ts l
  have hty := @calls_types ts l
  generalize openE ts l = X at hse ⊢
  generalize callsOf ts l = o at HCL hse hth hty ⊢
  have HSE := Lib.hid (And.intro hse (And.intro hth hty))
  clear hse hth hty
  obtain ⟨At, capt, rfl, -, -⟩ := ht.is
  obtain ⟨Al, capl, rfl, -, -⟩ := hl.is
  clear ht hl
  obtain ⟨tl, htl⟩ : ∃ tl, tl = ts.length := ⟨_, rfl⟩
  rw [← htl] at HCL HSE ⊢
  clear htl
  generalize l.length = L at HCL ⊢
  go_enter Tryd.func18, Tryd.ntmps18
  go_wp2_with fail
  refine HCL.out.mono ?_
  rintro e w1 ⟨v, rfl, hb1, hcr⟩
  obtain ⟨cs, at1, E⟩ := o
  obtain ⟨hse, hth, hty⟩ := HSE.out
  obtain ⟨A, c, rfl, -, hc9⟩ := hcr.is
  unfold maxLen at hc9
  simp only at hcr hse hth hty ⊢
  have HR := Lib.hid (And.intro hb1 hcr)
  obtain ⟨n, hn⟩ : ∃ n, n = cs.length := ⟨_, rfl⟩
  by_cases hE : E = 0
  · rw [if_neg (fun h => h hE)] at hse
    have hg := lgroup_any hcr
    subst hE
    rw [← hn] at HR hse hg ⊢
    by_cases h12 : 12 < n
    · rw [if_pos h12] at hse
      subst hse
      have i12 : (12 : Int) < (n : Int) := by omega
      clear h12 hg HCL hb1 hcr HSE hth hty hn
      go_wp2_with fail
      go_ret2
      exact ⟨HR.out.1, _, rfl, fun h => by omega, fun _ => rfl⟩
    · rw [if_neg h12] at hse
      have i12 : ¬ (12 : Int) < (n : Int) := by omega
      have HSE2 := Lib.hid hse
      have HG := Lib.hid (hg (by omega) (fun c hc => by have := hth c hc; have := hty rfl; omega))
      have HN := Lib.hid hn
      clear h12 hg HCL hb1 hcr HSE hth hty hn hse
      go_wp2_with fail
      refine HG.out.mono ?_
      rintro e w2 ⟨rfl, hb2, D, hD, hO⟩
      have H2 := Lib.hid (And.intro (HR.out.1.trans (hb2.mono HR.out.1.size)) ((HR.out.2.below hb2).mono hb2.size))
      have hlt1 : w1.heap.size < w2.heap.size := by
        obtain ⟨es, clock, h1, _⟩ := hO
        exact (Array.getElem?_eq_some_iff.1 h1).1
      have hlt0 := HR.out.1.size
      have HD := Lib.hid hD
      have hown : w2.ownsMap Tryd.prog 3 (rowElem (H := Unit) w2 (w1.heap.size + 1) 3 .i64) w1.heap.size n D := by
        obtain ⟨es, clock, h1, h2, h3, h4, _⟩ := hO
        exact ⟨es, clock, h1, h2, h3, h4⟩
      clear hb2 hD HG hO
      go_wp2_with (at_range; refine wpList_range_own _ rfl _ 60 rfl 3 22 keyed_int Tryd.underlying60 _ w1.heap.size n _ rfl hown ?_; intro w3 hrg3 hg3 hs3)
      have hstart : ∀ q : Int, 9 < ownN cs q → has D (.int .i64 q) = true := fun q hq => by
        cases hh : has D (.int .i64 q)
        · have h1 := atKey_of_not_has hh .nil
          rw [HD.out.2 q, if_neg (fun e => by have := idxK_len cs q; rw [← HN.out, e] at this; simp at this; omega)] at h1
          cases h1
        · rfl
      have HST := Lib.hid hstart
      have H3 := Lib.hid (And.intro hrg3 (And.intro hg3 hlt1))
      clear hown hrg3 hg3 hstart hs3
      go_frame
      go_loopw [27] (fun _ wr => ∃ (left : Lit → Bool) (cnt : Nat), wr.ranges Tryd.prog 3 (rowElem (H := Unit) w2 (w1.heap.size + 1) 3 .i64) w1.heap.size w2.heap.size n D left cnt ∧ Below w2.heap.size w2 wr ∧ ∀ q : Int, 9 < ownN cs q → left (.int .i64 q) = true) (fun _ wr => wr.rangeLeft w1.heap.size w2.heap.size)
      case atStart => exact ⟨_, _, H3.out.1, ⟨H3.out.2.1.os, H3.out.2.1.tape, H3.out.2.1.output, H3.out.2.1.size, fun k hk => H3.out.2.1.block k hk (by simp)⟩, HST.out⟩
      case round =>
        obtain ⟨left, cnt, hrg, hb, hbig⟩ := hrel
        have HRG := Lib.hid hrg
        have HBG := Lib.hid (And.intro hb hbig)
        clear hb hbig H3 HST
        go_wp2_with (at_next; refine wpList_next_ranges _ rfl _ rfl 3 keyed_int (rowElem (H := Unit) w2 (w1.heap.size + 1) 3 .i64) (Value.int .i64) (fun c : Option Addr × Nat × Nat => .slice c.1 c.2.1 c.2.2) (fun key kl hkey => by obtain ⟨x, rfl, _⟩ := Maps.keyOf_int_inv Tryd.underlying3 hkey; exact ⟨x, rfl⟩) (fun v y hv => by obtain ⟨zs, hz, _⟩ := rowElem_inv hv; obtain ⟨c, hc, _⟩ := row_slice hz; exact ⟨c, hc⟩) w1.heap.size w2.heap.size n _ _ _ rfl hrg ?_ ?_)
        · intro _ hl0
          have hx : X = 0 := by
            rw [HSE2.out]
            refine if_neg fun h => ?_
            obtain ⟨c, hc, h9⟩ := List.any_eq_true.1 h
            rw [decide_eq_true_iff] at h9
            have := HBG.out.2 _ h9
            rw [hl0] at this
            cases this
          subst hx
          have HZ := Lib.hid (And.intro (H2.out.1.trans (HBG.out.1.mono H2.out.1.size)) ((H2.out.2.below HBG.out.1).mono HBG.out.1.size))
          clear hl0 hrg
          go_wp2_with fail
          go_ret2
          exact ⟨HZ.out.1, _, rfl, fun _ => HZ.out.2, fun h => absurd rfl h⟩
        · intro x ca cn ck kl y1 y2 w4 cnt4 hkey hlx hRy hat hrg4 hlt4 hg4 hs4 hen
          obtain ⟨x', hx', hkl, hwf⟩ := Maps.keyOf_int_inv Tryd.underlying3 hkey
          injection hx' with _ hx'
          subst hx'
          subst hkl
          obtain ⟨zs, hz, hyz⟩ := rowElem_inv hRy
          injection hyz with hy1 hy2
          subst hy1
          obtain ⟨c2, hc2, hcl⟩ := row_slice hz
          have hzs := HD.out.at_ (hat .nil) hz
          have hcn : cn = ownN cs x := by
            have e1 := idxK_len cs x
            rw [← HN.out, ← hzs] at e1
            injection hc2 with _ h2 _
            rw [h2, hcl, e1]
          have hb4 : Below w2.heap.size w2 w4 := HBG.out.1.trans ⟨hg4.os, hg4.tape, hg4.output, hg4.size, fun k hk => hg4.block k (Nat.lt_of_lt_of_le hk HBG.out.1.size) (fun e => by injection e with e; omega)⟩
          have HX := Lib.hid (And.intro hb4 (And.intro hrg4 (And.intro hlt4 hcn)))
          have hnm : cn ≤ 9223372036854775807 := by
            have h1 : zs.length ≤ n := by
              rw [hzs]
              unfold idxK
              rw [List.length_map]
              exact Nat.le_trans (List.length_filter_le _ _) (by simp)
            rw [hcn, ← idxK_len, ← HN.out, ← hzs]
            omega
          clear hRy hy2 hat hz hc2 hcl hzs hb4 hrg4 hlt4 hcn hg4 hs4 hkey hlx hwf hrg
          by_cases h9 : 9 < cn
          · have hx : X = 2 := by
              rw [HSE2.out]
              refine if_pos (List.any_eq_true.2 ?_)
              have hpos : 0 < ((cs.filter fun c => c.thing == x)).length := by
                have := HX.out.2.2.2
                unfold ownN at this
                omega
              obtain ⟨c, hc⟩ := List.exists_mem_of_length_pos hpos
              rw [List.mem_filter, beq_iff_eq] at hc
              exact ⟨c, hc.1, by rw [decide_eq_true_iff, hc.2, ← HX.out.2.2.2]; exact h9⟩
            subst hx
            have i9 : (9 : Int) < (cn : Int) := by omega
            have HZ := Lib.hid (H2.out.1.trans (HX.out.1.mono H2.out.1.size))
            clear h9
            go_wp2_with fail
            go_ret2
            exact ⟨HZ.out, _, rfl, fun h => by omega, fun _ => rfl⟩
          · have i9 : ¬ (9 : Int) < (cn : Int) := by omega
            have H9 := Lib.hid h9
            clear h9
            go_wp2_with fail
            go_roundw
            case rel =>
              refine ⟨_, cnt4, HX.out.2.1, HX.out.1, fun q hq => ?_⟩
              rw [HBG.out.2 q hq, lit_ne (fun e => H9.out (by rw [HX.out.2.2.2, ← e]; exact hq))]
              rfl
            case measure => rw [HX.out.2.1.left_eq, HRG.out.left_eq]; exact HX.out.2.2.1
  · rw [if_pos hE] at hse
    subst hse
    have hz : (X != 0) = true := by rw [bne_iff_ne]; exact hE
    have HE := Lib.hid hE
    clear hE HCL hb1 hcr HSE hth hty hn
    go_wp2_with fail
    go_ret2
    exact ⟨HR.out.1, _, rfl, fun h => absurd h HE.out, fun _ => rfl⟩
end Go.Proofs.YtfgangkpebkicaaDoor

/-
  Plain: places at which nobody waits; how many stand ahead of each call.
-/
namespace Go.Proofs.YtfgangkpebkicaaDoor
open Go.RowKit
set_option maxRecDepth 20000
def Inc (cs : List Cl) : Prop := ∀ i j, i < j → j < cs.length → (cs.getD i default).frm < (cs.getD j default).frm
theorem Inc.step {ts : List Int} {n : Nat} {cs cs' : List Cl} {x : Ev} (ht : Tidy n cs) (h : Inc cs) (hs : step ts n cs x = .inr cs') : Inc cs' := by
  intro i j hij hj
  rcases step_ways hs with ⟨hk, k, hk2, _, _, ho, rfl, _⟩ | ⟨hk, _, rfl, _⟩
  · rw [List.length_set] at hj
    have := h i j hij hj
    have key : ∀ m, ((cs.set k { cs.getD k default with res := x.val, til := (n : Int) }).getD m default).frm = (cs.getD m default).frm := fun m => by
      rw [getD_set hk2]
      split
      · rename_i e; subst e; rfl
      · rfl
    rw [key, key]
    exact this
  · rw [List.length_append] at hj
    simp only [List.length_cons, List.length_nil, Nat.zero_add] at hj
    rw [getD_snoc, getD_snoc, if_pos (by omega)]
    by_cases e : j < cs.length
    · rw [if_pos e]
      exact h i j hij e
    · rw [if_neg e, if_pos (by omega)]
      have := (ht _ (List.mem_of_getElem? (getD_some (cs := cs) (i := i) (by omega)))).2.1
      exact this
theorem Inc.run {ts : List Int} : ∀ (l : List Ev) (n : Nat) (cs : List Cl), Tidy n cs → Inc cs → (run ts n cs l).2.2 = 0 → Inc (run ts n cs l).1
  | [], n, cs, _, h, _ => by rw [Go.Proofs.YtfgangkpebkicaaDoor.run]; exact h
  | x :: r, n, cs, ht, h, h0 => by
    rw [Go.Proofs.YtfgangkpebkicaaDoor.run] at h0 ⊢
    cases hs : Go.Proofs.YtfgangkpebkicaaDoor.step ts n cs x with
    | inl e => rw [hs] at h0; exact absurd h0 (step_err hs)
    | inr cs' =>
      rw [hs] at h0
      simp only at h0 ⊢
      exact Inc.run r (n + 1) cs' (step_tidy ht hs) (h.step ht hs) h0
end Go.Proofs.YtfgangkpebkicaaDoor

/-
  append(s, x): s the call's own row of integers, x one more in a block of its own; append(s, t..): s new and empty, t any slice of integers.
-/
namespace Go.Proofs.YtfgangkpebkicaaDoor
open Go.RowKit
set_option maxRecDepth 20000
/-- A slice of the call's own (in blocks from B on) that holds these numbers. -/
def NOwn (w : World) (B : Nat) (v : Value) (l : List Int) : Prop := w.ownsRow B 3 1 v l.length (l.flatMap intCs)
theorem NOwn.rd {w : World} {B : Nat} {v : Value} {l : List Int} (h : NOwn w B v l) : NRd w w.heap.size v l := LRd.of_own (fun _ => rfl) h
theorem NOwn.nil (w : World) (B : Nat) : NOwn w B (.slice none 0 0) [] := World.ownsRow_nil _ _ _ _
theorem NOwn.below {w w' : World} {B : Nat} {v : Value} {l : List Int} (h : NOwn w B v l) (hb : Below w.heap.size w w') : NOwn w' B v l := by
  refine ⟨h.1, h.2.elim (fun h => .inl h) fun ⟨g, cap, cur, h1, h2, h3, h4, h5, h6, h7⟩ => .inr ⟨g, cap, cur, h1, h2, ?_, h4, h5, h6, h7⟩⟩
  rw [hb.block g (Array.getElem?_eq_some_iff.1 h3).1]
  exact h3
theorem NOwn.alloc {w : World} {B : Nat} {v : Value} {l : List Int} (h : NOwn w B v l) (o : Obj) : NOwn (w.alloc o) B v l := h.below ((Below.refl _ _).alloc (Nat.le_refl _) o)
theorem run_app_int {W : World} {base G : Nat} {v : Value} {l : List Int} {y : Int} (ty : TypeId) (hown : NOwn W base v l) (hG : W.cell? ⟨G, 0, none⟩ = some (.int .i64 y)) (hlen : l.length ≤ 65536) (hbase : base ≤ W.heap.size) :
    ∃ v' w', (Builtin.append_ #[22, 22] ty #[v, .slice (some ⟨G, 0, none⟩) 1 1]).run Tryd.prog W = .ok v' w' ∧ NOwn w' base v' (l ++ [y]) ∧ Below base W w' := by
  obtain ⟨i0, hi, hz0, hz1, hz2⟩ := info_of info_int
  have hl := World.ownsRow.lt hown
  obtain ⟨v', w', hr, h2, h3, _⟩ := run_append_own (P := Tryd.prog) W base 22 ty 3 i0 (.int .i64 0) 1 8 Tryd.underlying22 hi hz0 hz1 hz2 rfl (by decide) v l.length (l.flatMap intCs) hown
    ⟨G, 0, none⟩ 1 1 (intCs y) rfl (fun j u hu => by
      rw [Addr.add_lit, Nat.zero_add]
      have hj : j = 0 := by
        have := (List.getElem?_eq_some_iff.1 hu).1
        simp at this
        omega
      subst hj
      simp only [List.getElem?_cons_zero, Option.some.injEq] at hu
      subst hu
      exact hG) (fun u hu => by
      simp only [List.mem_cons, List.not_mem_nil, or_false] at hu
      subst hu
      rfl) (by unfold maxLen; omega) (by omega) hbase
  refine ⟨v', w', hr, ?_, (Below.refl base W).grown h3 hbase (fun k hk => (hl k hk).1)⟩
  unfold NOwn
  rw [List.length_append, List.flatMap_append]
  simpa using h2
theorem wp_app_int {W : World} {o : Oper} {a : Act} {K : Act → World → Prop} {Q : Exit → Act → World → Prop} (s x : Operand)
    (ho : o.op = .call { callee := .builtin .append, args := #[s, x], argTypes := #[22, 22] })
    (base G : Nat) (v : Value) (l : List Int) (y : Int) (hs : a.eval s = v) (hx : a.eval x = .slice (some ⟨G, 0, none⟩) 1 1) (hown : NOwn W base v l) (hG : W.cell? ⟨G, 0, none⟩ = some (.int .i64 y)) (hlen : l.length ≤ 65536) (hbase : base ≤ W.heap.size)
    (h : ∀ v' w', NOwn w' base v' (l ++ [y]) → Below base W w' → K (a.put o.dst v') w') : Oper.wp Tryd.prog o a W K Q := by
  obtain ⟨v', w', hrun, r1, r2⟩ := run_app_int o.type hown hG hlen hbase
  unfold Oper.wp
  simp [execOp, ho, resolve, invoke, builtin, hs, hx, hrun, Result.andThen]
  exact h v' w' r1 r2
theorem wpList_app_int {W : World} {ops : Array Oper} {rest : List Oper} {o : Oper} {a : Act} {Q : Exit → Act → World → Prop} (hgd : o.guard = none) (s x : Operand)
    (ho : o.op = .call { callee := .builtin .append, args := #[s, x], argTypes := #[22, 22] })
    (base G : Nat) (v : Value) (l : List Int) (y : Int) (hs : a.eval s = v) (hx : a.eval x = .slice (some ⟨G, 0, none⟩) 1 1) (hown : NOwn W base v l) (hG : W.cell? ⟨G, 0, none⟩ = some (.int .i64 y)) (hlen : l.length ≤ 65536) (hbase : base ≤ W.heap.size)
    (h : ∀ v' w', NOwn w' base v' (l ++ [y]) → Below base W w' → wpList Tryd.prog ops Q rest (a.put o.dst v') w') : wpList Tryd.prog ops Q (o :: rest) a W :=
  wpList_plain hgd fun _ hK => wp_app_int s x ho base G v l y hs hx hown hG hlen hbase fun v' w' h1 h2 => hK _ _ (h v' w' h1 h2)
/-- Any slice of integers behind a row of one's own. -/
theorem run_app_ints {W : World} {base n cap : Nat} {v : Value} {A : Option Addr} {l ys : List Int} {B : Nat} (ty : TypeId) (hown : NOwn W base v l) (hr : NRd W B (.slice A n cap) ys) (hlen : l.length + ys.length ≤ 65536) (hbase : base ≤ W.heap.size) (hA : A ≠ none) :
    ∃ v' w', (Builtin.append_ #[22, 22] ty #[v, .slice A n cap]).run Tryd.prog W = .ok v' w' ∧ NOwn w' base v' (l ++ ys) ∧ Below base W w' := by
  obtain ⟨i0, hi, hz0, hz1, hz2⟩ := info_of info_int
  have hl := World.ownsRow.lt hown
  obtain ⟨A', cap', he, m1, m2, hc⟩ := hr
  injection he with e1 e2 e3
  subst e1 e2 e3
  cases A with
  | none => exact absurd rfl hA
  | some a =>
    have hlf : (ys.flatMap intCs).length = ys.length * 1 := flat_len (f := intCs) (s := 1) (fun _ => rfl) ys
    obtain ⟨v', w', hr, h2, h3, _⟩ := run_append_own (P := Tryd.prog) W base 22 ty 3 i0 (.int .i64 0) 1 8 Tryd.underlying22 hi hz0 hz1 hz2 rfl (by decide) v l.length (l.flatMap intCs) hown
      a ys.length cap (ys.flatMap intCs) hlf (fun j u hu => by
        have hj := (List.getElem?_eq_some_iff.1 hu).1
        rw [hlf] at hj
        obtain ⟨g, o, ha, _, hcell⟩ := hc (by omega)
        injection ha with ha
        subst ha
        have hx := List.getElem?_eq_getElem (show j < ys.length by omega)
        have hf := flat_at (l := ys) (f := intCs) (s := 1) (fun _ => rfl) hx (j := 0) rfl
        rw [Nat.mul_one, Nat.add_zero, hu] at hf
        injection hf with hf
        subst hf
        have := hcell j _ hx 0 _ rfl
        rw [Addr.add_lit]
        simpa using this) (fun u hu => by
        rw [List.mem_flatMap] at hu
        obtain ⟨x, _, hx⟩ := hu
        simp only [List.mem_cons, List.not_mem_nil, or_false] at hx
        subst hx
        rfl) (by unfold maxLen; omega) (by omega) hbase
    refine ⟨v', w', hr, ?_, (Below.refl base W).grown h3 hbase (fun k hk => (hl k hk).1)⟩
    unfold NOwn
    rw [List.length_append, List.flatMap_append]
    exact h2
end Go.Proofs.YtfgangkpebkicaaDoor

/-
  slices.Index and slices.Contains over any slice of integers.
-/
namespace Go.Proofs.YtfgangkpebkicaaDoor
open Go.RowKit
set_option maxRecDepth 20000
set_option maxHeartbeats 1000000 in
theorem indexN_any {B : Nat} {v : Value} {xs : List Int} {w : World} (h : NRd w B v xs) (x : Int) :
    Calls Tryd.prog 53 #[v, .int .i64 x] w fun e w' => ∃ r : Int, e = .returned (.int .i64 r) ∧ decide (0 ≤ r) = decide (x ∈ xs) ∧ Below w.heap.size w w' := by
  obtain ⟨A, cap, rfl, m1, m2⟩ := h.is
  unfold maxLen at m2
  obtain ⟨L, hL⟩ : ∃ L, L = xs.length := ⟨_, rfl⟩
  have HC := Lib.hid h
  have HLL := Lib.hid hL
  rw [← hL] at m1 ⊢
  clear h hL
  go_enter Tryd.func53, Tryd.ntmps53
  go_wp2_with fail
  go_loopw [8] (fun i wr => ∃ k : Nat, k ≤ L ∧ i = .int .i64 k ∧ (∀ (j : Nat) (y : Int), j < k → xs[j]? = some y → y ≠ x) ∧ Below w.heap.size w wr) (fun i _ => L - (intOf i).toNat)
  case atStart => exact ⟨0, by omega, rfl, fun j y hj => by omega, Below.refl _ _⟩
  case round =>
    obtain ⟨k, hk, rfl, ha, hb⟩ := hrel
    by_cases hkn : k < L
    · obtain ⟨y, hy⟩ : ∃ y, xs[k]? = some y := ⟨_, List.getElem?_eq_getElem (by rw [← HLL.out]; exact hkn)⟩
      have hr := HC.out
      rw [← HLL.out] at hr
      obtain ⟨g, o, rfl, hg, d0⟩ := hr.num hy
      have hgw : g < w.heap.size := World.block_lt_of_cell? w ⟨g, o + k, none⟩ d0
      have d1 : wr.cell? ⟨g, o + k, none⟩ = some (.int .i64 y) := (hb.cell (p := ⟨g, o + k, none⟩) hgw).trans d0
      have i1 : (0 : Int) ≤ (k : Int) := by omega
      have i2 : (k : Int) < (L : Int) := by omega
      have HA := Lib.hid (And.intro ha (And.intro hb hy))
      clear ha hb hy hr d0
      by_cases hxy : x = y
      · have hz : (x == y) = true := by rw [beq_iff_eq]; exact hxy
        have HX := Lib.hid hxy
        clear hxy
        go_wp2_with fail
        go_ret
        refine ⟨k, rfl, ?_, HA.out.2.1⟩
        rw [decide_eq_true i1]
        exact (decide_eq_true (by rw [HX.out]; exact List.mem_of_getElem? HA.out.2.2)).symm
      · have hz : (x == y) = false := by rw [beq_eq_false_iff_ne]; exact hxy
        have HX := Lib.hid hxy
        clear hxy
        go_wp2_with fail
        go_roundw
        case rel => exact ⟨k + 1, by omega, by go_num, fun j z hj hz => by
          rcases Nat.lt_or_ge j k with h | h
          · exact HA.out.1 j z h hz
          · obtain rfl : j = k := by omega
            rw [HA.out.2.2] at hz
            injection hz with hz
            subst hz
            exact fun e => HX.out e.symm, HA.out.2.1⟩
        case measure => simp [intOf]; omega
    · obtain rfl : k = L := by omega
      have HA := Lib.hid (And.intro ha hb)
      clear ha hb
      go_wp2_with fail
      go_ret
      refine ⟨-1, rfl, ?_, HA.out.2⟩
      rw [decide_eq_false (show ¬ (0 : Int) ≤ -1 by omega)]
      refine (decide_eq_false fun hm => ?_).symm
      obtain ⟨j, hj, e⟩ := List.getElem_of_mem hm
      exact HA.out.1 j x (by rw [HLL.out]; exact hj) (by rw [List.getElem?_eq_getElem hj, e]) rfl
theorem containsN_any {B : Nat} {v : Value} {xs : List Int} {w : World} (h : NRd w B v xs) (x : Int) :
    Calls Tryd.prog 26 #[v, .int .i64 x] w fun e w' => e = .returned (.bool (decide (x ∈ xs))) ∧ Below w.heap.size w w' := by
  have hi := indexN_any h x
  clear h
  go_enter Tryd.func26, Tryd.ntmps26
  go_wp2_with fail
  refine hi.mono ?_
  rintro e w1 ⟨r, rfl, hr, hb⟩
  have HB := Lib.hid (And.intro hb hr)
  clear hi hb hr
  by_cases h0 : (0 : Int) ≤ r
  · go_wp2_with fail
    go_ret
    exact ⟨ret_bool (by rw [← HB.out.2] <;> simp [h0]), HB.out.1⟩
  · go_wp2_with fail
    go_ret
    exact ⟨ret_bool (by rw [← HB.out.2] <;> simp [h0]), HB.out.1⟩
end Go.Proofs.YtfgangkpebkicaaDoor
