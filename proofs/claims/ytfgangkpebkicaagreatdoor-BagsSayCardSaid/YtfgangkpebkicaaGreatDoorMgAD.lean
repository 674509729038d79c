/-
  Joined by a program out of: Calls, AppEv, ITab, SpanPure, AheadPure, ObjPure.
-/
import Derived.Test.YtfgangkpebkicaaGreatDoorMgAC
import Derived.Test.YtfgangkpebkicaaGreatDoorMgAB
import Derived.Test.YtfgangkpebkicaaGreatDoorMgAA
import Derived.Deep.AppendLies
import Derived.Test.YtfgangkpebkicaaGreatDoorProg
import Derived.WalkKit

/-
  Contract of history.Calls.
-/
namespace Go.Proofs.YtfgangkpebkicaaGreatDoor
open Go.RowKit
set_option maxRecDepth 20000
/-- What Calls answers: the calls, where, and what went wrong. -/
def CallsPost (w : World) (o : List Cl × Nat × Int) (e : Ending) (w' : World) : Prop :=
  ∃ v, e = .returned (.tuple #[v, .int .i64 (o.2.1 : Nat), .int .i64 o.2.2]) ∧ Below w.heap.size w w' ∧ CRd w' w'.heap.size v o.1
theorem rec_start (w : World) (tv : Value) (ts : List Int) (h : NRd w w.heap.size tv ts) : RecS w.heap.size tv ts [] (w.alloc (.cells (recCs tv (.slice none 0 0) (fun _ => false) (fun _ => 0)) 84)) := by
  refine ⟨⟨.slice none 0 0, _, _, Lies.new w _ _, World.ownsRow_nil _ _ _ _, OneOpen.nil, fun p _ => ?_, fun p _ h => by cases h⟩, h.below ((Below.refl _ _).alloc (Nat.le_refl _) _)⟩
  simp [openOf, openFrom]
set_option maxHeartbeats 4000000 in
theorem calls_any {tv lv : Value} {ts : List Int} {l : List Ev} {w : World} (ht : NRd w w.heap.size tv ts) (hl : ERd w w.heap.size lv l) :
    Calls Tryz.prog 35 #[tv, lv] w (CallsPost w (callsOf ts l)) := by
  have er : callsOf ts l = if typesB ts = false then ([], 0, 1) else if 200 < l.length then ([], 0, 2) else run ts 0 [] l := rfl
  generalize callsOf ts l = o at er ⊢
  obtain ⟨At, capt, rfl, m1, m2⟩ := ht.is
  obtain ⟨Al, capl, rfl, m3, m4⟩ := hl.is
  unfold maxLen at m2 m4
  have HT := Lib.hid ht
  have HL := Lib.hid hl
  clear ht hl
  cases hb : typesB ts
  · rw [if_pos hb] at er
    subst er
    have HV := Lib.hid (valid_any HT.out)
    rw [hb] at HV
    clear hb
    go_enter Tryz.func35, Tryz.ntmps35
    go_wp2_with fail
    refine HV.out.mono ?_
    rintro e w' ⟨rfl, rfl⟩
    go_wp2_with fail
    go_ret3
    exact ⟨_, rfl, Below.refl _ _, LRd.nil _ _⟩
  · rw [if_neg (by rw [hb]; decide)] at er
    have HV := Lib.hid (valid_any HT.out)
    rw [hb] at HV
    clear hb
    by_cases hn : 200 < l.length
    · rw [if_pos hn] at er
      subst er
      have hn' : (200 : Int) < (l.length : Int) := by omega
      go_enter Tryz.func35, Tryz.ntmps35
      go_wp2_with fail
      refine HV.out.mono ?_
      rintro e w' ⟨rfl, rfl⟩
      go_wp2_with fail
      go_ret3
      exact ⟨_, rfl, Below.refl _ _, LRd.nil _ _⟩
    · rw [if_neg hn] at er
      have hn' : ¬ (200 : Int) < (l.length : Int) := by omega
      have HE := Lib.hid er
      have HR0 := Lib.hid (rec_start w _ ts HT.out)
      clear er
      go_enter Tryz.func35, Tryz.ntmps35
      go_wp2_with fail
      refine HV.out.mono ?_
      rintro e w' ⟨rfl, rfl⟩
      go_wp2_with fail
      obtain ⟨L, hL⟩ : ∃ L, L = l.length := ⟨_, rfl⟩
      have HR1 := HR0.out
      clear HR0
      change Code.wp _ _ _ _ (w.alloc (.cells (recCs (.slice At ts.length capt) (.slice none 0 0) (fun _ => false) (fun _ => 0)) 84))
      have hb0 : Below w.heap.size w (w.alloc (.cells (recCs (.slice At ts.length capt) (.slice none 0 0) (fun _ => false) (fun _ => 0)) 84)) := (Below.refl _ _).alloc (Nat.le_refl _) _
      obtain ⟨g, hg⟩ : ∃ g, g = w.heap.size := ⟨_, rfl⟩
      rw [← hg] at HR1
      rw [← hg]
      have HG := Lib.hid hg
      clear hg
      generalize w.alloc (.cells (recCs (.slice At ts.length capt) (.slice none 0 0) (fun _ => false) (fun _ => 0)) 84) = W at HR1 hb0 ⊢
      rw [← hL]
      rw [← hL] at m3 hn hn'
      have HLL := Lib.hid hL
      clear hL
      go_loopw [21] (fun i wr => ∃ (k : Nat) (cs : List Cl), k ≤ L ∧ i = .int .i64 k ∧ cs.length ≤ k ∧ run ts 0 [] l = run ts k cs (l.drop k) ∧ RecS g (.slice At ts.length capt) ts cs wr ∧ Below w.heap.size w wr) (fun i _ => L - (intOf i).toNat)
      case atStart => exact ⟨0, [], by omega, rfl, by simp, by simp, HR1, hb0⟩
      case round =>
        clear HR1 hb0
        obtain ⟨k, cs, hk, rfl, hck, hrun, hR, hB⟩ := hrel
        have HA := Lib.hid (And.intro hrun (And.intro hR hB))
        by_cases hkL : k < L
        · have hkl : k < l.length := by rw [← HLL.out]; exact hkL
          obtain ⟨x, hx⟩ : ∃ x, l[k]? = some x := ⟨_, List.getElem?_eq_getElem hkl⟩
          have hxe : l[k] = x := (List.getElem?_eq_some_iff.1 hx).2
          have hL' := HL.out.below hB
          rw [← HLL.out] at hL'
          obtain ⟨gl, o', rfl, hgl, d0, d1, d2, d3⟩ := hL'.ev hx
          have hst := run_drop (ts := ts) hkl cs
          rw [hxe] at hst
          generalize hs : step ts k cs x = s at hst
          have i1 : (0 : Int) ≤ (k : Int) := by omega
          have i2 : (k : Int) < (L : Int) := by omega
          obtain ⟨xw, xt, xk, xv⟩ := x
          have hR2 := hR.next ((Below.refl _ _).alloc (Nat.le_refl _) (.cells (evCs ⟨xw, xt, xk, xv⟩).toArray 37))
          have hl2 := Lies.new wr 37 (evCs ⟨xw, xt, xk, xv⟩).toArray
          have hb2 : Below w.heap.size w (wr.alloc (.cells (evCs ⟨xw, xt, xk, xv⟩).toArray 37)) := hB.alloc hB.size _
          have HX := Lib.hid (And.intro hst (And.intro hs (And.intro hR2 (And.intro hl2 hb2))))
          clear hx hxe hL' hst hs hrun hR hB hR2 hl2 hb2
          go_wp2_with fail
          change Calls _ _ _ (wr.alloc (.cells (evCs ⟨xw, xt, xk, xv⟩).toArray 37)) _
          generalize wr.alloc (.cells (evCs ⟨xw, xt, xk, xv⟩).toArray 37) = W2 at HX ⊢
          have hc := add_any HX.out.2.2.1 k ⟨xw, xt, xk, xv⟩ (by omega)
          rw [HX.out.2.1] at hc
          clear d0 d1 d2 d3
          refine hc.mono ?_
          rintro e w' ⟨hbw, hd⟩
          have hb' : Below w.heap.size w w' := HX.out.2.2.2.2.trans (by rw [← HG.out]; exact hbw)
          cases s with
          | inl r =>
            simp only at hd
            subst hd
            have hr : (r != 0) = true := by rw [bne_iff_ne]; exact step_err HX.out.2.1
            have HY := Lib.hid hb'
            clear hb' hbw hc
            go_wp2_with fail
            go_ret3
            have e := HE.out
            rw [HA.out.1, HX.out.1] at e
            subst e
            exact ⟨_, rfl, HY.out, LRd.nil _ _⟩
          | inr cs' =>
            obtain ⟨rfl, hd⟩ := hd
            have HY := Lib.hid (And.intro hb' hd)
            have HLN := Lib.hid (step_len HX.out.2.1)
            clear hb' hbw hd hc
            go_wp2_with fail
            go_roundw
            case rel => exact ⟨k + 1, cs', by omega, by go_num, by have := HLN.out; omega, HA.out.1.trans HX.out.1, HY.out.2, HY.out.1⟩
            case measure => simp [intOf]; omega
        · obtain rfl : k = L := by omega
          have hre : run ts 0 [] l = (cs, 0, 0) := by rw [HA.out.1, HLL.out, List.drop_length]; rfl
          have HZ := Lib.hid hre
          obtain ⟨⟨cv, b, c, h1, h2, h3⟩, h4⟩ := hR
          have r1 := h1.calls
          have HW := Lib.hid (And.intro h1 h2)
          clear hre hrun h1 h2 h3 h4 hB
          go_wp2_with fail
          go_ret3
          have e := HE.out
          rw [HZ.out] at e
          subst e
          exact ⟨_, rfl, HA.out.2.2, HW.out.2.rd⟩
end Go.Proofs.YtfgangkpebkicaaGreatDoor

/-
  append(s, x): events.
-/
namespace Go.Proofs.YtfgangkpebkicaaGreatDoor
open Go.RowKit
set_option maxRecDepth 20000
theorem info_ev : (Tryz.prog.info? 37).map (fun i => (i.zero, i.size, i.bytes)) = some (some (evV default), 4, 32) := by kernel_rfl
theorem EOwn.then_ {w w' : World} {B : Nat} {v : Value} {l : List Ev} (h : EOwn w B v l) (hb : Below w.heap.size w w') : EOwn w' B v l :=
  World.ownsRow.kept h (row := none) ⟨hb.os, hb.tape, hb.output, hb.size, fun k hk _ => hb.block k hk⟩ (by
    cases hv : v.ownBlock with
    | none => exact .inl rfl
    | some k => exact .inr (by simp))
theorem EOwn.alloc {w : World} {B : Nat} {v : Value} {l : List Ev} (h : EOwn w B v l) (o : Obj) : EOwn (w.alloc o) B v l := World.ownsRow.alloc h o
theorem run_app_ev {W : World} {base G : Nat} {v : Value} {l : List Ev} {y : Ev} (ty : TypeId) (hown : EOwn W base v l) (hG : ∀ j u, (evCs y)[j]? = some u → W.cell? ⟨G, j, none⟩ = some u) (hlen : l.length ≤ 65536) (hbase : base ≤ W.heap.size) :
    ∃ v' w', (Builtin.append_ #[22, 22] ty #[v, .slice (some ⟨G, 0, none⟩) 1 1]).run Tryz.prog W = .ok v' w' ∧ EOwn w' base v' (l ++ [y]) ∧ Below base W w' ∧ W.grownBy w' v.ownBlock := by
  obtain ⟨i0, hi, hz0, hz1, hz2⟩ := info_of info_ev
  have hl := World.ownsRow.lt hown
  obtain ⟨v', w', hr, h2, h3, _⟩ := run_append_own (P := Tryz.prog) W base 22 ty 37 i0 (evV default) 4 32 Tryz.underlying22 hi hz0 hz1 hz2 rfl (by decide) v l.length (l.flatMap evCs) hown
    ⟨G, 0, none⟩ 1 1 (evCs y) rfl (fun j u hu => by
      rw [Addr.add_lit, Nat.zero_add]
      exact hG j u hu) (fun u hu => by
      simp only [List.mem_cons, List.not_mem_nil, or_false] at hu
      rcases hu with rfl | rfl | rfl | rfl <;> rfl) (by unfold maxLen; omega) (by omega) hbase
  refine ⟨v', w', hr, ?_, (Below.refl base W).grown h3 hbase (fun k hk => (hl k hk).1), h3⟩
  unfold EOwn
  rw [List.length_append, List.flatMap_append]
  simpa using h2
theorem own_sliceE {w : World} {B : Nat} {v : Value} {l : List Ev} (h : EOwn w B v l) : ∃ A c, v = .slice A l.length c := by
  obtain ⟨A, c, h, _⟩ := h.rd.is
  exact ⟨A, c, h⟩
theorem wp_app_ev {W : World} {o : Oper} {a : Act} {K : Act → World → Prop} {Q : Exit → Act → World → Prop} (s x : Operand)
    (ho : o.op = .call { callee := .builtin .append, args := #[s, x], argTypes := #[22, 22] })
    (base G : Nat) (v : Value) (l : List Ev) (y : Ev) (hs : a.eval s = v) (hx : a.eval x = .slice (some ⟨G, 0, none⟩) 1 1) (hown : EOwn W base v l) (hG : ∀ j u, (evCs y)[j]? = some u → W.cell? ⟨G, j, none⟩ = some u) (hlen : l.length ≤ 65536) (hbase : base ≤ W.heap.size)
    (h : ∀ v' w', EOwn w' base v' (l ++ [y]) → Below base W w' → W.grownBy w' v.ownBlock → K (a.put o.dst v') w') : Oper.wp Tryz.prog o a W K Q := by
  obtain ⟨v', w', hrun, r1, r2, r3⟩ := run_app_ev o.type hown hG hlen hbase
  unfold Oper.wp
  simp [execOp, ho, resolve, invoke, builtin, hs, hx, hrun, Result.andThen]
  exact h v' w' r1 r2 r3
theorem wpList_app_ev {W : World} {ops : Array Oper} {rest : List Oper} {o : Oper} {a : Act} {Q : Exit → Act → World → Prop} (hgd : o.guard = none) (s x : Operand)
    (ho : o.op = .call { callee := .builtin .append, args := #[s, x], argTypes := #[22, 22] })
    (base G : Nat) (v : Value) (l : List Ev) (y : Ev) (hs : a.eval s = v) (hx : a.eval x = .slice (some ⟨G, 0, none⟩) 1 1) (hown : EOwn W base v l) (hG : ∀ j u, (evCs y)[j]? = some u → W.cell? ⟨G, j, none⟩ = some u) (hlen : l.length ≤ 65536) (hbase : base ≤ W.heap.size)
    (h : ∀ v' w', EOwn w' base v' (l ++ [y]) → Below base W w' → W.grownBy w' v.ownBlock → wpList Tryz.prog ops Q rest (a.put o.dst v') w') : wpList Tryz.prog ops Q (o :: rest) a W :=
  wpList_plain hgd fun _ hK => wp_app_ev s x ho base G v l y hs hx hown hG hlen hbase fun v' w' h1 h2 h3 => hK _ _ (h v' w' h1 h2 h3)
theorem step_app_ev {W : World} {ops : Array Oper} {o : Oper} {a : Act} {K : Act → World → Prop} {Q : Exit → Act → World → Prop} {E : Prop} (hgd : o.guard = none) (s x : Operand)
    (ho : o.op = .call { callee := .builtin .append, args := #[s, x], argTypes := #[22, 22] })
    (base G : Nat) (v : Value) (l : List Ev) (y : Ev) (hs : a.eval s = v) (hx : a.eval x = .slice (some ⟨G, 0, none⟩) 1 1) (hown : EOwn W base v l) (hG : ∀ j u, (evCs y)[j]? = some u → W.cell? ⟨G, j, none⟩ = some u) (hlen : l.length ≤ 65536) (hbase : base ≤ W.heap.size)
    (h : ∀ v' w', EOwn w' base v' (l ++ [y]) → Below base W w' → W.grownBy w' v.ownBlock → K (a.put o.dst v') w') :
    if Region.wanted o (yielded ops a.tmps) = true then Oper.wp Tryz.prog o a W K Q else E := by
  have hw : Region.wanted o (yielded ops a.tmps) = true := by simp [Region.wanted, hgd]
  rw [if_pos hw]
  exact wp_app_ev s x ho base G v l y hs hx hown hG hlen hbase h
end Go.Proofs.YtfgangkpebkicaaGreatDoor

/-
  A table of integers in a block of the call's own; how it is made.
-/
namespace Go.Proofs.YtfgangkpebkicaaGreatDoor
open Go.RowKit
set_option maxRecDepth 20000
/-- The cells of a table of N integers. -/
def tabCs (N : Nat) (f : Nat → Int) : Array Value := (Array.range N).map fun i => .int .i64 (f i)
def ITab (w : World) (g N : Nat) (f : Nat → Int) : Prop := Lies w g 3 (tabCs N f)
theorem tabCs_get (N : Nat) (f : Nat → Int) (i : Nat) (h : i < N) : (tabCs N f)[i]? = some (.int .i64 (f i)) := by
  simp [tabCs, h]
theorem tabCs_set (N : Nat) (f : Nat → Int) (i : Nat) (x : Int) : (tabCs N f).setIfInBounds i (.int .i64 x) = tabCs N (fun j => if j = i then x else f j) := by
  apply Array.ext_getElem?
  intro j
  rw [Array.getElem?_setIfInBounds]
  by_cases h : i = j
  · subst h
    by_cases hi : i < N <;> simp [tabCs, hi]
  · rw [if_neg h]
    by_cases hj : j < N <;> simp [tabCs, hj, show ¬ j = i from fun e => h e.symm]
section
variable {w : World} {g N : Nat} {f : Nat → Int}
theorem ITab.cell (h : ITab w g N f) {i : Nat} (hi : i < N) : w.cell? ⟨g, i, none⟩ = some (.int .i64 (f i)) := by
  rw [Lies.cell h, tabCs_get N f i hi]
theorem ITab.free (h : ITab w g N f) (i : Nat) : w.frozen? ⟨g, i, none⟩ = false := Lies.frozen h i
theorem ITab.set_ (h : ITab w g N f) (i : Nat) (x : Int) : ITab (w.setCell ⟨g, i, none⟩ (.int .i64 x)) g N (fun j => if j = i then x else f j) :=
  Lies.cast (Lies.set_ h i (.int .i64 x)) (tabCs_set N f i x)
theorem ITab.congr {f' : Nat → Int} (h : ITab w g N f) (e : ∀ i, i < N → f i = f' i) : ITab w g N f' := by
  refine Lies.cast h ?_
  apply Array.ext
  · simp [tabCs]
  · intro j h1 h2
    have : j < N := by simpa [tabCs] using h1
    simp [tabCs, e j this]
end
theorem info_intT : (Tryz.prog.info? 3).map (fun i => (i.zero, i.size, i.bytes)) = some (some (.int .i64 0), 1, 8) := by kernel_rfl
theorem made_ints (N : Nat) (l : Int) (hl : l = N) (hN : N ≤ 65536) (w : World) :
    (Instr.makeSlice 26 (.int .i64 l) (.int .i64 l)).run Tryz.prog w = .ok (.slice (some ⟨w.heap.size, 0, none⟩) N N) (w.alloc (.cells (tabCs N fun _ => 0) 3)) := by
  obtain ⟨i0, hi, hz0, hz1, hz2⟩ := info_parts info_intT
  subst hl
  rw [run_make w 26 3 i0 (.int .i64 0) Tryz.underlying26 hi hz0 .i64 .i64 N N (by omega) (by omega) (by rw [hz2]; omega) (by omega), hz1]
  simp only [Int.toNat_natCast, Nat.mul_one]
  congr 3
  apply Array.ext
  · simp [tabCs, madeCells]
  · intro j h1 h2
    simp [tabCs, madeCells, Value.cells, Nat.mod_one]
end Go.Proofs.YtfgangkpebkicaaGreatDoor

/-
  Plain mathematics for package spans: m spans, from F i to T i. No Go, no program.
-/
namespace Go.Proofs.YtfgangkpebkicaaGreatDoor
open Go.RowKit
set_option maxRecDepth 20000
/-- The set of the items below m of which p holds. -/
def pickS (p : Nat → Bool) : Nat → Nat
  | 0 => 0
  | m + 1 => if p m = true then pickS p m ||| 2 ^ m else pickS p m
theorem pickS_bit (p : Nat → Bool) (i : Nat) : ∀ m, (pickS p m).testBit i = (decide (i < m) && p i)
  | 0 => by simp [pickS]
  | m + 1 => by
    rw [pickS]
    have ih := pickS_bit p i m
    by_cases e : m = i
    · subst e
      cases hp : p m
      · simp [ih, hp]
      · simp
    · have : decide (i < m + 1) = decide (i < m) := by simp; omega
      rw [this, ← ih]
      split
      · rw [Nat.testBit_or, Nat.testBit_two_pow]; simp [e]
      · rfl
theorem pickS_lt (p : Nat → Bool) : ∀ m, pickS p m < 2 ^ m
  | 0 => by simp [pickS]
  | m + 1 => by
    have ih := pickS_lt p m
    rw [pickS]
    split
    · exact Nat.or_lt_two_pow (Nat.lt_trans ih (Nat.pow_lt_pow_right (by omega) (by omega))) (Nat.pow_lt_pow_right (by omega) (by omega))
    · exact Nat.lt_trans ih (Nat.pow_lt_pow_right (by omega) (by omega))
theorem pickS_lt16 (p : Nat → Bool) {m : Nat} (hm : m ≤ 12) : pickS p m < 65536 :=
  Nat.lt_of_lt_of_le (pickS_lt p m) (Nat.le_trans (Nat.pow_le_pow_right (by omega) hm) (by decide))
end Go.Proofs.YtfgangkpebkicaaGreatDoor

/-
  A relation given by a test of two items, row by row; who is ahead of whom among calls.
-/
namespace Go.Proofs.YtfgangkpebkicaaGreatDoor
open Go.RowKit
set_option maxRecDepth 20000
def relP (p : Nat → Nat → Bool) (m : Nat) : Nat → Nat := fun i => if i < m then pickS (p i) m else 0
theorem relP_bit (p : Nat → Nat → Bool) (m i j : Nat) : (relP p m i).testBit j = (decide (i < m) && decide (j < m) && p i j) := by
  unfold relP
  by_cases h : i < m
  · rw [if_pos h, pickS_bit]; simp [h]
  · rw [if_neg h]; simp [h]
theorem relP_lt (p : Nat → Nat → Bool) {m : Nat} (hm : m ≤ 12) (i : Nat) : relP p m i < 65536 := by
  unfold relP
  split
  · exact pickS_lt16 _ hm
  · omega
/-- The relation behind k whole rows and the first j of row k. -/
def upP (p : Nat → Nat → Bool) (m k j : Nat) : Nat → Nat := fun i => if i < k then pickS (p i) m else if i = k then pickS (p k) j else 0
theorem upP_end (p : Nat → Nat → Bool) (m k : Nat) : upP p m k m = upP p m (k + 1) 0 := by
  funext i
  unfold upP
  by_cases h1 : i < k
  · rw [if_pos h1, if_pos (by omega)]
  · rw [if_neg h1]
    by_cases h2 : i = k
    · subst h2; rw [if_pos rfl, if_pos (by omega)]
    · rw [if_neg h2, if_neg (by omega)]
      by_cases h3 : i = k + 1
      · rw [if_pos h3]; rfl
      · rw [if_neg h3]
theorem upP_step (p : Nat → Nat → Bool) (m k j : Nat) : upP p m k (j + 1) = if p k j = true then (fun i => if i = k then upP p m k j k ||| 2 ^ j else upP p m k j i) else upP p m k j := by
  have hs : pickS (p k) (j + 1) = if p k j = true then pickS (p k) j ||| 2 ^ j else pickS (p k) j := by
    apply Nat.eq_of_testBit_eq
    intro i
    rw [pickS_bit]
    by_cases h : p k j = true
    · rw [if_pos h, Nat.testBit_or, pickS_bit, Nat.testBit_two_pow]
      by_cases e : j = i
      · subst e; simp [h]
      · simp [e, show i < j + 1 ↔ i < j by omega]
    · rw [if_neg h, pickS_bit]
      by_cases e : i = j
      · subst e; simp [h]
      · simp [show i < j + 1 ↔ i < j by omega]
  by_cases h : p k j = true
  · rw [if_pos h] at hs ⊢
    funext i
    unfold upP
    by_cases h1 : i = k
    · subst h1; simp [hs]
    · simp [h1]
  · rw [if_neg h] at hs ⊢
    funext i
    unfold upP
    rw [hs]
theorem upP_lt (p : Nat → Nat → Bool) (m k j : Nat) (hm : m ≤ 12) (hj : j ≤ 12) (i : Nat) : upP p m k j i < 65536 := by
  unfold upP
  split
  · exact pickS_lt16 _ hm
  · split
    · exact pickS_lt16 _ hj
    · omega
theorem upP_all (p : Nat → Nat → Bool) (m : Nat) : upP p m m 0 = relP p m := by
  funext i
  unfold upP relP
  by_cases h : i < m
  · rw [if_pos h, if_pos h]
  · rw [if_neg h, if_neg h]
    split <;> rfl
theorem upP_none (p : Nat → Nat → Bool) (m : Nat) : upP p m 0 0 = fun _ => 0 := by
  funext i
  unfold upP
  rw [if_neg (by omega)]
  split <;> rfl
/-- Is call i answered ahead of call j? -/
def aheadB (l : List Cl) (i j : Nat) : Bool := decide ((l.getD i default).til ≠ -1 ∧ (l.getD i default).til < (l.getD j default).frm)
theorem aheadB_at {l : List Cl} {i j : Nat} {x y : Cl} (hx : l[i]? = some x) (hy : l[j]? = some y) : aheadB l i j = decide (x.til ≠ -1 ∧ x.til < y.frm) := by
  unfold aheadB
  rw [List.getD_eq_getElem?_getD, hx, List.getD_eq_getElem?_getD, hy]
  rfl
end Go.Proofs.YtfgangkpebkicaaGreatDoor

/-
  Plain mathematics for package object: states, steps, plays. No Go, no program.
-/
namespace Go.Proofs.YtfgangkpebkicaaGreatDoor
open Go.RowKit
set_option maxRecDepth 20000
/-- What is done at a thing, and what comes of it. -/
structure Dd where
  kind : Int
  arg : Int
  res : Int
instance : Inhabited Dd := ⟨⟨0, 0, 0⟩⟩
/-- Is one number all there is of a state of this type? -/
def oneB (typ : Int) : Bool := decide (typ = 1 ∨ typ = 5)
/-- Each less than the next one. -/
def incrB (s : List Int) : Bool := decide (s.Pairwise (· < ·))
/-- A state that is not too long: may it be? -/
def validB (typ : Int) (s : List Int) : Bool :=
  if oneB typ = true then decide (s.length = 1) && btw 0 (s.getD 0 0) 1000 else (s.all fun x => btw 1 x 1000) && (typ != 4 || incrB s)
/-- The error of Check. -/
def stateE (typ : Int) (s : List Int) : Int :=
  if btw 1 typ 5 = false then 1 else if 50 < s.length then 2 else if validB typ s = false then 3 else 0
/-- How many are less. -/
def lessN (s : List Int) (x : Int) : Nat := s.countP (· < x)
/-- One more, in its place. -/
def insAt (s : List Int) (p : Nat) (x : Int) : List Int := s.take p ++ x :: s.drop p
/-- One less. -/
def delAt (s : List Int) (p : Nat) : List Int := s.take p ++ s.drop (p + 1)
/-- What comes of a kind that belongs to the type, at a state that may be. -/
def stepped (s : List Int) (kind arg : Int) : List Int × Int × Int :=
  if kind = 1 then ([arg], 0, 0)
  else if kind = 2 then (s, s.getD 0 0, 0)
  else if kind = 3 ∨ kind = 5 then (if s.length = 50 then ([], 0, 2) else (insAt s s.length arg, 0, 0))
  else if kind = 4 then (if s.length = 0 then (s, -1, 0) else (delAt s 0, s.getD 0 0, 0))
  else if kind = 6 then (if s.length = 0 then (s, -1, 0) else (delAt s (s.length - 1), s.getD (s.length - 1) 0, 0))
  else if kind = 10 then (if s.getD 0 0 = 1000 then ([], 0, 2) else ([s.getD 0 0 + 1], s.getD 0 0, 0))
  else if kind = 7 then (if arg ∈ s then (s, 0, 0) else if s.length = 50 then ([], 0, 2) else (insAt s (lessN s arg) arg, 1, 0))
  else if kind = 8 then (if arg ∈ s then (delAt s (lessN s arg), 1, 0) else (s, 0, 0))
  else (s, if arg ∈ s then 1 else 0, 0)
/-- Step: the new state, the answer, the error. -/
def stepO (typ : Int) (s : List Int) (kind arg : Int) : List Int × Int × Int :=
  if stateE typ s ≠ 0 then ([], 0, stateE typ s)
  else if (fitsB typ kind && takesB kind arg) = false then ([], 0, 3)
  else stepped s kind arg
def beginL (typ : Int) : List Int := if oneB typ = true then [0] else []
/-- How many of what is done may be, from a state on. -/
def playFrom (typ : Int) (s : List Int) : List Dd → Nat
  | [] => 0
  | d :: r => if (stepO typ s d.kind d.arg).2.2 ≠ 0 ∨ (stepO typ s d.kind d.arg).2.1 ≠ d.res then 0 else playFrom typ (stepO typ s d.kind d.arg).1 r + 1
def playN (typ : Int) (l : List Dd) : Nat := playFrom typ (beginL typ) l
/-- The state behind. -/
def stateFrom (typ : Int) (s : List Int) (l : List Dd) : List Int := l.foldl (fun s d => (stepO typ s d.kind d.arg).1) s
theorem valid_one {typ : Int} {s : List Int} (h : oneB typ = true) : validB typ s = true ↔ s.length = 1 ∧ 0 ≤ s.getD 0 0 ∧ s.getD 0 0 ≤ 1000 := by
  unfold validB
  rw [if_pos h, Bool.and_eq_true, decide_eq_true_iff, btw_iff]
theorem valid_row {typ : Int} {s : List Int} (h : oneB typ = false) : validB typ s = true ↔ (∀ x ∈ s, 1 ≤ x ∧ x ≤ 1000) ∧ (typ = 4 → s.Pairwise (· < ·)) := by
  unfold validB
  rw [if_neg (by rw [h]; decide), Bool.and_eq_true, List.all_eq_true, Bool.or_eq_true, bne_iff_ne, incrB, decide_eq_true_iff]
  constructor
  · rintro ⟨h1, h2⟩
    exact ⟨fun x hx => btw_iff.1 (h1 x hx), fun e => h2.elim (fun hn => absurd e hn) id⟩
  · rintro ⟨h1, h2⟩
    refine ⟨fun x hx => btw_iff.2 (h1 x hx), ?_⟩
    by_cases e : typ = 4
    · exact .inr (h2 e)
    · exact .inl e
theorem stateE_ok {typ : Int} {s : List Int} : stateE typ s = 0 ↔ (1 ≤ typ ∧ typ ≤ 5) ∧ s.length ≤ 50 ∧ validB typ s = true := by
  unfold stateE
  by_cases h1 : btw 1 typ 5 = false
  · rw [if_pos h1]
    exact ⟨fun h => absurd h (by decide), fun h => absurd (btw_iff.2 h.1) (by rw [h1]; decide)⟩
  · rw [if_neg h1]
    have h1' : 1 ≤ typ ∧ typ ≤ 5 := btw_iff.1 (by cases h : btw 1 typ 5 <;> simp_all)
    by_cases h2 : 50 < s.length
    · rw [if_pos h2]
      exact ⟨fun h => absurd h (by decide), fun h => by omega⟩
    · rw [if_neg h2]
      by_cases h3 : validB typ s = false
      · rw [if_pos h3]
        exact ⟨fun h => absurd h (by decide), fun h => by rw [h3] at h; exact absurd h.2.2 (by decide)⟩
      · rw [if_neg h3]
        exact ⟨fun _ => ⟨h1', by omega, by cases h : validB typ s <;> simp_all⟩, fun _ => rfl⟩
theorem adj_sorted : ∀ {s : List Int}, (∀ i, i + 1 < s.length → s.getD i 0 < s.getD (i + 1) 0) → s.Pairwise (· < ·)
  | [], _ => .nil
  | [x], _ => by simp
  | x :: y :: r, h => by
    have h1 : (y :: r).Pairwise (· < ·) := adj_sorted (s := y :: r) fun i hi => by
      have := h (i + 1) (by simp at hi ⊢; omega)
      simpa using this
    have h0 : x < y := by simpa using h 0 (by simp)
    refine List.pairwise_cons.2 ⟨fun z hz => ?_, h1⟩
    rcases List.mem_cons.1 hz with rfl | hz
    · exact h0
    · exact Int.lt_trans h0 ((List.pairwise_cons.1 h1).1 z hz)
theorem sorted_at {s : List Int} (h : s.Pairwise (· < ·)) {i j : Nat} (hij : i < j) (hj : j < s.length) : s.getD i 0 < s.getD j 0 := by
  have := List.pairwise_iff_getElem.1 h i j (by omega) hj hij
  simpa [List.getD_eq_getElem?_getD, List.getElem?_eq_getElem hj, List.getElem?_eq_getElem (show i < s.length by omega)] using this
theorem not_sorted {s : List Int} {i : Nat} (hi : i + 1 < s.length) (h : s.getD (i + 1) 0 ≤ s.getD i 0) : incrB s = false := by
  unfold incrB
  rw [decide_eq_false_iff_not]
  intro hp
  have := sorted_at hp (show i < i + 1 by omega) hi
  omega
theorem sorted_yes {s : List Int} (h : ∀ i, i + 1 < s.length → s.getD i 0 < s.getD (i + 1) 0) : incrB s = true := by
  unfold incrB
  rw [decide_eq_true_iff]
  exact adj_sorted h
theorem insAt_len (s : List Int) {p : Nat} (x : Int) (h : p ≤ s.length) : (insAt s p x).length = s.length + 1 := by
  unfold insAt
  simp
  omega
theorem delAt_len (s : List Int) {p : Nat} (h : p < s.length) : (delAt s p).length = s.length - 1 := by
  unfold delAt
  simp
  omega
theorem insAt_mem {s : List Int} {p : Nat} {x y : Int} : y ∈ insAt s p x ↔ y = x ∨ y ∈ s := by
  unfold insAt
  rw [List.mem_append, List.mem_cons]
  constructor
  · rintro (h | h | h)
    · exact .inr (List.mem_of_mem_take h)
    · exact .inl h
    · exact .inr (List.mem_of_mem_drop h)
  · rintro (h | h)
    · exact .inr (.inl h)
    · have : y ∈ s.take p ++ s.drop p := by rw [List.take_append_drop]; exact h
      rcases List.mem_append.1 this with h | h
      · exact .inl h
      · exact .inr (.inr h)
theorem delAt_sub {s : List Int} {p : Nat} {y : Int} (h : y ∈ delAt s p) : y ∈ s := by
  unfold delAt at h
  rcases List.mem_append.1 h with h | h
  · exact List.mem_of_mem_take h
  · exact List.mem_of_mem_drop h
theorem lessN_le (s : List Int) (x : Int) : lessN s x ≤ s.length := List.countP_le_length
theorem lessN_cons (y : Int) (r : List Int) (x : Int) : lessN (y :: r) x = lessN r x + (if y < x then 1 else 0) := by
  unfold lessN
  rw [List.countP_cons]
  simp
/-- Of a row that increases just the first lessN are less. -/
theorem lessN_zero : ∀ {s : List Int} {x : Int}, (∀ y ∈ s, x ≤ y) → lessN s x = 0
  | [], _, _ => rfl
  | y :: r, x, h => by
    rw [lessN_cons, lessN_zero (s := r) fun z hz => h z (List.mem_cons_of_mem _ hz), if_neg (by have := h y (List.mem_cons_self); omega)]
theorem less_take : ∀ {s : List Int} (x : Int), s.Pairwise (· < ·) → (∀ y ∈ s.take (lessN s x), y < x) ∧ (∀ y ∈ s.drop (lessN s x), x ≤ y)
  | [], x, _ => ⟨fun y h => by simp at h, fun y h => by simp at h⟩
  | y :: r, x, h => by
    obtain ⟨h1, h2⟩ := List.pairwise_cons.1 h
    by_cases hy : y < x
    · have e : lessN (y :: r) x = lessN r x + 1 := by rw [lessN_cons, if_pos hy]
      rw [e, List.take_succ_cons, List.drop_succ_cons]
      obtain ⟨k1, k2⟩ := less_take (s := r) x h2
      refine ⟨fun z hz => ?_, k2⟩
      rcases List.mem_cons.1 hz with rfl | hz
      · exact hy
      · exact k1 z hz
    · have e : lessN (y :: r) x = 0 := lessN_zero fun z hz => by
        rcases List.mem_cons.1 hz with rfl | hz
        · omega
        · have := h1 z hz; omega
      rw [e]
      refine ⟨fun z hz => by simp at hz, fun z hz => ?_⟩
      rw [List.drop_zero] at hz
      rcases List.mem_cons.1 hz with rfl | hz
      · omega
      · have := h1 z hz; omega
theorem ins_sorted {s : List Int} (h : s.Pairwise (· < ·)) {x : Int} (hx : x ∉ s) : (insAt s (lessN s x) x).Pairwise (· < ·) := by
  obtain ⟨h1, h2⟩ := less_take x h
  unfold insAt
  rw [List.pairwise_append]
  refine ⟨h.take, List.pairwise_cons.2 ⟨fun z hz => ?_, h.drop⟩, fun a ha b hb => ?_⟩
  · have h3 := h2 z hz
    have h4 : z ≠ x := fun e => hx (e ▸ List.mem_of_mem_drop hz)
    omega
  · rcases List.mem_cons.1 hb with rfl | hb
    · exact h1 a ha
    · have := h1 a ha; have := h2 b hb; omega
theorem del_sorted {s : List Int} (h : s.Pairwise (· < ·)) (p : Nat) : (delAt s p).Pairwise (· < ·) := by
  unfold delAt
  have : (s.take p ++ s.drop p).Pairwise (· < ·) := by rw [List.take_append_drop]; exact h
  rw [List.pairwise_append] at this ⊢
  have e : s.drop (p + 1) = (s.drop p).drop 1 := by rw [List.drop_drop]
  refine ⟨h.take, h.drop, fun a ha b hb => this.2.2 a ha b ?_⟩
  rw [e] at hb
  exact List.mem_of_mem_drop hb
/-- Where it is in a row that increases. -/
theorem less_at {s : List Int} (h : s.Pairwise (· < ·)) {x : Int} (hx : x ∈ s) : ∃ hp : lessN s x < s.length, s[lessN s x] = x := by
  obtain ⟨h1, h2⟩ := less_take x h
  have hm : x ∈ s.drop (lessN s x) := by
    have : x ∈ s.take (lessN s x) ++ s.drop (lessN s x) := by rw [List.take_append_drop]; exact hx
    rcases List.mem_append.1 this with h | h
    · have := h1 x h; omega
    · exact h
  have hp : lessN s x < s.length := by
    apply Classical.byContradiction
    intro hn
    rw [List.drop_eq_nil_of_le (by omega)] at hm
    cases hm
  refine ⟨hp, ?_⟩
  rw [List.drop_eq_getElem_cons hp] at hm h2
  have hd : (s.drop (lessN s x)).Pairwise (· < ·) := h.drop
  rw [List.drop_eq_getElem_cons hp] at hd
  rcases List.mem_cons.1 hm with e | hm
  · exact e.symm
  · have k1 := (List.pairwise_cons.1 hd).1 x hm
    have k2 := h2 _ (List.mem_cons_self)
    omega
theorem del_mem {s : List Int} (h : s.Pairwise (· < ·)) {x y : Int} (hx : x ∈ s) : y ∈ delAt s (lessN s x) ↔ y ≠ x ∧ y ∈ s := by
  obtain ⟨hp, e⟩ := less_at h hx
  obtain ⟨h1, h2⟩ := less_take x h
  have hd : (s.drop (lessN s x)).Pairwise (· < ·) := h.drop
  rw [List.drop_eq_getElem_cons hp, e] at hd
  constructor
  · intro hy
    refine ⟨fun hyx => ?_, delAt_sub hy⟩
    unfold delAt at hy
    rcases List.mem_append.1 hy with hy | hy
    · have := h1 y hy; omega
    · have := (List.pairwise_cons.1 hd).1 y hy; omega
  · rintro ⟨hne, hy⟩
    unfold delAt
    have : y ∈ s.take (lessN s x) ++ s.drop (lessN s x) := by rw [List.take_append_drop]; exact hy
    rw [List.drop_eq_getElem_cons hp, e] at this
    rcases List.mem_append.1 this with h | h
    · exact List.mem_append.2 (.inl h)
    · rcases List.mem_cons.1 h with h | h
      · exact absurd h hne
      · exact List.mem_append.2 (.inr h)
/-- Rows that increase are the same if they have the same numbers. -/
theorem sorted_ext : ∀ {a b : List Int}, a.Pairwise (· < ·) → b.Pairwise (· < ·) → (∀ x, x ∈ a ↔ x ∈ b) → a = b
  | [], [], _, _, _ => rfl
  | [], y :: s, _, _, h => by have := (h y).2 (List.mem_cons_self); cases this
  | x :: r, [], _, _, h => by have := (h x).1 (List.mem_cons_self); cases this
  | x :: r, y :: s, ha, hb, h => by
    obtain ⟨a1, a2⟩ := List.pairwise_cons.1 ha
    obtain ⟨b1, b2⟩ := List.pairwise_cons.1 hb
    have hxy : x = y := by
      rcases List.mem_cons.1 ((h x).1 List.mem_cons_self) with e | e
      · exact e
      · rcases List.mem_cons.1 ((h y).2 List.mem_cons_self) with e' | e'
        · exact e'.symm
        · have := a1 y e'; have := b1 x e; omega
    subst hxy
    congr 1
    refine sorted_ext a2 b2 fun z => ?_
    constructor
    · intro hz
      rcases List.mem_cons.1 ((h z).1 (List.mem_cons_of_mem _ hz)) with e | e
      · have := a1 z hz; omega
      · exact e
    · intro hz
      rcases List.mem_cons.1 ((h z).2 (List.mem_cons_of_mem _ hz)) with e | e
      · have := b1 z hz; omega
      · exact e
end Go.Proofs.YtfgangkpebkicaaGreatDoor
