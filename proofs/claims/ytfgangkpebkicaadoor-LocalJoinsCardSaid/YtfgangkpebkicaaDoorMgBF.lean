/-
  Joined by a program out of: RefChs, LNMap, BtwRef, JoinsP, LJnsP, LJnsC.
-/
import Derived.Test.YtfgangkpebkicaaDoorMgBE
import Derived.Test.YtfgangkpebkicaaDoorMgBC
import Derived.Test.YtfgangkpebkicaaDoorMgAA
import Derived.Test.YtfgangkpebkicaaDoorMgAZ

/-
  Contract of alibref.Chosen.
-/
namespace Go.Proofs.YtfgangkpebkicaaDoor
open Go.RowKit
set_option maxRecDepth 20000
def intsN (D : List Nat) : List Int := D.map fun i : Nat => (i : Int)
theorem intsN_mem {D : List Nat} {i : Nat} : ((i : Int) ∈ intsN D) ↔ i ∈ D := by
  unfold intsN
  rw [List.mem_map]
  exact ⟨fun ⟨j, h1, h2⟩ => (Int.ofNat_inj.1 h2) ▸ h1, fun h => ⟨i, h, rfl⟩⟩
theorem intsN_len (D : List Nat) : (intsN D).length = D.length := List.length_map _
theorem dec_in (D : List Nat) (i : Nat) : decide ((i : Int) ∈ intsN D) = D.contains i := by
  rw [Bool.eq_iff_iff, decide_eq_true_iff, intsN_mem, List.contains_iff_mem]
structure ChR (w : World) (B n : Nat) (a : Nat → Nat) (v : Value) (D : List Nat) (wr : World) : Prop where
  below : Below w.heap.size w wr
  rel : RelB wr w.heap.size n a
  own : JOwn wr B v (intsN D)
  is : ∃ A c, v = .slice (some A) D.length c
  sz : B ≤ wr.heap.size
  lt : w.heap.size < B
theorem ChR.then_ {w wr w' : World} {B n : Nat} {a : Nat → Nat} {v : Value} {D : List Nat} (h : ChR w B n a v D wr) (hb : Below wr.heap.size wr w') : ChR w B n a v D w' := by
  have h1 := h.sz; have h2 := h.lt
  exact ⟨h.below.trans (hb.mono h.below.size), Lies.below h.rel hb (by omega), h.own.then_ hb, h.is, Nat.le_trans h1 hb.size, h2⟩
theorem ChR.app {w wr w' : World} {B n : Nat} {a : Nat → Nat} {v v' : Value} {D : List Nat} {x : Nat} (h : ChR w B n a v D wr) (hb : Below B wr w') (ho : JOwn w' B v' (intsN D ++ [(x : Int)])) : ChR w B n a v' (D ++ [x]) w' := by
  have h1 := h.sz; have h2 := h.lt
  have e : intsN (D ++ [x]) = intsN D ++ [(x : Int)] := by unfold intsN; rw [List.map_append]; rfl
  refine ⟨h.below.trans (hb.mono (by omega)), Lies.below h.rel hb (by omega), by rw [e]; exact ho, ?_, Nat.le_trans h1 hb.size, h2⟩
  rcases ho.2 with ⟨_, h0⟩ | ⟨g, cap, cur, e3, _⟩
  · simp at h0
  · exact ⟨_, cap, by rw [e3, List.length_append, intsN_len, List.length_append]; rfl⟩
theorem jown_empty (W : World) : JOwn (W.alloc (.cells #[] 3)) W.heap.size (.slice (some ⟨W.heap.size, 0, none⟩) 0 0) [] := ⟨rfl, .inr ⟨W.heap.size, 0, #[], rfl, Nat.le_refl _, heap_alloc_new W _, Nat.le_refl _, by unfold maxLen; omega, rfl, rfl⟩⟩
def ChsPost (w : World) (o : Option (List Nat)) (e : Ending) (w' : World) : Prop :=
  Below w.heap.size w w' ∧ ((o = none ∧ e = .returned (.slice none 0 0)) ∨ ∃ E A c, o = some E ∧ e = .returned (.slice (some A) E.length c) ∧ IRd w' w'.heap.size (.slice (some A) E.length c) (intsN E))
/-- Do the first j let i come next? -/
def mayJ (a : Nat → Nat) (D : List Nat) (i j : Nat) : Bool := !D.contains i && (List.range j).all fun j => !(a j).testBit i || D.contains j
theorem mayJ_succ (a : Nat → Nat) (D : List Nat) (i j : Nat) : mayJ a D i (j + 1) = (mayJ a D i j && (!(a j).testBit i || D.contains j)) := by
  unfold mayJ
  rw [List.range_succ, List.all_append]
  simp [Bool.and_assoc]
theorem findR_none {p : Nat → Bool} {n : Nat} (h : ∀ j, j < n → p j = false) : (List.range n).find? p = none := List.find?_eq_none.2 fun j hj => by rw [h j (List.mem_range.1 hj)]; decide
def sliceN : Value → Nat
  | .slice _ m _ => m
  | _ => 0
set_option maxHeartbeats 4000000 in
theorem chosen_any {n : Nat} {a : Nat → Nat} {w : World} (hn : n ≤ 12) :
    Calls Tryd.prog 14 #[relV n a] w (ChsPost w (chsF a n n [])) := by
  have h0 : ChR w (w.heap.size + 1) n a (.slice (some ⟨w.heap.size + 1, 0, none⟩) 0 0) [] ((w.alloc (.cells (relCs n a) 46)).alloc (.cells #[] 3)) := by
    have hJ := jown_empty (w.alloc (.cells (relCs n a) 46))
    rw [World.size_alloc] at hJ
    exact ⟨((Below.refl _ _).alloc (Nat.le_refl _) _).alloc (by simp) _, Lies.alloc (Lies.new _ _ _) _, hJ, ⟨_, 0, rfl⟩, by simp, by omega⟩
  obtain ⟨O, hO⟩ : ∃ O, O = chsF a n n [] := ⟨_, rfl⟩
  rw [← hO]
  have HO := Lib.hid hO
  clear hO
  go_enter Tryd.func14, Tryd.ntmps14
  go_wp2_with fail
  change Code.wp _ _ _ _ ((w.alloc (.cells (relCs n a) 46)).alloc (.cells #[] 3))
  generalize (w.alloc (.cells (relCs n a) 46)).alloc (.cells #[] 3) = W at h0 ⊢
  have hB : w.heap.size < w.heap.size + 1 := by omega
  generalize w.heap.size + 1 = B at h0 hB ⊢
  go_loopw [3] (fun v wr => ∃ (f : Nat) (D : List Nat), D.length + f = n ∧ chsF a n f D = O ∧ ChR w B n a v D wr) (fun v _ => n - sliceN v)
  case atStart => exact ⟨n, [], by simp, HO.out.symm, h0⟩
  case round =>
    clear h0
    obtain ⟨f, D, hl, hf, hR⟩ := hrel
    obtain ⟨A, c, rfl⟩ := hR.is
    have hc0 := hR.rel.size
    obtain ⟨m, hm⟩ : ∃ m, m = D.length := ⟨_, rfl⟩
    rw [← hm] at hl hR ⊢
    by_cases hmn : m < n
    · obtain ⟨f, rfl⟩ : ∃ f', f = f' + 1 := ⟨f - 1, by omega⟩
      rw [chsF] at hf
      have i1 : (m : Int) < (n : Int) := by omega
      have HF := Lib.hid (And.intro hf (And.intro hl hm))
      have HR := Lib.hid hR
      have hR0 := hR
      clear hf hR hm
      go_wp2_with fail
      go_loopw [3, 5] (fun v i wq => ∃ k : Nat, k ≤ n ∧ i = .int .i64 k ∧ ((ChR w B n a v D wq ∧ ∀ j, j < k → mayC a n D j = false) ∨ ∃ x, k = x + 1 ∧ mayC a n D x = true ∧ (∀ j, j < x → mayC a n D j = false) ∧ ChR w B n a v (D ++ [x]) wq)) (fun _ i _ => n - (intOf i).toNat)
      case atStart => exact ⟨0, by omega, rfl, .inl ⟨hR0, fun j h => by omega⟩⟩
      case round =>
        clear hR0 hc0
        obtain ⟨k, hk, rfl, ⟨hR, hno⟩ | ⟨x, hx, hmx, hno, hR⟩⟩ := hrel
        · obtain ⟨A2, c2, rfl⟩ := hR.is
          have hc0 := hR.rel.size
          have hir := hR.own.rd
          rw [← HF.out.2.2] at hR hir ⊢
          by_cases hkn : k < n
          · have k1 : (0 : Int) ≤ (k : Int) := by omega
            have k2 : (k : Int) < (n : Int) := by omega
            have hco := contains_any hir (by rw [intsN_len, ← HF.out.2.2]; omega) (k : Int)
            rw [dec_in] at hco
            have HCO := Lib.hid hco
            have HRR := Lib.hid (And.intro hR hno)
            clear hR hno hir hco
            generalize hct : D.contains k = ct at HCO
            have HCT := Lib.hid hct
            clear hct
            go_wp2_with fail
            refine HCO.out.mono ?_
            rintro e w3 ⟨rfl, hb3⟩
            have hR3 := HRR.out.1.then_ hb3
            have hc1 := hR3.rel.size
            have hno := HRR.out.2
            have HNO := Lib.hid hno
            clear HRR hc0 hb3 HCO hno
            have hR4 := hR3
            have HR3 := Lib.hid hR3
            clear hR3
            go_wp2_with fail
            clear hc1
            go_loopw [6, 34] (fun b i wq => ∃ j : Nat, j ≤ n ∧ i = .int .i64 j ∧ b = .bool (mayJ a D k j) ∧ ChR w B n a (.slice (some A2) m c2) D wq) (fun _ i _ => n - (intOf i).toNat)
            case atStart => exact ⟨0, by omega, rfl, by unfold mayJ; rw [HCT.out, List.range_zero]; simp, hR4⟩
            case round =>
              clear hR4 HR3
              obtain ⟨j, hj, rfl, rfl, hR⟩ := hrel
              have hms := mayJ_succ a D k j
              by_cases hjn : j < n
              · have j1 : (0 : Int) ≤ (j : Int) := by omega
                have j2 : (j : Int) < (n : Int) := by omega
                cases hacc : mayJ a D k j
                · rw [hacc, Bool.false_and] at hms
                  have HMS := Lib.hid hms
                  have HR := Lib.hid hR
                  clear hms hR hacc
                  go_wp2_with fail
                  go_roundw
                  case rel => exact ⟨j + 1, by omega, by go_num, by rw [HMS.out], HR.out⟩
                  case measure => simp [intOf]; omega
                · rw [hacc, Bool.true_and] at hms
                  have hb0 := hR.rel.size
                  obtain ⟨c0, c1, c2', c3, c4, c5, c6, c7, c8, c9, c10, c11⟩ := hR.rel.rows
                  have HMS := Lib.hid hms
                  have HR := Lib.hid hR
                  have HAH := Lib.hid (ahead_any (n : Int) a j k wr (by omega) (by omega))
                  clear hms hR hacc
                  go_wp2_with fail
                  refine HAH.out.mono ?_
                  rintro e w5 ⟨rfl, hb5⟩
                  have hR5 := HR.out.then_ hb5
                  have HR5 := Lib.hid hR5
                  clear hb0 c0 c1 c2' c3 c4 c5 c6 c7 c8 c9 c10 c11 HR HAH hb5
                  have hms := HMS.out
                  cases hb : (a j).testBit k
                  · rw [hb] at hms
                    have HM2 := Lib.hid hms
                    clear hms hb hR5
                    go_wp2_with fail
                    go_roundw
                    case rel => exact ⟨j + 1, by omega, by go_num, by rw [HM2.out]; rfl, HR5.out⟩
                    case measure => simp [intOf]; omega
                  · rw [hb] at hms
                    have hir := hR5.own.rd
                    have hco := contains_any hir (by rw [intsN_len, ← HF.out.2.2]; omega) (j : Int)
                    rw [dec_in] at hco
                    have HCO := Lib.hid hco
                    have HM2 := Lib.hid hms
                    clear hms hb hR5 hir hco
                    generalize D.contains j = dj at HCO HM2
                    go_wp2_with fail
                    refine HCO.out.mono ?_
                    rintro e w6 ⟨rfl, hb6⟩
                    have HR6 := Lib.hid (HR5.out.then_ hb6)
                    clear hb6 HCO
                    go_wp2_with fail
                    go_roundw
                    case rel => exact ⟨j + 1, by omega, by go_num, by rw [HM2.out]; rfl, HR6.out⟩
                    case measure => simp [intOf]; omega
              · have hjn2 : mayJ a D k j = mayC a n D k := by
                  obtain rfl : j = n := by omega
                  rfl
                have j2 : ¬ (j : Int) < (n : Int) := by omega
                rw [hjn2]
                have HR := Lib.hid hR
                have hown := hR.own
                have hsz := hR.sz
                have HOW := Lib.hid hown
                clear hms hjn2 hR hown
                cases hmy : mayC a n D k
                · have HMY := Lib.hid hmy
                  clear hmy
                  go_wp2_with fail
                  go_roundw
                  case rel => exact ⟨k + 1, by omega, by go_num, .inl ⟨HR.out, fun u hu => by
                    rcases Nat.lt_or_ge u k with h9 | h9
                    · exact HNO.out u h9
                    · obtain rfl : u = k := by omega
                      exact HMY.out⟩⟩
                  case measure => simp [intOf]; omega
                · have HMY := Lib.hid hmy
                  clear hmy
                  go_wp2_with (at_builtin; refine app_one rfl (.tmp 52) (.tmp 54) rfl B _ (intsN D) rfl HOW.out (k : Int) rfl (by rw [intsN_len, ← HF.out.2.2]; omega) hsz ?_; intro v' w5 ho5 hb5)
                  go_roundw
                  case rel => exact ⟨k + 1, by omega, by go_num, .inr ⟨k, rfl, HMY.out, HNO.out, HR.out.app hb5 ho5⟩⟩
                  case measure => simp [intOf]; omega
          · have k2 : ¬ (k : Int) < (n : Int) := by omega
            have hf := HF.out.1
            rw [findR_none (fun j hj => hno j (by omega))] at hf
            have HFN := Lib.hid hf
            have HRR := Lib.hid hR
            clear hR hno hir hf
            go_wp2_with fail
            go_ret
            exact ⟨HRR.out.below, .inl ⟨HFN.out.symm, rfl⟩⟩
        · obtain ⟨A2, c2, rfl⟩ := hR.is
          have hc0 := hR.rel.size
          have hl2 : (D ++ [x]).length = m + 1 := by rw [List.length_append, ← HF.out.2.2]; rfl
          rw [hl2] at hR ⊢
          have hf := HF.out.1
          rw [find_range (by omega) hmx hno] at hf
          have HFX := Lib.hid (And.intro hf (And.intro hl2 hR))
          have hne : (((m + 1 : Nat) : Int) == (m : Int)) = false := by rw [beq_eq_false_iff_ne]; omega
          have hcast : (((m + 1 : Nat) : Int)) = (m : Int) + 1 := by omega
          clear hR hno hmx hf hl2
          by_cases hkn : k < n
          · have k2 : (k : Int) < (n : Int) := by omega
            subst hx
            go_wp2_with fail
            go_roundw
            case rel => exact ⟨f, D ++ [x], by rw [HFX.out.2.1]; have := HF.out.2.1; omega, HFX.out.1, HFX.out.2.2⟩
            case measure => simp [sliceN]; omega
          · have k2 : ¬ (k : Int) < (n : Int) := by omega
            subst hx
            go_wp2_with fail
            go_roundw
            case rel => exact ⟨f, D ++ [x], by rw [HFX.out.2.1]; have := HF.out.2.1; omega, HFX.out.1, HFX.out.2.2⟩
            case measure => simp [sliceN]; omega
    · have hm2 : m = n := by omega
      have i1 : ¬ (m : Int) < (n : Int) := by omega
      obtain rfl : f = 0 := by omega
      rw [chsF] at hf
      have HR := Lib.hid (And.intro hR (And.intro hf hm))
      clear hR hf hm hm2
      go_wp2_with fail
      go_ret
      refine ⟨HR.out.1.below, .inr ⟨D, A, c, HR.out.2.1.symm, by rw [← HR.out.2.2] <;> rfl, ?_⟩⟩
      rw [← HR.out.2.2]
      exact HR.out.1.own.rd
end Go.Proofs.YtfgangkpebkicaaDoor

/-
  A map from numbers to numbers.
-/
namespace Go.Proofs.YtfgangkpebkicaaDoor
open Go.RowKit Go.Maps
open Go.ChangeShapes (lits)
set_option maxRecDepth 20000
def nuDat (r : Int) : DataW Unit := .slice (lits .i64 [r]) []
def nuR : Value → Option (DataW Unit × List MemPlace)
  | .int .i64 x => some (nuDat x, [])
  | _ => none
theorem nuR_mk (x : Int) : nuR (.int .i64 x) = some (nuDat x, []) := rfl
theorem nuDat_inj {a b : Int} (h : nuDat a = nuDat b) : a = b := by
  unfold nuDat at h
  injection h with h
  have := lits_inj h
  injection this with h1 _
theorem nuR_inv {v : Value} {d : DataW Unit} {ps : List MemPlace} (h : nuR v = some (d, ps)) : ∃ x, v = .int .i64 x ∧ d = nuDat x := by
  unfold nuR at h
  split at h
  · rename_i x
    injection h with h
    injection h with h1 h2
    exact ⟨x, rfl, h1.symm⟩
  · cases h
/-- Block b is a map of at most n numbers. -/
def NMap (w : World) (b n : Nat) (F : Int → Option Int) : Prop :=
  ∃ D : DataW Unit, w.ownsMap Tryd.prog 3 nuR b n D ∧ ∀ k : Int, has D (.int .i64 k) = (F k).isSome ∧ ∀ r, F k = some r → ∀ zd, D.atKey (.int .i64 k) zd = nuDat r
theorem NMap.made (w : World) : NMap (w.alloc (.map #[] 0)) w.heap.size 0 (fun _ => none) := ⟨_, World.ownsMap_made w _ _ _, fun _ => ⟨rfl, fun r h => by cases h⟩⟩
theorem NMap.lt {w : World} {b n : Nat} {F : Int → Option Int} (h : NMap w b n F) : b < w.heap.size := by
  obtain ⟨D, h, _⟩ := h
  exact h.lt
theorem NMap.keep {w w' : World} {b n : Nat} {F : Int → Option Int} (h : NMap w b n F) (e : w'.heap[b]? = w.heap[b]?) : NMap w' b n F := by
  obtain ⟨D, ⟨es, clock, h1, h2, h3, h4⟩, h5⟩ := h
  exact ⟨D, ⟨es, clock, e.trans h1, h2, h3, h4⟩, h5⟩
theorem NMap.below {w w' : World} {b n : Nat} {F : Int → Option Int} (h : NMap w b n F) (hb : Below w.heap.size w w') : NMap w' b n F := h.keep (hb.block b h.lt)
theorem zero_num (w : World) : (zeroValue 3).run Tryd.prog w = .ok (.int .i64 0) w := by kernel_rfl
theorem key_intW {k : Int} (h : (Lit.int .i64 k).wf = true) : keyOf Tryd.prog 3 (.int .i64 k) = some (.int .i64 k) := by
  simp [keyOf, Tryd.underlying3, mapKey]
  exact h
theorem NMap.look {w : World} {ops : Array Oper} {rest : List Oper} {o : Oper} {a : Act} {Q : Exit → Act → World → Prop} (hg : o.guard = none) (m x : Operand) (hop : o.op = Op.lookup 42 m x true)
    {b n : Nat} {F : Int → Option Int} (h : NMap w b n F) (k : Int) (hw : (Lit.int .i64 k).wf = true) (hm : a.eval m = .map (some b)) (hx : a.eval x = .int .i64 k)
    (hK : ∀ r : Int, ((F k).isSome = true → F k = some r) → wpList Tryd.prog ops Q rest (a.put o.dst (.tuple #[.int .i64 r, .bool (F k).isSome])) w) : wpList Tryd.prog ops Q (o :: rest) a w := by
  obtain ⟨D, h, h2⟩ := h
  refine wpList_lookup_own_ok w hg m x 42 hop 3 3 keyed_int Tryd.underlying42 nuR (zero_num w) (nuDat 0) [] rfl b n D hm h _ _ hx (key_intW hw) fun v ps hv => ?_
  obtain ⟨r, rfl, hd⟩ := nuR_inv hv
  rw [(h2 k).1]
  refine hK r fun hs => ?_
  cases hF : F k with
  | none => rw [hF] at hs; cases hs
  | some y =>
    rw [(h2 k).2 y hF] at hd
    rw [nuDat_inj hd]
theorem NMap.put {w : World} {ops : Array Oper} {rest : List Oper} {o : Oper} {a : Act} {Q : Exit → Act → World → Prop} (hg : o.guard = none) (m x v : Operand) (hop : o.op = Op.mapUpdate 42 m x v)
    {b n : Nat} {F : Int → Option Int} (h : NMap w b n F) (k r : Int) (h0 : -1000000 ≤ k) (h1 : k ≤ 1000000) (hn : n ≤ 1000000000000) (hm : a.eval m = .map (some b)) (hx : a.eval x = .int .i64 k) (hv : a.eval v = .int .i64 r)
    (hK : ∀ w', NMap w' b (n + 1) (fun c => if c = k then some r else F c) → w.grownBy w' (some b) → wpList Tryd.prog ops Q rest (a.put o.dst undef) w') : wpList Tryd.prog ops Q (o :: rest) a w := by
  obtain ⟨D, h, h2⟩ := h
  refine wpList_mapUpdate_own w hg m x v 42 hop 3 3 keyed_int Tryd.underlying42 nuR b n D hm h (by unfold maxLen; omega) _ _ _ hx hv (key_int h0 h1) _ [] (nuR_mk r) (fun w' h3 h4 => hK w' ⟨_, h3, fun c => ?_⟩ h4)
  by_cases e : c = k
  · subst e
    simp only [if_true]
    refine ⟨has_put_same h.isMap (by first | exact trivial | decide | simp [WideAt.IsKeyLit]) _, fun y hy zd => ?_⟩
    injection hy with hy
    subst hy
    exact atKey_put_same (k := .int .i64 c) h.isMap (by first | exact trivial | decide | simp [WideAt.IsKeyLit]) _ _
  · simp only [e, if_false]
    have hne : (Lit.int .i64 k) ≠ .int .i64 c := fun h5 => e (Eq.symm (by injection h5))
    refine ⟨(has_put_other hne.symm _).trans (h2 c).1, fun y hy zd => ?_⟩
    rw [atKey_put_other hne.symm]
    exact (h2 c).2 y hy zd
end Go.Proofs.YtfgangkpebkicaaDoor

/-
  Contract of the reference's Between.
-/
namespace Go.Proofs.YtfgangkpebkicaaDoor
open Go.RowKit
set_option maxRecDepth 20000
theorem betweenI_any (a lo hi : Int) (w : World) : Calls Tryd.prog 13 #[.int .i64 a, .int .i64 lo, .int .i64 hi] w fun e w' => e = .returned (.bool (btw lo a hi)) ∧ w' = w := by
  have hb : btw lo a hi = true ↔ lo ≤ a ∧ a ≤ hi := btw_iff
  obtain ⟨r, hr⟩ : ∃ r, r = btw lo a hi := ⟨_, rfl⟩
  rw [← hr] at hb ⊢
  clear hr
  by_cases h1 : lo ≤ a
  · by_cases h2 : a ≤ hi
    · obtain rfl : r = true := hb.2 ⟨h1, h2⟩
      clear hb
      go_enter Tryd.func13, Tryd.ntmps13
      go_wp2_with fail
      go_ret
      exact ⟨rfl, rfl⟩
    · obtain rfl : r = false := Bool.eq_false_iff.2 fun h => h2 (hb.1 h).2
      clear hb
      go_enter Tryd.func13, Tryd.ntmps13
      go_wp2_with fail
      go_ret
      exact ⟨rfl, rfl⟩
  · obtain rfl : r = false := Bool.eq_false_iff.2 fun h => h1 (hb.1 h).1
    clear hb
    go_enter Tryd.func13, Tryd.ntmps13
    go_wp2_with fail
    go_ret
    exact ⟨rfl, rfl⟩
end Go.Proofs.YtfgangkpebkicaaDoor

/-
  Plain: with every earlier step of a list ahead, or with the neighbours alone: the closure is the same.
-/
namespace Go.Proofs.YtfgangkpebkicaaDoor
open Go.RowKit
set_option maxRecDepth 20000
theorem warsh_mono {n : Nat} {a b : Nat → Nat} (h : ∀ x y, (a x).testBit y = true → (clo n b x).testBit y = true) : ∀ k, k ≤ n → ∀ x y, x < n → (warsh n a k x).testBit y = true → (clo n b x).testBit y = true
  | 0, _, x, y, _, hb => h x y hb
  | k + 1, hk, x, y, hx, hb => by
    change (stepV n (warsh n a k) k x).testBit y = true at hb
    rw [stepV_bit n _ k _ _ hx] at hb
    simp only [Bool.or_eq_true, Bool.and_eq_true] at hb
    rcases hb with hb | ⟨h1, h2⟩
    · exact warsh_mono h k (by omega) x y hx hb
    · exact clo_trans n b x hx k (by omega) (warsh_mono h k (by omega) x k hx h1) y (warsh_mono h k (by omega) k y (by omega) h2)
theorem warsh_far (n : Nat) (a : Nat → Nat) {x : Nat} (hx : ¬ x < n) : ∀ k, warsh n a k x = a x
  | 0 => rfl
  | k + 1 => by
    change stepV n (warsh n a k) k x = a x
    unfold stepV
    rw [if_neg (fun h => hx h.1), warsh_far n a hx k]
theorem clo_same {n : Nat} {p q : Nat → Nat → Bool} (h1 : ∀ x y, p x y = true → q x y = true) (h2 : ∀ x y, x < n → y < n → q x y = true → (clo n (relP p n) x).testBit y = true) : clo n (relP q n) = clo n (relP p n) := by
  funext x
  by_cases hx : x < n
  · apply Nat.eq_of_testBit_eq
    intro y
    rw [Bool.eq_iff_iff]
    constructor
    · exact warsh_mono (fun x y hb => by
        rw [relP_bit] at hb
        simp only [Bool.and_eq_true, decide_eq_true_eq] at hb
        exact h2 x y hb.1.1 hb.1.2 hb.2) n (Nat.le_refl _) x y hx
    · exact warsh_mono (fun x y hb => clo_has _ _ x y (by
        rw [relP_bit] at hb ⊢
        simp only [Bool.and_eq_true, decide_eq_true_eq] at hb ⊢
        exact ⟨hb.1, h1 x y hb.2⟩)) n (Nat.le_refl _) x y hx
  · show warsh n _ n x = warsh n _ n x
    rw [warsh_far n _ hx, warsh_far n _ hx]
    unfold relP
    rw [if_neg hx, if_neg hx]
/-- Does i stand before j in the list? -/
def befL (l : List (Int × Int)) (i j : Nat) : Prop := ∃ u x v y z, l = u ++ x :: v ++ y :: z ∧ x.1.toNat = i ∧ y.1.toNat = j
/-- All earlier steps of a list ahead, or the neighbours alone. -/
theorem must_clo {n : Nat} {p q : Nat → Nat → Bool} {ww : List (List (Int × Int))} (hr : ∀ l ∈ ww, ∀ x ∈ l, 0 ≤ x.1 ∧ x.1 < n) (hq : ∀ i j, i < n → j < n → (q i j = true ↔ p i j = true ∨ ∃ l ∈ ww, befL l i j)) :
    clo n (relP q n) = clo n (relP (fun i j => decide (i < n) && decide (j < n) && relF p ww i j) n) := by
  have hsub : ∀ i j, (decide (i < n) && decide (j < n) && relF p ww i j) = true → q i j = true := fun i j h => by
    simp only [Bool.and_eq_true, decide_eq_true_eq] at h
    refine (hq i j h.1.1 h.1.2).2 ?_
    rcases (relF_iff _ _ _ _).1 h.2 with h | ⟨l, hl, u, x, y, v, e, h1, h2⟩
    · exact .inl h
    · exact .inr ⟨l, hl, u, x, [], y, v, by rw [e]; simp, h1, h2⟩
  refine clo_same hsub fun i j hi hj h => ?_
  rcases (hq i j hi hj).1 h with h | ⟨l, hl, u, x, v, y, z, e, h1, h2⟩
  · refine clo_has _ _ i j ?_
    rw [relP_bit]
    simp only [Bool.and_eq_true, decide_eq_true_eq]
    exact ⟨⟨hi, hj⟩, ⟨⟨hi, hj⟩, (relF_iff _ _ _ _).2 (.inl h)⟩⟩
  · have hpw := pw_adj (R := fun i j => (clo n (relP (fun i j => decide (i < n) && decide (j < n) && relF p ww i j) n) i).testBit j = true) (n := n) (fun i j k hi hj h1 h2 => clo_trans _ _ i hi j hj h1 k h2) (hr l hl) (fun i j h => clo_has _ _ i j (by
      have h0 := h
      obtain ⟨u, x, y, v, e, rfl, rfl⟩ := h
      have hx := hr l hl x (by rw [e]; simp)
      have hy := hr l hl y (by rw [e]; simp)
      rw [relP_bit]
      simp only [Bool.and_eq_true, decide_eq_true_eq]
      exact ⟨⟨by omega, by omega⟩, ⟨⟨by omega, by omega⟩, (relF_iff _ _ _ _).2 (.inr ⟨l, hl, h0⟩)⟩⟩))
    rw [e] at hpw
    have := (List.pairwise_append.1 hpw).2.2 x (by simp) y (by simp)
    rw [h1, h2] at this
    exact this
theorem relP_cut (p : Nat → Nat → Bool) (n : Nat) : relP (fun i j => decide (i < n) && decide (j < n) && p i j) n = relP p n := by
  funext x
  apply Nat.eq_of_testBit_eq
  intro y
  rw [relP_bit, relP_bit]
  by_cases hx : x < n <;> by_cases hy : y < n <;> simp [hx, hy]
end Go.Proofs.YtfgangkpebkicaaDoor

/-
  Plain: what LocalJoins builds up: which calls must come ahead, list after list.
-/
namespace Go.Proofs.YtfgangkpebkicaaDoor
open Go.RowKit
set_option maxRecDepth 20000
/-- Does a step of call i stand ahead of one of call j? -/
def befB : List (Int × Int) → Nat → Nat → Bool
  | [], _, _ => false
  | x :: r, i, j => (x.1.toNat == i && r.any fun y => y.1.toNat == j) || befB r i j
theorem befB_iff : ∀ (l : List (Int × Int)) (i j : Nat), befB l i j = true ↔ befL l i j
  | [], i, j => by
    constructor
    · intro h; cases h
    · rintro ⟨u, x, v, y, z, e, _⟩
      cases u <;> simp at e
  | a :: r, i, j => by
    rw [befB, Bool.or_eq_true, Bool.and_eq_true, beq_iff_eq, List.any_eq_true, befB_iff r]
    constructor
    · rintro (⟨h1, y, hy, h2⟩ | ⟨u, x, v, y, z, e, h1, h2⟩)
      · obtain ⟨v, z, e⟩ := List.append_of_mem hy
        exact ⟨[], a, v, y, z, by rw [e]; simp, h1, beq_iff_eq.1 h2⟩
      · exact ⟨a :: u, x, v, y, z, by rw [e]; simp, h1, h2⟩
    · rintro ⟨u, x, v, y, z, e, h1, h2⟩
      cases u with
      | nil =>
        simp at e
        obtain ⟨rfl, rfl⟩ := e
        exact .inl ⟨h1, y, by simp, beq_iff_eq.2 h2⟩
      | cons b u =>
        simp at e
        obtain ⟨rfl, rfl⟩ := e
        exact .inr ⟨u, x, v, y, z, by simp, h1, h2⟩
theorem befB_snoc (y : Int × Int) (i j : Nat) : ∀ (l : List (Int × Int)), befB (l ++ [y]) i j = (befB l i j || (l.any (fun x => x.1.toNat == i) && y.1.toNat == j))
  | [] => by simp [befB]
  | a :: r => by
    rw [List.cons_append, befB, befB, befB_snoc y i j r, List.any_append, List.any_cons]
    simp only [List.any_cons, List.any_nil, Bool.or_false]
    cases a.1.toNat == i <;> cases (r.any fun y => y.1.toNat == j) <;> cases y.1.toNat == j <;> cases befB r i j <;> cases (r.any fun x => x.1.toNat == i) <;> rfl
/-- What must come ahead, once these lists and the first steps of one more are done. -/
def mustQ (cs : List Cl) (done : List (List (Int × Int))) (l : List (Int × Int)) (i j : Nat) : Bool := aheadB cs i j || (done.any (fun l => befB l i j) || befB l i j)
theorem mustQ_nil (cs : List Cl) : mustQ cs [] [] = aheadB cs := by
  funext i j
  simp [mustQ, befB]
theorem mustQ_done (cs : List Cl) (done : List (List (Int × Int))) (l : List (Int × Int)) : mustQ cs done l = mustQ cs (done ++ [l]) [] := by
  funext i j
  simp [mustQ, befB, List.any_append]
/-- .. and the first m of its earlier steps ahead of the next one's call. -/
def mustM (cs : List Cl) (done : List (List (Int × Int))) (l : List (Int × Int)) (s m : Nat) (i j : Nat) : Bool := mustQ cs done l i j || ((l.take m).any (fun x => x.1.toNat == i) && s == j)
theorem mustM_zero (cs : List Cl) (done : List (List (Int × Int))) (l : List (Int × Int)) (s : Nat) : mustM cs done l s 0 = mustQ cs done l := by
  funext i j
  simp [mustM]
theorem mustM_all (cs : List Cl) (done : List (List (Int × Int))) (l : List (Int × Int)) (y : Int × Int) : mustM cs done l y.1.toNat l.length = mustQ cs done (l ++ [y]) := by
  funext i j
  unfold mustM mustQ
  rw [List.take_length, befB_snoc, Bool.or_assoc, Bool.or_assoc]
theorem mustM_succ (cs : List Cl) (done : List (List (Int × Int))) {l : List (Int × Int)} (s : Nat) {m : Nat} {y : Int × Int} (hy : l[m]? = some y) (i j : Nat) : mustM cs done l s (m + 1) i j = (mustM cs done l s m i j || (y.1.toNat == i && s == j)) := by
  unfold mustM
  rw [List.take_add_one, hy, List.any_append, Bool.or_assoc]
  congr 1
  simp only [Option.toList_some, List.any_cons, List.any_nil, Bool.or_false]
  cases ((l.take m).any fun x => x.1.toNat == i) <;> cases y.1.toNat == i <;> cases s == j <;> rfl
end Go.Proofs.YtfgangkpebkicaaDoor

/-
  Plain: what LocalJoins chooses at the end is what Join answers.
-/
namespace Go.Proofs.YtfgangkpebkicaaDoor
open Go.RowKit
set_option maxRecDepth 20000
/-- What is chosen at the end. -/
theorem must_chosen {cs : List Cl} {ww : List (List (Int × Int))} (hn : cs.length ≤ 12) (hr : ∀ l ∈ ww, ∀ x ∈ l, 0 ≤ x.1 ∧ x.1 < cs.length) :
    (chsF (relP (mustQ cs ww []) cs.length) cs.length cs.length []).map (fun E => E.map fun i : Nat => (i : Int)) = if cyc (clo cs.length (jnR cs ww)) cs.length = true then none else some (lsL (rev cs.length (clo cs.length (jnR cs ww))) cs.length cs.length) := by
  have h := must_clo (n := cs.length) (p := aheadB cs) (q := mustQ cs ww []) (ww := ww) hr (fun i j _ _ => by
    unfold mustQ
    rw [Bool.or_eq_true, Bool.or_eq_true, List.any_eq_true]
    refine or_congr Iff.rfl ⟨?_, ?_⟩
    · rintro (⟨l, hl, hb⟩ | hb)
      · exact ⟨l, hl, (befB_iff l i j).1 hb⟩
      · cases hb
    · rintro ⟨l, hl, hb⟩
      exact .inl ⟨l, hl, (befB_iff l i j).2 hb⟩)
  rw [relP_cut] at h
  rw [chosen_eq hn, h]
  rfl
end Go.Proofs.YtfgangkpebkicaaDoor
