/-
  Joined by a program out of: CloneEv, OwnEv, BNamesW, BNamesCard.
-/
import Derived.Test.YtfgangkpebkicaaGreatDoorMgAD
import Derived.Deep.DeepAppendWide
import Derived.Lib.AppendZeros
import Derived.Lib.SliceRun
import Derived.Test.YtfgangkpebkicaaGreatDoorMgAA
import Derived.Test.YtfgangkpebkicaaGreatDoorMgAY
import Derived.Test.YtfgangkpebkicaaGreatDoorTie
import Derived.Test.YtfgangkpebkicaaGreatDoorCards
import Derived.SevenTiedAt
import Derived.Stop.Joined

/-
  append of events: any slice of such behind a row of one's own; slices.Clone over such.
-/
namespace Go.Proofs.YtfgangkpebkicaaGreatDoor
open Go.RowKit
set_option maxRecDepth 20000
theorem EOwn.nil (w : World) (B : Nat) : EOwn w B (.slice none 0 0) [] := World.ownsRow_nil _ _ _ _
theorem EOwn.below {w w' : World} {B : Nat} {v : Value} {l : List Ev} (h : EOwn w B v l) (hb : Below w.heap.size w w') : EOwn w' B v l := by
  refine ⟨h.1, h.2.elim (fun h => .inl h) fun ⟨g, cap, cur, h1, h2, h3, h4, h5, h6, h7⟩ => .inr ⟨g, cap, cur, h1, h2, ?_, h4, h5, h6, h7⟩⟩
  rw [hb.block g (Array.getElem?_eq_some_iff.1 h3).1]
  exact h3
theorem run_app_evs {W : World} {base n cap : Nat} {v : Value} {A : Option Addr} {l ys : List Ev} {B : Nat} (ty : TypeId) (hown : EOwn W base v l) (hr : ERd W B (.slice A n cap) ys) (hlen : ((l.length + ys.length) + (l.length + ys.length) / 4 + 192) * 32 ≤ 281474976710656) (hbase : base ≤ W.heap.size) (hA : A ≠ none) :
    ∃ v' w', (Builtin.append_ #[22, 22] ty #[v, .slice A n cap]).run Tryz.prog W = .ok v' w' ∧ EOwn w' base v' (l ++ ys) ∧ Below base W w' := by
  obtain ⟨i0, hi, hz0, hz1, hz2⟩ := info_of info_ev
  have hl := World.ownsRow.lt hown
  obtain ⟨A', cap', he, m1, m2, hc⟩ := hr
  injection he with e1 e2 e3
  subst e1 e2 e3
  cases A with
  | none => exact absurd rfl hA
  | some a =>
    have hlf : (ys.flatMap evCs).length = ys.length * 4 := flat_len (f := evCs) (s := 4) (fun _ => rfl) ys
    obtain ⟨v', w', hr, h2, h3, _⟩ := run_append_own_wide (P := Tryz.prog) W base 22 ty 37 i0 (evV default) 4 32 Tryz.underlying22 hi hz0 hz1 hz2 rfl (by decide) v l.length (l.flatMap evCs) hown
      a ys.length cap (ys.flatMap evCs) hlf (fun j u hu => by
        have hj := (List.getElem?_eq_some_iff.1 hu).1
        rw [hlf] at hj
        obtain ⟨g, o, ha, _, hcell⟩ := hc (by omega)
        injection ha with ha
        subst ha
        have hx := List.getElem?_eq_getElem (show j / 4 < ys.length by omega)
        have hm : j % 4 < (evCs ys[j / 4]).length := by show j % 4 < 4; omega
        have hf := flat_at (l := ys) (f := evCs) (s := 4) (fun _ => rfl) hx (List.getElem?_eq_getElem hm)
        have e : j / 4 * 4 + j % 4 = j := by omega
        rw [e, hu] at hf
        have := hcell (j / 4) _ hx (j % 4) _ ((List.getElem?_eq_getElem hm).trans hf.symm)
        rw [Addr.add_lit]
        rw [Nat.add_assoc, e] at this
        exact this) (fun u hu => by
        rw [List.mem_flatMap] at hu
        obtain ⟨x, _, hx⟩ := hu
        simp only [List.mem_cons, List.not_mem_nil, or_false] at hx
        rcases hx with rfl | rfl | rfl | rfl <;> rfl) (by unfold maxLen; omega) hlen hbase
    refine ⟨v', w', hr, ?_, (Below.refl base W).grown h3 hbase (fun k hk => (hl k hk).1)⟩
    unfold EOwn
    rw [List.length_append, List.flatMap_append]
    exact h2
set_option maxHeartbeats 1000000 in
theorem cloneE_any {v : Value} {l : List Ev} {w : World} (h : ERd w w.heap.size v l) (hbig : l.length * 32 ≤ 140737488355328) :
    Calls Tryz.prog 19 #[v] w fun e w' => ∃ v', e = .returned v' ∧ EOwn w' w.heap.size v' l ∧ Below w.heap.size w w' := by
  obtain ⟨A, cap, rfl, m1, m2⟩ := h.is
  have hq := fun (W : World) (a : Option Addr) (n cap : Nat) => Lib.run_eql_slice_nil (P := Tryz.prog) W 22 37 a n cap 0 0 Tryz.underlying22
  cases A with
  | none =>
    have hl : l = [] := by
      apply List.length_eq_zero_iff.1
      apply Classical.byContradiction
      intro hp
      obtain ⟨A', cap', hv, h1, h2, h3⟩ := h
      injection hv with e1 e2 e3
      subst e1
      obtain ⟨g, o, hA, _⟩ := h3 (by omega)
      cases hA
    subst hl
    go_enter Tryz.func19, Tryz.ntmps19
    go_wp2
    go_ret
    exact ⟨_, rfl, EOwn.nil _ _, Below.refl _ _⟩
  | some a =>
    have hempty : EOwn (w.alloc (.cells #[] 37)) w.heap.size (.slice (some ⟨w.heap.size, 0, none⟩) 0 0) [] := ⟨rfl, .inr ⟨w.heap.size, 0, #[], rfl, Nat.le_refl _, heap_alloc_new w _, Nat.le_refl _, by unfold maxLen; omega, rfl, rfl⟩⟩
    have hr1 : ERd (w.alloc (.cells #[] 37)) w.heap.size (.slice (some a) l.length cap) l := h.below ((Below.refl _ _).alloc (Nat.le_refl _) _)
    obtain ⟨v1, w1, hrun, ho1, hb1⟩ := run_app_evs 22 hempty hr1 (by simp; omega) (by simp) (by simp)
    rw [List.nil_append] at ho1
    have HO := Lib.hid (And.intro ho1 (((Below.refl w.heap.size w).alloc (Nat.le_refl _) (.cells #[] 37)).trans hb1))
    have HRUN := Lib.hid hrun
    clear hempty hr1 h ho1 hb1 hrun
    go_enter Tryz.func19, Tryz.ntmps19
    go_wp2_with (at_builtin; refine Lib.wpList_append_run _ rfl (.tmp 5) (.tmp 6) _ _ rfl _ _ rfl rfl v1 w1 HRUN.out ?_)
    go_ret
    exact ⟨v1, rfl, HO.out⟩
end Go.Proofs.YtfgangkpebkicaaGreatDoor

/-
  Rows of events of the call's own: a cell is read, a cell is written.
-/
namespace Go.Proofs.YtfgangkpebkicaaGreatDoor
open Go.RowKit
set_option maxRecDepth 20000
/-- One cell of a row of one's own is written. -/
theorem own_set {w : World} {B s n cap : Nat} {t : TypeId} {g : Nat} {xs : List Value} (h : w.ownsRow B t s (.slice (some ⟨g, 0, none⟩) n cap) n xs) (j : Nat) (u : Value) : (w.setCell ⟨g, j, none⟩ u).ownsRow B t s (.slice (some ⟨g, 0, none⟩) n cap) n (xs.set j u) := by
  refine ⟨by rw [List.length_set]; exact h.1, ?_⟩
  rcases h.2 with ⟨h', _⟩ | ⟨g', cap', cur, h', hB, hg, h1, h2, h3, h4⟩
  · simp at h'
  · simp only [Value.slice.injEq, Option.some.injEq, Addr.mk.injEq, and_true, true_and] at h'
    obtain ⟨rfl, rfl⟩ := h'
    refine .inr ⟨g, cap, cur.setIfInBounds j u, rfl, hB, Lies.set_ hg j u, h1, h2, by simpa using h3, ?_⟩
    rw [← h4, Array.toList_setIfInBounds, List.take_set]
theorem own_at {w : World} {B g n cap : Nat} {l : List Ev} (h : EOwn w B (.slice (some ⟨g, 0, none⟩) n cap) l) : B ≤ g := by
  rcases h.2 with ⟨h', _⟩ | ⟨g', cap', cur, h', hB, _⟩
  · simp at h'
  · simp only [Value.slice.injEq, Option.some.injEq, Addr.mk.injEq, and_true] at h'
    obtain ⟨rfl, -⟩ := h'
    exact hB
theorem EOwn.drew {w : World} {B : Nat} {v : Value} {l : List Ev} (h : EOwn w B v l) : EOwn w.drew B v l := h
theorem own_frozen {w : World} {B g n cap : Nat} {l : List Ev} (h : EOwn w B (.slice (some ⟨g, 0, none⟩) n cap) l) (j : Nat) : w.frozen? ⟨g, j, none⟩ = false := by
  rcases h.2 with ⟨h', _⟩ | ⟨g', cap', cur, h', hB, hg, _⟩
  · simp at h'
  · simp only [Value.slice.injEq, Option.some.injEq, Addr.mk.injEq, and_true] at h'
    obtain ⟨rfl, -⟩ := h'
    exact Lies.frozen hg j
theorem getD_ev {l : List Ev} {k : Nat} {x : Ev} (h : l[k]? = some x) : l.getD k default = x := by
  rw [List.getD_eq_getElem?_getD, h]
  rfl
theorem own_ev {w : World} {B g n cap k : Nat} {l : List Ev} (h : EOwn w B (.slice (some ⟨g, 0, none⟩) n cap) l) {x : Ev} (hk : l[k]? = some x) : w.cell? ⟨g, k * 4, none⟩ = some (.int .i64 x.who) ∧ w.cell? ⟨g, k * 4 + 1, none⟩ = some (.int .i64 x.thing) ∧ w.cell? ⟨g, k * 4 + 2, none⟩ = some (.int .i64 x.kind) ∧ w.cell? ⟨g, k * 4 + 3, none⟩ = some (.int .i64 x.val) := by
  obtain ⟨g', o', e, _, d0, d1, d2, d3⟩ := h.rd.ev hk
  injection e with e
  injection e with e1 e2
  subst e1 e2
  simp only [Nat.zero_add] at d0 d1 d2 d3
  exact ⟨d0, d1, d2, d3⟩
end Go.Proofs.YtfgangkpebkicaaGreatDoor

/-
  alibkeep.BagsNames answers true, whatever is handed in.
-/
namespace Go.Proofs.YtfgangkpebkicaaGreatDoor
open Go.RowKit
set_option maxRecDepth 20000

/-- The first k events with numbers one more. -/
def upM (m : Int) (k : Nat) (l : List Ev) : List Ev := (l.take k).map (addM m) ++ l.drop k
theorem upM_len (m : Int) (k : Nat) (l : List Ev) : (upM m k l).length = l.length := by
  unfold upM
  rw [List.length_append, List.length_map, List.length_take, List.length_drop]
  omega
theorem upM_zero (m : Int) (l : List Ev) : upM m 0 l = l := rfl
theorem upM_all (m : Int) (l : List Ev) : upM m l.length l = l.map (addM m) := by
  unfold upM
  rw [List.take_length, List.drop_length, List.append_nil]
theorem upM_at {m : Int} {k : Nat} {l : List Ev} {x : Ev} (h : l[k]? = some x) : (upM m k l)[k]? = some x := by
  have hk := (List.getElem?_eq_some_iff.1 h).1
  unfold upM
  rw [List.getElem?_append, if_neg (by rw [List.length_map, List.length_take]; omega), List.length_map, List.length_take, List.getElem?_drop, Nat.min_eq_left (by omega), Nat.sub_self, Nat.add_zero]
  exact h
theorem upM_succ {m : Int} {k : Nat} {l : List Ev} {x : Ev} (h : l[k]? = some x) : upM m (k + 1) l = (upM m k l).set k (addM m x) := by
  have hk := (List.getElem?_eq_some_iff.1 h).1
  have hd : l.drop k = x :: l.drop (k + 1) := by rw [List.drop_eq_getElem_cons hk, (List.getElem?_eq_some_iff.1 h).2]
  unfold upM
  rw [List.take_add_one, h, Option.toList_some, List.map_append, hd, List.set_append_right _ _ (by rw [List.length_map, List.length_take]; omega), List.length_map, List.length_take, Nat.min_eq_left (by omega), Nat.sub_self, List.set_cons_zero, List.append_assoc]
  rfl
theorem upM_same {m : Int} {k : Nat} {l : List Ev} {x : Ev} (h : l[k]? = some x) (hx : x.kind = 0) : upM m (k + 1) l = upM m k l := by
  have h2 := upM_at (m := m) h
  have e : addM m x = x := by unfold addM; rw [if_neg (fun h => h hx)]
  rw [upM_succ h, e]
  obtain ⟨hk, e2⟩ := List.getElem?_eq_some_iff.1 h2
  conv => lhs; rw [← e2]
  exact List.set_getElem_self hk
theorem flat_valB : ∀ (es : List Ev) (q : Nat) (y : Ev) (v : Int), es[q]? = some y → (es.flatMap evCs).set (q * 4 + 3) (.int .i64 v) = (es.set q { y with val := v }).flatMap evCs
  | [], q, y, v, h => by simp at h
  | x :: r, 0, y, v, h => by
    simp at h
    subst h
    simp [List.flatMap_cons]
  | x :: r, q + 1, y, v, h => by
    have h' : r[q]? = some y := by simpa using h
    rw [List.set_cons_succ, List.flatMap_cons, List.flatMap_cons, ← flat_valB r q y v h', show (q + 1) * 4 + 3 = (evCs x).length + (q * 4 + 3) by simp; omega, List.set_append_right _ _ (by omega), Nat.add_sub_cancel_left]
/-- In a history of a set what is called of is a number that may be. -/
theorem run_val : ∀ (l : List Ev) (n : Nat) (cs : List Cl), (run [4] n cs l).2.2 = 0 → ∀ x ∈ l, x.kind ≠ 0 → 1 ≤ x.val ∧ x.val ≤ 1000
  | [], _, _, _, x, hx, _ => absurd hx List.not_mem_nil
  | y :: l, n, cs, h0, x, hx, hk => by
    rw [run] at h0
    cases hs : step [4] n cs y with
    | inl e => rw [hs] at h0; exact absurd h0 (step_err hs)
    | inr cs' =>
      rw [hs] at h0
      rcases List.mem_cons.1 hx with rfl | hx
      · unfold step at hs
        split at hs
        · cases hs
        rename_i hr
        unfold invS at hs
        split at hs
        · cases hs
        rename_i hf
        have ht : x.thing = 0 := by simp at hr; omega
        rw [ht] at hf
        have hf1 : fitsB 4 x.kind = true := by cases h : fitsB 4 x.kind; exact absurd (.inl h) hf; rfl
        have hf2 : takesB x.kind x.val = true := by cases h : takesB x.kind x.val; exact absurd (.inr h) hf; rfl
        have e4 : (4 : Int) = kindType x.kind := (of_decide_eq_true hf1).2
        have hkind : x.kind = 7 ∨ x.kind = 8 ∨ x.kind = 9 := by
          unfold kindType at e4
          apply Classical.byContradiction
          intro hn
          repeat' split at e4
          all_goals omega
        unfold takesB at hf2
        rw [if_pos (by omega)] at hf2
        exact btw_iff.1 hf2
      · exact run_val l (n + 1) cs' h0 x hx hk
theorem calls_val {l : List Ev} (h : (callsOf [4] l).2.2 = 0) : ∀ x ∈ l, x.kind ≠ 0 → 1 ≤ x.val ∧ x.val ≤ 1000 := by
  obtain ⟨_, _, e⟩ := calls_zero h
  rw [e] at h
  exact run_val l 0 [] h
theorem bagB_rng {l : List Ev} {x : Int} (h : x ∈ bagB l) : 0 ≤ x ∧ x ≤ 1000 := by
  unfold bagB at h
  obtain ⟨k, hk, rfl⟩ := List.mem_map.1 (List.mem_filter.1 h).1
  have := List.mem_range.1 hk
  omega
theorem NOwn.far {w : World} {B : Nat} {v : Value} {l : List Int} (h : NOwn w B v l) {p : Addr} (hp : p.block < B) (u : Value) : NOwn (w.setCell p u) B v l :=
  ⟨h.1, h.2.elim (fun h => .inl h) fun ⟨g, cap, cur, h1, h2, h3, h4⟩ => .inr ⟨g, cap, cur, h1, h2, by rw [Below.heap_setCell w p u g (by omega)]; exact h3, h4⟩⟩
theorem NOwn.set_ {w : World} {B g n cap : Nat} {l : List Int} (h : NOwn w B (.slice (some ⟨g, 0, none⟩) n cap) l) (hn : n = l.length) (k : Nat) (y : Int) : NOwn (w.setCell ⟨g, k, none⟩ (.int .i64 y)) B (.slice (some ⟨g, 0, none⟩) n cap) (l.set k y) := by
  subst hn
  unfold NOwn at h ⊢
  rw [List.length_set, flat_ints, List.map_set, ← flat_ints]
  exact own_set h k _
theorem NOwn.at_ {w : World} {B n cap : Nat} {A : Option Addr} {l : List Int} (h : NOwn w B (.slice A n cap) l) (hn : 0 < n) : ∃ g, A = some ⟨g, 0, none⟩ ∧ B ≤ g ∧ g < w.heap.size := by
  rcases h.2 with ⟨e, _⟩ | ⟨g, cap', cur, e, h2, h3, _⟩
  · injection e with _ e _
    omega
  · injection e with e _ _
    exact ⟨g, e, h2, (Array.getElem?_eq_some_iff.1 h3).1⟩
theorem NOwn.free {w : World} {B g n cap : Nat} {l : List Int} (h : NOwn w B (.slice (some ⟨g, 0, none⟩) n cap) l) (j : Nat) : w.frozen? ⟨g, j, none⟩ = false := by
  rcases h.2 with ⟨e, _⟩ | ⟨g', cap', cur, e, h2, h3, _⟩
  · cases e
  · injection e with e _ _
    injection e with e
    injection e with e
    subst e
    exact Lies.frozen h3 j
theorem EOwn.at_ {w : World} {B n cap : Nat} {A : Option Addr} {l : List Ev} (h : EOwn w B (.slice A n cap) l) (hn : 0 < n) : ∃ g, A = some ⟨g, 0, none⟩ ∧ B ≤ g := by
  rcases h.2 with ⟨e, _⟩ | ⟨g, cap', cur, e, h2, _⟩
  · injection e with _ e _
    omega
  · injection e with e _ _
    exact ⟨g, e, h2⟩
theorem EOwn.put {w : World} {B g n cap : Nat} {es : List Ev} (h : EOwn w B (.slice (some ⟨g, 0, none⟩) n cap) es) (hn : n = es.length) {q : Nat} {y : Ev} (hy : es[q]? = some y) (v : Int) : EOwn (w.setCell ⟨g, q * 4 + 3, none⟩ (.int .i64 v)) B (.slice (some ⟨g, 0, none⟩) n cap) (es.set q { y with val := v }) := by
  subst hn
  unfold EOwn at h ⊢
  rw [List.length_set, ← flat_valB es q y v hy]
  exact own_set h _ _
/-- The first k of a list with one more. -/
def upJ (m : Int) (k : Nat) (b : List Int) : List Int := (b.take k).map (· + m) ++ b.drop k
theorem upJ_len (m : Int) (k : Nat) (l : List Int) : (upJ m k l).length = l.length := by
  unfold upJ
  rw [List.length_append, List.length_map, List.length_take, List.length_drop]
  omega
theorem upJ_all (m : Int) (l : List Int) : upJ m l.length l = l.map (· + m) := by
  unfold upJ
  rw [List.take_length, List.drop_length, List.append_nil]
theorem upJ_at {m : Int} {k : Nat} {l : List Int} {x : Int} (h : l[k]? = some x) : (upJ m k l)[k]? = some x := by
  have hk := (List.getElem?_eq_some_iff.1 h).1
  unfold upJ
  rw [List.getElem?_append, if_neg (by rw [List.length_map, List.length_take]; omega), List.length_map, List.length_take, List.getElem?_drop, Nat.min_eq_left (by omega), Nat.sub_self, Nat.add_zero]
  exact h
theorem upJ_succ {m : Int} {k : Nat} {l : List Int} {x : Int} (h : l[k]? = some x) : upJ m (k + 1) l = (upJ m k l).set k (x + m) := by
  have hk := (List.getElem?_eq_some_iff.1 h).1
  have hd : l.drop k = x :: l.drop (k + 1) := by rw [List.drop_eq_getElem_cons hk, (List.getElem?_eq_some_iff.1 h).2]
  unfold upJ
  rw [List.take_add_one, h, Option.toList_some, List.map_append, hd, List.set_append_right _ _ (by rw [List.length_map, List.length_take]; omega), List.length_map, List.length_take, Nat.min_eq_left (by omega), Nat.sub_self, List.set_cons_zero, List.append_assoc]
  rfl
set_option maxHeartbeats 8000000 in
theorem bnames_any {lv : Value} {l : List Ev} {w : World} (hl : ERd w w.heap.size lv l) (more : Int) (hp : Pow10 w.heap.size w) :
    Calls Tryz.prog 5 #[lv, .int .i64 more] w fun e w' => e = .returned (.bool true) ∧ Below w.heap.size w w' := by
  have HC := Lib.hid (bcheck_any hl hp)
  have HL := Lib.hid (And.intro hl hp)
  obtain ⟨Al, capl, rfl, m1, m2⟩ := hl.is
  unfold maxLen at m2
  obtain ⟨L, hL⟩ : ∃ L, L = l.length := ⟨_, rfl⟩
  rw [← hL] at HC HL m1 ⊢
  have HLL := Lib.hid hL
  clear hl hL hp
  go_enter Tryz.func5, Tryz.ntmps5
  go_wp2_with fail
  refine HC.out.mono ?_
  intro e w1 hck
  obtain ⟨hb1, v1, rfl, ho1⟩ := hck
  obtain ⟨E, hE⟩ : ∃ E, E = bagsE l := ⟨_, rfl⟩
  rw [← hE]
  have HE := Lib.hid hE
  have HLV := Lib.hid (blives_any w1 ((HL.out.2.on hb1).mono hb1.size))
  have H1 := Lib.hid (And.intro hb1 ho1)
  clear hE ho1 hb1 HC
  go_wp2_with fail
  refine HLV.out.mono ?_
  rintro e w2 ⟨rfl, hb2⟩
  have hbw := H1.out.1.trans (hb2.mono H1.out.1.size)
  have H2 := Lib.hid (And.intro hbw (H1.out.2.below hb2))
  have HLV2 := Lib.hid (blives_any w2 ((HL.out.2.on hbw).mono hbw.size))
  clear hbw hb2 HLV H1
  have hstop : Hid (∀ {Q : Ending → World → Prop}, (∀ w3, Below w.heap.size w w3 → Q (.returned (.bool true)) w3) → Calls Tryz.prog 16 #[] w2 Q) := Lib.hid (fun hQ => HLV2.out.mono fun e w3 ⟨he, hb⟩ => by rw [he]; exact hQ w3 (H2.out.1.trans (hb.mono H2.out.1.size)))
  clear HLV2
  by_cases hE0 : E = 0
  · subst hE0
    by_cases hn0 : more < 0
    · go_wp2_with fail
      refine hstop.out ?_
      intro w3 hb3
      have H3 := Lib.hid hb3
      clear hb3
      go_wp2_with fail
      go_ret
      exact ⟨rfl, H3.out⟩
    · by_cases hnl : (1000 : Int) < more
      · go_wp2_with fail
        refine hstop.out ?_
        intro w3 hb3
        have H3 := Lib.hid hb3
        clear hb3
        go_wp2_with fail
        go_ret
        exact ⟨rfl, H3.out⟩
      · have HMB := Lib.hid (And.intro hn0 hnl)
        have hc0 := (bagsE_zero.1 HE.out.symm).1
        have hval := calls_val hc0
        have hL200 : L ≤ 200 := by rw [HLL.out]; exact (calls_zero hc0).2.1
        have hbl : bagLst l = bagB l := by unfold bagLst; rw [if_pos HE.out.symm]
        have hbl2 : (bagB l).length ≤ 1001 := by
          unfold bagB
          have := List.length_filter_le (fun v => ((callsOf [4] l).1.any fun c => c.arg == v) && badV (callsOf [4] l).1 v) ((List.range 1001).map fun (k : Nat) => (k : Int))
          rw [List.length_map, List.length_range] at this
          exact this
        have HCL := Lib.hid (cloneE_any ((HL.out.1.below H2.out.1).mono H2.out.1.size) (by rw [← HLL.out]; omega))
        have HV := Lib.hid (And.intro hval (And.intro hbl hbl2))
        clear hc0 hval hbl hbl2 hstop
        go_wp2_with fail
        refine HCL.out.mono ?_
        rintro e w3 ⟨mv, rfl, ho3, hb3⟩
        obtain ⟨Am, cm, rfl⟩ := own_sliceE ho3
        rw [← HLL.out] at ho3 ⊢
        have hob := fun W (hb : Below w2.heap.size w2 W) => H2.out.2.below hb
        rw [HV.out.2.1] at hob
        have H3 := Lib.hid (And.intro (H2.out.1.trans (hb3.mono H2.out.1.size)) (And.intro ho3 hb3))
        have HOB := Lib.hid (And.intro hob H2.out.2)
        have HB2 := Lib.hid H2.out.1.size
        obtain ⟨B2, hB2⟩ : ∃ B2, B2 = w2.heap.size := ⟨_, rfl⟩
        rw [← hB2] at H3 HB2 HOB
        have HBE := Lib.hid hB2
        clear ho3 hob hb3 HCL H2 hB2
        go_wp2_with fail
        go_loopw [36] (fun t wr => ∃ k : Nat, k ≤ L ∧ t = .int .i64 k ∧ Below w.heap.size w wr ∧ EOwn wr B2 (.slice Am L cm) (upM more k l) ∧ Below B2 w2 wr) (fun t _ => L - (intOf t).toNat)
        case atStart => exact ⟨0, by omega, rfl, H3.out.1, by rw [upM_zero]; exact H3.out.2.1, H3.out.2.2⟩
        case round =>
          clear H3
          obtain ⟨k, hk, rfl, hb, hom, hb2⟩ := hrel
          by_cases hkL : k < L
          · obtain ⟨x, hx⟩ : ∃ x, l[k]? = some x := ⟨_, List.getElem?_eq_getElem (by rw [← HLL.out]; exact hkL)⟩
            have hat := upM_at (m := more) hx
            obtain ⟨g, rfl, hBg⟩ := hom.at_ (by omega)
            obtain ⟨d0, d1, d2, d3⟩ := own_ev hom hat
            have i1 : (0 : Int) ≤ (k : Int) := by omega
            have i2 : (k : Int) < (L : Int) := by omega
            have hfz := own_frozen hom
            have hxv := HV.out.1 x (List.mem_of_getElem? hx)
            have hsame := fun h => upM_same (m := more) hx h
            have hsucc := upM_succ (m := more) hx
            have hln : L = (upM more k l).length := by rw [upM_len]; exact HLL.out
            have hput := hom.put hln hat (x.val + more)
            have hbs : Below w.heap.size w (wr.setCell ⟨g, k * 4 + 3, none⟩ (.int .i64 (x.val + more))) := hb.setCell (p := ⟨g, k * 4 + 3, none⟩) (Nat.le_trans HB2.out hBg) _
            have hbs2 : Below B2 w2 (wr.setCell ⟨g, k * 4 + 3, none⟩ (.int .i64 (x.val + more))) := hb2.setCell (p := ⟨g, k * 4 + 3, none⟩) hBg _
            have HO := Lib.hid (And.intro hb (And.intro hom hb2))
            have HS := Lib.hid (And.intro hsame hsucc)
            have HP := Lib.hid (And.intro hput (And.intro hbs hbs2))
            obtain ⟨x0, x1, x2, x3⟩ := x
            simp only at d0 d1 d2 d3 hxv HS HP
            clear hb hom hb2 hx hat hsame hsucc hput hbs hbs2 hln
            by_cases hk0 : x2 = 0
            · subst hk0
              have hs := HS.out.1 rfl
              have HS2 := Lib.hid hs
              clear hs hxv
              go_wp2_with fail
              go_roundw
              case rel => exact ⟨k + 1, by omega, by go_num, HO.out.1, by rw [HS2.out]; exact HO.out.2.1, HO.out.2.2⟩
              case measure => simp [intOf]; omega
            · have hz : (x2 != 0) = true := by rw [bne_iff_ne]; exact hk0
              have hv := hxv hk0
              have hwv : IntKind.i64.wrap (x3 + more) = x3 + more := by rw [IntKind.wrap_i64]; have := HMB.out; omega
              have hadd : addM more ⟨x0, x1, x2, x3⟩ = ⟨x0, x1, x2, x3 + more⟩ := by unfold addM; rw [if_pos hk0]
              have hs := HS.out.2
              rw [hadd] at hs
              have HS2 := Lib.hid hs
              clear hs hadd hxv hv hk0
              go_upto_region 10 with fail
              clear d0 d1 d2 d3 hfz hwv
              change Code.wp _ _ _ _ (wr.setCell ⟨g, k * 4 + 3, none⟩ (.int .i64 (x3 + more)))
              generalize wr.setCell ⟨g, k * 4 + 3, none⟩ (.int .i64 (x3 + more)) = W3 at HP ⊢
              go_wp2_with fail
              go_roundw
              case rel => exact ⟨k + 1, by omega, by go_num, HP.out.2.1, by rw [HS2.out]; exact HP.out.1, HP.out.2.2⟩
              case measure => simp [intOf]; omega
          · obtain rfl : k = L := by omega
            obtain ⟨ml, hml⟩ : ∃ ml, ml = l.map (addM more) := ⟨_, rfl⟩
            have hum : upM more k l = ml := by rw [hml, HLL.out]; exact upM_all more l
            rw [hum] at hom
            have hmr2 : ERd wr wr.heap.size (.slice Am k cm) ml := hom.rd
            have HC := Lib.hid (bcheck_any hmr2 ((HL.out.2.on hb).mono hb.size))
            have HO := Lib.hid (And.intro hb hb2)
            have HML := Lib.hid hml
            clear hb hb2 hom hum hml hmr2
            go_wp2_with fail
            refine HC.out.mono ?_
            intro e w7 hck
            obtain ⟨hb7, v7, rfl, ho7⟩ := hck
            obtain ⟨F, hF⟩ : ∃ F, F = bagsE ml := ⟨_, rfl⟩
            rw [← hF]
            have HF := Lib.hid hF
            have hb2s : w2.heap.size ≤ wr.heap.size := HO.out.2.size
            have hob7 := HOB.out.1 w7 (HO.out.2.trans (hb7.mono (by rw [HBE.out]; exact hb2s)))
            have hbw7 := HO.out.1.trans (hb7.mono HO.out.1.size)
            have hgb := HOB.out.2
            rw [HV.out.2.1] at hgb
            obtain ⟨A1, c1, rfl, q1, q2⟩ := hob7.rd.is
            unfold maxLen at q2
            obtain ⟨nb, hnb⟩ : ∃ nb, nb = (bagB l).length := ⟨_, rfl⟩
            rw [← hnb] at hob7 hgb q1 ⊢
            have hnb2 : nb ≤ 1001 := by rw [hnb]; exact HV.out.2.2
            have HNB := Lib.hid hnb
            obtain ⟨B7, hB7⟩ : ∃ B7, B7 = wr.heap.size := ⟨_, rfl⟩
            rw [← hB7] at ho7 hb2s
            have HG := Lib.hid (And.intro hgb hb2s)
            have H7 := Lib.hid (And.intro hbw7 (And.intro hob7 ho7))
            clear hF hob7 hbw7 hgb ho7 hb7 hB7 hb2s hnb HC HO HOB
            go_wp2_with fail
            go_loopw [62] (fun t W => ∃ j : Nat, j ≤ nb ∧ t = .int .i64 j ∧ Below w.heap.size w W ∧ NOwn W w.heap.size (.slice A1 nb c1) (upJ more j (bagB l)) ∧ NOwn W B7 v7 (bagLst ml)) (fun t _ => nb - (intOf t).toNat)
            case atStart => exact ⟨0, by omega, rfl, H7.out.1, H7.out.2.1, H7.out.2.2⟩
            case round =>
              clear H7
              obtain ⟨j, hj, rfl, hb, hob, hoc⟩ := hrel
              by_cases hjn : j < nb
              · obtain ⟨x, hx⟩ : ∃ x, (bagB l)[j]? = some x := ⟨_, List.getElem?_eq_getElem (by rw [← HNB.out]; exact hjn)⟩
                have hat := upJ_at (m := more) hx
                obtain ⟨g, rfl, hg1, hg2⟩ := HG.out.1.at_ (by omega)
                obtain ⟨g', o', he, -, d0⟩ := hob.rd.num hat
                injection he with he
                injection he with he1 he2
                subst he1 he2
                rw [Nat.zero_add] at d0
                have i1 : (0 : Int) ≤ (j : Int) := by omega
                have i2 : (j : Int) < (nb : Int) := by omega
                have hfz := hob.free
                have hxv := bagB_rng (List.mem_of_getElem? hx)
                have hwv : IntKind.i64.wrap (x + more) = x + more := by rw [IntKind.wrap_i64]; have := HMB.out; omega
                have hln : nb = (upJ more j (bagB l)).length := by rw [upJ_len]; exact HNB.out
                have hput := hob.set_ hln j (x + more)
                rw [← upJ_succ hx] at hput
                have hgB : g < B7 := by have := HG.out.2; omega
                have HP := Lib.hid (And.intro (hb.setCell (p := ⟨g, j, none⟩) hg1 (.int .i64 (x + more))) (And.intro hput (hoc.far (p := ⟨g, j, none⟩) hgB (.int .i64 (x + more)))))
                clear hb hob hoc hx hat hxv hln hput hgB hg1 hg2
                go_upto_region 16 with fail
                clear d0 hfz hwv
                change Code.wp _ _ _ _ (wr.setCell ⟨g, j, none⟩ (.int .i64 (x + more)))
                generalize wr.setCell ⟨g, j, none⟩ (.int .i64 (x + more)) = W3 at HP ⊢
                go_wp2_with fail
                go_roundw
                case rel => exact ⟨j + 1, by omega, by go_num, HP.out.1, HP.out.2.1, HP.out.2.2⟩
                case measure => simp [intOf]; omega
              · obtain rfl : j = nb := by omega
                have hall : upJ more j (bagB l) = (bagB l).map (· + more) := by rw [HNB.out]; exact upJ_all more _
                have hln : ((bagB l).map (· + more)).length = j := by rw [List.length_map]; exact HNB.out.symm
                by_cases hF0 : F = 0
                · subst hF0
                  have hnm := bag_names (l := l) (m := more) HE.out.symm (by rw [← HML.out]; exact HF.out.symm)
                  rw [← HML.out] at hnm
                  have hbl : bagLst ml = bagB ml := by unfold bagLst; rw [if_pos HF.out.symm]
                  rw [hbl, hnm, ← hall] at hoc
                  have HEQ := Lib.hid (eqInt_same hob.rd hoc.rd)
                  have H9 := Lib.hid hb
                  clear hob hoc hb hnm hbl hall hln
                  go_wp2_with fail
                  refine HEQ.out.mono ?_
                  rintro e w9 ⟨rfl, hb9⟩
                  have H10 := Lib.hid (H9.out.trans (hb9.mono H9.out.size))
                  clear hb9 H9 HEQ
                  go_wp2_with fail
                  go_ret
                  exact ⟨rfl, H10.out⟩
                · have hz : (F != 0) = true := by rw [bne_iff_ne]; exact hF0
                  have H9 := Lib.hid hb
                  clear hob hoc hb hall hln hF0
                  go_wp2_with fail
                  go_ret
                  exact ⟨rfl, H9.out⟩
  · have hz : (E != 0) = true := by rw [bne_iff_ne]; exact hE0
    clear hE0
    go_wp2_with fail
    refine hstop.out ?_
    intro w3 hb3
    have H3 := Lib.hid hb3
    clear hb3
    go_wp2_with fail
    go_ret
    exact ⟨rfl, H3.out⟩
end Go.Proofs.YtfgangkpebkicaaGreatDoor

/-
  The tied card of alibkeep.BagsNames: whatever is handed in (the listed tables reading as the program's own text lays them), the law answers true and leaves its arguments as they were.
-/
namespace Go.Proofs.YtfgangkpebkicaaGreatDoor
open Go.ChangeShapes Go.WideShapes Go.ChangeAt Go.RowKit
set_option maxRecDepth 20000

theorem bagsNames_knob : ownKnob Tryz.prog.godebug = none := by kernel_rfl

set_option maxRecDepth 100000 in
theorem bagsNames_lifted (os : Os) (started : os.Started) (H : Type) (enc : TypeId × Value → H) :
    ReturnsInHanded {} Tryz.checked os 5 .any (fun w args => (Rows.bagsNamesSpec.pre enc Tryz.prog Tryz.f5 [] false w args ∧ laidMetH Tryz.prog tab3Laid w) ∧ sizedMet enc Tryz.prog Tryz.f5 (OpenSpec.ofChange Rows.bagsNamesSpec) false w args)
      (Rows.bagsNamesSpec.post enc Tryz.prog Tryz.f5 false true false false) := by
  refine returnsInHanded_of_change_and (C := Tryz.checked) (X := fun w _ => laidMetH Tryz.prog tab3Laid w) (fun _ _ _ hh h => h.of_heap hh) bagsNames_knob started (by kernel_rfl) Tryz.func5
    (ChangeSpec.witness_shaped (enc := enc) (C := Tryz.checked) (os := os) (X := fun w _ => laidMetH Tryz.prog tab3Laid w) false (World.laidAll Tryz.prog os tab3Laid) #[.slice none 0 0, .int .i64 0] 8 (World.laidAll_os _ _ _)
      (World.shaped_of_ZipB (by kernel_rfl) (by kernel_rfl)) (by kernel_rfl) (by kernel_rfl) (by kernel_rfl)
      (by rw [MakeChecks.laidMetH_plain _ _ _ (by kernel_rfl)]; exact laidMet_laidAll _ (by kernel_rfl) (by kernel_rfl))) ?_
  intro W base args ds gs before hval0 hW _ _ hL _
  have hval : ∀ (j : Nat) t v, Tryz.f5.params[j]? = some t → args[j]? = some v → Value.okWide Tryz.prog W .any base t v := hval0
  have hW' := hW
  have hlt := hW.lt
  obtain ⟨p, q, hA0, hV, rfl, _, _⟩ := hW
  have hA : DataW.TrodAll enc Tryz.prog W 0 (fun _ => true) true Tryz.f5.params.toList args.toList ds p := hA0
  rw [Tryz.params5] at hA hval
  obtain ⟨v0, v1, d0, d1, p0, p1, rfl, rfl, rfl, h0, h1⟩ := trodAll_two hA
  obtain ⟨rfl, rfl⟩ := trodVars_none hV
  obtain ⟨l0, hL0⟩ := open_evs (hval 0 22 v0 rfl rfl) h0
  obtain ⟨i1, rfl, rfl, rfl, wi1⟩ := open_int Tryz.underlying3 (hval 1 3 v1 rfl rfl) h1
  have hT := pow_of_laid hL
  clear hA0 hval0
  simp only [List.append_nil] at hW' hlt
  refine (bnames_any hL0 i1 hT).mono fun e W' ⟨he, hb⟩ => ?_
  subst he
  refine ⟨_, rfl, end_of_below (pa := p0) (pv := []) hW' hb (by simp) (fun _ _ _ => ?_) (fun sp hsp => ?_) (fun _ _ => rfl) (ok_one (by kernel_rfl) rfl (okWide_bool_mk Tryz.underlying4 _))⟩
  · exact trodAll_mk1 (shut_bool Tryz.underlying4 _)
  · skip
    have hk0 := WideElems.Trod_stays laidOutIt (by kernel_rfl) (of_decide_eq_true (by kernel_rfl)) h0 (fun x hx => hb.same (hlt x hx)) (fun x hx => hsp x hx)
    have := trodAll_mk2 hk0 (shut_int Tryz.underlying3 wi1)
    simp only [List.append_nil] at this ⊢
    exact this

theorem bagsNames_holds : Rows.BagsNamesSaid :=
  OpenClaim.holds_of_wide 5 Tryz.f5 rfl rfl rfl rfl rfl rfl rfl ⟨rfl, rfl, rfl, rfl, rfl⟩ rfl rfl rfl rfl rfl (by kernel_rfl) Tryz.func5 (by kernel_rfl)
    (of_decide_eq_true (by kernel_rfl)) (by unfold Func.isWrapper; first | (rw [if_pos (by decide +kernel)]; kernel_rfl) | (rw [if_neg (by decide +kernel)]; exact ⟨rfl, rfl⟩))
    (fun os started H enc _ => bagsNames_lifted os started H enc)

theorem bagsNames_card : Rows.BagsNamesCardSaid :=
  Claim7.holds_tied_plain_at .later [] [.data, .data, .data] true Rows.bagsNamesCard.stood.harness false bagsNames_holds (fun _ h => by cases h) (by kernel_rfl) (fun _ h => by cases h) bagsNames_row_tie rfl ⟨rfl, rfl⟩ (by kernel_rfl) rfl
    (fun f fn hf hfn => by
      obtain rfl : f = 5 := Option.some.inj ((show Tryz.prog.funcNamed "alibi/alibkeep.BagsNames" = some 5 by kernel_rfl).symm.trans hf) |>.symm
      obtain rfl : fn = Tryz.f5 := (Option.some.inj (Tryz.func5.symm.trans hfn)).symm
      exact ⟨by kernel_rfl, fun j t ht => by
        rw [Tryz.params5] at ht
        have hm : t ∈ [22, 3] := by simpa using Array.mem_of_getElem? ht
        have hall : ([22, 3].all fun u => !Tryz.prog.wantsStandIn u) = true := by kernel_rfl
        exact (show Tryz.prog.wantsStandIn t = false by simpa using List.all_eq_true.1 hall t hm)⟩)
    (by kernel_rfl)
#print axioms bagsNames_card
end Go.Proofs.YtfgangkpebkicaaGreatDoor
