/-
  Joined by a program out of: RefPure, AheadR, Contains, RefSmall, RefAsk, SteppedPure.
-/
import Derived.Test.YtfgangkpebkicaaDoorMgAR
import Derived.Test.YtfgangkpebkicaaDoorMgAJ
import Derived.Deep.QuietTactic
import Derived.BigQuiet
import Derived.Lib.Hide
import Derived.Test.YtfgangkpebkicaaDoorMgAP
import Derived.Test.YtfgangkpebkicaaDoorMgAA
import Derived.WalkKit
import Derived.Test.YtfgangkpebkicaaDoorMgAS
import Derived.Test.YtfgangkpebkicaaDoorMgAE
import Derived.Test.YtfgangkpebkicaaDoorMgAB

/-
  Plain: a right order by any relation; what the reference's RightOrder looks at.
-/
namespace Go.Proofs.YtfgangkpebkicaaDoor
open Go.RowKit
set_option maxRecDepth 20000
/-- What the first q steps are: in range, each once, answered as they were. -/
structure PreOk (cs : List Cl) (ws : List (Int × Int)) (q : Nat) : Prop where
  rng : ∀ (i : Nat) (x : Int × Int), i < q → ws[i]? = some x → 0 ≤ x.1 ∧ x.1 < cs.length
  res : ∀ (i : Nat) (x : Int × Int), i < q → ws[i]? = some x → (atC cs x).til ≠ -1 → (atC cs x).res = x.2
  once : ∀ (i j : Nat) (x y : Int × Int), i < j → j < q → ws[i]? = some x → ws[j]? = some y → x.1 ≠ y.1
/-- Where each call stands among the first q steps, or -1. -/
def AtOk (n : Nat) (ws : List (Int × Int)) (q : Nat) (f : Nat → Int) : Prop := ∀ k, k < n → (f k = -1 ∧ ∀ (i : Nat) (x : Int × Int), i < q → ws[i]? = some x → x.1 ≠ (k : Int)) ∨ ∃ (i : Nat) (x : Int × Int), i < q ∧ ws[i]? = some x ∧ x.1 = (k : Int) ∧ f k = (i : Int)
theorem PreOk.zero (cs : List Cl) (ws : List (Int × Int)) : PreOk cs ws 0 := ⟨fun i x h => by omega, fun i x h => by omega, fun i j x y h1 h2 => by omega⟩
theorem AtOk.zero (n : Nat) (ws : List (Int × Int)) {f : Nat → Int} (h : ∀ k, k < n → f k = -1) : AtOk n ws 0 f := fun k hk => .inl ⟨h k hk, fun i x hi => by omega⟩
section
variable {ts : List Int} {cs : List Cl} {p : Nat → Nat → Bool} {ws : List (Int × Int)} {q : Nat} {f : Nat → Int} {x : Int × Int}
theorem AtOk.ge (h : AtOk cs.length ws q f) {k : Nat} (hk : k < cs.length) : -1 ≤ f k ∧ f k < q := by
  rcases h k hk with ⟨h1, _⟩ | ⟨i, _, h1, _, _, h2⟩ <;> omega
theorem AtOk.neg (h : AtOk cs.length ws q f) {k : Nat} (hk : k < cs.length) (hf : f k < 0) : ∀ (i : Nat) (x : Int × Int), i < q → ws[i]? = some x → x.1 ≠ (k : Int) := by
  rcases h k hk with ⟨_, h1⟩ | ⟨i, _, h1, _, _, h2⟩
  · exact h1
  · omega
theorem AtOk.pos (h : AtOk cs.length ws q f) {k : Nat} (hk : k < cs.length) (hf : 0 ≤ f k) : ∃ (i : Nat) (x : Int × Int), i < q ∧ ws[i]? = some x ∧ x.1 = (k : Int) ∧ f k = (i : Int) := by
  rcases h k hk with ⟨h0, h1⟩ | h
  · omega
  · exact h
/-- One more step. -/
theorem PreOk.succ (h : PreOk cs ws q) (ha : AtOk cs.length ws q f) (hx : ws[q]? = some x) (h0 : 0 ≤ x.1 ∧ x.1 < cs.length) (h1 : f x.1.toNat < 0) (h2 : (atC cs x).til ≠ -1 → (atC cs x).res = x.2) : PreOk cs ws (q + 1) := by
  have hne := ha.neg (k := x.1.toNat) (by omega) h1
  refine ⟨fun i y hi hy => ?_, fun i y hi hy => ?_, fun i j y z hij hj hy hz => ?_⟩
  · by_cases e : i = q
    · subst e; rw [hx] at hy; injection hy with hy; subst hy; exact h0
    · exact h.rng i y (by omega) hy
  · by_cases e : i = q
    · subst e; rw [hx] at hy; injection hy with hy; subst hy; exact h2
    · exact h.res i y (by omega) hy
  · by_cases e : j = q
    · subst e; rw [hx] at hz; injection hz with hz; subst hz
      have := hne i y hij hy
      omega
    · exact h.once i j y z hij (by omega) hy hz
theorem AtOk.succ (h : AtOk cs.length ws q f) (hx : ws[q]? = some x) (h0 : 0 ≤ x.1 ∧ x.1 < cs.length) : AtOk cs.length ws (q + 1) (fun k => if k = x.1.toNat then (q : Int) else f k) := fun k hk => by
  by_cases e : k = x.1.toNat
  · right
    exact ⟨q, x, by omega, hx, by omega, if_pos e⟩
  · simp only [if_neg e]
    rcases h k hk with ⟨a, b⟩ | ⟨i, y, a, b, c, d⟩
    · refine .inl ⟨a, fun i y hi hy => ?_⟩
      by_cases e2 : i = q
      · subst e2; rw [hx] at hy; injection hy with hy; subst hy; omega
      · exact b i y (by omega) hy
    · exact .inr ⟨i, y, by omega, b, c, d⟩
/-- A step that is not so: it is not right. -/
theorem not_rite1 (ha : AtOk cs.length ws q f) (hx : ws[q]? = some x) (h : ¬ (0 ≤ x.1 ∧ x.1 < cs.length) ∨ ((0 ≤ x.1 ∧ x.1 < cs.length) ∧ (0 ≤ f x.1.toNat ∨ ((atC cs x).til ≠ -1 ∧ (atC cs x).res ≠ x.2)))) : ¬ RiteP ts cs p ws := fun hr => by
  have hm := List.mem_of_getElem? hx
  rcases h with h | ⟨h0, h | ⟨h1, h2⟩⟩
  · exact h (hr.rng x hm)
  · obtain ⟨i, y, h1, h2, h3, _⟩ := ha.pos (k := x.1.toNat) (by omega) h
    have := once_at hr.once h2 hx (by omega)
    omega
  · exact h2 (hr.res x hm h1)
/-- An answered call that is missing. -/
theorem not_rite2 (ha : AtOk cs.length ws ws.length f) {i : Nat} (hi : i < cs.length) (h1 : (cs.getD i default).til ≠ -1) (h2 : f i < 0) : ¬ RiteP ts cs p ws := fun hr => by
  obtain ⟨x, hx, e⟩ := List.mem_map.1 (hr.all i hi h1)
  obtain ⟨k, hk, rfl⟩ := List.getElem_of_mem hx
  exact ha.neg hi h2 k _ hk (List.getElem?_eq_getElem hk) e
/-- Somebody behind whom they must stand ahead of. -/
theorem not_rite3 (ha : AtOk cs.length ws ws.length f) {i j : Nat} (hi : i < cs.length) (hj : j < cs.length) (hp : p i j = true) (h1 : 0 ≤ f j) (h2 : f i < 0 ∨ f j < f i) : ¬ RiteP ts cs p ws := fun hr => by
  obtain ⟨q, y, h3, h4, h5, h6⟩ := ha.pos hj h1
  have e : ws = ws.take q ++ y :: ws.drop (q + 1) := by
    rw [← (List.getElem?_eq_some_iff.1 h4).2, ← List.drop_eq_getElem_cons h3, List.take_append_drop]
  obtain ⟨x, hx, e2⟩ := List.mem_map.1 (hr.ord i j hi hj hp _ _ _ e h5)
  obtain ⟨k, hk, e3⟩ := List.getElem_of_mem hx
  have hkq : k < q := by rw [List.length_take] at hk; omega
  have h7 : ws[k]? = some x := by
    rw [← e3, List.getElem_take]
    exact List.getElem?_eq_getElem (by omega)
  rcases ha i hi with ⟨_, h8⟩ | ⟨m, z, h8, h9, h10, h11⟩
  · exact h8 k x (by omega) h7 e2
  · have := once_at hr.once h7 h9 (by omega)
    omega
theorem not_rite4 {t : Nat} (ht : t < ts.length) (h : playN (ts.getD t 0) (ownD cs t ws) ≠ (ownD cs t ws).length) : ¬ RiteP ts cs p ws := fun hr => h ((goes_play _ _).1 (hr.goes t ht))
/-- Where all of it is so, it is right. -/
theorem rite_mk (h1 : PreOk cs ws ws.length) (ha : AtOk cs.length ws ws.length f) (hirr : ∀ i, p i i = false)
    (h2 : ∀ i, i < cs.length → ((cs.getD i default).til ≠ -1 → 0 ≤ f i) ∧ ∀ j, j < cs.length → p i j = true → 0 ≤ f j → 0 ≤ f i ∧ f i ≤ f j)
    (h3 : ∀ t, t < ts.length → playN (ts.getD t 0) (ownD cs t ws) = (ownD cs t ws).length) : RiteP ts cs p ws := by
  have hon : (ws.map (·.1)).Nodup := by
    refine List.pairwise_iff_getElem.2 fun i j hi hj hij => ?_
    rw [List.length_map] at hi hj
    rw [List.getElem_map, List.getElem_map]
    exact h1.once i j _ _ hij hj (List.getElem?_eq_getElem hi) (List.getElem?_eq_getElem hj)
  refine ⟨fun x hx => ?_, hon, fun x hx => ?_, fun i hi ht => ?_, fun i j hi hj hp a y b e ey => ?_, fun t ht => (goes_play _ _).2 (h3 t ht)⟩
  · obtain ⟨k, hk, rfl⟩ := List.getElem_of_mem hx
    exact h1.rng k _ hk (List.getElem?_eq_getElem hk)
  · obtain ⟨k, hk, rfl⟩ := List.getElem_of_mem hx
    exact h1.res k _ hk (List.getElem?_eq_getElem hk)
  · obtain ⟨k, x, _, h5, h6, _⟩ := ha.pos hi ((h2 i hi).1 ht)
    exact List.mem_map.2 ⟨x, List.mem_of_getElem? h5, h6⟩
  · have hq : ws[a.length]? = some y := by rw [e]; simp
    have hql : a.length < ws.length := by rw [e]; simp
    have hfj : f j = (a.length : Int) := by
      rcases ha j hj with ⟨_, h5⟩ | ⟨k, z, h5, h6, h7, h8⟩
      · exact absurd ey (h5 _ _ hql hq)
      · have := once_at hon hq h6 (by omega)
        omega
    obtain ⟨h5, h6⟩ := (h2 i hi).2 j hj hp (by omega)
    obtain ⟨k, z, h7, h8, h9, h10⟩ := ha.pos hi h5
    have hkn : k ≠ a.length := fun ek => by
      subst ek
      rw [hq] at h8
      injection h8 with h8
      subst h8
      have : i = j := by omega
      subst this
      rw [hirr] at hp
      cases hp
    have hkl : k < a.length := by omega
    refine List.mem_map.2 ⟨z, ?_, h9⟩
    rw [e, List.getElem?_append_left hkl] at h8
    exact List.mem_of_getElem? h8
end
theorem ownD_take {cs : List Cl} {t : Nat} {ws : List (Int × Int)} {k : Nat} {x : Int × Int} (h : ws[k]? = some x) : ownD cs t (ws.take (k + 1)) = if (atC cs x).thing.toNat = t then ownD cs t (ws.take k) ++ [ddC cs x] else ownD cs t (ws.take k) := by
  rw [List.take_add_one, h, ownD_append]
  simp only [Option.toList_some]
  rw [ownD_cons]
  split
  · rfl
  · rw [show ownD cs t [] = [] from rfl, List.append_nil]
end Go.Proofs.YtfgangkpebkicaaDoor

/-
  Contract of alibref.Ahead.
-/
namespace Go.Proofs.YtfgangkpebkicaaDoor
open Go.RowKit
set_option maxRecDepth 20000
theorem ahead_val (s j : Nat) : (((s : Int) / 2 ^ ((j : Int).toNat)).tmod 2 == 1) = s.testBit j := by
  have e : (s : Int) / 2 ^ ((j : Int).toNat) = ((s / 2 ^ j : Nat) : Int) := by simp
  rw [e, Nat.testBit, Nat.shiftRight_eq_div_pow, Nat.and_comm, Nat.and_one_is_mod, Bool.eq_iff_iff, beq_iff_eq, bne_iff_ne]
  have : (((s / 2 ^ j : Nat) : Int)).tmod 2 = ((s / 2 ^ j % 2 : Nat) : Int) := rfl
  rw [this]
  omega
theorem ahead_any (n : Int) (c : Nat → Nat) (i j : Nat) (w : World) (hi : i < 12) (hj : j ≤ 15) :
    Calls Tryd.prog 27 #[relV n c, .int .i64 i, .int .i64 j] w fun e w' => e = .returned (.bool ((c i).testBit j)) ∧ Below w.heap.size w w' := by
  have hb := (Below.refl w.heap.size w).alloc (Nat.le_refl _) (.cells (relCs n c) 46)
  have hR : RelB (w.alloc (.cells (relCs n c) 46)) w.heap.size n c := Lies.new _ _ _
  have hk := hR.row' (k := i) hi
  have HB := Lib.hid (And.intro hb hR)
  clear hb hR
  go_enter Tryd.func27, Tryd.ntmps27
  go_wp2_with fail
  go_ret
  exact ⟨ret_bool (by rw [← ahead_val]; simp), HB.out.1⟩
end Go.Proofs.YtfgangkpebkicaaDoor

/-
  Contracts of slices.Index and slices.Contains over integers.
-/
namespace Go.Proofs.YtfgangkpebkicaaDoor
open Go.RowKit
set_option maxRecDepth 20000
theorem index_any {B : Nat} {v : Value} {xs : List Int} {w : World} (h : IRd w B v xs) (hn : xs.length ≤ 1000000) (x : Int) :
    Calls Tryd.prog 53 #[v, .int .i64 x] w fun e w' => ∃ r : Int, e = .returned (.int .i64 r) ∧ decide (0 ≤ r) = decide (x ∈ xs) ∧ Below w.heap.size w w' := by
  obtain ⟨A, cap, rfl, hc⟩ := h
  obtain ⟨L, hL⟩ : ∃ L, L = xs.length := ⟨_, rfl⟩
  rw [← hL] at hc hn ⊢
  have HC := Lib.hid (And.intro hc hL)
  clear hc hL
  go_enter Tryd.func53, Tryd.ntmps53
  go_wp2_with fail
  go_loopw [8] (fun i wr => ∃ k : Nat, k ≤ L ∧ i = .int .i64 k ∧ (∀ j, j < k → xs.getD j 0 ≠ x) ∧ Below w.heap.size w wr) (fun i _ => L - (intOf i).toNat)
  case atStart => exact ⟨0, by omega, rfl, fun j hj => by omega, Below.refl _ _⟩
  case round =>
    obtain ⟨k, hk, rfl, ha, hb⟩ := hrel
    by_cases hkn : k < L
    · obtain ⟨g, rfl, hg, hcell⟩ := HC.out.1 (by omega)
      have hgw : g < w.heap.size := World.block_lt_of_cell? w ⟨g, 0, none⟩ (hcell 0 (by omega))
      have d1 : wr.cell? ⟨g, k, none⟩ = some (.int .i64 (xs.getD k 0)) := (hb.cell (p := ⟨g, k, none⟩) hgw).trans (hcell k hkn)
      have i1 : (0 : Int) ≤ (k : Int) := by omega
      have i2 : (k : Int) < (L : Int) := by omega
      generalize hy : xs.getD k 0 = y at d1
      have HA := Lib.hid (And.intro ha (And.intro hb hy))
      clear ha hb hy hcell
      by_cases hxy : x = y
      · have hz : (x == y) = true := by rw [beq_iff_eq]; exact hxy
        have HX := Lib.hid hxy
        clear hxy
        go_wp2_with fail
        go_ret
        refine ⟨k, rfl, ?_, HA.out.2.1⟩
        rw [decide_eq_true i1]
        refine (decide_eq_true ?_).symm
        have hlt : k < xs.length := by rw [← HC.out.2]; exact hkn
        have : xs.getD k 0 ∈ xs := by simp [List.getD, hlt]
        rw [HA.out.2.2, ← HX.out] at this
        exact this
      · have hz : (x == y) = false := by rw [beq_eq_false_iff_ne]; exact hxy
        have HX := Lib.hid hxy
        clear hxy
        go_wp2_with fail
        go_roundw
        case rel => exact ⟨k + 1, by omega, by go_num, fun j hj => by
          rcases Nat.lt_or_ge j k with h | h
          · exact HA.out.1 j h
          · obtain rfl : j = k := by omega
            rw [HA.out.2.2]
            exact fun e => HX.out e.symm, HA.out.2.1⟩
        case measure => simp [intOf]; omega
    · obtain rfl : k = L := by omega
      have HA := Lib.hid (And.intro ha hb)
      clear ha hb
      go_wp2_with fail
      go_ret
      refine ⟨-1, rfl, ?_, HA.out.2⟩
      rw [decide_eq_false (show ¬ (0 : Int) ≤ -1 by omega)]
      refine (decide_eq_false fun hm => ?_).symm
      obtain ⟨j, hj, e⟩ := List.getElem_of_mem hm
      exact HA.out.1 j (by rw [HC.out.2]; exact hj) (by simp [List.getD, hj, e])
theorem contains_any {B : Nat} {v : Value} {xs : List Int} {w : World} (h : IRd w B v xs) (hn : xs.length ≤ 1000000) (x : Int) :
    Calls Tryd.prog 26 #[v, .int .i64 x] w fun e w' => e = .returned (.bool (decide (x ∈ xs))) ∧ Below w.heap.size w w' := by
  have hi := index_any h hn x
  clear h
  go_enter Tryd.func26, Tryd.ntmps26
  go_wp2_with fail
  refine hi.mono ?_
  rintro e w1 ⟨r, rfl, hr, hb⟩
  have HB := Lib.hid (And.intro hb hr)
  clear hi hb hr
  by_cases h0 : (0 : Int) ≤ r
  · go_wp2_with fail
    go_ret
    exact ⟨ret_bool (by rw [← HB.out.2] <;> simp [h0]), HB.out.1⟩
  · go_wp2_with fail
    go_ret
    exact ⟨ret_bool (by rw [← HB.out.2] <;> simp [h0]), HB.out.1⟩
end Go.Proofs.YtfgangkpebkicaaDoor

/-
  Contracts of the small functions of the reference of package history.
-/
namespace Go.Proofs.YtfgangkpebkicaaDoor
open Go.RowKit
set_option maxRecDepth 20000
theorem btwn_any (n a b : Int) (w : World) : Calls Tryd.prog 13 #[.int .i64 n, .int .i64 a, .int .i64 b] w fun e w' => e = .returned (.bool (btw a n b)) ∧ w = w' := by
  by_cases h1 : a ≤ n
  · by_cases h2 : n ≤ b
    · have h : btw a n b = true := btw_iff.2 ⟨h1, h2⟩
      rw [h]
      clear h
      go_enter Tryd.func13, Tryd.ntmps13
      go_wp2
      go_ret
      exact ⟨rfl, rfl⟩
    · have h : btw a n b = false := btw_not.2 fun h => h2 h.2
      rw [h]
      clear h
      go_enter Tryd.func13, Tryd.ntmps13
      go_wp2
      go_ret
      exact ⟨rfl, rfl⟩
  · have h : btw a n b = false := btw_not.2 fun h => h1 h.1
    rw [h]
    clear h
    go_enter Tryd.func13, Tryd.ntmps13
    go_wp2
    go_ret
    exact ⟨rfl, rfl⟩
theorem btwn_yes {n a b : Int} (w : World) (h : a ≤ n ∧ n ≤ b) : Calls Tryd.prog 13 #[.int .i64 n, .int .i64 a, .int .i64 b] w fun e w' => e = .returned (.bool true) ∧ w = w' := by
  have := btwn_any n a b w
  rwa [btw_iff.2 h] at this
theorem btwn_no {n a b : Int} (w : World) (h : ¬ (a ≤ n ∧ n ≤ b)) : Calls Tryd.prog 13 #[.int .i64 n, .int .i64 a, .int .i64 b] w fun e w' => e = .returned (.bool false) ∧ w = w' := by
  have := btwn_any n a b w
  rwa [btw_not.2 h] at this
/-- The kinds of a type. -/
def kindsL (t : Int) : List Int := if t = 1 then [1, 2] else if t = 2 then [3, 4] else if t = 3 then [5, 6] else if t = 4 then [7, 8, 9] else if t = 5 then [10] else []
theorem kinds_fit (t k : Int) : decide (k ∈ kindsL t) = fitsB t k := by
  unfold fitsB
  rw [Bool.eq_iff_iff, decide_eq_true_iff, decide_eq_true_iff]
  unfold kindsL kindType
  (repeat' split) <;> simp <;> omega
def asksB (k v : Int) : Bool := if k ∈ [2, 4, 6, 10] then v == 0 else btw 1 v 1000
def answersB (k v : Int) : Bool := if k = 2 ∨ k = 10 then btw 0 v 1000 else if k = 4 ∨ k = 6 then v == -1 || btw 1 v 1000 else if 7 ≤ k then btw 0 v 1 else v == 0
theorem asks_takes {t k v : Int} (h : fitsB t k = true) : asksB k v = takesB k v := by
  obtain ⟨h1, h2, _⟩ := fits_kind h
  unfold asksB takesB
  simp only [List.mem_cons, List.not_mem_nil, or_false]
  (repeat' split) <;> first | rfl | omega
theorem answers_gives {k v : Int} (h1 : 1 ≤ k) (h2 : k ≤ 10) : answersB k v = givesB k v := by
  unfold answersB givesB
  (repeat' split) <;> first | rfl | omega
theorem type_ways (t : Int) : t = 1 ∨ t = 2 ∨ t = 3 ∨ t = 4 ∨ t = 5 ∨ ((t == 1) = false ∧ (t == 2) = false ∧ (t == 3) = false ∧ (t == 4) = false ∧ (t == 5) = false) := by
  simp only [beq_eq_false_iff_ne]
  omega
theorem nrd_lit (w : World) (t : TypeId) (xs : List Int) (n : Nat) (hn : n = xs.length) (cs : Array Value) (hcs : cs = (xs.map (Value.int .i64)).toArray) :
    IRd (w.alloc (.cells cs t)) (w.alloc (.cells cs t)).heap.size (.slice (some ⟨w.heap.size, 0, none⟩) n n) xs := by
  subst hn
  refine ⟨_, _, rfl, fun _ => ⟨_, rfl, by simp, fun j hj => ?_⟩⟩
  rw [cell_of_row _ _ j cs t (0, 0) (heap_alloc_new w _), hcs]
  simp [hj]
set_option maxHeartbeats 1000000 in
theorem kinds_any (t : Int) (w : World) : Calls Tryd.prog 40 #[.int .i64 t] w fun e w' => ∃ v, e = .returned v ∧ IRd w' w'.heap.size v (kindsL t) ∧ Below w.heap.size w w' := by
  rcases type_ways t with rfl | rfl | rfl | rfl | rfl | h
  all_goals try (
    go_enter Tryd.func40, Tryd.ntmps40
    go_wp2
    go_ret
    refine ⟨_, rfl, ?_, (Below.refl _ _).alloc (Nat.le_refl _) _⟩
    first
      | exact nrd_lit w 3 [1, 2] 2 rfl #[.int .i64 1, .int .i64 2] rfl
      | exact nrd_lit w 3 [3, 4] 2 rfl #[.int .i64 3, .int .i64 4] rfl
      | exact nrd_lit w 3 [5, 6] 2 rfl #[.int .i64 5, .int .i64 6] rfl
      | exact nrd_lit w 3 [7, 8, 9] 3 rfl #[.int .i64 7, .int .i64 8, .int .i64 9] rfl
      | exact nrd_lit w 3 [10] 1 rfl #[.int .i64 10] rfl)
  have e : kindsL t = [] := by
    simp only [beq_eq_false_iff_ne] at h
    unfold kindsL
    (repeat' split) <;> first | rfl | omega
  rw [e]
  obtain ⟨h1, h2, h3, h4, h5⟩ := h
  clear e
  go_enter Tryd.func40, Tryd.ntmps40
  go_wp2
  go_ret
  exact ⟨_, rfl, ⟨none, 0, rfl, fun h => by simp at h⟩, Below.refl _ _⟩
set_option maxHeartbeats 1000000 in
theorem asks_any (k v : Int) (w : World) : Calls Tryd.prog 41 #[.int .i64 k, .int .i64 v] w fun e w' => e = .returned (.bool (asksB k v)) ∧ Below w.heap.size w w' := by
  have hc := contains_any (nrd_lit w 3 [2, 4, 6, 10] 4 rfl _ rfl) (by decide) k
  have er : asksB k v = if k ∈ [2, 4, 6, 10] then v == 0 else btw 1 v 1000 := rfl
  generalize asksB k v = s at er ⊢
  have HE := Lib.hid er
  clear er
  by_cases hm : k ∈ ([2, 4, 6, 10] : List Int)
  · rw [decide_eq_true hm] at hc
    have HC := Lib.hid hc
    have HM := Lib.hid hm
    clear hc hm
    generalize hv : (v == 0) = d
    go_enter Tryd.func41, Tryd.ntmps41
    go_wp2_with fail
    refine HC.out.mono ?_
    rintro e w1 ⟨rfl, hb⟩
    have HB := Lib.hid hb
    clear hb
    go_wp2_with fail
    go_ret
    have e := HE.out
    rw [if_pos HM.out, hv] at e
    exact ⟨ret_bool e.symm, ((Below.refl _ _).alloc (Nat.le_refl _) _).trans (HB.out.mono (by simp))⟩
  · rw [decide_eq_false hm] at hc
    have HC := Lib.hid hc
    have HM := Lib.hid hm
    clear hc hm
    go_enter Tryd.func41, Tryd.ntmps41
    go_wp2_with fail
    refine HC.out.mono ?_
    rintro e w1 ⟨rfl, hb⟩
    have HB := Lib.hid hb
    clear hb
    go_wp2_with (go_at_call 13; (with_reducible refine (btwn_any _ _ _ _).mono ?_); rintro e w' ⟨rfl, rfl⟩)
    go_ret
    have e := HE.out
    rw [if_neg HM.out] at e
    exact ⟨ret_bool e.symm, ((Below.refl _ _).alloc (Nat.le_refl _) _).trans (HB.out.mono (by simp))⟩
theorem ans_ways (k : Int) : (k = 2) ∨ (k = 10) ∨ (k = 4) ∨ (k = 6) ∨ (((k == 2) = false ∧ (k == 10) = false ∧ (k == 4) = false ∧ (k == 6) = false) ∧ 7 ≤ k) ∨ (((k == 2) = false ∧ (k == 10) = false ∧ (k == 4) = false ∧ (k == 6) = false) ∧ ¬ 7 ≤ k) := by
  simp only [beq_eq_false_iff_ne]
  omega
set_option maxHeartbeats 1000000 in
theorem answers_any (k v : Int) (w : World) : Calls Tryd.prog 39 #[.int .i64 k, .int .i64 v] w fun e w' => e = .returned (.bool (answersB k v)) ∧ w = w' := by
  rcases ans_ways k with rfl | rfl | rfl | rfl | h | h
  all_goals try (
    show Calls _ _ _ _ fun e w' => e = .returned (.bool (btw 0 v 1000)) ∧ w = w'
    go_enter Tryd.func39, Tryd.ntmps39
    go_wp2_with (go_at_call 13; (with_reducible refine (btwn_any _ _ _ _).mono ?_); rintro e w' ⟨rfl, rfl⟩)
    go_ret
    exact ⟨rfl, rfl⟩)
  all_goals try (
    show Calls _ _ _ _ fun e w' => e = .returned (.bool (v == -1 || btw 1 v 1000)) ∧ w = w'
    by_cases h1 : v = -1
    · subst h1
      go_enter Tryd.func39, Tryd.ntmps39
      go_wp2
      go_ret
      exact ⟨rfl, rfl⟩
    · have hz : (v == -1) = false := by rw [beq_eq_false_iff_ne]; exact h1
      rw [hz, Bool.false_or]
      clear h1
      go_enter Tryd.func39, Tryd.ntmps39
      go_wp2_with (go_at_call 13; (with_reducible refine (btwn_any _ _ _ _).mono ?_); rintro e w' ⟨rfl, rfl⟩)
      go_ret
      exact ⟨rfl, rfl⟩)
  · obtain ⟨⟨h1, h2, h3, h4⟩, h5⟩ := h
    have e : answersB k v = btw 0 v 1 := by
      simp only [beq_eq_false_iff_ne] at h1 h2 h3 h4
      unfold answersB
      (repeat' split) <;> first | rfl | omega
    rw [e]
    clear e
    go_enter Tryd.func39, Tryd.ntmps39
    go_wp2_with (go_at_call 13; (with_reducible refine (btwn_any _ _ _ _).mono ?_); rintro e w' ⟨rfl, rfl⟩)
    go_ret
    exact ⟨rfl, rfl⟩
  · obtain ⟨⟨h1, h2, h3, h4⟩, h5⟩ := h
    have e : answersB k v = (v == 0) := by
      simp only [beq_eq_false_iff_ne] at h1 h2 h3 h4
      unfold answersB
      (repeat' split) <;> first | rfl | omega
    rw [e]
    generalize hv : (v == 0) = d
    clear e
    go_enter Tryd.func39, Tryd.ntmps39
    go_wp2
    go_ret
    exact ⟨rfl, rfl⟩
end Go.Proofs.YtfgangkpebkicaaDoor

/-
  Contracts of the reference's Begin, Asked.
-/
namespace Go.Proofs.YtfgangkpebkicaaDoor
open Go.RowKit
set_option maxRecDepth 20000
set_option maxHeartbeats 1000000 in
theorem begin_any (typ : Int) (w : World) : Calls Tryd.prog 45 #[.int .i64 typ] w fun e w' => ∃ v, e = .returned v ∧ NRd w' w'.heap.size v (beginL typ) ∧ Below w.heap.size w w' := by
  by_cases h1 : typ = 1
  · subst h1
    go_enter Tryd.func45, Tryd.ntmps45
    go_wp2
    go_ret
    exact ⟨_, rfl, (nrd_new w 0).mono (by simp), (Below.refl _ _).alloc (Nat.le_refl _) _⟩
  · by_cases h5 : typ = 5
    · subst h5
      go_enter Tryd.func45, Tryd.ntmps45
      go_wp2
      go_ret
      exact ⟨_, rfl, (nrd_new w 0).mono (by simp), (Below.refl _ _).alloc (Nat.le_refl _) _⟩
    · have e : beginL typ = [] := by
        unfold beginL oneB
        rw [if_neg (by simp [h1, h5])]
      rw [e]
      have z1 : (typ == 1) = false := by rw [beq_eq_false_iff_ne]; exact h1
      have z5 : (typ == 5) = false := by rw [beq_eq_false_iff_ne]; exact h5
      clear h1 h5 e
      go_enter Tryd.func45, Tryd.ntmps45
      go_wp2
      go_ret
      exact ⟨_, rfl, LRd.nil _ _, Below.refl _ _⟩
theorem kindsL_short (t : Int) : (kindsL t).length ≤ 1000000 := by
  unfold kindsL
  (repeat' split) <;> simp
set_option maxHeartbeats 1000000 in
theorem asked_any (typ kind arg : Int) (w : World) : Calls Tryd.prog 79 #[.int .i64 typ, .int .i64 kind, .int .i64 arg] w fun e w' => e = .returned (.bool (fitsB typ kind && takesB kind arg)) ∧ Below w.heap.size w w' := by
  cases hf : fitsB typ kind
  · rw [Bool.false_and]
    have HF := Lib.hid hf
    clear hf
    go_enter Tryd.func79, Tryd.ntmps79
    go_wp2_with fail
    refine (kinds_any _ _).mono ?_
    rintro e w1 ⟨kv, rfl, hk, hb1⟩
    have H1 := Lib.hid (And.intro hk hb1)
    clear hk hb1
    go_wp2_with fail
    refine (contains_any H1.out.1 (kindsL_short _) _).mono ?_
    rw [kinds_fit, HF.out]
    rintro e w2 ⟨rfl, hb2⟩
    have H2 := Lib.hid (H1.out.2.trans (hb2.mono H1.out.2.size))
    clear hb2
    go_wp2_with fail
    go_ret
    exact ⟨rfl, H2.out⟩
  · rw [Bool.true_and, ← asks_takes hf]
    have HF := Lib.hid hf
    clear hf
    generalize hq : asksB kind arg = q
    have HQ := Lib.hid hq
    clear hq
    go_enter Tryd.func79, Tryd.ntmps79
    go_wp2_with fail
    refine (kinds_any _ _).mono ?_
    rintro e w1 ⟨kv, rfl, hk, hb1⟩
    have H1 := Lib.hid (And.intro hk hb1)
    clear hk hb1
    go_wp2_with fail
    refine (contains_any H1.out.1 (kindsL_short _) _).mono ?_
    rw [kinds_fit, HF.out]
    rintro e w2 ⟨rfl, hb2⟩
    have H2 := Lib.hid (H1.out.2.trans (hb2.mono H1.out.2.size))
    clear hb2
    go_wp2_with fail
    refine (asks_any _ _ _).mono ?_
    rw [HQ.out]
    rintro e w3 ⟨rfl, hb3⟩
    have H3 := Lib.hid (H2.out.trans (hb3.mono H2.out.size))
    clear hb3
    go_wp2_with fail
    go_ret
    exact ⟨rfl, H3.out⟩
end Go.Proofs.YtfgangkpebkicaaDoor

/-
  Plain mathematics: the reference's step of a set goes through the state once.
-/
namespace Go.Proofs.YtfgangkpebkicaaDoor
open Go.RowKit
set_option maxRecDepth 20000
/-- Was it there; what is there behind; is it put in already? -/
abbrev PassS := Int × List Int × Bool
def passStep (k a : Int) (st : PassS) (x : Int) : PassS :=
  (if x = a then 1 else st.1, (if a ≤ x ∧ st.2.2 = false then st.2.1 ++ [a] else st.2.1) ++ (if x ≠ a ∨ k = 9 then [x] else []), if a ≤ x ∧ st.2.2 = false then true else st.2.2)
def pass (k a : Int) (st : PassS) (l : List Int) : PassS := l.foldl (passStep k a) st
def passEnd (a : Int) (st : PassS) : List Int := if st.2.2 = true then st.2.1 else st.2.1 ++ [a]
theorem pass_cons (k a : Int) (st : PassS) (x : Int) (r : List Int) : pass k a st (x :: r) = pass k a (passStep k a st x) r := rfl
theorem pass_snoc (k a : Int) (st : PassS) (l : List Int) (x : Int) : pass k a st (l ++ [x]) = passStep k a (pass k a st l) x := by
  unfold pass
  rw [List.foldl_append]
  rfl
theorem pass_len (k a : Int) : ∀ (l : List Int) (st : PassS), (pass k a st l).2.1.length ≤ st.2.1.length + 2 * l.length
  | [], st => by simp [pass]
  | x :: r, st => by
    rw [pass_cons]
    have := pass_len k a r (passStep k a st x)
    have h2 : (passStep k a st x).2.1.length ≤ st.2.1.length + 2 := by
      unfold passStep
      simp only [List.length_append]
      split <;> split <;> simp
    simp only [List.length_cons]
    omega
theorem pass_was (k a : Int) : ∀ (l : List Int) (st : PassS), (pass k a st l).1 = if a ∈ l then 1 else st.1
  | [], st => by simp [pass]
  | x :: r, st => by
    rw [pass_cons, pass_was k a r]
    by_cases h : a ∈ r
    · rw [if_pos h, if_pos (List.mem_cons_of_mem _ h)]
    · rw [if_neg h]
      by_cases e : x = a
      · rw [if_pos (by rw [e]; exact List.mem_cons_self)]
        show (if x = a then 1 else st.1) = 1
        rw [if_pos e]
      · rw [if_neg (by
          intro hm
          rcases List.mem_cons.1 hm with h' | h'
          · exact e h'.symm
          · exact h h')]
        show (if x = a then 1 else st.1) = st.1
        rw [if_neg e]
/-- Once it is put in, or need not be. -/
theorem pass_put (k a : Int) : ∀ (l : List Int) (w : Int) (acc : List Int), (pass k a (w, acc, true) l).2 = (acc ++ l.filter (fun x => decide (x ≠ a ∨ k = 9)), true)
  | [], w, acc => by simp [pass]
  | x :: r, w, acc => by
    have e : passStep k a (w, acc, true) x = (if x = a then 1 else w, acc ++ (if x ≠ a ∨ k = 9 then [x] else []), true) := by
      unfold passStep
      simp
    rw [pass_cons, e, pass_put k a r]
    by_cases h : x ≠ a ∨ k = 9
    · rw [if_pos h, List.filter_cons_of_pos (by simpa using h)]
      simp
    · rw [if_neg h, List.filter_cons_of_neg (by simpa using h)]
      simp
theorem filter_all {l : List Int} {p : Int → Bool} (h : ∀ x ∈ l, p x = true) : l.filter p = l := List.filter_eq_self.2 h
theorem pass9 (a : Int) (l : List Int) : (pass 9 a (0, [], true) l).2 = (l, true) := by
  rw [pass_put, filter_all (fun x _ => by simp)]
  rfl
theorem pass8 (a : Int) {l : List Int} (h : l.Pairwise (· < ·)) : (pass 8 a (0, [], true) l).2 = (if a ∈ l then delAt l (lessN l a) else l, true) := by
  rw [pass_put, List.nil_append]
  congr 1
  by_cases hm : a ∈ l
  · rw [if_pos hm]
    refine sorted_ext (h.filter _) (del_sorted h _) fun y => ?_
    rw [List.mem_filter, del_mem h hm]
    simp
    exact ⟨fun h => ⟨h.2, h.1⟩, fun h => ⟨h.2, h.1⟩⟩
  · rw [if_neg hm]
    exact filter_all fun x hx => by
      have : x ≠ a := fun e => hm (e ▸ hx)
      simp [this]
theorem pass7 (a : Int) : ∀ {l : List Int} (w : Int) (acc : List Int), l.Pairwise (· < ·) → passEnd a (pass 7 a (w, acc, false) l) = acc ++ (if a ∈ l then l else insAt l (lessN l a) a)
  | [], w, acc, _ => by
    rw [if_neg (by simp)]
    rfl
  | x :: r, w, acc, h => by
    obtain ⟨h1, h2⟩ := List.pairwise_cons.1 h
    by_cases hx : a ≤ x
    · have hr : r.filter (fun x => decide (x ≠ a ∨ (7 : Int) = 9)) = r := filter_all fun y hy => by
        have := h1 y hy
        have : y ≠ a := by omega
        simp [this]
      have e : passStep 7 a (w, acc, false) x = (if x = a then 1 else w, acc ++ [a] ++ (if x ≠ a then [x] else []), true) := by
        unfold passStep
        simp [hx]
      rw [pass_cons, e]
      have hp := pass_put 7 a r (if x = a then 1 else w) (acc ++ [a] ++ (if x ≠ a then [x] else []))
      unfold passEnd
      rw [hp, hr]
      simp only [if_true]
      by_cases ex : x = a
      · subst ex
        rw [if_pos (List.mem_cons_self), if_neg (by simp)]
        simp
      · rw [if_pos ex, if_neg (by
          intro hm
          rcases List.mem_cons.1 hm with h' | h'
          · exact ex h'.symm
          · have := h1 a h'; omega)]
        have hl : lessN (x :: r) a = 0 := lessN_zero fun z hz => by
          rcases List.mem_cons.1 hz with rfl | hz
          · exact hx
          · have := h1 z hz; omega
        rw [hl]
        simp [insAt]
    · have e : passStep 7 a (w, acc, false) x = (w, acc ++ [x], false) := by
        unfold passStep
        have : ¬ x = a := by omega
        simp [hx, this]
      rw [pass_cons, e, pass7 a w _ h2]
      have hl : lessN (x :: r) a = lessN r a + 1 := by rw [lessN_cons, if_pos (by omega)]
      have hm : (a ∈ x :: r ↔ a ∈ r) := by
        constructor
        · intro hm
          rcases List.mem_cons.1 hm with h' | h'
          · omega
          · exact h'
        · exact List.mem_cons_of_mem _
      by_cases hr : a ∈ r
      · rw [if_pos hr, if_pos (hm.2 hr)]
        simp
      · rw [if_neg hr, if_neg (fun h => hr (hm.1 h)), hl]
        simp [insAt]
/-- What the reference's pass makes of a set is what the step does. -/
theorem pass_stepped {l : List Int} (h : l.Pairwise (· < ·)) (k a : Int) (hk : k = 7 ∨ k = 8 ∨ k = 9) (hfull : ¬ (k = 7 ∧ a ∉ l ∧ l.length = 50)) :
    stepped l k a = (passEnd a (pass k a (0, [], k != 7) l), if k = 7 then 1 - (pass k a (0, [], k != 7) l).1 else (pass k a (0, [], k != 7) l).1, 0) := by
  rcases hk with rfl | rfl | rfl
  · have e : stepped l 7 a = if a ∈ l then (l, 0, 0) else if l.length = 50 then ([], 0, 2) else (insAt l (lessN l a) a, 1, 0) := rfl
    rw [e, show ((7 : Int) != 7) = false from rfl, pass7 a 0 [] h, pass_was, if_pos rfl]
    by_cases hm : a ∈ l
    · rw [if_pos hm, if_pos hm, if_pos hm]
      rfl
    · rw [if_neg hm, if_neg hm, if_neg hm, if_neg (fun h50 => hfull ⟨rfl, hm, h50⟩)]
      rfl
  · have e : stepped l 8 a = if a ∈ l then (delAt l (lessN l a), 1, 0) else (l, 0, 0) := rfl
    rw [e, show ((8 : Int) != 7) = true from rfl, if_neg (show ¬ (8 : Int) = 7 by decide), pass_was]
    unfold passEnd
    rw [pass8 a h]
    by_cases hm : a ∈ l
    · simp [hm]
    · simp [hm]
  · have e : stepped l 9 a = (l, if a ∈ l then 1 else 0, 0) := rfl
    rw [e, show ((9 : Int) != 7) = true from rfl, if_neg (show ¬ (9 : Int) = 7 by decide), pass_was]
    unfold passEnd
    rw [pass9 a]
    simp
end Go.Proofs.YtfgangkpebkicaaDoor
