/-
  Joined by a program out of: RefPure, AheadR.
-/
import Derived.Test.YtfgangkpebkicaaGreatDoorMgAR
import Derived.Test.YtfgangkpebkicaaGreatDoorMgAF
import Derived.Deep.QuietTactic
import Derived.BigQuiet
import Derived.Lib.Hide

/-
  Plain: a right order by any relation; what the reference's RightOrder looks at.
-/
namespace Go.Proofs.YtfgangkpebkicaaGreatDoor
open Go.RowKit
set_option maxRecDepth 20000
/-- What the first q steps are: in range, each once, answered as they were. -/
structure PreOk (cs : List Cl) (ws : List (Int × Int)) (q : Nat) : Prop where
  rng : ∀ (i : Nat) (x : Int × Int), i < q → ws[i]? = some x → 0 ≤ x.1 ∧ x.1 < cs.length
  res : ∀ (i : Nat) (x : Int × Int), i < q → ws[i]? = some x → (atC cs x).til ≠ -1 → (atC cs x).res = x.2
  once : ∀ (i j : Nat) (x y : Int × Int), i < j → j < q → ws[i]? = some x → ws[j]? = some y → x.1 ≠ y.1
/-- Where each call stands among the first q steps, or -1. -/
def AtOk (n : Nat) (ws : List (Int × Int)) (q : Nat) (f : Nat → Int) : Prop := ∀ k, k < n → (f k = -1 ∧ ∀ (i : Nat) (x : Int × Int), i < q → ws[i]? = some x → x.1 ≠ (k : Int)) ∨ ∃ (i : Nat) (x : Int × Int), i < q ∧ ws[i]? = some x ∧ x.1 = (k : Int) ∧ f k = (i : Int)
theorem PreOk.zero (cs : List Cl) (ws : List (Int × Int)) : PreOk cs ws 0 := ⟨fun i x h => by omega, fun i x h => by omega, fun i j x y h1 h2 => by omega⟩
theorem AtOk.zero (n : Nat) (ws : List (Int × Int)) {f : Nat → Int} (h : ∀ k, k < n → f k = -1) : AtOk n ws 0 f := fun k hk => .inl ⟨h k hk, fun i x hi => by omega⟩
section
variable {ts : List Int} {cs : List Cl} {p : Nat → Nat → Bool} {ws : List (Int × Int)} {q : Nat} {f : Nat → Int} {x : Int × Int}
theorem AtOk.ge (h : AtOk cs.length ws q f) {k : Nat} (hk : k < cs.length) : -1 ≤ f k ∧ f k < q := by
  rcases h k hk with ⟨h1, _⟩ | ⟨i, _, h1, _, _, h2⟩ <;> omega
theorem AtOk.neg (h : AtOk cs.length ws q f) {k : Nat} (hk : k < cs.length) (hf : f k < 0) : ∀ (i : Nat) (x : Int × Int), i < q → ws[i]? = some x → x.1 ≠ (k : Int) := by
  rcases h k hk with ⟨_, h1⟩ | ⟨i, _, h1, _, _, h2⟩
  · exact h1
  · omega
theorem AtOk.pos (h : AtOk cs.length ws q f) {k : Nat} (hk : k < cs.length) (hf : 0 ≤ f k) : ∃ (i : Nat) (x : Int × Int), i < q ∧ ws[i]? = some x ∧ x.1 = (k : Int) ∧ f k = (i : Int) := by
  rcases h k hk with ⟨h0, h1⟩ | h
  · omega
  · exact h
/-- One more step. -/
theorem PreOk.succ (h : PreOk cs ws q) (ha : AtOk cs.length ws q f) (hx : ws[q]? = some x) (h0 : 0 ≤ x.1 ∧ x.1 < cs.length) (h1 : f x.1.toNat < 0) (h2 : (atC cs x).til ≠ -1 → (atC cs x).res = x.2) : PreOk cs ws (q + 1) := by
  have hne := ha.neg (k := x.1.toNat) (by omega) h1
  refine ⟨fun i y hi hy => ?_, fun i y hi hy => ?_, fun i j y z hij hj hy hz => ?_⟩
  · by_cases e : i = q
    · subst e; rw [hx] at hy; injection hy with hy; subst hy; exact h0
    · exact h.rng i y (by omega) hy
  · by_cases e : i = q
    · subst e; rw [hx] at hy; injection hy with hy; subst hy; exact h2
    · exact h.res i y (by omega) hy
  · by_cases e : j = q
    · subst e; rw [hx] at hz; injection hz with hz; subst hz
      have := hne i y hij hy
      omega
    · exact h.once i j y z hij (by omega) hy hz
theorem AtOk.succ (h : AtOk cs.length ws q f) (hx : ws[q]? = some x) (h0 : 0 ≤ x.1 ∧ x.1 < cs.length) : AtOk cs.length ws (q + 1) (fun k => if k = x.1.toNat then (q : Int) else f k) := fun k hk => by
  by_cases e : k = x.1.toNat
  · right
    exact ⟨q, x, by omega, hx, by omega, if_pos e⟩
  · simp only [if_neg e]
    rcases h k hk with ⟨a, b⟩ | ⟨i, y, a, b, c, d⟩
    · refine .inl ⟨a, fun i y hi hy => ?_⟩
      by_cases e2 : i = q
      · subst e2; rw [hx] at hy; injection hy with hy; subst hy; omega
      · exact b i y (by omega) hy
    · exact .inr ⟨i, y, by omega, b, c, d⟩
/-- A step that is not so: it is not right. -/
theorem not_rite1 (ha : AtOk cs.length ws q f) (hx : ws[q]? = some x) (h : ¬ (0 ≤ x.1 ∧ x.1 < cs.length) ∨ ((0 ≤ x.1 ∧ x.1 < cs.length) ∧ (0 ≤ f x.1.toNat ∨ ((atC cs x).til ≠ -1 ∧ (atC cs x).res ≠ x.2)))) : ¬ RiteP ts cs p ws := fun hr => by
  have hm := List.mem_of_getElem? hx
  rcases h with h | ⟨h0, h | ⟨h1, h2⟩⟩
  · exact h (hr.rng x hm)
  · obtain ⟨i, y, h1, h2, h3, _⟩ := ha.pos (k := x.1.toNat) (by omega) h
    have := once_at hr.once h2 hx (by omega)
    omega
  · exact h2 (hr.res x hm h1)
/-- An answered call that is missing. -/
theorem not_rite2 (ha : AtOk cs.length ws ws.length f) {i : Nat} (hi : i < cs.length) (h1 : (cs.getD i default).til ≠ -1) (h2 : f i < 0) : ¬ RiteP ts cs p ws := fun hr => by
  obtain ⟨x, hx, e⟩ := List.mem_map.1 (hr.all i hi h1)
  obtain ⟨k, hk, rfl⟩ := List.getElem_of_mem hx
  exact ha.neg hi h2 k _ hk (List.getElem?_eq_getElem hk) e
/-- Somebody behind whom they must stand ahead of. -/
theorem not_rite3 (ha : AtOk cs.length ws ws.length f) {i j : Nat} (hi : i < cs.length) (hj : j < cs.length) (hp : p i j = true) (h1 : 0 ≤ f j) (h2 : f i < 0 ∨ f j < f i) : ¬ RiteP ts cs p ws := fun hr => by
  obtain ⟨q, y, h3, h4, h5, h6⟩ := ha.pos hj h1
  have e : ws = ws.take q ++ y :: ws.drop (q + 1) := by
    rw [← (List.getElem?_eq_some_iff.1 h4).2, ← List.drop_eq_getElem_cons h3, List.take_append_drop]
  obtain ⟨x, hx, e2⟩ := List.mem_map.1 (hr.ord i j hi hj hp _ _ _ e h5)
  obtain ⟨k, hk, e3⟩ := List.getElem_of_mem hx
  have hkq : k < q := by rw [List.length_take] at hk; omega
  have h7 : ws[k]? = some x := by
    rw [← e3, List.getElem_take]
    exact List.getElem?_eq_getElem (by omega)
  rcases ha i hi with ⟨_, h8⟩ | ⟨m, z, h8, h9, h10, h11⟩
  · exact h8 k x (by omega) h7 e2
  · have := once_at hr.once h7 h9 (by omega)
    omega
theorem not_rite4 {t : Nat} (ht : t < ts.length) (h : playN (ts.getD t 0) (ownD cs t ws) ≠ (ownD cs t ws).length) : ¬ RiteP ts cs p ws := fun hr => h ((goes_play _ _).1 (hr.goes t ht))
/-- Where all of it is so, it is right. -/
theorem rite_mk (h1 : PreOk cs ws ws.length) (ha : AtOk cs.length ws ws.length f) (hirr : ∀ i, p i i = false)
    (h2 : ∀ i, i < cs.length → ((cs.getD i default).til ≠ -1 → 0 ≤ f i) ∧ ∀ j, j < cs.length → p i j = true → 0 ≤ f j → 0 ≤ f i ∧ f i ≤ f j)
    (h3 : ∀ t, t < ts.length → playN (ts.getD t 0) (ownD cs t ws) = (ownD cs t ws).length) : RiteP ts cs p ws := by
  have hon : (ws.map (·.1)).Nodup := by
    refine List.pairwise_iff_getElem.2 fun i j hi hj hij => ?_
    rw [List.length_map] at hi hj
    rw [List.getElem_map, List.getElem_map]
    exact h1.once i j _ _ hij hj (List.getElem?_eq_getElem hi) (List.getElem?_eq_getElem hj)
  refine ⟨fun x hx => ?_, hon, fun x hx => ?_, fun i hi ht => ?_, fun i j hi hj hp a y b e ey => ?_, fun t ht => (goes_play _ _).2 (h3 t ht)⟩
  · obtain ⟨k, hk, rfl⟩ := List.getElem_of_mem hx
    exact h1.rng k _ hk (List.getElem?_eq_getElem hk)
  · obtain ⟨k, hk, rfl⟩ := List.getElem_of_mem hx
    exact h1.res k _ hk (List.getElem?_eq_getElem hk)
  · obtain ⟨k, x, _, h5, h6, _⟩ := ha.pos hi ((h2 i hi).1 ht)
    exact List.mem_map.2 ⟨x, List.mem_of_getElem? h5, h6⟩
  · have hq : ws[a.length]? = some y := by rw [e]; simp
    have hql : a.length < ws.length := by rw [e]; simp
    have hfj : f j = (a.length : Int) := by
      rcases ha j hj with ⟨_, h5⟩ | ⟨k, z, h5, h6, h7, h8⟩
      · exact absurd ey (h5 _ _ hql hq)
      · have := once_at hon hq h6 (by omega)
        omega
    obtain ⟨h5, h6⟩ := (h2 i hi).2 j hj hp (by omega)
    obtain ⟨k, z, h7, h8, h9, h10⟩ := ha.pos hi h5
    have hkn : k ≠ a.length := fun ek => by
      subst ek
      rw [hq] at h8
      injection h8 with h8
      subst h8
      have : i = j := by omega
      subst this
      rw [hirr] at hp
      cases hp
    have hkl : k < a.length := by omega
    refine List.mem_map.2 ⟨z, ?_, h9⟩
    rw [e, List.getElem?_append_left hkl] at h8
    exact List.mem_of_getElem? h8
end
theorem ownD_take {cs : List Cl} {t : Nat} {ws : List (Int × Int)} {k : Nat} {x : Int × Int} (h : ws[k]? = some x) : ownD cs t (ws.take (k + 1)) = if (atC cs x).thing.toNat = t then ownD cs t (ws.take k) ++ [ddC cs x] else ownD cs t (ws.take k) := by
  rw [List.take_add_one, h, ownD_append]
  simp only [Option.toList_some]
  rw [ownD_cons]
  split
  · rfl
  · rw [show ownD cs t [] = [] from rfl, List.append_nil]
end Go.Proofs.YtfgangkpebkicaaGreatDoor

/-
  Contract of alibref.Ahead.
-/
namespace Go.Proofs.YtfgangkpebkicaaGreatDoor
open Go.RowKit
set_option maxRecDepth 20000
theorem ahead_val (s j : Nat) : (((s : Int) / 2 ^ ((j : Int).toNat)).tmod 2 == 1) = s.testBit j := by
  have e : (s : Int) / 2 ^ ((j : Int).toNat) = ((s / 2 ^ j : Nat) : Int) := by simp
  rw [e, Nat.testBit, Nat.shiftRight_eq_div_pow, Nat.and_comm, Nat.and_one_is_mod, Bool.eq_iff_iff, beq_iff_eq, bne_iff_ne]
  have : (((s / 2 ^ j : Nat) : Int)).tmod 2 = ((s / 2 ^ j % 2 : Nat) : Int) := rfl
  rw [this]
  omega
theorem ahead_any (n : Int) (c : Nat → Nat) (i j : Nat) (w : World) (hi : i < 12) (hj : j ≤ 15) :
    Calls Tryz.prog 32 #[relV n c, .int .i64 i, .int .i64 j] w fun e w' => e = .returned (.bool ((c i).testBit j)) ∧ Below w.heap.size w w' := by
  have hb := (Below.refl w.heap.size w).alloc (Nat.le_refl _) (.cells (relCs n c) 43)
  have hR : RelB (w.alloc (.cells (relCs n c) 43)) w.heap.size n c := Lies.new _ _ _
  have hk := hR.row' (k := i) hi
  have HB := Lib.hid (And.intro hb hR)
  clear hb hR
  go_enter Tryz.func32, Tryz.ntmps32
  go_wp2_with fail
  go_ret
  exact ⟨ret_bool (by rw [← ahead_val]; simp), HB.out.1⟩
end Go.Proofs.YtfgangkpebkicaaGreatDoor
