/-
  Joined by a program out of: FrontRite.
-/
import Derived.Test.YtecpjeililiafaaDoorMgAX

/-
  Plain: a begin of a history that has a right order has one.
-/
namespace Go.Proofs.YtecpjeililiafaaDoor
open Go.RowKit
set_option maxRecDepth 20000

theorem getD_some {cs : List Cl} {i : Nat} (h : i < cs.length) : cs[i]? = some (cs.getD i default) := by
  rw [List.getD_eq_getElem?_getD, List.getElem?_eq_getElem h]
  rfl
/-- Cut behind the last that is so. -/
theorem cut_last {α : Type} (P : α → Prop) : ∀ ws : List α, ∃ a b, ws = a ++ b ∧ (∀ x ∈ b, ¬ P x) ∧ (a = [] ∨ ∃ a' y, a = a' ++ [y] ∧ P y)
  | [] => ⟨[], [], rfl, fun x hx => by simp at hx, .inl rfl⟩
  | x :: r => by
    obtain ⟨a, b, h1, h2, h3⟩ := cut_last P r
    rcases h3 with rfl | ⟨a', y, rfl, hy⟩
    · rw [List.nil_append] at h1
      subst h1
      by_cases hx : P x
      · exact ⟨[x], r, rfl, h2, .inr ⟨[], x, rfl, hx⟩⟩
      · refine ⟨[], x :: r, rfl, fun z hz => ?_, .inl rfl⟩
        rcases List.mem_cons.1 hz with rfl | hz
        · exact hx
        · exact h2 z hz
    · exact ⟨x :: (a' ++ [y]), b, by rw [h1]; rfl, h2, .inr ⟨x :: a', y, rfl, hy⟩⟩
theorem ownD_congr {cs ds : List Cl} {t : Nat} : ∀ {ws : List (Int × Int)}, (∀ x ∈ ws, (atC ds x).thing = (atC cs x).thing ∧ (atC ds x).kind = (atC cs x).kind ∧ (atC ds x).arg = (atC cs x).arg) → ownD ds t ws = ownD cs t ws
  | [], _ => rfl
  | x :: r, h => by
    rw [ownD_cons, ownD_cons, ownD_congr (ws := r) (fun y hy => h y (List.mem_cons_of_mem _ hy))]
    obtain ⟨h1, h2, h3⟩ := h x List.mem_cons_self
    unfold ddC
    rw [h1, h2, h3]
/-- No one stands behind whom it is ahead of. -/
theorem Rite.not_behind {ts : List Int} {cs : List Cl} {ws : List (Int × Int)} (h : Rite ts cs ws) {i j : Nat} (hi : i < cs.length) (hj : j < cs.length) (ha : aheadB cs i j = true) {a b : List (Int × Int)} {y : Int × Int} (e : ws = a ++ y :: b) (ey : y.1 = (j : Int)) : (i : Int) ∉ b.map (·.1) := by
  intro hm
  have h1 := h.ord i j hi hj ha a y b e ey
  have h2 := h.once
  rw [e, List.map_append, List.map_cons, List.nodup_append] at h2
  exact h2.2.2 _ h1 _ (List.mem_cons_of_mem _ hm) rfl
theorem grow_rite {ts : List Int} {n : Nat} {d c : List Cl} (hg : Grow n d c) (ht : Tidy n d) {ws : List (Int × Int)} (h : Rite ts c ws) : ∃ ws', Rite ts d ws' := by
  have hat : ∀ i, i < d.length → d.getD i default = before_ n (c.getD i default) := fun i hi => hg.same i _ _ (getD_some hi) (getD_some (by have := hg.len; omega))
  have hans : ∀ i, i < d.length → (d.getD i default).til ≠ -1 → d.getD i default = c.getD i default := fun i hi h1 => by
    have h2 := hat i hi
    unfold before_ at h2
    split at h2
    · rw [h2] at h1; exact absurd rfl h1
    · exact h2
  have hsame : ∀ i, i < d.length → (d.getD i default).thing = (c.getD i default).thing ∧ (d.getD i default).kind = (c.getD i default).kind ∧ (d.getD i default).arg = (c.getD i default).arg ∧ (d.getD i default).frm = (c.getD i default).frm := fun i hi => by
    rw [hat i hi]
    unfold before_
    split <;> exact ⟨rfl, rfl, rfl, rfl⟩
  obtain ⟨a, b, e, hb, hlast⟩ := cut_last (fun x : Int × Int => x.1 < d.length ∧ (d.getD x.1.toNat default).til ≠ -1) ws
  have hlen := hg.len
  have hin : ∀ x ∈ a, 0 ≤ x.1 ∧ x.1 < d.length := by
    intro x hx
    have h0 := h.rng x (by rw [e]; exact List.mem_append_left _ hx)
    refine ⟨h0.1, ?_⟩
    rcases hlast with rfl | ⟨a', y, rfl, hy1, hy2⟩
    · simp at hx
    · rcases List.mem_append.1 hx with hx | hx
      · apply Classical.byContradiction
        intro hn
        obtain ⟨a1, a2, rfl⟩ := List.append_of_mem hx
        have hy0 := h.rng y (by rw [e]; exact List.mem_append_left _ (List.mem_append_right _ List.mem_cons_self))
        have h3 := hans y.1.toNat (by omega) hy2
        have h4 := (ht _ (List.mem_of_getElem? (getD_some (cs := d) (i := y.1.toNat) (by omega)))).1
        have h5 := hg.new x.1.toNat (c.getD x.1.toNat default) (by omega) (getD_some (by omega))
        have ha : aheadB c y.1.toNat x.1.toNat = true := by
          unfold aheadB
          rw [decide_eq_true_iff, ← h3]
          exact ⟨hy2, by omega⟩
        refine h.not_behind (by omega) (by omega) ha (a := a1) (b := a2 ++ [y] ++ b) (y := x) (by rw [e]; simp) (by omega) ?_
        rw [List.mem_map]
        exact ⟨y, by simp, by omega⟩
      · rw [List.mem_singleton] at hx
        subst hx
        exact hy1
  have hsub : a.Sublist ws := by rw [e]; exact List.sublist_append_left a b
  refine ⟨a, hin, (hsub.map _).nodup h.once, fun x hx ht => ?_, fun i hi ht => ?_, fun i j hi hj ha a1 y b1 e1 ey => ?_, fun t ht => ?_⟩
  · have h1 := hin x hx
    have h2 : atC d x = atC c x := hans _ (by omega) ht
    rw [h2] at ht ⊢
    exact h.res x (hsub.mem hx) ht
  · have h2 := hans i hi ht
    have h3 := h.all i (by omega) (by rw [← h2]; exact ht)
    rw [e, List.map_append, List.mem_append] at h3
    rcases h3 with h3 | h3
    · exact h3
    · obtain ⟨x, hx, ex⟩ := List.mem_map.1 h3
      refine absurd ⟨by omega, ?_⟩ (hb x hx)
      rw [ex, Int.toNat_natCast]
      exact ht
  · refine h.ord i j (by omega) (by omega) ?_ a1 y (b1 ++ b) (by rw [e, e1]; simp) ey
    unfold aheadB at ha ⊢
    rw [decide_eq_true_iff] at ha ⊢
    rw [← hans i hi ha.1, ← (hsame j hj).2.2.2]
    exact ha
  · have h1 := h.goes t ht
    rw [e, ownD_append, goes_append] at h1
    rw [ownD_congr fun x hx => ?_]
    · exact h1.1
    · have := hsame x.1.toNat (by have := hin x hx; omega)
      exact ⟨this.1, this.2.1, this.2.2.1⟩
/-- HERLIHY, WING: of a history that has a right order each begin has one. -/
theorem front_rite {ts : List Int} {l : List Ev} {n : Nat} (hn : n ≤ l.length) (h0 : (callsOf ts l).2.2 = 0) {ws : List (Int × Int)} (h : Rite ts (callsOf ts l).1 ws) :
    (callsOf ts (l.take n)).2.2 = 0 ∧ (callsOf ts (l.take n)).1.length ≤ (callsOf ts l).1.length ∧ ∃ ws', Rite ts (callsOf ts (l.take n)).1 ws' := by
  obtain ⟨e1, e2⟩ := calls_run (ts := ts) (l := l) (by omega) (by omega) n
  rw [e1] at h0 h ⊢
  rw [e2]
  obtain ⟨h1, hg⟩ := front_ok hn h0
  have ht := run_tidy (ts := ts) (l.take n) 0 [] (fun c hc => by simp at hc) h1
  rw [List.length_take, Nat.zero_add, Nat.min_eq_left hn] at ht
  exact ⟨h1, hg.len, grow_rite hg ht h⟩
end Go.Proofs.YtecpjeililiafaaDoor
