/-
  Joined by a program out of: QueFore, QueCore.
-/
import Derived.Test.YthjmncngegchjaaGreatDoorMgAR
import Derived.Test.YthjmncngegchjaaGreatDoorProg
import Derived.WalkKit

/-
  Plain: a right order of a queue shows that nothing can't be.
-/
namespace Go.Proofs.YthjmncngegchjaaGreatDoor
open Go.RowKit
set_option maxRecDepth 20000

section
variable {n : Nat} {cs : List Cl}
theorem aheadQ_iff {i j : Nat} : aheadB cs i j = true ↔ (cs.getD i default).til ≠ -1 ∧ (cs.getD i default).til < (cs.getD j default).frm := by
  unfold aheadB
  rw [decide_eq_true_iff]
theorem QueH.fore (h : QueH n cs) (hl : cs.length ≤ 50) {ws : List (Int × Int)} (hr : RiteP [2] cs (aheadB cs) ws) : ¬ StrayQ cs ∧ ¬ TwiceQ cs ∧ ¬ EarlyQ cs ∧ ¬ OrdQ cs ∧ ¬ EmptyQ cs := by
  have hat : ∀ x ∈ ws, atC cs x ∈ cs := fun x hx => by
    have := hr.rng x hx
    exact List.mem_of_getElem? (getD_some (by omega))
  have hwl : ws.length ≤ 50 := by
    have h2 := nodup_lt cs.length hr.once fun k hk => by
      obtain ⟨y, hy, rfl⟩ := List.mem_map.1 hk
      exact hr.rng y hy
    rw [List.length_map] at h2
    omega
  have hqd : ∀ l : List (Int × Int), (∀ x ∈ l, x ∈ ws) → ∀ d ∈ l.map (ddC cs), QueD d := by
    intro l hl d hd
    obtain ⟨x, hx, rfl⟩ := List.mem_map.1 hd
    rcases h.kind (hat x (hl x hx)) with k | k
    · exact .inl ⟨k.1, k.2.1, k.2.2.1⟩
    · exact .inr ⟨k.1, k.2.1⟩
  have hrun : queB [] (ws.map (ddC cs)) = true := by
    have h1 := hr.goes 0 (by decide)
    have h2 : ownD cs 0 ws = ws.map (ddC cs) := by
      unfold ownD
      rw [List.filter_eq_self.2 fun x hx => by rw [beq_iff_eq, h.thing (hat x hx)]; rfl]
    rw [h2] at h1
    have h3 : goesB 2 [] (ws.map (ddC cs)) = true := h1
    rwa [que_goes _ _ (by simp) (by simp; omega) (hqd ws fun x hx => hx)] at h3
  -- what is there ahead of a step
  have hst : ∀ A y B, ws = A ++ y :: B → ∃ st, enqs (A.map (ddC cs)) = deqs (A.map (ddC cs)) ++ st ∧ ((atC cs y).kind ≠ 3 → (y.2 = -1 ∧ st = []) ∨ (y.2 ≠ -1 ∧ ∃ t, st = y.2 :: t)) := by
    intro A y B e
    rw [e, List.map_append, List.map_cons] at hrun
    obtain ⟨st, h1, _, h3⟩ := que_at _ _ _ _ hrun (by simp) (hqd A fun x hx => by rw [e]; exact List.mem_append_left _ hx)
    exact ⟨st, by simpa using h1, h3⟩
  have hge : ∀ c ∈ cs, ∃ i, i < cs.length ∧ cs.getD i default = c := fun c hc => by
    obtain ⟨i, hi, rfl⟩ := List.getElem_of_mem hc
    exact ⟨i, hi, by rw [List.getD_eq_getElem?_getD, List.getElem?_eq_getElem hi]; rfl⟩
  have hac : ∀ (y : Int × Int) (i : Nat), y.1 = (i : Int) → atC cs y = cs.getD i default := fun y i e => by unfold atC; rw [e]; rfl
  -- an answered call stands there
  have hidx : ∀ i, i < cs.length → (cs.getD i default).til ≠ -1 → ∃ A y B, ws = A ++ y :: B ∧ y.1 = (i : Int) ∧ y.2 = (cs.getD i default).res := by
    intro i hi hti
    obtain ⟨y, hy, e⟩ := List.mem_map.1 (hr.all i hi hti)
    obtain ⟨A, B, e2⟩ := List.append_of_mem hy
    refine ⟨A, y, B, e2, e, ?_⟩
    rw [← hr.res y hy (by rw [hac y i e]; exact hti), hac y i e]
  have hndE : (enqs (ws.map (ddC cs))).Nodup := by
    unfold enqs List.Nodup
    rw [List.pairwise_map]
    have h2 := hr.once
    unfold List.Nodup at h2
    rw [List.pairwise_map] at h2
    have h3 : (ws.map (ddC cs)).Pairwise fun a b => a.kind = 3 → b.kind = 3 → a.arg ≠ b.arg := by
      rw [List.pairwise_map]
      refine h2.imp_of_mem fun {a b} ha hb hne k1 k2 he => hne ?_
      have r1 := hr.rng a ha
      have r2 := hr.rng b hb
      have := h.once a.1.toNat b.1.toNat _ _ (getD_some (by omega)) (getD_some (by omega)) k1 k2 he
      omega
    refine (h3.filter fun d => d.kind == 3).imp_of_mem fun {a b} ha hb hh => ?_
    rw [List.mem_filter, beq_iff_eq] at ha hb
    exact hh ha.2 hb.2
  have hndA : ∀ A B, ws = A ++ B → (enqs (A.map (ddC cs))).Nodup := fun A B e => by
    rw [e, List.map_append, enqs_append] at hndE
    exact (List.nodup_append.1 hndE).1
  -- one step stands but once
  have huniq : ∀ A y B A' y' B', ws = A ++ y :: B → ws = A' ++ y' :: B' → y.1 = y'.1 → A = A' := by
    intro A y B A' y' B' e e' he
    have h1 : ws.map (·.1) = A.map (·.1) ++ y.1 :: B.map (·.1) := by rw [e]; simp
    have h2 : ws.map (·.1) = A'.map (·.1) ++ y.1 :: B'.map (·.1) := by rw [e', he]; simp
    have h3 := split_uniq (h1.symm.trans h2) (by rw [← h1]; exact hr.once)
    have h4 : A.length = A'.length := by have := congrArg List.length h3; simpa using this
    have h5 : A = ws.take A.length := by rw [e]; simp
    have h6 : A' = ws.take A'.length := by rw [e']; simp
    rw [h5, h6, h4]
  have hmemE : ∀ (A : List (Int × Int)) (v : Int), (∀ x ∈ A, x ∈ ws) → v ∈ enqs (A.map (ddC cs)) → ∃ y ∈ A, ∃ j, j < cs.length ∧ y.1 = (j : Int) ∧ isE v (cs.getD j default) = true := by
    intro A v hA hv
    obtain ⟨d, hd, h1, h2⟩ := mem_enqs.1 hv
    obtain ⟨y, hy, rfl⟩ := List.mem_map.1 hd
    have := hr.rng y (hA y hy)
    exact ⟨y, hy, y.1.toNat, by omega, by omega, isE_iff.2 ⟨h1, h2⟩⟩
  have hmemD : ∀ (A : List (Int × Int)) (v : Int), (∀ x ∈ A, x ∈ ws) → v ∈ deqs (A.map (ddC cs)) → ∃ y ∈ A, ∃ j, j < cs.length ∧ y.1 = (j : Int) ∧ isD v (cs.getD j default) = true := by
    intro A v hA hv
    obtain ⟨d, hd, h1, h2, h3⟩ := mem_deqs.1 hv
    obtain ⟨y, hy, rfl⟩ := List.mem_map.1 hd
    have hrg := hr.rng y (hA y hy)
    have hk4 : (atC cs y).kind = 4 := by
      rcases h.kind (hat y (hA y hy)) with k | k
      · exact absurd k.1 h1
      · exact k.1
    refine ⟨y, hy, y.1.toNat, by omega, by omega, isD_iff.2 ⟨hk4, ?_⟩⟩
    show (atC cs y).res = v
    rw [hr.res y (hA y hy) (h.ans _ (hat y (hA y hy)) hk4)]
    exact h3
  -- what takes a value: its put stands ahead
  have htake : ∀ i, i < cs.length → (cs.getD i default).kind = 4 → (cs.getD i default).res ≠ -1 → ∃ A y B t, ws = A ++ y :: B ∧ y.1 = (i : Int) ∧ enqs (A.map (ddC cs)) = deqs (A.map (ddC cs)) ++ (cs.getD i default).res :: t := by
    intro i hi h4 hres
    obtain ⟨A, y, B, e, e1, e2⟩ := hidx i hi (h.ans _ (List.mem_of_getElem? (getD_some hi)) h4)
    obtain ⟨st, h1, h2⟩ := hst A y B e
    rcases h2 (by rw [hac y i e1]; omega) with h3 | ⟨_, t, h3⟩
    · rw [e2] at h3; exact absurd h3.1 hres
    · exact ⟨A, y, B, t, e, e1, by rw [h1, h3, e2]⟩
  have hsub : ∀ {A : List (Int × Int)} {B : List (Int × Int)}, ws = A ++ B → ∀ x ∈ A, x ∈ ws := fun e x hx => by rw [e]; exact List.mem_append_left _ hx
  have hahead : ∀ (i j : Nat), i < cs.length → j < cs.length → aheadB cs i j = true → ∀ A y B, ws = A ++ y :: B → y.1 = (j : Int) → (i : Int) ∈ A.map (·.1) := fun i j hi hj ha A y B e e1 => hr.ord i j hi hj ha A y B e e1
  -- two steps, one of which stands ahead of the other one
  have hnot : ∀ (A : List (Int × Int)) (y : Int × Int) (B : List (Int × Int)), ws = A ++ y :: B → ∀ z ∈ A, ∀ i j : Nat, i < cs.length → j < cs.length → y.1 = (i : Int) → z.1 = (j : Int) → aheadB cs i j = false := by
    intro A y B e z hz i j hi hj ey ez
    rw [Bool.eq_false_iff]
    intro ha
    obtain ⟨A1, A2, e2⟩ := List.append_of_mem hz
    have h1 := hahead i j hi hj ha A1 z (A2 ++ y :: B) (by rw [e, e2]; simp) ez
    obtain ⟨u, hu, e3⟩ := List.mem_map.1 h1
    have h2 := hr.once
    rw [e, e2] at h2
    simp only [List.map_append, List.map_cons, List.append_assoc, List.cons_append] at h2
    have h3 := (List.nodup_append.1 h2).2.2 u.1 (List.mem_map.2 ⟨u, hu, rfl⟩) y.1 (by simp)
    exact h3 (by omega)
  refine ⟨?_, ?_, ?_, ?_, ?_⟩
  · rintro ⟨x, hx, k1, k2, k3⟩
    obtain ⟨i, hi, rfl⟩ := hge x hx
    obtain ⟨A, y, B, t, e, e1, e2⟩ := htake i hi k1 k2
    obtain ⟨z, _, j, hj, _, hz⟩ := hmemE A (cs.getD i default).res (hsub e) (by rw [e2]; simp)
    rw [k3 _ (List.mem_of_getElem? (getD_some hj))] at hz
    cases hz
  · rintro ⟨i, j, c, d, hij, hc, hd, k1, k2, k3, k4⟩
    have hi := (List.getElem?_eq_some_iff.1 hc).1
    have hj := (List.getElem?_eq_some_iff.1 hd).1
    have ec : cs.getD i default = c := by rw [List.getD_eq_getElem?_getD, hc]; rfl
    have ed : cs.getD j default = d := by rw [List.getD_eq_getElem?_getD, hd]; rfl
    -- whichever stands behind finds the value twice
    have key : ∀ i j : Nat, i < cs.length → j < cs.length → (cs.getD i default).kind = 4 → (cs.getD j default).kind = 4 → (cs.getD i default).res ≠ -1 → (cs.getD j default).res = (cs.getD i default).res → ∀ A y B, ws = A ++ y :: B → y.1 = (i : Int) → (j : Int) ∈ A.map (·.1) → False := by
      intro i j hi hj k1 k2 k3 k4 A y B e e1 hjA
      obtain ⟨A', y', B', t, e', e1', e2⟩ := htake i hi k1 k3
      obtain rfl := huniq A y B A' y' B' e e' (by rw [e1, e1'])
      obtain ⟨z, hz, e3⟩ := List.mem_map.1 hjA
      have hzj := hac z j e3
      have hzr : z.2 = (cs.getD i default).res := by
        have := hr.res z (hsub e z hz) (by rw [hzj]; exact h.ans _ (List.mem_of_getElem? (getD_some hj)) k2)
        rw [← this, hzj, k4]
      have hd : (cs.getD i default).res ∈ deqs (A.map (ddC cs)) := mem_deqs.2 ⟨_, List.mem_map.2 ⟨z, hz, rfl⟩, (by show (atC cs z).kind ≠ 3; rw [hzj]; omega), (by show z.2 ≠ -1; omega), hzr⟩
      have hn := hndA A _ e
      rw [e2] at hn
      exact (List.nodup_append.1 hn).2.2 _ hd _ List.mem_cons_self rfl
    obtain ⟨A, y, B, e, e1, _⟩ := hidx i hi (by rw [ec]; exact h.ans _ (List.mem_of_getElem? hc) k1)
    obtain ⟨A', y', B', e', e1', _⟩ := hidx j hj (by rw [ed]; exact h.ans _ (List.mem_of_getElem? hd) k2)
    have hjw : y' ∈ A ++ y :: B := by rw [← e, e']; simp
    rcases List.mem_append.1 hjw with hA | hB
    · exact key i j hi hj (by rw [ec]; exact k1) (by rw [ed]; exact k2) (by rw [ec, k3]; exact k4) (by rw [ec, ed]; exact k3.symm) A y B e e1 (List.mem_map.2 ⟨y', hA, e1'⟩)
    · rcases List.mem_cons.1 hB with rfl | hB
      · omega
      · obtain ⟨B1, B2, e3⟩ := List.append_of_mem hB
        have e4 : ws = (A ++ y :: B1) ++ y' :: B2 := by rw [e, e3]; simp
        exact key j i hj hi (by rw [ed]; exact k2) (by rw [ec]; exact k1) (by rw [ed]; exact k4) (by rw [ec, ed]; exact k3) _ y' B2 e4 e1' (List.mem_map.2 ⟨y, by simp, e1⟩)
  · rintro ⟨x, hx, k1, d, hd, k2, k3⟩
    obtain ⟨i, hi, rfl⟩ := hge x hx
    obtain ⟨j, hj, rfl⟩ := hge d hd
    have hv := h.val hd k2
    obtain ⟨A, y, B, t, e, e1, e2⟩ := htake i hi k1 (by omega)
    obtain ⟨z, hz, m, hm, e3, e4⟩ := hmemE A (cs.getD i default).res (hsub e) (by rw [e2]; simp)
    have : j = m := h.once j m _ _ (getD_some hj) (getD_some hm) (isE_iff.1 k2).1 (isE_iff.1 e4).1 ((isE_iff.1 k2).2.trans (isE_iff.1 e4).2.symm)
    subst this
    have := hnot A y B e z hz i j hi hj e1 e3
    rw [aheadQ_iff.2 ⟨h.ans _ hx k1, k3⟩] at this
    cases this
  · rintro ⟨a, b, ea, hea, eb, heb, tb, htb, k1, k2, k3, k4, k5, k6⟩
    obtain ⟨ia, hia, rfl⟩ := hge ea hea
    obtain ⟨ib, hib, rfl⟩ := hge eb heb
    obtain ⟨it, hit, rfl⟩ := hge tb htb
    have hvb := h.val heb k2
    have hva := h.val hea k1
    obtain ⟨k7, k8⟩ := isD_iff.1 k3
    obtain ⟨A, y, B, t, e, e1, e2⟩ := htake it hit k7 (by omega)
    rw [k8] at e2
    obtain ⟨z, hz, m, hm, e3, e4⟩ := hmemE A b (hsub e) (by rw [e2]; simp)
    have : ib = m := h.once ib m _ _ (getD_some hib) (getD_some hm) (isE_iff.1 k2).1 (isE_iff.1 e4).1 ((isE_iff.1 k2).2.trans (isE_iff.1 e4).2.symm)
    subst this
    obtain ⟨A1, A2, e5⟩ := List.append_of_mem hz
    have h1 := hahead ia ib hia hib (aheadQ_iff.2 ⟨k4, k5⟩) A1 z (A2 ++ y :: B) (by rw [e, e5]; simp) e3
    obtain ⟨u, hu, e6⟩ := List.mem_map.1 h1
    have hE : enqs (A.map (ddC cs)) = enqs (A1.map (ddC cs)) ++ b :: enqs (A2.map (ddC cs)) := by
      rw [e5, List.map_append, List.map_cons, enqs_append]
      congr 1
      unfold enqs
      have hzk := isE_iff.1 k2
      rw [List.filter_cons, if_pos (by rw [beq_iff_eq]; show (atC cs z).kind = 3; rw [hac z ib e3]; exact hzk.1), List.map_cons]
      congr 1
      show (atC cs z).arg = b
      rw [hac z ib e3]
      exact hzk.2
    have hnA := hndA A _ e
    have h2 : enqs (A1.map (ddC cs)) = deqs (A.map (ddC cs)) := split_uniq (hE.symm.trans e2) (by rw [← hE]; exact hnA)
    have hau : a ∈ enqs (A1.map (ddC cs)) := by
      have huk := isE_iff.1 k1
      exact mem_enqs.2 ⟨_, List.mem_map.2 ⟨u, hu, rfl⟩, (by show (atC cs u).kind = 3; rw [hac u ia e6]; exact huk.1), (by show (atC cs u).arg = a; rw [hac u ia e6]; exact huk.2)⟩
    rw [h2] at hau
    obtain ⟨q, hq, j, hj, e7, e8⟩ := hmemD A a (hsub e) hau
    have := hnot A y B e q hq it j hit hj e1 e7
    rw [aheadQ_iff.2 ⟨h.ans _ htb k7, k6 _ (List.mem_of_getElem? (getD_some hj)) e8⟩] at this
    cases this
  · rintro ⟨x, hx, k1, k2, k3⟩
    obtain ⟨i, hi, rfl⟩ := hge x hx
    have hxt := h.ans _ hx k1
    obtain ⟨A, y, B, e, e1, e2⟩ := hidx i hi hxt
    obtain ⟨st, h1, h2⟩ := hst A y B e
    have hemp : enqs (A.map (ddC cs)) = deqs (A.map (ddC cs)) := by
      rcases h2 (by rw [hac y i e1]; omega) with ⟨_, h3⟩ | ⟨h3, _⟩
      · rw [h1, h3, List.append_nil]
      · rw [e2] at h3; exact absurd k2 h3
    have hfx := h.frm hx
    -- from a time at which one is there that was put ahead: a later one
    have key : ∀ m : Nat, ∀ k : Int, (cs.getD i default).frm ≤ k → k < (cs.getD i default).til → (cs.getD i default).til - k ≤ m → ∀ j, j < cs.length → (cs.getD j default).kind = 3 → (∀ t ∈ cs, isD (cs.getD j default).arg t = true → k < t.frm) → (j : Int) ∈ A.map (·.1) → False := by
      intro m
      induction m with
      | zero => intro k _ _ _; omega
      | succ m ih =>
        intro k hk1 hk2 hm j hj hk3 hcov hjA
        obtain ⟨u, hu, e3⟩ := List.mem_map.1 hjA
        have hv : (cs.getD j default).arg ∈ enqs (A.map (ddC cs)) := mem_enqs.2 ⟨_, List.mem_map.2 ⟨u, hu, rfl⟩, (by show (atC cs u).kind = 3; rw [hac u j e3]; exact hk3), (by show (atC cs u).arg = _; rw [hac u j e3])⟩
        rw [hemp] at hv
        obtain ⟨q, hq, l, hll, e4, e5⟩ := hmemD A _ (hsub e) hv
        have htm := List.mem_of_getElem? (getD_some hll)
        have h3 := hcov _ htm e5
        have h4 := hnot A y B e q hq i l hi hll e1 e4
        have h5 : ¬ (cs.getD i default).til < (cs.getD l default).frm := fun hlt => by
          rw [aheadQ_iff.2 ⟨hxt, hlt⟩] at h4
          cases h4
        have h6 := h.apart _ hx _ htm
        obtain ⟨e', he', f1, f2, f3, f4⟩ := k3 (cs.getD l default).frm (by omega) (by omega)
        obtain ⟨p, hp, rfl⟩ := hge e' he'
        have h7 := h.apart _ he' _ htm
        obtain ⟨Q1, Q2, e6⟩ := List.append_of_mem hq
        have h8 := hahead p l hp hll (aheadQ_iff.2 ⟨f2, by omega⟩) Q1 q (Q2 ++ y :: B) (by rw [e, e6]; simp) e4
        refine ih (cs.getD l default).frm (by omega) (by omega) (by omega) p hp f1 f4 ?_
        rw [e6, List.map_append]
        exact List.mem_append_left _ h8
    obtain ⟨e0, he0, f1, f2, f3, f4⟩ := k3 (cs.getD i default).frm (by omega) (by omega)
    obtain ⟨j, hj, rfl⟩ := hge e0 he0
    have h7 := h.apart _ he0 _ hx
    exact key ((cs.getD i default).til - (cs.getD i default).frm).toNat _ (by omega) (by omega) (by omega) j hj f1 f4 (hahead j i hj hi (aheadQ_iff.2 ⟨f2, by omega⟩) A y B e e1)
end
end Go.Proofs.YthjmncngegchjaaGreatDoor

/-
  Plain: items that are put and taken, each within its time: where no two are put in one order and taken in the other they stand in a row, each with a time at which it is put and one at which it is taken.
-/
namespace Go.Proofs.YthjmncngegchjaaGreatDoor
set_option maxRecDepth 20000
theorem least_of (f : Int → Int) : ∀ l : List Int, l ≠ [] → ∃ m ∈ l, ∀ x ∈ l, f m ≤ f x
  | [], h => absurd rfl h
  | [a], _ => ⟨a, List.mem_singleton.2 rfl, fun x hx => by rw [List.mem_singleton.1 hx]; exact Int.le_refl _⟩
  | a :: b :: r, _ => by
    obtain ⟨m, h1, h2⟩ := least_of f (b :: r) (by simp)
    by_cases h : f a ≤ f m
    · refine ⟨a, List.mem_cons_self, fun x hx => ?_⟩
      rcases List.mem_cons.1 hx with rfl | hx
      · omega
      · have := h2 x hx; omega
    · refine ⟨m, List.mem_cons_of_mem _ h1, fun x hx => ?_⟩
      rcases List.mem_cons.1 hx with rfl | hx
      · omega
      · exact h2 x hx
/-- What may stand first. -/
theorem front_of {el eh dl dh : Int → Int} {V : List Int} (hV : V ≠ []) (h1 : ∀ v ∈ V, el v ≤ eh v ∧ dl v ≤ dh v) (h2 : ∀ a ∈ V, ∀ b ∈ V, ¬ (eh a < el b ∧ dh b < dl a)) :
    ∃ m ∈ V, ∀ c ∈ V, ¬ eh c < el m ∧ ¬ dh c < dl m := by
  obtain ⟨m, hm, hmin⟩ := least_of eh V hV
  have hm0 := h1 m hm
  obtain ⟨b, hb, hbmin⟩ := least_of dl (V.filter fun x => decide (el x ≤ eh m)) (by
    intro e
    have : m ∈ V.filter fun x => decide (el x ≤ eh m) := List.mem_filter.2 ⟨hm, decide_eq_true hm0.1⟩
    rw [e] at this
    cases this)
  obtain ⟨hbV, hbm⟩ := List.mem_filter.1 hb
  rw [decide_eq_true_iff] at hbm
  refine ⟨b, hbV, fun c hc => ⟨?_, ?_⟩⟩
  · have := hmin c hc; omega
  · by_cases hcm : el c ≤ eh m
    · have h3 := hbmin c (List.mem_filter.2 ⟨hc, decide_eq_true hcm⟩)
      have h4 := h1 c hc
      omega
    · have h3 := hbmin m (List.mem_filter.2 ⟨hm, decide_eq_true hm0.1⟩)
      have h4 := h2 m hm c hc
      omega
/-- The row. -/
theorem row_of {el eh dl dh : Int → Int} : ∀ (n : Nat) (V : List Int), V.length = n → V.Nodup → (∀ v ∈ V, el v ≤ eh v ∧ dl v ≤ dh v) → (∀ a ∈ V, ∀ b ∈ V, ¬ (eh a < el b ∧ dh b < dl a)) →
    ∃ W : List Int, W.Perm V ∧ W.Pairwise fun a b => el a ≤ eh b ∧ dl a ≤ dh b
  | 0, V, hn, _, _, _ => ⟨[], by rw [List.eq_nil_of_length_eq_zero hn], List.Pairwise.nil⟩
  | n + 1, V, hn, hnd, h1, h2 => by
    obtain ⟨m, hm, hfront⟩ := front_of (V := V) (by intro e; rw [e] at hn; cases hn) h1 h2
    have hsub : ∀ x ∈ V.erase m, x ∈ V := fun x hx => List.mem_of_mem_erase hx
    obtain ⟨W, hp, hw⟩ := row_of n (V.erase m) (by rw [List.length_erase_of_mem hm, hn]; rfl) (hnd.erase m) (fun v hv => h1 v (hsub v hv)) (fun a ha b hb => h2 a (hsub a ha) b (hsub b hb))
    refine ⟨m :: W, (List.Perm.cons m hp).trans (List.perm_cons_erase hm).symm, List.pairwise_cons.2 ⟨fun b hb => ?_, hw⟩⟩
    have := hfront b (hsub b (hp.mem_iff.1 hb))
    omega
/-- Times along a row: none less than its own, each as early as may be. -/
theorem times_of (lo : Int → Int) : ∀ (W : List Int) (B : Int), W.Nodup → ∃ p : Int → Int, (∀ v ∈ W, B ≤ p v ∧ lo v ≤ p v) ∧ W.Pairwise (fun a b => p a ≤ p b) ∧
    ∀ hi : Int → Int, W.Pairwise (fun a b => lo a ≤ hi b) → (∀ v ∈ W, lo v ≤ hi v ∧ B ≤ hi v) → ∀ v ∈ W, p v ≤ hi v
  | [], _, _ => ⟨fun _ => 0, (fun v h => by cases h), List.Pairwise.nil, (fun _ _ _ v h => by cases h)⟩
  | v :: W, B, hnd => by
    obtain ⟨hv, hnd⟩ := List.nodup_cons.1 hnd
    obtain ⟨p, h1, h2, h3⟩ := times_of lo W (max B (lo v)) hnd
    have hne : ∀ u ∈ W, u ≠ v := fun u hu e => hv (e ▸ hu)
    obtain ⟨f, hf⟩ : ∃ f : Int → Int, ∀ u, f u = if u = v then max B (lo v) else p u := ⟨_, fun _ => rfl⟩
    refine ⟨f, fun u hu => ?_, List.pairwise_cons.2 ⟨fun u hu => ?_, ?_⟩, fun hi h4 h5 u hu => ?_⟩
    · rcases List.mem_cons.1 hu with rfl | hu
      · rw [hf, if_pos rfl]; omega
      · rw [hf, if_neg (hne u hu)]
        have := h1 u hu
        omega
    · rw [hf, hf, if_pos rfl, if_neg (hne u hu)]
      exact (h1 u hu).1
    · refine h2.imp_of_mem fun ha hb h => ?_
      rw [hf, hf, if_neg (hne _ ha), if_neg (hne _ hb)]
      exact h
    · obtain ⟨h6, h7⟩ := List.pairwise_cons.1 h4
      rcases List.mem_cons.1 hu with rfl | hu
      · rw [hf, if_pos rfl]
        have := h5 u List.mem_cons_self
        omega
      · rw [hf, if_neg (hne u hu)]
        refine h3 hi h7 (fun x hx => ?_) u hu
        have := h5 x (List.mem_cons_of_mem _ hx)
        have := h5 v List.mem_cons_self
        have := h6 x hx
        omega
def tauT (B e : Int) : List Int → Int
  | [] => B
  | t :: r => if t < e then max (t + 1) (tauT B e r) else tauT B e r
def sigT (C e : Int) : List Int → Int
  | [] => C
  | t :: r => if e < t then min (t - 1) (sigT C e r) else sigT C e r
theorem tauT_ge {B e : Int} : ∀ (T : List Int), B ≤ tauT B e T ∧ ∀ t ∈ T, t < e → t + 1 ≤ tauT B e T
  | [] => ⟨Int.le_refl _, fun t h => by cases h⟩
  | t :: r => by
    have ih := tauT_ge (B := B) (e := e) r
    rw [tauT]
    refine ⟨by split <;> omega, fun u hu hlt => ?_⟩
    rcases List.mem_cons.1 hu with rfl | hu
    · rw [if_pos hlt]; omega
    · have := ih.2 u hu hlt
      split <;> omega
theorem tauT_is {B e : Int} : ∀ (T : List Int), tauT B e T = B ∨ ∃ t ∈ T, t < e ∧ tauT B e T = t + 1
  | [] => .inl rfl
  | t :: r => by
    rw [tauT]
    have ih := tauT_is (B := B) (e := e) r
    by_cases h : t < e
    · rw [if_pos h]
      by_cases hm : tauT B e r ≤ t + 1
      · exact .inr ⟨t, List.mem_cons_self, h, by omega⟩
      · rw [show max (t + 1) (tauT B e r) = tauT B e r by omega]
        rcases ih with ih | ⟨u, h1, h2, h3⟩
        · exact .inl ih
        · exact .inr ⟨u, List.mem_cons_of_mem _ h1, h2, h3⟩
    · rw [if_neg h]
      rcases ih with ih | ⟨u, h1, h2, h3⟩
      · exact .inl ih
      · exact .inr ⟨u, List.mem_cons_of_mem _ h1, h2, h3⟩
theorem sigT_le {C e : Int} : ∀ (T : List Int), sigT C e T ≤ C ∧ ∀ t ∈ T, e < t → sigT C e T ≤ t - 1
  | [] => ⟨Int.le_refl _, fun t h => by cases h⟩
  | t :: r => by
    have ih := sigT_le (C := C) (e := e) r
    rw [sigT]
    refine ⟨by split <;> omega, fun u hu hlt => ?_⟩
    rcases List.mem_cons.1 hu with rfl | hu
    · rw [if_pos hlt]; omega
    · have := ih.2 u hu hlt
      split <;> omega
theorem sigT_is {C e : Int} : ∀ (T : List Int), sigT C e T = C ∨ ∃ t ∈ T, e < t ∧ sigT C e T = t - 1
  | [] => .inl rfl
  | t :: r => by
    rw [sigT]
    have ih := sigT_is (C := C) (e := e) r
    by_cases h : e < t
    · rw [if_pos h]
      by_cases hm : t - 1 ≤ sigT C e r
      · exact .inr ⟨t, List.mem_cons_self, h, by omega⟩
      · rw [show min (t - 1) (sigT C e r) = sigT C e r by omega]
        rcases ih with ih | ⟨u, h1, h2, h3⟩
        · exact .inl ih
        · exact .inr ⟨u, List.mem_cons_of_mem _ h1, h2, h3⟩
    · rw [if_neg h]
      rcases ih with ih | ⟨u, h1, h2, h3⟩
      · exact .inl ih
      · exact .inr ⟨u, List.mem_cons_of_mem _ h1, h2, h3⟩
/-- **Where no two are put in one order and taken in the other, and each time of T is behind what is taken or ahead of what is put, or can be made so, there is a row of all, with times.** -/
theorem que_times {el eh dl dh : Int → Int} {V T : List Int} {B C : Int} (hnd : V.Nodup)
    (h1 : ∀ v ∈ V, el v ≤ eh v ∧ dl v ≤ dh v ∧ el v ≤ dl v ∧ eh v ≤ dh v ∧ B ≤ el v ∧ dh v ≤ C) (h2 : ∀ a ∈ V, ∀ b ∈ V, ¬ (eh a < el b ∧ dh b < dl a))
    (h3 : ∀ v ∈ V, ∀ t ∈ T, t < eh v ∨ (eh v < t ∧ dl v < t)) :
    ∃ (W : List Int) (p q : Int → Int), W.Perm V ∧ (∀ v ∈ V, el v ≤ p v ∧ p v ≤ eh v ∧ dl v ≤ q v ∧ q v ≤ dh v ∧ p v ≤ q v) ∧ W.Pairwise (fun a b => p a ≤ p b ∧ q a ≤ q b) ∧
      ∀ v ∈ V, ∀ t ∈ T, t < p v ∨ q v < t := by
  obtain ⟨tau, htau⟩ : ∃ f : Int → Int, ∀ v, f v = tauT B (eh v) T := ⟨_, fun _ => rfl⟩
  obtain ⟨sig, hsig⟩ : ∃ f : Int → Int, ∀ v, f v = sigT C (eh v) T := ⟨_, fun _ => rfl⟩
  have k1 : ∀ v, ∀ t ∈ T, t < eh v → t + 1 ≤ tau v := fun v t ht h => by rw [htau]; exact (tauT_ge T).2 t ht h
  have k2 : ∀ v, tau v = B ∨ ∃ t ∈ T, t < eh v ∧ tau v = t + 1 := fun v => by rw [htau]; exact tauT_is T
  have k3 : ∀ v, ∀ t ∈ T, eh v < t → sig v ≤ t - 1 := fun v t ht h => by rw [hsig]; exact (sigT_le T).2 t ht h
  have k4 : ∀ v, sig v = C ∨ ∃ t ∈ T, eh v < t ∧ sig v = t - 1 := fun v => by rw [hsig]; exact sigT_is T
  -- what is put earlier has its bounds earlier
  have mono : ∀ a b, eh a ≤ eh b → tau a ≤ tau b ∧ sig a ≤ sig b := by
    intro a b hab
    have hB : B ≤ tau b := by rw [htau]; exact (tauT_ge T).1
    have hC : sig a ≤ C := by rw [hsig]; exact (sigT_le T).1
    constructor
    · rcases k2 a with h | ⟨t, h4, h5, h6⟩
      · omega
      · have := k1 b t h4 (by omega); omega
    · rcases k4 b with h | ⟨t, h4, h5, h6⟩
      · omega
      · have := k3 a t h4 (by omega); omega
  have own : ∀ v ∈ V, tau v ≤ eh v ∧ eh v ≤ sig v ∧ dl v ≤ sig v ∧ tau v ≤ sig v := by
    intro v hv
    have h := h1 v hv
    have a1 : tau v ≤ eh v := by
      rcases k2 v with h | ⟨t, h4, h5, h6⟩ <;> omega
    have a2 : eh v ≤ sig v ∧ dl v ≤ sig v := by
      rcases k4 v with h | ⟨t, h4, h5, h6⟩
      · omega
      · have := h3 v hv t h4
        omega
    omega
  have hc1 : ∀ v ∈ V, max (el v) (tau v) ≤ eh v ∧ max (dl v) (tau v) ≤ min (dh v) (sig v) := by
    intro v hv
    have := h1 v hv
    have := own v hv
    omega
  have hc2 : ∀ a ∈ V, ∀ b ∈ V, ¬ (eh a < max (el b) (tau b) ∧ min (dh b) (sig b) < max (dl a) (tau a)) := by
    rintro a ha b hb ⟨g1, g2⟩
    have ea := h1 a ha
    have eb := h1 b hb
    have oa := own a ha
    have ob := own b hb
    have hab := h2 a ha b hb
    by_cases g3 : eh a < tau b
    · -- a time between
      rcases k2 b with h | ⟨t, h4, h5, h6⟩
      · omega
      · have := h3 a ha t h4
        by_cases g4 : eh a < t
        · have := k3 a t h4 g4
          omega
        · have h7 : t < eh a := by omega
          omega
    · have g4 : eh a < el b := by omega
      have := mono a b (by omega)
      omega
  obtain ⟨W, hp, hw⟩ := row_of (el := fun v => max (el v) (tau v)) (eh := eh) (dl := fun v => max (dl v) (tau v)) (dh := fun v => min (dh v) (sig v)) V.length V rfl hnd hc1 hc2
  have hmem : ∀ v, v ∈ W ↔ v ∈ V := fun v => hp.mem_iff
  have hndW : W.Nodup := hp.nodup_iff.2 hnd
  obtain ⟨p, p1, p2, p3⟩ := times_of (fun v => max (el v) (tau v)) W B hndW
  obtain ⟨q, q1, q2, q3⟩ := times_of (fun v => max (dl v) (tau v)) W B hndW
  have pe : ∀ v ∈ W, p v ≤ eh v := p3 eh (hw.imp fun h => h.1) fun v hv => by
    have := hc1 v ((hmem v).1 hv)
    have := h1 v ((hmem v).1 hv)
    omega
  have qe : ∀ v ∈ W, q v ≤ min (dh v) (sig v) := q3 (fun v => min (dh v) (sig v)) (hw.imp fun h => h.2) fun v hv => by
    have := hc1 v ((hmem v).1 hv)
    have := h1 v ((hmem v).1 hv)
    omega
  have pq : ∀ v ∈ W, p v ≤ q v := by
    refine p3 q (q2.imp_of_mem fun {a b} ha hb h => ?_) fun v hv => ?_
    · have := q1 a ha
      have := h1 a ((hmem a).1 ha)
      omega
    · have := q1 v hv
      have := h1 v ((hmem v).1 hv)
      omega
  refine ⟨W, p, q, hp, fun v hv => ?_, p2.and q2, fun v hv t ht => ?_⟩
  · have hv' := (hmem v).2 hv
    have := p1 v hv'
    have := q1 v hv'
    have := pe v hv'
    have := qe v hv'
    have := pq v hv'
    omega
  · have hv' := (hmem v).2 hv
    have a1 := (p1 v hv').2
    have a2 := qe v hv'
    rcases h3 v hv t ht with h | ⟨h, _⟩
    · have := k1 v t ht h
      omega
    · have := k3 v t ht h
      omega
end Go.Proofs.YthjmncngegchjaaGreatDoor
