/-
  Plain mathematics: what comes of a step may be; steps of a set change places.
-/
import Derived.Test.YtebcnhnkpmbgdaaObjStep
namespace Go.Proofs.Ytebcnhnkpmbgdaa
open Go.RowKit
set_option maxRecDepth 20000

theorem stepO_bad {typ : Int} {s : List Int} {kind arg : Int} (h : (stepO typ s kind arg).2.2 ≠ 0) : (stepO typ s kind arg).1 = [] ∧ (stepO typ s kind arg).2.1 = 0 := by
  unfold stepO at h ⊢
  by_cases h1 : stateE typ s ≠ 0
  · rw [if_pos h1]
    exact ⟨rfl, rfl⟩
  · rw [if_neg h1] at h ⊢
    by_cases h2 : (fitsB typ kind && takesB kind arg) = false
    · rw [if_pos h2]
      exact ⟨rfl, rfl⟩
    · rw [if_neg h2] at h ⊢
      have e : (stepped s kind arg).2.2 = 2 := by
        unfold stepped at h ⊢
        repeat' split at h
        all_goals (first | (exact absurd rfl h) | (simp_all))
      rw [stepped_err e]
      exact ⟨rfl, rfl⟩
/-- A step that is done: at a state that may be, by a kind that belongs to the type. -/
theorem stepO_of {typ : Int} {s : List Int} {kind arg : Int} (h : (stepO typ s kind arg).2.2 = 0) : stateE typ s = 0 ∧ (fitsB typ kind && takesB kind arg) = true ∧ stepO typ s kind arg = stepped s kind arg := by
  unfold stepO at h ⊢
  by_cases h1 : stateE typ s ≠ 0
  · rw [if_pos h1] at h
    exact absurd h h1
  · rw [if_neg h1] at h ⊢
    by_cases h2 : (fitsB typ kind && takesB kind arg) = false
    · rw [if_pos h2] at h
      exact absurd h (by decide)
    · rw [if_neg h2]
      exact ⟨by simpa using h1, by simpa using h2, rfl⟩
theorem valid_ins {typ : Int} {s : List Int} {p : Nat} {x : Int} (h1 : oneB typ = false) (hv : validB typ s = true) (hx : 1 ≤ x ∧ x ≤ 1000) (hs : typ = 4 → (insAt s p x).Pairwise (· < ·)) : validB typ (insAt s p x) = true :=
  (valid_row h1).2 ⟨fun y hy => (insAt_mem.1 hy).elim (fun e => by rw [e]; exact hx) fun hy => ((valid_row h1).1 hv).1 y hy, hs⟩
theorem valid_del {typ : Int} {s : List Int} {p : Nat} (h1 : oneB typ = false) (hv : validB typ s = true) : validB typ (delAt s p) = true :=
  (valid_row h1).2 ⟨fun y hy => ((valid_row h1).1 hv).1 y (delAt_sub hy), fun h4 => del_sorted (((valid_row h1).1 hv).2 h4) p⟩
theorem takes_val {kind arg : Int} (h : takesB kind arg = true) (hk : kind = 1 ∨ kind = 3 ∨ kind = 5 ∨ kind = 7 ∨ kind = 8 ∨ kind = 9) : 1 ≤ arg ∧ arg ≤ 1000 := by
  unfold takesB at h
  rw [if_pos hk] at h
  exact btw_iff.1 h

/-- What is known of a step's outcome: the error, or a state that may be. -/
def StepOk (typ : Int) (s : List Int) (kind : Int) (o : List Int × Int × Int) : Prop :=
  o.2.2 = 0 → validB typ o.1 = true ∧ o.1.length ≤ 50 ∧ o.1.length ≤ s.length + 1 ∧ s.length ≤ o.1.length + 1 ∧ (kind = 2 ∨ kind = 9 → o.1 = s)

theorem stepped_ok {typ : Int} {s : List Int} {kind arg : Int} (ht : 1 ≤ typ ∧ typ ≤ 5) (hn : s.length ≤ 50) (hv : validB typ s = true) (hf : fitsB typ kind = true) (hk : takesB kind arg = true) : StepOk typ s kind (stepped s kind arg) := by
  obtain ⟨k1, k2, k3, k4, k5⟩ := fits_ways hf
  have keep : ∀ r, StepOk typ s kind (s, r, 0) := fun r _ => ⟨hv, hn, by simp, by simp, fun _ => rfl⟩
  have err : StepOk typ s kind ([], 0, 2) := fun h => absurd h (by decide)
  have ty : typ = 1 ∨ typ = 2 ∨ typ = 3 ∨ typ = 4 ∨ typ = 5 := by omega
  have ins : ∀ p r, oneB typ = false → p ≤ s.length → s.length ≠ 50 → (kind = 1 ∨ kind = 3 ∨ kind = 5 ∨ kind = 7 ∨ kind = 8) → (typ = 4 → (insAt s p arg).Pairwise (· < ·)) → StepOk typ s kind (insAt s p arg, r, 0) := fun p r h1 hp h50 hk' hs _ => by
    have hl := insAt_len s arg hp
    exact ⟨valid_ins h1 hv (takes_val hk (by omega)) hs, by simp only; omega, by simp only; omega, by simp only; omega, fun h => by omega⟩
  have del : ∀ p r, oneB typ = false → p < s.length → (kind = 4 ∨ kind = 6 ∨ kind = 8) → StepOk typ s kind (delAt s p, r, 0) := fun p r h1 hp hk' _ => by
    have hl := delAt_len s hp
    exact ⟨valid_del h1 hv, by simp only; omega, by simp only; omega, by simp only; omega, fun h => by omega⟩
  rcases ty with rfl | rfl | rfl | rfl | rfl
  · obtain ⟨h1, h2, h3⟩ := (valid_one rfl).1 hv
    rcases k1 rfl with rfl | rfl
    · intro _
      have := takes_val hk (by omega)
      exact ⟨(valid_one rfl).2 ⟨rfl, by show 0 ≤ arg; omega, by show arg ≤ 1000; omega⟩, by show 1 ≤ 50; omega, by show 1 ≤ _; omega, by show _ ≤ 1 + 1; omega, fun h => by omega⟩
    · exact keep _
  · rcases k2 rfl with rfl | rfl
    · have e : stepped s 3 arg = if s.length = 50 then ([], 0, 2) else (insAt s s.length arg, 0, 0) := rfl
      rw [e]
      split
      · exact err
      · exact ins _ _ rfl (Nat.le_refl _) (by assumption) (by omega) (fun h => by omega)
    · have e : stepped s 4 arg = if s.length = 0 then (s, -1, 0) else (delAt s 0, s.getD 0 0, 0) := rfl
      rw [e]
      split
      · exact keep _
      · exact del _ _ rfl (by omega) (by omega)
  · rcases k3 rfl with rfl | rfl
    · have e : stepped s 5 arg = if s.length = 50 then ([], 0, 2) else (insAt s s.length arg, 0, 0) := rfl
      rw [e]
      split
      · exact err
      · exact ins _ _ rfl (Nat.le_refl _) (by assumption) (by omega) (fun h => by omega)
    · have e : stepped s 6 arg = if s.length = 0 then (s, -1, 0) else (delAt s (s.length - 1), s.getD (s.length - 1) 0, 0) := rfl
      rw [e]
      split
      · exact keep _
      · exact del _ _ rfl (by omega) (by omega)
  · have hs := ((valid_row rfl).1 hv).2 rfl
    rcases k4 rfl with rfl | rfl | rfl
    · have e : stepped s 7 arg = if arg ∈ s then (s, 0, 0) else if s.length = 50 then ([], 0, 2) else (insAt s (lessN s arg) arg, 1, 0) := rfl
      rw [e]
      split
      · exact keep _
      · split
        · exact err
        · exact ins _ _ rfl (lessN_le _ _) (by assumption) (by omega) (fun _ => ins_sorted hs (by assumption))
    · have e : stepped s 8 arg = if arg ∈ s then (delAt s (lessN s arg), 1, 0) else (s, 0, 0) := rfl
      rw [e]
      split
      · exact del _ _ rfl (less_at hs (by assumption)).1 (by omega)
      · exact keep _
    · exact keep _
  · obtain ⟨h1, h2, h3⟩ := (valid_one rfl).1 hv
    rw [k5 rfl]
    have e : stepped s 10 arg = if s.getD 0 0 = 1000 then ([], 0, 2) else ([s.getD 0 0 + 1], s.getD 0 0, 0) := rfl
    rw [e]
    split
    · exact fun h => absurd h (by decide)
    · intro _
      exact ⟨(valid_one rfl).2 ⟨rfl, by show 0 ≤ s.getD 0 0 + 1; omega, by show s.getD 0 0 + 1 ≤ 1000; omega⟩, by show 1 ≤ 50; omega, by show 1 ≤ _; omega, by show _ ≤ 1 + 1; omega, fun h => by omega⟩
theorem stepO_ok {typ : Int} {s : List Int} {kind arg : Int} (h : (stepO typ s kind arg).2.2 = 0) : stateE typ (stepO typ s kind arg).1 = 0 ∧ (stepO typ s kind arg).1.length ≤ s.length + 1 ∧ s.length ≤ (stepO typ s kind arg).1.length + 1 ∧ (kind = 2 ∨ kind = 9 → (stepO typ s kind arg).1 = s) := by
  obtain ⟨he, hi, e⟩ := stepO_of h
  obtain ⟨ht, hn, hv⟩ := stateE_ok.1 he
  obtain ⟨hf, hk⟩ := Bool.and_eq_true_iff.1 hi
  have := stepped_ok ht hn hv hf hk
  rw [e] at h ⊢
  obtain ⟨h1, h2, h3, h4, h5⟩ := this h
  exact ⟨stateE_ok.2 ⟨ht, h2, h1⟩, h3, h4, h5⟩

/-! ### A set -/
/-- A step of a set that is done, by what is in it. -/
theorem set_step {s : List Int} {kind arg : Int} (h : (stepO 4 s kind arg).2.2 = 0) :
    (kind = 7 ∨ kind = 8 ∨ kind = 9) ∧ stateE 4 (stepO 4 s kind arg).1 = 0 ∧ (∀ y, y ∈ (stepO 4 s kind arg).1 ↔ (kind = 7 ∧ y = arg) ∨ (y ∈ s ∧ (kind = 8 → y ≠ arg))) ∧
    (stepO 4 s kind arg).2.1 = if kind = 7 then (if arg ∈ s then 0 else 1) else if arg ∈ s then 1 else 0 := by
  have hok := stepO_ok h
  obtain ⟨he, hi, e⟩ := stepO_of h
  obtain ⟨ht, hn, hv⟩ := stateE_ok.1 he
  have hs := ((valid_row rfl).1 hv).2 rfl
  obtain ⟨hf, hk⟩ := Bool.and_eq_true_iff.1 hi
  have hkind := (fits_ways hf).2.2.2.1 rfl
  refine ⟨hkind, hok.1, ?_⟩
  rw [e] at h ⊢
  rcases hkind with rfl | rfl | rfl
  · have e : stepped s 7 arg = if arg ∈ s then (s, 0, 0) else if s.length = 50 then ([], 0, 2) else (insAt s (lessN s arg) arg, 1, 0) := rfl
    rw [e] at h ⊢
    by_cases hm : arg ∈ s
    · rw [if_pos hm] at h ⊢
      rw [if_pos rfl, if_pos hm]
      exact ⟨fun y => ⟨fun hy => .inr ⟨hy, fun h => by omega⟩, fun hy => hy.elim (fun h => by rw [h.2]; exact hm) fun h => h.1⟩, rfl⟩
    · rw [if_neg hm] at h ⊢
      rw [if_pos rfl, if_neg hm]
      by_cases h50 : s.length = 50
      · rw [if_pos h50] at h
        exact absurd h (by decide)
      · rw [if_neg h50]
        exact ⟨fun y => ⟨fun hy => (insAt_mem.1 hy).elim (fun h => .inl ⟨rfl, h⟩) fun h => .inr ⟨h, fun h => by omega⟩, fun hy => insAt_mem.2 (hy.elim (fun h => .inl h.2) fun h => .inr h.1)⟩, rfl⟩
  · have e : stepped s 8 arg = if arg ∈ s then (delAt s (lessN s arg), 1, 0) else (s, 0, 0) := rfl
    rw [e] at h ⊢
    rw [if_neg (show ¬ (8 : Int) = 7 by decide)]
    by_cases hm : arg ∈ s
    · rw [if_pos hm, if_pos hm]
      exact ⟨fun y => ⟨fun hy => .inr ⟨((del_mem hs hm).1 hy).2, fun _ => ((del_mem hs hm).1 hy).1⟩, fun hy => hy.elim (fun h => by omega) fun h => (del_mem hs hm).2 ⟨h.2 rfl, h.1⟩⟩, rfl⟩
    · rw [if_neg hm, if_neg hm]
      exact ⟨fun y => ⟨fun hy => .inr ⟨hy, fun _ e => hm (e ▸ hy)⟩, fun hy => hy.elim (fun h => by omega) fun h => h.1⟩, rfl⟩
  · have e : stepped s 9 arg = (s, if arg ∈ s then 1 else 0, 0) := rfl
    rw [e, if_neg (show ¬ (9 : Int) = 7 by decide)]
    exact ⟨fun y => ⟨fun hy => .inr ⟨hy, fun h => by omega⟩, fun hy => hy.elim (fun h => by omega) fun h => h.1⟩, rfl⟩
theorem set_sorted {s : List Int} (h : stateE 4 s = 0) : s.Pairwise (· < ·) := ((valid_row rfl).1 (stateE_ok.1 h).2.2).2 rfl

/-- Two steps of a set of other numbers, or that only ask, change places. -/
theorem set_turns {s : List Int} {ak aa bk ba : Int} (hd : aa = ba → ak = 9 ∧ bk = 9)
    (h1 : (stepO 4 s ak aa).2.2 = 0) (h2 : (stepO 4 (stepO 4 s ak aa).1 bk ba).2.2 = 0) (h3 : (stepO 4 s bk ba).2.2 = 0) (h4 : (stepO 4 (stepO 4 s bk ba).1 ak aa).2.2 = 0) :
    (stepO 4 (stepO 4 s ak aa).1 bk ba).1 = (stepO 4 (stepO 4 s bk ba).1 ak aa).1 ∧ (stepO 4 s ak aa).2.1 = (stepO 4 (stepO 4 s bk ba).1 ak aa).2.1 ∧ (stepO 4 (stepO 4 s ak aa).1 bk ba).2.1 = (stepO 4 s bk ba).2.1 := by
  obtain ⟨k1, v1, m1, r1⟩ := set_step h1
  obtain ⟨k2, v2, m2, r2⟩ := set_step h2
  obtain ⟨k3, v3, m3, r3⟩ := set_step h3
  obtain ⟨k4, v4, m4, r4⟩ := set_step h4
  have ea : (aa ∈ s ↔ aa ∈ (stepO 4 s bk ba).1) := by
    rw [m3]
    constructor
    · intro h
      exact .inr ⟨h, fun hb e => by have := hd e; omega⟩
    · rintro (h | h)
      · have := hd h.2; omega
      · exact h.1
  have eb : (ba ∈ (stepO 4 s ak aa).1 ↔ ba ∈ s) := by
    rw [m1]
    constructor
    · rintro (h | h)
      · have := hd h.2.symm; omega
      · exact h.1
    · intro h
      exact .inr ⟨h, fun hb e => by have := hd e.symm; omega⟩
  refine ⟨sorted_ext (set_sorted v2) (set_sorted v4) fun y => ?_, ?_, ?_⟩
  · rw [m2, m4, m1, m3]
    constructor
    · rintro (⟨h, e⟩ | ⟨⟨h, e⟩ | ⟨h, e⟩, f⟩)
      · exact .inr ⟨.inl ⟨h, e⟩, fun ha e' => by have := hd (e'.symm.trans e); omega⟩
      · exact .inl ⟨h, e⟩
      · exact .inr ⟨.inr ⟨h, f⟩, e⟩
    · rintro (⟨h, e⟩ | ⟨⟨h, e⟩ | ⟨h, e⟩, f⟩)
      · exact .inr ⟨.inl ⟨h, e⟩, fun ha e' => by have := hd (e.symm.trans e'); omega⟩
      · exact .inl ⟨h, e⟩
      · exact .inr ⟨.inr ⟨h, f⟩, e⟩
  · rw [r1, r4]
    simp only [← ea]
  · rw [r2, r3]
    simp only [eb]
end Go.Proofs.Ytebcnhnkpmbgdaa
