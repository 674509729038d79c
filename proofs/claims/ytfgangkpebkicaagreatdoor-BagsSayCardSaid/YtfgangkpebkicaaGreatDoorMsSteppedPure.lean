/-
  Joined by a program out of: RefAsk, SteppedPure.
-/
import Derived.Test.YtfgangkpebkicaaGreatDoorMsContN
import Derived.Test.YtfgangkpebkicaaGreatDoorMsRefSteps
import Derived.Test.YtfgangkpebkicaaGreatDoorMgAH
import Derived.Test.YtfgangkpebkicaaGreatDoorMgAD

/-
  Contracts of the reference's Begin, Asked.
-/
namespace Go.Proofs.YtfgangkpebkicaaGreatDoor
open Go.RowKit
set_option maxRecDepth 20000
set_option maxHeartbeats 1000000 in
theorem begin_any (typ : Int) (w : World) : Calls Tryz.prog 30 #[.int .i64 typ] w fun e w' => ∃ v, e = .returned v ∧ NRd w' w'.heap.size v (beginL typ) ∧ Below w.heap.size w w' := by
  by_cases h1 : typ = 1
  · subst h1
    go_enter Tryz.func30, Tryz.ntmps30
    go_wp2
    go_ret
    exact ⟨_, rfl, (nrd_new w 0).mono (by simp), (Below.refl _ _).alloc (Nat.le_refl _) _⟩
  · by_cases h5 : typ = 5
    · subst h5
      go_enter Tryz.func30, Tryz.ntmps30
      go_wp2
      go_ret
      exact ⟨_, rfl, (nrd_new w 0).mono (by simp), (Below.refl _ _).alloc (Nat.le_refl _) _⟩
    · have e : beginL typ = [] := by
        unfold beginL oneB
        rw [if_neg (by simp [h1, h5])]
      rw [e]
      have z1 : (typ == 1) = false := by rw [beq_eq_false_iff_ne]; exact h1
      have z5 : (typ == 5) = false := by rw [beq_eq_false_iff_ne]; exact h5
      clear h1 h5 e
      go_enter Tryz.func30, Tryz.ntmps30
      go_wp2
      go_ret
      exact ⟨_, rfl, LRd.nil _ _, Below.refl _ _⟩
theorem kindsL_short (t : Int) : (kindsL t).length ≤ 1000000 := by
  unfold kindsL
  (repeat' split) <;> simp
set_option maxHeartbeats 1000000 in
theorem asked_any (typ kind arg : Int) (w : World) : Calls Tryz.prog 47 #[.int .i64 typ, .int .i64 kind, .int .i64 arg] w fun e w' => e = .returned (.bool (fitsB typ kind && takesB kind arg)) ∧ Below w.heap.size w w' := by
  cases hf : fitsB typ kind
  · rw [Bool.false_and]
    have HF := Lib.hid hf
    clear hf
    go_enter Tryz.func47, Tryz.ntmps47
    go_wp2_with fail
    refine (kinds_any _ _).mono ?_
    rintro e w1 ⟨kv, rfl, hk, hb1⟩
    have H1 := Lib.hid (And.intro hk hb1)
    clear hk hb1
    go_wp2_with fail
    refine (contains_any H1.out.1 (kindsL_short _) _).mono ?_
    rw [kinds_fit, HF.out]
    rintro e w2 ⟨rfl, hb2⟩
    have H2 := Lib.hid (H1.out.2.trans (hb2.mono H1.out.2.size))
    clear hb2
    go_wp2_with fail
    go_ret
    exact ⟨rfl, H2.out⟩
  · rw [Bool.true_and, ← asks_takes hf]
    have HF := Lib.hid hf
    clear hf
    generalize hq : asksB kind arg = q
    have HQ := Lib.hid hq
    clear hq
    go_enter Tryz.func47, Tryz.ntmps47
    go_wp2_with fail
    refine (kinds_any _ _).mono ?_
    rintro e w1 ⟨kv, rfl, hk, hb1⟩
    have H1 := Lib.hid (And.intro hk hb1)
    clear hk hb1
    go_wp2_with fail
    refine (contains_any H1.out.1 (kindsL_short _) _).mono ?_
    rw [kinds_fit, HF.out]
    rintro e w2 ⟨rfl, hb2⟩
    have H2 := Lib.hid (H1.out.2.trans (hb2.mono H1.out.2.size))
    clear hb2
    go_wp2_with fail
    refine (asks_any _ _ _).mono ?_
    rw [HQ.out]
    rintro e w3 ⟨rfl, hb3⟩
    have H3 := Lib.hid (H2.out.trans (hb3.mono H2.out.size))
    clear hb3
    go_wp2_with fail
    go_ret
    exact ⟨rfl, H3.out⟩
end Go.Proofs.YtfgangkpebkicaaGreatDoor

/-
  Plain mathematics: the reference's step of a set goes through the state once.
-/
namespace Go.Proofs.YtfgangkpebkicaaGreatDoor
open Go.RowKit
set_option maxRecDepth 20000
/-- Was it there; what is there behind; is it put in already? -/
abbrev PassS := Int × List Int × Bool
def passStep (k a : Int) (st : PassS) (x : Int) : PassS :=
  (if x = a then 1 else st.1, (if a ≤ x ∧ st.2.2 = false then st.2.1 ++ [a] else st.2.1) ++ (if x ≠ a ∨ k = 9 then [x] else []), if a ≤ x ∧ st.2.2 = false then true else st.2.2)
def pass (k a : Int) (st : PassS) (l : List Int) : PassS := l.foldl (passStep k a) st
def passEnd (a : Int) (st : PassS) : List Int := if st.2.2 = true then st.2.1 else st.2.1 ++ [a]
theorem pass_cons (k a : Int) (st : PassS) (x : Int) (r : List Int) : pass k a st (x :: r) = pass k a (passStep k a st x) r := rfl
theorem pass_snoc (k a : Int) (st : PassS) (l : List Int) (x : Int) : pass k a st (l ++ [x]) = passStep k a (pass k a st l) x := by
  unfold pass
  rw [List.foldl_append]
  rfl
theorem pass_len (k a : Int) : ∀ (l : List Int) (st : PassS), (pass k a st l).2.1.length ≤ st.2.1.length + 2 * l.length
  | [], st => by simp [pass]
  | x :: r, st => by
    rw [pass_cons]
    have := pass_len k a r (passStep k a st x)
    have h2 : (passStep k a st x).2.1.length ≤ st.2.1.length + 2 := by
      unfold passStep
      simp only [List.length_append]
      split <;> split <;> simp
    simp only [List.length_cons]
    omega
theorem pass_was (k a : Int) : ∀ (l : List Int) (st : PassS), (pass k a st l).1 = if a ∈ l then 1 else st.1
  | [], st => by simp [pass]
  | x :: r, st => by
    rw [pass_cons, pass_was k a r]
    by_cases h : a ∈ r
    · rw [if_pos h, if_pos (List.mem_cons_of_mem _ h)]
    · rw [if_neg h]
      by_cases e : x = a
      · rw [if_pos (by rw [e]; exact List.mem_cons_self)]
        show (if x = a then 1 else st.1) = 1
        rw [if_pos e]
      · rw [if_neg (by
          intro hm
          rcases List.mem_cons.1 hm with h' | h'
          · exact e h'.symm
          · exact h h')]
        show (if x = a then 1 else st.1) = st.1
        rw [if_neg e]
/-- Once it is put in, or need not be. -/
theorem pass_put (k a : Int) : ∀ (l : List Int) (w : Int) (acc : List Int), (pass k a (w, acc, true) l).2 = (acc ++ l.filter (fun x => decide (x ≠ a ∨ k = 9)), true)
  | [], w, acc => by simp [pass]
  | x :: r, w, acc => by
    have e : passStep k a (w, acc, true) x = (if x = a then 1 else w, acc ++ (if x ≠ a ∨ k = 9 then [x] else []), true) := by
      unfold passStep
      simp
    rw [pass_cons, e, pass_put k a r]
    by_cases h : x ≠ a ∨ k = 9
    · rw [if_pos h, List.filter_cons_of_pos (by simpa using h)]
      simp
    · rw [if_neg h, List.filter_cons_of_neg (by simpa using h)]
      simp
theorem filter_all {l : List Int} {p : Int → Bool} (h : ∀ x ∈ l, p x = true) : l.filter p = l := List.filter_eq_self.2 h
theorem pass9 (a : Int) (l : List Int) : (pass 9 a (0, [], true) l).2 = (l, true) := by
  rw [pass_put, filter_all (fun x _ => by simp)]
  rfl
theorem pass8 (a : Int) {l : List Int} (h : l.Pairwise (· < ·)) : (pass 8 a (0, [], true) l).2 = (if a ∈ l then delAt l (lessN l a) else l, true) := by
  rw [pass_put, List.nil_append]
  congr 1
  by_cases hm : a ∈ l
  · rw [if_pos hm]
    refine sorted_ext (h.filter _) (del_sorted h _) fun y => ?_
    rw [List.mem_filter, del_mem h hm]
    simp
    exact ⟨fun h => ⟨h.2, h.1⟩, fun h => ⟨h.2, h.1⟩⟩
  · rw [if_neg hm]
    exact filter_all fun x hx => by
      have : x ≠ a := fun e => hm (e ▸ hx)
      simp [this]
theorem pass7 (a : Int) : ∀ {l : List Int} (w : Int) (acc : List Int), l.Pairwise (· < ·) → passEnd a (pass 7 a (w, acc, false) l) = acc ++ (if a ∈ l then l else insAt l (lessN l a) a)
  | [], w, acc, _ => by
    rw [if_neg (by simp)]
    rfl
  | x :: r, w, acc, h => by
    obtain ⟨h1, h2⟩ := List.pairwise_cons.1 h
    by_cases hx : a ≤ x
    · have hr : r.filter (fun x => decide (x ≠ a ∨ (7 : Int) = 9)) = r := filter_all fun y hy => by
        have := h1 y hy
        have : y ≠ a := by omega
        simp [this]
      have e : passStep 7 a (w, acc, false) x = (if x = a then 1 else w, acc ++ [a] ++ (if x ≠ a then [x] else []), true) := by
        unfold passStep
        simp [hx]
      rw [pass_cons, e]
      have hp := pass_put 7 a r (if x = a then 1 else w) (acc ++ [a] ++ (if x ≠ a then [x] else []))
      unfold passEnd
      rw [hp, hr]
      simp only [if_true]
      by_cases ex : x = a
      · subst ex
        rw [if_pos (List.mem_cons_self), if_neg (by simp)]
        simp
      · rw [if_pos ex, if_neg (by
          intro hm
          rcases List.mem_cons.1 hm with h' | h'
          · exact ex h'.symm
          · have := h1 a h'; omega)]
        have hl : lessN (x :: r) a = 0 := lessN_zero fun z hz => by
          rcases List.mem_cons.1 hz with rfl | hz
          · exact hx
          · have := h1 z hz; omega
        rw [hl]
        simp [insAt]
    · have e : passStep 7 a (w, acc, false) x = (w, acc ++ [x], false) := by
        unfold passStep
        have : ¬ x = a := by omega
        simp [hx, this]
      rw [pass_cons, e, pass7 a w _ h2]
      have hl : lessN (x :: r) a = lessN r a + 1 := by rw [lessN_cons, if_pos (by omega)]
      have hm : (a ∈ x :: r ↔ a ∈ r) := by
        constructor
        · intro hm
          rcases List.mem_cons.1 hm with h' | h'
          · omega
          · exact h'
        · exact List.mem_cons_of_mem _
      by_cases hr : a ∈ r
      · rw [if_pos hr, if_pos (hm.2 hr)]
        simp
      · rw [if_neg hr, if_neg (fun h => hr (hm.1 h)), hl]
        simp [insAt]
/-- What the reference's pass makes of a set is what the step does. -/
theorem pass_stepped {l : List Int} (h : l.Pairwise (· < ·)) (k a : Int) (hk : k = 7 ∨ k = 8 ∨ k = 9) (hfull : ¬ (k = 7 ∧ a ∉ l ∧ l.length = 50)) :
    stepped l k a = (passEnd a (pass k a (0, [], k != 7) l), if k = 7 then 1 - (pass k a (0, [], k != 7) l).1 else (pass k a (0, [], k != 7) l).1, 0) := by
  rcases hk with rfl | rfl | rfl
  · have e : stepped l 7 a = if a ∈ l then (l, 0, 0) else if l.length = 50 then ([], 0, 2) else (insAt l (lessN l a) a, 1, 0) := rfl
    rw [e, show ((7 : Int) != 7) = false from rfl, pass7 a 0 [] h, pass_was, if_pos rfl]
    by_cases hm : a ∈ l
    · rw [if_pos hm, if_pos hm, if_pos hm]
      rfl
    · rw [if_neg hm, if_neg hm, if_neg hm, if_neg (fun h50 => hfull ⟨rfl, hm, h50⟩)]
      rfl
  · have e : stepped l 8 a = if a ∈ l then (delAt l (lessN l a), 1, 0) else (l, 0, 0) := rfl
    rw [e, show ((8 : Int) != 7) = true from rfl, if_neg (show ¬ (8 : Int) = 7 by decide), pass_was]
    unfold passEnd
    rw [pass8 a h]
    by_cases hm : a ∈ l
    · simp [hm]
    · simp [hm]
  · have e : stepped l 9 a = (l, if a ∈ l then 1 else 0, 0) := rfl
    rw [e, show ((9 : Int) != 7) = true from rfl, if_neg (show ¬ (9 : Int) = 7 by decide), pass_was]
    unfold passEnd
    rw [pass9 a]
    simp
end Go.Proofs.YtfgangkpebkicaaGreatDoor
