/-
  Joined by a program out of: NeverPure.
-/
import Derived.Test.YtecpjeililiafaaDoorMgAZ

/-
  Plain: a call that was not answered can be answered so that there is a right order still; of one alone.
-/
namespace Go.Proofs.YtecpjeililiafaaDoor
open Go.RowKit
set_option maxRecDepth 20000

/-! ### What is known of each call -/
structure CallOk (ts : List Int) (c : Cl) : Prop where
  who : 0 ≤ c.who ∧ c.who ≤ 7
  thing : 0 ≤ c.thing ∧ c.thing < ts.length
  fits : fitsB (ts.getD c.thing.toNat 0) c.kind = true
  takes : takesB c.kind c.arg = true
theorem step_callOk {ts : List Int} {n : Nat} {cs cs' : List Cl} {x : Ev} (h : ∀ c ∈ cs, CallOk ts c) (hs : step ts n cs x = .inr cs') : ∀ c ∈ cs', CallOk ts c := by
  unfold step at hs
  split at hs
  · cases hs
  · rename_i hr
    split at hs
    · unfold respS at hs
      split at hs
      · cases hs
      · rename_i ho
        split at hs
        · cases hs
        · injection hs with hs
          subst hs
          intro c hc
          rcases List.mem_or_eq_of_mem_set hc with hc | rfl
          · exact h c hc
          · obtain ⟨d, e1, e2, e3, e4⟩ := openOf_at (cs := cs) (who := x.who) (by omega)
            have := h _ (List.mem_of_getElem? (getD_some e4))
            exact ⟨this.who, this.thing, this.fits, this.takes⟩
    · unfold invS at hs
      split at hs
      · cases hs
      · rename_i hg
        split at hs
        · cases hs
        · injection hs with hs
          subst hs
          intro c hc
          rcases List.mem_append.1 hc with hc | hc
          · exact h c hc
          · rw [List.mem_singleton] at hc
            subst hc
            refine ⟨?_, ?_, ?_, ?_⟩
            · exact Classical.byContradiction fun hn => hr (.inl hn)
            · exact Classical.byContradiction fun hn => hr (.inr hn)
            · exact Classical.byContradiction fun hn => hg (.inl (by simpa using hn))
            · exact Classical.byContradiction fun hn => hg (.inr (by simpa using hn))
theorem run_callOk {ts : List Int} : ∀ (l : List Ev) (n : Nat) (cs : List Cl), (∀ c ∈ cs, CallOk ts c) → (run ts n cs l).2.2 = 0 → ∀ c ∈ (run ts n cs l).1, CallOk ts c
  | [], _, _, h, _ => h
  | x :: r, n, cs, h, h0 => by
    rw [run] at h0 ⊢
    cases hs : step ts n cs x with
    | inl e => rw [hs] at h0; exact absurd h0 (step_err hs)
    | inr cs' =>
      rw [hs] at h0
      exact run_callOk r (n + 1) cs' (step_callOk h hs) h0
theorem calls_callOk {ts : List Int} {l : List Ev} (h : (callsOf ts l).2.2 = 0) : ∀ c ∈ (callsOf ts l).1, CallOk ts c := by
  obtain ⟨_, _, e⟩ := calls_zero h
  rw [e] at h ⊢
  exact run_callOk l 0 [] (fun c hc => by simp at hc) h
/-- Somebody's call was somebody's event. -/
theorem run_people {ts : List Int} (P : Int → Prop) : ∀ (l : List Ev) (n : Nat) (cs : List Cl), (∀ x ∈ l, P x.who) → (∀ c ∈ cs, P c.who) → (run ts n cs l).2.2 = 0 → ∀ c ∈ (run ts n cs l).1, P c.who
  | [], _, _, _, h, _ => h
  | x :: r, n, cs, hl, h, h0 => by
    rw [run] at h0 ⊢
    cases hs : step ts n cs x with
    | inl e => rw [hs] at h0; exact absurd h0 (step_err hs)
    | inr cs' =>
      rw [hs] at h0
      refine run_people P r (n + 1) cs' (fun y hy => hl y (List.mem_cons_of_mem _ hy)) (fun c hc => ?_) h0
      rcases step_ways hs with ⟨_, i, hi, _, _, _, rfl, _⟩ | ⟨_, _, rfl, _⟩
      · rcases List.mem_or_eq_of_mem_set hc with hc | rfl
        · exact h c hc
        · exact (show P (cs.getD i default).who from h _ (List.mem_of_getElem? (getD_some hi)))
      · rcases List.mem_append.1 hc with hc | hc
        · exact h c hc
        · rw [List.mem_singleton] at hc
          subst hc
          exact hl x List.mem_cons_self

/-! ### A step that may be -/
theorem state_val {typ : Int} {s : List Int} (h : stateE typ s = 0) (h1 : oneB typ = false) : ∀ x ∈ s, 1 ≤ x ∧ x ≤ 1000 := ((valid_row h1).1 (stateE_ok.1 h).2.2).1
theorem getD_mem {s : List Int} {i : Nat} (h : i < s.length) : s.getD i 0 ∈ s := by
  rw [List.getD_eq_getElem?_getD, List.getElem?_eq_getElem h]
  exact List.getElem_mem _
theorem step_gives {typ : Int} {s : List Int} {kind arg : Int} (h : (stepO typ s kind arg).2.2 = 0) : givesB kind (stepO typ s kind arg).2.1 = true := by
  obtain ⟨he, hi, e⟩ := stepO_of h
  rw [e] at h ⊢
  obtain ⟨hf, hk⟩ := Bool.and_eq_true_iff.1 hi
  obtain ⟨ht, hn, hv⟩ := stateE_ok.1 he
  obtain ⟨k1, k2, k3, k4, k5⟩ := fits_ways hf
  have hrow : typ ≠ 1 → typ ≠ 5 → ∀ x ∈ s, 1 ≤ x ∧ x ≤ 1000 := fun a b => state_val he (by unfold oneB; rw [decide_eq_false_iff_not]; omega)
  rcases (by omega : typ = 1 ∨ typ = 2 ∨ typ = 3 ∨ typ = 4 ∨ typ = 5) with t | t | t | t | t
  · have hs := (valid_one (typ := typ) (s := s) (by rw [t]; rfl)).1 hv
    rcases k1 t with rfl | rfl
    · rfl
    · exact btw_iff.2 ⟨hs.2.1, hs.2.2⟩
  · rcases k2 t with rfl | rfl
    · unfold stepped
      rw [if_neg (by decide), if_neg (by decide), if_pos (by decide)]
      split <;> rfl
    · unfold stepped
      rw [if_neg (by decide), if_neg (by decide), if_neg (by decide), if_pos (by decide)]
      split
      · rfl
      · rename_i h0
        have h1 := hrow (by omega) (by omega) _ (getD_mem (s := s) (i := 0) (by omega))
        show givesB 4 (s.getD 0 0) = true
        unfold givesB
        rw [if_neg (by decide), if_pos (by decide), Bool.or_eq_true]
        exact .inr (btw_iff.2 h1)
  · rcases k3 t with rfl | rfl
    · unfold stepped
      rw [if_neg (by decide), if_neg (by decide), if_pos (by decide)]
      split <;> rfl
    · unfold stepped
      rw [if_neg (by decide), if_neg (by decide), if_neg (by decide), if_neg (by decide), if_pos (by decide)]
      split
      · rfl
      · rename_i h0
        have h1 := hrow (by omega) (by omega) _ (getD_mem (s := s) (i := s.length - 1) (by omega))
        show givesB 6 (s.getD (s.length - 1) 0) = true
        unfold givesB
        rw [if_neg (by decide), if_pos (by decide), Bool.or_eq_true]
        exact .inr (btw_iff.2 h1)
  · rcases k4 t with rfl | rfl | rfl
    · have e7 : stepped s 7 arg = if arg ∈ s then (s, 0, 0) else if s.length = 50 then ([], 0, 2) else (insAt s (lessN s arg) arg, 1, 0) := rfl
      rw [e7]
      (repeat' split) <;> rfl
    · have e8 : stepped s 8 arg = if arg ∈ s then (delAt s (lessN s arg), 1, 0) else (s, 0, 0) := rfl
      rw [e8]
      split <;> rfl
    · have e9 : stepped s 9 arg = (s, if arg ∈ s then 1 else 0, 0) := rfl
      rw [e9]
      show givesB 9 (if arg ∈ s then 1 else 0) = true
      split <;> rfl
  · obtain rfl := k5 t
    have hs := (valid_one (typ := typ) (s := s) (by rw [t]; rfl)).1 hv
    have e10 : stepped s 10 arg = if s.getD 0 0 = 1000 then ([], 0, 2) else ([s.getD 0 0 + 1], s.getD 0 0, 0) := rfl
    rw [e10]
    split
    · rfl
    · exact btw_iff.2 ⟨hs.2.1, hs.2.2⟩
/-- A state after m steps: it has room. -/
structure Room (typ : Int) (m : Nat) (s : List Int) : Prop where
  ok : stateE typ s = 0
  len : s.length ≤ m + 1
  one : typ = 5 → s.getD 0 0 ≤ m
theorem Room.begin {typ : Int} (h : 1 ≤ typ ∧ typ ≤ 5) : Room typ 0 (beginL typ) := by
  rcases (by omega : typ = 1 ∨ typ = 2 ∨ typ = 3 ∨ typ = 4 ∨ typ = 5) with rfl | rfl | rfl | rfl | rfl
  · exact ⟨by decide, by decide, fun h => by omega⟩
  · exact ⟨by decide, by decide, fun h => by omega⟩
  · exact ⟨by decide, by decide, fun h => by omega⟩
  · exact ⟨by decide, by decide, fun h => by omega⟩
  · exact ⟨by decide, by decide, fun h => by decide⟩
theorem Room.next {typ : Int} {m : Nat} {s : List Int} {kind arg : Int} (h : Room typ m s) (he : (stepO typ s kind arg).2.2 = 0) : Room typ (m + 1) (stepO typ s kind arg).1 := by
  obtain ⟨h1, h2, h3, h4⟩ := stepO_ok he
  refine ⟨h1, by have := h.len; omega, fun ht => ?_⟩
  obtain ⟨_, hi, e⟩ := stepO_of he
  obtain ⟨hf, _⟩ := Bool.and_eq_true_iff.1 hi
  have hk := (fits_ways hf).2.2.2.2 ht
  have h5 := h.one ht
  have e10 : stepped s 10 arg = if s.getD 0 0 = 1000 then ([], 0, 2) else ([s.getD 0 0 + 1], s.getD 0 0, 0) := rfl
  rw [hk] at e
  rw [hk, e, e10]
  split
  · show ([] : List Int).getD 0 0 ≤ _
    simp
    omega
  · show [s.getD 0 0 + 1].getD 0 0 ≤ _
    simp
    rw [List.getD_eq_getElem?_getD] at h5
    omega
theorem Room.run {typ : Int} : ∀ (l : List Dd) (m : Nat) (s : List Int), Room typ m s → goesB typ s l = true → Room typ (m + l.length) (stateFrom typ s l)
  | [], m, s, h, _ => h
  | d :: r, m, s, h, hg => by
    rw [goes_cons] at hg
    have := Room.run r (m + 1) _ (h.next hg.1) hg.2.2
    rw [List.length_cons, show m + (r.length + 1) = m + 1 + r.length by omega]
    exact this
theorem Room.step {typ : Int} {m : Nat} {s : List Int} (h : Room typ m s) (hm : m < 40) {kind arg : Int} (hf : fitsB typ kind = true) (hk : takesB kind arg = true) : (stepO typ s kind arg).2.2 = 0 := by
  unfold stepO
  rw [if_neg (by rw [h.ok]; decide), hf, hk, if_neg (by decide)]
  have hlen := h.len
  have hfit := fits_ways hf
  have hfk := fits_kind hf
  have h50 : s.length ≠ 50 := by omega
  have hone : kind = 10 → s.getD 0 0 ≠ 1000 := fun e => by
    have ht : typ = 5 := by
      obtain ⟨k1, k2, k3, k4, k5⟩ := hfit
      omega
    have := h.one ht
    omega
  unfold stepped
  (repeat' split) <;> first | rfl | (exfalso; rename_i hx; exact h50 hx) | (exfalso; rename_i hx _ hy; exact hone hx hy) | (exfalso; rename_i hx hy; exact hone hx hy)

/-- Unlike numbers below n: at most n. -/
theorem nodup_lt : ∀ (n : Nat) {l : List Int}, l.Nodup → (∀ k ∈ l, 0 ≤ k ∧ k < (n : Int)) → l.length ≤ n
  | 0, l, _, h => by
    cases l with
    | nil => exact Nat.le_refl _
    | cons k r => have := h k List.mem_cons_self; omega
  | n + 1, l, hn, h => by
    by_cases hm : (n : Int) ∈ l
    · have h1 := nodup_lt n (l := l.erase (n : Int)) (hn.erase _) (fun k hk => by
        rw [hn.mem_erase_iff] at hk
        have := h k hk.2
        omega)
      rw [List.length_erase_of_mem hm] at h1
      omega
    · have h1 := nodup_lt n (l := l) hn (fun k hk => by
        have := h k hk
        have : k ≠ (n : Int) := fun e => hm (e ▸ hk)
        omega)
      omega
/-! ### It can be answered -/
theorem Rite.front {ts : List Int} {cs : List Cl} {a b : List (Int × Int)} (h : Rite ts cs (a ++ b)) (hb : ∀ x ∈ b, (atC cs x).til = -1) : Rite ts cs a := by
  have hsub : a.Sublist (a ++ b) := List.sublist_append_left a b
  refine ⟨fun x hx => h.rng x (hsub.mem hx), (hsub.map _).nodup h.once, fun x hx => h.res x (hsub.mem hx), fun i hi ht => ?_, fun i j hi hj ha a1 y b1 e ey => h.ord i j hi hj ha a1 y (b1 ++ b) (by rw [e]; simp) ey, fun t ht => ?_⟩
  · have h1 := h.all i hi ht
    rw [List.map_append, List.mem_append] at h1
    rcases h1 with h1 | h1
    · exact h1
    · obtain ⟨x, hx, e⟩ := List.mem_map.1 h1
      refine absurd (hb x hx) ?_
      unfold atC
      rw [e, Int.toNat_natCast]
      exact ht
  · have h1 := h.goes t ht
    rw [ownD_append, goes_append] at h1
    exact h1.1
/-- What is done of a thing may be done: what it is asked behind that, too. -/
theorem rite_room {ts : List Int} {cs : List Cl} (hty : ∀ t ∈ ts, 1 ≤ t ∧ t ≤ 5) (hn : cs.length ≤ 16) {a b : List (Int × Int)} {x : Int × Int} (h1 : ∀ y ∈ a ++ x :: b, 0 ≤ y.1 ∧ y.1 < cs.length) (h2 : ((a ++ x :: b).map (·.1)).Nodup) (hc : CallOk ts (atC cs x))
    (hg : goesB (ts.getD (atC cs x).thing.toNat 0) (beginL (ts.getD (atC cs x).thing.toNat 0)) (ownD cs (atC cs x).thing.toNat a) = true) :
    (stepO (ts.getD (atC cs x).thing.toNat 0) (stateFrom (ts.getD (atC cs x).thing.toNat 0) (beginL (ts.getD (atC cs x).thing.toNat 0)) (ownD cs (atC cs x).thing.toNat a)) (atC cs x).kind (atC cs x).arg).2.2 = 0 := by
  have hlt := hc.thing
  have ht := hty (ts.getD (atC cs x).thing.toNat 0) (getD_mem (by omega))
  refine (Room.run _ 0 _ (Room.begin ht) hg).step ?_ hc.fits hc.takes
  have l1 : (ownD cs (atC cs x).thing.toNat a).length ≤ a.length := by
    unfold ownD
    rw [List.length_map]
    exact List.length_filter_le _ _
  have l2 : a.length ≤ cs.length := by
    have h4 : (a.map (·.1)).Nodup := ((List.sublist_append_left a (x :: b)).map _).nodup h2
    have h5 := nodup_lt cs.length h4 (fun k hk => by
      obtain ⟨y, hy, rfl⟩ := List.mem_map.1 hk
      exact h1 y (List.mem_append_left _ hy))
    rwa [List.length_map] at h5
  omega
/-- The history with an answer to call k more. -/
theorem answer_calls {ts : List Int} {l : List Ev} (h0 : (callsOf ts l).2.2 = 0) (hl : l.length < 200) {k : Nat} (hk : k < (callsOf ts l).1.length) (ht : ((callsOf ts l).1.getD k default).til = -1) {r : Int} (hr : givesB ((callsOf ts l).1.getD k default).kind r = true) :
    callsOf ts (l ++ [⟨((callsOf ts l).1.getD k default).who, ((callsOf ts l).1.getD k default).thing, 0, r⟩]) = ((callsOf ts l).1.set k { (callsOf ts l).1.getD k default with res := r, til := l.length }, 0, 0) := by
  have hok := calls_callOk h0 _ (List.mem_of_getElem? (getD_some hk))
  obtain ⟨hb, _, e⟩ := calls_zero h0
  unfold callsOf
  rw [hb, if_neg (by decide), if_neg (by simp; omega), if_neg (by decide), if_neg (by omega)]
  rw [e] at h0 hk ht hr hok
  rw [run_append, if_pos h0, Nat.zero_add]
  have hone := run_one (ts := ts) l 0 [] OneOpen.nil h0
  generalize (run ts 0 [] l).1 = cs at hk ht hr hok hone ⊢
  have ho : openOf cs (cs.getD k default).who = (k : Int) := (openOf_iff hone).2 ⟨_, getD_some hk, rfl, ht⟩
  have hs : step ts l.length cs ⟨(cs.getD k default).who, (cs.getD k default).thing, 0, r⟩ = .inr (cs.set k { cs.getD k default with res := r, til := l.length }) := by
    unfold step
    have h1 := hok.who
    have h2 := hok.thing
    rw [if_neg (by simp only; omega), if_pos rfl]
    unfold respS
    simp only
    rw [ho, if_neg (by omega), Int.toNat_natCast, hr, if_neg (by simp)]
  rw [run, hs]
  rfl
/-- A right order in which call k, that was not answered, is answered r: it is right where it was answered so. -/
theorem answered_rite {ts : List Int} {cs : List Cl} {n k : Nat} (ht : Tidy n cs) (hk : k < cs.length) {a b : List (Int × Int)} {r : Int} (h : Rite ts cs (a ++ ((k : Int), r) :: b)) :
    Rite ts (cs.set k { cs.getD k default with res := r, til := n }) (a ++ ((k : Int), r) :: b) := by
  have hg : ∀ j, (cs.set k { cs.getD k default with res := r, til := (n : Int) }).getD j default = if k = j then { cs.getD k default with res := r, til := (n : Int) } else cs.getD j default := fun j => getD_set hk
  have hsame : ∀ j, ((cs.set k { cs.getD k default with res := r, til := (n : Int) }).getD j default).thing = (cs.getD j default).thing ∧ ((cs.set k { cs.getD k default with res := r, til := (n : Int) }).getD j default).kind = (cs.getD j default).kind ∧ ((cs.set k { cs.getD k default with res := r, til := (n : Int) }).getD j default).arg = (cs.getD j default).arg ∧ ((cs.set k { cs.getD k default with res := r, til := (n : Int) }).getD j default).frm = (cs.getD j default).frm := fun j => by
    rw [hg]
    split
    · rename_i e; subst e; exact ⟨rfl, rfl, rfl, rfl⟩
    · exact ⟨rfl, rfl, rfl, rfl⟩
  refine ⟨fun x hx => by rw [List.length_set]; exact h.rng x hx, h.once, fun x hx hti => ?_, fun i hi hti => ?_, fun i j hi hj ha a1 y b1 e ey => ?_, fun t htt => ?_⟩
  · have hx0 := h.rng x hx
    unfold atC at hti ⊢
    rw [hg] at hti ⊢
    by_cases e : k = x.1.toNat
    · rw [if_pos e]
      show r = x.2
      have h1 := h.once
      rcases List.mem_append.1 hx with hx | hx
      · rw [List.map_append, List.map_cons, List.nodup_append] at h1
        exact absurd (by omega : x.1 = (k : Int)) (h1.2.2 x.1 (List.mem_map.2 ⟨x, hx, rfl⟩) _ List.mem_cons_self)
      · rcases List.mem_cons.1 hx with rfl | hx
        · rfl
        · rw [List.map_append, List.map_cons, List.nodup_append, List.nodup_cons] at h1
          exact absurd (List.mem_map.2 ⟨x, hx, by omega⟩) h1.2.1.1
    · rw [if_neg e] at hti ⊢
      exact h.res x hx hti
  · rw [List.length_set] at hi
    by_cases e : k = i
    · subst e
      simp
    · rw [hg, if_neg e] at hti
      exact h.all i hi hti
  · rw [List.length_set] at hi hj
    refine h.ord i j hi hj ?_ a1 y b1 e ey
    unfold aheadB at ha ⊢
    rw [decide_eq_true_iff] at ha ⊢
    rw [(hsame j).2.2.2, hg] at ha
    have hj2 := (ht _ (List.mem_of_getElem? (getD_some hj))).2.1
    by_cases e : k = i
    · rw [if_pos e] at ha
      have : ((n : Int)) < (cs.getD j default).frm := ha.2
      omega
    · rw [if_neg e] at ha
      exact ha
  · have h1 := h.goes t htt
    rw [ownD_congr fun x hx => ?_]
    · exact h1
    · exact ⟨(hsame x.1.toNat).1, (hsame x.1.toNat).2.1, (hsame x.1.toNat).2.2.1⟩
/-- What call k is answered: just one answer is right. -/
theorem one_answer {ts : List Int} {cs : List Cl} (hty : ∀ t ∈ ts, 1 ≤ t ∧ t ≤ 5) (hn : cs.length ≤ 16) (hok : ∀ c ∈ cs, CallOk ts c) {k : Nat} (hk : k < cs.length) (ht : (cs.getD k default).til = -1) {a b : List (Int × Int)} {v : Int}
    (h : Rite ts cs (a ++ ((k : Int), v) :: b) ∨ (b = [] ∧ Rite ts cs a ∧ (k : Int) ∉ a.map (·.1))) : ∃ r, -1 ≤ r ∧ r ≤ 1000 ∧ givesB (cs.getD k default).kind r = true ∧ ∀ n, Rite ts cs (a ++ ((k : Int), n) :: b) ↔ n = r := by
  have hat : ∀ n : Int, atC cs ((k : Int), n) = cs.getD k default := fun n => by unfold atC; rw [Int.toNat_natCast]
  have hck := hok _ (List.mem_of_getElem? (getD_some hk))
  have hth := hck.thing
  obtain ⟨t, htt⟩ : ∃ t, t = (cs.getD k default).thing.toNat := ⟨_, rfl⟩
  have htl : t < ts.length := by omega
  obtain ⟨s, hs⟩ : ∃ s, s = stateFrom (ts.getD t 0) (beginL (ts.getD t 0)) (ownD cs t a) := ⟨_, rfl⟩
  obtain ⟨r, hr⟩ : ∃ r, r = (stepO (ts.getD t 0) s (cs.getD k default).kind (cs.getD k default).arg).2.1 := ⟨_, rfl⟩
  have hown : ∀ n : Int, ownD cs t (a ++ ((k : Int), n) :: b) = ownD cs t a ++ ⟨(cs.getD k default).kind, (cs.getD k default).arg, n⟩ :: ownD cs t b := fun n => by
    rw [ownD_append, ownD_cons, hat, if_pos htt.symm]
    unfold ddC
    rw [hat]
  have hforce : ∀ n, Rite ts cs (a ++ ((k : Int), n) :: b) → n = r := fun n hR => by
    have h1 := hR.goes t htl
    rw [hown, goes_append, goes_cons, ← hs] at h1
    rw [hr]
    exact h1.2.2.1.symm
  have herr : (stepO (ts.getD t 0) s (cs.getD k default).kind (cs.getD k default).arg).2.2 = 0 ∧ Rite ts cs (a ++ ((k : Int), r) :: b) := by
    rcases h with h | ⟨rfl, h, hna⟩
    · have h1 := h.goes t htl
      rw [hown, goes_append, goes_cons, ← hs] at h1
      have := hforce v h
      subst this
      exact ⟨h1.2.1, h⟩
    · have hnd : ((a ++ [((k : Int), r)]).map (·.1)).Nodup := by
        rw [List.map_append, List.nodup_append]
        refine ⟨h.once, by simp, fun p hp q hq e => ?_⟩
        simp at hq
        subst hq
        subst e
        exact hna hp
      have hrg : ∀ y ∈ a ++ [((k : Int), r)], 0 ≤ y.1 ∧ y.1 < cs.length := fun y hy => by
        rcases List.mem_append.1 hy with hy | hy
        · exact h.rng y hy
        · rw [List.mem_singleton] at hy
          subst hy
          exact ⟨by show (0 : Int) ≤ (k : Nat); omega, by show ((k : Nat) : Int) < _; omega⟩
      have he := rite_room (ts := ts) hty hn (a := a) (b := []) (x := ((k : Int), r)) hrg hnd (by rw [hat]; exact hck) (by rw [hat, ← htt]; exact h.goes t htl)
      rw [hat, ← htt, ← hs] at he
      refine ⟨he, hrg, hnd, fun x hx hti => ?_, fun i hi hti => ?_, fun i j hi hj ha a1 y b1 e ey => ?_, fun t2 ht2 => ?_⟩
      · rcases List.mem_append.1 hx with hx | hx
        · exact h.res x hx hti
        · rw [List.mem_singleton] at hx
          subst hx
          rw [hat] at hti
          exact absurd ht hti
      · rw [List.map_append]
        exact List.mem_append_left _ (h.all i hi hti)
      · have hai : (cs.getD i default).til ≠ -1 := by
          unfold aheadB at ha
          rw [decide_eq_true_iff] at ha
          exact ha.1
        rcases List.eq_nil_or_concat b1 with rfl | ⟨b2, z, rfl⟩
        · have e2 := List.append_inj' e rfl
          rw [← e2.1]
          exact h.all i hi hai
        · rw [List.concat_eq_append] at e
          have e3 : a ++ [((k : Int), r)] = (a1 ++ y :: b2) ++ [z] := by rw [e]; simp
          have e2 := List.append_inj' e3 rfl
          exact h.ord i j hi hj ha a1 y b2 e2.1 ey
      · by_cases e : t2 = t
        · subst e
          rw [hown, goes_append, goes_cons, ← hs]
          exact ⟨h.goes _ ht2, he, hr.symm, rfl⟩
        · have h1 := h.goes t2 ht2
          rw [ownD_append, ownD_cons, hat, if_neg (fun h => e (by omega))]
          rw [goes_append]
          exact ⟨h1, rfl⟩
  have hgv := step_gives herr.1
  rw [← hr] at hgv
  refine ⟨r, ?_, ?_, hgv, fun n => ⟨hforce n, fun e => by subst e; exact herr.2⟩⟩
  · unfold givesB at hgv
    repeat' split at hgv
    all_goals (simp [btw] at hgv; omega)
  · unfold givesB at hgv
    repeat' split at hgv
    all_goals (simp [btw] at hgv; omega)
/-! ### One alone -/
/-- The answered calls, in their order, as they were answered. -/
def answeredL (cs : List Cl) : List (Int × Int) := ((List.range cs.length).filter fun i => (cs.getD i default).til != -1).map fun (i : Nat) => ((i : Int), (cs.getD i default).res)
theorem pair_sorted {ts : List Int} {n : Nat} {cs : List Cl} (ho : Orderly n cs) {p : Int} (hp : ∀ c ∈ cs, c.who = p) {ws : List (Int × Int)} (h : Rite ts cs ws) : ((ws.map (·.1))).Pairwise (· < ·) := by
  rw [List.pairwise_iff_getElem]
  intro i j hi hj hij
  have h1 := h.once
  rw [List.length_map] at hi hj
  apply Classical.byContradiction
  intro hn
  have e1 : (ws.map (·.1))[i] = (ws[i]).1 := by rw [List.getElem_map]
  have e2 : (ws.map (·.1))[j] = (ws[j]).1 := by rw [List.getElem_map]
  rw [e1, e2] at hn
  have hx := h.rng ws[i] (List.getElem_mem _)
  have hy := h.rng ws[j] (List.getElem_mem _)
  have hne : (ws[i]).1 ≠ (ws[j]).1 := by
    have := List.pairwise_iff_getElem.1 h1 i j (by rw [List.length_map]; exact hi) (by rw [List.length_map]; exact hj) hij
    rw [e1, e2] at this
    exact this
  have ha : aheadB cs (ws[j]).1.toNat (ws[i]).1.toNat = true := by
    unfold aheadB
    rw [decide_eq_true_iff]
    have m1 := getD_some (cs := cs) (i := (ws[j]).1.toNat) (by omega)
    have m2 := getD_some (cs := cs) (i := (ws[i]).1.toNat) (by omega)
    exact ho.own (ws[j]).1.toNat (ws[i]).1.toNat _ _ (by omega) m1 m2 (by rw [hp _ (List.mem_of_getElem? m1), hp _ (List.mem_of_getElem? m2)])
  have e : ws = ws.take i ++ ws[i] :: ws.drop (i + 1) := by rw [← List.drop_eq_getElem_cons hi, List.take_append_drop]
  refine h.not_behind (by omega) (by omega) ha e (by omega) ?_
  refine List.mem_map.2 ⟨ws[j], ?_, by omega⟩
  rw [List.mem_drop_iff_getElem]
  exact ⟨j - (i + 1), by omega, by simp [show i + 1 + (j - (i + 1)) = j by omega]⟩
/-- Of one alone: there is a right order just if that is one. -/
theorem alone_rite {ts : List Int} {n : Nat} {cs : List Cl} (ho : Orderly n cs) {p : Int} (hp : ∀ c ∈ cs, c.who = p) : Rite ts cs (answeredL cs) ↔ ∃ ws, Rite ts cs ws := by
  refine ⟨fun h => ⟨_, h⟩, ?_⟩
  rintro ⟨ws, h⟩
  obtain ⟨a, b, e, hb, hlast⟩ := cut_last (fun x : Int × Int => (atC cs x).til ≠ -1) ws
  have ha : Rite ts cs a := Rite.front (a := a) (b := b) (by rw [← e]; exact h) (fun x hx => Classical.byContradiction fun hn => hb x hx hn)
  have hall : ∀ x ∈ a, (atC cs x).til ≠ -1 := by
    intro x hx
    rcases hlast with rfl | ⟨a', y, rfl, hy⟩
    · simp at hx
    · rcases List.mem_append.1 hx with hx | hx
      · have hs := pair_sorted ho hp ha
        rw [List.map_append, List.pairwise_append] at hs
        have hlt := hs.2.2 x.1 (List.mem_map.2 ⟨x, hx, rfl⟩) y.1 (by simp)
        have rx := ha.rng x (List.mem_append_left _ hx)
        have ry := ha.rng y (by simp)
        have m1 := getD_some (cs := cs) (i := x.1.toNat) (by omega)
        have m2 := getD_some (cs := cs) (i := y.1.toNat) (by omega)
        exact (ho.own x.1.toNat y.1.toNat _ _ (by omega) m1 m2 (by rw [hp _ (List.mem_of_getElem? m1), hp _ (List.mem_of_getElem? m2)])).1
      · rw [List.mem_singleton] at hx
        subst hx
        exact hy
  have hf : a.map (·.1) = (answeredL cs).map (·.1) := by
    refine sorted_ext (pair_sorted ho hp ha) ?_ (fun z => ?_)
    · unfold answeredL
      rw [List.map_map, List.pairwise_map]
      refine (List.pairwise_lt_range.filter _).imp ?_
      intro i j hij
      show (i : Int) < (j : Int)
      omega
    · constructor
      · intro hz
        obtain ⟨x, hx, rfl⟩ := List.mem_map.1 hz
        have rx := ha.rng x hx
        unfold answeredL
        rw [List.map_map, List.mem_map]
        refine ⟨x.1.toNat, List.mem_filter.2 ⟨List.mem_range.2 (by omega), ?_⟩, ?_⟩
        · rw [bne_iff_ne]; exact hall x hx
        · show ((x.1.toNat : Nat) : Int) = x.1
          omega
      · intro hz
        unfold answeredL at hz
        rw [List.map_map, List.mem_map] at hz
        obtain ⟨i, hi, rfl⟩ := hz
        rw [List.mem_filter, List.mem_range, bne_iff_ne] at hi
        exact ha.all i hi.1 hi.2
  have e2 : a = answeredL cs := by
    have h1 : a = (a.map (·.1)).map fun k : Int => (k, (cs.getD k.toNat default).res) := by
      rw [List.map_map]
      conv => lhs; rw [← List.map_id a]
      refine List.map_congr_left fun x hx => ?_
      have := ha.res x hx (hall x hx)
      show x = (x.1, (cs.getD x.1.toNat default).res)
      unfold atC at this
      rw [this]
    have h2 : answeredL cs = ((answeredL cs).map (·.1)).map fun k : Int => (k, (cs.getD k.toNat default).res) := by
      unfold answeredL
      rw [List.map_map, List.map_map]
      refine List.map_congr_left fun i _ => ?_
      show ((i : Int), _) = ((i : Int), (cs.getD ((i : Int)).toNat default).res)
      rw [Int.toNat_natCast]
    rw [h1, h2, hf]
  rw [← e2]
  exact ha
end Go.Proofs.YtecpjeililiafaaDoor
