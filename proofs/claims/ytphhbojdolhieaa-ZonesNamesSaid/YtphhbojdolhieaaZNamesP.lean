/-
  Plain: each value of a register one more: the calls are the same, with values one more.
-/
import Derived.Test.YtphhbojdolhieaaZOpenP
namespace Go.Proofs.Ytphhbojdolhieaa
open Go.RowKit
set_option maxRecDepth 20000
def shC (k : Int) (c : Cl) : Cl := { c with arg := if c.kind = 1 then c.arg + k else c.arg, res := if c.kind = 2 ∧ c.til ≠ -1 ∧ c.res ≠ 0 then c.res + k else c.res }
def addV (k : Int) (x : Ev) : Ev := { x with val := x.val + k }
/-- What a call makes of the events. -/
def putZ (k : Int) (es : List Ev) (c : Cl) : List Ev := if c.kind = 1 then es.modify c.frm.toNat (addV k) else if c.kind = 2 ∧ c.til ≠ -1 ∧ c.res ≠ 0 then es.modify c.til.toNat (addV k) else es
def shE (k : Int) (cs : List Cl) (es : List Ev) : List Ev := cs.foldl (putZ k) es
/-- Does a call make the event at place p one more? -/
def hitZ (p : Nat) (c : Cl) : Bool := decide ((c.kind = 1 ∧ c.frm.toNat = p) ∨ (c.kind = 2 ∧ c.til ≠ -1 ∧ c.res ≠ 0 ∧ c.til.toNat = p))
theorem putZ_len (k : Int) (es : List Ev) (c : Cl) : (putZ k es c).length = es.length := by
  unfold putZ
  split
  · rw [List.length_modify]
  · split
    · rw [List.length_modify]
    · rfl
theorem shE_len (k : Int) : ∀ (cs : List Cl) (es : List Ev), (shE k cs es).length = es.length
  | [], _ => rfl
  | c :: r, es => by
    show (shE k r (putZ k es c)).length = _
    rw [shE_len k r, putZ_len]
theorem putZ_at (k : Int) (es : List Ev) (c : Cl) (p : Nat) : (putZ k es c)[p]? = es[p]?.map fun x => if hitZ p c = true then addV k x else x := by
  have hid : ∀ o : Option Ev, o = o.map fun x => x := fun o => by cases o <;> rfl
  unfold putZ hitZ
  simp only [decide_eq_true_eq]
  by_cases h1 : c.kind = 1
  · rw [if_pos h1, List.getElem?_modify]
    have h2 : ¬ c.kind = 2 := by omega
    by_cases hp : c.frm.toNat = p
    · simp [h1, hp]
    · simp [h1, hp]
  · rw [if_neg h1]
    by_cases h2 : c.kind = 2 ∧ c.til ≠ -1 ∧ c.res ≠ 0
    · rw [if_pos h2, List.getElem?_modify]
      by_cases hp : c.til.toNat = p
      · simp [h2, hp]
      · simp [h2, hp]
    · rw [if_neg h2]
      have h3 : ¬ ((c.kind = 1 ∧ c.frm.toNat = p) ∨ (c.kind = 2 ∧ c.til ≠ -1 ∧ c.res ≠ 0 ∧ c.til.toNat = p)) := fun h => by
        rcases h with h | h
        · exact h1 h.1
        · exact h2 ⟨h.1, h.2.1, h.2.2.1⟩
      simp only [h3, if_false]
      exact hid _
theorem shE_at (k : Int) : ∀ (cs : List Cl) (es : List Ev) (p : Nat), (shE k cs es)[p]? = es[p]?.map fun x => { x with val := x.val + k * (cs.countP (hitZ p) : Nat) }
  | [], es, p => by
    show es[p]? = _
    cases es[p]? with
    | none => rfl
    | some x => simp
  | c :: r, es, p => by
    show (shE k r (putZ k es c))[p]? = _
    rw [shE_at k r, putZ_at, Option.map_map, List.countP_cons]
    cases es[p]? with
    | none => rfl
    | some x =>
      simp only [Option.map_some, Function.comp_apply]
      congr 1
      by_cases h : hitZ p c = true
      · rw [if_pos h, if_pos h]
        unfold addV
        congr 1
        simp only
        push_cast
        rw [Int.mul_add]
        omega
      · rw [if_neg h, if_neg h]
        simp
theorem countP_one {α : Type} {P : α → Bool} {l : List α} {i : Nat} {c : α} (hc : l[i]? = some c) (hP : P c = true) (hu : ∀ (j : Nat) (d : α), l[j]? = some d → P d = true → j = i) : l.countP P = 1 := by
  have e : l = l.take i ++ c :: l.drop (i + 1) := by
    obtain ⟨h1, h2⟩ := List.getElem?_eq_some_iff.1 hc
    rw [← h2, ← List.drop_eq_getElem_cons h1, List.take_append_drop]
  have hi := (List.getElem?_eq_some_iff.1 hc).1
  rw [e, List.countP_append, List.countP_cons, if_pos hP]
  have h1 : (l.take i).countP P = 0 := by
    rw [List.countP_eq_zero]
    intro x hx hPx
    obtain ⟨j, hj, rfl⟩ := List.getElem_of_mem hx
    rw [List.length_take] at hj
    have := hu j _ (by rw [List.getElem_take]; exact List.getElem?_eq_getElem (by omega)) hPx
    omega
  have h2 : (l.drop (i + 1)).countP P = 0 := by
    rw [List.countP_eq_zero]
    intro x hx hPx
    obtain ⟨j, hj, rfl⟩ := List.getElem_of_mem hx
    rw [List.length_drop] at hj
    have := hu (i + 1 + j) _ (by rw [List.getElem_drop]; exact List.getElem?_eq_getElem (by omega)) hPx
    omega
  rw [h1, h2]
theorem countP_none {α : Type} {P : α → Bool} {l : List α} (hu : ∀ (j : Nat) (d : α), l[j]? = some d → P d = true → False) : l.countP P = 0 := by
  rw [List.countP_eq_zero]
  intro x hx hPx
  obtain ⟨j, hj, rfl⟩ := List.getElem_of_mem hx
  exact hu j _ (List.getElem?_eq_getElem hj) hPx
structure EvF (l : List Ev) (n : Nat) (cs : List Cl) : Prop where
  inv : ∀ (i : Nat) (c : Cl), cs[i]? = some c → 0 ≤ c.frm ∧ c.frm < n ∧ ∃ x : Ev, l[c.frm.toNat]? = some x ∧ x.kind ≠ 0
  res : ∀ (i : Nat) (c : Cl), cs[i]? = some c → c.til ≠ -1 → 0 ≤ c.til ∧ c.til < n ∧ ∃ x : Ev, l[c.til.toNat]? = some x ∧ x.kind = 0
  fu : ∀ (i j : Nat) (c d : Cl), cs[i]? = some c → cs[j]? = some d → c.frm = d.frm → i = j
  tu : ∀ (i j : Nat) (c d : Cl), cs[i]? = some c → cs[j]? = some d → c.til = d.til → c.til ≠ -1 → i = j
theorem EvF.step {ts : List Int} {l : List Ev} {n : Nat} {cs cs' : List Cl} {x : Ev} (h : EvF l n cs) (hx : l[n]? = some x) (hs : Go.Proofs.Ytphhbojdolhieaa.step ts n cs x = .inr cs') : EvF l (n + 1) cs' := by
  rcases step_ways hs with ⟨hk, i, hi, _, _, ht, rfl, _⟩ | ⟨hk, _, rfl, _⟩
  · have hci := getD_some hi
    have hat : ∀ (j : Nat) (d : Cl), (cs.set i { cs.getD i default with res := x.val, til := n })[j]? = some d → (j = i ∧ d = { cs.getD i default with res := x.val, til := n }) ∨ (j ≠ i ∧ cs[j]? = some d) := by
      intro j d hd
      rw [List.getElem?_set] at hd
      by_cases e : i = j
      · rw [if_pos e, if_pos hi] at hd
        injection hd with hd
        exact .inl ⟨e.symm, hd.symm⟩
      · rw [if_neg e] at hd
        exact .inr ⟨fun e2 => e e2.symm, hd⟩
    refine ⟨fun j d hd => ?_, fun j d hd hti => ?_, fun j q d e hd he hf => ?_, fun j q d e hd he hf hti => ?_⟩
    · rcases hat j d hd with ⟨rfl, rfl⟩ | ⟨_, hd⟩
      · obtain ⟨a, b, c⟩ := h.inv j _ hci
        exact ⟨a, by show (cs.getD j default).frm < _; omega, c⟩
      · obtain ⟨a, b, c⟩ := h.inv j d hd
        exact ⟨a, by omega, c⟩
    · rcases hat j d hd with ⟨rfl, rfl⟩ | ⟨_, hd⟩
      · exact ⟨by show (0 : Int) ≤ (n : Int); omega, by show (n : Int) < _; omega, x, by show l[((n : Nat) : Int).toNat]? = _; rw [Int.toNat_natCast]; exact hx, hk⟩
      · obtain ⟨a, b, c⟩ := h.res j d hd hti
        exact ⟨a, by omega, c⟩
    · rcases hat j d hd with ⟨rfl, rfl⟩ | ⟨n1, hd2⟩ <;> rcases hat q e he with ⟨rfl, rfl⟩ | ⟨n2, he2⟩
      · rfl
      · exact h.fu j q _ e hci he2 hf
      · exact h.fu j q d _ hd2 hci hf
      · exact h.fu j q d e hd2 he2 hf
    · rcases hat j d hd with ⟨rfl, rfl⟩ | ⟨n1, hd2⟩ <;> rcases hat q e he with ⟨rfl, rfl⟩ | ⟨n2, he2⟩
      · rfl
      · exfalso
        have hf : (n : Int) = e.til := hf
        have := (h.res q e he2 (by omega)).2.1
        omega
      · exfalso
        have hf : d.til = (n : Int) := hf
        have := (h.res j d hd2 hti).2.1
        omega
      · exact h.tu j q d e hd2 he2 hf hti
  · have hat : ∀ (j : Nat) (d : Cl), (cs ++ [⟨x.who, x.thing, x.kind, x.val, 0, n, -1⟩])[j]? = some d → (j = cs.length ∧ d = ⟨x.who, x.thing, x.kind, x.val, 0, n, -1⟩) ∨ cs[j]? = some d := by
      intro j d hd
      rw [List.getElem?_append] at hd
      split at hd
      · exact .inr hd
      · rename_i hj
        have hl := (List.getElem?_eq_some_iff.1 hd).1
        simp at hl
        have : j - cs.length = 0 := by omega
        rw [this] at hd
        simp at hd
        exact .inl ⟨by omega, hd.symm⟩
    refine ⟨fun j d hd => ?_, fun j d hd hti => ?_, fun j q d e hd he hf => ?_, fun j q d e hd he hf hti => ?_⟩
    · rcases hat j d hd with ⟨rfl, rfl⟩ | hd
      · exact ⟨by show (0 : Int) ≤ (n : Int); omega, by show (n : Int) < _; omega, x, by show l[((n : Nat) : Int).toNat]? = _; rw [Int.toNat_natCast]; exact hx, hk⟩
      · obtain ⟨a, b, c⟩ := h.inv j d hd
        exact ⟨a, by omega, c⟩
    · rcases hat j d hd with ⟨rfl, rfl⟩ | hd
      · exact absurd rfl hti
      · obtain ⟨a, b, c⟩ := h.res j d hd hti
        exact ⟨a, by omega, c⟩
    · rcases hat j d hd with ⟨rfl, rfl⟩ | hd2 <;> rcases hat q e he with ⟨rfl, rfl⟩ | he2
      · rfl
      · exfalso
        have hf : (n : Int) = e.frm := hf
        have := (h.inv q e he2).2.1
        omega
      · exfalso
        have hf : d.frm = (n : Int) := hf
        have := (h.inv j d hd2).2.1
        omega
      · exact h.fu j q d e hd2 he2 hf
    · rcases hat j d hd with ⟨rfl, rfl⟩ | hd2 <;> rcases hat q e he with ⟨rfl, rfl⟩ | he2
      · rfl
      · exact absurd rfl hti
      · have hf : d.til = -1 := hf
        exact absurd hf hti
      · exact h.tu j q d e hd2 he2 hf hti
/-- One event more. -/
theorem run_succ {ts : List Int} {l : List Ev} {n : Nat} {x : Ev} (hx : l[n]? = some x) (h0 : (run ts 0 [] (l.take (n + 1))).2.2 = 0) : (run ts 0 [] (l.take n)).2.2 = 0 ∧ Go.Proofs.Ytphhbojdolhieaa.step ts n (run ts 0 [] (l.take n)).1 x = .inr (run ts 0 [] (l.take (n + 1))).1 := by
  have hn := (List.getElem?_eq_some_iff.1 hx).1
  have e : l.take (n + 1) = l.take n ++ [x] := by rw [List.take_add_one, hx]; rfl
  rw [e, run_append] at h0 ⊢
  by_cases h1 : (run ts 0 [] (l.take n)).2.2 = 0
  · rw [if_pos h1] at h0 ⊢
    refine ⟨h1, ?_⟩
    rw [List.length_take, Nat.min_eq_left (by omega), Nat.zero_add] at h0 ⊢
    rw [run] at h0 ⊢
    cases hs : Go.Proofs.Ytphhbojdolhieaa.step ts n (run ts 0 [] (l.take n)).1 x with
    | inl e => rw [hs] at h0; exact absurd h0 (step_err hs)
    | inr cs' => rfl
  · rw [if_neg h1] at h0
    exact absurd h0 h1
theorem run_evf {ts : List Int} {l : List Ev} : ∀ n, n ≤ l.length → (run ts 0 [] (l.take n)).2.2 = 0 → EvF l n (run ts 0 [] (l.take n)).1
  | 0, _, _ => by
    rw [List.take_zero]
    exact ⟨fun i c h => by simp [run] at h, fun i c h => by simp [run] at h, fun i j c d h => by simp [run] at h, fun i j c d h => by simp [run] at h⟩
  | n + 1, hn, h0 => by
    obtain ⟨x, hx⟩ : ∃ x, l[n]? = some x := ⟨_, List.getElem?_eq_getElem (by omega)⟩
    obtain ⟨h1, h2⟩ := run_succ hx h0
    exact (run_evf n (by omega) h1).step hx h2
theorem openFrom_sh (k : Int) (who : Int) : ∀ (cs : List Cl) (i : Nat) (a : Int), openFrom who i a (cs.map (shC k)) = openFrom who i a cs
  | [], _, _ => rfl
  | c :: r, i, a => by
    rw [List.map_cons, openFrom, openFrom, openFrom_sh k who r]
    rfl
theorem openOf_sh (k : Int) (cs : List Cl) (who : Int) : openOf (cs.map (shC k)) who = openOf cs who := openFrom_sh k who cs 0 (-1)
/-- **The calls of the events with values one more.** -/
theorem run_sh {k : Int} {l : List Ev} (h0 : (run [1] 0 [] l).2.2 = 0) (hk2 : ∀ c ∈ (run [1] 0 [] l).1, c.kind = 1 ∨ c.kind = 2) :
    ∀ n, n ≤ l.length → (run [1] 0 [] ((shE k (run [1] 0 [] l).1 l).take n)).2.2 = 0 → (run [1] 0 [] ((shE k (run [1] 0 [] l).1 l).take n)).1 = (run [1] 0 [] (l.take n)).1.map (shC k)
  | 0, _, _ => by rw [List.take_zero, List.take_zero]; rfl
  | n + 1, hn, hm0 => by
    have hF : EvF l l.length (run [1] 0 [] l).1 := by
      have := run_evf (ts := [1]) (l := l) l.length (Nat.le_refl _) (by rw [List.take_length]; exact h0)
      rwa [List.take_length] at this
    obtain ⟨x, hx⟩ : ∃ x, l[n]? = some x := ⟨_, List.getElem?_eq_getElem (by omega)⟩
    obtain ⟨g1, G⟩ := front_ok (n := n + 1) hn h0
    obtain ⟨g2, hs⟩ := run_succ hx g1
    have hx' : (shE k (run [1] 0 [] l).1 l)[n]? = some { x with val := x.val + k * ((run [1] 0 [] l).1.countP (hitZ n) : Nat) } := by rw [shE_at, hx]; rfl
    obtain ⟨m2, hs'⟩ := run_succ hx' hm0
    have ih := run_sh h0 hk2 n (by omega) m2
    rw [ih] at hs'
    generalize (run [1] 0 [] (l.take n)).1 = d at hs hs' g2 ih
    generalize (run [1] 0 [] (l.take (n + 1))).1 = d1 at hs G g1
    generalize (run [1] 0 [] ((shE k (run [1] 0 [] l).1 l).take (n + 1))).1 = d1' at hs'
    generalize (run [1] 0 [] l).1 = cs at hF G hs' hx' hk2
    -- a call whose event stands at n
    have hno : ∀ (j : Nat) (e : Cl), cs[j]? = some e → hitZ n e = true → (x.kind ≠ 0 ∧ e.kind = 1 ∧ e.frm = (n : Int)) ∨ (x.kind = 0 ∧ e.kind = 2 ∧ e.til = (n : Int) ∧ e.res ≠ 0) := by
      intro j e he hh
      unfold hitZ at hh
      rw [decide_eq_true_iff] at hh
      rcases hh with ⟨a1, a2⟩ | ⟨a1, a2, a3, a4⟩
      · obtain ⟨b1, _, y, b2, b3⟩ := hF.inv j e he
        rw [a2, hx] at b2
        injection b2 with b2
        subst b2
        exact .inl ⟨b3, a1, by omega⟩
      · obtain ⟨b1, _, y, b2, b3⟩ := hF.res j e he a2
        rw [a4, hx] at b2
        injection b2 with b2
        subst b2
        exact .inr ⟨b3, a1, by omega, a3⟩
    rcases step_ways hs with ⟨hk, i, hi, ho, _, ht, rfl, _⟩ | ⟨hk, _, rfl, _⟩
    · -- an answer
      rcases step_ways hs' with ⟨_, i', hi', ho', _, _, rfl, _⟩ | ⟨hk', _, _, _⟩
      · rw [openOf_sh] at ho'
        have ho2 : openOf d x.who = (i' : Int) := ho'
        obtain rfl : i' = i := by omega
        have hdi := getD_some hi
        have hci : cs[i']? = some { d.getD i' default with res := x.val, til := n } := by
          have h1 : (d.set i' { d.getD i' default with res := x.val, til := n })[i']? = some { d.getD i' default with res := x.val, til := n } := by
            rw [List.getElem?_set, if_pos rfl, if_pos hi]
          obtain ⟨y, hy, e⟩ : ∃ y, cs[i']? = some y ∧ { d.getD i' default with res := x.val, til := (n : Int) } = before_ (n + 1) y := by
            have h2 := (List.getElem?_eq_some_iff.1 h1).1
            obtain ⟨y, hy⟩ : ∃ y, cs[i']? = some y := ⟨_, List.getElem?_eq_getElem (Nat.lt_of_lt_of_le h2 G.len)⟩
            exact ⟨y, hy, G.same i' _ y h1 hy⟩
          rw [hy, e]
          congr 1
          unfold before_ at e ⊢
          split
          · rename_i h9
            rw [if_pos h9] at e
            have := congrArg Cl.til e
            simp only at this
            omega
          · rfl
        have hkd := hk2 _ (List.mem_of_getElem? hci)
        have hcnt : (cs.countP (hitZ n) : Nat) = if (d.getD i' default).kind = 2 ∧ x.val ≠ 0 then 1 else 0 := by
          split
          · rename_i h9
            refine countP_one hci ?_ ?_
            · unfold hitZ
              rw [decide_eq_true_iff]
              exact .inr ⟨h9.1, by show (n : Int) ≠ -1; omega, h9.2, by show ((n : Nat) : Int).toNat = n; omega⟩
            · intro j e he hh
              rcases hno j e he hh with a | a
              · exact absurd hk a.1
              · exact hF.tu j i' e _ he hci a.2.2.1 (by rw [a.2.2.1]; omega)
          · rename_i h9
            refine countP_none fun j e he hh => ?_
            rcases hno j e he hh with a | a
            · exact absurd hk a.1
            · have := hF.tu j i' e _ he hci a.2.2.1 (by rw [a.2.2.1]; omega)
              subst this
              rw [hci] at he
              injection he with he
              subst he
              exact h9 ⟨a.2.1, a.2.2.2⟩
        rw [List.map_set]
        have hgd : (d.map (shC k)).getD i' default = shC k (d.getD i' default) := by
          rw [List.getD_eq_getElem?_getD, List.getElem?_map, hdi]
          rfl
        rw [hgd]
        congr 1
        unfold shC
        simp only
        refine Cl.same rfl rfl rfl rfl ?_ rfl rfl
        simp only
        rw [hcnt]
        have hn1 : (n : Int) ≠ -1 := by omega
        by_cases h9 : (d.getD i' default).kind = 2 ∧ x.val ≠ 0
        · rw [if_pos h9, if_pos ⟨h9.1, hn1, h9.2⟩]
          omega
        · rw [if_neg h9, if_neg (fun h => h9 ⟨h.1, h.2.2⟩)]
          omega
      · exact absurd hk hk'
    · -- a call
      rcases step_ways hs' with ⟨hk', _, _, _, _, _, _, _⟩ | ⟨_, _, rfl, _⟩
      · exact absurd hk' hk
      · have hd1 : (d ++ [⟨x.who, x.thing, x.kind, x.val, 0, (n : Int), -1⟩])[d.length]? = some (⟨x.who, x.thing, x.kind, x.val, 0, (n : Int), -1⟩ : Cl) := by simp
        obtain ⟨y, hy⟩ : ∃ y, cs[d.length]? = some y := ⟨_, List.getElem?_eq_getElem (Nat.lt_of_lt_of_le (List.getElem?_eq_some_iff.1 hd1).1 G.len)⟩
        have e := G.same d.length _ y hd1 hy
        have hyk : y.kind = x.kind ∧ y.frm = (n : Int) := by
          have a1 := congrArg Cl.kind e
          have a2 := congrArg Cl.frm e
          have a3 : (before_ (n + 1) y).kind = y.kind ∧ (before_ (n + 1) y).frm = y.frm := by unfold before_; split <;> exact ⟨rfl, rfl⟩
          rw [a3.1] at a1
          rw [a3.2] at a2
          exact ⟨a1.symm, a2.symm⟩
        have hcnt : (cs.countP (hitZ n) : Nat) = if x.kind = 1 then 1 else 0 := by
          split
          · rename_i h9
            refine countP_one hy ?_ ?_
            · unfold hitZ
              rw [decide_eq_true_iff]
              exact .inl ⟨hyk.1.trans h9, by rw [hyk.2]; omega⟩
            · intro j e he hh
              rcases hno j e he hh with a | a
              · exact hF.fu j _ e y he hy (a.2.2.trans hyk.2.symm)
              · exact absurd a.1 hk
          · rename_i h9
            refine countP_none fun j e he hh => ?_
            rcases hno j e he hh with a | a
            · have := hF.fu j _ e y he hy (a.2.2.trans hyk.2.symm)
              subst this
              rw [hy] at he
              injection he with he
              subst he
              exact h9 (hyk.1.symm.trans a.2.1)
            · exact absurd a.1 hk
        rw [List.map_append, List.map_cons, List.map_nil]
        congr 2
        unfold shC
        simp only
        refine Cl.same rfl rfl rfl ?_ ?_ rfl rfl
        · simp only
          rw [hcnt]
          split <;> simp
        · simp
end Go.Proofs.Ytphhbojdolhieaa
