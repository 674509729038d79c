/-
  Joined by a program out of: BagSayP, BagArgs.
-/
import Derived.Test.YtfgangkpebkicaaGreatDoorMgAT
import Derived.Test.YtfgangkpebkicaaGreatDoorMgAD

/-
  Plain: what package bags tells of a history: the error, and the numbers that can't be; the part of a number alone, and numbers one more.
-/
namespace Go.Proofs.YtfgangkpebkicaaGreatDoor
open Go.RowKit
set_option maxRecDepth 20000
/-- The error of package bags. -/
def bagsE (l : List Ev) : Int := if (callsOf [4] l).2.2 ≠ 0 then (callsOf [4] l).2.2 else if ((callsOf [4] l).1.any fun c => decide (9 < (ownV (callsOf [4] l).1 c.arg).length)) = true then 2 else 0
/-- Is there no right order of the calls of number v? -/
noncomputable def badV (cs : List Cl) (v : Int) : Bool := @decide (¬ ∃ ws, Rite [4] (ownV cs v) ws) (Classical.propDecidable _)
theorem badV_iff {cs : List Cl} {v : Int} : badV cs v = true ↔ ¬ ∃ ws, Rite [4] (ownV cs v) ws := by
  unfold badV
  exact @decide_eq_true_iff _ (Classical.propDecidable _)
/-- The numbers that can't be. -/
noncomputable def bagB (l : List Ev) : List Int := ((List.range 1001).map fun (k : Nat) => (k : Int)).filter fun v => ((callsOf [4] l).1.any fun c => c.arg == v) && badV (callsOf [4] l).1 v
theorem bagB_up (l : List Ev) : (bagB l).Pairwise (· < ·) := by
  unfold bagB
  refine List.Pairwise.filter _ ?_
  rw [List.pairwise_map]
  exact List.pairwise_lt_range.imp fun h => by omega
theorem bagsE_zero {l : List Ev} : bagsE l = 0 ↔ (callsOf [4] l).2.2 = 0 ∧ ∀ v, (ownV (callsOf [4] l).1 v).length ≤ 9 := by
  unfold bagsE
  by_cases h : (callsOf [4] l).2.2 = 0
  · rw [if_neg (fun h2 => h2 h)]
    by_cases h2 : ((callsOf [4] l).1.any fun c => decide (9 < (ownV (callsOf [4] l).1 c.arg).length)) = true
    · rw [if_pos h2]
      obtain ⟨c, _, hc⟩ := List.any_eq_true.1 h2
      have := of_decide_eq_true hc
      exact ⟨fun h3 => absurd h3 (by decide), fun h3 => by have := h3.2 c.arg; omega⟩
    · rw [if_neg h2]
      refine ⟨fun _ => ⟨h, fun v => ?_⟩, fun _ => rfl⟩
      apply Classical.byContradiction
      intro hv
      have hne : ownV (callsOf [4] l).1 v ≠ [] := fun e => by rw [e] at hv; exact hv (by decide)
      obtain ⟨c, hc⟩ := List.exists_mem_of_ne_nil _ hne
      obtain ⟨h3, rfl⟩ := ownV_mem.1 hc
      exact h2 (List.any_eq_true.2 ⟨c, h3, decide_eq_true (by omega)⟩)
  · rw [if_pos h]
    exact ⟨fun h3 => absurd h3 h, fun h3 => absurd h3.1 h⟩
theorem bagB_mem {l : List Ev} (h : (callsOf [4] l).2.2 = 0) {v : Int} : v ∈ bagB l ↔ (∃ c ∈ (callsOf [4] l).1, c.arg = v) ∧ ¬ ∃ ws, Rite [4] (ownV (callsOf [4] l).1 v) ws := by
  unfold bagB
  rw [List.mem_filter, Bool.and_eq_true, badV_iff, List.any_eq_true]
  simp only [beq_iff_eq]
  constructor
  · rintro ⟨_, h1, h2⟩
    exact ⟨h1, h2⟩
  · rintro ⟨⟨c, hc, rfl⟩, h2⟩
    have := (calls_bagH h).set c hc
    exact ⟨List.mem_map.2 ⟨c.arg.toNat, List.mem_range.2 (by omega), by omega⟩, ⟨c, hc, rfl⟩, h2⟩
theorem inc_ext : ∀ {a b : List Int}, a.Pairwise (· < ·) → b.Pairwise (· < ·) → (∀ x, x ∈ a ↔ x ∈ b) → a = b := by
  intro a b ha hb hm
  have h1 : a.Nodup := ha.imp fun h => by omega
  have h2 : b.Nodup := hb.imp fun h => by omega
  exact List.Perm.eq_of_pairwise (le := fun x y : Int => x < y) (fun x y _ _ h1 h2 => by omega) ha hb ((List.perm_ext_iff_of_nodup h1 h2).2 hm)
/-- HERLIHY, WING: there is a right order just if no number is told. -/
theorem bags_search {l : List Ev} (h : (callsOf [4] l).2.2 = 0) (hn : (callsOf [4] l).1.length ≤ 50) : (∃ ws, Rite [4] (callsOf [4] l).1 ws) ↔ bagB l = [] := by
  rw [bag_iff (calls_bagH h) hn, List.eq_nil_iff_forall_not_mem]
  constructor
  · intro k v hv
    exact ((bagB_mem h).1 hv).2 (k v)
  · intro k v
    apply Classical.byContradiction
    intro hv
    refine k v ((bagB_mem h).2 ⟨?_, hv⟩)
    apply Classical.byContradiction
    intro hc
    have e : ownV (callsOf [4] l).1 v = [] := List.filter_eq_nil_iff.2 fun c hc2 => by rw [beq_iff_eq]; exact fun e => hc ⟨c, hc2, e⟩
    refine hv ?_
    rw [e]
    exact ⟨[], ⟨fun x hx => absurd hx List.not_mem_nil, List.nodup_nil, fun x hx => absurd hx List.not_mem_nil, fun i hi => absurd hi (Nat.not_lt_zero _), fun i j hi => absurd hi (Nat.not_lt_zero _), fun t ht => by
      have : t = 0 := by simp at ht; exact ht
      subst this
      rfl⟩⟩
theorem step_frm {ts : List Int} {n : Nat} {cs cs' : List Cl} {x : Ev} (hs : step ts n cs x = .inr cs') {z : Int} (h : ∃ c ∈ cs, c.frm = z ∨ (c.til ≠ -1 ∧ c.til = z)) : ∃ c ∈ cs', c.frm = z ∨ (c.til ≠ -1 ∧ c.til = z) := by
  obtain ⟨c, hc, h⟩ := h
  by_cases ht : c.til = -1
  · have hz : c.frm = z := h.elim id fun h => absurd ht h.1
    unfold step respS invS at hs
    repeat' split at hs
    all_goals (try cases hs)
    · obtain ⟨e, e1, e2, e3, e4⟩ := openOf_at (cs := cs) (who := x.who) (by omega)
      obtain ⟨i, hi⟩ := List.getElem?_of_mem hc
      by_cases hne : (openOf cs x.who).toNat = i
      · rw [hne] at e4 ⊢
        refine ⟨_, List.mem_set e4 _, .inl ?_⟩
        show (cs.getD i default).frm = z
        rw [List.getD_eq_getElem?_getD, hi]
        exact hz
      · exact ⟨c, List.mem_of_getElem? (i := i) (by rw [List.getElem?_set_ne hne]; exact hi), .inl hz⟩
    · exact ⟨c, List.mem_append_left _ hc, .inl hz⟩
  · exact ⟨c, step_closed hs hc ht, h⟩
/-- Each event is one of a call. -/
theorem run_cover {ts : List Int} : ∀ (l : List Ev) (n : Nat) (cs : List Cl), (run ts n cs l).2.2 = 0 → ∀ z : Int, ((∃ c ∈ cs, c.frm = z ∨ (c.til ≠ -1 ∧ c.til = z)) ∨ ((n : Int) ≤ z ∧ z < n + l.length)) → ∃ c ∈ (run ts n cs l).1, c.frm = z ∨ (c.til ≠ -1 ∧ c.til = z)
  | [], n, cs, _, z, h => by
    rcases h with h | h
    · exact h
    · simp at h; omega
  | x :: l, n, cs, h0, z, h => by
    rw [run] at h0 ⊢
    cases hs : step ts n cs x with
    | inl e => rw [hs] at h0; exact absurd h0 (step_err hs)
    | inr cs' =>
      rw [hs] at h0
      refine run_cover l (n + 1) cs' h0 z ?_
      rcases h with h | h
      · exact .inl (step_frm hs h)
      · by_cases e : z = (n : Int)
        · subst e
          left
          unfold step respS invS at hs
          repeat' split at hs
          all_goals (try cases hs)
          · obtain ⟨e, e1, e2, e3, e4⟩ := openOf_at (cs := cs) (who := x.who) (by omega)
            exact ⟨_, List.mem_set e4 _, .inr ⟨by simp only; omega, rfl⟩⟩
          · exact ⟨_, List.mem_append_right _ (List.mem_singleton.2 rfl), .inl rfl⟩
        · right
          rw [List.length_cons] at h
          push_cast at h ⊢
          omega
theorem calls_cover {ts : List Int} {l : List Ev} (h : (callsOf ts l).2.2 = 0) {z : Int} (h0 : 0 ≤ z) (h1 : z < l.length) : ∃ c ∈ (callsOf ts l).1, c.frm = z ∨ (c.til ≠ -1 ∧ c.til = z) := by
  obtain ⟨_, _, e⟩ := calls_zero h
  rw [e] at h ⊢
  exact run_cover l 0 [] h z (.inr ⟨by omega, by omega⟩)
theorem subL_all {k : Int → Bool} : ∀ (l : List Ev) (n : Nat), (∀ z : Int, (n : Int) ≤ z → z < n + l.length → k z = true) → subL k n l = l
  | [], _, _ => rfl
  | x :: l, n, h => by
    rw [subL, if_pos (h n (by omega) (by rw [List.length_cons]; omega)), subL_all l (n + 1) (fun z h1 h2 => h z (by omega) (by rw [List.length_cons]; omega))]
section
variable {l : List Ev}
theorem bag_argE (h : (callsOf [4] l).2.2 = 0) (v : Int) : ∀ c ∈ (callsOf [4] (bagL l v)).1, c.arg = v := fun c hc => by
  rw [bag_calls h v] at hc
  obtain ⟨d, hd, rfl⟩ := List.mem_map.1 hc
  exact (ownV_mem.1 hd).2
theorem bag_own (h : (callsOf [4] l).2.2 = 0) (v : Int) : ownV (callsOf [4] (bagL l v)).1 v = (callsOf [4] (bagL l v)).1 := List.filter_eq_self.2 fun c hc => by rw [beq_iff_eq]; exact bag_argE h v c hc
/-- The part of the part is the part. -/
theorem bag_again (h : (callsOf [4] l).2.2 = 0) (v : Int) : bagL (bagL l v) v = bagL l v := by
  have h1 : (callsOf [4] (bagL l v)).2.2 = 0 := by rw [bag_calls h v]
  have key := @subL_all (bagK (callsOf [4] (bagL l v)).1 v) (bagL l v) 0 (fun z h2 h3 => by
    obtain ⟨c, hc, hz⟩ := calls_cover h1 (z := z) (by omega) (by omega)
    exact bagK_iff.2 ⟨c, hc, bag_argE h v c hc, hz⟩)
  exact key
theorem bag_small (h : bagsE l = 0) (v : Int) : bagsE (bagL l v) = 0 := by
  obtain ⟨h1, h2⟩ := bagsE_zero.1 h
  have e := bag_calls h1 v
  refine bagsE_zero.2 ⟨by rw [e], fun u => ?_⟩
  have h3 : (ownV (callsOf [4] (bagL l v)).1 u).length ≤ (callsOf [4] (bagL l v)).1.length := List.length_filter_le _ _
  have h4 : (callsOf [4] (bagL l v)).1.length = (ownV (callsOf [4] l).1 v).length := by rw [e]; exact List.length_map _
  have := h2 v
  omega
/-- Of the part of one number just that is told. -/
theorem bag_alone (h : (callsOf [4] l).2.2 = 0) (v : Int) : bagB (bagL l v) = if v ∈ bagB l then [v] else [] := by
  have h1 : (callsOf [4] (bagL l v)).2.2 = 0 := by rw [bag_calls h v]
  have key : ∀ u, u ∈ bagB (bagL l v) ↔ u = v ∧ v ∈ bagB l := fun u => by
    rw [bagB_mem h1, bagB_mem h]
    constructor
    · rintro ⟨⟨c, hc, rfl⟩, h3⟩
      have hv := bag_argE h v c hc
      rw [hv] at h3 ⊢
      rw [bag_own h v] at h3
      rw [bag_calls h v] at hc
      obtain ⟨d, hd, _⟩ := List.mem_map.1 hc
      obtain ⟨hd1, hd2⟩ := ownV_mem.1 hd
      exact ⟨rfl, ⟨d, hd1, hd2⟩, fun ⟨ws, hw⟩ => h3 ⟨ws, (bag_part h v).2 hw⟩⟩
    · rintro ⟨rfl, ⟨c, hc, e⟩, h3⟩
      refine ⟨⟨rtC (bagR l u) c, ?_, e⟩, ?_⟩
      · rw [bag_calls h u]
        exact List.mem_map.2 ⟨c, ownV_mem.2 ⟨hc, e⟩, rfl⟩
      · rw [bag_own h u]
        exact fun ⟨ws, hw⟩ => h3 ⟨ws, (bag_part h u).1 hw⟩
  by_cases hv : v ∈ bagB l
  · rw [if_pos hv]
    refine inc_ext (bagB_up _) (List.pairwise_singleton _ _) fun u => ?_
    rw [key u, List.mem_singleton]
    exact ⟨fun h => h.1, fun h => ⟨h, hv⟩⟩
  · rw [if_neg hv]
    refine List.eq_nil_iff_forall_not_mem.2 fun u hu => hv ((key u).1 hu).2
end
def addM (m : Int) (x : Ev) : Ev := if x.kind ≠ 0 then { x with val := x.val + m } else x
theorem open_argC (f : Int → Int) (who : Int) : ∀ (cs : List Cl) (k : Nat) (a : Int), openFrom who k a (cs.map (argC f)) = openFrom who k a cs
  | [], _, _ => rfl
  | c :: cs, k, a => by
    rw [List.map_cons, openFrom, openFrom, open_argC f who cs]
    rfl
theorem step_argC {ts : List Int} {n : Nat} {cs cs' : List Cl} {x : Ev} {m : Int} (hs : step ts n cs x = .inr cs') (hs2 : ∃ ds, step ts n (cs.map (argC (· + m))) (addM m x) = .inr ds) : step ts n (cs.map (argC (· + m))) (addM m x) = .inr (cs'.map (argC (· + m))) := by
  have ho : openOf (cs.map (argC (· + m))) x.who = openOf cs x.who := open_argC _ _ _ _ _
  have e1 : (addM m x).who = x.who := by unfold addM; split <;> rfl
  have e2 : (addM m x).thing = x.thing := by unfold addM; split <;> rfl
  have e3 : (addM m x).kind = x.kind := by unfold addM; split <;> rfl
  obtain ⟨ds, hs2⟩ := hs2
  have hs3 := hs2
  unfold step at hs hs2
  rw [e1, e2, e3] at hs2
  split at hs
  · cases hs
  rename_i hx
  rw [if_neg hx] at hs2
  by_cases hk : x.kind = 0
  · rw [if_pos hk] at hs hs2
    have e4 : addM m x = x := by unfold addM; rw [if_neg (fun h => h hk)]
    rw [hs3, ← hs2, e4]
    unfold respS at hs ⊢
    rw [ho]
    split at hs
    · cases hs
    rename_i h0
    rw [if_neg h0]
    split at hs
    · cases hs
    rename_i hg
    obtain ⟨c, f1, f2, f3, f4⟩ := openOf_at (cs := cs) (who := x.who) (by omega)
    have hgm : (cs.map (argC (· + m))).getD (openOf cs x.who).toNat default = argC (· + m) (cs.getD (openOf cs x.who).toNat default) := getD_map f4
    rw [hgm, if_neg (by exact hg)]
    injection hs with hs
    subst hs
    congr 1
    rw [List.map_set]
    rfl
  · rw [if_neg hk] at hs hs2
    rw [hs3, ← hs2]
    unfold invS at hs hs2 ⊢
    rw [e1, ho, e2, e3] at hs2 ⊢
    split at hs
    · cases hs
    split at hs
    · cases hs
    rename_i h0
    split at hs2
    · cases hs2
    rename_i hf
    rw [if_neg hf, if_neg h0]
    injection hs with hs
    subst hs
    congr 1
    rw [List.map_append]
    congr 1
    have e5 : (addM m x).val = x.val + m := by unfold addM; rw [if_pos hk]
    rw [e5]
    rfl
theorem run_argC {ts : List Int} {m : Int} : ∀ (l : List Ev) (n : Nat) (cs : List Cl), (run ts n cs l).2.2 = 0 → (run ts n (cs.map (argC (· + m))) (l.map (addM m))).2.2 = 0 → (run ts n (cs.map (argC (· + m))) (l.map (addM m))).1 = (run ts n cs l).1.map (argC (· + m))
  | [], _, _, _, _ => rfl
  | x :: l, n, cs, h, h2 => by
    rw [List.map_cons, run] at h2 ⊢
    rw [run] at h ⊢
    cases hs : step ts n cs x with
    | inl e => rw [hs] at h; exact absurd h (step_err hs)
    | inr cs' =>
      cases hs2 : step ts n (cs.map (argC (· + m))) (addM m x) with
      | inl e => rw [hs2] at h2; exact absurd h2 (step_err hs2)
      | inr ds =>
        have := step_argC hs ⟨ds, hs2⟩
        rw [hs2] at this
        injection this with this
        subst this
        rw [hs2] at h2
        rw [hs] at h
        exact run_argC l (n + 1) cs' h h2
theorem calls_argC {ts : List Int} {l : List Ev} {m : Int} (h : (callsOf ts l).2.2 = 0) (h2 : (callsOf ts (l.map (addM m))).2.2 = 0) : (callsOf ts (l.map (addM m))).1 = (callsOf ts l).1.map (argC (· + m)) := by
  obtain ⟨_, _, e⟩ := calls_zero h
  obtain ⟨_, _, e2⟩ := calls_zero h2
  rw [e] at h ⊢
  rw [e2] at h2 ⊢
  exact run_argC l 0 [] h h2
theorem bag_names {l : List Ev} {m : Int} (h : bagsE l = 0) (h2 : bagsE (l.map (addM m)) = 0) : bagB (l.map (addM m)) = (bagB l).map (· + m) := by
  obtain ⟨h1, h9⟩ := bagsE_zero.1 h
  obtain ⟨h3, _⟩ := bagsE_zero.1 h2
  have hc := calls_argC h1 h3
  have hown : ∀ v, ownV ((callsOf [4] l).1.map (argC (· + m))) (v + m) = (ownV (callsOf [4] l).1 v).map (argC (· + m)) := fun v => by
    unfold ownV
    rw [List.filter_map]
    congr 1
    refine List.filter_congr fun c _ => ?_
    show (c.arg + m == v + m) = (c.arg == v)
    rw [Bool.eq_iff_iff, beq_iff_eq, beq_iff_eq]
    omega
  have hrite : ∀ v ws, Rite [4] (ownV (callsOf [4] (l.map (addM m))).1 (v + m)) ws ↔ Rite [4] (ownV (callsOf [4] l).1 v) ws := fun v ws => by
    have hs2 := ((calls_bagH h3).own (v + m)).set
    rw [hc, hown v] at hs2 ⊢
    exact rite_argC (fun x y e => by omega) ((calls_bagH h1).own v).set hs2 (Nat.le_trans (h9 v) (by decide))
  refine inc_ext (bagB_up _) ?_ fun u => ?_
  · rw [List.pairwise_map]
    exact (bagB_up l).imp fun h => by omega
  · rw [bagB_mem h3, List.mem_map]
    constructor
    · rintro ⟨⟨c, hcm, rfl⟩, h4⟩
      rw [hc] at hcm
      obtain ⟨d, hd, rfl⟩ := List.mem_map.1 hcm
      refine ⟨d.arg, (bagB_mem h1).2 ⟨⟨d, hd, rfl⟩, fun ⟨ws, hw⟩ => h4 ⟨ws, (hrite d.arg ws).2 hw⟩⟩, rfl⟩
    · rintro ⟨v, hv, rfl⟩
      obtain ⟨⟨d, hd, rfl⟩, h4⟩ := (bagB_mem h1).1 hv
      refine ⟨⟨argC (· + m) d, ?_, rfl⟩, fun ⟨ws, hw⟩ => h4 ⟨ws, (hrite d.arg ws).1 hw⟩⟩
      rw [hc]
      exact List.mem_map.2 ⟨d, hd, rfl⟩
end Go.Proofs.YtfgangkpebkicaaGreatDoor

/-
  Contracts of bags.open, bags.arguments, bags.Part.
-/
namespace Go.Proofs.YtfgangkpebkicaaGreatDoor
open Go.RowKit
set_option maxRecDepth 20000
theorem bopen_any {lv : Value} {l : List Ev} {w : World} (hl : ERd w w.heap.size lv l) :
    Calls Tryz.prog 20 #[lv] w fun e w' => Below w.heap.size w w' ∧ ∃ v, e = .returned (.tuple #[v, .int .i64 (callsOf [4] l).2.2]) ∧ CRd w' w'.heap.size v (callsOf [4] l).1 := by
  have hb1 : Below w.heap.size w (w.alloc (.cells #[.int .i64 4] 3)) := (Below.refl _ _).alloc (Nat.le_refl _) _
  have hts : NRd (w.alloc (.cells #[.int .i64 4] 3)) (w.alloc (.cells #[.int .i64 4] 3)).heap.size (.slice (some ⟨w.heap.size, 0, none⟩) 1 1) [4] := by
    have h9 := LRd.of_lit (f := intCs) (s := 1) (w := w) (l := [4]) (fun _ => rfl) 3 (cs := #[.int .i64 4]) rfl (n := 1) rfl (by unfold maxLen; omega)
    exact h9.mono (by simp)
  have HC := Lib.hid (calls_any hts ((hl.below hb1).mono hb1.size))
  obtain ⟨Al, capl, rfl, -, -⟩ := hl.is
  have H1 := Lib.hid hb1
  clear hl hb1 hts
  generalize callsOf [4] l = o at HC ⊢
  generalize l.length = L at HC ⊢
  go_enter Tryz.func20, Tryz.ntmps20
  go_wp2_with fail
  refine HC.out.mono ?_
  rintro e w1 ⟨v, rfl, hb1, hcr⟩
  obtain ⟨cs, at1, E0⟩ := o
  simp only at hcr ⊢
  have H2 := Lib.hid (And.intro (H1.out.trans (hb1.mono H1.out.size)) hcr)
  clear HC H1 hb1 hcr
  go_wp2_with fail
  go_ret2
  exact ⟨H2.out.1, _, rfl, H2.out.2⟩
def putA (f : Nat → Int) (c : Cl) : Nat → Int := if c.til ≠ -1 then (fun j => if j = c.til.toNat then c.arg else if j = c.frm.toNat then c.arg else f j) else fun j => if j = c.frm.toNat then c.arg else f j
/-- The argument of the call to which an event belongs. -/
def argF (cs : List Cl) : Nat → Int := cs.foldl putA fun _ => 0
theorem argF_take {cs : List Cl} {k : Nat} {c : Cl} (h : cs[k]? = some c) : argF (cs.take (k + 1)) = putA (argF (cs.take k)) c := by
  unfold argF
  rw [List.take_add_one, h, Option.toList_some, List.foldl_append]
  rfl
def hitA (z : Nat) (c : Cl) : Prop := c.frm.toNat = z ∨ (c.til ≠ -1 ∧ c.til.toNat = z)
theorem putA_hit {f : Nat → Int} {c : Cl} {z : Nat} (h : hitA z c) : putA f c z = c.arg := by
  unfold putA
  rcases h with h | ⟨h1, h2⟩
  · split
    · by_cases e : z = c.til.toNat
      · simp only [e, if_true]
      · simp only [if_neg e, if_pos h.symm]
    · simp only [if_pos h.symm]
  · rw [if_pos h1]
    simp only [if_pos h2.symm]
theorem putA_no {f : Nat → Int} {c : Cl} {z : Nat} (h : ¬ hitA z c) : putA f c z = f z := by
  unfold putA
  have h1 : ¬ z = c.frm.toNat := fun e => h (.inl e.symm)
  split
  · rename_i h2
    have h3 : ¬ z = c.til.toNat := fun e => h (.inr ⟨h2, e.symm⟩)
    simp only [if_neg h1, if_neg h3]
  · simp only [if_neg h1]
theorem fold_hit (z : Nat) : ∀ (cs : List Cl) (f : Nat → Int), ((∃ c ∈ cs, hitA z c) → ∃ c ∈ cs, hitA z c ∧ cs.foldl putA f z = c.arg) ∧ ((¬ ∃ c ∈ cs, hitA z c) → cs.foldl putA f z = f z)
  | [], f => ⟨fun ⟨c, hc, _⟩ => absurd hc List.not_mem_nil, fun _ => rfl⟩
  | c :: cs, f => by
    obtain ⟨h1, h2⟩ := fold_hit z cs (putA f c)
    rw [List.foldl_cons]
    by_cases hr : ∃ d ∈ cs, hitA z d
    · obtain ⟨d, hd, hz, e⟩ := h1 hr
      exact ⟨fun _ => ⟨d, List.mem_cons_of_mem _ hd, hz, e⟩, fun hn => absurd ⟨d, List.mem_cons_of_mem _ hd, hz⟩ hn⟩
    · rw [h2 hr]
      by_cases hc : hitA z c
      · exact ⟨fun _ => ⟨c, List.mem_cons_self, hc, putA_hit hc⟩, fun hn => absurd ⟨c, List.mem_cons_self, hc⟩ hn⟩
      · refine ⟨fun ⟨d, hd, hz⟩ => ?_, fun _ => putA_no hc⟩
        rcases List.mem_cons.1 hd with rfl | hd
        · exact absurd hz hc
        · exact absurd ⟨d, hd, hz⟩ hr
theorem argF_bag {l : List Ev} (h : (callsOf [4] l).2.2 = 0) {v : Int} (hv : v ≠ 0) (z : Nat) : bagK (callsOf [4] l).1 v (z : Int) = (argF (callsOf [4] l).1 z == v) := by
  have hB := calls_bagH h
  have hit : ∀ c ∈ (callsOf [4] l).1, hitA z c ↔ (c.frm = (z : Int) ∨ (c.til ≠ -1 ∧ c.til = (z : Int))) := fun c hc => by
    have h1 := hB.frm c hc
    have h2 := hB.ends c hc
    unfold hitA
    omega
  have one : ∀ c ∈ (callsOf [4] l).1, ∀ d ∈ (callsOf [4] l).1, hitA z c → hitA z d → c = d := fun c hc d hd h1 h2 => by
    have h3 := bag_one h hc hd
    have h4 := bag_one h hd hc
    rw [hit c hc] at h1
    rw [hit d hd] at h2
    rcases h1 with h1 | ⟨h5, h1⟩
    · rcases h2 with h2 | ⟨_, h2⟩
      · exact h3.1 (h1.trans h2.symm)
      · exact absurd (h2.trans h1.symm) h4.2.2
    · rcases h2 with h2 | ⟨_, h2⟩
      · exact absurd (h1.trans h2.symm) h3.2.2
      · exact h3.2.1 h5 (h1.trans h2.symm)
  obtain ⟨f1, f2⟩ := fold_hit z (callsOf [4] l).1 fun _ => 0
  rw [Bool.eq_iff_iff, bagK_iff, beq_iff_eq]
  constructor
  · rintro ⟨c, hc, rfl, hz⟩
    have hzc := (hit c hc).2 hz
    obtain ⟨d, hd, hz2, e⟩ := f1 ⟨c, hc, hzc⟩
    rw [one c hc d hd hzc hz2]
    exact e
  · intro e
    by_cases hx : ∃ c ∈ (callsOf [4] l).1, hitA z c
    · obtain ⟨d, hd, hz2, e2⟩ := f1 hx
      exact ⟨d, hd, e2.symm.trans e, (hit d hd).1 hz2⟩
    · exact absurd ((f2 hx).symm.trans e).symm hv
set_option maxHeartbeats 4000000 in
theorem bargs_any {v : Value} {cs : List Cl} {w : World} {n N : Nat} {li : Int} (h : CRd w w.heap.size v cs) (hN : N = n) (hli : li = (N : Int)) (hn : n ≤ 200) (hc : cs.length ≤ 200) (hr : ∀ c ∈ cs, 0 ≤ c.frm ∧ c.frm < n ∧ (c.til = -1 ∨ 0 ≤ c.til) ∧ c.til < n) :
    Calls Tryz.prog 21 #[v, .int .i64 li] w fun e w' => e = .returned (.slice (some ⟨w.heap.size, 0, none⟩) N N) ∧ Below w.heap.size w w' ∧ ITab w' w.heap.size N (argF cs) := by
  subst hN
  obtain ⟨A, c, rfl, m1, m2⟩ := h.is
  unfold maxLen at m2
  have H := Lib.hid (And.intro h hr)
  clear h hr
  obtain ⟨L, hL⟩ : ∃ L, L = cs.length := ⟨_, rfl⟩
  rw [← hL]
  rw [← hL] at m1 hc
  have HL := Lib.hid hL
  clear hL
  have hmk := made_ints N li hli (by omega) w
  have H0 := Lib.hid (And.intro ((Below.refl _ w).alloc (Nat.le_refl _) (.cells (tabCs N fun _ => 0) 3)) (show ITab _ w.heap.size N (fun _ => 0) from Lies.new w _ _))
  clear hli
  go_enter Tryz.func21, Tryz.ntmps21
  go_wp2_with fail
  go_loopw [12] (fun i wr => ∃ k : Nat, k ≤ L ∧ i = .int .i64 k ∧ Below w.heap.size w wr ∧ ITab wr w.heap.size N (argF (cs.take k))) (fun i _ => L - (intOf i).toNat)
  case atStart => exact ⟨0, by omega, rfl, H0.out.1, by rw [List.take_zero]; exact H0.out.2⟩
  case round =>
    clear H0 hmk
    obtain ⟨k, hk, rfl, hb, hT⟩ := hrel
    by_cases hkL : k < L
    · obtain ⟨x, hx⟩ : ∃ x, cs[k]? = some x := ⟨_, List.getElem?_eq_getElem (by rw [← HL.out]; exact hkL)⟩
      have h' := H.out.1.below hb
      rw [← HL.out] at h'
      obtain ⟨g, o, rfl, -, d0, d1, d2, d3, d4, d5, d6⟩ := h'.cl hx
      have i1 : (0 : Int) ≤ (k : Int) := by omega
      have i2 : (k : Int) < (L : Int) := by omega
      have hst := argF_take hx
      have hxr := H.out.2 x (List.mem_of_getElem? hx)
      obtain ⟨x0, x1, x2, x3, x4, x5, x6⟩ := x
      simp only at hxr
      obtain ⟨F, rfl⟩ : ∃ F : Nat, x5 = (F : Int) := ⟨x5.toNat, by omega⟩
      have hba : Below wr.heap.size wr (wr.alloc (.cells #[.int .i64 x0, .int .i64 x1, .int .i64 x2, .int .i64 x3, .int .i64 x4, .int .i64 (F : Int), .int .i64 x6] 58)) := (Below.refl _ _).alloc (Nat.le_refl _) _
      have hTl := Lies.lt hT
      have HW := Lib.hid (And.intro (hb.trans (hba.mono hb.size)) (And.intro (show ITab _ w.heap.size N _ from Lies.below hT hba hTl) (And.intro (Lies.new wr 58 #[.int .i64 x0, .int .i64 x1, .int .i64 x2, .int .i64 x3, .int .i64 x4, .int .i64 (F : Int), .int .i64 x6]) hTl)))
      have HS := Lib.hid hst
      have HX := Lib.hid hxr
      clear h' hx hb hst hba hT hTl
      go_upto_region 5 with fail
      clear d0 d1 d2 d3 d4 d5 d6
      change Code.wp _ _ _ _ (wr.alloc (.cells #[.int .i64 x0, .int .i64 x1, .int .i64 x2, .int .i64 x3, .int .i64 x4, .int .i64 (F : Int), .int .i64 x6] 58))
      generalize wr.alloc (.cells #[.int .i64 x0, .int .i64 x1, .int .i64 x2, .int .i64 x3, .int .i64 x4, .int .i64 (F : Int), .int .i64 x6] 58) = W2 at HW ⊢
      generalize wr.heap.size = X at HW ⊢
      have e3 := Lies.cell HW.out.2.2.1 3
      have e5 := Lies.cell HW.out.2.2.1 5
      have e6 := Lies.cell HW.out.2.2.1 6
      simp only [List.getElem?_toArray, List.getElem?_cons_zero, List.getElem?_cons_succ] at e3 e5 e6
      have hFN : F < N := by have := HX.out.2.1; omega
      have i3 : (0 : Int) ≤ (F : Int) := by omega
      have i4 : (F : Int) < (N : Int) := by omega
      have o5 := HW.out.2.1.cell hFN
      have f5 := HW.out.2.1.free F
      have HP := Lib.hid (And.intro (HW.out.1.setCell (p := ⟨w.heap.size, F, none⟩) (Nat.le_refl _) (.int .i64 x3)) (And.intro (HW.out.2.1.set_ F x3) (Lies.far HW.out.2.2.1 (p := ⟨w.heap.size, F, none⟩) (by have := HW.out.2.2.2; simp only; omega) (.int .i64 x3))))
      have HXl := Lib.hid HW.out.2.2.2
      clear HW
      go_upto_region 6 with fail
      clear o5 f5 e3 e5 e6
      change Code.wp _ _ _ _ (W2.setCell ⟨w.heap.size, F, none⟩ (.int .i64 x3))
      generalize W2.setCell ⟨w.heap.size, F, none⟩ (.int .i64 x3) = W3 at HP ⊢
      have e3 := Lies.cell HP.out.2.2 3
      have e6 := Lies.cell HP.out.2.2 6
      simp only [List.getElem?_toArray, List.getElem?_cons_zero, List.getElem?_cons_succ] at e3 e6
      by_cases t1 : x6 = -1
      · have hz : (x6 != -1) = false := by rw [bne_eq_false_iff_eq]; exact t1
        have HT := Lib.hid t1
        clear t1
        go_wp2_with fail
        go_roundw
        case rel =>
          refine ⟨k + 1, by omega, by go_num, HP.out.1, ?_⟩
          rw [HS.out]
          unfold putA
          rw [if_neg (fun h => h HT.out)]
          exact HP.out.2.1
        case measure => simp [intOf]; omega
      · have hz : (x6 != -1) = true := by rw [bne_iff_ne]; exact t1
        obtain ⟨Q, rfl⟩ : ∃ Q : Nat, x6 = (Q : Int) := ⟨x6.toNat, by have := HX.out.2.2.1; omega⟩
        have hQN : Q < N := by have := HX.out.2.2.2; omega
        have HT := Lib.hid t1
        have i5 : (0 : Int) ≤ (Q : Int) := by omega
        have i6 : (Q : Int) < (N : Int) := by omega
        have o6 := HP.out.2.1.cell hQN
        have f6 := HP.out.2.1.free Q
        have HZ := Lib.hid (And.intro (HP.out.1.setCell (p := ⟨w.heap.size, Q, none⟩) (Nat.le_refl _) (.int .i64 x3)) (HP.out.2.1.set_ Q x3))
        generalize hov : (if Q = F then x3 else argF (cs.take k) Q) = ov at o6
        clear t1 HP hov
        go_wp2_with fail
        go_roundw
        case rel =>
          refine ⟨k + 1, by omega, by go_num, HZ.out.1, ?_⟩
          rw [HS.out]
          unfold putA
          rw [if_pos HT.out]
          simp only [Int.toNat_natCast]
          exact HZ.out.2
        case measure => simp [intOf]; omega
    · obtain rfl : k = L := by omega
      have HB := Lib.hid (And.intro hb hT)
      clear hb hT
      go_wp2_with fail
      go_ret
      refine ⟨rfl, HB.out.1, ?_⟩
      have := HB.out.2
      rw [HL.out, List.take_length] at this
      exact this
end Go.Proofs.YtfgangkpebkicaaGreatDoor
