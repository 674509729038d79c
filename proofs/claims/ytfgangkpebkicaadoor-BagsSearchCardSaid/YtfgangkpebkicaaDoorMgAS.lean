/-
  Joined by a program out of: PartCalls, PartRite.
-/
import Derived.Test.YtfgangkpebkicaaDoorMgAR
import Derived.Test.YtfgangkpebkicaaDoorMgAQ

/-
  Plain: the calls of a thing's part are the thing's calls of the whole, with their times counted anew.
-/
namespace Go.Proofs.YtfgangkpebkicaaDoor
open Go.RowKit
set_option maxRecDepth 20000
/-- A call with other times. -/
def retC (r : Int → Int) (c : Cl) : Cl := { c with frm := r c.frm, til := if c.til = -1 then -1 else r c.til }
/-- The calls of thing q, with other times. -/
def prt (r : Int → Int) (q : Int) (cs : List Cl) : List Cl := (cs.filter fun c => c.thing == q).map (retC r)
theorem prt_append (r : Int → Int) (q : Int) (a b : List Cl) : prt r q (a ++ b) = prt r q a ++ prt r q b := by
  unfold prt
  rw [List.filter_append, List.map_append]
theorem prt_yes {r : Int → Int} {q : Int} {c : Cl} (h : c.thing = q) (l : List Cl) : prt r q (c :: l) = retC r c :: prt r q l := by
  unfold prt
  rw [List.filter_cons, if_pos (by rw [beq_iff_eq]; exact h), List.map_cons]
theorem prt_no {r : Int → Int} {q : Int} {c : Cl} (h : c.thing ≠ q) (l : List Cl) : prt r q (c :: l) = prt r q l := by
  unfold prt
  rw [List.filter_cons, if_neg (by rw [beq_iff_eq]; exact h)]
theorem prt_mem {r : Int → Int} {q : Int} {cs : List Cl} {d : Cl} : d ∈ prt r q cs ↔ ∃ c ∈ cs, c.thing = q ∧ retC r c = d := by
  unfold prt
  rw [List.mem_map]
  constructor
  · rintro ⟨c, h, e⟩
    rw [List.mem_filter, beq_iff_eq] at h
    exact ⟨c, h.1, h.2, e⟩
  · rintro ⟨c, h1, h2, e⟩
    exact ⟨c, by rw [List.mem_filter, beq_iff_eq]; exact ⟨h1, h2⟩, e⟩
theorem retC_til {r : Int → Int} (hr : ∀ z, 0 ≤ r z) (c : Cl) : (retC r c).til = -1 ↔ c.til = -1 := by
  unfold retC
  simp only
  by_cases h : c.til = -1
  · rw [if_pos h]; exact ⟨fun _ => h, fun _ => rfl⟩
  · rw [if_neg h]
    have := hr c.til
    exact ⟨fun h2 => by omega, fun h2 => absurd h2 h⟩
theorem oneOpen_pw {cs : List Cl} : OneOpen cs ↔ cs.Pairwise fun c d => ¬ (c.who = d.who ∧ c.til = -1 ∧ d.til = -1) := by
  rw [List.pairwise_iff_getElem]
  constructor
  · intro h i j hi hj hij hh
    have := h i j _ _ (List.getElem?_eq_getElem hi) (List.getElem?_eq_getElem hj) hh.1 hh.2.1 hh.2.2
    omega
  · intro h i j c d hc hd hw h1 h2
    obtain ⟨hi, rfl⟩ := List.getElem?_eq_some_iff.1 hc
    obtain ⟨hj, rfl⟩ := List.getElem?_eq_some_iff.1 hd
    rcases Nat.lt_trichotomy i j with hlt | heq | hgt
    · exact absurd ⟨hw, h1, h2⟩ (h i j hi hj hlt)
    · exact heq
    · exact absurd ⟨hw.symm, h2, h1⟩ (h j i hj hi hgt)
theorem OneOpen.prt {r : Int → Int} (hr : ∀ z, 0 ≤ r z) {cs : List Cl} (h : OneOpen cs) (q : Int) : OneOpen (prt r q cs) := by
  rw [oneOpen_pw] at h ⊢
  unfold Proofs.YtfgangkpebkicaaDoor.prt
  rw [List.pairwise_map]
  refine (h.filter _).imp fun {c d} hcd hh => hcd ⟨hh.1, (retC_til hr c).1 hh.2.1, (retC_til hr d).1 hh.2.2⟩
/-- One more event, seen by a thing. -/
theorem step_prt {ts : List Int} {n m : Nat} {cs cs' : List Cl} {x : Ev} {r : Int → Int} (hr : ∀ z, 0 ≤ r z) (h1 : OneOpen cs) (q : Int) (hs : step ts n cs x = .inr cs') :
    (x.thing = q → r n = m → step ts m (prt r q cs) x = .inr (prt r q cs')) ∧ (x.thing ≠ q → prt r q cs' = prt r q cs) := by
  unfold step at hs ⊢
  split at hs
  · cases hs
  rename_i hx
  rw [if_neg hx]
  split at hs
  · rename_i hk
    rw [if_pos hk]
    unfold respS at hs ⊢
    split at hs
    · cases hs
    rename_i ho
    split at hs
    · cases hs
    rename_i hg
    obtain ⟨c, e1, e2, e3, e4⟩ := openOf_at (cs := cs) (who := x.who) (by omega)
    generalize (openOf cs x.who).toNat = i at *
    have hgd : cs.getD i default = c := by rw [List.getD_eq_getElem?_getD, e1]; rfl
    rw [hgd] at hs hg
    injection hs with hs
    have hth : c.thing = x.thing := Classical.byContradiction fun h => hg (.inl h)
    have hgi : ¬ givesB c.kind x.val = false := fun h => hg (.inr h)
    have hsp : cs = cs.take i ++ c :: cs.drop (i + 1) := by
      have h2 : cs.drop i = c :: cs.drop (i + 1) := by rw [List.drop_eq_getElem_cons e4, (List.getElem?_eq_some_iff.1 e1).2]
      rw [← h2, List.take_append_drop]
    have hset : cs' = cs.take i ++ { c with res := x.val, til := (n : Int) } :: cs.drop (i + 1) := by
      rw [← hs, List.set_eq_take_append_cons_drop, if_pos e4]
    constructor
    · intro hq hrn
      have hp1 : prt r q cs = prt r q (cs.take i) ++ retC r c :: prt r q (cs.drop (i + 1)) := by
        conv => lhs; rw [hsp]
        rw [prt_append, prt_yes (by rw [hth]; exact hq)]
      have hp2 : prt r q cs' = prt r q (cs.take i) ++ retC r { c with res := x.val, til := (n : Int) } :: prt r q (cs.drop (i + 1)) := by
        rw [hset, prt_append, prt_yes (by show c.thing = q; rw [hth]; exact hq)]
      have hat : (prt r q cs)[(prt r q (cs.take i)).length]? = some (retC r c) := by rw [hp1]; simp
      have hoo := openOf_eq (h1.prt hr q) hat (who := x.who) e2 ((retC_til hr c).2 e3)
      rw [hoo, if_neg (by omega), Int.toNat_natCast, List.getD_eq_getElem?_getD, hat]
      simp only [Option.getD_some]
      rw [if_neg (by
        rintro (h | h)
        · exact h (by show c.thing = x.thing; exact hth)
        · exact hgi h)]
      rw [hp2, hp1]
      congr 1
      rw [List.set_append, if_neg (Nat.lt_irrefl _), Nat.sub_self, List.set_cons_zero]
      congr 2
      unfold retC
      simp only
      rw [if_neg (by omega : ¬ (n : Int) = -1), hrn]
    · intro hq
      rw [hset]
      conv => rhs; rw [hsp]
      rw [prt_append, prt_append, prt_no (by show c.thing ≠ q; rw [hth]; exact hq), prt_no (by rw [hth]; exact hq)]
  · rename_i hk
    rw [if_neg hk]
    unfold invS at hs ⊢
    split at hs
    · cases hs
    rename_i hf
    rw [if_neg hf]
    split at hs
    · cases hs
    rename_i ho
    injection hs with hs
    constructor
    · intro hq hrn
      rw [if_neg (fun h0 => by
        obtain ⟨d, d1, d2, d3, _⟩ := openOf_at h0
        obtain ⟨c, c1, c2, c3⟩ := prt_mem.1 (List.mem_of_getElem? d1)
        obtain ⟨j, c4⟩ := List.getElem?_of_mem c1
        exact openOf_none (by omega : openOf cs x.who < 0) c4 (by rw [← d2, ← c3]; rfl) ((retC_til hr c).1 (by rw [c3]; exact d3)))]
      rw [← hs, prt_append, prt_yes (by exact hq)]
      unfold retC prt
      simp only [if_true, List.filter_nil, List.map_nil]
      rw [hrn]
    · intro hq
      rw [← hs, prt_append, prt_no (by exact hq)]
      exact List.append_nil _
/-- All events, seen by a thing. -/
theorem run_prt {ts : List Int} {r : Int → Int} (hr : ∀ z, 0 ≤ r z) (q : Int) : ∀ (l : List Ev) (n m : Nat) (cs : List Cl), OneOpen cs → (∀ k, k ≤ l.length → r ((n + k : Nat) : Int) = ((m + (partL (l.take k) q).length : Nat) : Int)) →
    (∀ c ∈ cs, c.thing = q → c.til ≠ -1 → r (c.til + 1) = r c.til + 1) → (run ts n cs l).2.2 = 0 →
    (run ts m (prt r q cs) (partL l q)).1 = prt r q (run ts n cs l).1 ∧ ∀ c ∈ (run ts n cs l).1, c.thing = q → c.til ≠ -1 → r (c.til + 1) = r c.til + 1
  | [], n, m, cs, _, _, ht, _ => ⟨rfl, ht⟩
  | x :: l, n, m, cs, h1, hk, ht, h0 => by
    have hn := hk 0 (Nat.zero_le _)
    rw [List.take_zero] at hn
    have hn2 : r ((n + 1 : Nat) : Int) = ((m + (partL [x] q).length : Nat) : Int) := by
      have := hk 1 (by simp)
      rwa [List.take_succ_cons, List.take_zero] at this
    rw [run] at h0 ⊢
    rcases step_K (ts := ts) (n := n) (x := x) h1 with ⟨e, he, _⟩ | ⟨cs', he, h2, _⟩
    · rw [he] at h0
      exact absurd h0 (step_err he)
    · obtain ⟨s1, s2⟩ := step_prt (m := m) hr h1 q he
      have ht2 : x.thing = q → ∀ c ∈ cs', c.thing = q → c.til ≠ -1 → r (c.til + 1) = r c.til + 1 := fun hq => by
        have hpl : (partL [x] q).length = 1 := by
          unfold partL
          rw [List.filter_cons, if_pos (by rw [beq_iff_eq]; exact hq)]
          rfl
        rw [hpl] at hn2
        have hnn : r ((n : Int) + 1) = r n + 1 := by
          have e1 : ((n + 1 : Nat) : Int) = (n : Int) + 1 := by omega
          have e2 : r ((n : Nat) : Int) = (m : Int) := by simpa [partL] using hn
          rw [← e1, hn2, e2]
          omega
        have hs := he
        unfold step respS invS at hs
        repeat' split at hs
        all_goals (try cases hs)
        · intro c hc hcq hct
          rcases List.mem_or_eq_of_mem_set hc with hc | rfl
          · exact ht c hc hcq hct
          · exact hnn
        · intro c hc hcq hct
          rcases List.mem_append.1 hc with hc | hc
          · exact ht c hc hcq hct
          · rw [List.mem_singleton] at hc
            subst hc
            exact absurd rfl hct
      rw [he] at h0
      simp only [he]
      simp only at h0
      by_cases hq : x.thing = q
      · have hp : partL (x :: l) q = x :: partL l q := by
          unfold partL
          rw [List.filter_cons, if_pos (by rw [beq_iff_eq]; exact hq)]
        rw [hp, run, s1 hq (by simpa [partL] using hn)]
        simp only
        refine run_prt hr q l (n + 1) (m + 1) cs' h2 (fun k hk2 => ?_) (ht2 hq) h0
        have := hk (k + 1) (by simp; omega)
        rw [List.take_succ_cons] at this
        have hp2 : partL (x :: l.take k) q = x :: partL (l.take k) q := by
          unfold partL
          rw [List.filter_cons, if_pos (by rw [beq_iff_eq]; exact hq)]
        rw [hp2, List.length_cons] at this
        rw [show n + 1 + k = n + (k + 1) by omega, this]
        omega
      · have hp : ∀ l', partL (x :: l') q = partL l' q := fun l' => by
          unfold partL
          rw [List.filter_cons, if_neg (by rw [beq_iff_eq]; exact hq)]
        rw [hp, ← s2 hq]
        refine run_prt hr q l (n + 1) m cs' h2 (fun k hk2 => ?_) ?_ h0
        · have := hk (k + 1) (by simp; omega)
          rw [List.take_succ_cons, hp] at this
          rw [show n + 1 + k = n + (k + 1) by omega, this]
        · have hs := he
          unfold step respS invS at hs
          repeat' split at hs
          all_goals (try cases hs)
          · have hg : ¬ ((cs.getD (openOf cs x.who).toNat default).thing ≠ x.thing ∨ givesB (cs.getD (openOf cs x.who).toNat default).kind x.val = false) := by assumption
            obtain ⟨d, e1, _, _, _⟩ := openOf_at (cs := cs) (who := x.who) (by omega)
            have hgd : cs.getD (openOf cs x.who).toNat default = d := by rw [List.getD_eq_getElem?_getD, e1]; rfl
            intro c hc hcq hct
            rcases List.mem_or_eq_of_mem_set hc with hc | rfl
            · exact ht c hc hcq hct
            · exfalso
              refine hg (.inl fun h => hq ?_)
              rw [← h]
              exact hcq
          · intro c hc hcq hct
            rcases List.mem_append.1 hc with hc | hc
            · exact ht c hc hcq hct
            · rw [List.mem_singleton] at hc
              subst hc
              exact absurd rfl hct
/-- How many events at thing q come before time z. -/
def rankE (l : List Ev) (q : Int) (z : Int) : Int := (partL (l.take z.toNat) q).length
theorem rankE_ge (l : List Ev) (q z : Int) : 0 ≤ rankE l q z := by unfold rankE; omega
theorem rankE_up (l : List Ev) (q : Int) {y z : Int} (h : y ≤ z) : rankE l q y ≤ rankE l q z := by
  unfold rankE partL
  have h1 : (l.take y.toNat).Sublist (l.take z.toNat) := by
    rw [show l.take y.toNat = (l.take z.toNat).take y.toNat by rw [List.take_take]; congr 1; omega]
    exact List.take_sublist _ _
  have := (h1.filter (fun x => x.thing == q)).length_le
  omega
theorem calls_part {ts : List Int} {l : List Ev} (h : (callsOf ts l).2.2 = 0) (q : Int) : (callsOf ts (partL l q)).1 = prt (rankE l q) q (callsOf ts l).1 ∧ ∀ c ∈ (callsOf ts l).1, c.thing = q → c.til ≠ -1 → rankE l q (c.til + 1) = rankE l q c.til + 1 := by
  obtain ⟨_, _, e1⟩ := calls_zero h
  obtain ⟨_, _, e2⟩ := calls_zero (part_ok h q)
  rw [e1] at h
  rw [e2, e1]
  exact run_prt (rankE_ge l q) q l 0 0 [] OneOpen.nil (fun k hk => by unfold rankE; rw [Int.toNat_natCast, Nat.zero_add, Nat.zero_add]) (fun c hc => by cases hc) h
end Go.Proofs.YtfgangkpebkicaaDoor

/-
  Plain: a right order of a thing's part is a right order of what the thing was asked in the whole, with other numbers.
-/
namespace Go.Proofs.YtfgangkpebkicaaDoor
open Go.RowKit
set_option maxRecDepth 20000
/-- The numbers of thing q's calls. -/
def idxQ (cs : List Cl) (q : Int) : List Nat := (List.range cs.length).filter fun i => (cs.getD i default).thing == q
theorem range_getD (cs : List Cl) : (List.range cs.length).map (fun i => cs.getD i default) = cs := by
  refine List.ext_getElem (by simp) fun i h1 h2 => ?_
  rw [List.getElem_map, List.getElem_range, List.getD_eq_getElem?_getD, List.getElem?_eq_getElem h2]
  rfl
theorem prt_idx (r : Int → Int) (q : Int) (cs : List Cl) : prt r q cs = (idxQ cs q).map fun i => retC r (cs.getD i default) := by
  unfold prt idxQ
  have h : cs.filter (fun c => c.thing == q) = ((List.range cs.length).map (fun i => cs.getD i default)).filter (fun c => c.thing == q) := by rw [range_getD]
  rw [h, List.filter_map, List.map_map]
  rfl
theorem idxQ_mem {cs : List Cl} {q : Int} {i : Nat} : i ∈ idxQ cs q ↔ i < cs.length ∧ (cs.getD i default).thing = q := by
  unfold idxQ
  rw [List.mem_filter, List.mem_range, beq_iff_eq]
theorem idxQ_nodup (cs : List Cl) (q : Int) : (idxQ cs q).Nodup := List.nodup_range.sublist List.filter_sublist
/-- The number in the whole. -/
def upI (cs : List Cl) (q : Int) (k : Nat) : Nat := (idxQ cs q).getD k 0
def upS (cs : List Cl) (q : Int) (x : Int × Int) : Int × Int := ((upI cs q x.1.toNat : Nat), x.2)
section
variable {ts : List Int} {cs : List Cl} {q : Int} {r : Int → Int}
theorem prt_len : (prt r q cs).length = (idxQ cs q).length := by rw [prt_idx, List.length_map]
theorem upI_mem {k : Nat} (hk : k < (prt r q cs).length) : upI cs q k ∈ idxQ cs q := by
  rw [prt_len] at hk
  unfold upI
  rw [List.getD_eq_getElem?_getD, List.getElem?_eq_getElem hk]
  exact List.getElem_mem _
theorem upI_at {k : Nat} (hk : k < (prt r q cs).length) : (prt r q cs).getD k default = retC r (cs.getD (upI cs q k) default) := by
  have hk2 := hk
  rw [prt_len] at hk2
  unfold upI
  rw [List.getD_eq_getElem?_getD, prt_idx, List.getElem?_map, List.getElem?_eq_getElem hk2, List.getD_eq_getElem?_getD (l := idxQ cs q), List.getElem?_eq_getElem hk2]
  rfl
theorem upI_inj {k m : Nat} (hk : k < (prt r q cs).length) (hm : m < (prt r q cs).length) (h : upI cs q k = upI cs q m) : k = m := by
  rw [prt_len] at hk hm
  unfold upI at h
  rw [List.getD_eq_getElem?_getD, List.getD_eq_getElem?_getD, List.getElem?_eq_getElem hk, List.getElem?_eq_getElem hm] at h
  exact (List.getElem_inj (idxQ_nodup cs q)).1 h
theorem upI_onto (r : Int → Int) {i : Nat} (hi : i < cs.length) (hq : (cs.getD i default).thing = q) : ∃ k, k < (prt r q cs).length ∧ upI cs q k = i := by
  obtain ⟨k, hk, e⟩ := List.getElem_of_mem (idxQ_mem.2 ⟨hi, hq⟩)
  refine ⟨k, by rw [prt_len]; exact hk, ?_⟩
  unfold upI
  rw [List.getD_eq_getElem?_getD, List.getElem?_eq_getElem hk]
  exact e
theorem upS_atC (x : Int × Int) : atC cs (upS cs q x) = cs.getD (upI cs q x.1.toNat) default := by unfold atC upS; rw [Int.toNat_natCast]
theorem part_ahead (hup : ∀ y z, y ≤ z → r y ≤ r z) (hr : ∀ z, 0 ≤ r z) (ht : ∀ c ∈ cs, c.thing = q → c.til ≠ -1 → r (c.til + 1) = r c.til + 1) {k m : Nat} (hk : k < (prt r q cs).length) (hm : m < (prt r q cs).length) :
    aheadB (prt r q cs) k m = aheadB cs (upI cs q k) (upI cs q m) := by
  unfold aheadB
  rw [upI_at hk, upI_at hm, Bool.eq_iff_iff, decide_eq_true_iff, decide_eq_true_iff]
  obtain ⟨h1, h2⟩ := idxQ_mem.1 (upI_mem hk)
  have hmem : cs.getD (upI cs q k) default ∈ cs := by rw [List.getD_eq_getElem?_getD, List.getElem?_eq_getElem h1]; exact List.getElem_mem _
  have htil := ht _ hmem h2
  rw [show (retC r (cs.getD (upI cs q k) default)).til ≠ -1 ↔ (cs.getD (upI cs q k) default).til ≠ -1 from not_congr (retC_til hr _)]
  generalize cs.getD (upI cs q k) default = c at *
  generalize cs.getD (upI cs q m) default = d at *
  constructor
  · rintro ⟨h3, h4⟩
    refine ⟨h3, Classical.byContradiction fun h5 => ?_⟩
    unfold retC at h4
    simp only at h4
    rw [if_neg h3] at h4
    have := hup d.frm c.til (by omega)
    omega
  · rintro ⟨h3, h4⟩
    refine ⟨h3, ?_⟩
    unfold retC
    simp only
    rw [if_neg h3]
    have := hup (c.til + 1) d.frm (by omega)
    have := htil h3
    omega
/-- Right in the part just if right in the whole. -/
theorem rite_part_iff (hup : ∀ y z, y ≤ z → r y ≤ r z) (hr : ∀ z, 0 ≤ r z) (ht : ∀ c ∈ cs, c.thing = q → c.til ≠ -1 → r (c.til + 1) = r c.til + 1) (hth : ∀ c ∈ cs, 0 ≤ c.thing ∧ c.thing < ts.length) {t : Nat} (hq : q = (t : Int)) (htt : t < ts.length)
    {ws : List (Int × Int)} (hrng : ∀ x ∈ ws, 0 ≤ x.1 ∧ x.1 < (prt r q cs).length) : Rite ts (prt r q cs) ws ↔ RiteT ts cs t (ws.map (upS cs q)) := by
  have hfst : (ws.map (upS cs q)).map (·.1) = (ws.map (·.1)).map fun z => ((upI cs q z.toNat : Nat) : Int) := by rw [List.map_map, List.map_map]; rfl
  have hat : ∀ x ∈ ws, atC (prt r q cs) x = retC r (atC cs (upS cs q x)) := fun x hx => by
    have := hrng x hx
    rw [upS_atC]
    exact upI_at (by omega)
  have hin : ∀ k, k < (prt r q cs).length → ((k : Int) ∈ ws.map (·.1) ↔ ((upI cs q k : Nat) : Int) ∈ (ws.map (upS cs q)).map (·.1)) := fun k hk => by
    rw [hfst]
    constructor
    · intro h
      exact List.mem_map.2 ⟨_, h, by rw [Int.toNat_natCast]⟩
    · intro h
      obtain ⟨z, hz, e⟩ := List.mem_map.1 h
      obtain ⟨x, hx, rfl⟩ := List.mem_map.1 hz
      have := hrng x hx
      have := upI_inj (cs := cs) (r := r) (k := x.1.toNat) (m := k) (by omega) hk (by omega)
      rw [← this, Int.toNat_of_nonneg (by omega)]
      exact hz
  have hown : ownD (prt r q cs) t ws = (ws.map (upS cs q)).map (ddC cs) := by
    unfold ownD
    rw [List.filter_eq_self.2 (fun x hx => by
      have h1 := hrng x hx
      obtain ⟨_, h2⟩ := idxQ_mem.1 (upI_mem (cs := cs) (q := q) (r := r) (k := x.1.toNat) (by omega))
      rw [beq_iff_eq, hat x hx, upS_atC]
      show (cs.getD (upI cs q x.1.toNat) default).thing.toNat = t
      rw [h2, hq, Int.toNat_natCast]), List.map_map]
    refine List.map_congr_left fun x hx => ?_
    show ddC (prt r q cs) x = ddC cs (upS cs q x)
    unfold ddC
    rw [hat x hx]
    rfl
  have honce : (ws.map (·.1)).Nodup ↔ ((ws.map (upS cs q)).map (·.1)).Nodup := by
    rw [hfst]
    unfold List.Nodup
    rw [List.pairwise_map (f := fun z : Int => ((upI cs q z.toNat : Nat) : Int))]
    constructor
    · intro h
      refine h.imp_of_mem fun {a b} ha hb hab e => hab ?_
      obtain ⟨x, hx, rfl⟩ := List.mem_map.1 ha
      obtain ⟨y, hy, rfl⟩ := List.mem_map.1 hb
      have h1 := hrng x hx
      have h2 := hrng y hy
      have e2 : upI cs q x.1.toNat = upI cs q y.1.toNat := by exact Int.ofNat.inj e
      have := upI_inj (cs := cs) (r := r) (k := x.1.toNat) (m := y.1.toNat) (by omega) (by omega) e2
      omega
    · intro h
      exact h.imp fun {a b} hab e => hab (by rw [e])
  constructor
  · intro h
    refine ⟨fun y hy => ?_, fun y hy => ?_, honce.1 h.once, fun y hy hy2 => ?_, fun i hi hit hti => ?_, fun i j hi hj hit ha a y b hs hy => ?_, ?_⟩
    · obtain ⟨x, hx, rfl⟩ := List.mem_map.1 hy
      have h1 := hrng x hx
      obtain ⟨h2, _⟩ := idxQ_mem.1 (upI_mem (cs := cs) (q := q) (r := r) (k := x.1.toNat) (by omega))
      unfold upS
      exact ⟨by simp only; omega, by simp only; omega⟩
    · obtain ⟨x, hx, rfl⟩ := List.mem_map.1 hy
      have h1 := hrng x hx
      obtain ⟨_, h2⟩ := idxQ_mem.1 (upI_mem (cs := cs) (q := q) (r := r) (k := x.1.toNat) (by omega))
      rw [upS_atC, h2, hq, Int.toNat_natCast]
    · obtain ⟨x, hx, rfl⟩ := List.mem_map.1 hy
      have := h.res x hx (by rw [hat x hx]; exact fun h5 => hy2 ((retC_til hr _).1 h5))
      rw [hat x hx] at this
      exact this
    · have hm : cs.getD i default ∈ cs := by rw [List.getD_eq_getElem?_getD, List.getElem?_eq_getElem hi]; exact List.getElem_mem _
      have := hth _ hm
      obtain ⟨k, hk, rfl⟩ := upI_onto (cs := cs) (q := q) r hi (by omega)
      exact (hin k hk).1 (h.all k hk (by rw [upI_at hk]; exact fun h5 => hti ((retC_til hr _).1 h5)))
    · have hm : cs.getD i default ∈ cs := by rw [List.getD_eq_getElem?_getD, List.getElem?_eq_getElem hi]; exact List.getElem_mem _
      have := hth _ hm
      obtain ⟨k, hk, rfl⟩ := upI_onto (cs := cs) (q := q) r hi (by omega)
      obtain ⟨A, B, rfl, rfl, e3⟩ := List.map_eq_append_iff.1 hs
      obtain ⟨x, B', rfl, rfl, rfl⟩ := List.map_eq_cons_iff.1 e3
      have hx := hrng x (by simp)
      have ej : upI cs q x.1.toNat = j := by unfold upS at hy; simp only at hy; omega
      subst ej
      rw [← part_ahead hup hr ht hk (by omega)] at ha
      obtain ⟨z, hz, ez⟩ := List.mem_map.1 (h.ord k x.1.toNat hk (by omega) ha A x B' rfl (by omega))
      refine List.mem_map.2 ⟨upS cs q z, List.mem_map.2 ⟨z, hz, rfl⟩, ?_⟩
      unfold upS
      rw [ez, Int.toNat_natCast]
    · rw [← hown]
      exact h.goes t htt
  · intro h
    refine ⟨hrng, honce.2 h.once, fun x hx hx2 => ?_, fun k hk hti => ?_, fun k m hk hm ha a y b hs hy => ?_, fun t2 ht2 => ?_⟩
    · rw [hat x hx] at hx2 ⊢
      exact h.res _ (List.mem_map.2 ⟨x, hx, rfl⟩) (fun h5 => hx2 ((retC_til hr _).2 h5))
    · obtain ⟨h1, h2⟩ := idxQ_mem.1 (upI_mem hk)
      refine (hin k hk).2 (h.all _ h1 (by rw [h2, hq, Int.toNat_natCast]) ?_)
      rw [upI_at hk] at hti
      exact fun h5 => hti ((retC_til hr _).2 h5)
    · subst hs
      obtain ⟨h1, h2⟩ := idxQ_mem.1 (upI_mem hk)
      obtain ⟨h3, _⟩ := idxQ_mem.1 (upI_mem hm)
      rw [part_ahead hup hr ht hk hm] at ha
      have h5 := h.ord _ _ h1 h3 (by rw [h2, hq, Int.toNat_natCast]) ha (a.map (upS cs q)) (upS cs q y) (b.map (upS cs q)) (by rw [List.map_append, List.map_cons]) (by unfold upS; rw [hy, Int.toNat_natCast])
      obtain ⟨z, hz, ez⟩ := List.mem_map.1 h5
      obtain ⟨x, hx, rfl⟩ := List.mem_map.1 hz
      have hxr := hrng x (List.mem_append.2 (.inl hx))
      have e : upI cs q x.1.toNat = upI cs q k := by unfold upS at ez; simp only at ez; omega
      have := upI_inj (cs := cs) (r := r) (by omega) hk e
      exact List.mem_map.2 ⟨x, hx, by omega⟩
    · by_cases e : t2 = t
      · subst e
        rw [hown]
        exact h.goes
      · have : ownD (prt r q cs) t2 ws = [] := by
          unfold ownD
          rw [List.filter_eq_nil_iff.2 (fun x hx => by
            have h1 := hrng x hx
            obtain ⟨_, h2⟩ := idxQ_mem.1 (upI_mem (cs := cs) (q := q) (r := r) (k := x.1.toNat) (by omega))
            rw [beq_iff_eq, hat x hx, upS_atC]
            show ¬ (cs.getD (upI cs q x.1.toNat) default).thing.toNat = t2
            rw [h2, hq, Int.toNat_natCast]
            exact fun h => e h.symm)]
          rfl
        rw [this]
        rfl
/-- Each order of the thing's calls is one of the part, with other numbers. -/
theorem upS_onto (r : Int → Int) (hth : ∀ c ∈ cs, 0 ≤ c.thing) {t : Nat} (hq : q = (t : Int)) : ∀ {w : List (Int × Int)}, (∀ x ∈ w, 0 ≤ x.1 ∧ x.1 < cs.length) → (∀ x ∈ w, (atC cs x).thing.toNat = t) → ∃ ws : List (Int × Int), (∀ x ∈ ws, 0 ≤ x.1 ∧ x.1 < (prt r q cs).length) ∧ ws.map (upS cs q) = w
  | [], _, _ => ⟨[], (fun x h => by cases h), rfl⟩
  | x :: w, h1, h2 => by
    obtain ⟨ws, e1, e2⟩ := upS_onto r hth hq (w := w) (fun y hy => h1 y (List.mem_cons_of_mem _ hy)) (fun y hy => h2 y (List.mem_cons_of_mem _ hy))
    have hx := h1 x (List.mem_cons_self ..)
    have ho := h2 x (List.mem_cons_self ..)
    have hm : atC cs x ∈ cs := by unfold atC; rw [List.getD_eq_getElem?_getD, List.getElem?_eq_getElem (by omega : x.1.toNat < cs.length)]; exact List.getElem_mem _
    have := hth _ hm
    obtain ⟨k, hk, ek⟩ := upI_onto (cs := cs) (q := q) r (i := x.1.toNat) (by omega) (by unfold atC at ho this; omega)
    refine ⟨((k : Int), x.2) :: ws, fun y hy => ?_, ?_⟩
    · rcases List.mem_cons.1 hy with rfl | hy
      · exact ⟨by simp only; omega, by simp only; omega⟩
      · exact e1 y hy
    · rw [List.map_cons, e2]
      congr 1
      unfold upS
      simp only [Int.toNat_natCast]
      rw [ek]
      exact Prod.ext (by simp only; omega) rfl
end
/-- HERLIHY, WING: a history has a right order just if the part of each thing has one. -/
theorem local_parts {ts : List Int} {l : List Ev} (h : (callsOf ts l).2.2 = 0) :
    (∃ ws, Rite ts (callsOf ts l).1 ws) ↔ ∀ t : Nat, t < ts.length → ∃ ws, Rite ts (callsOf ts (partL l t)).1 ws := by
  have hth : ∀ c ∈ (callsOf ts l).1, 0 ≤ c.thing ∧ c.thing < ts.length := fun c hc => (calls_callOk h c hc).thing
  have hor := (calls_orderly h).1
  rw [local_iff hth hor.ends (fun c hc => (hor.tidy c hc).2.2.1)]
  have key : ∀ t : Nat, t < ts.length → ((∃ w, RiteT ts (callsOf ts l).1 t w) ↔ ∃ ws, Rite ts (callsOf ts (partL l t)).1 ws) := fun t ht => by
    obtain ⟨e1, e2⟩ := calls_part h (t : Int)
    rw [e1]
    constructor
    · rintro ⟨w, hw⟩
      obtain ⟨ws, h1, rfl⟩ := upS_onto (rankE l t) (fun c hc => (hth c hc).1) rfl hw.rng hw.own
      exact ⟨ws, (rite_part_iff (fun y z => rankE_up l t) (rankE_ge l t) e2 hth rfl ht h1).2 hw⟩
    · rintro ⟨ws, hw⟩
      exact ⟨_, (rite_part_iff (fun y z => rankE_up l t) (rankE_ge l t) e2 hth rfl ht hw.rng).1 hw⟩
  exact ⟨fun k t ht => (key t ht).1 (k t ht), fun k t ht => (key t ht).2 (k t ht)⟩
end Go.Proofs.YtfgangkpebkicaaDoor
