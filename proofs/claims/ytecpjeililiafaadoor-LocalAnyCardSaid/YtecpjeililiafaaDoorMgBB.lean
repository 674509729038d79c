/-
  Joined by a program out of: PartCalls, BTab, LParts.
-/
import Derived.Test.YtecpjeililiafaaDoorMgBA
import Derived.Test.YtecpjeililiafaaDoorMgAK
import Derived.Test.YtecpjeililiafaaDoorMgAA
import Derived.Deep.AppendLies
import Derived.Test.YtecpjeililiafaaDoorMgAX

/-
  Plain: the calls of a thing's part are the thing's calls of the whole, with their times counted anew.
-/
namespace Go.Proofs.YtecpjeililiafaaDoor
open Go.RowKit
set_option maxRecDepth 20000

/-- A call with other times. -/
def retC (r : Int → Int) (c : Cl) : Cl := { c with frm := r c.frm, til := if c.til = -1 then -1 else r c.til }
/-- The calls of thing q, with other times. -/
def prt (r : Int → Int) (q : Int) (cs : List Cl) : List Cl := (cs.filter fun c => c.thing == q).map (retC r)
theorem prt_append (r : Int → Int) (q : Int) (a b : List Cl) : prt r q (a ++ b) = prt r q a ++ prt r q b := by
  unfold prt
  rw [List.filter_append, List.map_append]
theorem prt_yes {r : Int → Int} {q : Int} {c : Cl} (h : c.thing = q) (l : List Cl) : prt r q (c :: l) = retC r c :: prt r q l := by
  unfold prt
  rw [List.filter_cons, if_pos (by rw [beq_iff_eq]; exact h), List.map_cons]
theorem prt_no {r : Int → Int} {q : Int} {c : Cl} (h : c.thing ≠ q) (l : List Cl) : prt r q (c :: l) = prt r q l := by
  unfold prt
  rw [List.filter_cons, if_neg (by rw [beq_iff_eq]; exact h)]
theorem prt_mem {r : Int → Int} {q : Int} {cs : List Cl} {d : Cl} : d ∈ prt r q cs ↔ ∃ c ∈ cs, c.thing = q ∧ retC r c = d := by
  unfold prt
  rw [List.mem_map]
  constructor
  · rintro ⟨c, h, e⟩
    rw [List.mem_filter, beq_iff_eq] at h
    exact ⟨c, h.1, h.2, e⟩
  · rintro ⟨c, h1, h2, e⟩
    exact ⟨c, by rw [List.mem_filter, beq_iff_eq]; exact ⟨h1, h2⟩, e⟩
theorem retC_til {r : Int → Int} (hr : ∀ z, 0 ≤ r z) (c : Cl) : (retC r c).til = -1 ↔ c.til = -1 := by
  unfold retC
  simp only
  by_cases h : c.til = -1
  · rw [if_pos h]; exact ⟨fun _ => h, fun _ => rfl⟩
  · rw [if_neg h]
    have := hr c.til
    exact ⟨fun h2 => by omega, fun h2 => absurd h2 h⟩
theorem oneOpen_pw {cs : List Cl} : OneOpen cs ↔ cs.Pairwise fun c d => ¬ (c.who = d.who ∧ c.til = -1 ∧ d.til = -1) := by
  rw [List.pairwise_iff_getElem]
  constructor
  · intro h i j hi hj hij hh
    have := h i j _ _ (List.getElem?_eq_getElem hi) (List.getElem?_eq_getElem hj) hh.1 hh.2.1 hh.2.2
    omega
  · intro h i j c d hc hd hw h1 h2
    obtain ⟨hi, rfl⟩ := List.getElem?_eq_some_iff.1 hc
    obtain ⟨hj, rfl⟩ := List.getElem?_eq_some_iff.1 hd
    rcases Nat.lt_trichotomy i j with hlt | heq | hgt
    · exact absurd ⟨hw, h1, h2⟩ (h i j hi hj hlt)
    · exact heq
    · exact absurd ⟨hw.symm, h2, h1⟩ (h j i hj hi hgt)
theorem OneOpen.prt {r : Int → Int} (hr : ∀ z, 0 ≤ r z) {cs : List Cl} (h : OneOpen cs) (q : Int) : OneOpen (prt r q cs) := by
  rw [oneOpen_pw] at h ⊢
  unfold Proofs.YtecpjeililiafaaDoor.prt
  rw [List.pairwise_map]
  refine (h.filter _).imp fun {c d} hcd hh => hcd ⟨hh.1, (retC_til hr c).1 hh.2.1, (retC_til hr d).1 hh.2.2⟩
/-- One more event, seen by a thing. -/
theorem step_prt {ts : List Int} {n m : Nat} {cs cs' : List Cl} {x : Ev} {r : Int → Int} (hr : ∀ z, 0 ≤ r z) (h1 : OneOpen cs) (q : Int) (hs : step ts n cs x = .inr cs') :
    (x.thing = q → r n = m → step ts m (prt r q cs) x = .inr (prt r q cs')) ∧ (x.thing ≠ q → prt r q cs' = prt r q cs) := by
  unfold step at hs ⊢
  split at hs
  · cases hs
  rename_i hx
  rw [if_neg hx]
  split at hs
  · rename_i hk
    rw [if_pos hk]
    unfold respS at hs ⊢
    split at hs
    · cases hs
    rename_i ho
    split at hs
    · cases hs
    rename_i hg
    obtain ⟨c, e1, e2, e3, e4⟩ := openOf_at (cs := cs) (who := x.who) (by omega)
    generalize (openOf cs x.who).toNat = i at *
    have hgd : cs.getD i default = c := by rw [List.getD_eq_getElem?_getD, e1]; rfl
    rw [hgd] at hs hg
    injection hs with hs
    have hth : c.thing = x.thing := Classical.byContradiction fun h => hg (.inl h)
    have hgi : ¬ givesB c.kind x.val = false := fun h => hg (.inr h)
    have hsp : cs = cs.take i ++ c :: cs.drop (i + 1) := by
      have h2 : cs.drop i = c :: cs.drop (i + 1) := by rw [List.drop_eq_getElem_cons e4, (List.getElem?_eq_some_iff.1 e1).2]
      rw [← h2, List.take_append_drop]
    have hset : cs' = cs.take i ++ { c with res := x.val, til := (n : Int) } :: cs.drop (i + 1) := by
      rw [← hs, List.set_eq_take_append_cons_drop, if_pos e4]
    constructor
    · intro hq hrn
      have hp1 : prt r q cs = prt r q (cs.take i) ++ retC r c :: prt r q (cs.drop (i + 1)) := by
        conv => lhs; rw [hsp]
        rw [prt_append, prt_yes (by rw [hth]; exact hq)]
      have hp2 : prt r q cs' = prt r q (cs.take i) ++ retC r { c with res := x.val, til := (n : Int) } :: prt r q (cs.drop (i + 1)) := by
        rw [hset, prt_append, prt_yes (by show c.thing = q; rw [hth]; exact hq)]
      have hat : (prt r q cs)[(prt r q (cs.take i)).length]? = some (retC r c) := by rw [hp1]; simp
      have hoo := openOf_eq (h1.prt hr q) hat (who := x.who) e2 ((retC_til hr c).2 e3)
      rw [hoo, if_neg (by omega), Int.toNat_natCast, List.getD_eq_getElem?_getD, hat]
      simp only [Option.getD_some]
      rw [if_neg (by
        rintro (h | h)
        · exact h (by show c.thing = x.thing; exact hth)
        · exact hgi h)]
      rw [hp2, hp1]
      congr 1
      rw [List.set_append, if_neg (Nat.lt_irrefl _), Nat.sub_self, List.set_cons_zero]
      congr 2
      unfold retC
      simp only
      rw [if_neg (by omega : ¬ (n : Int) = -1), hrn]
    · intro hq
      rw [hset]
      conv => rhs; rw [hsp]
      rw [prt_append, prt_append, prt_no (by show c.thing ≠ q; rw [hth]; exact hq), prt_no (by rw [hth]; exact hq)]
  · rename_i hk
    rw [if_neg hk]
    unfold invS at hs ⊢
    split at hs
    · cases hs
    rename_i hf
    rw [if_neg hf]
    split at hs
    · cases hs
    rename_i ho
    injection hs with hs
    constructor
    · intro hq hrn
      rw [if_neg (fun h0 => by
        obtain ⟨d, d1, d2, d3, _⟩ := openOf_at h0
        obtain ⟨c, c1, c2, c3⟩ := prt_mem.1 (List.mem_of_getElem? d1)
        obtain ⟨j, c4⟩ := List.getElem?_of_mem c1
        exact openOf_none (by omega : openOf cs x.who < 0) c4 (by rw [← d2, ← c3]; rfl) ((retC_til hr c).1 (by rw [c3]; exact d3)))]
      rw [← hs, prt_append, prt_yes (by exact hq)]
      unfold retC prt
      simp only [if_true, List.filter_nil, List.map_nil]
      rw [hrn]
    · intro hq
      rw [← hs, prt_append, prt_no (by exact hq)]
      exact List.append_nil _
/-- All events, seen by a thing. -/
theorem run_prt {ts : List Int} {r : Int → Int} (hr : ∀ z, 0 ≤ r z) (q : Int) : ∀ (l : List Ev) (n m : Nat) (cs : List Cl), OneOpen cs → (∀ k, k ≤ l.length → r ((n + k : Nat) : Int) = ((m + (partL (l.take k) q).length : Nat) : Int)) →
    (∀ c ∈ cs, c.thing = q → c.til ≠ -1 → r (c.til + 1) = r c.til + 1) → (run ts n cs l).2.2 = 0 →
    (run ts m (prt r q cs) (partL l q)).1 = prt r q (run ts n cs l).1 ∧ ∀ c ∈ (run ts n cs l).1, c.thing = q → c.til ≠ -1 → r (c.til + 1) = r c.til + 1
  | [], n, m, cs, _, _, ht, _ => ⟨rfl, ht⟩
  | x :: l, n, m, cs, h1, hk, ht, h0 => by
    have hn := hk 0 (Nat.zero_le _)
    rw [List.take_zero] at hn
    have hn2 : r ((n + 1 : Nat) : Int) = ((m + (partL [x] q).length : Nat) : Int) := by
      have := hk 1 (by simp)
      rwa [List.take_succ_cons, List.take_zero] at this
    rw [run] at h0 ⊢
    rcases step_K (ts := ts) (n := n) (x := x) h1 with ⟨e, he, _⟩ | ⟨cs', he, h2, _⟩
    · rw [he] at h0
      exact absurd h0 (step_err he)
    · obtain ⟨s1, s2⟩ := step_prt (m := m) hr h1 q he
      have ht2 : x.thing = q → ∀ c ∈ cs', c.thing = q → c.til ≠ -1 → r (c.til + 1) = r c.til + 1 := fun hq => by
        have hpl : (partL [x] q).length = 1 := by
          unfold partL
          rw [List.filter_cons, if_pos (by rw [beq_iff_eq]; exact hq)]
          rfl
        rw [hpl] at hn2
        have hnn : r ((n : Int) + 1) = r n + 1 := by
          have e1 : ((n + 1 : Nat) : Int) = (n : Int) + 1 := by omega
          have e2 : r ((n : Nat) : Int) = (m : Int) := by simpa [partL] using hn
          rw [← e1, hn2, e2]
          omega
        have hs := he
        unfold step respS invS at hs
        repeat' split at hs
        all_goals (try cases hs)
        · intro c hc hcq hct
          rcases List.mem_or_eq_of_mem_set hc with hc | rfl
          · exact ht c hc hcq hct
          · exact hnn
        · intro c hc hcq hct
          rcases List.mem_append.1 hc with hc | hc
          · exact ht c hc hcq hct
          · rw [List.mem_singleton] at hc
            subst hc
            exact absurd rfl hct
      rw [he] at h0
      simp only [he]
      simp only at h0
      by_cases hq : x.thing = q
      · have hp : partL (x :: l) q = x :: partL l q := by
          unfold partL
          rw [List.filter_cons, if_pos (by rw [beq_iff_eq]; exact hq)]
        rw [hp, run, s1 hq (by simpa [partL] using hn)]
        simp only
        refine run_prt hr q l (n + 1) (m + 1) cs' h2 (fun k hk2 => ?_) (ht2 hq) h0
        have := hk (k + 1) (by simp; omega)
        rw [List.take_succ_cons] at this
        have hp2 : partL (x :: l.take k) q = x :: partL (l.take k) q := by
          unfold partL
          rw [List.filter_cons, if_pos (by rw [beq_iff_eq]; exact hq)]
        rw [hp2, List.length_cons] at this
        rw [show n + 1 + k = n + (k + 1) by omega, this]
        omega
      · have hp : ∀ l', partL (x :: l') q = partL l' q := fun l' => by
          unfold partL
          rw [List.filter_cons, if_neg (by rw [beq_iff_eq]; exact hq)]
        rw [hp, ← s2 hq]
        refine run_prt hr q l (n + 1) m cs' h2 (fun k hk2 => ?_) ?_ h0
        · have := hk (k + 1) (by simp; omega)
          rw [List.take_succ_cons, hp] at this
          rw [show n + 1 + k = n + (k + 1) by omega, this]
        · have hs := he
          unfold step respS invS at hs
          repeat' split at hs
          all_goals (try cases hs)
          · have hg : ¬ ((cs.getD (openOf cs x.who).toNat default).thing ≠ x.thing ∨ givesB (cs.getD (openOf cs x.who).toNat default).kind x.val = false) := by assumption
            obtain ⟨d, e1, _, _, _⟩ := openOf_at (cs := cs) (who := x.who) (by omega)
            have hgd : cs.getD (openOf cs x.who).toNat default = d := by rw [List.getD_eq_getElem?_getD, e1]; rfl
            intro c hc hcq hct
            rcases List.mem_or_eq_of_mem_set hc with hc | rfl
            · exact ht c hc hcq hct
            · exfalso
              refine hg (.inl fun h => hq ?_)
              rw [← h]
              exact hcq
          · intro c hc hcq hct
            rcases List.mem_append.1 hc with hc | hc
            · exact ht c hc hcq hct
            · rw [List.mem_singleton] at hc
              subst hc
              exact absurd rfl hct
/-- How many events at thing q come before time z. -/
def rankE (l : List Ev) (q : Int) (z : Int) : Int := (partL (l.take z.toNat) q).length
theorem rankE_ge (l : List Ev) (q z : Int) : 0 ≤ rankE l q z := by unfold rankE; omega
theorem rankE_up (l : List Ev) (q : Int) {y z : Int} (h : y ≤ z) : rankE l q y ≤ rankE l q z := by
  unfold rankE partL
  have h1 : (l.take y.toNat).Sublist (l.take z.toNat) := by
    rw [show l.take y.toNat = (l.take z.toNat).take y.toNat by rw [List.take_take]; congr 1; omega]
    exact List.take_sublist _ _
  have := (h1.filter (fun x => x.thing == q)).length_le
  omega
theorem calls_part {ts : List Int} {l : List Ev} (h : (callsOf ts l).2.2 = 0) (q : Int) : (callsOf ts (partL l q)).1 = prt (rankE l q) q (callsOf ts l).1 ∧ ∀ c ∈ (callsOf ts l).1, c.thing = q → c.til ≠ -1 → rankE l q (c.til + 1) = rankE l q c.til + 1 := by
  obtain ⟨_, _, e1⟩ := calls_zero h
  obtain ⟨_, _, e2⟩ := calls_zero (part_ok h q)
  rw [e1] at h
  rw [e2, e1]
  exact run_prt (rankE_ge l q) q l 0 0 [] OneOpen.nil (fun k hk => by unfold rankE; rw [Int.toNat_natCast, Nat.zero_add, Nat.zero_add]) (fun c hc => by cases hc) h
end Go.Proofs.YtecpjeililiafaaDoor

/-
  Tables of truths.
-/
namespace Go.Proofs.YtecpjeililiafaaDoor
open Go.RowKit
set_option maxRecDepth 20000

/-- The cells of a table of N truths. -/
def bitCs (N : Nat) (S : Nat → Bool) : Array Value := (Array.range N).map fun i => .bool (S i)
def BTab (w : World) (g N : Nat) (S : Nat → Bool) : Prop := Lies w g 4 (bitCs N S)
theorem bitCs_get (N : Nat) (S : Nat → Bool) (i : Nat) (h : i < N) : (bitCs N S)[i]? = some (.bool (S i)) := by
  simp [bitCs, h]
theorem bitCs_set (N : Nat) (S : Nat → Bool) (i : Nat) (x : Bool) : (bitCs N S).setIfInBounds i (.bool x) = bitCs N (fun j => if j = i then x else S j) := by
  apply Array.ext_getElem?
  intro j
  rw [Array.getElem?_setIfInBounds]
  by_cases h : i = j
  · subst h
    by_cases hi : i < N <;> simp [bitCs, hi]
  · rw [if_neg h]
    by_cases hj : j < N <;> simp [bitCs, hj, show ¬ j = i from fun e => h e.symm]
theorem BTab.cell {w : World} {g N : Nat} {S : Nat → Bool} (h : BTab w g N S) {i : Nat} (hi : i < N) : w.cell? ⟨g, i, none⟩ = some (.bool (S i)) := by
  rw [Lies.cell h, bitCs_get N S i hi]
theorem BTab.set_ {w : World} {g N : Nat} {S : Nat → Bool} (h : BTab w g N S) (i : Nat) (x : Bool) : BTab (w.setCell ⟨g, i, none⟩ (.bool x)) g N (fun j => if j = i then x else S j) :=
  Lies.cast (Lies.set_ h i (.bool x)) (bitCs_set N S i x)

theorem info_bool : (Tryd.prog.info? 4).map (fun i => (i.zero, i.size, i.bytes)) = some (some (.bool false), 1, 1) := by kernel_rfl
theorem made_bools (N : Nat) (l : Int) (hl : l = N) (hN : N ≤ 65536) (w : World) :
    (Instr.makeSlice 44 (.int .i64 l) (.int .i64 l)).run Tryd.prog w = .ok (.slice (some ⟨w.heap.size, 0, none⟩) N N) (w.alloc (.cells (bitCs N fun _ => false) 4)) := by
  obtain ⟨i0, hi, hz0, hz1, hz2⟩ := info_parts info_bool
  subst hl
  rw [run_make w 44 4 i0 (.bool false) Tryd.underlying44 hi hz0 .i64 .i64 N N (by omega) (by omega) (by rw [hz2]; omega) (by omega), hz1]
  simp only [Int.toNat_natCast, Nat.mul_one]
  congr 3
  apply Array.ext
  · simp [bitCs, madeCells]
  · intro j h1 h2
    simp [bitCs, madeCells, Value.cells, Nat.mod_one]

end Go.Proofs.YtecpjeililiafaaDoor

/-
  Contract of local.Parts, over a contract of local.open.
-/
namespace Go.Proofs.YtecpjeililiafaaDoor
open Go.RowKit
set_option maxRecDepth 20000

/-- How many calls a thing has. -/
def ownN (cs : List Cl) (q : Int) : Nat := (cs.filter fun c => c.thing == q).length
/-- The error of package local about a history, or 0. -/
def openE (ts : List Int) (l : List Ev) : Int := if (callsOf ts l).2.2 ≠ 0 then (callsOf ts l).2.2 else if 12 < (callsOf ts l).1.length then 2 else if ((callsOf ts l).1.any fun c => decide (9 < ownN (callsOf ts l).1 c.thing)) = true then 2 else 0
theorem openE_zero {ts : List Int} {l : List Ev} (h : openE ts l = 0) : (callsOf ts l).2.2 = 0 ∧ (callsOf ts l).1.length ≤ 12 ∧ ∀ q, ownN (callsOf ts l).1 q ≤ 9 := by
  unfold openE at h
  split at h
  · rename_i h1; exact absurd h h1
  rename_i h1
  split at h
  · cases h
  rename_i h2
  split at h
  · cases h
  rename_i h3
  refine ⟨Classical.byContradiction h1, by omega, fun q => Classical.byContradiction fun hq => h3 ?_⟩
  rw [List.any_eq_true]
  have hpos : 0 < (((callsOf ts l).1).filter fun c => c.thing == q).length := by unfold ownN at hq; omega
  obtain ⟨c, hc⟩ := List.exists_mem_of_length_pos hpos
  rw [List.mem_filter, beq_iff_eq] at hc
  exact ⟨c, hc.1, by rw [decide_eq_true_iff, hc.2]; omega⟩
theorem openE_part {ts : List Int} {l : List Ev} (h : openE ts l = 0) (q : Int) : searchE (callsOf ts (partL l q)) = 0 := by
  obtain ⟨h1, _, h3⟩ := openE_zero h
  refine search_ok.2 ⟨part_ok h1 q, ?_⟩
  rw [(calls_part h1 q).1]
  unfold prt
  rw [List.length_map]
  exact h3 q
/-- Has the part of thing k a right order? -/
def pB (ts : List Int) (l : List Ev) (k : Nat) : Bool := foundB ts (callsOf ts (partL l (k : Int)))

set_option maxHeartbeats 4000000 in
theorem lparts_of {tv lv : Value} {ts : List Int} {l : List Ev} {w : World} (ht : NRd w w.heap.size tv ts) (hl : ERd w w.heap.size lv l) (hp : Pow10 w.heap.size w)
    (HO : Calls Tryd.prog 70 #[tv, lv] w fun e w' => Below w.heap.size w w' ∧ ∃ v, e = .returned (.tuple #[v, .int .i64 (openE ts l)])) :
    Calls Tryd.prog 28 #[tv, lv] w fun e w' => Below w.heap.size w w' ∧ ((openE ts l ≠ 0 ∧ e = .returned (.tuple #[.slice none 0 0, .int .i64 (openE ts l)])) ∨ (openE ts l = 0 ∧ ∃ g, e = .returned (.tuple #[.slice (some ⟨g, 0, none⟩) ts.length ts.length, .int .i64 0]) ∧ BTab w' g ts.length (pB ts l))) := by
  have HO' := HO
  clear HO
  have HO := Lib.hid HO'
  clear HO'
  obtain ⟨At, capt, rfl, m1, m2⟩ := ht.is
  obtain ⟨Al, capl, rfl, -, -⟩ := hl.is
  unfold maxLen at m2
  have HT := Lib.hid (And.intro ht (And.intro hl hp))
  obtain ⟨tl, htl⟩ : ∃ tl, tl = ts.length := ⟨_, rfl⟩
  obtain ⟨L, hL⟩ : ∃ L, L = l.length := ⟨_, rfl⟩
  rw [← htl, ← hL] at HO HT
  rw [← htl] at m1
  rw [← htl, ← hL]
  have HLL := Lib.hid htl
  clear ht hl hp htl hL
  obtain ⟨E, hEE⟩ : ∃ E, E = openE ts l := ⟨_, rfl⟩
  rw [← hEE] at HO ⊢
  have HEE := Lib.hid hEE
  clear hEE
  go_enter Tryd.func28, Tryd.ntmps28
  go_wp2_with fail
  refine HO.out.mono ?_
  rintro e w1 ⟨hb1, v, rfl⟩
  have H1 := Lib.hid hb1
  clear hb1 HO
  by_cases hE : E = 0
  · subst hE
    have h0 := openE_zero HEE.out.symm
    have htl4 : tl ≤ 4 := by
      have h1 := (calls_zero h0.1).1
      unfold typesB at h1
      rw [Bool.and_eq_true, decide_eq_true_iff] at h1
      rw [HLL.out]
      exact h1.1.2
    have hmk := made_bools tl tl rfl (by omega) w1
    have H0 := Lib.hid (And.intro h0.1 htl4)
    clear h0
    go_wp2_with fail
    clear hmk
    obtain ⟨G, hG⟩ : ∃ G, G = w1.heap.size := ⟨_, rfl⟩
    have hst : Below w.heap.size w (w1.alloc (.cells (bitCs tl fun _ => false) 4)) := H1.out.alloc H1.out.size _
    have hbt : BTab (w1.alloc (.cells (bitCs tl fun _ => false) 4)) w1.heap.size tl (fun j => decide (j < 0) && pB ts l j) := (Lies.new _ _ _).cast (by congr 1)
    rw [← hG] at hbt ⊢
    have HG := Lib.hid (show w.heap.size ≤ G by rw [hG]; exact H1.out.size)
    have HS := Lib.hid (And.intro hst hbt)
    clear hst hbt hG
    generalize w1.alloc (.cells (bitCs tl fun _ => false) 4) = W at HS ⊢
    go_loopw [27] (fun i wr => ∃ k : Nat, k ≤ tl ∧ i = .int .i64 k ∧ Below w.heap.size w wr ∧ BTab wr G tl (fun j => decide (j < k) && pB ts l j))
      (fun i _ => tl - (intOf i).toNat)
    case atStart => exact ⟨0, Nat.zero_le _, rfl, HS.out.1, HS.out.2⟩
    case round =>
      obtain ⟨k, hk, rfl, hbr, hB⟩ := hrel
      by_cases hlt : k < tl
      · have HB := Lib.hid (And.intro hbr hB)
        have HL := lleast_any ((HT.out.1.below hbr).mono hbr.size) ((HT.out.2.1.below hbr).mono hbr.size) ((HT.out.2.2.on hbr).mono hbr.size) H0.out.1 (q := (k : Int)) ⟨by omega, by rw [← HLL.out]; omega⟩
        rw [openE_part HEE.out.symm] at HL
        have HL := Lib.hid HL
        clear hbr hB
        go_wp2_with fail
        refine HL.out.mono ?_
        rintro e w2 ⟨hb2, u, B, rfl, -, -, -⟩
        have H2 := Lib.hid (HB.out.1.trans (hb2.mono HB.out.1.size))
        have hB2 : BTab w2 G tl (fun j => decide (j < k) && pB ts l j) := Lies.below HB.out.2 hb2 (Lies.lt HB.out.2)
        have hc2 := hB2.cell hlt
        have hf2 := Lies.frozen hB2 k
        have HB2 := Lib.hid hB2
        clear hb2 hB2
        go_wp2_with fail
        go_roundw
        case rel =>
          refine ⟨k + 1, by omega, by go_num, Below.setCell H2.out (show w.heap.size ≤ G from HG.out) _, ?_⟩
          have h9 := HB2.out.set_ k (pB ts l k)
          rwa [show (fun j => if j = k then pB ts l k else decide (j < k) && pB ts l j) = (fun j => decide (j < k + 1) && pB ts l j) by
            funext j
            by_cases e : j = k
            · subst e; rw [if_pos rfl, decide_eq_true (Nat.lt_succ_self j), Bool.true_and]
            · rw [if_neg e]
              congr 1
              rw [decide_eq_decide]
              omega] at h9
        case measure => simp [intOf]; omega
      · have : k = tl := by omega
        subst this
        go_wp2_with fail
        go_ret2
        refine ⟨hbr, G, rfl, ?_⟩
        have h9 : bitCs k (fun j => decide (j < k) && pB ts l j) = bitCs k (pB ts l) := by
          unfold bitCs
          apply Array.ext_getElem?
          intro j
          by_cases hj : j < k <;> simp [hj]
        exact Lies.cast hB h9
  · have hz : (E == 0) = false := by rw [beq_eq_false_iff_ne]; exact hE
    have HE := Lib.hid hE
    clear hE
    go_wp2_with fail
    go_ret2
    exact ⟨H1.out, .inl ⟨HE.out, rfl⟩⟩
end Go.Proofs.YtecpjeililiafaaDoor
