/-
  Joined by a program out of: PartRite, SubCalls, Unlike.
-/
import Derived.Test.YtfgangkpebkicaaGreatDoorMgAR
import Derived.Test.YtfgangkpebkicaaGreatDoorMgAQ
import Derived.Test.YtfgangkpebkicaaGreatDoorMgAP

/-
  Plain: a right order of a thing's part is a right order of what the thing was asked in the whole, with other numbers.
-/
namespace Go.Proofs.YtfgangkpebkicaaGreatDoor
open Go.RowKit
set_option maxRecDepth 20000
/-- The numbers of thing q's calls. -/
def idxQ (cs : List Cl) (q : Int) : List Nat := (List.range cs.length).filter fun i => (cs.getD i default).thing == q
theorem range_getD (cs : List Cl) : (List.range cs.length).map (fun i => cs.getD i default) = cs := by
  refine List.ext_getElem (by simp) fun i h1 h2 => ?_
  rw [List.getElem_map, List.getElem_range, List.getD_eq_getElem?_getD, List.getElem?_eq_getElem h2]
  rfl
theorem prt_idx (r : Int → Int) (q : Int) (cs : List Cl) : prt r q cs = (idxQ cs q).map fun i => retC r (cs.getD i default) := by
  unfold prt idxQ
  have h : cs.filter (fun c => c.thing == q) = ((List.range cs.length).map (fun i => cs.getD i default)).filter (fun c => c.thing == q) := by rw [range_getD]
  rw [h, List.filter_map, List.map_map]
  rfl
theorem idxQ_mem {cs : List Cl} {q : Int} {i : Nat} : i ∈ idxQ cs q ↔ i < cs.length ∧ (cs.getD i default).thing = q := by
  unfold idxQ
  rw [List.mem_filter, List.mem_range, beq_iff_eq]
theorem idxQ_nodup (cs : List Cl) (q : Int) : (idxQ cs q).Nodup := List.nodup_range.sublist List.filter_sublist
/-- The number in the whole. -/
def upI (cs : List Cl) (q : Int) (k : Nat) : Nat := (idxQ cs q).getD k 0
def upS (cs : List Cl) (q : Int) (x : Int × Int) : Int × Int := ((upI cs q x.1.toNat : Nat), x.2)
section
variable {ts : List Int} {cs : List Cl} {q : Int} {r : Int → Int}
theorem prt_len : (prt r q cs).length = (idxQ cs q).length := by rw [prt_idx, List.length_map]
theorem upI_mem {k : Nat} (hk : k < (prt r q cs).length) : upI cs q k ∈ idxQ cs q := by
  rw [prt_len] at hk
  unfold upI
  rw [List.getD_eq_getElem?_getD, List.getElem?_eq_getElem hk]
  exact List.getElem_mem _
theorem upI_at {k : Nat} (hk : k < (prt r q cs).length) : (prt r q cs).getD k default = retC r (cs.getD (upI cs q k) default) := by
  have hk2 := hk
  rw [prt_len] at hk2
  unfold upI
  rw [List.getD_eq_getElem?_getD, prt_idx, List.getElem?_map, List.getElem?_eq_getElem hk2, List.getD_eq_getElem?_getD (l := idxQ cs q), List.getElem?_eq_getElem hk2]
  rfl
theorem upI_inj {k m : Nat} (hk : k < (prt r q cs).length) (hm : m < (prt r q cs).length) (h : upI cs q k = upI cs q m) : k = m := by
  rw [prt_len] at hk hm
  unfold upI at h
  rw [List.getD_eq_getElem?_getD, List.getD_eq_getElem?_getD, List.getElem?_eq_getElem hk, List.getElem?_eq_getElem hm] at h
  exact (List.getElem_inj (idxQ_nodup cs q)).1 h
theorem upI_onto (r : Int → Int) {i : Nat} (hi : i < cs.length) (hq : (cs.getD i default).thing = q) : ∃ k, k < (prt r q cs).length ∧ upI cs q k = i := by
  obtain ⟨k, hk, e⟩ := List.getElem_of_mem (idxQ_mem.2 ⟨hi, hq⟩)
  refine ⟨k, by rw [prt_len]; exact hk, ?_⟩
  unfold upI
  rw [List.getD_eq_getElem?_getD, List.getElem?_eq_getElem hk]
  exact e
theorem upS_atC (x : Int × Int) : atC cs (upS cs q x) = cs.getD (upI cs q x.1.toNat) default := by unfold atC upS; rw [Int.toNat_natCast]
theorem part_ahead (hup : ∀ y z, y ≤ z → r y ≤ r z) (hr : ∀ z, 0 ≤ r z) (ht : ∀ c ∈ cs, c.thing = q → c.til ≠ -1 → r (c.til + 1) = r c.til + 1) {k m : Nat} (hk : k < (prt r q cs).length) (hm : m < (prt r q cs).length) :
    aheadB (prt r q cs) k m = aheadB cs (upI cs q k) (upI cs q m) := by
  unfold aheadB
  rw [upI_at hk, upI_at hm, Bool.eq_iff_iff, decide_eq_true_iff, decide_eq_true_iff]
  obtain ⟨h1, h2⟩ := idxQ_mem.1 (upI_mem hk)
  have hmem : cs.getD (upI cs q k) default ∈ cs := by rw [List.getD_eq_getElem?_getD, List.getElem?_eq_getElem h1]; exact List.getElem_mem _
  have htil := ht _ hmem h2
  rw [show (retC r (cs.getD (upI cs q k) default)).til ≠ -1 ↔ (cs.getD (upI cs q k) default).til ≠ -1 from not_congr (retC_til hr _)]
  generalize cs.getD (upI cs q k) default = c at *
  generalize cs.getD (upI cs q m) default = d at *
  constructor
  · rintro ⟨h3, h4⟩
    refine ⟨h3, Classical.byContradiction fun h5 => ?_⟩
    unfold retC at h4
    simp only at h4
    rw [if_neg h3] at h4
    have := hup d.frm c.til (by omega)
    omega
  · rintro ⟨h3, h4⟩
    refine ⟨h3, ?_⟩
    unfold retC
    simp only
    rw [if_neg h3]
    have := hup (c.til + 1) d.frm (by omega)
    have := htil h3
    omega
/-- Right in the part just if right in the whole. -/
theorem rite_part_iff (hup : ∀ y z, y ≤ z → r y ≤ r z) (hr : ∀ z, 0 ≤ r z) (ht : ∀ c ∈ cs, c.thing = q → c.til ≠ -1 → r (c.til + 1) = r c.til + 1) (hth : ∀ c ∈ cs, 0 ≤ c.thing ∧ c.thing < ts.length) {t : Nat} (hq : q = (t : Int)) (htt : t < ts.length)
    {ws : List (Int × Int)} (hrng : ∀ x ∈ ws, 0 ≤ x.1 ∧ x.1 < (prt r q cs).length) : Rite ts (prt r q cs) ws ↔ RiteT ts cs t (ws.map (upS cs q)) := by
  have hfst : (ws.map (upS cs q)).map (·.1) = (ws.map (·.1)).map fun z => ((upI cs q z.toNat : Nat) : Int) := by rw [List.map_map, List.map_map]; rfl
  have hat : ∀ x ∈ ws, atC (prt r q cs) x = retC r (atC cs (upS cs q x)) := fun x hx => by
    have := hrng x hx
    rw [upS_atC]
    exact upI_at (by omega)
  have hin : ∀ k, k < (prt r q cs).length → ((k : Int) ∈ ws.map (·.1) ↔ ((upI cs q k : Nat) : Int) ∈ (ws.map (upS cs q)).map (·.1)) := fun k hk => by
    rw [hfst]
    constructor
    · intro h
      exact List.mem_map.2 ⟨_, h, by rw [Int.toNat_natCast]⟩
    · intro h
      obtain ⟨z, hz, e⟩ := List.mem_map.1 h
      obtain ⟨x, hx, rfl⟩ := List.mem_map.1 hz
      have := hrng x hx
      have := upI_inj (cs := cs) (r := r) (k := x.1.toNat) (m := k) (by omega) hk (by omega)
      rw [← this, Int.toNat_of_nonneg (by omega)]
      exact hz
  have hown : ownD (prt r q cs) t ws = (ws.map (upS cs q)).map (ddC cs) := by
    unfold ownD
    rw [List.filter_eq_self.2 (fun x hx => by
      have h1 := hrng x hx
      obtain ⟨_, h2⟩ := idxQ_mem.1 (upI_mem (cs := cs) (q := q) (r := r) (k := x.1.toNat) (by omega))
      rw [beq_iff_eq, hat x hx, upS_atC]
      show (cs.getD (upI cs q x.1.toNat) default).thing.toNat = t
      rw [h2, hq, Int.toNat_natCast]), List.map_map]
    refine List.map_congr_left fun x hx => ?_
    show ddC (prt r q cs) x = ddC cs (upS cs q x)
    unfold ddC
    rw [hat x hx]
    rfl
  have honce : (ws.map (·.1)).Nodup ↔ ((ws.map (upS cs q)).map (·.1)).Nodup := by
    rw [hfst]
    unfold List.Nodup
    rw [List.pairwise_map (f := fun z : Int => ((upI cs q z.toNat : Nat) : Int))]
    constructor
    · intro h
      refine h.imp_of_mem fun {a b} ha hb hab e => hab ?_
      obtain ⟨x, hx, rfl⟩ := List.mem_map.1 ha
      obtain ⟨y, hy, rfl⟩ := List.mem_map.1 hb
      have h1 := hrng x hx
      have h2 := hrng y hy
      have e2 : upI cs q x.1.toNat = upI cs q y.1.toNat := by exact Int.ofNat.inj e
      have := upI_inj (cs := cs) (r := r) (k := x.1.toNat) (m := y.1.toNat) (by omega) (by omega) e2
      omega
    · intro h
      exact h.imp fun {a b} hab e => hab (by rw [e])
  constructor
  · intro h
    refine ⟨fun y hy => ?_, fun y hy => ?_, honce.1 h.once, fun y hy hy2 => ?_, fun i hi hit hti => ?_, fun i j hi hj hit ha a y b hs hy => ?_, ?_⟩
    · obtain ⟨x, hx, rfl⟩ := List.mem_map.1 hy
      have h1 := hrng x hx
      obtain ⟨h2, _⟩ := idxQ_mem.1 (upI_mem (cs := cs) (q := q) (r := r) (k := x.1.toNat) (by omega))
      unfold upS
      exact ⟨by simp only; omega, by simp only; omega⟩
    · obtain ⟨x, hx, rfl⟩ := List.mem_map.1 hy
      have h1 := hrng x hx
      obtain ⟨_, h2⟩ := idxQ_mem.1 (upI_mem (cs := cs) (q := q) (r := r) (k := x.1.toNat) (by omega))
      rw [upS_atC, h2, hq, Int.toNat_natCast]
    · obtain ⟨x, hx, rfl⟩ := List.mem_map.1 hy
      have := h.res x hx (by rw [hat x hx]; exact fun h5 => hy2 ((retC_til hr _).1 h5))
      rw [hat x hx] at this
      exact this
    · have hm : cs.getD i default ∈ cs := by rw [List.getD_eq_getElem?_getD, List.getElem?_eq_getElem hi]; exact List.getElem_mem _
      have := hth _ hm
      obtain ⟨k, hk, rfl⟩ := upI_onto (cs := cs) (q := q) r hi (by omega)
      exact (hin k hk).1 (h.all k hk (by rw [upI_at hk]; exact fun h5 => hti ((retC_til hr _).1 h5)))
    · have hm : cs.getD i default ∈ cs := by rw [List.getD_eq_getElem?_getD, List.getElem?_eq_getElem hi]; exact List.getElem_mem _
      have := hth _ hm
      obtain ⟨k, hk, rfl⟩ := upI_onto (cs := cs) (q := q) r hi (by omega)
      obtain ⟨A, B, rfl, rfl, e3⟩ := List.map_eq_append_iff.1 hs
      obtain ⟨x, B', rfl, rfl, rfl⟩ := List.map_eq_cons_iff.1 e3
      have hx := hrng x (by simp)
      have ej : upI cs q x.1.toNat = j := by unfold upS at hy; simp only at hy; omega
      subst ej
      rw [← part_ahead hup hr ht hk (by omega)] at ha
      obtain ⟨z, hz, ez⟩ := List.mem_map.1 (h.ord k x.1.toNat hk (by omega) ha A x B' rfl (by omega))
      refine List.mem_map.2 ⟨upS cs q z, List.mem_map.2 ⟨z, hz, rfl⟩, ?_⟩
      unfold upS
      rw [ez, Int.toNat_natCast]
    · rw [← hown]
      exact h.goes t htt
  · intro h
    refine ⟨hrng, honce.2 h.once, fun x hx hx2 => ?_, fun k hk hti => ?_, fun k m hk hm ha a y b hs hy => ?_, fun t2 ht2 => ?_⟩
    · rw [hat x hx] at hx2 ⊢
      exact h.res _ (List.mem_map.2 ⟨x, hx, rfl⟩) (fun h5 => hx2 ((retC_til hr _).2 h5))
    · obtain ⟨h1, h2⟩ := idxQ_mem.1 (upI_mem hk)
      refine (hin k hk).2 (h.all _ h1 (by rw [h2, hq, Int.toNat_natCast]) ?_)
      rw [upI_at hk] at hti
      exact fun h5 => hti ((retC_til hr _).2 h5)
    · subst hs
      obtain ⟨h1, h2⟩ := idxQ_mem.1 (upI_mem hk)
      obtain ⟨h3, _⟩ := idxQ_mem.1 (upI_mem hm)
      rw [part_ahead hup hr ht hk hm] at ha
      have h5 := h.ord _ _ h1 h3 (by rw [h2, hq, Int.toNat_natCast]) ha (a.map (upS cs q)) (upS cs q y) (b.map (upS cs q)) (by rw [List.map_append, List.map_cons]) (by unfold upS; rw [hy, Int.toNat_natCast])
      obtain ⟨z, hz, ez⟩ := List.mem_map.1 h5
      obtain ⟨x, hx, rfl⟩ := List.mem_map.1 hz
      have hxr := hrng x (List.mem_append.2 (.inl hx))
      have e : upI cs q x.1.toNat = upI cs q k := by unfold upS at ez; simp only at ez; omega
      have := upI_inj (cs := cs) (r := r) (by omega) hk e
      exact List.mem_map.2 ⟨x, hx, by omega⟩
    · by_cases e : t2 = t
      · subst e
        rw [hown]
        exact h.goes
      · have : ownD (prt r q cs) t2 ws = [] := by
          unfold ownD
          rw [List.filter_eq_nil_iff.2 (fun x hx => by
            have h1 := hrng x hx
            obtain ⟨_, h2⟩ := idxQ_mem.1 (upI_mem (cs := cs) (q := q) (r := r) (k := x.1.toNat) (by omega))
            rw [beq_iff_eq, hat x hx, upS_atC]
            show ¬ (cs.getD (upI cs q x.1.toNat) default).thing.toNat = t2
            rw [h2, hq, Int.toNat_natCast]
            exact fun h => e h.symm)]
          rfl
        rw [this]
        rfl
/-- Each order of the thing's calls is one of the part, with other numbers. -/
theorem upS_onto (r : Int → Int) (hth : ∀ c ∈ cs, 0 ≤ c.thing) {t : Nat} (hq : q = (t : Int)) : ∀ {w : List (Int × Int)}, (∀ x ∈ w, 0 ≤ x.1 ∧ x.1 < cs.length) → (∀ x ∈ w, (atC cs x).thing.toNat = t) → ∃ ws : List (Int × Int), (∀ x ∈ ws, 0 ≤ x.1 ∧ x.1 < (prt r q cs).length) ∧ ws.map (upS cs q) = w
  | [], _, _ => ⟨[], (fun x h => by cases h), rfl⟩
  | x :: w, h1, h2 => by
    obtain ⟨ws, e1, e2⟩ := upS_onto r hth hq (w := w) (fun y hy => h1 y (List.mem_cons_of_mem _ hy)) (fun y hy => h2 y (List.mem_cons_of_mem _ hy))
    have hx := h1 x (List.mem_cons_self ..)
    have ho := h2 x (List.mem_cons_self ..)
    have hm : atC cs x ∈ cs := by unfold atC; rw [List.getD_eq_getElem?_getD, List.getElem?_eq_getElem (by omega : x.1.toNat < cs.length)]; exact List.getElem_mem _
    have := hth _ hm
    obtain ⟨k, hk, ek⟩ := upI_onto (cs := cs) (q := q) r (i := x.1.toNat) (by omega) (by unfold atC at ho this; omega)
    refine ⟨((k : Int), x.2) :: ws, fun y hy => ?_, ?_⟩
    · rcases List.mem_cons.1 hy with rfl | hy
      · exact ⟨by simp only; omega, by simp only; omega⟩
      · exact e1 y hy
    · rw [List.map_cons, e2]
      congr 1
      unfold upS
      simp only [Int.toNat_natCast]
      rw [ek]
      exact Prod.ext (by simp only; omega) rfl
end
end Go.Proofs.YtfgangkpebkicaaGreatDoor

/-
  Plain: a part of a history, some of its calls whole, tells these calls, their times counted anew.
-/
namespace Go.Proofs.YtfgangkpebkicaaGreatDoor
open Go.RowKit
set_option maxRecDepth 20000
/-- The events whose numbers are kept, from number n on. -/
def subL (k : Int → Bool) : Nat → List Ev → List Ev
  | _, [] => []
  | n, x :: l => if k n = true then x :: subL k (n + 1) l else subL k (n + 1) l
/-- A call, its times counted anew. -/
def rtC (r : Int → Int) (c : Cl) : Cl := { c with frm := r c.frm, til := if c.til = -1 then -1 else r c.til }
/-- The calls that are kept. -/
def sbt (k : Int → Bool) (r : Int → Int) (cs : List Cl) : List Cl := (cs.filter fun c => k c.frm).map (rtC r)
theorem sbt_append (k : Int → Bool) (r : Int → Int) (a b : List Cl) : sbt k r (a ++ b) = sbt k r a ++ sbt k r b := by
  unfold sbt
  rw [List.filter_append, List.map_append]
theorem sbt_yes {k : Int → Bool} {r : Int → Int} {c : Cl} (h : k c.frm = true) (l : List Cl) : sbt k r (c :: l) = rtC r c :: sbt k r l := by
  unfold sbt
  rw [List.filter_cons, if_pos h, List.map_cons]
theorem sbt_no {k : Int → Bool} {r : Int → Int} {c : Cl} (h : k c.frm = false) (l : List Cl) : sbt k r (c :: l) = sbt k r l := by
  unfold sbt
  rw [List.filter_cons, if_neg (by rw [h]; decide)]
theorem sbt_mem {k : Int → Bool} {r : Int → Int} {cs : List Cl} {d : Cl} : d ∈ sbt k r cs ↔ ∃ c ∈ cs, k c.frm = true ∧ rtC r c = d := by
  unfold sbt
  rw [List.mem_map]
  constructor
  · rintro ⟨c, h, e⟩
    rw [List.mem_filter] at h
    exact ⟨c, h.1, h.2, e⟩
  · rintro ⟨c, h1, h2, e⟩
    exact ⟨c, by rw [List.mem_filter]; exact ⟨h1, h2⟩, e⟩
theorem rtC_til {r : Int → Int} (hr : ∀ z, 0 ≤ r z) (c : Cl) : (rtC r c).til = -1 ↔ c.til = -1 := by
  unfold rtC
  simp only
  by_cases h : c.til = -1
  · rw [if_pos h]; exact ⟨fun _ => h, fun _ => rfl⟩
  · rw [if_neg h]
    have := hr c.til
    exact ⟨fun h2 => by omega, fun h2 => absurd h2 h⟩
theorem oneOpen_pair {cs : List Cl} : OneOpen cs ↔ cs.Pairwise fun c d => ¬ (c.who = d.who ∧ c.til = -1 ∧ d.til = -1) := by
  rw [List.pairwise_iff_getElem]
  constructor
  · intro h i j hi hj hij hh
    have := h i j _ _ (List.getElem?_eq_getElem hi) (List.getElem?_eq_getElem hj) hh.1 hh.2.1 hh.2.2
    omega
  · intro h i j c d hc hd hw h1 h2
    obtain ⟨hi, rfl⟩ := List.getElem?_eq_some_iff.1 hc
    obtain ⟨hj, rfl⟩ := List.getElem?_eq_some_iff.1 hd
    rcases Nat.lt_trichotomy i j with hlt | heq | hgt
    · exact absurd ⟨hw, h1, h2⟩ (h i j hi hj hlt)
    · exact heq
    · exact absurd ⟨hw.symm, h2, h1⟩ (h j i hj hi hgt)
theorem OneOpen.sbt {k : Int → Bool} {r : Int → Int} (hr : ∀ z, 0 ≤ r z) {cs : List Cl} (h : OneOpen cs) : OneOpen (sbt k r cs) := by
  rw [oneOpen_pair] at h ⊢
  unfold Proofs.YtfgangkpebkicaaGreatDoor.sbt
  rw [List.pairwise_map]
  refine (h.filter _).imp fun {c d} hcd hh => hcd ⟨hh.1, (rtC_til hr c).1 hh.2.1, (rtC_til hr d).1 hh.2.2⟩
/-- One more event, seen by what is kept. -/
theorem step_sbt {ts : List Int} {n m : Nat} {cs cs' : List Cl} {x : Ev} {k : Int → Bool} {r : Int → Int} (hr : ∀ z, 0 ≤ r z) (h1 : OneOpen cs) (hs : step ts n cs x = .inr cs')
    (hk : ∀ c ∈ cs', c.til = (n : Int) → k c.frm = k n) :
    (k n = true → r n = m → step ts m (sbt k r cs) x = .inr (sbt k r cs')) ∧ (k n = false → sbt k r cs' = sbt k r cs) := by
  unfold step at hs ⊢
  split at hs
  · cases hs
  rename_i hx
  rw [if_neg hx]
  split at hs
  · rename_i hk0
    rw [if_pos hk0]
    unfold respS at hs ⊢
    split at hs
    · cases hs
    rename_i ho
    split at hs
    · cases hs
    rename_i hg
    obtain ⟨c, e1, e2, e3, e4⟩ := openOf_at (cs := cs) (who := x.who) (by omega)
    generalize (openOf cs x.who).toNat = i at *
    have hgd : cs.getD i default = c := by rw [List.getD_eq_getElem?_getD, e1]; rfl
    rw [hgd] at hs hg
    injection hs with hs
    have hth : c.thing = x.thing := Classical.byContradiction fun h => hg (.inl h)
    have hgi : ¬ givesB c.kind x.val = false := fun h => hg (.inr h)
    have hsp : cs = cs.take i ++ c :: cs.drop (i + 1) := by
      have h2 : cs.drop i = c :: cs.drop (i + 1) := by rw [List.drop_eq_getElem_cons e4, (List.getElem?_eq_some_iff.1 e1).2]
      rw [← h2, List.take_append_drop]
    have hset : cs' = cs.take i ++ { c with res := x.val, til := (n : Int) } :: cs.drop (i + 1) := by
      rw [← hs, List.set_eq_take_append_cons_drop, if_pos e4]
    have hkc : k c.frm = k n := hk { c with res := x.val, til := (n : Int) } (by rw [hset]; simp) rfl
    constructor
    · intro hq hrn
      rw [hq] at hkc
      have hp1 : sbt k r cs = sbt k r (cs.take i) ++ rtC r c :: sbt k r (cs.drop (i + 1)) := by
        conv => lhs; rw [hsp]
        rw [sbt_append, sbt_yes hkc]
      have hp2 : sbt k r cs' = sbt k r (cs.take i) ++ rtC r { c with res := x.val, til := (n : Int) } :: sbt k r (cs.drop (i + 1)) := by
        rw [hset, sbt_append, sbt_yes (by show k c.frm = true; exact hkc)]
      have hat : (sbt k r cs)[(sbt k r (cs.take i)).length]? = some (rtC r c) := by rw [hp1]; simp
      have hoo := openOf_eq (OneOpen.sbt (k := k) hr h1) hat (who := x.who) e2 ((rtC_til hr c).2 e3)
      rw [hoo, if_neg (by omega), Int.toNat_natCast, List.getD_eq_getElem?_getD, hat]
      simp only [Option.getD_some]
      rw [if_neg (by
        rintro (h | h)
        · exact h (by show c.thing = x.thing; exact hth)
        · exact hgi h)]
      rw [hp2, hp1]
      congr 1
      rw [List.set_append, if_neg (Nat.lt_irrefl _), Nat.sub_self, List.set_cons_zero]
      congr 2
      unfold rtC
      simp only
      rw [if_neg (by omega : ¬ (n : Int) = -1), hrn]
    · intro hq
      rw [hq] at hkc
      rw [hset]
      conv => rhs; rw [hsp]
      rw [sbt_append, sbt_append, sbt_no (by show k c.frm = false; exact hkc), sbt_no hkc]
  · rename_i hk0
    rw [if_neg hk0]
    unfold invS at hs ⊢
    split at hs
    · cases hs
    rename_i hf
    rw [if_neg hf]
    split at hs
    · cases hs
    rename_i ho
    injection hs with hs
    constructor
    · intro hq hrn
      rw [if_neg (fun h0 => by
        obtain ⟨d, d1, d2, d3, _⟩ := openOf_at h0
        obtain ⟨c, c1, c2, c3⟩ := sbt_mem.1 (List.mem_of_getElem? d1)
        obtain ⟨j, c4⟩ := List.getElem?_of_mem c1
        exact openOf_none (by omega : openOf cs x.who < 0) c4 (by rw [← d2, ← c3]; rfl) ((rtC_til hr c).1 (by rw [c3]; exact d3)))]
      rw [← hs, sbt_append, sbt_yes (by exact hq)]
      unfold rtC sbt
      simp only [if_true, List.filter_nil, List.map_nil]
      rw [hrn]
    · intro hq
      rw [← hs, sbt_append, sbt_no (by exact hq)]
      exact List.append_nil _
/-- What was answered stays. -/
theorem step_closed {ts : List Int} {n : Nat} {cs cs' : List Cl} {x : Ev} (hs : step ts n cs x = .inr cs') {c : Cl} (hc : c ∈ cs) (ht : c.til ≠ -1) : c ∈ cs' := by
  unfold step respS invS at hs
  repeat' split at hs
  all_goals (try cases hs)
  · obtain ⟨e, e1, e2, e3, e4⟩ := openOf_at (cs := cs) (who := x.who) (by omega)
    obtain ⟨i, hi⟩ := List.getElem?_of_mem hc
    have hne : (openOf cs x.who).toNat ≠ i := fun h => by
      rw [h, hi] at e1
      injection e1 with e1
      subst e1
      exact ht e3
    refine List.mem_of_getElem? (i := i) ?_
    rw [List.getElem?_set_ne hne]
    exact hi
  · exact List.mem_append_left _ hc
theorem run_closed {ts : List Int} : ∀ (l : List Ev) (n : Nat) (cs : List Cl), (run ts n cs l).2.2 = 0 → ∀ c ∈ cs, c.til ≠ -1 → c ∈ (run ts n cs l).1
  | [], _, _, _, c, hc, _ => hc
  | x :: l, n, cs, h0, c, hc, ht => by
    rw [run] at h0 ⊢
    cases hs : step ts n cs x with
    | inl e => rw [hs] at h0; exact absurd h0 (step_err hs)
    | inr cs' =>
      rw [hs] at h0
      exact run_closed l (n + 1) cs' h0 c (step_closed hs hc ht) ht
/-- All events, seen by what is kept. -/
theorem run_sbt {ts : List Int} {k : Int → Bool} {r : Int → Int} (hr : ∀ z, 0 ≤ r z) : ∀ (l : List Ev) (n m : Nat) (cs : List Cl), OneOpen cs → (∀ j, j ≤ l.length → r ((n + j : Nat) : Int) = ((m + (subL k n (l.take j)).length : Nat) : Int)) →
    (run ts n cs l).2.2 = 0 → (∀ c ∈ (run ts n cs l).1, c.til ≠ -1 → k c.til = k c.frm) → run ts m (sbt k r cs) (subL k n l) = (sbt k r (run ts n cs l).1, 0, 0)
  | [], n, m, cs, _, _, _, _ => rfl
  | x :: l, n, m, cs, h1, hj, h0, hfin => by
    have hn := hj 0 (Nat.zero_le _)
    rw [List.take_zero] at hn
    have hn2 : r (n : Int) = (m : Int) := by simpa [subL] using hn
    rw [run] at h0 hfin ⊢
    rcases step_K (ts := ts) (n := n) (x := x) h1 with ⟨e, he, _⟩ | ⟨cs', he, h2, _⟩
    · rw [he] at h0
      exact absurd h0 (step_err he)
    · rw [he] at h0 hfin
      simp only [he]
      simp only at h0 hfin
      obtain ⟨s1, s2⟩ := step_sbt (m := m) (k := k) hr h1 he (fun c hc ht => by
        have h3 := hfin c (run_closed l (n + 1) cs' h0 c hc (by omega)) (by omega)
        rw [ht] at h3
        exact h3.symm)
      rw [subL]
      cases hq : k n
      · rw [if_neg (by decide), ← s2 hq]
        refine run_sbt hr l (n + 1) m cs' h2 (fun j hj2 => ?_) h0 hfin
        have := hj (j + 1) (by simp; omega)
        rw [List.take_succ_cons, subL, if_neg (by rw [hq]; decide)] at this
        rw [show n + 1 + j = n + (j + 1) by omega, this]
      · rw [if_pos rfl, run, s1 hq hn2]
        simp only
        refine run_sbt hr l (n + 1) (m + 1) cs' h2 (fun j hj2 => ?_) h0 hfin
        have := hj (j + 1) (by simp; omega)
        rw [List.take_succ_cons, subL, if_pos hq, List.length_cons] at this
        rw [show n + 1 + j = n + (j + 1) by omega, this]
        omega
/-- How many that are kept come before time z. -/
def rkS (k : Int → Bool) (l : List Ev) (z : Int) : Int := (subL k 0 (l.take z.toNat)).length
theorem subL_append (k : Int → Bool) : ∀ (a b : List Ev) (n : Nat), subL k n (a ++ b) = subL k n a ++ subL k (n + a.length) b
  | [], b, n => by simp [subL]
  | x :: a, b, n => by
    rw [List.cons_append, subL, subL, subL_append k a b (n + 1), List.length_cons, show n + 1 + a.length = n + (a.length + 1) by omega]
    split <;> rfl
theorem rkS_ge (k : Int → Bool) (l : List Ev) (z : Int) : 0 ≤ rkS k l z := by unfold rkS; omega
theorem rkS_up (k : Int → Bool) (l : List Ev) {y z : Int} (h : y ≤ z) : rkS k l y ≤ rkS k l z := by
  unfold rkS
  have e : l.take z.toNat = l.take y.toNat ++ (l.take z.toNat).drop y.toNat := by
    have h1 : l.take y.toNat = (l.take z.toNat).take y.toNat := by rw [List.take_take]; congr 1; omega
    rw [h1, List.take_append_drop]
  rw [e, subL_append, List.length_append]
  omega
theorem rkS_lt (k : Int → Bool) (l : List Ev) {y z : Int} (h0 : 0 ≤ y) (h : y < z) (hk : k y = true) (hl : y < l.length) : rkS k l y < rkS k l z := by
  have h1 : rkS k l (y + 1) = rkS k l y + 1 := by
    unfold rkS
    have hy : y.toNat < l.length := by omega
    rw [show (y + 1).toNat = y.toNat + 1 by omega, List.take_add_one, List.getElem?_eq_getElem hy, Option.toList_some, subL_append, List.length_append, List.length_take, Nat.min_eq_left (by omega), Nat.zero_add, subL, if_pos (by rw [show ((y.toNat : Nat) : Int) = y by omega]; exact hk)]
    simp [subL]
  have := rkS_up k l (y := y + 1) (z := z) (by omega)
  omega
/-- **Some calls of a history, whole, and no others: a history of these.** -/
theorem sub_calls {ts : List Int} {l : List Ev} (h : (callsOf ts l).2.2 = 0) {k : Int → Bool} (hk : ∀ c ∈ (callsOf ts l).1, c.til ≠ -1 → k c.til = k c.frm) : callsOf ts (subL k 0 l) = (sbt k (rkS k l) (callsOf ts l).1, 0, 0) := by
  obtain ⟨t1, t2, e1⟩ := calls_zero h
  rw [e1] at h hk
  have hsl : ∀ (l : List Ev) (n : Nat), (subL k n l).length ≤ l.length := by
    intro l
    induction l with
    | nil => intro n; simp [subL]
    | cons x l ih =>
      intro n
      rw [subL]
      have := ih (n + 1)
      split <;> simp <;> omega
  have e2 : callsOf ts (subL k 0 l) = run ts 0 [] (subL k 0 l) := by
    unfold callsOf
    rw [t1, if_neg (by decide), if_neg (by have := hsl l 0; omega)]
  rw [e2, e1]
  exact run_sbt (rkS_ge k l) l 0 0 [] OneOpen.nil (fun j hj => by unfold rkS; rw [Int.toNat_natCast, Nat.zero_add, Nat.zero_add]) h hk
/-- One more event. -/
theorem subL_take {k : Int → Bool} {l : List Ev} {j : Nat} {x : Ev} (h : l[j]? = some x) : subL k 0 (l.take (j + 1)) = if k j = true then subL k 0 (l.take j) ++ [x] else subL k 0 (l.take j) := by
  have hj := (List.getElem?_eq_some_iff.1 h).1
  rw [List.take_add_one, h, Option.toList_some, subL_append, List.length_take, Nat.min_eq_left (by omega), Nat.zero_add, subL]
  split
  · rfl
  · rw [subL, List.append_nil]
theorem subL_len (k : Int → Bool) : ∀ (l : List Ev) (n : Nat), (subL k n l).length ≤ l.length
  | [], n => by simp [subL]
  | x :: l, n => by
    rw [subL]
    have := subL_len k l (n + 1)
    split <;> simp <;> omega
end Go.Proofs.YtfgangkpebkicaaGreatDoor

/-
  Plain: no two calls begin at one event, or end at one.
-/
namespace Go.Proofs.YtfgangkpebkicaaGreatDoor
open Go.RowKit
set_option maxRecDepth 20000
def Unlike (cs : List Cl) : Prop := ∀ (i j : Nat) (c d : Cl), cs[i]? = some c → cs[j]? = some d → (c.frm = d.frm → i = j) ∧ (c.til ≠ -1 → c.til = d.til → i = j)
theorem step_unlike {ts : List Int} {n : Nat} {cs cs' : List Cl} {x : Ev} (h : Tidy n cs) (ha : Unlike cs) (hs : step ts n cs x = .inr cs') : Unlike cs' := by
  unfold step respS invS at hs
  repeat' split at hs
  all_goals (try cases hs)
  · obtain ⟨e, e1, _, e3, e4⟩ := openOf_at (cs := cs) (who := x.who) (by omega)
    have hg : cs.getD (openOf cs x.who).toNat default = e := by rw [List.getD_eq_getElem?_getD, e1]; rfl
    rw [hg]
    intro i j c d hc hd
    rw [List.getElem?_set] at hc hd
    split at hc
    · rename_i hi
      subst hi
      injection hc with hc
      subst hc
      split at hd
      · rename_i hj
        exact ⟨fun _ => hj, fun _ _ => hj⟩
      · have h2 := h d (List.mem_of_getElem? hd)
        exact ⟨(ha _ j e d e1 hd).1, fun _ h3 => by simp only at h3; omega⟩
    · have h1 := h c (List.mem_of_getElem? hc)
      split at hd
      · rename_i hj
        subst hj
        injection hd with hd
        subst hd
        exact ⟨(ha i _ c e hc e1).1, fun _ h3 => by simp only at h3; omega⟩
      · exact ha i j c d hc hd
  · intro i j c d hc hd
    have hil := (List.getElem?_eq_some_iff.1 hc).1
    have hjl := (List.getElem?_eq_some_iff.1 hd).1
    rw [List.length_append] at hil hjl
    simp only [List.length_cons, List.length_nil] at hil hjl
    rw [List.getElem?_append] at hc hd
    split at hc
    · have h1 := h c (List.mem_of_getElem? hc)
      split at hd
      · exact ha i j c d hc hd
      · have : j - cs.length = 0 := by omega
        rw [this] at hd
        simp at hd
        subst hd
        exact ⟨fun h3 => by simp only at h3; omega, fun h2 h3 => by simp only at h3; omega⟩
    · have : i - cs.length = 0 := by omega
      rw [this] at hc
      simp at hc
      subst hc
      split at hd
      · have h1 := h d (List.mem_of_getElem? hd)
        exact ⟨fun h3 => by simp only at h3; omega, fun h2 => absurd rfl h2⟩
      · exact ⟨fun _ => by omega, fun _ _ => by omega⟩
theorem calls_unlike {ts : List Int} {l : List Ev} (h : (callsOf ts l).2.2 = 0) : Unlike (callsOf ts l).1 := by
  obtain ⟨_, _, e⟩ := calls_zero h
  rw [e] at h ⊢
  have key : ∀ (r : List Ev) (n : Nat) (cs : List Cl), Tidy n cs → Unlike cs → (run ts n cs r).2.2 = 0 → Unlike (run ts n cs r).1 := by
    intro r
    induction r with
    | nil => intro n cs _ h _; exact h
    | cons x r ih =>
      intro n cs h h1 h2
      rw [run] at h2 ⊢
      cases hs : step ts n cs x with
      | inl e => rw [hs] at h2; exact absurd h2 (step_err hs)
      | inr cs' =>
        rw [hs] at h2
        exact ih (n + 1) cs' (step_tidy h hs) (step_unlike h h1 hs) h2
  exact key l 0 [] (fun c hc => by simp at hc) (fun i j c d hc => by simp at hc) h
/-- Of unlike calls no end is another one's begin. -/
theorem step_apart {ts : List Int} {n : Nat} {cs cs' : List Cl} {x : Ev} (h : Tidy n cs) (ha : ∀ c ∈ cs, ∀ d ∈ cs, c.til ≠ d.frm) (hs : step ts n cs x = .inr cs') : ∀ c ∈ cs', ∀ d ∈ cs', c.til ≠ d.frm := by
  unfold step at hs
  split at hs
  · cases hs
  split at hs
  · unfold respS at hs
    split at hs
    · cases hs
    rename_i ho
    split at hs
    · cases hs
    injection hs with hs
    subst hs
    obtain ⟨e, e1, e2, e3, e4⟩ := openOf_at (cs := cs) (who := x.who) (by omega)
    have hg : cs.getD (openOf cs x.who).toNat default = e := by rw [List.getD_eq_getElem?_getD, e1]; rfl
    rw [hg]
    have hem := List.mem_of_getElem? e1
    intro c hc d hd
    have hdf : ∃ d0 ∈ cs, d.frm = d0.frm := by
      rcases List.mem_or_eq_of_mem_set hd with hd | rfl
      · exact ⟨d, hd, rfl⟩
      · exact ⟨e, hem, rfl⟩
    obtain ⟨d0, hd0, hdf⟩ := hdf
    rw [hdf]
    rcases List.mem_or_eq_of_mem_set hc with hc | rfl
    · exact ha c hc d0 hd0
    · show (n : Int) ≠ d0.frm
      have := (h d0 hd0).2.1
      omega
  · unfold invS at hs
    split at hs
    · cases hs
    split at hs
    · cases hs
    injection hs with hs
    subst hs
    intro c hc d hd
    rcases List.mem_append.1 hc with hc | hc
    · rcases List.mem_append.1 hd with hd | hd
      · exact ha c hc d hd
      · rw [List.mem_singleton] at hd
        subst hd
        show c.til ≠ (n : Int)
        have := (h c hc).1
        omega
    · rw [List.mem_singleton] at hc
      subst hc
      show (-1 : Int) ≠ d.frm
      rcases List.mem_append.1 hd with hd | hd
      · have := (h d hd).2.2.1
        omega
      · rw [List.mem_singleton] at hd
        subst hd
        show (-1 : Int) ≠ (n : Int)
        omega
theorem calls_apart {ts : List Int} {l : List Ev} (h : (callsOf ts l).2.2 = 0) : ∀ c ∈ (callsOf ts l).1, ∀ d ∈ (callsOf ts l).1, c.til ≠ d.frm := by
  obtain ⟨_, _, e⟩ := calls_zero h
  rw [e] at h ⊢
  have key : ∀ (r : List Ev) (n : Nat) (cs : List Cl), Tidy n cs → (∀ c ∈ cs, ∀ d ∈ cs, c.til ≠ d.frm) → (run ts n cs r).2.2 = 0 → ∀ c ∈ (run ts n cs r).1, ∀ d ∈ (run ts n cs r).1, c.til ≠ d.frm := by
    intro r
    induction r with
    | nil => intro n cs _ h _; exact h
    | cons x r ih =>
      intro n cs h h1 h2
      rw [run] at h2 ⊢
      cases hs : step ts n cs x with
      | inl e => rw [hs] at h2; exact absurd h2 (step_err hs)
      | inr cs' =>
        rw [hs] at h2
        exact ih (n + 1) cs' (step_tidy h hs) (step_apart h h1 hs) h2
  exact key l 0 [] (fun c hc => by simp at hc) (fun c hc => by simp at hc) h
theorem run_lenU {ts : List Int} : ∀ (l : List Ev) (n : Nat) (cs : List Cl), (run ts n cs l).1.length ≤ cs.length + l.length
  | [], n, cs => by simp [run]
  | x :: r, n, cs => by
    rw [run]
    cases h : step ts n cs x with
    | inl e => simp
    | inr cs' =>
      have h1 := step_len h
      have h2 := run_lenU r (n + 1) cs' (ts := ts)
      simp only [List.length_cons]
      omega
/-- How many there are: no more than events. -/
theorem calls_lenQ {ts : List Int} {l : List Ev} (h : (callsOf ts l).2.2 = 0) : (callsOf ts l).1.length ≤ 200 := by
  obtain ⟨_, h2, e⟩ := calls_zero h
  rw [e]
  have := run_lenU (ts := ts) l 0 []
  simp at this
  omega
end Go.Proofs.YtfgangkpebkicaaGreatDoor
