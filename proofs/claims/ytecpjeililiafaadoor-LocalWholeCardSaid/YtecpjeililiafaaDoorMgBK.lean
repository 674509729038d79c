/-
  Joined by a program out of: PartRite, LWholeW, HistArg.
-/
import Derived.Test.YtecpjeililiafaaDoorMgBJ
import Derived.Test.YtecpjeililiafaaDoorMgBB
import Derived.Test.YtecpjeililiafaaDoorMgBI
import Derived.Test.YtecpjeililiafaaDoorMgAA
import Derived.Test.YtecpjeililiafaaDoorRows
import Derived.Carry
import Derived.Deep.Slices
import Derived.OpenShut
import Derived.ProofKit

/-
  Plain: a right order of a thing's part is a right order of what the thing was asked in the whole, with other numbers.
-/
namespace Go.Proofs.YtecpjeililiafaaDoor
open Go.RowKit
set_option maxRecDepth 20000

/-- The numbers of thing q's calls. -/
def idxQ (cs : List Cl) (q : Int) : List Nat := (List.range cs.length).filter fun i => (cs.getD i default).thing == q
theorem range_getD (cs : List Cl) : (List.range cs.length).map (fun i => cs.getD i default) = cs := by
  refine List.ext_getElem (by simp) fun i h1 h2 => ?_
  rw [List.getElem_map, List.getElem_range, List.getD_eq_getElem?_getD, List.getElem?_eq_getElem h2]
  rfl
theorem prt_idx (r : Int → Int) (q : Int) (cs : List Cl) : prt r q cs = (idxQ cs q).map fun i => retC r (cs.getD i default) := by
  unfold prt idxQ
  have h : cs.filter (fun c => c.thing == q) = ((List.range cs.length).map (fun i => cs.getD i default)).filter (fun c => c.thing == q) := by rw [range_getD]
  rw [h, List.filter_map, List.map_map]
  rfl
theorem idxQ_mem {cs : List Cl} {q : Int} {i : Nat} : i ∈ idxQ cs q ↔ i < cs.length ∧ (cs.getD i default).thing = q := by
  unfold idxQ
  rw [List.mem_filter, List.mem_range, beq_iff_eq]
theorem idxQ_nodup (cs : List Cl) (q : Int) : (idxQ cs q).Nodup := List.nodup_range.sublist List.filter_sublist
/-- The number in the whole. -/
def upI (cs : List Cl) (q : Int) (k : Nat) : Nat := (idxQ cs q).getD k 0
def upS (cs : List Cl) (q : Int) (x : Int × Int) : Int × Int := ((upI cs q x.1.toNat : Nat), x.2)
section
variable {ts : List Int} {cs : List Cl} {q : Int} {r : Int → Int}
theorem prt_len : (prt r q cs).length = (idxQ cs q).length := by rw [prt_idx, List.length_map]
theorem upI_mem {k : Nat} (hk : k < (prt r q cs).length) : upI cs q k ∈ idxQ cs q := by
  rw [prt_len] at hk
  unfold upI
  rw [List.getD_eq_getElem?_getD, List.getElem?_eq_getElem hk]
  exact List.getElem_mem _
theorem upI_at {k : Nat} (hk : k < (prt r q cs).length) : (prt r q cs).getD k default = retC r (cs.getD (upI cs q k) default) := by
  have hk2 := hk
  rw [prt_len] at hk2
  unfold upI
  rw [List.getD_eq_getElem?_getD, prt_idx, List.getElem?_map, List.getElem?_eq_getElem hk2, List.getD_eq_getElem?_getD (l := idxQ cs q), List.getElem?_eq_getElem hk2]
  rfl
theorem upI_inj {k m : Nat} (hk : k < (prt r q cs).length) (hm : m < (prt r q cs).length) (h : upI cs q k = upI cs q m) : k = m := by
  rw [prt_len] at hk hm
  unfold upI at h
  rw [List.getD_eq_getElem?_getD, List.getD_eq_getElem?_getD, List.getElem?_eq_getElem hk, List.getElem?_eq_getElem hm] at h
  exact (List.getElem_inj (idxQ_nodup cs q)).1 h
theorem upI_onto (r : Int → Int) {i : Nat} (hi : i < cs.length) (hq : (cs.getD i default).thing = q) : ∃ k, k < (prt r q cs).length ∧ upI cs q k = i := by
  obtain ⟨k, hk, e⟩ := List.getElem_of_mem (idxQ_mem.2 ⟨hi, hq⟩)
  refine ⟨k, by rw [prt_len]; exact hk, ?_⟩
  unfold upI
  rw [List.getD_eq_getElem?_getD, List.getElem?_eq_getElem hk]
  exact e
theorem upS_atC (x : Int × Int) : atC cs (upS cs q x) = cs.getD (upI cs q x.1.toNat) default := by unfold atC upS; rw [Int.toNat_natCast]
theorem part_ahead (hup : ∀ y z, y ≤ z → r y ≤ r z) (hr : ∀ z, 0 ≤ r z) (ht : ∀ c ∈ cs, c.thing = q → c.til ≠ -1 → r (c.til + 1) = r c.til + 1) {k m : Nat} (hk : k < (prt r q cs).length) (hm : m < (prt r q cs).length) :
    aheadB (prt r q cs) k m = aheadB cs (upI cs q k) (upI cs q m) := by
  unfold aheadB
  rw [upI_at hk, upI_at hm, Bool.eq_iff_iff, decide_eq_true_iff, decide_eq_true_iff]
  obtain ⟨h1, h2⟩ := idxQ_mem.1 (upI_mem hk)
  have hmem : cs.getD (upI cs q k) default ∈ cs := by rw [List.getD_eq_getElem?_getD, List.getElem?_eq_getElem h1]; exact List.getElem_mem _
  have htil := ht _ hmem h2
  rw [show (retC r (cs.getD (upI cs q k) default)).til ≠ -1 ↔ (cs.getD (upI cs q k) default).til ≠ -1 from not_congr (retC_til hr _)]
  generalize cs.getD (upI cs q k) default = c at *
  generalize cs.getD (upI cs q m) default = d at *
  constructor
  · rintro ⟨h3, h4⟩
    refine ⟨h3, Classical.byContradiction fun h5 => ?_⟩
    unfold retC at h4
    simp only at h4
    rw [if_neg h3] at h4
    have := hup d.frm c.til (by omega)
    omega
  · rintro ⟨h3, h4⟩
    refine ⟨h3, ?_⟩
    unfold retC
    simp only
    rw [if_neg h3]
    have := hup (c.til + 1) d.frm (by omega)
    have := htil h3
    omega
/-- Right in the part just if right in the whole. -/
theorem rite_part_iff (hup : ∀ y z, y ≤ z → r y ≤ r z) (hr : ∀ z, 0 ≤ r z) (ht : ∀ c ∈ cs, c.thing = q → c.til ≠ -1 → r (c.til + 1) = r c.til + 1) (hth : ∀ c ∈ cs, 0 ≤ c.thing ∧ c.thing < ts.length) {t : Nat} (hq : q = (t : Int)) (htt : t < ts.length)
    {ws : List (Int × Int)} (hrng : ∀ x ∈ ws, 0 ≤ x.1 ∧ x.1 < (prt r q cs).length) : Rite ts (prt r q cs) ws ↔ RiteT ts cs t (ws.map (upS cs q)) := by
  have hfst : (ws.map (upS cs q)).map (·.1) = (ws.map (·.1)).map fun z => ((upI cs q z.toNat : Nat) : Int) := by rw [List.map_map, List.map_map]; rfl
  have hat : ∀ x ∈ ws, atC (prt r q cs) x = retC r (atC cs (upS cs q x)) := fun x hx => by
    have := hrng x hx
    rw [upS_atC]
    exact upI_at (by omega)
  have hin : ∀ k, k < (prt r q cs).length → ((k : Int) ∈ ws.map (·.1) ↔ ((upI cs q k : Nat) : Int) ∈ (ws.map (upS cs q)).map (·.1)) := fun k hk => by
    rw [hfst]
    constructor
    · intro h
      exact List.mem_map.2 ⟨_, h, by rw [Int.toNat_natCast]⟩
    · intro h
      obtain ⟨z, hz, e⟩ := List.mem_map.1 h
      obtain ⟨x, hx, rfl⟩ := List.mem_map.1 hz
      have := hrng x hx
      have := upI_inj (cs := cs) (r := r) (k := x.1.toNat) (m := k) (by omega) hk (by omega)
      rw [← this, Int.toNat_of_nonneg (by omega)]
      exact hz
  have hown : ownD (prt r q cs) t ws = (ws.map (upS cs q)).map (ddC cs) := by
    unfold ownD
    rw [List.filter_eq_self.2 (fun x hx => by
      have h1 := hrng x hx
      obtain ⟨_, h2⟩ := idxQ_mem.1 (upI_mem (cs := cs) (q := q) (r := r) (k := x.1.toNat) (by omega))
      rw [beq_iff_eq, hat x hx, upS_atC]
      show (cs.getD (upI cs q x.1.toNat) default).thing.toNat = t
      rw [h2, hq, Int.toNat_natCast]), List.map_map]
    refine List.map_congr_left fun x hx => ?_
    show ddC (prt r q cs) x = ddC cs (upS cs q x)
    unfold ddC
    rw [hat x hx]
    rfl
  have honce : (ws.map (·.1)).Nodup ↔ ((ws.map (upS cs q)).map (·.1)).Nodup := by
    rw [hfst]
    unfold List.Nodup
    rw [List.pairwise_map (f := fun z : Int => ((upI cs q z.toNat : Nat) : Int))]
    constructor
    · intro h
      refine h.imp_of_mem fun {a b} ha hb hab e => hab ?_
      obtain ⟨x, hx, rfl⟩ := List.mem_map.1 ha
      obtain ⟨y, hy, rfl⟩ := List.mem_map.1 hb
      have h1 := hrng x hx
      have h2 := hrng y hy
      have e2 : upI cs q x.1.toNat = upI cs q y.1.toNat := by exact Int.ofNat.inj e
      have := upI_inj (cs := cs) (r := r) (k := x.1.toNat) (m := y.1.toNat) (by omega) (by omega) e2
      omega
    · intro h
      exact h.imp fun {a b} hab e => hab (by rw [e])
  constructor
  · intro h
    refine ⟨fun y hy => ?_, fun y hy => ?_, honce.1 h.once, fun y hy hy2 => ?_, fun i hi hit hti => ?_, fun i j hi hj hit ha a y b hs hy => ?_, ?_⟩
    · obtain ⟨x, hx, rfl⟩ := List.mem_map.1 hy
      have h1 := hrng x hx
      obtain ⟨h2, _⟩ := idxQ_mem.1 (upI_mem (cs := cs) (q := q) (r := r) (k := x.1.toNat) (by omega))
      unfold upS
      exact ⟨by simp only; omega, by simp only; omega⟩
    · obtain ⟨x, hx, rfl⟩ := List.mem_map.1 hy
      have h1 := hrng x hx
      obtain ⟨_, h2⟩ := idxQ_mem.1 (upI_mem (cs := cs) (q := q) (r := r) (k := x.1.toNat) (by omega))
      rw [upS_atC, h2, hq, Int.toNat_natCast]
    · obtain ⟨x, hx, rfl⟩ := List.mem_map.1 hy
      have := h.res x hx (by rw [hat x hx]; exact fun h5 => hy2 ((retC_til hr _).1 h5))
      rw [hat x hx] at this
      exact this
    · have hm : cs.getD i default ∈ cs := by rw [List.getD_eq_getElem?_getD, List.getElem?_eq_getElem hi]; exact List.getElem_mem _
      have := hth _ hm
      obtain ⟨k, hk, rfl⟩ := upI_onto (cs := cs) (q := q) r hi (by omega)
      exact (hin k hk).1 (h.all k hk (by rw [upI_at hk]; exact fun h5 => hti ((retC_til hr _).1 h5)))
    · have hm : cs.getD i default ∈ cs := by rw [List.getD_eq_getElem?_getD, List.getElem?_eq_getElem hi]; exact List.getElem_mem _
      have := hth _ hm
      obtain ⟨k, hk, rfl⟩ := upI_onto (cs := cs) (q := q) r hi (by omega)
      obtain ⟨A, B, rfl, rfl, e3⟩ := List.map_eq_append_iff.1 hs
      obtain ⟨x, B', rfl, rfl, rfl⟩ := List.map_eq_cons_iff.1 e3
      have hx := hrng x (by simp)
      have ej : upI cs q x.1.toNat = j := by unfold upS at hy; simp only at hy; omega
      subst ej
      rw [← part_ahead hup hr ht hk (by omega)] at ha
      obtain ⟨z, hz, ez⟩ := List.mem_map.1 (h.ord k x.1.toNat hk (by omega) ha A x B' rfl (by omega))
      refine List.mem_map.2 ⟨upS cs q z, List.mem_map.2 ⟨z, hz, rfl⟩, ?_⟩
      unfold upS
      rw [ez, Int.toNat_natCast]
    · rw [← hown]
      exact h.goes t htt
  · intro h
    refine ⟨hrng, honce.2 h.once, fun x hx hx2 => ?_, fun k hk hti => ?_, fun k m hk hm ha a y b hs hy => ?_, fun t2 ht2 => ?_⟩
    · rw [hat x hx] at hx2 ⊢
      exact h.res _ (List.mem_map.2 ⟨x, hx, rfl⟩) (fun h5 => hx2 ((retC_til hr _).2 h5))
    · obtain ⟨h1, h2⟩ := idxQ_mem.1 (upI_mem hk)
      refine (hin k hk).2 (h.all _ h1 (by rw [h2, hq, Int.toNat_natCast]) ?_)
      rw [upI_at hk] at hti
      exact fun h5 => hti ((retC_til hr _).2 h5)
    · subst hs
      obtain ⟨h1, h2⟩ := idxQ_mem.1 (upI_mem hk)
      obtain ⟨h3, _⟩ := idxQ_mem.1 (upI_mem hm)
      rw [part_ahead hup hr ht hk hm] at ha
      have h5 := h.ord _ _ h1 h3 (by rw [h2, hq, Int.toNat_natCast]) ha (a.map (upS cs q)) (upS cs q y) (b.map (upS cs q)) (by rw [List.map_append, List.map_cons]) (by unfold upS; rw [hy, Int.toNat_natCast])
      obtain ⟨z, hz, ez⟩ := List.mem_map.1 h5
      obtain ⟨x, hx, rfl⟩ := List.mem_map.1 hz
      have hxr := hrng x (List.mem_append.2 (.inl hx))
      have e : upI cs q x.1.toNat = upI cs q k := by unfold upS at ez; simp only at ez; omega
      have := upI_inj (cs := cs) (r := r) (by omega) hk e
      exact List.mem_map.2 ⟨x, hx, by omega⟩
    · by_cases e : t2 = t
      · subst e
        rw [hown]
        exact h.goes
      · have : ownD (prt r q cs) t2 ws = [] := by
          unfold ownD
          rw [List.filter_eq_nil_iff.2 (fun x hx => by
            have h1 := hrng x hx
            obtain ⟨_, h2⟩ := idxQ_mem.1 (upI_mem (cs := cs) (q := q) (r := r) (k := x.1.toNat) (by omega))
            rw [beq_iff_eq, hat x hx, upS_atC]
            show ¬ (cs.getD (upI cs q x.1.toNat) default).thing.toNat = t2
            rw [h2, hq, Int.toNat_natCast]
            exact fun h => e h.symm)]
          rfl
        rw [this]
        rfl
/-- Each order of the thing's calls is one of the part, with other numbers. -/
theorem upS_onto (r : Int → Int) (hth : ∀ c ∈ cs, 0 ≤ c.thing) {t : Nat} (hq : q = (t : Int)) : ∀ {w : List (Int × Int)}, (∀ x ∈ w, 0 ≤ x.1 ∧ x.1 < cs.length) → (∀ x ∈ w, (atC cs x).thing.toNat = t) → ∃ ws : List (Int × Int), (∀ x ∈ ws, 0 ≤ x.1 ∧ x.1 < (prt r q cs).length) ∧ ws.map (upS cs q) = w
  | [], _, _ => ⟨[], (fun x h => by cases h), rfl⟩
  | x :: w, h1, h2 => by
    obtain ⟨ws, e1, e2⟩ := upS_onto r hth hq (w := w) (fun y hy => h1 y (List.mem_cons_of_mem _ hy)) (fun y hy => h2 y (List.mem_cons_of_mem _ hy))
    have hx := h1 x (List.mem_cons_self ..)
    have ho := h2 x (List.mem_cons_self ..)
    have hm : atC cs x ∈ cs := by unfold atC; rw [List.getD_eq_getElem?_getD, List.getElem?_eq_getElem (by omega : x.1.toNat < cs.length)]; exact List.getElem_mem _
    have := hth _ hm
    obtain ⟨k, hk, ek⟩ := upI_onto (cs := cs) (q := q) r (i := x.1.toNat) (by omega) (by unfold atC at ho this; omega)
    refine ⟨((k : Int), x.2) :: ws, fun y hy => ?_, ?_⟩
    · rcases List.mem_cons.1 hy with rfl | hy
      · exact ⟨by simp only; omega, by simp only; omega⟩
      · exact e1 y hy
    · rw [List.map_cons, e2]
      congr 1
      unfold upS
      simp only [Int.toNat_natCast]
      rw [ek]
      exact Prod.ext (by simp only; omega) rfl
end
/-- HERLIHY, WING: a history has a right order just if the part of each thing has one. -/
theorem local_parts {ts : List Int} {l : List Ev} (h : (callsOf ts l).2.2 = 0) :
    (∃ ws, Rite ts (callsOf ts l).1 ws) ↔ ∀ t : Nat, t < ts.length → ∃ ws, Rite ts (callsOf ts (partL l t)).1 ws := by
  have hth : ∀ c ∈ (callsOf ts l).1, 0 ≤ c.thing ∧ c.thing < ts.length := fun c hc => (calls_callOk h c hc).thing
  have hor := (calls_orderly h).1
  rw [local_iff hth hor.ends (fun c hc => (hor.tidy c hc).2.2.1)]
  have key : ∀ t : Nat, t < ts.length → ((∃ w, RiteT ts (callsOf ts l).1 t w) ↔ ∃ ws, Rite ts (callsOf ts (partL l t)).1 ws) := fun t ht => by
    obtain ⟨e1, e2⟩ := calls_part h (t : Int)
    rw [e1]
    constructor
    · rintro ⟨w, hw⟩
      obtain ⟨ws, h1, rfl⟩ := upS_onto (rankE l t) (fun c hc => (hth c hc).1) rfl hw.rng hw.own
      exact ⟨ws, (rite_part_iff (fun y z => rankE_up l t) (rankE_ge l t) e2 hth rfl ht h1).2 hw⟩
    · rintro ⟨ws, hw⟩
      exact ⟨_, (rite_part_iff (fun y z => rankE_up l t) (rankE_ge l t) e2 hth rfl ht hw.rng).1 hw⟩
  exact ⟨fun k t ht => (key t ht).1 (k t ht), fun k t ht => (key t ht).2 (k t ht)⟩
end Go.Proofs.YtecpjeililiafaaDoor

/-
  The walk of the law LocalWhole.
-/
namespace Go.Proofs.YtecpjeililiafaaDoor
open Go.RowKit
set_option maxRecDepth 20000

/-- A history has a right order just if each part has one. -/
theorem whole_iff {ts : List Int} {l : List Ev} (hE : openE ts l = 0) (hX : searchE (callsOf ts l) = 0) : foundB ts (callsOf ts l) = !decide (false ∈ (List.range ts.length).map (pB ts l)) := by
  have h0 := (openE_zero hE).1
  have key : foundB ts (callsOf ts l) = true ↔ ∀ t, t < ts.length → pB ts l t = true := by
    rw [foundB_iff]
    constructor
    · rintro ⟨_, h⟩ t ht
      exact foundB_iff.2 ⟨openE_part hE _, (local_parts h0).1 h t ht⟩
    · intro h
      exact ⟨hX, (local_parts h0).2 fun t ht => (foundB_iff.1 (h t ht)).2⟩
  cases hf : foundB ts (callsOf ts l)
  · have : false ∈ (List.range ts.length).map (pB ts l) := by
      apply Classical.byContradiction
      intro hn
      have h1 := key.2 fun t ht => by
        cases hp : pB ts l t
        · exact absurd (List.mem_map.2 ⟨t, List.mem_range.2 ht, hp⟩) hn
        · rfl
      rw [hf] at h1
      cases h1
    rw [decide_eq_true this]
    rfl
  · have : ¬ false ∈ (List.range ts.length).map (pB ts l) := fun hm => by
      obtain ⟨t, ht, hp⟩ := List.mem_map.1 hm
      rw [key.1 hf t (List.mem_range.1 ht)] at hp
      cases hp
    rw [decide_eq_false this]
    rfl
set_option maxHeartbeats 4000000 in
theorem lwhole_any {tv lv : Value} {ts : List Int} {l : List Ev} {w : World} (ht : NRd w w.heap.size tv ts) (hl : ERd w w.heap.size lv l) (hp : Pow10 w.heap.size w) :
    Calls Tryd.prog 13 #[tv, lv] w fun e w' => e = .returned (.bool true) ∧ Below w.heap.size w w' := by
  obtain ⟨At, capt, rfl, -, -⟩ := ht.is
  obtain ⟨Al, capl, rfl, hl1, hl2⟩ := hl.is
  unfold maxLen at hl2
  have HT := Lib.hid (And.intro ht (And.intro hl hp))
  have HF := Lib.hid (lparts_any ht hl hp)
  obtain ⟨tl, htl⟩ : ∃ tl, tl = ts.length := ⟨_, rfl⟩
  obtain ⟨L, hL⟩ : ∃ L, L = l.length := ⟨_, rfl⟩
  rw [← htl, ← hL] at HF HT
  rw [← htl, ← hL]
  have HLL := Lib.hid htl
  clear ht hl hp htl hL hl1 hl2
  have hw := @whole_iff ts l
  have hz := @openE_zero ts l
  obtain ⟨E, hEE⟩ : ∃ E, E = openE ts l := ⟨_, rfl⟩
  rw [← hEE] at HF hw hz
  have HEE := Lib.hid hEE
  rw [← HLL.out] at hw
  have HWZ := Lib.hid (And.intro hw hz)
  clear hEE hw hz
  go_enter Tryd.func13, Tryd.ntmps13
  go_wp2_with fail
  refine HF.out.mono ?_
  rintro e w1 ⟨hb, ⟨hE, rfl⟩ | ⟨hE, g, rfl, htab⟩⟩
  · have H1 := Lib.hid hb
    have HS1 := Lib.hid (find_say ((HT.out.1.below H1.out).mono H1.out.size) ((HT.out.2.1.below H1.out).mono H1.out.size) ((HT.out.2.2.on H1.out).mono H1.out.size))
    have HE := Lib.hid hE
    have hez : (E == 0) = false := by rw [beq_eq_false_iff_ne]; exact hE
    clear hb hE HF HWZ
    go_wp2_with fail
    refine HS1.out.mono ?_
    rintro e w2 ⟨hb, v, rfl, -⟩
    have H2 := Lib.hid (H1.out.trans (hb.mono H1.out.size))
    clear hb HS1
    generalize searchE (callsOf ts l) = X
    generalize foundB ts (callsOf ts l) = fb
    have HS := Lib.hid (llives_any w2 ((HT.out.2.2.on H2.out).mono H2.out.size))
    go_wp2_with fail
    refine HS.out.mono ?_
    rintro e w3 ⟨rfl, hb⟩
    have H3 := Lib.hid (H2.out.trans (hb.mono H2.out.size))
    clear hb HS
    have HOK := Lib.hid (ok_not (IRd.fresh w3 25 [E, X] 2 rfl #[.int .i64 E, .int .i64 X] rfl) (x := E) (by simp) HE.out (by simp))
    go_wp2_with fail
    refine HOK.out.mono ?_
    rintro e w4 ⟨rfl, rfl⟩
    have H4 := Lib.hid (H3.out.alloc H3.out.size (.cells #[.int .i64 E, .int .i64 X] 25))
    clear HOK
    have HS := Lib.hid (llives_any (w3.alloc (.cells #[.int .i64 E, .int .i64 X] 25)) ((HT.out.2.2.on H4.out).mono H4.out.size))
    go_wp2_with fail
    refine HS.out.mono ?_
    rintro e w5 ⟨rfl, hb⟩
    have H5 := Lib.hid (H4.out.trans (hb.mono H4.out.size))
    clear hb HS
    go_wp2_with fail
    go_ret
    exact ⟨rfl, H5.out⟩
  · have hE' := hE
    subst hE'
    have h0 := HWZ.out.2 rfl
    have htl4 : 1 ≤ tl ∧ tl ≤ 4 := by
      have h1 := (calls_zero h0.1).1
      unfold typesB at h1
      rw [Bool.and_eq_true, decide_eq_true_iff] at h1
      rw [HLL.out]
      exact h1.1
    have hbl := htab.rd (by omega)
    have HBL := Lib.hid hbl
    have H1 := Lib.hid hb
    have HS1 := Lib.hid (find_say ((HT.out.1.below H1.out).mono H1.out.size) ((HT.out.2.1.below H1.out).mono H1.out.size) ((HT.out.2.2.on H1.out).mono H1.out.size))
    have HW := Lib.hid (HWZ.out.1 rfl)
    have i1 : (0 : Int) < (tl : Int) := by omega
    clear hb hE HF HWZ h0 htab hbl htl4
    go_wp2_with fail
    refine HS1.out.mono ?_
    rintro e w2 ⟨hb, v, rfl, -⟩
    have H2 := Lib.hid (H1.out.trans (hb.mono H1.out.size))
    have HBL2 := Lib.hid ((HBL.out.below hb).mono hb.size)
    clear hb HS1 HBL
    generalize searchE (callsOf ts l) = X at HW ⊢
    generalize foundB ts (callsOf ts l) = fb at HW ⊢
    by_cases hX : X = 0
    · have hfb := HW.out hX
      subst hX
      generalize (List.range tl).map (pB ts l) = bs at HBL2 hfb
      have HFB := Lib.hid hfb
      clear hfb HW
      have HS := Lib.hid (llives_any w2 ((HT.out.2.2.on H2.out).mono H2.out.size))
      go_wp2_with fail
      refine HS.out.mono ?_
      rintro e w3 ⟨rfl, hb⟩
      have H3 := Lib.hid (H2.out.trans (hb.mono H2.out.size))
      have HBL3 := Lib.hid ((HBL2.out.below hb).mono hb.size)
      clear hb HS HBL2
      have HOK := Lib.hid (ok_zero (IRd.fresh w3 25 [0, 0] 2 rfl #[.int .i64 0, .int .i64 0] rfl) (by decide) (by decide))
      go_wp2_with fail
      refine HOK.out.mono ?_
      rintro e w4 ⟨rfl, rfl⟩
      have hal : Below w3.heap.size w3 (w3.alloc (.cells #[.int .i64 0, .int .i64 0] 25)) := (Below.refl _ _).alloc (Nat.le_refl _) _
      have H4 := Lib.hid (H3.out.trans (hal.mono H3.out.size))
      have HCB := Lib.hid (containsBl_any (HBL3.out.below hal) false)
      clear HOK hal
      go_wp2_with fail
      refine HCB.out.mono ?_
      rintro e w5 ⟨rfl, hb5⟩
      have H5 := Lib.hid (H4.out.trans (hb5.mono H4.out.size))
      have hfb := HFB.out
      clear hb5 HCB HFB
      generalize decide (false ∈ bs) = d at hfb ⊢
      subst hfb
      cases d
      · go_wp2_with fail
        go_ret
        exact ⟨rfl, H5.out⟩
      · go_wp2_with fail
        go_ret
        exact ⟨rfl, H5.out⟩
    · have HX := Lib.hid hX
      clear hX HW HBL2
      have HS := Lib.hid (llives_any w2 ((HT.out.2.2.on H2.out).mono H2.out.size))
      go_wp2_with fail
      refine HS.out.mono ?_
      rintro e w3 ⟨rfl, hb⟩
      have H3 := Lib.hid (H2.out.trans (hb.mono H2.out.size))
      clear hb HS
      have HOK := Lib.hid (ok_not (IRd.fresh w3 25 [0, X] 2 rfl #[.int .i64 0, .int .i64 X] rfl) (x := X) (by simp) HX.out (by simp))
      go_wp2_with fail
      refine HOK.out.mono ?_
      rintro e w4 ⟨rfl, rfl⟩
      have H4 := Lib.hid (H3.out.alloc H3.out.size (.cells #[.int .i64 0, .int .i64 X] 25))
      clear HOK
      have HS := Lib.hid (llives_any (w3.alloc (.cells #[.int .i64 0, .int .i64 X] 25)) ((HT.out.2.2.on H4.out).mono H4.out.size))
      go_wp2_with fail
      refine HS.out.mono ?_
      rintro e w5 ⟨rfl, hb⟩
      have H5 := Lib.hid (H4.out.trans (hb.mono H4.out.size))
      clear hb HS
      go_wp2_with fail
      go_ret
      exact ⟨ret_bool (decide_eq_true (show 0 < tl by omega)), H5.out⟩
end Go.Proofs.YtecpjeililiafaaDoor

/-
  Slices of numbers, of events, of calls as arguments of a law.
-/
namespace Go.Proofs.YtecpjeililiafaaDoor
open Go.RowKit Go.ChangeShapes Go.WideShapes Go.ChangeAt
set_option maxRecDepth 20000

theorem laidOutIt : laidOutB Tryd.prog = true := by kernel_rfl
theorem evShape : ∃ f0 f1 f2 f3, Tryd.prog.underlying 77 = some (.struct #[f0, f1, f2, f3]) ∧ (f0.type = 3 ∧ f0.offset = 0) ∧ (f1.type = 3 ∧ f1.offset = 1) ∧ (f2.type = 3 ∧ f2.offset = 2) ∧ (f3.type = 3 ∧ f3.offset = 3) :=
  ⟨_, _, _, _, Tryd.underlying77, ⟨rfl, rfl⟩, ⟨rfl, rfl⟩, ⟨rfl, rfl⟩, rfl, rfl⟩
theorem evSize : Tryd.prog.cellsOf 77 = 4 := by kernel_rfl
theorem clSize : Tryd.prog.cellsOf 57 = 7 := by kernel_rfl
theorem intSize : Tryd.prog.cellsOf 3 = 1 := by kernel_rfl

theorem cell_in {w : World} {p : Addr} {v : Value} (h : w.cell? p = some v) : p.block < w.heap.size := World.block_lt_of_cell? w p h
theorem plus_plain (g o j : Nat) : (⟨g, o, none⟩ : Addr).add j = ⟨g, o + j, none⟩ := WideShapes.add_plain g o j

section
variable {H : Type} {enc : TypeId × Value → H} {α : Type} {s : Nat} {f : α → List Value}
/-- A slice whose elements read each as one of α reads as a list of these. -/
theorem open_list {t e : TypeId} (ht : Tryd.prog.underlying t = some (.slice e)) (hs : Tryd.prog.cellsOf e = s) (hs0 : 0 < s) (hf : ∀ x, (f x).length = s) {w : World} {r : Reach} {b0 : Nat} {v : Value} {d : DataW H} {p : List MemPlace}
    (key : ∀ (fuel : Nat) (cs : List Value) (x : DataW H × List MemPlace), DataW.trod enc Tryd.prog w 0 (fun _ => true) true fuel e cs = some x → ∃ y : α, cs = f y)
    (hv : Value.okWide Tryd.prog w r b0 t v) (h : DataW.Trod enc Tryd.prog w 0 (fun _ => true) true t v d p) : ∃ l : List α, LRd s f w w.heap.size v l := by
  obtain ⟨A, len, cap, rfl⟩ := okWide_slice ht hv
  obtain ⟨fuel, hfu⟩ := h
  rcases Deep.open_slice ht hfu with ⟨hc, _⟩ | ⟨a, len', cap', m, n, D, Pl, hc, _, hl, hm, hmm, _, hi⟩
  · simp only [Value.cells, List.cons.injEq, Value.slice.injEq, and_true] at hc
    obtain ⟨rfl, rfl, rfl⟩ := hc
    exact ⟨[], LRd.nil _ _⟩
  · simp only [Value.cells, List.cons.injEq, Value.slice.injEq, and_true] at hc
    obtain ⟨rfl, rfl, rfl⟩ := hc
    rw [hs] at hi
    have hlm : len ≤ m := by rw [hmm]; split <;> omega
    have each : ∀ i, i < len → ∃ y : α, ∀ j u, (f y)[j]? = some u → w.cell? (a.add (i * s + j)) = some u := by
      intro i hil
      obtain ⟨cs, hcs, htr⟩ := hi i (by omega)
      obtain ⟨_, hlen, hcell⟩ := World.cells?_some hcs
      obtain ⟨y, rfl⟩ := key _ _ _ htr
      refine ⟨y, fun j u hu => ?_⟩
      have hj : j < s := by rw [← hf y]; exact (List.getElem?_eq_some_iff.1 hu).1
      have := hcell j hj
      rw [Deep.add_add] at this
      rw [this, hu]
    have pick : ∃ l : List α, l.length = len ∧ ∀ k x, l[k]? = some x → ∀ j u, (f x)[j]? = some u → w.cell? (a.add (k * s + j)) = some u := by
      have all : ∀ q, q ≤ len → ∃ l : List α, l.length = q ∧ ∀ k x, l[k]? = some x → ∀ j u, (f x)[j]? = some u → w.cell? (a.add (k * s + j)) = some u := by
        intro q
        induction q with
        | zero => intro _; exact ⟨[], rfl, fun k x h => by simp at h⟩
        | succ q ih =>
          intro hq
          obtain ⟨l, hl1, hl2⟩ := ih (by omega)
          obtain ⟨y, hy⟩ := each q (by omega)
          refine ⟨l ++ [y], by simp [hl1], fun k x hk => ?_⟩
          rw [List.getElem?_append] at hk
          split at hk
          · exact hl2 k x hk
          · have hkq : k = q := by
              have := (List.getElem?_eq_some_iff.1 hk).1
              simp at this
              omega
            subst hkq
            rw [hl1, Nat.sub_self] at hk
            injection hk with hk
            subst hk
            exact hy
      exact all len (Nat.le_refl _)
    obtain ⟨l, hl1, hl2⟩ := pick
    subst hl1
    refine ⟨l, some a, cap, rfl, hl, hm, fun h0 => ?_⟩
    obtain ⟨g, o, spot⟩ := a
    have h00 : ∃ u, (f l[0])[0]? = some u := ⟨_, List.getElem?_eq_getElem (by rw [hf]; exact hs0)⟩
    obtain ⟨u, hu⟩ := h00
    have h1 := hl2 0 l[0] (List.getElem?_eq_getElem h0) 0 u hu
    have hspot : spot = none := by simpa [Addr.add] using World.cell?_spot h1
    subst hspot
    have hg := cell_in h1
    rw [plus_plain] at hg
    refine ⟨g, o, rfl, hg, fun k x hk j u hu => ?_⟩
    have := hl2 k x hk j u hu
    rwa [plus_plain, ← Nat.add_assoc] at this

theorem open_nums {w : World} {r : Reach} {b0 : Nat} {v : Value} {d : DataW H} {p : List MemPlace} (hv : Value.okWide Tryd.prog w r b0 22 v) (h : DataW.Trod enc Tryd.prog w 0 (fun _ => true) true 22 v d p) : ∃ l, NRd w w.heap.size v l :=
  open_list Tryd.underlying22 intSize (by decide) (fun _ => rfl) (fun fuel cs x h => by
    obtain ⟨n, h1, _, _⟩ := DataW.trod_int Tryd.underlying3 h
    exact ⟨n, h1⟩) hv h

theorem open_evs {w : World} {r : Reach} {b0 : Nat} {v : Value} {d : DataW H} {p : List MemPlace} (hv : Value.okWide Tryd.prog w r b0 23 v) (h : DataW.Trod enc Tryd.prog w 0 (fun _ => true) true 23 v d p) : ∃ l, ERd w w.heap.size v l :=
  open_list Tryd.underlying23 evSize (by decide) (fun _ => rfl) (fun fuel cs x h => by
    obtain ⟨f0, f1, f2, f3, hs, ⟨t0, o0⟩, ⟨t1, o1⟩, ⟨t2, o2⟩, t3, o3⟩ := evShape
    obtain ⟨xs, n, _, _, hlen, hxl, hg⟩ := DataW.trod_struct hs h
    rw [evSize] at hlen
    have hxl' : xs.length = 4 := hxl
    have g0 := hg 0 f0 rfl
    have g1 := hg 1 f1 rfl
    have g2 := hg 2 f2 rfl
    have g3 := hg 3 f3 rfl
    rw [t0, o0, intSize, List.getElem?_eq_getElem (by omega)] at g0
    rw [t1, o1, intSize, List.getElem?_eq_getElem (by omega)] at g1
    rw [t2, o2, intSize, List.getElem?_eq_getElem (by omega)] at g2
    rw [t3, o3, intSize, List.getElem?_eq_getElem (by omega)] at g3
    obtain ⟨n0, e0, _, _⟩ := DataW.trod_int Tryd.underlying3 g0
    obtain ⟨n1, e1, _, _⟩ := DataW.trod_int Tryd.underlying3 g1
    obtain ⟨n2, e2, _, _⟩ := DataW.trod_int Tryd.underlying3 g2
    obtain ⟨n3, e3, _, _⟩ := DataW.trod_int Tryd.underlying3 g3
    match cs, hlen, e0, e1, e2, e3 with
    | [c0, c1, c2, c3], _, e0, e1, e2, e3 =>
      simp at e0 e1 e2 e3
      subst e0 e1 e2 e3
      exact ⟨⟨n0, n1, n2, n3⟩, rfl⟩) hv h
end
end Go.Proofs.YtecpjeililiafaaDoor
