/-
  Joined by a program out of: LLives, PartRite, LJoinedP.
-/
import Derived.Test.YtecpjeililiafaaDoorMgBH
import Derived.Test.YtecpjeililiafaaDoorMgBP
import Derived.Test.YtecpjeililiafaaDoorMgAW
import Derived.Test.YtecpjeililiafaaDoorMgBN
import Derived.Test.YtecpjeililiafaaDoorMgBB
import Derived.Test.YtecpjeililiafaaDoorMgBO

/-
  alibkeep.localLives answers true.
-/
namespace Go.Proofs.YtecpjeililiafaaDoor
open Go.RowKit Go.Maps
set_option maxRecDepth 20000

def ll4 : List Ev := [⟨0, 0, 1, 5⟩, ⟨0, 0, 0, 0⟩, ⟨1, 1, 4, 0⟩, ⟨1, 1, 0, 3⟩]
theorem ll_open : openE [1, 2] ll4 = 0 := by decide +kernel
theorem ll_open3 : openE [1, 2] (ll4.take 3) = 0 := by decide +kernel
theorem ll_parts : (List.range 2).map (pB [1, 2] ll4) = [true, false] := by decide +kernel
theorem ll_parts3 {k : Nat} (h : k < 2) : pB [1, 2] (ll4.take 3) k = true := by
  have h2 : k = 0 ∨ k = 1 := by omega
  rcases h2 with rfl | rfl
  · decide +kernel
  · decide +kernel
theorem ll_len0 : (ordL [1, 2] (ll4.take 3) 0).length = 1 := by decide +kernel
theorem ll_len1 : (ordL [1, 2] (ll4.take 3) 1).length = 0 := by decide +kernel
theorem twoN (W : World) : NRd (W.alloc (.cells #[.int .i64 1, .int .i64 2] 3)) (W.alloc (.cells #[.int .i64 1, .int .i64 2] 3)).heap.size (.slice (some ⟨W.heap.size, 0, none⟩) 2 2) [1, 2] :=
  (LRd.of_lit (f := intCs) (s := 1) (w := W) (l := [1, 2]) (fun _ => rfl) 3 (cs := #[.int .i64 1, .int .i64 2]) rfl (n := 2) rfl (by unfold maxLen; omega)).mono (by simp)
theorem allocInts (W : World) : Below W.heap.size W (W.alloc (.cells #[.int .i64 1, .int .i64 2] 3)) := (Below.refl _ _).alloc (Nat.le_refl _) _
set_option maxHeartbeats 4000000 in
theorem llives_any (w : World) (hp : Pow10 w.heap.size w) : Calls Tryd.prog 54 #[] w fun e w' => e = .returned (.bool true) ∧ Below w.heap.size w w' := by
  have hb0 : Below w.heap.size w (w.alloc (.cells #[.int .i64 0, .int .i64 0, .int .i64 1, .int .i64 5, .int .i64 0, .int .i64 0, .int .i64 0, .int .i64 0, .int .i64 1, .int .i64 1, .int .i64 4, .int .i64 0, .int .i64 1, .int .i64 1, .int .i64 0, .int .i64 3] 77)) := (Below.refl _ _).alloc (Nat.le_refl _) _
  have he0 : ERd (w.alloc (.cells #[.int .i64 0, .int .i64 0, .int .i64 1, .int .i64 5, .int .i64 0, .int .i64 0, .int .i64 0, .int .i64 0, .int .i64 1, .int .i64 1, .int .i64 4, .int .i64 0, .int .i64 1, .int .i64 1, .int .i64 0, .int .i64 3] 77)) (w.alloc (.cells #[.int .i64 0, .int .i64 0, .int .i64 1, .int .i64 5, .int .i64 0, .int .i64 0, .int .i64 0, .int .i64 0, .int .i64 1, .int .i64 1, .int .i64 4, .int .i64 0, .int .i64 1, .int .i64 1, .int .i64 0, .int .i64 3] 77)).heap.size (.slice (some ⟨w.heap.size, 0, none⟩) 4 4) ll4 :=
    (LRd.of_lit (f := evCs) (s := 4) (w := w) (l := ll4) (fun _ => rfl) 77 rfl (n := 4) rfl (by unfold maxLen; omega)).mono (by simp)
  have HP := Lib.hid hp
  have H0 := Lib.hid (And.intro hb0 he0)
  obtain ⟨W0, hW0⟩ : ∃ W0, W0 = w.alloc (.cells #[.int .i64 0, .int .i64 0, .int .i64 1, .int .i64 5, .int .i64 0, .int .i64 0, .int .i64 0, .int .i64 0, .int .i64 1, .int .i64 1, .int .i64 4, .int .i64 0, .int .i64 1, .int .i64 1, .int .i64 0, .int .i64 3] 77) := ⟨_, rfl⟩
  rw [← hW0] at H0
  have h1 := H0.out.1.trans ((allocInts W0).mono H0.out.1.size)
  have h2 := (H0.out.2.below (allocInts W0)).mono (allocInts W0).size
  have htw : NRd (W0.alloc (.cells #[.int .i64 1, .int .i64 2] 3)) (W0.alloc (.cells #[.int .i64 1, .int .i64 2] 3)).heap.size (.slice (some ⟨w.heap.size + 1, 0, none⟩) 2 2) [1, 2] := by
    have := twoN W0
    rwa [show W0.heap.size = w.heap.size + 1 by rw [hW0, World.size_alloc]] at this
  have HPA := Lib.hid (lparts_any htw h2 ((HP.out.on h1).mono h1.size))
  have H1 := Lib.hid (And.intro h1 h2)
  rw [hW0] at HPA H1
  clear hp hb0 he0 h1 h2 hW0 H0 htw
  go_enter Tryd.func54, Tryd.ntmps54
  go_wp2_with fail
  refine HPA.out.mono ?_
  rintro e w2 ⟨hb2, ⟨h0, -⟩ | ⟨-, g, rfl, htab⟩⟩
  · exact absurd ll_open h0
  have hbl := htab.rd (by decide)
  rw [show ([1, 2] : List Int).length = 2 from rfl, ll_parts] at hbl
  have HBL := Lib.hid hbl
  have H2 := Lib.hid (And.intro (H1.out.1.trans (hb2.mono H1.out.1.size)) ((H1.out.2.below hb2).mono hb2.size))
  clear hb2 htab hbl HPA H1
  have h3 := H2.out.1.trans ((allocInts w2).mono H2.out.1.size)
  have h4 := (H2.out.2.below (allocInts w2)).mono (allocInts w2).size
  have hor : Calls Tryd.prog 29 #[.slice (some ⟨w2.heap.size, 0, none⟩) 2 2, .slice (some ⟨w.heap.size, 0, none⟩) 4 4] (w2.alloc (.cells #[.int .i64 1, .int .i64 2] 3)) (LOrdPost (w2.alloc (.cells #[.int .i64 1, .int .i64 2] 3)) [1, 2] ll4 2 (openE [1, 2] ll4)) := lorders_any (twoN w2) h4 ((HP.out.on h3).mono h3.size)
  have HO := Lib.hid hor
  have H3 := Lib.hid (And.intro h3 h4)
  have HBL3 := Lib.hid ((HBL.out.below (allocInts w2)).mono (allocInts w2).size)
  clear h3 h4 hor HBL
  simp only [List.length_cons, List.length_nil, Nat.zero_add, Nat.reduceAdd]
  go_wp2_with fail
  refine HO.out.mono ?_
  rintro e w3 ⟨hb3, ⟨h0, -⟩ | ⟨-, -, rfl⟩ | ⟨-, hall, -⟩⟩
  · exact absurd ll_open h0
  · have H4 := Lib.hid (And.intro (H3.out.1.trans (hb3.mono H3.out.1.size)) ((H3.out.2.below hb3).mono hb3.size))
    have HBL4 := Lib.hid ((HBL3.out.below hb3).mono hb3.size)
    clear hb3 HO H3 HBL3 H2
    have h5 := H4.out.1.trans ((allocInts w3).mono H4.out.1.size)
    have h6 : ERd (w3.alloc (.cells #[.int .i64 1, .int .i64 2] 3)) (w3.alloc (.cells #[.int .i64 1, .int .i64 2] 3)).heap.size (.slice (some ⟨w.heap.size, 0, none⟩) 3 4) (ll4.take 3) := LRd.take_ ((H4.out.2.below (allocInts w3)).mono (allocInts w3).size) (by decide)
    have hor : Calls Tryd.prog 29 #[.slice (some ⟨w3.heap.size, 0, none⟩) 2 2, .slice (some ⟨w.heap.size, 0, none⟩) 3 4] (w3.alloc (.cells #[.int .i64 1, .int .i64 2] 3)) (LOrdPost (w3.alloc (.cells #[.int .i64 1, .int .i64 2] 3)) [1, 2] (ll4.take 3) 2 (openE [1, 2] (ll4.take 3))) := lorders_any (twoN w3) h6 ((HP.out.on h5).mono h5.size)
    have HO := Lib.hid hor
    have H5 := Lib.hid h5
    have HBL5 := Lib.hid ((HBL4.out.below (allocInts w3)).mono (allocInts w3).size)
    clear h5 h6 hor HBL4 H4
    go_wp2_with fail
    refine HO.out.mono ?_
    rintro e w4 ⟨hb4, ⟨h0, -⟩ | ⟨-, ⟨t, ht, hf⟩, -⟩ | ⟨-, -, g4, F, rfl, hg4, hvt, hrows⟩⟩
    · exact absurd ll_open3 h0
    · rw [ll_parts3 ht] at hf; cases hf
    have H6 := Lib.hid (H5.out.trans (hb4.mono H5.out.size))
    have HBL6 := Lib.hid ((HBL5.out.below hb4).mono hb4.size)
    obtain ⟨A0, c0, e0, -, -⟩ := (hrows 0 (by omega)).rd.is
    obtain ⟨A1, c1, e1, -, -⟩ := (hrows 1 (by omega)).rd.is
    have d0 := hvt.cell (i := 0) (by omega)
    have d1 := hvt.cell (i := 1) (by omega)
    rw [e0, ll_len0] at d0
    rw [e1, ll_len1] at d1
    have hlt := Lies.lt hvt
    have HD := Lib.hid (And.intro d0 (And.intro d1 hlt))
    have HOK := Lib.hid (ok_zero (IRd.fresh w4 25 [0, 0] 2 rfl #[.int .i64 0, .int .i64 0] rfl) (by decide) (by decide))
    clear hb4 hvt hrows HO e0 e1 d0 d1 hlt HBL5
    go_wp2_with fail
    refine HOK.out.mono ?_
    rintro e w5 ⟨rfl, rfl⟩
    have hal : Below w4.heap.size w4 ((w4.alloc (.cells #[.int .i64 0, .int .i64 0] 25)).alloc (.cells #[.bool true, .bool false] 4)) := ((Below.refl _ _).alloc (Nat.le_refl _) _).alloc (by simp) _
    have hn : BlRd ((w4.alloc (.cells #[.int .i64 0, .int .i64 0] 25)).alloc (.cells #[.bool true, .bool false] 4)) ((w4.alloc (.cells #[.int .i64 0, .int .i64 0] 25)).heap.size + 1) (.slice (some ⟨(w4.alloc (.cells #[.int .i64 0, .int .i64 0] 25)).heap.size, 0, none⟩) 2 2) [true, false] :=
      LRd.of_lit (f := blCs) (s := 1) (w := w4.alloc (.cells #[.int .i64 0, .int .i64 0] 25)) (l := [true, false]) (fun _ => rfl) 4 rfl (n := 2) rfl (by unfold maxLen; omega)
    rw [World.size_alloc] at hn
    have HEQ := Lib.hid (eqBl_any (HBL6.out.below hal) hn)
    have H7 := Lib.hid (And.intro (H6.out.trans (hal.mono H6.out.size)) hal)
    clear hal hn HOK
    go_wp2_with fail
    refine HEQ.out.mono ?_
    rintro e w7 ⟨rfl, hb7⟩
    have H8 := Lib.hid (H7.out.1.trans (hb7.mono H7.out.1.size))
    have hs7 := H7.out.2.trans (hb7.mono H7.out.2.size)
    have d0 : w7.cell? ⟨g4, 0, none⟩ = some (.slice A0 1 c0) := (hs7.cell (p := ⟨g4, 0, none⟩) HD.out.2.2).trans HD.out.1
    have d1 : w7.cell? ⟨g4, 1, none⟩ = some (.slice A1 0 c1) := (hs7.cell (p := ⟨g4, 1, none⟩) HD.out.2.2).trans HD.out.2.1
    clear hb7 HEQ hs7
    go_wp2_with fail
    go_ret
    exact ⟨rfl, H8.out⟩
  · have h1 := ll_parts
    rw [show (List.range 2).map (pB [1, 2] ll4) = [pB [1, 2] ll4 0, pB [1, 2] ll4 1] from rfl, hall 1 (by omega)] at h1
    cases hx : pB [1, 2] ll4 0 <;> rw [hx] at h1 <;> cases h1
end Go.Proofs.YtecpjeililiafaaDoor

/-
  Plain: a right order of a thing's part is a right order of what the thing was asked in the whole, with other numbers.
-/
namespace Go.Proofs.YtecpjeililiafaaDoor
open Go.RowKit
set_option maxRecDepth 20000

/-- The numbers of thing q's calls. -/
def idxQ (cs : List Cl) (q : Int) : List Nat := (List.range cs.length).filter fun i => (cs.getD i default).thing == q
theorem range_getD (cs : List Cl) : (List.range cs.length).map (fun i => cs.getD i default) = cs := by
  refine List.ext_getElem (by simp) fun i h1 h2 => ?_
  rw [List.getElem_map, List.getElem_range, List.getD_eq_getElem?_getD, List.getElem?_eq_getElem h2]
  rfl
theorem prt_idx (r : Int → Int) (q : Int) (cs : List Cl) : prt r q cs = (idxQ cs q).map fun i => retC r (cs.getD i default) := by
  unfold prt idxQ
  have h : cs.filter (fun c => c.thing == q) = ((List.range cs.length).map (fun i => cs.getD i default)).filter (fun c => c.thing == q) := by rw [range_getD]
  rw [h, List.filter_map, List.map_map]
  rfl
theorem idxQ_mem {cs : List Cl} {q : Int} {i : Nat} : i ∈ idxQ cs q ↔ i < cs.length ∧ (cs.getD i default).thing = q := by
  unfold idxQ
  rw [List.mem_filter, List.mem_range, beq_iff_eq]
theorem idxQ_nodup (cs : List Cl) (q : Int) : (idxQ cs q).Nodup := List.nodup_range.sublist List.filter_sublist
/-- The number in the whole. -/
def upI (cs : List Cl) (q : Int) (k : Nat) : Nat := (idxQ cs q).getD k 0
def upS (cs : List Cl) (q : Int) (x : Int × Int) : Int × Int := ((upI cs q x.1.toNat : Nat), x.2)
section
variable {ts : List Int} {cs : List Cl} {q : Int} {r : Int → Int}
theorem prt_len : (prt r q cs).length = (idxQ cs q).length := by rw [prt_idx, List.length_map]
theorem upI_mem {k : Nat} (hk : k < (prt r q cs).length) : upI cs q k ∈ idxQ cs q := by
  rw [prt_len] at hk
  unfold upI
  rw [List.getD_eq_getElem?_getD, List.getElem?_eq_getElem hk]
  exact List.getElem_mem _
theorem upI_at {k : Nat} (hk : k < (prt r q cs).length) : (prt r q cs).getD k default = retC r (cs.getD (upI cs q k) default) := by
  have hk2 := hk
  rw [prt_len] at hk2
  unfold upI
  rw [List.getD_eq_getElem?_getD, prt_idx, List.getElem?_map, List.getElem?_eq_getElem hk2, List.getD_eq_getElem?_getD (l := idxQ cs q), List.getElem?_eq_getElem hk2]
  rfl
theorem upI_inj {k m : Nat} (hk : k < (prt r q cs).length) (hm : m < (prt r q cs).length) (h : upI cs q k = upI cs q m) : k = m := by
  rw [prt_len] at hk hm
  unfold upI at h
  rw [List.getD_eq_getElem?_getD, List.getD_eq_getElem?_getD, List.getElem?_eq_getElem hk, List.getElem?_eq_getElem hm] at h
  exact (List.getElem_inj (idxQ_nodup cs q)).1 h
theorem upI_onto (r : Int → Int) {i : Nat} (hi : i < cs.length) (hq : (cs.getD i default).thing = q) : ∃ k, k < (prt r q cs).length ∧ upI cs q k = i := by
  obtain ⟨k, hk, e⟩ := List.getElem_of_mem (idxQ_mem.2 ⟨hi, hq⟩)
  refine ⟨k, by rw [prt_len]; exact hk, ?_⟩
  unfold upI
  rw [List.getD_eq_getElem?_getD, List.getElem?_eq_getElem hk]
  exact e
theorem upS_atC (x : Int × Int) : atC cs (upS cs q x) = cs.getD (upI cs q x.1.toNat) default := by unfold atC upS; rw [Int.toNat_natCast]
theorem part_ahead (hup : ∀ y z, y ≤ z → r y ≤ r z) (hr : ∀ z, 0 ≤ r z) (ht : ∀ c ∈ cs, c.thing = q → c.til ≠ -1 → r (c.til + 1) = r c.til + 1) {k m : Nat} (hk : k < (prt r q cs).length) (hm : m < (prt r q cs).length) :
    aheadB (prt r q cs) k m = aheadB cs (upI cs q k) (upI cs q m) := by
  unfold aheadB
  rw [upI_at hk, upI_at hm, Bool.eq_iff_iff, decide_eq_true_iff, decide_eq_true_iff]
  obtain ⟨h1, h2⟩ := idxQ_mem.1 (upI_mem hk)
  have hmem : cs.getD (upI cs q k) default ∈ cs := by rw [List.getD_eq_getElem?_getD, List.getElem?_eq_getElem h1]; exact List.getElem_mem _
  have htil := ht _ hmem h2
  rw [show (retC r (cs.getD (upI cs q k) default)).til ≠ -1 ↔ (cs.getD (upI cs q k) default).til ≠ -1 from not_congr (retC_til hr _)]
  generalize cs.getD (upI cs q k) default = c at *
  generalize cs.getD (upI cs q m) default = d at *
  constructor
  · rintro ⟨h3, h4⟩
    refine ⟨h3, Classical.byContradiction fun h5 => ?_⟩
    unfold retC at h4
    simp only at h4
    rw [if_neg h3] at h4
    have := hup d.frm c.til (by omega)
    omega
  · rintro ⟨h3, h4⟩
    refine ⟨h3, ?_⟩
    unfold retC
    simp only
    rw [if_neg h3]
    have := hup (c.til + 1) d.frm (by omega)
    have := htil h3
    omega
/-- Right in the part just if right in the whole. -/
theorem rite_part_iff (hup : ∀ y z, y ≤ z → r y ≤ r z) (hr : ∀ z, 0 ≤ r z) (ht : ∀ c ∈ cs, c.thing = q → c.til ≠ -1 → r (c.til + 1) = r c.til + 1) (hth : ∀ c ∈ cs, 0 ≤ c.thing ∧ c.thing < ts.length) {t : Nat} (hq : q = (t : Int)) (htt : t < ts.length)
    {ws : List (Int × Int)} (hrng : ∀ x ∈ ws, 0 ≤ x.1 ∧ x.1 < (prt r q cs).length) : Rite ts (prt r q cs) ws ↔ RiteT ts cs t (ws.map (upS cs q)) := by
  have hfst : (ws.map (upS cs q)).map (·.1) = (ws.map (·.1)).map fun z => ((upI cs q z.toNat : Nat) : Int) := by rw [List.map_map, List.map_map]; rfl
  have hat : ∀ x ∈ ws, atC (prt r q cs) x = retC r (atC cs (upS cs q x)) := fun x hx => by
    have := hrng x hx
    rw [upS_atC]
    exact upI_at (by omega)
  have hin : ∀ k, k < (prt r q cs).length → ((k : Int) ∈ ws.map (·.1) ↔ ((upI cs q k : Nat) : Int) ∈ (ws.map (upS cs q)).map (·.1)) := fun k hk => by
    rw [hfst]
    constructor
    · intro h
      exact List.mem_map.2 ⟨_, h, by rw [Int.toNat_natCast]⟩
    · intro h
      obtain ⟨z, hz, e⟩ := List.mem_map.1 h
      obtain ⟨x, hx, rfl⟩ := List.mem_map.1 hz
      have := hrng x hx
      have := upI_inj (cs := cs) (r := r) (k := x.1.toNat) (m := k) (by omega) hk (by omega)
      rw [← this, Int.toNat_of_nonneg (by omega)]
      exact hz
  have hown : ownD (prt r q cs) t ws = (ws.map (upS cs q)).map (ddC cs) := by
    unfold ownD
    rw [List.filter_eq_self.2 (fun x hx => by
      have h1 := hrng x hx
      obtain ⟨_, h2⟩ := idxQ_mem.1 (upI_mem (cs := cs) (q := q) (r := r) (k := x.1.toNat) (by omega))
      rw [beq_iff_eq, hat x hx, upS_atC]
      show (cs.getD (upI cs q x.1.toNat) default).thing.toNat = t
      rw [h2, hq, Int.toNat_natCast]), List.map_map]
    refine List.map_congr_left fun x hx => ?_
    show ddC (prt r q cs) x = ddC cs (upS cs q x)
    unfold ddC
    rw [hat x hx]
    rfl
  have honce : (ws.map (·.1)).Nodup ↔ ((ws.map (upS cs q)).map (·.1)).Nodup := by
    rw [hfst]
    unfold List.Nodup
    rw [List.pairwise_map (f := fun z : Int => ((upI cs q z.toNat : Nat) : Int))]
    constructor
    · intro h
      refine h.imp_of_mem fun {a b} ha hb hab e => hab ?_
      obtain ⟨x, hx, rfl⟩ := List.mem_map.1 ha
      obtain ⟨y, hy, rfl⟩ := List.mem_map.1 hb
      have h1 := hrng x hx
      have h2 := hrng y hy
      have e2 : upI cs q x.1.toNat = upI cs q y.1.toNat := by exact Int.ofNat.inj e
      have := upI_inj (cs := cs) (r := r) (k := x.1.toNat) (m := y.1.toNat) (by omega) (by omega) e2
      omega
    · intro h
      exact h.imp fun {a b} hab e => hab (by rw [e])
  constructor
  · intro h
    refine ⟨fun y hy => ?_, fun y hy => ?_, honce.1 h.once, fun y hy hy2 => ?_, fun i hi hit hti => ?_, fun i j hi hj hit ha a y b hs hy => ?_, ?_⟩
    · obtain ⟨x, hx, rfl⟩ := List.mem_map.1 hy
      have h1 := hrng x hx
      obtain ⟨h2, _⟩ := idxQ_mem.1 (upI_mem (cs := cs) (q := q) (r := r) (k := x.1.toNat) (by omega))
      unfold upS
      exact ⟨by simp only; omega, by simp only; omega⟩
    · obtain ⟨x, hx, rfl⟩ := List.mem_map.1 hy
      have h1 := hrng x hx
      obtain ⟨_, h2⟩ := idxQ_mem.1 (upI_mem (cs := cs) (q := q) (r := r) (k := x.1.toNat) (by omega))
      rw [upS_atC, h2, hq, Int.toNat_natCast]
    · obtain ⟨x, hx, rfl⟩ := List.mem_map.1 hy
      have := h.res x hx (by rw [hat x hx]; exact fun h5 => hy2 ((retC_til hr _).1 h5))
      rw [hat x hx] at this
      exact this
    · have hm : cs.getD i default ∈ cs := by rw [List.getD_eq_getElem?_getD, List.getElem?_eq_getElem hi]; exact List.getElem_mem _
      have := hth _ hm
      obtain ⟨k, hk, rfl⟩ := upI_onto (cs := cs) (q := q) r hi (by omega)
      exact (hin k hk).1 (h.all k hk (by rw [upI_at hk]; exact fun h5 => hti ((retC_til hr _).1 h5)))
    · have hm : cs.getD i default ∈ cs := by rw [List.getD_eq_getElem?_getD, List.getElem?_eq_getElem hi]; exact List.getElem_mem _
      have := hth _ hm
      obtain ⟨k, hk, rfl⟩ := upI_onto (cs := cs) (q := q) r hi (by omega)
      obtain ⟨A, B, rfl, rfl, e3⟩ := List.map_eq_append_iff.1 hs
      obtain ⟨x, B', rfl, rfl, rfl⟩ := List.map_eq_cons_iff.1 e3
      have hx := hrng x (by simp)
      have ej : upI cs q x.1.toNat = j := by unfold upS at hy; simp only at hy; omega
      subst ej
      rw [← part_ahead hup hr ht hk (by omega)] at ha
      obtain ⟨z, hz, ez⟩ := List.mem_map.1 (h.ord k x.1.toNat hk (by omega) ha A x B' rfl (by omega))
      refine List.mem_map.2 ⟨upS cs q z, List.mem_map.2 ⟨z, hz, rfl⟩, ?_⟩
      unfold upS
      rw [ez, Int.toNat_natCast]
    · rw [← hown]
      exact h.goes t htt
  · intro h
    refine ⟨hrng, honce.2 h.once, fun x hx hx2 => ?_, fun k hk hti => ?_, fun k m hk hm ha a y b hs hy => ?_, fun t2 ht2 => ?_⟩
    · rw [hat x hx] at hx2 ⊢
      exact h.res _ (List.mem_map.2 ⟨x, hx, rfl⟩) (fun h5 => hx2 ((retC_til hr _).2 h5))
    · obtain ⟨h1, h2⟩ := idxQ_mem.1 (upI_mem hk)
      refine (hin k hk).2 (h.all _ h1 (by rw [h2, hq, Int.toNat_natCast]) ?_)
      rw [upI_at hk] at hti
      exact fun h5 => hti ((retC_til hr _).2 h5)
    · subst hs
      obtain ⟨h1, h2⟩ := idxQ_mem.1 (upI_mem hk)
      obtain ⟨h3, _⟩ := idxQ_mem.1 (upI_mem hm)
      rw [part_ahead hup hr ht hk hm] at ha
      have h5 := h.ord _ _ h1 h3 (by rw [h2, hq, Int.toNat_natCast]) ha (a.map (upS cs q)) (upS cs q y) (b.map (upS cs q)) (by rw [List.map_append, List.map_cons]) (by unfold upS; rw [hy, Int.toNat_natCast])
      obtain ⟨z, hz, ez⟩ := List.mem_map.1 h5
      obtain ⟨x, hx, rfl⟩ := List.mem_map.1 hz
      have hxr := hrng x (List.mem_append.2 (.inl hx))
      have e : upI cs q x.1.toNat = upI cs q k := by unfold upS at ez; simp only at ez; omega
      have := upI_inj (cs := cs) (r := r) (by omega) hk e
      exact List.mem_map.2 ⟨x, hx, by omega⟩
    · by_cases e : t2 = t
      · subst e
        rw [hown]
        exact h.goes
      · have : ownD (prt r q cs) t2 ws = [] := by
          unfold ownD
          rw [List.filter_eq_nil_iff.2 (fun x hx => by
            have h1 := hrng x hx
            obtain ⟨_, h2⟩ := idxQ_mem.1 (upI_mem (cs := cs) (q := q) (r := r) (k := x.1.toNat) (by omega))
            rw [beq_iff_eq, hat x hx, upS_atC]
            show ¬ (cs.getD (upI cs q x.1.toNat) default).thing.toNat = t2
            rw [h2, hq, Int.toNat_natCast]
            exact fun h => e h.symm)]
          rfl
        rw [this]
        rfl
/-- Each order of the thing's calls is one of the part, with other numbers. -/
theorem upS_onto (r : Int → Int) (hth : ∀ c ∈ cs, 0 ≤ c.thing) {t : Nat} (hq : q = (t : Int)) : ∀ {w : List (Int × Int)}, (∀ x ∈ w, 0 ≤ x.1 ∧ x.1 < cs.length) → (∀ x ∈ w, (atC cs x).thing.toNat = t) → ∃ ws : List (Int × Int), (∀ x ∈ ws, 0 ≤ x.1 ∧ x.1 < (prt r q cs).length) ∧ ws.map (upS cs q) = w
  | [], _, _ => ⟨[], (fun x h => by cases h), rfl⟩
  | x :: w, h1, h2 => by
    obtain ⟨ws, e1, e2⟩ := upS_onto r hth hq (w := w) (fun y hy => h1 y (List.mem_cons_of_mem _ hy)) (fun y hy => h2 y (List.mem_cons_of_mem _ hy))
    have hx := h1 x (List.mem_cons_self ..)
    have ho := h2 x (List.mem_cons_self ..)
    have hm : atC cs x ∈ cs := by unfold atC; rw [List.getD_eq_getElem?_getD, List.getElem?_eq_getElem (by omega : x.1.toNat < cs.length)]; exact List.getElem_mem _
    have := hth _ hm
    obtain ⟨k, hk, ek⟩ := upI_onto (cs := cs) (q := q) r (i := x.1.toNat) (by omega) (by unfold atC at ho this; omega)
    refine ⟨((k : Int), x.2) :: ws, fun y hy => ?_, ?_⟩
    · rcases List.mem_cons.1 hy with rfl | hy
      · exact ⟨by simp only; omega, by simp only; omega⟩
      · exact e1 y hy
    · rw [List.map_cons, e2]
      congr 1
      unfold upS
      simp only [Int.toNat_natCast]
      rw [ek]
      exact Prod.ext (by simp only; omega) rfl
end
/-- HERLIHY, WING: a history has a right order just if the part of each thing has one. -/
theorem local_parts {ts : List Int} {l : List Ev} (h : (callsOf ts l).2.2 = 0) :
    (∃ ws, Rite ts (callsOf ts l).1 ws) ↔ ∀ t : Nat, t < ts.length → ∃ ws, Rite ts (callsOf ts (partL l t)).1 ws := by
  have hth : ∀ c ∈ (callsOf ts l).1, 0 ≤ c.thing ∧ c.thing < ts.length := fun c hc => (calls_callOk h c hc).thing
  have hor := (calls_orderly h).1
  rw [local_iff hth hor.ends (fun c hc => (hor.tidy c hc).2.2.1)]
  have key : ∀ t : Nat, t < ts.length → ((∃ w, RiteT ts (callsOf ts l).1 t w) ↔ ∃ ws, Rite ts (callsOf ts (partL l t)).1 ws) := fun t ht => by
    obtain ⟨e1, e2⟩ := calls_part h (t : Int)
    rw [e1]
    constructor
    · rintro ⟨w, hw⟩
      obtain ⟨ws, h1, rfl⟩ := upS_onto (rankE l t) (fun c hc => (hth c hc).1) rfl hw.rng hw.own
      exact ⟨ws, (rite_part_iff (fun y z => rankE_up l t) (rankE_ge l t) e2 hth rfl ht h1).2 hw⟩
    · rintro ⟨ws, hw⟩
      exact ⟨_, (rite_part_iff (fun y z => rankE_up l t) (rankE_ge l t) e2 hth rfl ht hw.rng).1 hw⟩
  exact ⟨fun k t ht => (key t ht).1 (k t ht), fun k t ht => (key t ht).2 (k t ht)⟩
end Go.Proofs.YtecpjeililiafaaDoor

/-
  Plain: the least orders of the parts, joined.
-/
namespace Go.Proofs.YtecpjeililiafaaDoor
open Go.RowKit
set_option maxRecDepth 20000

theorem renK_up (ts : List Int) (l : List Ev) (t : Nat) (x : Int × Int) : renK ts l t x = upS (callsOf ts l).1 (t : Int) x := by
  unfold renK upS upI
  have h : idxK (callsOf ts l).1 (t : Int) (callsOf ts l).1.length = (idxQ (callsOf ts l).1 (t : Int)).map fun i : Nat => (i : Int) := rfl
  rw [h, List.getD_eq_getElem?_getD, List.getElem?_map, List.getD_eq_getElem?_getD]
  cases (idxQ (callsOf ts l).1 (t : Int))[x.1.toNat]? <;> rfl
theorem ord_rite {ts : List Int} {l : List Ev} (h0 : openE ts l = 0) {t : Nat} (ht : t < ts.length) (hp : pB ts l t = true) : RiteT ts (callsOf ts l).1 t (ordL ts l t) := by
  have h := (openE_zero h0).1
  obtain ⟨e1, e2⟩ := calls_part h (t : Int)
  have hr := foundL_rite hp
  rw [e1] at hr
  have h1 := (rite_part_iff (fun y z => rankE_up l t) (rankE_ge l t) e2 (fun c hc => (calls_callOk h c hc).thing) rfl ht hr.rng).1 hr
  have e : ordL ts l t = (foundL ts (callsOf ts (partL l (t : Int)))).map (upS (callsOf ts l).1 (t : Int)) := List.map_congr_left fun x _ => renK_up ts l t x
  rw [e]
  exact h1
/-- The orders of all parts. -/
def ordW (ts : List Int) (l : List Ev) : List (List (Int × Int)) := (List.range ts.length).map (ordL ts l)
theorem ordW_len (ts : List Int) (l : List Ev) : (ordW ts l).length = ts.length := by unfold ordW; rw [List.length_map, List.length_range]
theorem ordW_at {ts : List Int} {l : List Ev} {t : Nat} (ht : t < ts.length) : (ordW ts l)[t]? = some (ordL ts l t) := by
  unfold ordW
  rw [List.getElem?_map, List.getElem?_range ht]
  rfl
theorem joined_all {ts : List Int} {l : List Ev} (h0 : openE ts l = 0) (hp : ∀ t, t < ts.length → pB ts l t = true) :
    ∃ ws, joinO ts l (ordW ts l) = (ws, true, 0) ∧ (∀ x ∈ ws, 0 ≤ x.1 ∧ x.1 < (callsOf ts l).1.length) ∧ ws.length ≤ 12 ∧ (∀ t, t < ts.length → ownW (callsOf ts l).1 t ws = ordL ts l t) ∧ (searchE (callsOf ts l) = 0 → rightB ts (callsOf ts l) ws = true) := by
  obtain ⟨h, hn, _⟩ := openE_zero h0
  have hth : ∀ c ∈ (callsOf ts l).1, 0 ≤ c.thing ∧ c.thing < ts.length := fun c hc => (calls_callOk h c hc).thing
  have hor := (calls_orderly h).1
  have hw : ∀ t, t < ts.length → RiteT ts (callsOf ts l).1 t ((ordW ts l).getD t []) := fun t ht => by
    rw [List.getD_eq_getElem?_getD, ordW_at ht]
    exact ord_rite h0 ht (hp t ht)
  obtain ⟨hy, G, hc⟩ := join_can hth hor.ends (fun c hc => (hor.tidy c hc).2.2.1) (ordW_len ts l) hw
  have hr := (joinL_rite hth hn (ordW_len ts l) hy hc).2 hw
  refine ⟨joinL (callsOf ts l).1 (ordW ts l) G, ?_, joinL_rng hn hy hc, ?_, fun t ht => joinL_own hn hy hc (ordW_at ht), fun hE => rightB_iff.2 ⟨hE, hr⟩⟩
  · unfold joinO joinC
    rw [if_neg (by simp [h0]), if_neg (by simp [ordW_len]), hc]
    simp only [hy]
    rfl
  · have := nodup_lt (callsOf ts l).1.length hr.once (fun k hk => by
      obtain ⟨x, hx, rfl⟩ := List.mem_map.1 hk
      exact hr.rng x hx)
    rw [List.length_map] at this
    omega
theorem QRd.of_tab {w : World} {B g n : Nat} {F : Nat → Value} {f : Nat → List (Int × Int)} (h : VTab w g n F) (hF : ∀ t, t < n → TOwn w B (F t) (f t)) (hn : n ≤ 1000) : QRd w w.heap.size (.slice (some ⟨g, 0, none⟩) n n) ((List.range n).map f) := by
  refine ⟨_, n, by rw [List.length_map, List.length_range], by simp, by unfold maxLen; omega, fun hp => ⟨g, 0, rfl, h.lt, fun k l hk => ?_⟩⟩
  have hkn : k < n := by have := (List.getElem?_eq_some_iff.1 hk).1; simpa using this
  rw [List.getElem?_map, List.getElem?_range hkn] at hk
  injection hk with hk
  subst hk
  have hs := (hF k hkn).rd
  obtain ⟨A, cap, e, _, _⟩ := hs.is
  rw [e] at hs
  exact ⟨A, cap, by rw [Nat.zero_add, VTab.cell h hkn, e], hs⟩
theorem ownW_step {cs : List Cl} {t : Nat} {ws : List (Int × Int)} {j : Nat} {x : Int × Int} (hx : ws[j]? = some x) : ownW cs t (ws.take (j + 1)) = ownW cs t (ws.take j) ++ (if (atC cs x).thing.toNat = t then [x] else []) := by
  unfold ownW
  rw [List.take_add_one, hx, List.filter_append]
  congr 1
  by_cases h : (atC cs x).thing.toNat = t
  · simp [h]
  · simp [h]
end Go.Proofs.YtecpjeililiafaaDoor
