/-
  Joined by a program out of: ROver.
-/
import Derived.Test.YthjmncngegchjaaMgAK

/-
  Contract of (*rows.record).overtakes.
-/
namespace Go.Proofs.Ythjmncngegchjaa
open Go.RowKit Go.Maps
set_option maxRecDepth 20000

structure OvS (w : World) (B Q : Nat) (A : Option Addr) (cap n : Nat) (cs : List Cl) (M1 M2 : Nat) (W : World) : Prop where
  rec_ : Rec W B Q 1000 A cap n cs M1 M2 (numF (pAt cs)) (numF (tAt cs))
  below : Below w.heap.size w W
section
variable {w : World} {B Q : Nat} {A : Option Addr} {cap n : Nat} {cs : List Cl} {M1 M2 : Nat} {W w' : World}
theorem OvS.drew (h : OvS w B Q A cap n cs M1 M2 W) : OvS w B Q A cap n cs M1 M2 W.drew := ⟨h.rec_.drew, h.below.drew⟩
theorem OvS.next (h : OvS w B Q A cap n cs M1 M2 W) (hb : Below W.heap.size W w') : OvS w B Q A cap n cs M1 M2 w' := ⟨h.rec_.next hb, h.below.trans (hb.mono h.below.size)⟩
theorem OvS.enq (h : OvS w B Q A cap n cs M1 M2 W) (v : Int) (hv : 0 ≤ v ∧ v ≤ 1000) : (Instr.lookup 74 (.map (some M1)) (.int .i64 v) false).run Try.prog W = .ok (.int .i64 ((((pAt cs v).getD 0 : Nat) : Int))) W := by
  obtain ⟨m, _, hm⟩ := h.rec_.enq
  have := (hm.val v (by omega) (by omega)).2
  rwa [numF_get] at this
theorem OvS.deq (h : OvS w B Q A cap n cs M1 M2 W) (v : Int) (hv : 0 ≤ v ∧ v ≤ 1000) : (Instr.lookup 74 (.map (some M2)) (.int .i64 v) true).run Try.prog W = .ok (.tuple #[.int .i64 ((((tAt cs v).getD 0 : Nat) : Int)), .bool (tAt cs v).isSome]) W := by
  obtain ⟨m, _, hm⟩ := h.rec_.deq
  have := (hm.val v (by omega) (by omega)).1
  rwa [numF_get, numF_some] at this
end
theorem vals_rng {cs : List Cl} {v : Int} (h : v ∈ valsQ cs) : 0 ≤ v ∧ v ≤ 1000 := by
  unfold valsQ at h
  rw [List.mem_filter, List.mem_map] at h
  obtain ⟨⟨k, h1, rfl⟩, _⟩ := h
  rw [List.mem_range] at h1
  omega
set_option maxHeartbeats 16000000 in
theorem rover_any {w : World} {B Q : Nat} {A : Option Addr} {cap n : Nat} {cs : List Cl} {M1 M2 : Nat} (h : Rec w B Q 1000 A cap n cs M1 M2 (numF (pAt cs)) (numF (tAt cs))) (hn : n = cs.length) (b a : Int) (ha : a ∈ valsQ cs) (hb : b ∈ valsQ cs) :
    Calls Try.prog 44 #[.pointer (some ⟨Q, 0, none⟩), .int .i64 b, .int .i64 a] w fun e w' => e = .returned (.bool (overB cs b a)) ∧ Below w.heap.size w w' := by
  have ra : 0 ≤ a ∧ a ≤ 1000 := vals_rng ha
  have rb : 0 ≤ b ∧ b ≤ 1000 := vals_rng hb
  obtain ⟨ia, ca, a1, a2, a3, a4⟩ := p_get (mem_vals0 ha)
  obtain ⟨ib, cb, b1, b2, b3, b4⟩ := p_get (mem_vals0 hb)
  obtain ⟨V, hV⟩ : ∃ V, V = overB cs b a := ⟨_, rfl⟩
  rw [← hV]
  unfold overB at hV
  rw [a4, b4] at hV
  have hS : OvS w B Q A cap n cs M1 M2 w := ⟨h, Below.refl _ _⟩
  obtain ⟨g, o, hA, -⟩ := h.cls.cl a1
  subst hA
  have hea := fun W (hW : OvS w B Q (some ⟨g, o, none⟩) cap n cs M1 M2 W) => hW.enq a ra
  have heb := fun W (hW : OvS w B Q (some ⟨g, o, none⟩) cap n cs M1 M2 W) => hW.enq b rb
  have hda := fun W (hW : OvS w B Q (some ⟨g, o, none⟩) cap n cs M1 M2 W) => hW.deq a ra
  have hdb := hS.deq b rb
  rw [a3] at hea
  rw [b3] at heb
  have HEA := Lib.hid hea
  have HEB := Lib.hid heb
  have HDA := Lib.hid hda
  have HCA := Lib.hid (fun W (hW : OvS w B Q (some ⟨g, o, none⟩) cap n cs M1 M2 W) => at_cl hW.rec_.cls a1)
  have HCB := Lib.hid (fun W (hW : OvS w B Q (some ⟨g, o, none⟩) cap n cs M1 M2 W) => at_cl hW.rec_.cls b1)
  have lia : (ia : Int) < (n : Int) := by have := (List.getElem?_eq_some_iff.1 a1).1; omega
  have lib : (ib : Int) < (n : Int) := by have := (List.getElem?_eq_some_iff.1 b1).1; omega
  have zia : (0 : Int) ≤ (ia : Int) := by omega
  have zib : (0 : Int) ≤ (ib : Int) := by omega
  obtain ⟨okb, hokb⟩ : ∃ ok, ok = (tAt cs b).isSome := ⟨_, rfl⟩
  obtain ⟨oka, hoka⟩ : ∃ ok, ok = (tAt cs a).isSome := ⟨_, rfl⟩
  have htb : okb = true → ∃ i y, cs[i]? = some y ∧ (tAt cs b).getD 0 = i ∧ tC cs b = y := by
    intro h1
    rw [hokb] at h1
    obtain ⟨i, y, e1, _, e3, e4, _⟩ := t_get h1
    exact ⟨i, y, e1, by rw [e3]; rfl, e4⟩
  have hta : oka = true → ∃ i y, cs[i]? = some y ∧ (tAt cs a).getD 0 = i ∧ tC cs a = y := by
    intro h1
    rw [hoka] at h1
    obtain ⟨i, y, e1, _, e3, e4, _⟩ := t_get h1
    exact ⟨i, y, e1, by rw [e3]; rfl, e4⟩
  rw [← hokb] at hdb hV
  rw [← hoka] at hV
  have HT := Lib.hid (And.intro hta htb)
  have HV := Lib.hid hV
  have HOA := Lib.hid hoka
  have HS0 := Lib.hid hS
  have HP := Lib.hid rprec_any
  have HN := Lib.hid hn
  have r2 := Lies.cell h.rcd 2
  simp only [List.getElem?_toArray, List.getElem?_cons_zero, List.getElem?_cons_succ] at r2
  clear h hn ha hb a1 a2 a3 a4 b1 b2 b3 b4 hV hS hea heb hda hta htb hokb hoka ra rb
  obtain ⟨zb, hzb⟩ : ∃ z, z = (tAt cs b).getD 0 := ⟨_, rfl⟩
  rw [← hzb] at hdb
  have HZB := Lib.hid hzb
  clear hzb
  go_enter Try.func44, Try.ntmps44
  go_upto_region 2 with fail
  clear hdb r2
  cases okb
  · -- not taken
    refine wp_region_held_drew (S := fun W => OvS w B Q (some ⟨g, o, none⟩) cap n cs M1 M2 W) (by kernel_rfl) (HS0.out.drew) (fun hHeld => ?_)
    change wpAnyH _ _ _ _ _ 30 _ _ _
    clear hHeld
    have HS := Lib.hid (HS0.out.drew)
    generalize w.drew = WD at HS ⊢
    refine takeAt 0 20 (oi := _) (v := ?_) rfl rfl (by kernel_rfl) (by kernel_rfl) (by kernel_rfl) (fun _ _ _ h => h) (by rfl) ?_ (HS.out) ?_
    rotate_left
    · (intro w0 hSw; go_simp; try with_reducible rfl)
    simp only [Act.put, List.setIfInBounds_toArray, List.set_cons_zero, List.set_cons_succ]
    refine takeAt 1 21 (oi := _) (v := ?_) rfl rfl (by kernel_rfl) (by kernel_rfl) (by kernel_rfl) (fun _ _ _ h => h) (by rfl) ?_ (HS.out) ?_
    rotate_left
    · (intro w0 hSw; go_simp; try with_reducible rfl)
    simp only [Act.put, List.setIfInBounds_toArray, List.set_cons_zero, List.set_cons_succ]
    refine takeAt 2 22 (oi := _) (v := ?_) rfl rfl (by kernel_rfl) (by kernel_rfl) (by kernel_rfl) (fun _ _ _ h => h) (by rfl) ?_ (HS.out) ?_
    rotate_left
    · (intro w0 hSw; go_simp; try with_reducible rfl)
    simp only [Act.put, List.setIfInBounds_toArray, List.set_cons_zero, List.set_cons_succ]
    refine skipAt 3 23 (oi := _) rfl rfl (by kernel_rfl) (by kernel_rfl) (by kernel_rfl) (fun _ _ _ h => h) (by rfl) (HS.out) ?_
    simp only [Act.put, List.setIfInBounds_toArray, List.set_cons_zero, List.set_cons_succ]
    refine skipAt 4 24 (oi := _) rfl rfl (by kernel_rfl) (by kernel_rfl) (by kernel_rfl) (fun _ _ _ h => h) (by rfl) (HS.out) ?_
    simp only [Act.put, List.setIfInBounds_toArray, List.set_cons_zero, List.set_cons_succ]
    refine skipAt 5 25 (oi := _) rfl rfl (by kernel_rfl) (by kernel_rfl) (by kernel_rfl) (fun _ _ _ h => h) (by rfl) (HS.out) ?_
    simp only [Act.put, List.setIfInBounds_toArray, List.set_cons_zero, List.set_cons_succ]
    refine skipAt 6 26 (oi := _) rfl rfl (by kernel_rfl) (by kernel_rfl) (by kernel_rfl) (fun _ _ _ h => h) (by rfl) (HS.out) ?_
    simp only [Act.put, List.setIfInBounds_toArray, List.set_cons_zero, List.set_cons_succ]
    refine skipAt 7 27 (oi := _) rfl rfl (by kernel_rfl) (by kernel_rfl) (by kernel_rfl) (fun _ _ _ h => h) (by rfl) (HS.out) ?_
    simp only [Act.put, List.setIfInBounds_toArray, List.set_cons_zero, List.set_cons_succ]
    refine skipAt 8 28 (oi := _) rfl rfl (by kernel_rfl) (by kernel_rfl) (by kernel_rfl) (fun _ _ _ h => h) (by rfl) (HS.out) ?_
    simp only [Act.put, List.setIfInBounds_toArray, List.set_cons_zero, List.set_cons_succ]
    refine skipAt 9 29 (oi := _) rfl rfl (by kernel_rfl) (by kernel_rfl) (by kernel_rfl) (fun _ _ _ h => h) (by rfl) (HS.out) ?_
    simp only [Act.put, List.setIfInBounds_toArray, List.set_cons_zero, List.set_cons_succ]
    refine skipAt 10 30 (oi := _) rfl rfl (by kernel_rfl) (by kernel_rfl) (by kernel_rfl) (fun _ _ _ h => h) (by rfl) (HS.out) ?_
    simp only [Act.put, List.setIfInBounds_toArray, List.set_cons_zero, List.set_cons_succ]
    refine skipAt 11 31 (oi := _) rfl rfl (by kernel_rfl) (by kernel_rfl) (by kernel_rfl) (fun _ _ _ h => h) (by rfl) (HS.out) ?_
    simp only [Act.put, List.setIfInBounds_toArray, List.set_cons_zero, List.set_cons_succ]
    refine skipAt 12 32 (oi := _) rfl rfl (by kernel_rfl) (by kernel_rfl) (by kernel_rfl) (fun _ _ _ h => h) (by rfl) (HS.out) ?_
    simp only [Act.put, List.setIfInBounds_toArray, List.set_cons_zero, List.set_cons_succ]
    refine skipAt 13 33 (oi := _) rfl rfl (by kernel_rfl) (by kernel_rfl) (by kernel_rfl) (fun _ _ _ h => h) (by rfl) (HS.out) ?_
    simp only [Act.put, List.setIfInBounds_toArray, List.set_cons_zero, List.set_cons_succ]
    refine skipAt 14 34 (oi := _) rfl rfl (by kernel_rfl) (by kernel_rfl) (by kernel_rfl) (fun _ _ _ h => h) (by rfl) (HS.out) ?_
    simp only [Act.put, List.setIfInBounds_toArray, List.set_cons_zero, List.set_cons_succ]
    refine skipAt 15 35 (oi := _) rfl rfl (by kernel_rfl) (by kernel_rfl) (by kernel_rfl) (fun _ _ _ h => h) (by rfl) (HS.out) ?_
    simp only [Act.put, List.setIfInBounds_toArray, List.set_cons_zero, List.set_cons_succ]
    refine skipAt 16 36 (oi := _) rfl rfl (by kernel_rfl) (by kernel_rfl) (by kernel_rfl) (fun _ _ _ h => h) (by rfl) (HS.out) ?_
    simp only [Act.put, List.setIfInBounds_toArray, List.set_cons_zero, List.set_cons_succ]
    refine skipAt 17 37 (oi := _) rfl rfl (by kernel_rfl) (by kernel_rfl) (by kernel_rfl) (fun _ _ _ h => h) (by rfl) (HS.out) ?_
    simp only [Act.put, List.setIfInBounds_toArray, List.set_cons_zero, List.set_cons_succ]
    refine skipAt 18 38 (oi := _) rfl rfl (by kernel_rfl) (by kernel_rfl) (by kernel_rfl) (fun _ _ _ h => h) (by rfl) (HS.out) ?_
    simp only [Act.put, List.setIfInBounds_toArray, List.set_cons_zero, List.set_cons_succ]
    refine skipAt 19 39 (oi := _) rfl rfl (by kernel_rfl) (by kernel_rfl) (by kernel_rfl) (fun _ _ _ h => h) (by rfl) (HS.out) ?_
    simp only [Act.put, List.setIfInBounds_toArray, List.set_cons_zero, List.set_cons_succ]
    refine skipAt 20 40 (oi := _) rfl rfl (by kernel_rfl) (by kernel_rfl) (by kernel_rfl) (fun _ _ _ h => h) (by rfl) (HS.out) ?_
    simp only [Act.put, List.setIfInBounds_toArray, List.set_cons_zero, List.set_cons_succ]
    refine skipAt 21 41 (oi := _) rfl rfl (by kernel_rfl) (by kernel_rfl) (by kernel_rfl) (fun _ _ _ h => h) (by rfl) (HS.out) ?_
    simp only [Act.put, List.setIfInBounds_toArray, List.set_cons_zero, List.set_cons_succ]
    refine skipAt 22 42 (oi := _) rfl rfl (by kernel_rfl) (by kernel_rfl) (by kernel_rfl) (fun _ _ _ h => h) (by rfl) (HS.out) ?_
    simp only [Act.put, List.setIfInBounds_toArray, List.set_cons_zero, List.set_cons_succ]
    refine skipAt 23 43 (oi := _) rfl rfl (by kernel_rfl) (by kernel_rfl) (by kernel_rfl) (fun _ _ _ h => h) (by rfl) (HS.out) ?_
    simp only [Act.put, List.setIfInBounds_toArray, List.set_cons_zero, List.set_cons_succ]
    refine skipAt 24 44 (oi := _) rfl rfl (by kernel_rfl) (by kernel_rfl) (by kernel_rfl) (fun _ _ _ h => h) (by rfl) (HS.out) ?_
    simp only [Act.put, List.setIfInBounds_toArray, List.set_cons_zero, List.set_cons_succ]
    refine skipAt 25 45 (oi := _) rfl rfl (by kernel_rfl) (by kernel_rfl) (by kernel_rfl) (fun _ _ _ h => h) (by rfl) (HS.out) ?_
    simp only [Act.put, List.setIfInBounds_toArray, List.set_cons_zero, List.set_cons_succ]
    refine skipAt 26 46 (oi := _) rfl rfl (by kernel_rfl) (by kernel_rfl) (by kernel_rfl) (fun _ _ _ h => h) (by rfl) (HS.out) ?_
    simp only [Act.put, List.setIfInBounds_toArray, List.set_cons_zero, List.set_cons_succ]
    refine skipAt 27 47 (oi := _) rfl rfl (by kernel_rfl) (by kernel_rfl) (by kernel_rfl) (fun _ _ _ h => h) (by rfl) (HS.out) ?_
    simp only [Act.put, List.setIfInBounds_toArray, List.set_cons_zero, List.set_cons_succ]
    refine skipAt 28 48 (oi := _) rfl rfl (by kernel_rfl) (by kernel_rfl) (by kernel_rfl) (fun _ _ _ h => h) (by rfl) (HS.out) ?_
    simp only [Act.put, List.setIfInBounds_toArray, List.set_cons_zero, List.set_cons_succ]
    refine takeAt 29 49 (oi := _) (v := ?_) rfl rfl (by kernel_rfl) (by kernel_rfl) (by kernel_rfl) (fun _ _ _ h => h) (by rfl) ?_ (HS.out) ?_
    rotate_left
    · (intro w0 hSw; go_simp; try with_reducible rfl)
    simp only [Act.put, List.setIfInBounds_toArray, List.set_cons_zero, List.set_cons_succ]
    refine wpAnyH_done (by kernel_rfl) ?_ _
    have HB := Lib.hid HS.out.below
    have hv := HV.out
    rw [Bool.false_and, Bool.false_and] at hv
    subst hv
    clear HV HS HT HP HCA HCB HEA HEB HDA
    go_wp2_with fail
    exact bodyPost_ret (v := .bool false) (by simp [results, Try.results44, go_sem]) rfl ⟨rfl, HB.out⟩
  · -- taken
    have HPA := Lib.hid (HP.out ca cb)
    obtain ⟨pv, hpv⟩ : ∃ pv, pv = precB ca cb := ⟨_, rfl⟩
    rw [← hpv] at HPA
    have hv := HV.out
    rw [Bool.true_and, ← hpv] at hv
    have HV2 := Lib.hid hv
    clear hv hpv HV
    obtain ⟨ca0, ca1, ca2, ca3, ca4, ca5, ca6⟩ := ca
    obtain ⟨cb0, cb1, cb2, cb3, cb4, cb5, cb6⟩ := cb
    simp only at HCA HCB HPA
    refine wp_region_held_drew (S := fun W => OvS w B Q (some ⟨g, o, none⟩) cap n cs M1 M2 W) (by kernel_rfl) (HS0.out.drew) (fun hHeld => ?_)
    change wpAnyH _ _ _ _ _ 30 _ _ _
    clear hHeld
    have HS := Lib.hid (HS0.out.drew)
    generalize w.drew = WD at HS ⊢
    refine takeAt 0 20 (oi := _) (v := ?_) rfl rfl (by kernel_rfl) (by kernel_rfl) (by kernel_rfl) (fun _ _ _ h => h) (by rfl) ?_ (HS.out) ?_
    rotate_left
    · (intro w0 hSw; go_simp; try with_reducible rfl)
    simp only [Act.put, List.setIfInBounds_toArray, List.set_cons_zero, List.set_cons_succ]
    refine takeAt 1 21 (oi := _) (v := ?_) rfl rfl (by kernel_rfl) (by kernel_rfl) (by kernel_rfl) (fun _ _ _ h => h) (by rfl) ?_ (HS.out) ?_
    rotate_left
    · (intro w0 hSw; go_simp; try with_reducible rfl)
    simp only [Act.put, List.setIfInBounds_toArray, List.set_cons_zero, List.set_cons_succ]
    refine takeAt 2 22 (oi := _) (v := ?_) rfl rfl (by kernel_rfl) (by kernel_rfl) (by kernel_rfl) (fun _ _ _ h => h) (by rfl) ?_ (HS.out) ?_
    rotate_left
    · (intro w0 hSw; go_simp; try with_reducible rfl)
    simp only [Act.put, List.setIfInBounds_toArray, List.set_cons_zero, List.set_cons_succ]
    refine takeAt 3 23 (oi := _) (v := ?_) rfl rfl (by kernel_rfl) (by kernel_rfl) (by kernel_rfl) (fun _ _ _ h => h) (by rfl) ?_ (HS.out) ?_
    rotate_left
    · (intro w0 hSw; go_simp; try with_reducible rfl)
    simp only [Act.put, List.setIfInBounds_toArray, List.set_cons_zero, List.set_cons_succ]
    refine takeAt 4 24 (oi := _) (v := ?_) rfl rfl (by kernel_rfl) (by kernel_rfl) (by kernel_rfl) (fun _ _ _ h => h) (by rfl) ?_ (HS.out) ?_
    rotate_left
    · (intro w0 hSw; go_simp; try with_reducible rfl)
    simp only [Act.put, List.setIfInBounds_toArray, List.set_cons_zero, List.set_cons_succ]
    refine takeAt 5 25 (oi := _) (v := ?_) rfl rfl (by kernel_rfl) (by kernel_rfl) (by kernel_rfl) (fun _ _ _ h => h) (by rfl) ?_ (HS.out) ?_
    rotate_left
    · (intro w0 hSw; go_simp; try with_reducible rfl)
    simp only [Act.put, List.setIfInBounds_toArray, List.set_cons_zero, List.set_cons_succ]
    refine takeAt 6 26 (oi := _) (v := ?_) rfl rfl (by kernel_rfl) (by kernel_rfl) (by kernel_rfl) (fun _ _ _ h => h) (by rfl) ?_ (HS.out) ?_
    rotate_left
    · (intro w0 hSw; have r0 := Lies.cell hSw.rec_.rcd 0; simp only [List.getElem?_toArray, List.getElem?_cons_zero] at r0; go_simp; try with_reducible rfl)
    simp only [Act.put, List.setIfInBounds_toArray, List.set_cons_zero, List.set_cons_succ]
    refine takeAt 7 27 (oi := _) (v := ?_) rfl rfl (by kernel_rfl) (by kernel_rfl) (by kernel_rfl) (fun _ _ _ h => h) (by rfl) ?_ (HS.out) ?_
    rotate_left
    · (intro w0 hSw; go_simp; try with_reducible rfl)
    simp only [Act.put, List.setIfInBounds_toArray, List.set_cons_zero, List.set_cons_succ]
    refine takeAt 8 28 (oi := _) (v := ?_) rfl rfl (by kernel_rfl) (by kernel_rfl) (by kernel_rfl) (fun _ _ _ h => h) (by rfl) ?_ (HS.out) ?_
    rotate_left
    · (intro w0 hSw; go_simp; try with_reducible rfl)
    simp only [Act.put, List.setIfInBounds_toArray, List.set_cons_zero, List.set_cons_succ]
    refine takeAt 9 29 (oi := _) (v := ?_) rfl rfl (by kernel_rfl) (by kernel_rfl) (by kernel_rfl) (fun _ _ _ h => h) (by rfl) ?_ (HS.out) ?_
    rotate_left
    · (intro w0 hSw; go_simp; try with_reducible rfl)
    simp only [Act.put, List.setIfInBounds_toArray, List.set_cons_zero, List.set_cons_succ]
    refine takeAt 10 30 (oi := _) (v := ?_) rfl rfl (by kernel_rfl) (by kernel_rfl) (by kernel_rfl) (fun _ _ _ h => h) (by rfl) ?_ (HS.out) ?_
    rotate_left
    · (intro w0 hSw; have r1 := Lies.cell hSw.rec_.rcd 1; simp only [List.getElem?_toArray, List.getElem?_cons_zero, List.getElem?_cons_succ] at r1; go_simp; try with_reducible rfl)
    simp only [Act.put, List.setIfInBounds_toArray, List.set_cons_zero, List.set_cons_succ]
    refine takeAt 11 31 (oi := _) (v := ?_) rfl rfl (by kernel_rfl) (by kernel_rfl) (by kernel_rfl) (fun _ _ _ h => h) (by rfl) ?_ (HS.out) ?_
    rotate_left
    · (intro w0 hSw; go_simp; try with_reducible rfl)
    simp only [Act.put, List.setIfInBounds_toArray, List.set_cons_zero, List.set_cons_succ]
    refine takeAt 12 32 (oi := _) (v := ?_) rfl rfl (by kernel_rfl) (by kernel_rfl) (by kernel_rfl) (fun _ _ _ h => h) (by rfl) ?_ (HS.out) ?_
    rotate_left
    · (intro w0 hSw; have lk := HEA.out w0 hSw; go_simp; try with_reducible rfl)
    simp only [Act.put, List.setIfInBounds_toArray, List.set_cons_zero, List.set_cons_succ]
    refine takeAt 13 33 (oi := _) (v := ?_) rfl rfl (by kernel_rfl) (by kernel_rfl) (by kernel_rfl) (fun _ _ _ h => h) (by rfl) ?_ (HS.out) ?_
    rotate_left
    · (intro w0 hSw; go_simp; try with_reducible rfl)
    simp only [Act.put, List.setIfInBounds_toArray, List.set_cons_zero, List.set_cons_succ]
    refine takeAt 14 34 (oi := _) (v := ?_) rfl rfl (by kernel_rfl) (by kernel_rfl) (by kernel_rfl) (fun _ _ _ h => h) (by rfl) ?_ (HS.out) ?_
    rotate_left
    · (intro w0 hSw; obtain ⟨d0, d1, d2, d3, d4, d5, d6⟩ := HCA.out w0 hSw; go_simp; try with_reducible rfl)
    simp only [Act.put, List.setIfInBounds_toArray, List.set_cons_zero, List.set_cons_succ]
    refine takeAt 15 35 (oi := _) (v := ?_) rfl rfl (by kernel_rfl) (by kernel_rfl) (by kernel_rfl) (fun _ _ _ h => h) (by rfl) ?_ (HS.out) ?_
    rotate_left
    · (intro w0 hSw; go_simp; try with_reducible rfl)
    simp only [Act.put, List.setIfInBounds_toArray, List.set_cons_zero, List.set_cons_succ]
    refine takeAt 16 36 (oi := _) (v := ?_) rfl rfl (by kernel_rfl) (by kernel_rfl) (by kernel_rfl) (fun _ _ _ h => h) (by rfl) ?_ (HS.out) ?_
    rotate_left
    · (intro w0 hSw; go_simp; try with_reducible rfl)
    simp only [Act.put, List.setIfInBounds_toArray, List.set_cons_zero, List.set_cons_succ]
    refine takeAt 17 37 (oi := _) (v := ?_) rfl rfl (by kernel_rfl) (by kernel_rfl) (by kernel_rfl) (fun _ _ _ h => h) (by rfl) ?_ (HS.out) ?_
    rotate_left
    · (intro w0 hSw; go_simp; try with_reducible rfl)
    simp only [Act.put, List.setIfInBounds_toArray, List.set_cons_zero, List.set_cons_succ]
    refine takeAt 18 38 (oi := _) (v := ?_) rfl rfl (by kernel_rfl) (by kernel_rfl) (by kernel_rfl) (fun _ _ _ h => h) (by rfl) ?_ (HS.out) ?_
    rotate_left
    · (intro w0 hSw; have r0 := Lies.cell hSw.rec_.rcd 0; simp only [List.getElem?_toArray, List.getElem?_cons_zero] at r0; go_simp; try with_reducible rfl)
    simp only [Act.put, List.setIfInBounds_toArray, List.set_cons_zero, List.set_cons_succ]
    refine takeAt 19 39 (oi := _) (v := ?_) rfl rfl (by kernel_rfl) (by kernel_rfl) (by kernel_rfl) (fun _ _ _ h => h) (by rfl) ?_ (HS.out) ?_
    rotate_left
    · (intro w0 hSw; go_simp; try with_reducible rfl)
    simp only [Act.put, List.setIfInBounds_toArray, List.set_cons_zero, List.set_cons_succ]
    refine takeAt 20 40 (oi := _) (v := ?_) rfl rfl (by kernel_rfl) (by kernel_rfl) (by kernel_rfl) (fun _ _ _ h => h) (by rfl) ?_ (HS.out) ?_
    rotate_left
    · (intro w0 hSw; go_simp; try with_reducible rfl)
    simp only [Act.put, List.setIfInBounds_toArray, List.set_cons_zero, List.set_cons_succ]
    refine takeAt 21 41 (oi := _) (v := ?_) rfl rfl (by kernel_rfl) (by kernel_rfl) (by kernel_rfl) (fun _ _ _ h => h) (by rfl) ?_ (HS.out) ?_
    rotate_left
    · (intro w0 hSw; go_simp; try with_reducible rfl)
    simp only [Act.put, List.setIfInBounds_toArray, List.set_cons_zero, List.set_cons_succ]
    refine takeAt 22 42 (oi := _) (v := ?_) rfl rfl (by kernel_rfl) (by kernel_rfl) (by kernel_rfl) (fun _ _ _ h => h) (by rfl) ?_ (HS.out) ?_
    rotate_left
    · (intro w0 hSw; have r1 := Lies.cell hSw.rec_.rcd 1; simp only [List.getElem?_toArray, List.getElem?_cons_zero, List.getElem?_cons_succ] at r1; go_simp; try with_reducible rfl)
    simp only [Act.put, List.setIfInBounds_toArray, List.set_cons_zero, List.set_cons_succ]
    refine takeAt 23 43 (oi := _) (v := ?_) rfl rfl (by kernel_rfl) (by kernel_rfl) (by kernel_rfl) (fun _ _ _ h => h) (by rfl) ?_ (HS.out) ?_
    rotate_left
    · (intro w0 hSw; go_simp; try with_reducible rfl)
    simp only [Act.put, List.setIfInBounds_toArray, List.set_cons_zero, List.set_cons_succ]
    refine takeAt 24 44 (oi := _) (v := ?_) rfl rfl (by kernel_rfl) (by kernel_rfl) (by kernel_rfl) (fun _ _ _ h => h) (by rfl) ?_ (HS.out) ?_
    rotate_left
    · (intro w0 hSw; have lk := HEB.out w0 hSw; go_simp; try with_reducible rfl)
    simp only [Act.put, List.setIfInBounds_toArray, List.set_cons_zero, List.set_cons_succ]
    refine takeAt 25 45 (oi := _) (v := ?_) rfl rfl (by kernel_rfl) (by kernel_rfl) (by kernel_rfl) (fun _ _ _ h => h) (by rfl) ?_ (HS.out) ?_
    rotate_left
    · (intro w0 hSw; go_simp; try with_reducible rfl)
    simp only [Act.put, List.setIfInBounds_toArray, List.set_cons_zero, List.set_cons_succ]
    refine takeAt 26 46 (oi := _) (v := ?_) rfl rfl (by kernel_rfl) (by kernel_rfl) (by kernel_rfl) (fun _ _ _ h => h) (by rfl) ?_ (HS.out) ?_
    rotate_left
    · (intro w0 hSw; obtain ⟨d0, d1, d2, d3, d4, d5, d6⟩ := HCB.out w0 hSw; go_simp; try with_reducible rfl)
    simp only [Act.put, List.setIfInBounds_toArray, List.set_cons_zero, List.set_cons_succ]
    refine wpAnyH_ready (rs := [27]) (by kernel_rfl) (by simp) ?_
    refine AllReadyH.cons (o := _) rfl (fun K hK => ?_) AllReadyH.nil
    go_simp
    refine ((HPA.out _).mono ?_)
    rintro e w9 ⟨rfl, hb9⟩
    have HS2 := Lib.hid (HS.out.next hb9)
    clear hb9 HS
    have HS := HS2
    clear HS2
    refine hK.out _ _ HS.out (fun _ => ?_)
    clear hK K
    refine takeAt 28 48 (oi := _) (v := ?_) rfl rfl (by kernel_rfl) (by kernel_rfl) (by kernel_rfl) (fun _ _ _ h => h) (by rfl) ?_ (HS.out) ?_
    rotate_left
    · (intro w0 hSw; go_simp; try with_reducible rfl)
    simp only [Act.put, List.setIfInBounds_toArray, List.set_cons_zero, List.set_cons_succ]
    refine takeAt 29 49 (oi := _) (v := ?_) rfl rfl (by kernel_rfl) (by kernel_rfl) (by kernel_rfl) (fun _ _ _ h => h) (by rfl) ?_ (HS.out) ?_
    rotate_left
    · (intro w0 hSw; go_simp; try with_reducible rfl)
    simp only [Act.put, List.setIfInBounds_toArray, List.set_cons_zero, List.set_cons_succ]
    refine wpAnyH_done (by kernel_rfl) ?_ _
    clear HCA HCB HEA HEB HPA
    generalize w9 = W9 at HS ⊢
    cases pv
    · -- not one behind the other
      have HB := Lib.hid HS.out.below
      have hv := HV2.out
      rw [Bool.false_and] at hv
      subst hv
      clear HV2 HS HT HP HDA
      go_wp2_with fail
      exact bodyPost_ret (v := .bool false) (by simp [results, Try.results44, go_sem]) rfl ⟨rfl, HB.out⟩
    · -- one behind the other
      have hv := HV2.out
      rw [Bool.true_and] at hv
      have HV3 := Lib.hid hv
      clear hv HV2
      have hda := HDA.out W9 HS.out
      obtain ⟨za, hza⟩ : ∃ z, z = (tAt cs a).getD 0 := ⟨_, rfl⟩
      rw [← hza, ← HOA.out] at hda
      have HZA := Lib.hid hza
      have r2 := Lies.cell HS.out.rec_.rcd 2
      simp only [List.getElem?_toArray, List.getElem?_cons_zero, List.getElem?_cons_succ] at r2
      clear hza HDA
      go_upto_region 5 with fail
      clear hda r2
      cases oka
      · -- the one is not taken
        refine wp_region_held_drew (S := fun W => OvS w B Q (some ⟨g, o, none⟩) cap n cs M1 M2 W) (by kernel_rfl) (HS.out.drew) (fun hHeld => ?_)
        change wpAnyH _ _ _ _ _ 20 _ _ _
        clear hHeld
        have HT5 := Lib.hid (HS.out.drew)
        generalize W9.drew = WE at HT5 ⊢
        refine takeAt 0 59 (oi := _) (v := ?_) rfl rfl (by kernel_rfl) (by kernel_rfl) (by kernel_rfl) (fun _ _ _ h => h) (by rfl) ?_ (HT5.out) ?_
        rotate_left
        · (intro w0 hSw; go_simp; try with_reducible rfl)
        simp only [Act.put, List.setIfInBounds_toArray, List.set_cons_zero, List.set_cons_succ]
        refine takeAt 1 60 (oi := _) (v := ?_) rfl rfl (by kernel_rfl) (by kernel_rfl) (by kernel_rfl) (fun _ _ _ h => h) (by rfl) ?_ (HT5.out) ?_
        rotate_left
        · (intro w0 hSw; go_simp; try with_reducible rfl)
        simp only [Act.put, List.setIfInBounds_toArray, List.set_cons_zero, List.set_cons_succ]
        refine takeAt 2 61 (oi := _) (v := ?_) rfl rfl (by kernel_rfl) (by kernel_rfl) (by kernel_rfl) (fun _ _ _ h => h) (by rfl) ?_ (HT5.out) ?_
        rotate_left
        · (intro w0 hSw; go_simp; try with_reducible rfl)
        simp only [Act.put, List.setIfInBounds_toArray, List.set_cons_zero, List.set_cons_succ]
        refine skipAt 3 62 (oi := _) rfl rfl (by kernel_rfl) (by kernel_rfl) (by kernel_rfl) (fun _ _ _ h => h) (by rfl) (HT5.out) ?_
        simp only [Act.put, List.setIfInBounds_toArray, List.set_cons_zero, List.set_cons_succ]
        refine skipAt 4 63 (oi := _) rfl rfl (by kernel_rfl) (by kernel_rfl) (by kernel_rfl) (fun _ _ _ h => h) (by rfl) (HT5.out) ?_
        simp only [Act.put, List.setIfInBounds_toArray, List.set_cons_zero, List.set_cons_succ]
        refine skipAt 5 64 (oi := _) rfl rfl (by kernel_rfl) (by kernel_rfl) (by kernel_rfl) (fun _ _ _ h => h) (by rfl) (HT5.out) ?_
        simp only [Act.put, List.setIfInBounds_toArray, List.set_cons_zero, List.set_cons_succ]
        refine skipAt 6 65 (oi := _) rfl rfl (by kernel_rfl) (by kernel_rfl) (by kernel_rfl) (fun _ _ _ h => h) (by rfl) (HT5.out) ?_
        simp only [Act.put, List.setIfInBounds_toArray, List.set_cons_zero, List.set_cons_succ]
        refine skipAt 7 66 (oi := _) rfl rfl (by kernel_rfl) (by kernel_rfl) (by kernel_rfl) (fun _ _ _ h => h) (by rfl) (HT5.out) ?_
        simp only [Act.put, List.setIfInBounds_toArray, List.set_cons_zero, List.set_cons_succ]
        refine skipAt 8 67 (oi := _) rfl rfl (by kernel_rfl) (by kernel_rfl) (by kernel_rfl) (fun _ _ _ h => h) (by rfl) (HT5.out) ?_
        simp only [Act.put, List.setIfInBounds_toArray, List.set_cons_zero, List.set_cons_succ]
        refine skipAt 9 68 (oi := _) rfl rfl (by kernel_rfl) (by kernel_rfl) (by kernel_rfl) (fun _ _ _ h => h) (by rfl) (HT5.out) ?_
        simp only [Act.put, List.setIfInBounds_toArray, List.set_cons_zero, List.set_cons_succ]
        refine skipAt 10 69 (oi := _) rfl rfl (by kernel_rfl) (by kernel_rfl) (by kernel_rfl) (fun _ _ _ h => h) (by rfl) (HT5.out) ?_
        simp only [Act.put, List.setIfInBounds_toArray, List.set_cons_zero, List.set_cons_succ]
        refine skipAt 11 70 (oi := _) rfl rfl (by kernel_rfl) (by kernel_rfl) (by kernel_rfl) (fun _ _ _ h => h) (by rfl) (HT5.out) ?_
        simp only [Act.put, List.setIfInBounds_toArray, List.set_cons_zero, List.set_cons_succ]
        refine skipAt 12 71 (oi := _) rfl rfl (by kernel_rfl) (by kernel_rfl) (by kernel_rfl) (fun _ _ _ h => h) (by rfl) (HT5.out) ?_
        simp only [Act.put, List.setIfInBounds_toArray, List.set_cons_zero, List.set_cons_succ]
        refine skipAt 13 72 (oi := _) rfl rfl (by kernel_rfl) (by kernel_rfl) (by kernel_rfl) (fun _ _ _ h => h) (by rfl) (HT5.out) ?_
        simp only [Act.put, List.setIfInBounds_toArray, List.set_cons_zero, List.set_cons_succ]
        refine skipAt 14 73 (oi := _) rfl rfl (by kernel_rfl) (by kernel_rfl) (by kernel_rfl) (fun _ _ _ h => h) (by rfl) (HT5.out) ?_
        simp only [Act.put, List.setIfInBounds_toArray, List.set_cons_zero, List.set_cons_succ]
        refine skipAt 15 74 (oi := _) rfl rfl (by kernel_rfl) (by kernel_rfl) (by kernel_rfl) (fun _ _ _ h => h) (by rfl) (HT5.out) ?_
        simp only [Act.put, List.setIfInBounds_toArray, List.set_cons_zero, List.set_cons_succ]
        refine skipAt 16 75 (oi := _) rfl rfl (by kernel_rfl) (by kernel_rfl) (by kernel_rfl) (fun _ _ _ h => h) (by rfl) (HT5.out) ?_
        simp only [Act.put, List.setIfInBounds_toArray, List.set_cons_zero, List.set_cons_succ]
        refine skipAt 17 76 (oi := _) rfl rfl (by kernel_rfl) (by kernel_rfl) (by kernel_rfl) (fun _ _ _ h => h) (by rfl) (HT5.out) ?_
        simp only [Act.put, List.setIfInBounds_toArray, List.set_cons_zero, List.set_cons_succ]
        refine takeAt 18 77 (oi := _) (v := ?_) rfl rfl (by kernel_rfl) (by kernel_rfl) (by kernel_rfl) (fun _ _ _ h => h) (by rfl) ?_ (HT5.out) ?_
        rotate_left
        · (intro w0 hSw; go_simp; try with_reducible rfl)
        simp only [Act.put, List.setIfInBounds_toArray, List.set_cons_zero, List.set_cons_succ]
        refine takeAt 19 6 (oi := _) (v := ?_) rfl rfl (by kernel_rfl) (by kernel_rfl) (by kernel_rfl) (fun _ _ _ h => h) (by rfl) ?_ (HT5.out) ?_
        rotate_left
        · (intro w0 hSw; go_simp; try with_reducible rfl)
        simp only [Act.put, List.setIfInBounds_toArray, List.set_cons_zero, List.set_cons_succ]
        refine wpAnyH_done (by kernel_rfl) ?_ _
        have HB := Lib.hid HT5.out.below
        have hv := HV3.out
        rw [Bool.not_false, Bool.true_or] at hv
        subst hv
        clear HV3 HT5 HS HT HP
        go_wp2_with fail
        exact bodyPost_ret (v := .bool true) (by simp [results, Try.results44, go_sem]) rfl ⟨rfl, HB.out⟩
      · -- both are taken
        obtain ⟨x, cx, hx1, hx2, hx3⟩ := HT.out.1 rfl
        obtain ⟨y, cy, hy1, hy2, hy3⟩ := HT.out.2 rfl
        have ex : za = x := HZA.out.trans hx2
        have ey : zb = y := HZB.out.trans hy2
        subst ex ey
        have hv := HV3.out
        rw [Bool.not_true, Bool.false_or, hx3, hy3] at hv
        have HPA := Lib.hid (HP.out cy cx)
        have HCX := Lib.hid (fun W (hW : OvS w B Q (some ⟨g, o, none⟩) cap n cs M1 M2 W) => at_cl hW.rec_.cls hx1)
        have HCY := Lib.hid (fun W (hW : OvS w B Q (some ⟨g, o, none⟩) cap n cs M1 M2 W) => at_cl hW.rec_.cls hy1)
        have lza : (za : Int) < (n : Int) := by have := (List.getElem?_eq_some_iff.1 hx1).1; have := HN.out; omega
        have lzb : (zb : Int) < (n : Int) := by have := (List.getElem?_eq_some_iff.1 hy1).1; have := HN.out; omega
        have zza : (0 : Int) ≤ (za : Int) := by omega
        have zzb : (0 : Int) ≤ (zb : Int) := by omega
        rw [← hv] at HPA
        have HV4 := Lib.hid hv
        clear hv hx1 hx2 hx3 hy1 hy2 hy3 HV3 HT HP HZA HZB
        obtain ⟨cx0, cx1, cx2, cx3, cx4, cx5, cx6⟩ := cx
        obtain ⟨cy0, cy1, cy2, cy3, cy4, cy5, cy6⟩ := cy
        simp only at HCX HCY HPA
        refine wp_region_held_drew (S := fun W => OvS w B Q (some ⟨g, o, none⟩) cap n cs M1 M2 W) (by kernel_rfl) (HS.out.drew) (fun hHeld => ?_)
        change wpAnyH _ _ _ _ _ 20 _ _ _
        clear hHeld
        have HT5 := Lib.hid (HS.out.drew)
        generalize W9.drew = WE at HT5 ⊢
        refine takeAt 0 59 (oi := _) (v := ?_) rfl rfl (by kernel_rfl) (by kernel_rfl) (by kernel_rfl) (fun _ _ _ h => h) (by rfl) ?_ (HT5.out) ?_
        rotate_left
        · (intro w0 hSw; go_simp; try with_reducible rfl)
        simp only [Act.put, List.setIfInBounds_toArray, List.set_cons_zero, List.set_cons_succ]
        refine takeAt 1 60 (oi := _) (v := ?_) rfl rfl (by kernel_rfl) (by kernel_rfl) (by kernel_rfl) (fun _ _ _ h => h) (by rfl) ?_ (HT5.out) ?_
        rotate_left
        · (intro w0 hSw; go_simp; try with_reducible rfl)
        simp only [Act.put, List.setIfInBounds_toArray, List.set_cons_zero, List.set_cons_succ]
        refine takeAt 2 61 (oi := _) (v := ?_) rfl rfl (by kernel_rfl) (by kernel_rfl) (by kernel_rfl) (fun _ _ _ h => h) (by rfl) ?_ (HT5.out) ?_
        rotate_left
        · (intro w0 hSw; go_simp; try with_reducible rfl)
        simp only [Act.put, List.setIfInBounds_toArray, List.set_cons_zero, List.set_cons_succ]
        refine takeAt 3 62 (oi := _) (v := ?_) rfl rfl (by kernel_rfl) (by kernel_rfl) (by kernel_rfl) (fun _ _ _ h => h) (by rfl) ?_ (HT5.out) ?_
        rotate_left
        · (intro w0 hSw; go_simp; try with_reducible rfl)
        simp only [Act.put, List.setIfInBounds_toArray, List.set_cons_zero, List.set_cons_succ]
        refine takeAt 4 63 (oi := _) (v := ?_) rfl rfl (by kernel_rfl) (by kernel_rfl) (by kernel_rfl) (fun _ _ _ h => h) (by rfl) ?_ (HT5.out) ?_
        rotate_left
        · (intro w0 hSw; go_simp; try with_reducible rfl)
        simp only [Act.put, List.setIfInBounds_toArray, List.set_cons_zero, List.set_cons_succ]
        refine takeAt 5 64 (oi := _) (v := ?_) rfl rfl (by kernel_rfl) (by kernel_rfl) (by kernel_rfl) (fun _ _ _ h => h) (by rfl) ?_ (HT5.out) ?_
        rotate_left
        · (intro w0 hSw; go_simp; try with_reducible rfl)
        simp only [Act.put, List.setIfInBounds_toArray, List.set_cons_zero, List.set_cons_succ]
        refine takeAt 6 65 (oi := _) (v := ?_) rfl rfl (by kernel_rfl) (by kernel_rfl) (by kernel_rfl) (fun _ _ _ h => h) (by rfl) ?_ (HT5.out) ?_
        rotate_left
        · (intro w0 hSw; have r0 := Lies.cell hSw.rec_.rcd 0; simp only [List.getElem?_toArray, List.getElem?_cons_zero] at r0; go_simp; try with_reducible rfl)
        simp only [Act.put, List.setIfInBounds_toArray, List.set_cons_zero, List.set_cons_succ]
        refine takeAt 7 66 (oi := _) (v := ?_) rfl rfl (by kernel_rfl) (by kernel_rfl) (by kernel_rfl) (fun _ _ _ h => h) (by rfl) ?_ (HT5.out) ?_
        rotate_left
        · (intro w0 hSw; go_simp; try with_reducible rfl)
        simp only [Act.put, List.setIfInBounds_toArray, List.set_cons_zero, List.set_cons_succ]
        refine takeAt 8 67 (oi := _) (v := ?_) rfl rfl (by kernel_rfl) (by kernel_rfl) (by kernel_rfl) (fun _ _ _ h => h) (by rfl) ?_ (HT5.out) ?_
        rotate_left
        · (intro w0 hSw; go_simp; try with_reducible rfl)
        simp only [Act.put, List.setIfInBounds_toArray, List.set_cons_zero, List.set_cons_succ]
        refine takeAt 9 68 (oi := _) (v := ?_) rfl rfl (by kernel_rfl) (by kernel_rfl) (by kernel_rfl) (fun _ _ _ h => h) (by rfl) ?_ (HT5.out) ?_
        rotate_left
        · (intro w0 hSw; obtain ⟨d0, d1, d2, d3, d4, d5, d6⟩ := HCY.out w0 hSw; go_simp; try with_reducible rfl)
        simp only [Act.put, List.setIfInBounds_toArray, List.set_cons_zero, List.set_cons_succ]
        refine takeAt 10 69 (oi := _) (v := ?_) rfl rfl (by kernel_rfl) (by kernel_rfl) (by kernel_rfl) (fun _ _ _ h => h) (by rfl) ?_ (HT5.out) ?_
        rotate_left
        · (intro w0 hSw; go_simp; try with_reducible rfl)
        simp only [Act.put, List.setIfInBounds_toArray, List.set_cons_zero, List.set_cons_succ]
        refine takeAt 11 70 (oi := _) (v := ?_) rfl rfl (by kernel_rfl) (by kernel_rfl) (by kernel_rfl) (fun _ _ _ h => h) (by rfl) ?_ (HT5.out) ?_
        rotate_left
        · (intro w0 hSw; go_simp; try with_reducible rfl)
        simp only [Act.put, List.setIfInBounds_toArray, List.set_cons_zero, List.set_cons_succ]
        refine takeAt 12 71 (oi := _) (v := ?_) rfl rfl (by kernel_rfl) (by kernel_rfl) (by kernel_rfl) (fun _ _ _ h => h) (by rfl) ?_ (HT5.out) ?_
        rotate_left
        · (intro w0 hSw; go_simp; try with_reducible rfl)
        simp only [Act.put, List.setIfInBounds_toArray, List.set_cons_zero, List.set_cons_succ]
        refine takeAt 13 72 (oi := _) (v := ?_) rfl rfl (by kernel_rfl) (by kernel_rfl) (by kernel_rfl) (fun _ _ _ h => h) (by rfl) ?_ (HT5.out) ?_
        rotate_left
        · (intro w0 hSw; have r0 := Lies.cell hSw.rec_.rcd 0; simp only [List.getElem?_toArray, List.getElem?_cons_zero] at r0; go_simp; try with_reducible rfl)
        simp only [Act.put, List.setIfInBounds_toArray, List.set_cons_zero, List.set_cons_succ]
        refine takeAt 14 73 (oi := _) (v := ?_) rfl rfl (by kernel_rfl) (by kernel_rfl) (by kernel_rfl) (fun _ _ _ h => h) (by rfl) ?_ (HT5.out) ?_
        rotate_left
        · (intro w0 hSw; go_simp; try with_reducible rfl)
        simp only [Act.put, List.setIfInBounds_toArray, List.set_cons_zero, List.set_cons_succ]
        refine takeAt 15 74 (oi := _) (v := ?_) rfl rfl (by kernel_rfl) (by kernel_rfl) (by kernel_rfl) (fun _ _ _ h => h) (by rfl) ?_ (HT5.out) ?_
        rotate_left
        · (intro w0 hSw; go_simp; try with_reducible rfl)
        simp only [Act.put, List.setIfInBounds_toArray, List.set_cons_zero, List.set_cons_succ]
        refine takeAt 16 75 (oi := _) (v := ?_) rfl rfl (by kernel_rfl) (by kernel_rfl) (by kernel_rfl) (fun _ _ _ h => h) (by rfl) ?_ (HT5.out) ?_
        rotate_left
        · (intro w0 hSw; obtain ⟨d0, d1, d2, d3, d4, d5, d6⟩ := HCX.out w0 hSw; go_simp; try with_reducible rfl)
        simp only [Act.put, List.setIfInBounds_toArray, List.set_cons_zero, List.set_cons_succ]
        refine wpAnyH_ready (rs := [17]) (by kernel_rfl) (by simp) ?_
        refine AllReadyH.cons (o := _) rfl (fun K hK => ?_) AllReadyH.nil
        go_simp
        refine ((HPA.out _).mono ?_)
        rintro e w8 ⟨rfl, hb8⟩
        have HS2 := Lib.hid (HT5.out.next hb8)
        clear hb8 HT5
        have HT5 := HS2
        clear HS2
        refine hK.out _ _ HT5.out (fun _ => ?_)
        clear hK K
        refine takeAt 18 77 (oi := _) (v := ?_) rfl rfl (by kernel_rfl) (by kernel_rfl) (by kernel_rfl) (fun _ _ _ h => h) (by rfl) ?_ (HT5.out) ?_
        rotate_left
        · (intro w0 hSw; go_simp; try with_reducible rfl)
        simp only [Act.put, List.setIfInBounds_toArray, List.set_cons_zero, List.set_cons_succ]
        refine takeAt 19 6 (oi := _) (v := ?_) rfl rfl (by kernel_rfl) (by kernel_rfl) (by kernel_rfl) (fun _ _ _ h => h) (by rfl) ?_ (HT5.out) ?_
        rotate_left
        · (intro w0 hSw; go_simp; try with_reducible rfl)
        simp only [Act.put, List.setIfInBounds_toArray, List.set_cons_zero, List.set_cons_succ]
        refine wpAnyH_done (by kernel_rfl) ?_ _
        have HB := Lib.hid HT5.out.below
        clear HV4 HT5 HS HCX HCY HPA
        go_wp2_with fail
        exact bodyPost_ret (v := .bool V) (by simp [results, Try.results44, go_sem]) rfl ⟨rfl, HB.out⟩
end Go.Proofs.Ythjmncngegchjaa
