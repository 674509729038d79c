/-
  Joined by a program out of: RClos.
-/
import Derived.Test.YthjmncngegchjaaMgAJ
import Derived.Test.YthjmncngegchjaaMgAH
import Derived.Deep.RegionHeld3

/-
  Contracts of the closures of package rows.
-/
namespace Go.Proofs.Ythjmncngegchjaa
open Go.RowKit Go.Maps
set_option maxRecDepth 20000

theorem at_cl {w : World} {B g o cap n : Nat} {cs : List Cl} {k : Nat} {y : Cl} (h : CRd w B (.slice (some ⟨g, o, none⟩) n cap) cs) (hk : cs[k]? = some y) :
    w.cell? ⟨g, o + k * 7, none⟩ = some (.int .i64 y.who) ∧ w.cell? ⟨g, o + k * 7 + 1, none⟩ = some (.int .i64 y.thing) ∧ w.cell? ⟨g, o + k * 7 + 2, none⟩ = some (.int .i64 y.kind) ∧ w.cell? ⟨g, o + k * 7 + 3, none⟩ = some (.int .i64 y.arg) ∧ w.cell? ⟨g, o + k * 7 + 4, none⟩ = some (.int .i64 y.res) ∧ w.cell? ⟨g, o + k * 7 + 5, none⟩ = some (.int .i64 y.frm) ∧ w.cell? ⟨g, o + k * 7 + 6, none⟩ = some (.int .i64 y.til) := by
  obtain ⟨g', o', hA, -, d⟩ := h.cl hk
  injection hA with hA
  injection hA with h1 h2
  subst h1 h2
  exact d
/-- What a closure stands on. -/
structure ClS (w : World) (P C B Q : Nat) (A : Option Addr) (cap n : Nat) (cs : List Cl) (M1 M2 : Nat) (F1 F2 : Int → Option Int) (c : Cl) (W : World) : Prop where
  rec_ : Rec W B Q 1000 A cap n cs M1 M2 F1 F2
  box : Lies W P 56 #[.pointer (some ⟨Q, 0, none⟩)]
  call : Lies W C 49 #[.int .i64 c.who, .int .i64 c.thing, .int .i64 c.kind, .int .i64 c.arg, .int .i64 c.res, .int .i64 c.frm, .int .i64 c.til]
  below : Below w.heap.size w W
section
variable {w : World} {P C B Q : Nat} {A : Option Addr} {cap n : Nat} {cs : List Cl} {M1 M2 : Nat} {F1 F2 : Int → Option Int} {c : Cl} {W w' : World}
theorem ClS.drew (h : ClS w P C B Q A cap n cs M1 M2 F1 F2 c W) : ClS w P C B Q A cap n cs M1 M2 F1 F2 c W.drew := ⟨h.rec_.drew, h.box, h.call, h.below.drew⟩
theorem ClS.next (h : ClS w P C B Q A cap n cs M1 M2 F1 F2 c W) (hb : Below W.heap.size W w') : ClS w P C B Q A cap n cs M1 M2 F1 F2 c w' :=
  ⟨h.rec_.next hb, Lies.below h.box hb h.box.lt, Lies.below h.call hb h.call.lt, h.below.trans (hb.mono h.below.size)⟩
theorem ClS.mk_ {P B Q : Nat} {A : Option Addr} {cap n : Nat} {cs : List Cl} {M1 M2 : Nat} {F1 F2 : Int → Option Int} {c : Cl} {w : World} (h : Rec w B Q 1000 A cap n cs M1 M2 F1 F2) (hp : Lies w P 56 #[.pointer (some ⟨Q, 0, none⟩)]) :
    ClS w P w.heap.size B Q A cap n cs M1 M2 F1 F2 c (w.alloc (.cells #[.int .i64 c.who, .int .i64 c.thing, .int .i64 c.kind, .int .i64 c.arg, .int .i64 c.res, .int .i64 c.frm, .int .i64 c.til] 49)) :=
  ⟨h.next ((Below.refl _ _).alloc (Nat.le_refl _) _), Lies.alloc hp _, Lies.new _ _ _, (Below.refl _ _).alloc (Nat.le_refl _) _⟩
end
set_option maxHeartbeats 8000000 in
theorem rstray_cl {w : World} {P B Q : Nat} {A : Option Addr} {cap n : Nat} {cs : List Cl} {M1 M2 : Nat} (h : Rec w B Q 1000 A cap n cs M1 M2 (numF (pAt cs)) (numF (tAt cs))) (hp : Lies w P 56 #[.pointer (some ⟨Q, 0, none⟩)]) (hn : n = cs.length) (k : Nat) (c : Cl) (hc : -1 ≤ c.res ∧ c.res ≤ 1000) :
    Calls Try.prog 39 #[.int .i64 k, clQ c, .pointer (some ⟨P, 0, none⟩)] w fun e w' => e = .returned (.tuple #[.int .i64 (strayF cs k c).1, .bool (strayF cs k c).2]) ∧ Below w.heap.size w w' := by
  have H0 := Lib.hid (ClS.mk_ (c := c) h hp)
  obtain ⟨Fb, hFb⟩ : ∃ Fb, Fb = strayF cs k c := ⟨_, rfl⟩
  rw [← hFb]
  obtain ⟨fb, fi⟩ := Fb
  obtain ⟨m0, hm0, hmp⟩ := (ClS.mk_ (c := c) h hp).drew.rec_.enq
  have hlk := (hmp.val c.res (by omega) (by omega)).1
  rw [numF_some, numF_get] at hlk
  have HF := Lib.hid hFb
  have HN := Lib.hid hn
  have HFD := Lib.hid (rfound_any c)
  have HPR := Lib.hid (rprec_any c)
  obtain ⟨x0, x1, x2, x3, x4, x5, x6⟩ := c
  simp only [clV] at hlk H0 HF HFD HPR
  clear h hp hmp hm0 hFb hn hc
  obtain ⟨ok, hok⟩ : ∃ ok, ok = (pAt cs x4).isSome := ⟨_, rfl⟩
  rw [← hok] at hlk
  have HOK := Lib.hid hok
  clear hok
  generalize (((pAt cs x4).getD 0 : Nat) : Int) = z at hlk
  have hF : fb = 0 ∧ fi = (!ok && !(x4 == -1)) := by
    have h1 := HF.out
    unfold strayF at h1
    simp only at h1
    rw [← HOK.out] at h1
    injection h1 with h1 h2
    exact ⟨h1, h2⟩
  obtain ⟨rfl, hfi⟩ := hF
  have HFI := Lib.hid hfi
  clear hfi HF HOK HPR
  go_enter Try.func39, Try.ntmps39
  go_upto_region 1 with fail
  change Code.wp _ _ _ _ (w.alloc (.cells #[.int .i64 x0, .int .i64 x1, .int .i64 x2, .int .i64 x3, .int .i64 x4, .int .i64 x5, .int .i64 x6] 49))
  generalize w.alloc (.cells #[.int .i64 x0, .int .i64 x1, .int .i64 x2, .int .i64 x3, .int .i64 x4, .int .i64 x5, .int .i64 x6] 49) = W at H0 hlk ⊢
  obtain ⟨C, hCw⟩ : ∃ C, C = w.heap.size := ⟨_, rfl⟩
  have H1 := Lib.hid (show ClS w P C B Q A cap n cs M1 M2 (numF (pAt cs)) (numF (tAt cs)) ⟨x0, x1, x2, x3, x4, x5, x6⟩ W by rw [hCw]; exact H0.out)
  rw [← hCw]
  clear hCw H0
  have c0 := Lies.cell H1.out.call 0
  have c1 := Lies.cell H1.out.call 1
  have c2 := Lies.cell H1.out.call 2
  have c3 := Lies.cell H1.out.call 3
  have c4 := Lies.cell H1.out.call 4
  have c5 := Lies.cell H1.out.call 5
  have c6 := Lies.cell H1.out.call 6
  simp only [List.getElem?_toArray, List.getElem?_cons_zero, List.getElem?_cons_succ] at c0 c1 c2 c3 c4 c5 c6
  have r1 := Lies.cell H1.out.rec_.rcd 1
  have p0 := Lies.cell H1.out.box 0
  simp only [List.getElem?_toArray, List.getElem?_cons_zero, List.getElem?_cons_succ] at r1 p0
  go_wp2_with fail
  go_region
  clear hlk r1 p0
  cases ok
  · go_wp2_with fail
    refine ((HFD.out _).mono ?_)
    rintro e w2 ⟨rfl, hb2⟩
    have HB := Lib.hid (H1.out.drew.next hb2).below
    clear hb2 H1 c0 c1 c2 c3 c4 c5 c6 HFD
    simp only
    generalize hz : (x4 == -1) = z4 at HFI ⊢
    have hf := HFI.out
    rw [Bool.not_false, Bool.true_and] at hf
    subst hf
    clear HFI hz
    go_wp2_with fail
    exact bodyPost_ret (v := .tuple #[.int .i64 0, .bool (!z4)]) (by simp [results, Try.results39, go_sem]) rfl ⟨rfl, HB.out⟩
  · have hf := HFI.out
    rw [Bool.not_true, Bool.false_and] at hf
    subst hf
    have HB := Lib.hid H1.out.drew.below
    clear HFI H1 c0 c1 c2 c3 c4 c5 c6 HFD
    go_wp2_with fail
    exact bodyPost_ret (v := .tuple #[.int .i64 0, .bool false]) (by simp [results, Try.results39, go_sem]) rfl ⟨rfl, HB.out⟩
set_option maxHeartbeats 8000000 in
theorem rtwice_cl {w : World} {P B Q : Nat} {A : Option Addr} {cap n : Nat} {cs : List Cl} {M1 M2 : Nat} (h : Rec w B Q 1000 A cap n cs M1 M2 (numF (pAt cs)) (numF (tAt cs))) (hp : Lies w P 56 #[.pointer (some ⟨Q, 0, none⟩)]) (hn : n = cs.length) (k : Nat) (c : Cl) (hc : -1 ≤ c.res ∧ c.res ≤ 1000) :
    Calls Try.prog 41 #[.int .i64 k, clQ c, .pointer (some ⟨P, 0, none⟩)] w fun e w' => e = .returned (.tuple #[.int .i64 (twiceF cs k c).1, .bool (twiceF cs k c).2]) ∧ Below w.heap.size w w' := by
  have H0 := Lib.hid (ClS.mk_ (c := c) h hp)
  obtain ⟨Fb, hFb⟩ : ∃ Fb, Fb = twiceF cs k c := ⟨_, rfl⟩
  rw [← hFb]
  obtain ⟨fb, fi⟩ := Fb
  obtain ⟨m0, hm0, hmp⟩ := (ClS.mk_ (c := c) h hp).drew.rec_.deq
  have hlk := (hmp.val c.res (by omega) (by omega)).1
  rw [numF_some, numF_get] at hlk
  have HF := Lib.hid hFb
  have HN := Lib.hid hn
  have HFD := Lib.hid (rfound_any c)
  have HPR := Lib.hid (rprec_any c)
  obtain ⟨x0, x1, x2, x3, x4, x5, x6⟩ := c
  simp only [clV] at hlk H0 HF HFD HPR
  clear h hp hmp hm0 hFb hn hc
  obtain ⟨ok, hok⟩ : ∃ ok, ok = (tAt cs x4).isSome := ⟨_, rfl⟩
  obtain ⟨z, hzz⟩ : ∃ z, z = (tAt cs x4).getD 0 := ⟨_, rfl⟩
  rw [← hok, ← hzz] at hlk
  have hF : fb = (z : Int) ∧ fi = (ok && decide ((z : Int) < (k : Int))) := by
    have h1 := HF.out
    unfold twiceF at h1
    simp only at h1
    rw [← hok, ← hzz] at h1
    injection h1 with h1 h2
    refine ⟨h1, ?_⟩
    rw [h2]
    congr 1
    rw [decide_eq_decide]
    omega
  obtain ⟨rfl, hfi⟩ := hF
  have HFI := Lib.hid hfi
  clear hfi HF hok hzz HPR HFD
  go_enter Try.func41, Try.ntmps41
  go_upto_region 1 with fail
  change Code.wp _ _ _ _ (w.alloc (.cells #[.int .i64 x0, .int .i64 x1, .int .i64 x2, .int .i64 x3, .int .i64 x4, .int .i64 x5, .int .i64 x6] 49))
  generalize w.alloc (.cells #[.int .i64 x0, .int .i64 x1, .int .i64 x2, .int .i64 x3, .int .i64 x4, .int .i64 x5, .int .i64 x6] 49) = W at H0 hlk ⊢
  obtain ⟨C, hCw⟩ : ∃ C, C = w.heap.size := ⟨_, rfl⟩
  have H1 := Lib.hid (show ClS w P C B Q A cap n cs M1 M2 (numF (pAt cs)) (numF (tAt cs)) ⟨x0, x1, x2, x3, x4, x5, x6⟩ W by rw [hCw]; exact H0.out)
  rw [← hCw]
  clear hCw H0
  have c0 := Lies.cell H1.out.call 0
  have c1 := Lies.cell H1.out.call 1
  have c2 := Lies.cell H1.out.call 2
  have c3 := Lies.cell H1.out.call 3
  have c4 := Lies.cell H1.out.call 4
  have c5 := Lies.cell H1.out.call 5
  have c6 := Lies.cell H1.out.call 6
  simp only [List.getElem?_toArray, List.getElem?_cons_zero, List.getElem?_cons_succ] at c0 c1 c2 c3 c4 c5 c6
  have r2 := Lies.cell H1.out.rec_.rcd 2
  have p0 := Lies.cell H1.out.box 0
  simp only [List.getElem?_toArray, List.getElem?_cons_zero, List.getElem?_cons_succ] at r2 p0
  go_wp2_with fail
  go_region
  clear hlk r2 p0
  have HB := Lib.hid H1.out.drew.below
  clear H1 c0 c1 c2 c3 c4 c5 c6
  cases ok
  · have hf := HFI.out
    rw [Bool.false_and] at hf
    subst hf
    clear HFI
    go_wp2_with fail
    exact bodyPost_ret (v := .tuple #[.int .i64 z, .bool false]) (by simp [results, Try.results41, go_sem]) rfl ⟨rfl, HB.out⟩
  · have hf := HFI.out
    rw [Bool.true_and] at hf
    by_cases hzk : (z : Int) < (k : Int)
    · rw [decide_eq_true hzk] at hf
      subst hf
      clear HFI
      go_wp2_with fail
      exact bodyPost_ret (v := .tuple #[.int .i64 z, .bool true]) (by simp [results, Try.results41, go_sem]) rfl ⟨rfl, HB.out⟩
    · have hdz : decide ((z : Int) < (k : Int)) = false := decide_eq_false hzk
      rw [hdz] at hf
      subst hf
      clear HFI
      go_wp2_with fail
      exact bodyPost_ret (v := .tuple #[.int .i64 z, .bool false]) (by simp [results, Try.results41, go_sem]) rfl ⟨rfl, HB.out⟩
set_option maxHeartbeats 8000000 in
theorem rearly_cl {w : World} {P B Q : Nat} {A : Option Addr} {cap n : Nat} {cs : List Cl} {M1 M2 : Nat} (h : Rec w B Q 1000 A cap n cs M1 M2 (numF (pAt cs)) (numF (tAt cs))) (hp : Lies w P 56 #[.pointer (some ⟨Q, 0, none⟩)]) (hn : n = cs.length) (k : Nat) (c : Cl) (hc : -1 ≤ c.res ∧ c.res ≤ 1000) :
    Calls Try.prog 42 #[.int .i64 k, clQ c, .pointer (some ⟨P, 0, none⟩)] w fun e w' => e = .returned (.tuple #[.int .i64 (earlyF cs k c).1, .bool (earlyF cs k c).2]) ∧ Below w.heap.size w w' := by
  have H0 := Lib.hid (ClS.mk_ (c := c) h hp)
  obtain ⟨Fb, hFb⟩ : ∃ Fb, Fb = earlyF cs k c := ⟨_, rfl⟩
  rw [← hFb]
  obtain ⟨fb, fi⟩ := Fb
  obtain ⟨m0, hm0, hmp⟩ := (ClS.mk_ (c := c) h hp).drew.rec_.enq
  have hlk := (hmp.val c.res (by omega) (by omega)).1
  rw [numF_some, numF_get] at hlk
  have HF := Lib.hid hFb
  have HN := Lib.hid hn
  have HFD := Lib.hid (rfound_any c)
  have HPR := Lib.hid (rprec_any c)
  obtain ⟨x0, x1, x2, x3, x4, x5, x6⟩ := c
  simp only [clV] at hlk H0 HF HFD HPR
  clear h hp hmp hm0 hFb hn hc
  obtain ⟨ok, hok⟩ : ∃ ok, ok = (pAt cs x4).isSome := ⟨_, rfl⟩
  obtain ⟨z, hzz⟩ : ∃ z, z = (pAt cs x4).getD 0 := ⟨_, rfl⟩
  rw [← hok, ← hzz] at hlk
  have hF : fb = (z : Int) ∧ fi = (ok && precB ⟨x0, x1, x2, x3, x4, x5, x6⟩ (cs.getD z default)) := by
    have h1 := HF.out
    unfold earlyF pC at h1
    simp only at h1
    rw [← hok, ← hzz] at h1
    injection h1 with h1 h2
    exact ⟨h1, h2⟩
  obtain ⟨rfl, hfi⟩ := hF
  have hzl : ok = true → ∃ y, cs[z]? = some y := by
    intro h1
    rw [hok] at h1
    obtain ⟨i, y, a1, _, a3, _⟩ := p_get h1
    rw [a3] at hzz
    exact ⟨y, by rw [hzz]; exact a1⟩
  have HFI := Lib.hid (And.intro hfi hzl)
  clear hfi HF hok hzz HFD hzl
  go_enter Try.func42, Try.ntmps42
  go_upto_region 1 with fail
  change Code.wp _ _ _ _ (w.alloc (.cells #[.int .i64 x0, .int .i64 x1, .int .i64 x2, .int .i64 x3, .int .i64 x4, .int .i64 x5, .int .i64 x6] 49))
  generalize w.alloc (.cells #[.int .i64 x0, .int .i64 x1, .int .i64 x2, .int .i64 x3, .int .i64 x4, .int .i64 x5, .int .i64 x6] 49) = W at H0 hlk ⊢
  obtain ⟨C, hCw⟩ : ∃ C, C = w.heap.size := ⟨_, rfl⟩
  have H1 := Lib.hid (show ClS w P C B Q A cap n cs M1 M2 (numF (pAt cs)) (numF (tAt cs)) ⟨x0, x1, x2, x3, x4, x5, x6⟩ W by rw [hCw]; exact H0.out)
  rw [← hCw]
  clear hCw H0
  have c0 := Lies.cell H1.out.call 0
  have c1 := Lies.cell H1.out.call 1
  have c2 := Lies.cell H1.out.call 2
  have c3 := Lies.cell H1.out.call 3
  have c4 := Lies.cell H1.out.call 4
  have c5 := Lies.cell H1.out.call 5
  have c6 := Lies.cell H1.out.call 6
  simp only [List.getElem?_toArray, List.getElem?_cons_zero, List.getElem?_cons_succ] at c0 c1 c2 c3 c4 c5 c6
  have r1 := Lies.cell H1.out.rec_.rcd 1
  have p0 := Lies.cell H1.out.box 0
  simp only [List.getElem?_toArray, List.getElem?_cons_zero, List.getElem?_cons_succ] at r1 p0
  go_wp2_with fail
  go_region
  clear hlk r1 p0
  cases ok
  · have hf := HFI.out.1
    rw [Bool.false_and] at hf
    subst hf
    have HB := Lib.hid H1.out.drew.drew
    clear HFI HPR
    clear c0 c1 c2 c3 c4 c5 c6
    generalize hWd : W.drew = Wd
    have H2 := Lib.hid (show ClS w P C B Q A cap n cs M1 M2 (numF (pAt cs)) (numF (tAt cs)) ⟨x0, x1, x2, x3, x4, x5, x6⟩ Wd by rw [← hWd]; exact H1.out.drew)
    clear hWd H1 HB
    go_wp2_with fail
    refine wp_region_held_drew (S := ClS w P C B Q A cap n cs M1 M2 (numF (pAt cs)) (numF (tAt cs)) ⟨x0, x1, x2, x3, x4, x5, x6⟩) (by kernel_rfl) (H2.out.drew) (fun hHeld => ?_)
    change wpAnyH _ _ _ _ _ 15 _ _ _
    clear hHeld
    have HS := Lib.hid (H2.out.drew)
    generalize Wd.drew = WD at HS ⊢
    refine takeAt 0 19 (oi := _) (v := ?_) rfl rfl (by kernel_rfl) (by kernel_rfl) (by kernel_rfl) (fun _ _ _ h => h) (by rfl) ?_ (HS.out) ?_
    rotate_left
    · (intro w0 hSw; go_simp; try with_reducible rfl)
    simp only [Act.put, List.setIfInBounds_toArray, List.set_cons_zero, List.set_cons_succ]
    refine takeAt 1 20 (oi := _) (v := ?_) rfl rfl (by kernel_rfl) (by kernel_rfl) (by kernel_rfl) (fun _ _ _ h => h) (by rfl) ?_ (HS.out) ?_
    rotate_left
    · (intro w0 hSw; go_simp; try with_reducible rfl)
    simp only [Act.put, List.setIfInBounds_toArray, List.set_cons_zero, List.set_cons_succ]
    refine takeAt 2 21 (oi := _) (v := ?_) rfl rfl (by kernel_rfl) (by kernel_rfl) (by kernel_rfl) (fun _ _ _ h => h) (by rfl) ?_ (HS.out) ?_
    rotate_left
    · (intro w0 hSw; go_simp; try with_reducible rfl)
    simp only [Act.put, List.setIfInBounds_toArray, List.set_cons_zero, List.set_cons_succ]
    refine skipAt 3 22 (oi := _) rfl rfl (by kernel_rfl) (by kernel_rfl) (by kernel_rfl) (fun _ _ _ h => h) (by rfl) (HS.out) ?_
    simp only [Act.put, List.setIfInBounds_toArray, List.set_cons_zero, List.set_cons_succ]
    refine skipAt 4 23 (oi := _) rfl rfl (by kernel_rfl) (by kernel_rfl) (by kernel_rfl) (fun _ _ _ h => h) (by rfl) (HS.out) ?_
    simp only [Act.put, List.setIfInBounds_toArray, List.set_cons_zero, List.set_cons_succ]
    refine skipAt 5 24 (oi := _) rfl rfl (by kernel_rfl) (by kernel_rfl) (by kernel_rfl) (fun _ _ _ h => h) (by rfl) (HS.out) ?_
    simp only [Act.put, List.setIfInBounds_toArray, List.set_cons_zero, List.set_cons_succ]
    refine skipAt 6 25 (oi := _) rfl rfl (by kernel_rfl) (by kernel_rfl) (by kernel_rfl) (fun _ _ _ h => h) (by rfl) (HS.out) ?_
    simp only [Act.put, List.setIfInBounds_toArray, List.set_cons_zero, List.set_cons_succ]
    refine skipAt 7 26 (oi := _) rfl rfl (by kernel_rfl) (by kernel_rfl) (by kernel_rfl) (fun _ _ _ h => h) (by rfl) (HS.out) ?_
    simp only [Act.put, List.setIfInBounds_toArray, List.set_cons_zero, List.set_cons_succ]
    refine skipAt 8 27 (oi := _) rfl rfl (by kernel_rfl) (by kernel_rfl) (by kernel_rfl) (fun _ _ _ h => h) (by rfl) (HS.out) ?_
    simp only [Act.put, List.setIfInBounds_toArray, List.set_cons_zero, List.set_cons_succ]
    refine skipAt 9 28 (oi := _) rfl rfl (by kernel_rfl) (by kernel_rfl) (by kernel_rfl) (fun _ _ _ h => h) (by rfl) (HS.out) ?_
    simp only [Act.put, List.setIfInBounds_toArray, List.set_cons_zero, List.set_cons_succ]
    refine skipAt 10 29 (oi := _) rfl rfl (by kernel_rfl) (by kernel_rfl) (by kernel_rfl) (fun _ _ _ h => h) (by rfl) (HS.out) ?_
    simp only [Act.put, List.setIfInBounds_toArray, List.set_cons_zero, List.set_cons_succ]
    refine skipAt 11 30 (oi := _) rfl rfl (by kernel_rfl) (by kernel_rfl) (by kernel_rfl) (fun _ _ _ h => h) (by rfl) (HS.out) ?_
    simp only [Act.put, List.setIfInBounds_toArray, List.set_cons_zero, List.set_cons_succ]
    refine takeAt 12 31 (oi := _) (v := ?_) rfl rfl (by kernel_rfl) (by kernel_rfl) (by kernel_rfl) (fun _ _ _ h => h) (by rfl) ?_ (HS.out) ?_
    rotate_left
    · (intro w0 hSw; go_simp; try with_reducible rfl)
    simp only [Act.put, List.setIfInBounds_toArray, List.set_cons_zero, List.set_cons_succ]
    refine takeAt 13 5 (oi := _) (v := ?_) rfl rfl (by kernel_rfl) (by kernel_rfl) (by kernel_rfl) (fun _ _ _ h => h) (by rfl) ?_ (HS.out) ?_
    rotate_left
    · (intro w0 hSw; go_simp; try with_reducible rfl)
    simp only [Act.put, List.setIfInBounds_toArray, List.set_cons_zero, List.set_cons_succ]
    refine takeAt 14 6 (oi := _) (v := ?_) rfl rfl (by kernel_rfl) (by kernel_rfl) (by kernel_rfl) (fun _ _ _ h => h) (by rfl) ?_ (HS.out) ?_
    rotate_left
    · (intro w0 hSw; go_simp; try with_reducible rfl)
    simp only [Act.put, List.setIfInBounds_toArray, List.set_cons_zero, List.set_cons_succ]
    refine wpAnyH_done (by kernel_rfl) ?_ _
    go_wp2_with fail
    exact bodyPost_ret (v := .tuple #[.int .i64 z, .bool false]) (by simp [results, Try.results42, go_sem]) rfl ⟨rfl, HS.out.below⟩
  · obtain ⟨y, hy⟩ := HFI.out.2 rfl
    have hf := HFI.out.1
    rw [Bool.true_and, List.getD_eq_getElem?_getD, hy, Option.getD_some] at hf
    have hzn : (z : Int) < (n : Int) := by have := (List.getElem?_eq_some_iff.1 hy).1; have := HN.out; omega
    have hz0 : (0 : Int) ≤ (z : Int) := by omega
    obtain ⟨g, o, hA, -⟩ := H1.out.rec_.cls.cl hy
    subst hA
    have hyc := fun (W : World) (h : ClS w P C B Q (some ⟨g, o, none⟩) cap n cs M1 M2 (numF (pAt cs)) (numF (tAt cs)) ⟨x0, x1, x2, x3, x4, x5, x6⟩ W) => at_cl h.rec_.cls hy
    have HPR2 := Lib.hid (fun W => HPR.out y W)
    obtain ⟨y0, y1, y2, y3, y4, y5, y6⟩ := y
    simp only at hyc HPR2
    have HYC := Lib.hid hyc
    have HF2 := Lib.hid hf
    clear hyc hf hy HFI HPR c0 c1 c2 c3 c4 c5 c6
    generalize hWd : W.drew = Wd
    have H2 := Lib.hid (show ClS w P C B Q (some ⟨g, o, none⟩) cap n cs M1 M2 (numF (pAt cs)) (numF (tAt cs)) ⟨x0, x1, x2, x3, x4, x5, x6⟩ Wd by rw [← hWd]; exact H1.out.drew)
    clear hWd H1
    go_wp2_with fail
    refine wp_region_held_drew (S := ClS w P C B Q (some ⟨g, o, none⟩) cap n cs M1 M2 (numF (pAt cs)) (numF (tAt cs)) ⟨x0, x1, x2, x3, x4, x5, x6⟩) (by kernel_rfl) (H2.out.drew) (fun hHeld => ?_)
    change wpAnyH _ _ _ _ _ 15 _ _ _
    clear hHeld
    have HS := Lib.hid (H2.out.drew)
    generalize Wd.drew = WD at HS ⊢
    refine takeAt 0 19 (oi := _) (v := ?_) rfl rfl (by kernel_rfl) (by kernel_rfl) (by kernel_rfl) (fun _ _ _ h => h) (by rfl) ?_ (HS.out) ?_
    rotate_left
    · (intro w0 hSw; go_simp; try with_reducible rfl)
    simp only [Act.put, List.setIfInBounds_toArray, List.set_cons_zero, List.set_cons_succ]
    refine takeAt 1 20 (oi := _) (v := ?_) rfl rfl (by kernel_rfl) (by kernel_rfl) (by kernel_rfl) (fun _ _ _ h => h) (by rfl) ?_ (HS.out) ?_
    rotate_left
    · (intro w0 hSw; go_simp; try with_reducible rfl)
    simp only [Act.put, List.setIfInBounds_toArray, List.set_cons_zero, List.set_cons_succ]
    refine takeAt 2 21 (oi := _) (v := ?_) rfl rfl (by kernel_rfl) (by kernel_rfl) (by kernel_rfl) (fun _ _ _ h => h) (by rfl) ?_ (HS.out) ?_
    rotate_left
    · (intro w0 hSw; go_simp; try with_reducible rfl)
    simp only [Act.put, List.setIfInBounds_toArray, List.set_cons_zero, List.set_cons_succ]
    refine takeAt 3 22 (oi := _) (v := ?_) rfl rfl (by kernel_rfl) (by kernel_rfl) (by kernel_rfl) (fun _ _ _ h => h) (by rfl) ?_ (HS.out) ?_
    rotate_left
    · (intro w0 hSw; have c0 := Lies.cell hSw.call 0; have c1 := Lies.cell hSw.call 1; have c2 := Lies.cell hSw.call 2; have c3 := Lies.cell hSw.call 3; have c4 := Lies.cell hSw.call 4; have c5 := Lies.cell hSw.call 5; have c6 := Lies.cell hSw.call 6; simp only [List.getElem?_toArray, List.getElem?_cons_zero, List.getElem?_cons_succ] at c0 c1 c2 c3 c4 c5 c6; go_simp; try with_reducible rfl)
    simp only [Act.put, List.setIfInBounds_toArray, List.set_cons_zero, List.set_cons_succ]
    refine takeAt 4 23 (oi := _) (v := ?_) rfl rfl (by kernel_rfl) (by kernel_rfl) (by kernel_rfl) (fun _ _ _ h => h) (by rfl) ?_ (HS.out) ?_
    rotate_left
    · (intro w0 hSw; have p0 := Lies.cell hSw.box 0; simp only [List.getElem?_toArray, List.getElem?_cons_zero] at p0; go_simp; try with_reducible rfl)
    simp only [Act.put, List.setIfInBounds_toArray, List.set_cons_zero, List.set_cons_succ]
    refine takeAt 5 24 (oi := _) (v := ?_) rfl rfl (by kernel_rfl) (by kernel_rfl) (by kernel_rfl) (fun _ _ _ h => h) (by rfl) ?_ (HS.out) ?_
    rotate_left
    · (intro w0 hSw; go_simp; try with_reducible rfl)
    simp only [Act.put, List.setIfInBounds_toArray, List.set_cons_zero, List.set_cons_succ]
    refine takeAt 6 25 (oi := _) (v := ?_) rfl rfl (by kernel_rfl) (by kernel_rfl) (by kernel_rfl) (fun _ _ _ h => h) (by rfl) ?_ (HS.out) ?_
    rotate_left
    · (intro w0 hSw; go_simp; try with_reducible rfl)
    simp only [Act.put, List.setIfInBounds_toArray, List.set_cons_zero, List.set_cons_succ]
    refine takeAt 7 26 (oi := _) (v := ?_) rfl rfl (by kernel_rfl) (by kernel_rfl) (by kernel_rfl) (fun _ _ _ h => h) (by rfl) ?_ (HS.out) ?_
    rotate_left
    · (intro w0 hSw; have r0 := Lies.cell hSw.rec_.rcd 0; simp only [List.getElem?_toArray, List.getElem?_cons_zero] at r0; go_simp; try with_reducible rfl)
    simp only [Act.put, List.setIfInBounds_toArray, List.set_cons_zero, List.set_cons_succ]
    refine takeAt 8 27 (oi := _) (v := ?_) rfl rfl (by kernel_rfl) (by kernel_rfl) (by kernel_rfl) (fun _ _ _ h => h) (by rfl) ?_ (HS.out) ?_
    rotate_left
    · (intro w0 hSw; go_simp; try with_reducible rfl)
    simp only [Act.put, List.setIfInBounds_toArray, List.set_cons_zero, List.set_cons_succ]
    refine takeAt 9 28 (oi := _) (v := ?_) rfl rfl (by kernel_rfl) (by kernel_rfl) (by kernel_rfl) (fun _ _ _ h => h) (by rfl) ?_ (HS.out) ?_
    rotate_left
    · (intro w0 hSw; go_simp; try with_reducible rfl)
    simp only [Act.put, List.setIfInBounds_toArray, List.set_cons_zero, List.set_cons_succ]
    refine takeAt 10 29 (oi := _) (v := ?_) rfl rfl (by kernel_rfl) (by kernel_rfl) (by kernel_rfl) (fun _ _ _ h => h) (by rfl) ?_ (HS.out) ?_
    rotate_left
    · (intro w0 hSw; obtain ⟨d0, d1, d2, d3, d4, d5, d6⟩ := HYC.out w0 hSw; go_simp; try with_reducible rfl)
    simp only [Act.put, List.setIfInBounds_toArray, List.set_cons_zero, List.set_cons_succ]
    refine wpAnyH_ready (rs := [11]) (by kernel_rfl) (by simp) ?_
    refine AllReadyH.cons (o := _) rfl (fun K hK => ?_) AllReadyH.nil
    go_simp
    refine ((HPR2.out _).mono ?_)
    rintro e w9 ⟨rfl, hb9⟩
    have HS2 := Lib.hid (HS.out.next hb9)
    clear hb9 HS
    have HS := HS2
    clear HS2
    rw [← HF2.out]
    refine hK.out _ _ HS.out (fun _ => ?_)
    clear hK K
    refine takeAt 12 31 (oi := _) (v := ?_) rfl rfl (by kernel_rfl) (by kernel_rfl) (by kernel_rfl) (fun _ _ _ h => h) (by rfl) ?_ (HS.out) ?_
    rotate_left
    · (intro w0 hSw; go_simp; try with_reducible rfl)
    simp only [Act.put, List.setIfInBounds_toArray, List.set_cons_zero, List.set_cons_succ]
    refine takeAt 13 5 (oi := _) (v := ?_) rfl rfl (by kernel_rfl) (by kernel_rfl) (by kernel_rfl) (fun _ _ _ h => h) (by rfl) ?_ (HS.out) ?_
    rotate_left
    · (intro w0 hSw; go_simp; try with_reducible rfl)
    simp only [Act.put, List.setIfInBounds_toArray, List.set_cons_zero, List.set_cons_succ]
    refine takeAt 14 6 (oi := _) (v := ?_) rfl rfl (by kernel_rfl) (by kernel_rfl) (by kernel_rfl) (fun _ _ _ h => h) (by rfl) ?_ (HS.out) ?_
    rotate_left
    · (intro w0 hSw; go_simp; try with_reducible rfl)
    simp only [Act.put, List.setIfInBounds_toArray, List.set_cons_zero, List.set_cons_succ]
    refine wpAnyH_done (by kernel_rfl) ?_ _
    go_wp2_with fail
    exact bodyPost_ret (v := .tuple #[.int .i64 z, .bool fi]) (by simp [results, Try.results42, go_sem]) rfl ⟨rfl, HS.out.below⟩
end Go.Proofs.Ythjmncngegchjaa
