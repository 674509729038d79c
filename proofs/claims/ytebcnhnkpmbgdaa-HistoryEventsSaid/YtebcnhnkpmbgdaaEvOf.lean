/-
  Contract of the reference's EventsOf.
-/
import Derived.Test.YtebcnhnkpmbgdaaEvOfPure
import Derived.Test.YtebcnhnkpmbgdaaAppEvW
import Derived.Deep.CutRange
namespace Go.Proofs.Ytebcnhnkpmbgdaa
open Go.RowKit
set_option maxRecDepth 20000

/-- The types so far, and the call at hand in block P. -/
structure TyE (w0 : World) (G P : Nat) (x : Cl) (ts : List Int) (wr : World) : Prop where
  below : Below w0.heap.size w0 wr
  ty : Lies wr G 3 (numCs ts)
  cl : Lies wr P 70 (clCs x).toArray
  ge : w0.heap.size ≤ G
  ne : G < P
theorem TyE.next {w0 w w' : World} {G P : Nat} {x : Cl} {ts : List Int} (h : TyE w0 G P x ts w) (hb : Below w.heap.size w w') : TyE w0 G P x ts w' :=
  ⟨h.below.trans (hb.mono h.below.size), Lies.below h.ty hb h.ty.lt, Lies.below h.cl hb h.cl.lt, h.ge, h.ne⟩
theorem TyE.drewN {w0 w : World} {G P : Nat} {x : Cl} {ts : List Int} (h : TyE w0 G P x ts w) (n : Nat) : TyE w0 G P x ts (w.drewN n) :=
  ⟨belowN h.below n, Lies.drewN h.ty n, Lies.drewN h.cl n, h.ge, h.ne⟩
theorem TyE.set_ {w0 w : World} {G P : Nat} {x : Cl} {ts : List Int} (h : TyE w0 G P x ts w) (q : Nat) (t : Int) : TyE w0 G P x (ts.set q t) (w.setCell ⟨G, q, none⟩ (.int .i64 t)) := by
  refine ⟨h.below.setCell h.ge _, ?_, Lies.far h.cl (by have := h.ne; show P ≠ G; omega) _, h.ge, h.ne⟩
  rw [← numCs_set]
  exact Lies.set_ h.ty q _
/-- What the test reads. -/
def InvT (P : Nat) (th kd : Int) (R : World → Prop) (w' : World) : Prop := w'.cell? ⟨P, 1, none⟩ = some (.int .i64 th) ∧ w'.cell? ⟨P, 2, none⟩ = some (.int .i64 kd) ∧ R w'
def EvOfPost (w : World) (o : List Ev × Bool) (e : Ending) (w' : World) : Prop :=
  ∃ v, e = .returned (.tuple #[v, .bool o.2]) ∧ Below w.heap.size w w' ∧ ERd w' w'.heap.size v o.1

set_option maxHeartbeats 8000000 in
theorem evOf_any {v : Value} {l : List Cl} {w : World} (h : CRd w w.heap.size v l) (hsz : l.length * 56 ≤ 140737488355328) :
    Calls Try.prog 12 #[v] w (EvOfPost w (evOfL l)) := by
  obtain ⟨A, c, rfl, m1, m2⟩ := h.is
  unfold maxLen at m2
  have H := Lib.hid h
  obtain ⟨L, hL⟩ : ∃ L, L = l.length := ⟨_, rfl⟩
  rw [← hL]
  rw [← hL] at m1 hsz
  have HL := Lib.hid hL
  clear h hL
  have er : evOfL l = if oneUp l (placeN l) = true then (gath l (placeN l), decide ((callsOf (typesRL l) (gath l (placeN l))).2.2 = 0 ∧ (callsOf (typesRL l) (gath l (placeN l))).1 = l)) else ([], false) := rfl
  generalize evOfL l = out at er ⊢
  have HE := Lib.hid er
  clear er
  have hty0 : Lies (w.alloc (.cells (numCs [1, 1, 1, 1]) 3)) w.heap.size 3 (numCs (typesRL (l.take 0))) := Lies.new _ _ _
  have hbl0 : Below w.heap.size w (w.alloc (.cells (numCs [1, 1, 1, 1]) 3)) := (Below.refl _ _).alloc (Nat.le_refl _) _
  have H0 := Lib.hid (And.intro hbl0 hty0)
  clear hty0 hbl0
  go_enter Try.func12, Try.ntmps12
  go_wp2_with fail
  have h0 := H0.out
  clear H0
  change Code.wp _ _ _ _ (w.alloc (.cells (numCs [1, 1, 1, 1]) 3))
  generalize w.alloc (.cells (numCs [1, 1, 1, 1]) 3) = W0 at h0 ⊢
  obtain ⟨G, hG⟩ : ∃ G, G = w.heap.size := ⟨_, rfl⟩
  go_loopw [5, 22] (fun n i wr => ∃ k : Nat, k ≤ L ∧ i = .int .i64 k ∧ n = .int .i64 ((L + ansUp (l.take k) : Nat) : Int) ∧ Below w.heap.size w wr ∧ Lies wr w.heap.size 3 (numCs (typesRL (l.take k)))) (fun _ i _ => L - (intOf i).toNat)
  case atStart => exact ⟨0, by omega, rfl, by simp [ansUp], h0⟩
  case round =>
    clear h0
    obtain ⟨k, hk, rfl, rfl, hb, ht⟩ := hrel
    by_cases hkL : k < L
    · obtain ⟨x, hx⟩ : ∃ x, l[k]? = some x := ⟨_, List.getElem?_eq_getElem (by rw [← HL.out]; exact hkL)⟩
      have h' := H.out.below hb
      rw [← HL.out] at h'
      obtain ⟨g, o, rfl, -, d0, d1, d2, d3, d4, d5, d6⟩ := h'.cl hx
      have i1 : (0 : Int) ≤ (k : Int) := by omega
      have i2 : (k : Int) < (L : Int) := by omega
      have han := ansUp_take hx
      have hale : ansUp (l.take k) ≤ L := by
        have h1 := ansUp_le (l.take k)
        have h2 : (l.take k).length ≤ k := List.length_take_le _ _
        omega
      have HR := Lib.hid (typesRL_take hx)
      have HLN := Lib.hid (typesRL_len (l.take k))
      generalize ansUp (l.take k) = an at han hale ⊢
      generalize typesRL (l.take k) = ts at ht HR HLN
      generalize hE2 : ansUp (l.take (k + 1)) = an' at han ⊢
      have HE2 := Lib.hid hE2
      clear hE2
      have hTE : TyE w w.heap.size wr.heap.size x ts (wr.alloc (.cells (clCs x).toArray 70)) :=
        ⟨hb.alloc hb.size _, Lies.alloc ht _, Lies.new _ _ _, Nat.le_refl _, ht.lt⟩
      obtain ⟨x0, x1, x2, x3, x4, x5, x6⟩ := x
      have HT0 := Lib.hid hTE
      have HAN := Lib.hid han
      clear h' hx hb ht hTE han
      go_upto_if 28 with fail
      go_cut [5, 22] from 22 to 50 (fun n i wx => n = .int .i64 ((L + an' : Nat) : Int) ∧ i = .int .i64 (k : Int) ∧ TyE w w.heap.size wr.heap.size ⟨x0, x1, x2, x3, x4, x5, x6⟩ ts wx)
      case first =>
        have han := HAN.out
        by_cases t1 : x6 = -1
        · rw [if_neg (by exact fun h => h t1)] at han
          have hz : (x6 != -1) = false := by rw [bne_eq_false_iff_eq]; exact t1
          have HA2 := Lib.hid han
          clear t1 han
          go_wp2_with fail
          go_meet
          exact ⟨by rw [HA2.out]; rfl, rfl, HT0.out⟩
        · rw [if_pos (by exact t1)] at han
          have hz : (x6 != -1) = true := by rw [bne_iff_ne]; exact t1
          have HA2 := Lib.hid han
          clear t1 han
          go_wp2_with fail
          go_meet
          exact ⟨by rw [HA2.out]; go_num, rfl, HT0.out⟩
      case rest =>
        obtain ⟨rfl, rfl, hT⟩ := hcut
        obtain ⟨P, hP⟩ : ∃ P, P = wr.heap.size := ⟨_, rfl⟩
        rw [← hP] at hT ⊢
        clear HT0 d0 d1 d2 d3 d4 d5 d6 hP
        go_wp2_with fail
        go_loopw [8] (fun t wr => ∃ m : Nat, 1 ≤ m ∧ m ≤ 6 ∧ t = .int .i64 m ∧ TyE w w.heap.size P ⟨x0, x1, x2, x3, x4, x5, x6⟩ (tyIn ts ⟨x0, x1, x2, x3, x4, x5, x6⟩ m) wr) (fun t _ => 6 - (intOf t).toNat)
        case atStart => exact ⟨1, by omega, by omega, rfl, by rw [show ((1 : Nat) : Int) = 1 from rfl, tyIn_one]; exact hT⟩
        case round =>
          clear hT
          obtain ⟨m, hm1, hm6, rfl, hT⟩ := hrel
          by_cases hm : m ≤ 5
          · have hm5 : (m : Int) ≤ 5 := by omega
            have hmi : (1 : Int) ≤ (m : Int) := by omega
            have HKS := Lib.hid (fun (ts' : List Int) w' (h : TyE w w.heap.size P ⟨x0, x1, x2, x3, x4, x5, x6⟩ ts' w') => (⟨Lies.cell h.cl 1, Lies.cell h.cl 2, h⟩ : w'.cell? ⟨P, 1, none⟩ = some (.int .i64 x1) ∧ w'.cell? ⟨P, 2, none⟩ = some (.int .i64 x2) ∧ TyE w w.heap.size P ⟨x0, x1, x2, x3, x4, x5, x6⟩ ts' w'))
            have HKS := Lib.hid (HKS.out (tyIn ts ⟨x0, x1, x2, x3, x4, x5, x6⟩ m))
            have HTL := Lib.hid (show (tyIn ts ⟨x0, x1, x2, x3, x4, x5, x6⟩ m).length = 4 by rw [tyIn_len]; exact HLN.out)
            have HSK := Lib.hid (fun h => tyIn_skip (ts := ts) (c := ⟨x0, x1, x2, x3, x4, x5, x6⟩) (t := (m : Int)) hmi h)
            have HSE := Lib.hid (fun h1 h2 => tyIn_set (ts := ts) (c := ⟨x0, x1, x2, x3, x4, x5, x6⟩) (t := (m : Int)) h1 hmi h2)
            generalize tyIn ts ⟨x0, x1, x2, x3, x4, x5, x6⟩ (m : Int) = ts' at hT HKS HTL HSK HSE
            have HT := Lib.hid hT
            have HBT := Lib.hid (fun W : World => btwn_any x1 0 3 W)
            have HCN := Lib.hid (fun (w' : World) (v : Value) (h : IRd w' w'.heap.size v (kindsL (m : Int))) => contains_any h (kindsL_len (m : Int)) x2)
            have hkf := kinds_fit (m : Int) x2
            clear hT hmi
            cases c1 : btw 0 x1 3
            · have HC := Lib.hid c1
              rw [c1] at HBT
              clear c1 hkf
              go_wp2_with fail
              refine wp_region_held_drew (S := InvT P x1 x2 (TyE w w.heap.size P ⟨x0, x1, x2, x3, x4, x5, x6⟩ ts')) (by kernel_rfl) (HKS.out _ (HT.out.drewN 1)) (fun hHeld => ?_)
              iterate 2 (
                refine takeNext 10 35 (oi := _) (v := ?_) rfl rfl (by kernel_rfl) (by kernel_rfl) (by kernel_rfl) (fun _ _ _ h => h) (by rfl) ?_ hHeld ?_
                rotate_left
                · (intro w hSw; obtain ⟨s0, s1, s2⟩ := hSw; go_simp; try with_reducible rfl)
                simp only [Act.put, List.setIfInBounds_toArray])
              refine wpAnyH_ready (rs := [2]) (by kernel_rfl) (by simp) ?_
              refine AllReadyH.cons (o := _) rfl (fun K hK => ?_) AllReadyH.nil
              go_simp
              refine (HBT.out _).mono ?_
              rintro e w1 ⟨rfl, rfl⟩
              refine hK.out _ _ (HKS.out _ (HT.out.drewN 1)) (fun hH1 => ?_)
              clear hK K hHeld
              iterate 1 (
                refine takeNext 10 35 (oi := _) (v := ?_) rfl rfl (by kernel_rfl) (by kernel_rfl) (by kernel_rfl) (fun _ _ _ h => h) (by rfl) ?_ hH1 ?_
                rotate_left
                · (intro w hSw; obtain ⟨s0, s1, s2⟩ := hSw; go_simp; try with_reducible rfl)
                simp only [Act.put, List.setIfInBounds_toArray])
              iterate 5 (
                refine skipNext 10 35 (oi := _) rfl rfl (by kernel_rfl) (by kernel_rfl) (by kernel_rfl) (fun _ _ _ h => h) (by kernel_rfl) hH1 ?_
                simp only [Act.put, List.setIfInBounds_toArray])
              iterate 1 (
                refine takeNext 10 35 (oi := _) (v := ?_) rfl rfl (by kernel_rfl) (by kernel_rfl) (by kernel_rfl) (fun _ _ _ h => h) (by rfl) ?_ hH1 ?_
                rotate_left
                · (intro w hSw; obtain ⟨s0, s1, s2⟩ := hSw; go_simp; try with_reducible rfl)
                simp only [Act.put, List.setIfInBounds_toArray])
              refine wpAnyH_done (by kernel_rfl) ?_ _
              clear hH1
              go_wp2_with fail
              go_roundw
              case rel => exact ⟨m + 1, by omega, by omega, by go_num, by rw [show (((m + 1 : Nat) : Int)) = (m : Int) + 1 from rfl, HSK.out (Or.inl (btw_not.1 HC.out))]; exact HT.out.drewN 1⟩
              case measure => simp [intOf]; omega
            · have HC := Lib.hid c1
              rw [c1] at HBT
              clear c1
              cases hf : fitsB (m : Int) x2
              · have HF := Lib.hid hf
                rw [hkf, hf] at HCN
                clear hkf hf
                go_wp2_with fail
                refine wp_region_held_drew (S := InvT P x1 x2 (TyE w w.heap.size P ⟨x0, x1, x2, x3, x4, x5, x6⟩ ts')) (by kernel_rfl) (HKS.out _ (HT.out.drewN 1)) (fun hHeld => ?_)
                iterate 2 (
                  refine takeNext 10 35 (oi := _) (v := ?_) rfl rfl (by kernel_rfl) (by kernel_rfl) (by kernel_rfl) (fun _ _ _ h => h) (by rfl) ?_ hHeld ?_
                  rotate_left
                  · (intro w hSw; obtain ⟨s0, s1, s2⟩ := hSw; go_simp; try with_reducible rfl)
                  simp only [Act.put, List.setIfInBounds_toArray])
                refine wpAnyH_ready (rs := [2]) (by kernel_rfl) (by simp) ?_
                refine AllReadyH.cons (o := _) rfl (fun K hK => ?_) AllReadyH.nil
                go_simp
                refine (HBT.out _).mono ?_
                rintro e w1 ⟨rfl, rfl⟩
                refine hK.out _ _ (HKS.out _ (HT.out.drewN 1)) (fun hH1 => ?_)
                clear hK K hHeld
                iterate 1 (
                  refine takeNext 10 35 (oi := _) (v := ?_) rfl rfl (by kernel_rfl) (by kernel_rfl) (by kernel_rfl) (fun _ _ _ h => h) (by rfl) ?_ hH1 ?_
                  rotate_left
                  · (intro w hSw; obtain ⟨s0, s1, s2⟩ := hSw; go_simp; try with_reducible rfl)
                  simp only [Act.put, List.setIfInBounds_toArray])
                iterate 1 (
                  refine takeNext 10 35 (oi := _) (v := ?_) rfl rfl (by kernel_rfl) (by kernel_rfl) (by kernel_rfl) (fun _ _ _ h => h) (by kernel_rfl) ?_ hH1 ?_
                  rotate_left
                  · (intro w hSw; obtain ⟨s0, s1, s2⟩ := hSw; go_simp; try with_reducible rfl)
                  simp only [Act.put, List.setIfInBounds_toArray])
                refine takeAt 6 41 (oi := _) (v := ?_) rfl rfl (by kernel_rfl) (by kernel_rfl) (by kernel_rfl) (fun _ _ _ h => h) (by kernel_rfl) ?_ hH1 ?_
                rotate_left
                · (intro w hSw; obtain ⟨s0, s1, s2⟩ := hSw; go_simp; try with_reducible rfl)
                simp only [Act.put, List.setIfInBounds_toArray]
                refine takeAt 7 42 (oi := _) (v := ?_) rfl rfl (by kernel_rfl) (by kernel_rfl) (by kernel_rfl) (fun _ _ _ h => h) (by kernel_rfl) ?_ hH1 ?_
                rotate_left
                · (intro w hSw; obtain ⟨s0, s1, s2⟩ := hSw; go_simp; try with_reducible rfl)
                simp only [Act.put, List.setIfInBounds_toArray]
                refine wpAnyH_ready (rs := [5]) (by kernel_rfl) (by simp) ?_
                refine AllReadyH.cons (o := _) rfl (fun K hK => ?_) AllReadyH.nil
                go_simp
                refine (kinds_any _ _).mono ?_
                rintro e w1 ⟨kv, rfl, hk1, hb1⟩
                have HN1 := Lib.hid (And.intro hk1 ((HT.out.drewN 1).next hb1))
                clear hk1 hb1
                refine hK.out _ _ (HKS.out _ HN1.out.2) (fun hH2 => ?_)
                clear hK K hH1
                refine wpAnyH_ready (rs := [8]) (by kernel_rfl) (by simp) ?_
                refine AllReadyH.cons (o := _) rfl (fun K hK => ?_) AllReadyH.nil
                go_simp
                refine (HCN.out _ _ HN1.out.1).mono ?_
                rintro e w2 ⟨rfl, hb2⟩
                have HN2 := Lib.hid (HN1.out.2.next hb2)
                clear hb2
                refine hK.out _ _ (HKS.out _ HN2.out) (fun hH3 => ?_)
                clear hK K hH2
                iterate 1 (
                  refine takeNext 10 35 (oi := _) (v := ?_) rfl rfl (by kernel_rfl) (by kernel_rfl) (by kernel_rfl) (fun _ _ _ h => h) (by rfl) ?_ hH3 ?_
                  rotate_left
                  · (intro w hSw; obtain ⟨s0, s1, s2⟩ := hSw; go_simp; try with_reducible rfl)
                  simp only [Act.put, List.setIfInBounds_toArray])
                refine wpAnyH_done (by kernel_rfl) ?_ _
                clear hH3
                go_wp2_with fail
                go_roundw
                case rel => exact ⟨m + 1, by omega, by omega, by go_num, by rw [show (((m + 1 : Nat) : Int)) = (m : Int) + 1 from rfl, HSK.out (Or.inr HF.out)]; exact HN2.out⟩
                case measure => simp [intOf]; omega
              · have HF := Lib.hid hf
                rw [hkf, hf] at HCN
                clear hkf hf
                go_wp2_with fail
                refine wp_region_held_drew (S := InvT P x1 x2 (TyE w w.heap.size P ⟨x0, x1, x2, x3, x4, x5, x6⟩ ts')) (by kernel_rfl) (HKS.out _ (HT.out.drewN 1)) (fun hHeld => ?_)
                iterate 2 (
                  refine takeNext 10 35 (oi := _) (v := ?_) rfl rfl (by kernel_rfl) (by kernel_rfl) (by kernel_rfl) (fun _ _ _ h => h) (by rfl) ?_ hHeld ?_
                  rotate_left
                  · (intro w hSw; obtain ⟨s0, s1, s2⟩ := hSw; go_simp; try with_reducible rfl)
                  simp only [Act.put, List.setIfInBounds_toArray])
                refine wpAnyH_ready (rs := [2]) (by kernel_rfl) (by simp) ?_
                refine AllReadyH.cons (o := _) rfl (fun K hK => ?_) AllReadyH.nil
                go_simp
                refine (HBT.out _).mono ?_
                rintro e w1 ⟨rfl, rfl⟩
                refine hK.out _ _ (HKS.out _ (HT.out.drewN 1)) (fun hH1 => ?_)
                clear hK K hHeld
                iterate 1 (
                  refine takeNext 10 35 (oi := _) (v := ?_) rfl rfl (by kernel_rfl) (by kernel_rfl) (by kernel_rfl) (fun _ _ _ h => h) (by rfl) ?_ hH1 ?_
                  rotate_left
                  · (intro w hSw; obtain ⟨s0, s1, s2⟩ := hSw; go_simp; try with_reducible rfl)
                  simp only [Act.put, List.setIfInBounds_toArray])
                iterate 1 (
                  refine takeNext 10 35 (oi := _) (v := ?_) rfl rfl (by kernel_rfl) (by kernel_rfl) (by kernel_rfl) (fun _ _ _ h => h) (by kernel_rfl) ?_ hH1 ?_
                  rotate_left
                  · (intro w hSw; obtain ⟨s0, s1, s2⟩ := hSw; go_simp; try with_reducible rfl)
                  simp only [Act.put, List.setIfInBounds_toArray])
                refine takeAt 6 41 (oi := _) (v := ?_) rfl rfl (by kernel_rfl) (by kernel_rfl) (by kernel_rfl) (fun _ _ _ h => h) (by kernel_rfl) ?_ hH1 ?_
                rotate_left
                · (intro w hSw; obtain ⟨s0, s1, s2⟩ := hSw; go_simp; try with_reducible rfl)
                simp only [Act.put, List.setIfInBounds_toArray]
                refine takeAt 7 42 (oi := _) (v := ?_) rfl rfl (by kernel_rfl) (by kernel_rfl) (by kernel_rfl) (fun _ _ _ h => h) (by kernel_rfl) ?_ hH1 ?_
                rotate_left
                · (intro w hSw; obtain ⟨s0, s1, s2⟩ := hSw; go_simp; try with_reducible rfl)
                simp only [Act.put, List.setIfInBounds_toArray]
                refine wpAnyH_ready (rs := [5]) (by kernel_rfl) (by simp) ?_
                refine AllReadyH.cons (o := _) rfl (fun K hK => ?_) AllReadyH.nil
                go_simp
                refine (kinds_any _ _).mono ?_
                rintro e w1 ⟨kv, rfl, hk1, hb1⟩
                have HN1 := Lib.hid (And.intro hk1 ((HT.out.drewN 1).next hb1))
                clear hk1 hb1
                refine hK.out _ _ (HKS.out _ HN1.out.2) (fun hH2 => ?_)
                clear hK K hH1
                refine wpAnyH_ready (rs := [8]) (by kernel_rfl) (by simp) ?_
                refine AllReadyH.cons (o := _) rfl (fun K hK => ?_) AllReadyH.nil
                go_simp
                refine (HCN.out _ _ HN1.out.1).mono ?_
                rintro e w2 ⟨rfl, hb2⟩
                have HN2 := Lib.hid (HN1.out.2.next hb2)
                clear hb2
                refine hK.out _ _ (HKS.out _ HN2.out) (fun hH3 => ?_)
                clear hK K hH2
                iterate 1 (
                  refine takeNext 10 35 (oi := _) (v := ?_) rfl rfl (by kernel_rfl) (by kernel_rfl) (by kernel_rfl) (fun _ _ _ h => h) (by rfl) ?_ hH3 ?_
                  rotate_left
                  · (intro w hSw; obtain ⟨s0, s1, s2⟩ := hSw; go_simp; try with_reducible rfl)
                  simp only [Act.put, List.setIfInBounds_toArray])
                refine wpAnyH_done (by kernel_rfl) ?_ _
                clear hH3
                have hc := btw_iff.1 HC.out
                obtain ⟨q, rfl⟩ : ∃ q : Nat, x1 = (q : Int) := ⟨x1.toNat, by omega⟩
                have hq1 : (0 : Int) ≤ (q : Int) := by omega
                have hq2 : (q : Int) < 4 := by omega
                have e1 : w2.cell? ⟨P, 1, none⟩ = some (.int .i64 (q : Int)) := Lies.cell HN2.out.cl 1
                have e2 := Lies.frozen HN2.out.ty q
                obtain ⟨tq, htq⟩ : ∃ tq, ts'[q]? = some tq := ⟨_, List.getElem?_eq_getElem (by rw [HTL.out]; omega)⟩
                have e3 : w2.cell? ⟨w.heap.size, q, none⟩ = some (.int .i64 tq) := by rw [Lies.cell HN2.out.ty]; simp [numCs, htq]
                clear htq
                have hPw := HN2.out.cl.lt
                have hGw := HN2.out.ty.lt
                have hse := HSE.out (by exact hc) HF.out
                simp only [Int.toNat_natCast] at hse
                have HSS := Lib.hid hse
                have HN3 := Lib.hid (HN2.out.set_ q (m : Int))
                clear hc hse
                go_wp2_with fail
                go_roundw
                case rel => exact ⟨m + 1, by omega, by omega, by go_num, by rw [show (((m + 1 : Nat) : Int)) = (m : Int) + 1 from rfl, HSS.out]; exact HN3.out⟩
                case measure => simp [intOf]; omega
          · obtain rfl : m = 6 := by omega
            have hm7 : ¬ ((6 : Nat) : Int) ≤ 5 := by omega
            have HT := Lib.hid hT
            clear hT
            go_wp2_with fail
            go_roundw
            case rel =>
              have hT := HT.out
              rw [show ((6 : Nat) : Int) = 6 from rfl, tyIn_six] at hT
              refine ⟨k + 1, by omega, by go_num, by rw [HE2.out, Int.natCast_add], hT.below, ?_⟩
              rw [HR.out]
              exact hT.ty
            case measure => simp [intOf]; omega
    · obtain rfl : k = L := by omega
      have htk : l.take k = l := by rw [HL.out, List.take_length]
      have hale := ansUp_le l
      rw [htk] at ht ⊢
      obtain ⟨n, hn⟩ : ∃ n, n = k + ansUp l := ⟨_, rfl⟩
      rw [← hn]
      have hn2 : n ≤ 2 * k := by rw [hn, HL.out]; omega
      have HN := Lib.hid (show n = placeN l by rw [hn, HL.out]; rfl)
      have HTK := Lib.hid htk
      have HB1 := Lib.hid (And.intro hb ht)
      obtain ⟨w1, rfl⟩ : ∃ w1 : World, w1 = wr := ⟨_, rfl⟩
      clear htk hale hn hb ht
      go_wp2_with fail
      go_loopw [9, 52] (fun v i wr => ∃ (p : Nat) (v0 : Value), p ≤ n ∧ i = .int .i64 p ∧ v0 = v ∧ oneUp l p = true ∧ EOwn wr w1.heap.size v0 (gath l p) ∧ Below w1.heap.size w1 wr) (fun _ i _ => n - (intOf i).toNat)
      case atStart => exact ⟨0, _, by omega, rfl, rfl, rfl, World.ownsRow_nil _ _ _ _, Below.refl _ _⟩
      case round =>
        obtain ⟨p, v0, hp, rfl, rfl, hone, ho, hb⟩ := hrel
        have HO := Lib.hid (And.intro hone (And.intro ho hb))
        clear hone ho hb
        by_cases hpn : p < n
        · have p1 : (p : Int) < (n : Int) := by omega
          go_wp2_with fail
          go_loopw [9, 11, 57] (fun v f i wr => ∃ (j : Nat) (v0 : Value), j ≤ k ∧ i = .int .i64 j ∧ v0 = v ∧ f = .int .i64 ((hits (l.take j) p).length : Nat) ∧ EOwn wr w1.heap.size v0 (gath l p ++ hits (l.take j) p) ∧ Below w1.heap.size w1 wr) (fun _ _ i _ => k - (intOf i).toNat)
          case atStart => exact ⟨0, _, by omega, rfl, rfl, rfl, by rw [List.take_zero, show hits [] p = [] from rfl, List.append_nil]; exact HO.out.2.1, HO.out.2.2⟩
          case round =>
            obtain ⟨j, v1, hj, rfl, rfl, rfl, ho, hb⟩ := hrel
            by_cases hjk : j < k
            · obtain ⟨x, hx⟩ : ∃ x, l[j]? = some x := ⟨_, List.getElem?_eq_getElem (by rw [← HL.out]; exact hjk)⟩
              have hbw := HB1.out.1.trans (hb.mono HB1.out.1.size)
              have h' := H.out.below hbw
              rw [← HL.out] at h'
              obtain ⟨g, o, rfl, -, d0, d1, d2, d3, d4, d5, d6⟩ := h'.cl hx
              have i1 : (0 : Int) ≤ (j : Int) := by omega
              have i2 : (j : Int) < (k : Int) := by omega
              have hht := hits_take hx p
              have hpl := part_len l p (j + 1)
              have hpl0 := part_len l p j
              rw [← HL.out] at hpl hpl0
              have hf2 : (hits (l.take j) p).length ≤ 2 * k := by rw [List.length_append] at hpl0; omega
              have HY : Hid (gath l p ++ hits (l.take (j + 1)) p = (gath l p ++ hits (l.take j) p) ++ hitOne x p) := Lib.hid (by rw [hht, List.append_assoc])
              have HF : Hid ((hits (l.take (j + 1)) p).length = (hits (l.take j) p).length + (hitOne x p).length) := Lib.hid (by rw [hht, List.length_append])
              have hlen : (gath l p ++ hits (l.take j) p).length + (hitOne x p).length ≤ 2 * k := by rw [HY.out, List.length_append] at hpl; exact hpl
              have HLE := Lib.hid hlen
              generalize gath l p ++ hits (l.take j) p = ys at ho HY HLE
              generalize (hits (l.take j) p).length = f0 at hf2 HF ⊢
              obtain ⟨x0, x1, x2, x3, x4, x5, x6⟩ := x
              have hbs := hb.size
              have hne := EOwn.ne ho (Nat.le_refl _)
              have HOW := Lib.hid (And.intro ho hb)
              have HNE := Lib.hid hne
              have hHit : hitOne ⟨x0, x1, x2, x3, x4, x5, x6⟩ p = (if x5 = (p : Int) then [⟨x0, x1, x2, x3⟩] else []) ++ (if x6 = (p : Int) then [⟨x0, x1, 0, x4⟩] else []) := rfl
              generalize hitOne ⟨x0, x1, x2, x3, x4, x5, x6⟩ p = hh at HY HF HLE hHit
              have HAL := Lib.hid (hb.alloc hbs (.cells (clCs ⟨x0, x1, x2, x3, x4, x5, x6⟩).toArray 70))
              have HLP := Lib.hid (Lies.new wr 70 (clCs ⟨x0, x1, x2, x3, x4, x5, x6⟩).toArray)
              have HOA := Lib.hid (ho.alloc (.cells (clCs ⟨x0, x1, x2, x3, x4, x5, x6⟩).toArray 70))
              clear h' hx hbw hht hpl hpl0 hlen ho hb hne
              by_cases t1 : x5 = (p : Int)
              · rw [if_pos t1] at hHit
                have hz1 : (x5 == (p : Int)) = true := by rw [beq_iff_eq]; exact t1
                by_cases t2 : x6 = (p : Int)
                · rw [if_pos t2] at hHit
                  have hz2 : (x6 == (p : Int)) = true := by rw [beq_iff_eq]; exact t2
                  have HH := Lib.hid hHit
                  have hl2 := HLE.out
                  rw [hHit] at hl2
                  simp only [List.length_append, List.length_cons, List.length_nil] at hl2
                  have HL1 := Lib.hid (show ((ys.length + 1) + (ys.length + 1) / 4 + 192) * 32 ≤ 281474976710656 by omega)
                  have HL2 := Lib.hid (show (((ys ++ [(⟨x0, x1, x2, x3⟩ : Ev)]).length + 1) + ((ys ++ [(⟨x0, x1, x2, x3⟩ : Ev)]).length + 1) / 4 + 192) * 32 ≤ 281474976710656 by rw [List.length_append]; simp only [List.length_cons, List.length_nil]; omega)
                  clear t1 t2 hHit hl2
                  have HO1 := Lib.hid (HOA.out.alloc (.cells (evCs ⟨x0, x1, x2, x3⟩).toArray 39))
                  have HW1 := Lib.hid (HAL.out.alloc (by simp; omega) (.cells (evCs ⟨x0, x1, x2, x3⟩).toArray 39))
                  have HLP1 := Lib.hid (Lies.alloc HLP.out (.cells (evCs ⟨x0, x1, x2, x3⟩).toArray 39))
                  have HNC : Hid (∀ (j : Nat) (u : Value), (evCs ⟨x0, x1, x2, x3⟩)[j]? = some u → ((wr.alloc (.cells (clCs ⟨x0, x1, x2, x3, x4, x5, x6⟩).toArray 70)).alloc (.cells (evCs ⟨x0, x1, x2, x3⟩).toArray 39)).cell? ⟨wr.heap.size + 1, j, none⟩ = some u) := Lib.hid (by have := new_cells (wr.alloc (.cells (clCs ⟨x0, x1, x2, x3, x4, x5, x6⟩).toArray 70)) 39 (evCs ⟨x0, x1, x2, x3⟩); rwa [World.size_alloc] at this)
                  go_wp2_with (at_builtin; first | (refine wpList_app_evW rfl (.tmp 65) (.tmp 75) rfl w1.heap.size (wr.heap.size + 1) _ ys ⟨x0, x1, x2, x3⟩ rfl rfl HO1.out HNC.out HL1.out HW1.out.size ?_; intro v5 w5 ho5 hb5 hg5; have HN5 := Lib.hid (And.intro ho5 (HW1.out.trans hb5)); have hl5 := Lies.grown HLP1.out hg5 HNE.out; have q0 : w5.cell? ⟨wr.heap.size, 0, none⟩ = some (.int .i64 x0) := Lies.cell hl5 0; have q1 : w5.cell? ⟨wr.heap.size, 1, none⟩ = some (.int .i64 x1) := Lies.cell hl5 1; have q4 : w5.cell? ⟨wr.heap.size, 4, none⟩ = some (.int .i64 x4) := Lies.cell hl5 4; have q6 : w5.cell? ⟨wr.heap.size, 6, none⟩ = some (.int .i64 x6) := Lies.cell hl5 6; clear ho5 hb5 hg5 hl5) | (refine wpList_app_evW rfl (.tmp 83) (.tmp 91) rfl w1.heap.size w5.heap.size _ (ys ++ [(⟨x0, x1, x2, x3⟩ : Ev)]) ⟨x0, x1, 0, x4⟩ rfl rfl (EOwn.alloc HN5.out.1 _) (new_cells w5 39 (evCs ⟨x0, x1, 0, x4⟩)) HL2.out (Below.alloc HN5.out.2 HN5.out.2.size _).size ?_; intro v6 w6 ho6 hb6 hg6; have HN6 := Lib.hid (And.intro ho6 ((HN5.out.2.alloc HN5.out.2.size _).trans hb6)); clear ho6 hb6 hg6))
                  go_roundw
                  case rel => exact ⟨j + 1, _, by omega, by go_num, rfl, by rw [HF.out, HH.out]; go_num, by rw [HY.out, HH.out, ← List.append_assoc]; exact HN6.out.1, HN6.out.2⟩
                  case measure => simp [intOf]; omega
                · rw [if_neg t2, List.append_nil] at hHit
                  have hz2 : (x6 == (p : Int)) = false := by rw [beq_eq_false_iff_ne]; exact t2
                  have HH := Lib.hid hHit
                  have hl2 := HLE.out
                  rw [hHit] at hl2
                  simp only [List.length_cons, List.length_nil] at hl2
                  have HL1 := Lib.hid (show ((ys.length + 1) + (ys.length + 1) / 4 + 192) * 32 ≤ 281474976710656 by omega)
                  clear t1 t2 hHit hl2
                  have HO1 := Lib.hid (HOA.out.alloc (.cells (evCs ⟨x0, x1, x2, x3⟩).toArray 39))
                  have HW1 := Lib.hid (HAL.out.alloc (by simp; omega) (.cells (evCs ⟨x0, x1, x2, x3⟩).toArray 39))
                  have HLP1 := Lib.hid (Lies.alloc HLP.out (.cells (evCs ⟨x0, x1, x2, x3⟩).toArray 39))
                  have HNC : Hid (∀ (j : Nat) (u : Value), (evCs ⟨x0, x1, x2, x3⟩)[j]? = some u → ((wr.alloc (.cells (clCs ⟨x0, x1, x2, x3, x4, x5, x6⟩).toArray 70)).alloc (.cells (evCs ⟨x0, x1, x2, x3⟩).toArray 39)).cell? ⟨wr.heap.size + 1, j, none⟩ = some u) := Lib.hid (by have := new_cells (wr.alloc (.cells (clCs ⟨x0, x1, x2, x3, x4, x5, x6⟩).toArray 70)) 39 (evCs ⟨x0, x1, x2, x3⟩); rwa [World.size_alloc] at this)
                  go_wp2_with (at_builtin; refine wpList_app_evW rfl (.tmp 65) (.tmp 75) rfl w1.heap.size (wr.heap.size + 1) _ ys ⟨x0, x1, x2, x3⟩ rfl rfl HO1.out HNC.out HL1.out HW1.out.size ?_; intro v5 w5 ho5 hb5 hg5; have HN5 := Lib.hid (And.intro ho5 (HW1.out.trans hb5)); have hl5 := Lies.grown HLP1.out hg5 HNE.out; have q0 : w5.cell? ⟨wr.heap.size, 0, none⟩ = some (.int .i64 x0) := Lies.cell hl5 0; have q1 : w5.cell? ⟨wr.heap.size, 1, none⟩ = some (.int .i64 x1) := Lies.cell hl5 1; have q4 : w5.cell? ⟨wr.heap.size, 4, none⟩ = some (.int .i64 x4) := Lies.cell hl5 4; have q6 : w5.cell? ⟨wr.heap.size, 6, none⟩ = some (.int .i64 x6) := Lies.cell hl5 6; clear ho5 hb5 hg5 hl5)
                  go_roundw
                  case rel => exact ⟨j + 1, _, by omega, by go_num, rfl, by rw [HF.out, HH.out]; go_num, by rw [HY.out, HH.out]; exact HN5.out.1, HN5.out.2⟩
                  case measure => simp [intOf]; omega
              · rw [if_neg t1, List.nil_append] at hHit
                have hz1 : (x5 == (p : Int)) = false := by rw [beq_eq_false_iff_ne]; exact t1
                by_cases t2 : x6 = (p : Int)
                · rw [if_pos t2] at hHit
                  have hz2 : (x6 == (p : Int)) = true := by rw [beq_iff_eq]; exact t2
                  have HH := Lib.hid hHit
                  have hl2 := HLE.out
                  rw [hHit] at hl2
                  simp only [List.length_cons, List.length_nil] at hl2
                  have HL1 := Lib.hid (show ((ys.length + 1) + (ys.length + 1) / 4 + 192) * 32 ≤ 281474976710656 by omega)
                  clear t1 t2 hHit hl2
                  have HO1 := Lib.hid (HOA.out.alloc (.cells (evCs ⟨x0, x1, 0, x4⟩).toArray 39))
                  have HW1 := Lib.hid (HAL.out.alloc (by simp; omega) (.cells (evCs ⟨x0, x1, 0, x4⟩).toArray 39))
                  have HLP1 := Lib.hid (Lies.alloc HLP.out (.cells (evCs ⟨x0, x1, 0, x4⟩).toArray 39))
                  have HNC : Hid (∀ (j : Nat) (u : Value), (evCs ⟨x0, x1, 0, x4⟩)[j]? = some u → ((wr.alloc (.cells (clCs ⟨x0, x1, x2, x3, x4, x5, x6⟩).toArray 70)).alloc (.cells (evCs ⟨x0, x1, 0, x4⟩).toArray 39)).cell? ⟨wr.heap.size + 1, j, none⟩ = some u) := Lib.hid (by have := new_cells (wr.alloc (.cells (clCs ⟨x0, x1, x2, x3, x4, x5, x6⟩).toArray 70)) 39 (evCs ⟨x0, x1, 0, x4⟩); rwa [World.size_alloc] at this)
                  go_wp2_with (at_builtin; refine wpList_app_evW rfl (.tmp 83) (.tmp 91) rfl w1.heap.size (wr.heap.size + 1) _ ys ⟨x0, x1, 0, x4⟩ rfl rfl HO1.out HNC.out HL1.out HW1.out.size ?_; intro v5 w5 ho5 hb5 hg5; have HN5 := Lib.hid (And.intro ho5 (HW1.out.trans hb5)); have hl5 := Lies.grown HLP1.out hg5 HNE.out; have q0 : w5.cell? ⟨wr.heap.size, 0, none⟩ = some (.int .i64 x0) := Lies.cell hl5 0; have q1 : w5.cell? ⟨wr.heap.size, 1, none⟩ = some (.int .i64 x1) := Lies.cell hl5 1; have q4 : w5.cell? ⟨wr.heap.size, 4, none⟩ = some (.int .i64 x4) := Lies.cell hl5 4; have q6 : w5.cell? ⟨wr.heap.size, 6, none⟩ = some (.int .i64 x6) := Lies.cell hl5 6; clear ho5 hb5 hg5 hl5)
                  go_roundw
                  case rel => exact ⟨j + 1, _, by omega, by go_num, rfl, by rw [HF.out, HH.out]; go_num, by rw [HY.out, HH.out]; exact HN5.out.1, HN5.out.2⟩
                  case measure => simp [intOf]; omega
                · rw [if_neg t2] at hHit
                  have hz2 : (x6 == (p : Int)) = false := by rw [beq_eq_false_iff_ne]; exact t2
                  have HH := Lib.hid hHit
                  clear t1 t2 hHit
                  go_wp2_with fail
                  go_roundw
                  case rel => exact ⟨j + 1, _, by omega, by go_num, rfl, by rw [HF.out, HH.out]; rfl, by rw [HY.out, HH.out, List.append_nil]; exact HOA.out, HAL.out⟩
                  case measure => simp [intOf]; omega
            · obtain rfl : j = k := by omega
              rw [HTK.out] at ho ⊢
              have HOW := Lib.hid (And.intro ho hb)
              clear ho hb
              by_cases hN : (hits l p).length = 1
              · have hz : (((hits l p).length : Int) != 1) = false := by rw [hN]; rfl
                have HNN := Lib.hid hN
                clear hN
                go_wp2_with fail
                go_roundw
                case rel => exact ⟨p + 1, _, by omega, by go_num, rfl, by rw [oneUp, HO.out.1, HNN.out]; rfl, HOW.out⟩
                case measure => simp [intOf]; omega
              · have hz : (((hits l p).length : Int) != 1) = true := by rw [bne_iff_ne]; omega
                have er := HE.out
                rw [if_neg (by rw [← HN.out, oneUp_bad hN n hpn]; decide)] at er
                subst er
                clear hN
                go_wp2_with fail
                go_ret2
                exact ⟨_, rfl, HB1.out.1.trans (HOW.out.2.mono HB1.out.1.size), LRd.nil _ _⟩
        · obtain rfl : p = n := by omega
          have er := HE.out
          rw [← HN.out, if_pos HO.out.1] at er
          subst er
          have hts := nums_rd (Lies.below HB1.out.2 HO.out.2.2 HB1.out.2.lt) (typesRL_len l).symm (by unfold maxLen; omega)
          have HC := Lib.hid (callsOf_any hts HO.out.2.1.rd)
          have H2 := Lib.hid (And.intro (HB1.out.1.trans (HO.out.2.2.mono HB1.out.1.size)) HO.out.2.1.rd)
          clear hts
          go_wp2_with fail
          refine HC.out.mono ?_
          rintro e w3 ⟨cv, rfl, hb3, hr3⟩
          have H3 := Lib.hid (And.intro (H2.out.1.trans (hb3.mono H2.out.1.size)) (And.intro ((H2.out.2.below hb3).mono hb3.size) hr3))
          clear hb3 hr3 H2 HC
          generalize hoo : callsOf (typesRL l) (gath l p) = oo at H3 ⊢
          have HOO := Lib.hid hoo
          clear hoo
          obtain ⟨cs, at_, E⟩ := oo
          simp only at H3 ⊢
          have HQ := Lib.hid (eqCl_any H3.out.2.2 ((H.out.below H3.out.1).mono H3.out.1.size))
          rw [← HL.out] at HQ
          by_cases hE : E = 0
          · subst hE
            go_wp2_with fail
            refine HQ.out.mono ?_
            rintro e w4 ⟨rfl, hb4⟩
            have H4 := Lib.hid (And.intro (H3.out.1.trans (hb4.mono H3.out.1.size)) ((H3.out.2.1.below hb4).mono hb4.size))
            clear hb4 H3 HQ
            go_wp2_with fail
            go_ret2
            have hd : decide ((callsOf (typesRL l) (gath l p)).2.2 = 0 ∧ (callsOf (typesRL l) (gath l p)).1 = l) = decide (cs = l) := by rw [HOO.out]; simp
            exact ⟨_, congrArg (fun b => Ending.returned (Value.tuple #[_, Value.bool b])) hd.symm, H4.out⟩
          · have hz : (E == 0) = false := by rw [beq_eq_false_iff_ne]; exact hE
            have HEE := Lib.hid hE
            clear hE
            go_wp2_with fail
            go_ret2
            have hd : decide ((callsOf (typesRL l) (gath l p)).2.2 = 0 ∧ (callsOf (typesRL l) (gath l p)).1 = l) = false := by rw [HOO.out]; exact decide_eq_false fun h => HEE.out h.1
            exact ⟨_, congrArg (fun b => Ending.returned (Value.tuple #[_, Value.bool b])) hd.symm, H3.out.1, H3.out.2.1⟩
end Go.Proofs.Ytebcnhnkpmbgdaa
