/-
  Contract of (*history.record).invoke.
-/
import Derived.Test.YtphhbojdolhieaaRespond
import Derived.Test.YtphhbojdolhieaaAppRow
import Derived.Test.YtphhbojdolhieaaRegionLast
namespace Go.Proofs.Ytphhbojdolhieaa
open Go.RowKit
set_option maxRecDepth 20000
set_option maxHeartbeats 4000000 in
theorem invoke_any {g : Nat} {tv : Value} {ts : List Int} {cs : List Cl} {w : World} (h : RecS g tv ts cs w) (n : Nat) (x : Ev) (p q : Nat) (hp : p < 8) (hx : x.who = (p : Int)) (hq : q < ts.length) (hy : x.thing = (q : Int)) (hlen : cs.length ≤ 200) :
    Calls Try.prog 49 #[.pointer (some ⟨g, 0, none⟩), .int .i64 n, evV x] w (Did g tv ts w (invS ts n cs x)) := by
  obtain ⟨who, thing, kind, val⟩ := x
  simp only at hx hy
  subst hx
  subst hy
  obtain ⟨⟨cv, b, c, h1, h2, h3⟩, h4⟩ := h
  have hb1 := h3.busy p hp
  have HI := Lib.hid (EvSt.start (x := ⟨p, q, kind, val⟩) h1 h2 h4)
  have H3 := Lib.hid h3
  have p1 : (0 : Int) ≤ (p : Int) := by omega
  have p2 : (p : Int) < 8 := by omega
  have q1 : (0 : Int) ≤ (q : Int) := by omega
  have q2 : (q : Int) < (ts.length : Int) := by omega
  obtain ⟨t, ht⟩ : ∃ t, ts[q]? = some t := ⟨_, List.getElem?_eq_getElem hq⟩
  have hget : ts.getD q 0 = t := by rw [List.getD_eq_getElem?_getD, ht]; rfl
  have er : invS ts n cs ⟨p, q, kind, val⟩ = if fitsB t kind = false ∨ takesB kind val = false then .inl 3 else if 0 ≤ openOf cs (p : Int) then .inl 5 else .inr (cs ++ [⟨p, q, kind, val, 0, n, -1⟩]) := by
    unfold invS
    simp only
    rw [Int.toNat_natCast, hget]
  generalize invS ts n cs ⟨p, q, kind, val⟩ = s at er ⊢
  have HS := Lib.hid er
  have HT := Lib.hid ht
  obtain ⟨At, capt, rfl, m1, m2⟩ := h4.is
  obtain ⟨Ac, capc, rfl, m3, m4⟩ := h2.rd.is
  obtain ⟨gt, o, rfl, -, -⟩ := h4.num ht
  clear h1 h2 h3 h4 er hget ht
  unfold maxLen at m2 m4
  go_enter Try.func49, Try.ntmps49
  go_wp2_with fail
  have HI' := HI.out
  clear HI
  generalize w.heap.size = P at HI' ⊢
  change Code.wp _ _ _ _ (w.alloc (.cells #[.int .i64 p, .int .i64 q, .int .i64 kind, .int .i64 val] 55))
  generalize w.alloc (.cells #[.int .i64 p, .int .i64 q, .int .i64 kind, .int .i64 val] 55) = W at HI' ⊢
  obtain ⟨d0, d1, d2, d3⟩ := HI'.cells
  have r0 := HI'.rc.types
  obtain ⟨gt', o', hv, -, rt⟩ := HI'.types.num HT.out
  injection hv with hv
  injection hv with hv1 hv2 hv3
  subst hv1
  subst hv2
  have HB := Lib.hid HI'
  clear HI'
  have HF := Lib.hid (fun W => fits_any t kind W)
  have HK := Lib.hid (fun W => takes_any kind val W)
  cases hf : fitsB t kind
  · have HG := Lib.hid hf
    rw [hf] at HF
    clear hf
    go_quiet ((go_at_call 55; exact quiet_left (HF.out _)))
    go_wp2_with fail
    go_ret
    have e := HS.out
    rw [if_pos (Or.inl HG.out)] at e
    rw [e]
    exact ⟨belowN HB.out.below _, rfl⟩
  · have HG := Lib.hid hf
    rw [hf] at HF
    clear hf
    cases ht : takesB kind val
    · have HT := Lib.hid ht
      rw [ht] at HK
      clear ht
      go_quiet (first | (go_at_call 55; exact quiet_left (HF.out _)) | (go_at_call 56; exact quiet_left (HK.out _)))
      go_wp2_with fail
      go_ret
      have e := HS.out
      rw [if_pos (Or.inr HT.out)] at e
      rw [e]
      exact ⟨belowN HB.out.below _, rfl⟩
    · have HT := Lib.hid ht
      rw [ht] at HK
      clear ht
      go_quiet (first | (go_at_call 55; exact quiet_left (HF.out _)) | (go_at_call 56; exact quiet_left (HK.out _)))
      go_wp2_with fail
      have HI' := HB.out.drewN nq
      clear d0 d1 d2 d3 r0 rt HB HF HK
      generalize W.drewN nq = W1 at HI' ⊢
      clear W
      obtain ⟨d0, d1, d2, d3⟩ := HI'.cells
      have r2 := HI'.rc.busy hp
      have HB := Lib.hid HI'
      clear HI'
      cases hbp : b p
      · rw [hbp] at r2
        have HO : openOf cs (p : Int) < 0 := by
          apply Classical.byContradiction; intro hn
          have := hb1.2 (by omega)
          rw [hbp] at this; cases this
        have e := HS.out
        rw [if_neg (fun h => h.elim (fun h => by rw [HG.out] at h; cases h) (fun h => by rw [HT.out] at h; cases h)), if_neg (by omega)] at e
        subst e
        have HO := Lib.hid HO
        clear hb1 hbp HS HG HT
        go_quiet (fail)
        go_wp2_with fail
        have HI' := HB.out.drewN nq
        clear d0 d1 d2 d3 r2 HB
        generalize W1.drewN nq = W2 at HI' ⊢
        clear W1
        have d0 := HI'.cells.1
        have r2 := HI'.rc.busy hp
        have rf := HI'.rc.free (2 + p)
        have HB := Lib.hid HI'
        clear HI'
        go_still_tail 6, (by kernel_rfl)
        change wpList _ _ _ _ _ W2.drew
        have HI' := HB.out.drew
        clear d0 r2 rf HB
        generalize W2.drew = W3 at HI' ⊢
        clear W2
        have r2 := HI'.rc.busy hp
        have rf := HI'.rc.free (2 + p)
        have HB := Lib.hid (HI'.busyPut hp true)
        clear HI'
        go_wp2_with fail
        generalize W3.setCell ⟨g, 2 + p, none⟩ (.bool true) = W4 at HB ⊢
        clear r2 rf W3
        have d0 := HB.out.cells.1
        have r1 := HB.out.rc.calls
        have r3 := HB.out.rc.cur hp
        have rf := HB.out.rc.free (10 + p)
        go_still_tail 11, (by kernel_rfl)
        change wpList _ _ _ _ _ W4.drew
        have HI' := HB.out.drew
        clear d0 r1 r3 rf HB
        generalize W4.drew = W5 at HI' ⊢
        clear W4
        have r3 := HI'.rc.cur hp
        have rf := HI'.rc.free (10 + p)
        have HB := Lib.hid (HI'.curPut hp (cs.length : Int))
        clear HI'
        go_wp2_with fail
        generalize W5.setCell ⟨g, 10 + p, none⟩ (.int .i64 (cs.length : Int)) = W6 at HB ⊢
        clear r3 rf W5
        obtain ⟨d0, d1, d2, d3⟩ := HB.out.cells
        have r1 := HB.out.rc.calls
        have rf := HB.out.rc.free 1
        have HD := Lib.hid HB.out.drew
        have hG6 : g < W6.heap.size := Lies.lt HB.out.rc
        have hS0 : InvC g P (.slice Ac cs.length capc) ⟨p, q, kind, val⟩ W6.drew := HD.out.held
        clear d0 d1 d2 d3 r1 rf
        refine wp_region_last (InvC g P (.slice Ac cs.length capc) ⟨p, q, kind, val⟩) 17 3 (by kernel_rfl) (by rfl) (by decide) (by kernel_rfl) (by kernel_rfl) (by kernel_rfl) (by kernel_rfl) ?_
        simp only [List.take_succ_cons, List.take_zero]
        iterate 15 (
          refine takeNext 17 51 (oi := _) (v := ?_) rfl rfl (by kernel_rfl) (by kernel_rfl) (by kernel_rfl) (fun _ _ _ h => h) (by rfl) ?_ (by assumption) ?_
          rotate_left
          · (intro w hSw; obtain ⟨s0, s1, s2, s3, s4, s5⟩ := hSw; go_simp; try with_reducible rfl)
          simp only [Act.put, List.setIfInBounds_toArray, List.set_cons_zero, List.set_cons_succ, Nat.reduceAdd, Nat.reduceSub])
        refine wpAnyH_ready (rs := [15]) (by kernel_rfl) (by simp) ?_
        refine AllReadyH.cons (o := _) rfl (fun K hK => ?_) AllReadyH.nil
        go_simp
        refine hK.out _ _ (HD.out.alloc (.cells (clCs ⟨p, q, kind, val, 0, n, -1⟩).toArray 47)).held (fun _ => ?_)
        clear hK K
        refine wpAnyH_ready (rs := [16]) (by kernel_rfl) (by simp) ?_
        refine AllReadyH.cons (o := _) rfl (fun K hK => ?_) AllReadyH.nil
        refine step_app_cl (by rfl) (.tmp 55) (.tmp 66) (by rfl) (g + 1) W6.heap.size _ cs ⟨p, q, kind, val, 0, n, -1⟩ (by rfl) (by rfl) (HD.out.own.alloc (.cells (clCs ⟨p, q, kind, val, 0, n, -1⟩).toArray 47)) (new_cells W6.drew 47 (clCs ⟨p, q, kind, val, 0, n, -1⟩)) (by omega) (by simp; omega) ?_
        intro v' w5 ho5 hb5 hg5
        obtain ⟨A', c', rfl⟩ := own_slice ho5
        have HN := Lib.hid (And.intro ho5 ((HD.out.alloc (.cells (clCs ⟨p, q, kind, val, 0, n, -1⟩).toArray 47)).grown hb5 hg5))
        clear ho5 hb5 hg5
        refine hK.out _ _ HN.out.2.1 (fun _ => ?_)
        clear hK K
        refine wpAnyH_done (by kernel_rfl) ?_ _
        have rn := HN.out.2.2.1.calls
        have rm := HN.out.2.2.1.free 1
        simp only [LastQ, List.drop_succ_cons, List.drop_zero]
        go_wp2_with fail
        go_ret
        have ho : COwn w5 (g + 1) (.slice A' (cs.length + 1) c') (cs ++ [⟨p, q, kind, val, 0, n, -1⟩]) := by
          have := HN.out.1
          rw [List.length_append] at this
          exact this
        have hb : Below g w5 (w5.setCell ⟨g, 1, none⟩ (.slice A' (cs.length + 1) c')) := (Below.refl _ _).setCell (Nat.le_refl g) _
        exact ⟨HN.out.2.2.2.1.trans hb, rfl, ⟨_, _, _, HN.out.2.2.1.setCalls _, ho.far (by show g < g + 1; omega) _, H3.out.called HO.out rfl rfl⟩, HN.out.2.2.2.2.1.below hb⟩
      · have h0 : 0 ≤ openOf cs (p : Int) := hb1.1 hbp
        rw [hbp] at r2
        have e := HS.out
        rw [if_neg (fun h => h.elim (fun h => by rw [HG.out] at h; cases h) (fun h => by rw [HT.out] at h; cases h)), if_pos h0] at e
        subst e
        clear hb1 hbp h0 HS
        go_quiet (fail)
        go_wp2_with fail
        go_ret
        exact ⟨belowN HB.out.below _, rfl⟩
end Go.Proofs.Ytphhbojdolhieaa
