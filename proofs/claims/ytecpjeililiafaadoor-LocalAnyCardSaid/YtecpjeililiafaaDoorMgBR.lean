/-
  Joined by a program out of: LAnyP, LAnyW.
-/
import Derived.Test.YtecpjeililiafaaDoorMgBQ

/-
  Plain: whatever lists are joined.
-/
namespace Go.Proofs.YtecpjeililiafaaDoor
open Go.RowKit
set_option maxRecDepth 20000

/-- How many of the first k calls are of thing q. -/
def cntT (cs : List Cl) (q : Int) (k : Nat) : Nat := ((List.range k).filter fun i => (cs.getD i default).thing == q).length
theorem cntT_succ (cs : List Cl) (q : Int) (k : Nat) : cntT cs q (k + 1) = cntT cs q k + (if (cs.getD k default).thing = q then 1 else 0) := by
  unfold cntT
  rw [List.range_succ, List.filter_append, List.length_append]
  congr 1
  rw [List.filter_cons]
  by_cases h : (cs.getD k default).thing = q
  · rw [if_pos h, if_pos (by rw [beq_iff_eq]; exact h)]; rfl
  · rw [if_neg h, if_neg (by rw [beq_iff_eq]; exact h)]; rfl
theorem cntT_le (cs : List Cl) (q : Int) (k : Nat) : cntT cs q k ≤ k := by
  unfold cntT
  exact Nat.le_trans (List.length_filter_le _ _) (by simp)
theorem upI_cnt {cs : List Cl} {q : Int} {k : Nat} (hk : k < cs.length) (hq : (cs.getD k default).thing = q) : cntT cs q k < (idxQ cs q).length ∧ upI cs q (cntT cs q k) = k := by
  obtain ⟨r, hr⟩ : ∃ r, cs.length = k + 1 + r := ⟨cs.length - (k + 1), by omega⟩
  have e : idxQ cs q = (List.range k).filter (fun i => (cs.getD i default).thing == q) ++ (k :: ((List.range r).map (fun i => k + 1 + i)).filter (fun i => (cs.getD i default).thing == q)) := by
    unfold idxQ
    rw [hr, List.range_add, List.range_succ, List.filter_append, List.filter_append, List.append_assoc]
    congr 1
    rw [List.filter_cons, if_pos (by rw [beq_iff_eq]; exact hq)]
    rfl
  refine ⟨?_, ?_⟩
  · rw [e, List.length_append]
    unfold cntT
    simp
  · unfold upI
    rw [e, List.getD_eq_getElem?_getD, List.getElem?_append_right (by unfold cntT; exact Nat.le_refl _)]
    unfold cntT
    simp
/-- A step of a thing, with its part's number. -/
def dnS (cs : List Cl) (t : Nat) (x : Int × Int) : Int × Int := ((cntT cs (t : Int) x.1.toNat : Nat), x.2)
theorem any_part {ts : List Int} {l : List Ev} (h0 : openE ts l = 0) {t : Nat} (ht : t < ts.length) {w : List (Int × Int)} (hr : ∀ x ∈ w, 0 ≤ x.1 ∧ x.1 < (callsOf ts l).1.length) (hth : ∀ x ∈ w, (atC (callsOf ts l).1 x).thing = (t : Int)) :
    rightB ts (callsOf ts (partL l (t : Int))) (w.map (dnS (callsOf ts l).1 t)) = true ↔ RiteT ts (callsOf ts l).1 t w := by
  have h := (openE_zero h0).1
  obtain ⟨e1, e2⟩ := calls_part h (t : Int)
  have hc : ∀ x ∈ w, cntT (callsOf ts l).1 (t : Int) x.1.toNat < (idxQ (callsOf ts l).1 (t : Int)).length ∧ upI (callsOf ts l).1 (t : Int) (cntT (callsOf ts l).1 (t : Int) x.1.toNat) = x.1.toNat := fun x hx => by
    have h1 := hr x hx
    exact upI_cnt (by omega) (hth x hx)
  rw [rightB_iff]
  have e3 : (w.map (dnS (callsOf ts l).1 t)).map (upS (callsOf ts l).1 (t : Int)) = w := by
    rw [List.map_map]
    refine (List.map_congr_left fun x hx => ?_).trans (List.map_id w)
    have h1 := hr x hx
    have h2 := (hc x hx).2
    show (((upI (callsOf ts l).1 (t : Int) ((cntT (callsOf ts l).1 (t : Int) x.1.toNat : Nat) : Int).toNat : Nat) : Int), x.2) = x
    rw [Int.toNat_natCast, h2]
    exact Prod.ext (by show ((x.1.toNat : Nat) : Int) = x.1; omega) rfl
  rw [e1, rite_part_iff (fun y z => rankE_up l t) (rankE_ge l t) e2 (fun c hc => (calls_callOk h c hc).thing) rfl ht (fun y hy => ?_), e3]
  · exact ⟨fun h => h.2, fun k => ⟨openE_part h0 _, k⟩⟩
  · obtain ⟨x, hx, rfl⟩ := List.mem_map.1 hy
    rw [prt_len]
    have := (hc x hx).1
    show (0 : Int) ≤ ((cntT (callsOf ts l).1 (t : Int) x.1.toNat : Nat) : Int) ∧ _
    unfold dnS
    simp only
    omega
theorem join_bad {ts : List Int} {l : List Ev} {ww : List (List (Int × Int))} (h : (joinO ts l ww).2.2 ≠ 0) : (joinO ts l ww).1 = [] ∧ (joinO ts l ww).2.1 = false := by
  unfold joinO joinC at h ⊢
  split
  · exact ⟨rfl, rfl⟩
  · next h1 =>
    rw [if_neg h1] at h
    split
    · exact ⟨rfl, rfl⟩
    · next h2 =>
      rw [if_neg h2] at h
      cases hc : colF (callsOf ts l).1 (flatF 0 ww) (fun _ => none) with
      | none => exact ⟨rfl, rfl⟩
      | some G =>
        rw [hc] at h
        simp only at h ⊢
        split at h
        · exact absurd rfl h
        · exact absurd rfl h
theorem join_zero {ts : List Int} {l : List Ev} {ww : List (List (Int × Int))} (h : (joinO ts l ww).2.2 = 0) :
    openE ts l = 0 ∧ ww.length = ts.length ∧ ∃ G, colF (callsOf ts l).1 (flatF 0 ww) (fun _ => none) = some G ∧
      ((cyc (clo (callsOf ts l).1.length (jnR (callsOf ts l).1 ww)) (callsOf ts l).1.length = true ∧ (joinO ts l ww).2.1 = false) ∨
       (cyc (clo (callsOf ts l).1.length (jnR (callsOf ts l).1 ww)) (callsOf ts l).1.length = false ∧ (joinO ts l ww).2.1 = true ∧ (joinO ts l ww).1 = joinL (callsOf ts l).1 ww G)) := by
  unfold joinO joinC at h ⊢
  split at h
  · next h1 => exact absurd h h1
  · next h1 =>
    split at h
    · cases h
    · next h2 =>
      rw [if_neg h1, if_neg h2]
      refine ⟨Classical.byContradiction h1, Classical.byContradiction h2, ?_⟩
      cases hc : colF (callsOf ts l).1 (flatF 0 ww) (fun _ => none) with
      | none => rw [hc] at h; cases h
      | some G =>
        refine ⟨G, rfl, ?_⟩
        simp only
        cases hy : cyc (clo (callsOf ts l).1.length (jnR (callsOf ts l).1 ww)) (callsOf ts l).1.length
        · rw [if_neg (by decide)]
          exact .inr ⟨rfl, rfl, rfl⟩
        · rw [if_pos rfl]
          exact .inl ⟨rfl, rfl⟩
/-- Are the first k parts right? -/
def allP (ts : List Int) (l : List Ev) (ww : List (List (Int × Int))) : Nat → Bool
  | 0 => true
  | k + 1 => allP ts l ww k && rightB ts (callsOf ts (partL l (k : Int))) ((ww.getD k []).map (dnS (callsOf ts l).1 k))
theorem allP_iff {ts : List Int} {l : List Ev} {ww : List (List (Int × Int))} : ∀ {k : Nat}, allP ts l ww k = true ↔ ∀ t, t < k → rightB ts (callsOf ts (partL l (t : Int))) ((ww.getD t []).map (dnS (callsOf ts l).1 t)) = true
  | 0 => ⟨fun _ t h => by omega, fun _ => rfl⟩
  | k + 1 => by
    rw [allP, Bool.and_eq_true, allP_iff]
    exact ⟨fun h t ht => by
      rcases Nat.lt_or_ge t k with h1 | h1
      · exact h.1 t h1
      · obtain rfl : t = k := by omega
        exact h.2, fun h => ⟨fun t ht => h t (by omega), h k (by omega)⟩⟩
theorem any_final {ts : List Int} {l : List Ev} {ww : List (List (Int × Int))} (h : (joinO ts l ww).2.2 = 0) (hE : searchE (callsOf ts l) = 0) :
    ((joinO ts l ww).2.1 = true → rightB ts (callsOf ts l) (joinO ts l ww).1 = allP ts l ww ts.length) ∧ ((joinO ts l ww).2.1 = false → allP ts l ww ts.length = false) := by
  obtain ⟨h0, hm, G, hc, hd⟩ := join_zero h
  obtain ⟨hz, hn, _⟩ := openE_zero h0
  have hth : ∀ c ∈ (callsOf ts l).1, 0 ≤ c.thing ∧ c.thing < ts.length := fun c hc => (calls_callOk hz c hc).thing
  have hor := (calls_orderly hz).1
  have hall : allP ts l ww ts.length = true ↔ ∀ t, t < ts.length → RiteT ts (callsOf ts l).1 t (ww.getD t []) := by
    rw [allP_iff]
    have key : ∀ t, t < ts.length → (rightB ts (callsOf ts (partL l (t : Int))) ((ww.getD t []).map (dnS (callsOf ts l).1 t)) = true ↔ RiteT ts (callsOf ts l).1 t (ww.getD t [])) := fun t ht => by
      have h1 := List.getElem?_eq_getElem (show t < ww.length by omega)
      have h2 : ww.getD t [] = ww[t] := by rw [List.getD_eq_getElem?_getD, h1]; rfl
      rw [h2]
      exact any_part h0 ht (col_rng hc _ (List.mem_of_getElem? h1)) (col_list hc h1).1
    exact ⟨fun h t ht => (key t ht).1 (h t ht), fun h t ht => (key t ht).2 (h t ht)⟩
  refine ⟨fun hi => ?_, fun hi => ?_⟩
  · rcases hd with ⟨_, h2⟩ | ⟨hy, _, h2⟩
    · rw [hi] at h2; cases h2
    · rw [Bool.eq_iff_iff, hall, rightB_iff, h2, joinL_rite hth hn hm hy hc]
      exact ⟨fun h => h.2, fun h => ⟨hE, h⟩⟩
  · rcases hd with ⟨hy, _⟩ | ⟨_, h2, _⟩
    · cases ha : allP ts l ww ts.length
      · rfl
      · have := (join_can hth hor.ends (fun c hc => (hor.tidy c hc).2.2.1) hm (hall.1 ha)).1
        rw [hy] at this
        cases this
    · rw [hi] at h2; cases h2
end Go.Proofs.YtecpjeililiafaaDoor

/-
  The walk of the law LocalAny.
-/
namespace Go.Proofs.YtecpjeililiafaaDoor
open Go.RowKit
set_option maxRecDepth 20000

theorem any_rows {ts : List Int} {l : List Ev} {ww : List (List (Int × Int))} (h : (joinO ts l ww).2.2 = 0) : (callsOf ts l).2.2 = 0 ∧ ts.length ≤ 4 ∧ ww.length = ts.length ∧ openE ts l = 0 ∧ (callsOf ts l).1.length ≤ 12 ∧
    ∀ (k : Nat) (row : List (Int × Int)), ww[k]? = some row → (∀ x ∈ row, 0 ≤ x.1 ∧ x.1 < (callsOf ts l).1.length) ∧ row.length ≤ 12 := by
  obtain ⟨h0, hm, G, hc, _⟩ := join_zero h
  obtain ⟨hz, hn, _⟩ := openE_zero h0
  refine ⟨hz, calls_types hz, hm, h0, hn, fun k row hk => ?_⟩
  have h1 := col_rng hc row (List.mem_of_getElem? hk)
  refine ⟨h1, ?_⟩
  have := nodup_lt (callsOf ts l).1.length (col_list hc hk).2 (fun z hz => by
    obtain ⟨x, hx, rfl⟩ := List.mem_map.1 hz
    exact h1 x hx)
  rw [List.length_map] at this
  omega
set_option maxHeartbeats 8000000 in
theorem lany_any {tv lv wv : Value} {ts : List Int} {l : List Ev} {ww : List (List (Int × Int))} {w : World} (ht : NRd w w.heap.size tv ts) (hl : ERd w w.heap.size lv l) (hw : QRd w w.heap.size wv ww) (hp : Pow10 w.heap.size w) (hT : Tab w) :
    Calls Tryd.prog 15 #[tv, lv, wv] w fun e w' => e = .returned (.bool true) ∧ Below w.heap.size w w' := by
  have HJ := Lib.hid (ljoin_any ht hl hw hT)
  obtain ⟨At, capt, rfl, -, -⟩ := ht.is
  obtain ⟨Al, capl, rfl, hl1, hl2⟩ := hl.is
  obtain ⟨Aw, capw, rfl, hw1, hw2⟩ := hw.is
  unfold maxLen at hl2 hw2
  have HT := Lib.hid (And.intro ht (And.intro hl (And.intro hw (And.intro hp hT))))
  have hbad := @join_bad ts l ww
  have hrows := @any_rows ts l ww
  have hfin := @any_final ts l ww
  obtain ⟨tl, htl⟩ : ∃ tl, tl = ts.length := ⟨_, rfl⟩
  obtain ⟨L, hL⟩ : ∃ L, L = l.length := ⟨_, rfl⟩
  obtain ⟨mw, hmw⟩ : ∃ mw, mw = ww.length := ⟨_, rfl⟩
  rw [← htl, ← hL, ← hmw] at HJ HT
  rw [← htl, ← hmw] at hrows
  rw [← htl] at hfin
  rw [← hmw] at hw1
  rw [← htl, ← hL, ← hmw]
  have HLL := Lib.hid (And.intro htl hmw)
  clear ht hl hw hp hT htl hL hmw hl1 hl2
  rcases hjo : joinO ts l ww with ⟨xs, is, E⟩
  rw [hjo] at HJ hbad hrows hfin
  simp only at hbad hrows hfin
  have HPL := Lib.hid (And.intro hbad (And.intro hrows hfin))
  clear hbad hrows hfin hjo
  go_enter Tryd.func15, Tryd.ntmps15
  go_wp2_with fail
  refine HJ.out.mono ?_
  rintro e w1 ⟨hb, v, rfl, hv⟩
  simp only at hv ⊢
  have H1 := Lib.hid hb
  have hv1 := hv
  obtain ⟨Av, cv, rfl, -, hcv⟩ := hv.is
  unfold maxLen at hcv
  have HV := Lib.hid hv1
  have HS := Lib.hid (llives_any w1 ((HT.out.2.2.2.1.on H1.out).mono H1.out.size))
  clear hb HJ hv hv1
  by_cases hE : E = 0
  · subst hE
    obtain ⟨m, hm⟩ : ∃ m, m = xs.length := ⟨_, rfl⟩
    rw [← hm] at HV ⊢
    clear hm
    obtain ⟨-, hrows, hfin⟩ := HPL.out
    obtain ⟨hc0, ht4, hmt, h0, hn12, hrw⟩ := hrows rfl
    obtain rfl : tl = mw := hmt.symm
    have HRW := Lib.hid (And.intro hc0 (And.intro h0 hrw))
    have HFI := Lib.hid (hfin rfl)
    have HN := Lib.hid (And.intro ht4 hn12)
    clear hrows hfin hc0 ht4 h0 hn12 hrw HPL
    go_wp2_with fail
    refine HS.out.mono ?_
    rintro e w2 ⟨rfl, hb⟩
    have H2 := Lib.hid (H1.out.trans (hb.mono H1.out.size))
    have HV2 := Lib.hid ((HV.out.below hb).mono hb.size)
    have HR := Lib.hid (right_say (ws := xs) ((HT.out.1.below H2.out).mono H2.out.size) ((HT.out.2.1.below H2.out).mono H2.out.size) HV2.out)
    clear hb HS HV
    go_wp2_with fail
    refine HR.out.mono ?_
    rintro e w3 ⟨hb, rfl⟩
    have H3 := Lib.hid (H2.out.trans (hb.mono H2.out.size))
    clear hb HR HV2
    generalize rightB ts (callsOf ts l) xs = rb at HFI ⊢
    generalize searchE (callsOf ts l) = F at HFI ⊢
    by_cases hF : F = 0
    · subst hF
      have hfi := HFI.out rfl
      have HFF := Lib.hid hfi
      have HC := Lib.hid (calls_any ((HT.out.1.below H3.out).mono H3.out.size) ((HT.out.2.1.below H3.out).mono H3.out.size))
      clear hfi HFI
      go_wp2_with fail
      refine HC.out.mono ?_
      rintro e w4 ⟨c, rfl, hb, hc⟩
      have H4 := Lib.hid (H3.out.trans (hb.mono H3.out.size))
      have HCC := Lib.hid hc
      obtain ⟨Ac, cc, rfl, -, hcc⟩ := hc.is
      unfold maxLen at hcc
      clear hb HC hc
      rw [HRW.out.1]
      generalize (callsOf ts l).2.1 = at1
      obtain ⟨cs, hcs⟩ : ∃ cs, cs = (callsOf ts l).1 := ⟨_, rfl⟩
      rw [← hcs] at HRW HCC HN ⊢
      have HCS := Lib.hid hcs
      obtain ⟨n, hn⟩ : ∃ n, n = cs.length := ⟨_, rfl⟩
      rw [← hn] at HCC HN ⊢
      have HMN := Lib.hid hn
      clear hcs hn
      go_wp2_with fail
      obtain ⟨B, hB⟩ : ∃ B, B = w4.heap.size := ⟨_, rfl⟩
      have hb0 : Below B w4 w4 := Below.refl _ _
      rw [← hB] at HCC
      have HBS := Lib.hid hB
      clear hB
      go_loopw [12, 69] (fun a i wr => ∃ k : Nat, k ≤ tl ∧ i = .int .i64 k ∧ a = .bool (allP ts l ww k) ∧ Below B w4 wr) (fun _ i _ => tl - (intOf i).toNat)
      case atStart => exact ⟨0, by omega, rfl, rfl, hb0⟩
      case round =>
        clear hb0
        obtain ⟨k, hk, rfl, rfl, hbr⟩ := hrel
        by_cases hkt : k < tl
        · obtain ⟨row, hx⟩ : ∃ row, ww[k]? = some row := ⟨_, List.getElem?_eq_getElem (by rw [← HLL.out.2]; exact hkt)⟩
          obtain ⟨hr1, hr2⟩ := HRW.out.2.2 k row hx
          have hgd : ww.getD k [] = row := by rw [List.getD_eq_getElem?_getD, hx]; rfl
          have hstep : allP ts l ww (k + 1) = (allP ts l ww k && rightB ts (callsOf ts (partL l (k : Int))) (row.map (dnS cs k))) := by rw [allP, hgd, HCS.out]
          have hbl : Below w.heap.size w wr := H4.out.trans (hbr.mono (by rw [HBS.out]; exact H4.out.size))
          have hpo : partOf ts l (k : Int) = (partL l (k : Int), 0) := by
            unfold partOf
            rw [if_neg (by rw [HRW.out.1]; simp), if_neg (by have := HLL.out.1; omega)]
          have hpa := part_any ((HT.out.1.below hbl).mono hbl.size) ((HT.out.2.1.below hbl).mono hbl.size) (k : Int)
          rw [hpo] at hpa
          have HP := Lib.hid hpa
          have HX := Lib.hid (And.intro hx (And.intro hr1 (And.intro hr2 hstep)))
          have HBR := Lib.hid (And.intro hbr hbl)
          have i1 : (0 : Int) ≤ (k : Int) := by omega
          have i2 : (k : Int) < (tl : Int) := by omega
          have htl4 := HN.out.1
          clear hx hr1 hr2 hgd hstep hbl hpo hpa hbr
          generalize ha2 : allP ts l ww (k + 1) = a2 at HX
          have HA2 := Lib.hid ha2
          clear ha2
          generalize allP ts l ww k = a1 at HX ⊢
          go_wp2_with fail
          refine HP.out.mono ?_
          rintro e w5 ⟨v, rfl, hb5, hp5⟩
          simp only at hp5 ⊢
          have hb45 : Below B w4 w5 := HBR.out.1.trans (hb5.mono (by have := HBR.out.1.size; have := HBS.out; omega))
          have hbw5 : Below w.heap.size w w5 := HBR.out.2.trans (hb5.mono HBR.out.2.size)
          have HPP := Lib.hid hp5
          obtain ⟨Ap, cp, rfl, -, hcp⟩ := hp5.is
          obtain ⟨gw, ow, Al', cl', e1, -, d0, hrow⟩ := (HT.out.2.2.1.below hbw5).at_ HX.out.1
          subst e1
          have hrow := hrow.mono hbw5.size
          obtain ⟨R, hR⟩ : ∃ R, R = row.length := ⟨_, rfl⟩
          rw [← hR] at d0 hrow
          have hR12 : R ≤ 12 := by rw [hR]; exact HX.out.2.2.1
          have HRO := Lib.hid (And.intro hrow hR)
          have H5 := Lib.hid (And.intro hb45 hbw5)
          clear hb5 hp5 hb45 hbw5 hrow hR HP HBR
          go_wp2_with fail
          have ho0 : TOwn w5 w5.heap.size (.slice none 0 0) ((row.take 0).map (dnS cs k)) := TOwn.nil _ _
          have hb0 : Below w5.heap.size w5 w5 := Below.refl _ _
          go_loopw [19, 84] (fun v i wq => ∃ j : Nat, j ≤ R ∧ i = .int .i64 j ∧ Below w5.heap.size w5 wq ∧ TOwn wq w5.heap.size v ((row.take j).map (dnS cs k))) (fun _ i _ => R - (intOf i).toNat)
          case atStart => exact ⟨0, by omega, rfl, hb0, ho0⟩
          case round =>
            clear ho0 hb0 d0
            obtain ⟨j, hj, rfl, hbq, hoq⟩ := hrel
            by_cases hjm : j < R
            · obtain ⟨x, hx⟩ : ∃ x, row[j]? = some x := ⟨_, List.getElem?_eq_getElem (by rw [← HRO.out.2]; exact hjm)⟩
              have hst : (row.take (j + 1)).map (dnS cs k) = (row.take j).map (dnS cs k) ++ [dnS cs k x] := by
                rw [List.take_add_one, hx, List.map_append]
                rfl
              have hxr := HX.out.2.1 x (List.mem_of_getElem? hx)
              obtain ⟨g2, o2, rfl, -, x0, x1⟩ := (HRO.out.1.below hbq).sp hx
              obtain ⟨q1, q2⟩ := x
              simp only at x0 x1 hxr hst
              obtain ⟨q, rfl⟩ : ∃ q : Nat, q1 = (q : Int) := ⟨q1.toNat, by omega⟩
              have hqn : q < n := by have := HMN.out; omega
              have hds : dnS cs k ((q : Int), q2) = (((cntT cs (k : Int) q : Nat) : Int), q2) := rfl
              rw [hds] at hst
              have hcl := cntT_le cs (k : Int) q
              have hn12 := HN.out.2
              have hpl : ((row.take j).map (dnS cs k)).length ≤ 1000 := by
                rw [List.length_map, List.length_take, ← HRO.out.2]
                omega
              have hal : Below wr.heap.size wr (wr.alloc (.cells #[.int .i64 q, .int .i64 q2] 42)) := (Below.refl _ _).alloc (Nat.le_refl _) _
              have hnew : Lies (wr.alloc (.cells #[.int .i64 q, .int .i64 q2] 42)) wr.heap.size 42 #[.int .i64 q, .int .i64 q2] := Lies.new _ _ _
              have hcw : CRd (wr.alloc (.cells #[.int .i64 q, .int .i64 q2] 42)) B (.slice Ac n cc) cs := HCC.out.below (H5.out.1.trans ((hbq.trans (hal.mono hbq.size)).mono (by have := H5.out.1.size; have := HBS.out; omega)))
              have hncc : n ≤ cc := by
                obtain ⟨_, _, ecc, h1, -⟩ := hcw.is
                injection ecc with _ e2 e3
                omega
              obtain ⟨yq, hyq⟩ : ∃ yq, cs[q]? = some yq := ⟨_, List.getElem?_eq_getElem (by have := HMN.out; omega)⟩
              obtain ⟨gc, oc, rfl, -⟩ := hcw.cl hyq
              have j1 : (0 : Int) ≤ (j : Int) := by omega
              have j2 : (j : Int) < (R : Int) := by omega
              have q3 : (0 : Int) ≤ (q : Int) := by omega
              have q4 : (q : Int) ≤ (cc : Int) := by have := HMN.out; omega
              have HO := Lib.hid (And.intro (hbq.trans (hal.mono hbq.size)) (And.intro (hoq.below hal) (And.intro hst (And.intro hpl hbq.size))))
              have HCW := Lib.hid hcw
              clear hbq hoq hst hpl hx hxr hal hcw hds hncc hyq
              go_upto_region 17 with fail
              change Code.wp _ _ _ _ (wr.alloc (.cells #[.int .i64 q, .int .i64 q2] 42))
              have hsz : (wr.alloc (.cells #[.int .i64 q, .int .i64 q2] 42)).heap.size = wr.heap.size + 1 := by simp
              generalize wr.alloc (.cells #[.int .i64 q, .int .i64 q2] 42) = W2 at hnew HO HCW hsz ⊢
              generalize wr.heap.size = X at hnew HO hsz ⊢
              have c0 : W2.cell? ⟨X, 0, none⟩ = some (.int .i64 q) := Lies.cell hnew 0
              have c1 : W2.cell? ⟨X, 1, none⟩ = some (.int .i64 q2) := Lies.cell hnew 1
              have HSZ := Lib.hid (And.intro hsz c1)
              clear x0 x1 hnew hsz
              go_wp2_with fail
              clear c0 c1
              have hb0 : Below W2.heap.size W2 W2 := Below.refl _ _
              go_loopw [22, 93] (fun c i wq => ∃ t : Nat, t ≤ q ∧ i = .int .i64 t ∧ c = .int .i64 (cntT cs (k : Int) t) ∧ Below W2.heap.size W2 wq) (fun _ i _ => q - (intOf i).toNat)
              case atStart => exact ⟨0, by omega, rfl, rfl, hb0⟩
              case round =>
                clear hb0
                obtain ⟨t, htq, rfl, rfl, hb2⟩ := hrel
                by_cases htt : t < q
                · obtain ⟨y, hy⟩ : ∃ y, cs[t]? = some y := ⟨_, List.getElem?_eq_getElem (by have := HMN.out; omega)⟩
                  have hcs2 := cntT_succ cs (k : Int) t
                  rw [List.getD_eq_getElem?_getD, hy, Option.getD_some] at hcs2
                  have hct := cntT_le cs (k : Int) t
                  obtain ⟨g3, o3, e3, -, y0, y1, y2, y3, y4, y5, y6⟩ := (HCW.out.below (hb2.mono (by have := H5.out.1.size; have := HO.out.1.size; have := HBS.out; omega))).cl hy
                  injection e3 with e3
                  injection e3 with e3 e4
                  subst e3 e4
                  have t1 : (0 : Int) ≤ (t : Int) := by omega
                  have t2 : (t : Int) < (q : Int) := by omega
                  have HB2 := Lib.hid hb2
                  clear hb2 hy
                  generalize y.thing = yt at y1 hcs2
                  by_cases h3 : yt = (k : Int)
                  · have hz : (yt == (k : Int)) = true := by rw [beq_iff_eq]; exact h3
                    rw [if_pos h3] at hcs2
                    clear h3
                    have HC2 := Lib.hid hcs2
                    clear hcs2
                    generalize cntT cs (k : Int) t = c1 at hct HC2 ⊢
                    go_wp2_with fail
                    go_roundw
                    case rel => exact ⟨t + 1, by omega, by go_num, by rw [HC2.out]; go_num, HB2.out.alloc HB2.out.size _⟩
                    case measure => simp [intOf]; omega
                  · have hz : (yt == (k : Int)) = false := by rw [beq_eq_false_iff_ne]; exact h3
                    rw [if_neg h3] at hcs2
                    have HC2 := Lib.hid hcs2
                    clear h3 hcs2
                    go_wp2_with fail
                    go_roundw
                    case rel => exact ⟨t + 1, by omega, by go_num, by rw [HC2.out]; rfl, HB2.out.alloc HB2.out.size _⟩
                    case measure => simp [intOf]; omega
                · obtain rfl : t = q := by omega
                  have c1 : wr.cell? ⟨X, 1, none⟩ = some (.int .i64 q2) := (hb2.cell (p := ⟨X, 1, none⟩) (by show X < W2.heap.size; rw [HSZ.out.1]; omega)).trans HSZ.out.2
                  have HB2 := Lib.hid (And.intro (HO.out.1.trans (hb2.mono HO.out.1.size)) (HO.out.2.1.below hb2))
                  have HST := Lib.hid HO.out.2.2
                  clear hb2
                  generalize cntT cs (k : Int) t = c2 at HST ⊢
                  go_wp2_with (at_builtin; refine wpList_app_t rfl (.tmp 104) (.tmp 109) rfl w5.heap.size wr.heap.size _ _ (c2 : Int) q2 rfl rfl (HB2.out.2.alloc _) (Lies.new _ _ _) HST.out.2.1 (by have := HB2.out.1.size; simp; omega) ?_; intro v' w6 ho6 hb6)
                  go_roundw
                  case rel => exact ⟨j + 1, by omega, by go_num, HB2.out.1.trans (((Below.refl _ _).alloc HB2.out.1.size _).trans hb6), by rw [HST.out.1]; exact ho6⟩
                  case measure => simp [intOf]; omega
            · obtain rfl : R = j := by omega
              have hfull : (row.take R).map (dnS cs k) = row.map (dnS cs k) := by rw [List.take_of_length_le (by rw [← HRO.out.2]; exact Nat.le_refl _)]
              rw [hfull] at hoq
              have hbw : Below w.heap.size w wr := H5.out.2.trans (hbq.mono H5.out.2.size)
              have hrs := right_say ((HT.out.1.below hbw).mono hbw.size) ((HPP.out.below hbq).mono hbq.size) hoq.rd
              obtain ⟨Ao, co, rfl, -, -⟩ := hoq.rd.is
              rw [openE_part HRW.out.2.1] at hrs
              generalize (row.map (dnS cs k)).length = mo at hrs ⊢
              have HRS := Lib.hid hrs
              have HBW := Lib.hid (H5.out.1.trans (hbq.mono (by have := H5.out.1.size; have := HBS.out; omega)))
              have hstep := HX.out.2.2.2
              clear hfull hoq hbw hrs hbq
              generalize rightB ts (callsOf ts (partL l (k : Int))) (row.map (dnS cs k)) = gd at HRS hstep
              have HSTEP := Lib.hid hstep
              clear hstep
              go_wp2_with fail
              refine HRS.out.mono ?_
              rintro e w6 ⟨hb6, rfl⟩
              have HB6 := Lib.hid (HBW.out.trans (hb6.mono (by have := HBW.out.size; have := HBS.out; omega)))
              clear hb6 HRS
              cases a1
              · have HS2 := HSTEP.out
                rw [Bool.false_and] at HS2
                have HSQ := Lib.hid HS2
                clear HS2
                go_wp2_with fail
                go_roundw
                case rel => exact ⟨k + 1, by omega, by go_num, by rw [HA2.out, HSQ.out], HB6.out⟩
                case measure => simp [intOf]; omega
              · have HS2 := HSTEP.out
                rw [Bool.true_and] at HS2
                have HSQ := Lib.hid HS2
                have HOK := Lib.hid (ok_zero (IRd.fresh w6 25 [0, 0] 2 rfl #[.int .i64 0, .int .i64 0] rfl) (by decide) (by decide))
                clear HS2
                go_wp2_with fail
                refine HOK.out.mono ?_
                rintro e w7 ⟨rfl, rfl⟩
                have H7 := Lib.hid (HB6.out.alloc (by have := HB6.out.size; have := HBS.out; omega) (.cells #[.int .i64 0, .int .i64 0] 25))
                clear HOK
                go_wp2_with fail
                go_roundw
                case rel => exact ⟨k + 1, by omega, by go_num, by rw [HA2.out, HSQ.out], H7.out⟩
                case measure => simp [intOf]; omega
        · obtain rfl : k = tl := by omega
          have HB := Lib.hid (H4.out.trans (hbr.mono (by rw [HBS.out]; exact H4.out.size)))
          obtain ⟨hf1, hf2⟩ := HFF.out
          clear hbr
          generalize allP ts l ww k = a at hf1 hf2 ⊢
          cases is
          · obtain rfl := hf2 rfl
            clear hf1 hf2
            cases rb
            · go_wp2_with fail
              go_ret
              exact ⟨rfl, HB.out⟩
            · go_wp2_with fail
              go_ret
              exact ⟨rfl, HB.out⟩
          · obtain rfl := hf1 rfl
            clear hf1 hf2
            cases rb
            · go_wp2_with fail
              go_ret
              exact ⟨rfl, HB.out⟩
            · go_wp2_with fail
              go_ret
              exact ⟨rfl, HB.out⟩
    · have hez : (F != 0) = true := by rw [bne_iff_ne]; exact hF
      clear HFI
      go_wp2_with fail
      go_ret
      exact ⟨rfl, H3.out⟩
  · have hez : (E != 0) = true := by rw [bne_iff_ne]; exact hE
    obtain ⟨hx, hi⟩ := HPL.out.1 hE
    subst hx hi
    rw [List.length_nil]
    clear HPL
    go_wp2_with fail
    refine HS.out.mono ?_
    rintro e w2 ⟨rfl, hb⟩
    have H2 := Lib.hid (H1.out.trans (hb.mono H1.out.size))
    clear hb HS
    have HS := Lib.hid (llives_any w2 ((HT.out.2.2.2.1.on H2.out).mono H2.out.size))
    go_wp2_with fail
    refine HS.out.mono ?_
    rintro e w3 ⟨rfl, hb⟩
    have H3 := Lib.hid (H2.out.trans (hb.mono H2.out.size))
    clear hb HS
    go_wp2_with fail
    go_ret
    exact ⟨rfl, H3.out⟩
end Go.Proofs.YtecpjeililiafaaDoor
