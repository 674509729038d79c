/-
  Joined by a program out of: LinRight, LinFound.
-/
import Derived.Test.YtecpjeililiafaaDoorMgAU
import Derived.Deep.CutRange

/-
  Contract of search.Right.
-/
namespace Go.Proofs.YtecpjeililiafaaDoor
open Go.RowKit Go.Maps
set_option maxRecDepth 20000
variable {Rl : Nat → Nat → Bool}

/-- Steps as they are handed in. -/
abbrev spCs (x : Int × Int) : List Value := [.int .i64 x.1, .int .i64 x.2]
abbrev SRd (w : World) (B : Nat) (v : Value) (l : List (Int × Int)) : Prop := LRd 2 spCs w B v l
/-- Is it right from a point on? -/
def rightO (Rl : Nat → Nat → Bool) (ts : List Int) (cs : List Cl) : Pt → List (Int × Int) → Bool
  | p, [] => fullB cs p
  | p, x :: r => if nextB Rl ts cs p x.1 = true ∧ (thingO ts cs p x.1.toNat).2.1 = x.2 then rightO Rl ts cs (nextP ts cs p x.1.toNat) r else false
def RightPost (Rl : Nat → Nat → Bool) (w : World) (ts : List Int) (o : List Cl × Nat × Int) (ws : List (Int × Int)) (e : Ending) (w' : World) : Prop :=
  Below w.heap.size w w' ∧ e = .returned (.tuple #[.bool (decide (searchE o = 0) && rightO Rl ts o.1 (startP ts) ws), .int .i64 (searchE o)])
theorem perform_int {w : World} {Q : Nat} {tv cv : Value} {ts : List Int} {cs : List Cl} (hR : RecAt Rl w Q tv cv ts cs) (hts : ts.length ≤ 4) (hcs : cs.length ≤ 9) (hth : ∀ c, c ∈ cs → 0 ≤ c.thing ∧ c.thing < ts.length) {S : Nat → Prop} {p : Pt} {d : Nat} (hpd : d = p.done) (hd : d < 65536)
    (B0 B1 B2 B3 : Option Addr) (l0 l1 l2 l3 k0 k1 k2 k3 : Nat) (hs : ∀ i, i < 4 → NAw S w (four (.slice B0 l0 k0) (.slice B1 l1 k1) (.slice B2 l2 k2) (.slice B3 l3 k3) i) (p.st i)) (k : Int) :
    Calls Tryd.prog 91 #[.pointer (some ⟨Q, 0, none⟩), ptV d (four (.slice B0 l0 k0) (.slice B1 l1 k1) (.slice B2 l2 k2) (.slice B3 l3 k3)), .int .i64 k] w fun e w' => Below w.heap.size w w' ∧ ∃ d2 C0 C1 C2 C3 m0 m1 m2 m3 c0 c1 c2 c3 res,
      e = .returned (.tuple #[.agg #[.int .u16 (d2 : Nat), .slice C0 m0 c0, .slice C1 m1 c1, .slice C2 m2 c2, .slice C3 m3 c3], .int .i64 res, .bool (nextB Rl ts cs p k)]) ∧
      (nextB Rl ts cs p k = true → d2 = (nextP ts cs p k.toNat).done ∧ res = (thingO ts cs p k.toNat).2.1 ∧ ∀ i, i < 4 → NAw (fun g => S g ∨ w.heap.size ≤ g) w' ((four (.slice C0 m0 c0) (.slice C1 m1 c1) (.slice C2 m2 c2) (.slice C3 m3 c3)) i) ((nextP ts cs p k.toNat).st i)) := by
  subst hpd
  refine (perform_core hR hts hcs hth hd B0 B1 B2 B3 l0 l1 l2 l3 k0 k1 k2 k3 hs k).mono ?_
  rintro e w' ⟨hb, h⟩
  refine ⟨hb, ?_⟩
  rcases h with ⟨h1, rfl⟩ | ⟨h1, pv, rfl, s, rfl, h2⟩
  · exact ⟨0, none, none, none, none, 0, 0, 0, 0, 0, 0, 0, 0, 0, by rw [h1], fun h => by rw [h1] at h; cases h⟩
  · have hat := fun i hi => four_at s (i := i) hi
    obtain ⟨C0, c0, e0, -⟩ := h2 0 (by omega)
    obtain ⟨C1, c1, e1, -⟩ := h2 1 (by omega)
    obtain ⟨C2, c2, e2, -⟩ := h2 2 (by omega)
    obtain ⟨C3, c3, e3, -⟩ := h2 3 (by omega)
    rw [e0, e1, e2, e3] at hat
    refine ⟨_, C0, C1, C2, C3, _, _, _, _, c0, c1, c2, c3, _, ?_, fun _ => ⟨rfl, rfl, fun i hi => by rw [hat i hi]; exact h2 i hi⟩⟩
    rw [h1]
    show Ending.returned (.tuple #[.agg #[_, s 0, s 1, s 2, s 3], _, _]) = _
    rw [e0, e1, e2, e3]
structure RtR (w0 : World) (P : Nat) (p : Pt) (s : Nat → Value) (X : World) : Prop where
  below : Below w0.heap.size w0 X
  pb : PtB X P p.done s
  st : ∀ i, i < 4 → NAw (fun g => g ≠ P) X (s i) (p.st i)
  bp : w0.heap.size ≤ P
theorem RtR.next {w0 X X' : World} {P : Nat} {p : Pt} {s : Nat → Value} (h : RtR w0 P p s X) (hb : Below X.heap.size X X') : RtR w0 P p s X' :=
  ⟨h.below.trans (hb.mono h.below.size), Lies.below h.pb hb (Lies.lt h.pb), fun i hi => (h.st i hi).next hb, h.bp⟩

set_option maxHeartbeats 8000000 in
theorem rightIn_any {tv lv sv : Value} {ts : List Int} {l : List Ev} {ws : List (Int × Int)} {w : World} {N : Int} {r : Nat → Nat} (ht : NRd w w.heap.size tv ts) (hl : ERd w w.heap.size lv l) (hw : SRd w w.heap.size sv ws) (hr : ∀ i, r i < 65536) (hrp : searchE (callsOf ts l) = 0 → ∀ i, i < (callsOf ts l).1.length → r i = relP Rl (callsOf ts l).1.length i) :
    Calls Tryd.prog 61 #[tv, lv, relV N r, sv] w (RightPost Rl w ts (callsOf ts l) ws) := by
  have hb0 : Below w.heap.size w (w.alloc (.cells (relCs N r) 36)) := (Below.refl _ _).alloc (Nat.le_refl _) _
  have hop := open_any (N := N) ((ht.below hb0).mono hb0.size) ((hl.below hb0).mono hb0.size) hr hrp
  have hrl : RelB (w.alloc (.cells (relCs N r) 36)) w.heap.size N r := Lies.new _ _ _
  have c0 := hrl.size
  obtain ⟨c1, c2, c3, c4, c5, c6, c7, c8, c9, c10, c11, c12⟩ := hrl.rows
  have HB0 := Lib.hid hb0
  clear hrp hr hb0 hrl
  have hth := @calls_thing ts l
  have hty := @calls_types ts l
  generalize callsOf ts l = o at hop hth hty ⊢
  obtain ⟨At, capt, rfl, -, -⟩ := ht.is
  obtain ⟨As, caps, rfl, hw1, hw2⟩ := hw.is
  have hw3 : ws.length ≤ 9223372036854775807 := by unfold maxLen at hw2; omega
  clear hw1 hw2
  have HT := Lib.hid (And.intro ht (And.intro hw (And.intro hth hty)))
  have HOP := Lib.hid hop
  obtain ⟨tl, htl⟩ : ∃ tl, tl = ts.length := ⟨_, rfl⟩
  obtain ⟨m, hm⟩ : ∃ m, m = ws.length := ⟨_, rfl⟩
  rw [← htl] at HOP HT ⊢
  rw [← hm] at HT hw3 ⊢
  have HTL := Lib.hid (And.intro htl hm)
  clear ht hl hw hop hth hty htl hm
  go_enter Tryd.func61, Tryd.ntmps61
  go_wp2_with fail
  refine HOP.out.mono ?_
  rintro e w1 ⟨hb1', hcs⟩
  have hb1 := HB0.out.trans (hb1'.mono HB0.out.size)
  clear hb1' c0 c1 c2 c3 c4 c5 c6 c7 c8 c9 c10 c11 c12
  rcases hcs with ⟨hE, rfl⟩ | ⟨hE, cv, rfl, hc⟩
  · have hne : (searchE o != 0) = true := by rw [bne_iff_ne]; exact hE
    have HB := Lib.hid (And.intro hb1 hE)
    clear hb1 hE HOP
    generalize hEE : searchE o = E at hne HB ⊢
    have HEE := Lib.hid hEE
    clear hEE
    go_wp2_with fail
    go_ret2
    exact ⟨HB.out.1.alloc HB.out.1.size _, by rw [HEE.out, decide_eq_false HB.out.2]; rfl⟩
  · obtain ⟨Ac, capc, rfl, -, -⟩ := hc.is
    have HC := Lib.hid (And.intro hb1 (And.intro hE hc))
    have hfew : o.1.length ≤ 9 ∧ o.2.2 = 0 := by
      have h1 := hE
      unfold searchE at h1
      split at h1
      · rename_i h2; exact absurd h1 h2
      · rename_i h2
        split at h1
        · cases h1
        · exact ⟨by omega, by simpa using h2⟩
    have hts : ts.length ≤ 4 := by rw [← HTL.out.1]; exact HT.out.2.2.2 hfew.2
    clear hb1 hE hc HOP
    have hrt : NRd w1 w1.heap.size (.slice At tl capt) ts := (HT.out.1.below HC.out.1).mono HC.out.1.size
    have hbW : Below w1.heap.size w1 (w1.alloc (.cells (srCs (.slice At tl capt) (.slice Ac o.1.length capc) (befP Rl o.1) (ansP o.1)) 119)) := (Below.refl _ _).alloc (Nat.le_refl _) _
    have hrb : SrB (w1.alloc (.cells (srCs (.slice At tl capt) (.slice Ac o.1.length capc) (befP Rl o.1) (ansP o.1)) 119)) w1.heap.size (.slice At tl capt) (.slice Ac o.1.length capc) (befP Rl o.1) (ansP o.1) := Lies.new _ _ _
    have hR : RecAt Rl (w1.alloc (.cells (srCs (.slice At tl capt) (.slice Ac o.1.length capc) (befP Rl o.1) (ansP o.1)) 119)) w1.heap.size (.slice At tl capt) (.slice Ac o.1.length capc) ts o.1 :=
      ⟨Lies.cell hrb 0, Lies.cell hrb 1, fun j hj => hrb.row hj, hrb.ans, (hrt.below hbW).mono hbW.size, (HC.out.2.2.below hbW).mono hbW.size, Lies.lt hrb⟩
    have HR := Lib.hid (And.intro hR hbW)
    have HF := Lib.hid (And.intro hfew.1 hts)
    clear hfew hts hrt hbW hrb hR
    go_wp2_with fail
    change Calls _ _ _ (w1.alloc (.cells (srCs (.slice At tl capt) (.slice Ac o.1.length capc) (befP Rl o.1) (ansP o.1)) 119)) _
    generalize (w1.alloc (.cells (srCs (.slice At tl capt) (.slice Ac o.1.length capc) (befP Rl o.1) (ansP o.1)) 119)) = W at HR ⊢
    refine (lstart_any HR.out.1 HF.out.2).mono ?_
    rintro e w2 ⟨pv, rfl, ⟨s, rfl, hs⟩, hb2⟩
    obtain ⟨C0, c0, e0, -⟩ := hs 0 (by omega)
    obtain ⟨C1, c1, e1, -⟩ := hs 1 (by omega)
    obtain ⟨C2, c2, e2, -⟩ := hs 2 (by omega)
    obtain ⟨C3, c3, e3, -⟩ := hs 3 (by omega)
    have e4 : ptV (startP ts).done s = .agg #[.int .u16 0, .slice C0 ((startP ts).st 0).length c0, .slice C1 ((startP ts).st 1).length c1, .slice C2 ((startP ts).st 2).length c2, .slice C3 ((startP ts).st 3).length c3] := by
      show Value.agg #[_, s 0, s 1, s 2, s 3] = _
      rw [e0, e1, e2, e3]
      rfl
    have hst : ∀ i, i < 4 → NAw (fun g => W.heap.size + 1 < g) w2 (four (.slice C0 ((startP ts).st 0).length c0) (.slice C1 ((startP ts).st 1).length c1) (.slice C2 ((startP ts).st 2).length c2) (.slice C3 ((startP ts).st 3).length c3) i) ((startP ts).st i) := fun i hi => by
      have h8 := hs i hi
      rcases nat4 hi with rfl | rfl | rfl | rfl
      · rw [e0] at h8; exact h8
      · rw [e1] at h8; exact h8
      · rw [e2] at h8; exact h8
      · rw [e3] at h8; exact h8
    rw [e4]
    clear e0 e1 e2 e3 e4 hs
    generalize ((startP ts).st 0).length = m0 at hst ⊢
    generalize ((startP ts).st 1).length = m1 at hst ⊢
    generalize ((startP ts).st 2).length = m2 at hst ⊢
    generalize ((startP ts).st 3).length = m3 at hst ⊢
    have hbP : Below w2.heap.size w2 (w2.alloc (.cells (ptCs 0 (four (.slice C0 m0 c0) (.slice C1 m1 c1) (.slice C2 m2 c2) (.slice C3 m3 c3))) 124)) := (Below.refl _ _).alloc (Nat.le_refl _) _
    have hX0 : RtR W w2.heap.size (startP ts) (four (.slice C0 m0 c0) (.slice C1 m1 c1) (.slice C2 m2 c2) (.slice C3 m3 c3)) (w2.alloc (.cells (ptCs 0 (four (.slice C0 m0 c0) (.slice C1 m1 c1) (.slice C2 m2 c2) (.slice C3 m3 c3))) 124)) := by
      exact ⟨hb2.trans (hbP.mono hb2.size), Lies.new _ _ _, fun i hi => ((hst i hi).imp (fun g hg _ => by omega)).next hbP, hb2.size⟩
    have HX0 := Lib.hid hX0
    clear hX0 hbP hst hb2
    go_wp2_with fail
    have hX := HX0.out
    clear HX0
    change Code.wp _ _ _ _ (w2.alloc (.cells (ptCs 0 (four (.slice C0 m0 c0) (.slice C1 m1 c1) (.slice C2 m2 c2) (.slice C3 m3 c3))) 124))
    generalize w2.alloc (.cells (ptCs 0 (four (.slice C0 m0 c0) (.slice C1 m1 c1) (.slice C2 m2 c2) (.slice C3 m3 c3))) 124) = W3 at hX ⊢
    generalize w2.heap.size = P at hX ⊢
    obtain ⟨R, hRR⟩ : ∃ R, R = rightO Rl ts o.1 (startP ts) ws := ⟨_, rfl⟩
    have HRR := Lib.hid hRR
    clear hRR
    go_loopw [31] (fun t wr => ∃ (k : Nat) (p : Pt) (D0 D1 D2 D3 : Option Addr) (a0 a1 a2 a3 b0 b1 b2 b3 : Nat), k ≤ m ∧ t = .int .i64 k ∧ rightO Rl ts o.1 p (ws.drop k) = R ∧ p.done < 512 ∧ RtR W P p (four (.slice D0 a0 b0) (.slice D1 a1 b1) (.slice D2 a2 b2) (.slice D3 a3 b3)) wr) (fun t _ => m - (intOf t).toNat)
    case atStart => exact ⟨0, startP ts, C0, C1, C2, C3, m0, m1, m2, m3, c0, c1, c2, c3, by omega, rfl, by rw [List.drop_zero, HRR.out], by show 0 < 512; decide, hX⟩
    case round =>
      clear hX
      obtain ⟨k, p, D0, D1, D2, D3, a0, a1, a2, a3, b0, b1, b2, b3, hk, rfl, hT, hd, hX⟩ := hrel
      obtain ⟨d, hdd⟩ : ∃ d, d = p.done := ⟨_, rfl⟩
      have hpb : PtB wr P d (four (.slice D0 a0 b0) (.slice D1 a1 b1) (.slice D2 a2 b2) (.slice D3 a3 b3)) := by rw [hdd]; exact hX.pb
      obtain ⟨y0, y1, y2, y3, y4⟩ := hpb.cells
      have HX := Lib.hid hX
      have HT2 := Lib.hid (And.intro hT (And.intro hd hdd))
      by_cases hkm : k < m
      · obtain ⟨x, hx⟩ : ∃ x, ws[k]? = some x := ⟨_, List.getElem?_eq_getElem (by rw [← HTL.out.2]; exact hkm)⟩
        have hwb : Below w.heap.size w wr := (HC.out.1.trans (HR.out.2.mono HC.out.1.size)).trans (hX.below.mono (Nat.le_trans HC.out.1.size HR.out.2.size))
        obtain ⟨g, oo, rfl, -, hcell⟩ := (HT.out.2.1.below hwb).at_ hx
        obtain ⟨x1, x2⟩ := x
        have z0 : wr.cell? ⟨g, oo + k * 2, none⟩ = some (.int .i64 x1) := by have := hcell 0 _ rfl; simpa using this
        have z1 : wr.cell? ⟨g, oo + k * 2 + 1, none⟩ = some (.int .i64 x2) := hcell 1 _ rfl
        have i1 : (0 : Int) ≤ (k : Int) := by omega
        have i2 : (k : Int) < (m : Int) := by omega
        have HXX := Lib.hid hx
        clear hX hT hd hdd hpb hcell hwb hx y0 y1 y2 y3 y4
        go_upto_region 8 with fail
        have hba : Below wr.heap.size wr (wr.alloc (.cells #[.int .i64 x1, .int .i64 x2] 42)) := (Below.refl _ _).alloc (Nat.le_refl _) _
        have hlit := Lies.new wr 42 #[.int .i64 x1, .int .i64 x2]
        have hX4 := HX.out.next hba
        change Code.wp _ _ _ _ (wr.alloc (.cells #[.int .i64 x1, .int .i64 x2] 42))
        generalize wr.alloc (.cells #[.int .i64 x1, .int .i64 x2] 42) = W4 at hlit hX4 ⊢
        generalize wr.heap.size = K2 at hlit ⊢
        have hpb : PtB W4 P d (four (.slice D0 a0 b0) (.slice D1 a1 b1) (.slice D2 a2 b2) (.slice D3 a3 b3)) := by rw [HT2.out.2.2]; exact hX4.pb
        obtain ⟨y0, y1, y2, y3, y4⟩ := hpb.cells
        have l0 : W4.cell? ⟨K2, 0, none⟩ = some (.int .i64 x1) := Lies.cell hlit 0
        have HX4 := Lib.hid (And.intro hX4 hlit)
        clear hba hlit hX4 hpb z0 z1
        go_wp2_with fail
        refine (perform_int (HR.out.1.next HX4.out.1.below) HF.out.2 HF.out.1 (by rw [← HTL.out.1]; exact HT.out.2.2.1) HT2.out.2.2 (by have := HT2.out.2.1; have := HT2.out.2.2; omega) D0 D1 D2 D3 a0 a1 a2 a3 b0 b1 b2 b3 HX4.out.1.st x1).mono ?_
        rintro e w5 ⟨hb5, d2, C0, C1, C2, C3, m0, m1, m2, m3, c0, c1, c2, c3, res, rfl, hpost⟩
        clear y0 y1 y2 y3 y4 l0
        have hX5 := HX4.out.1.next hb5
        have hl5 := Lies.below HX4.out.2 hb5 (Lies.lt HX4.out.2)
        have hbz : Below w5.heap.size w5 (w5.alloc (.cells (ptCs d2 (four (.slice C0 m0 c0) (.slice C1 m1 c1) (.slice C2 m2 c2) (.slice C3 m3 c3))) 124)) := (Below.refl _ _).alloc (Nat.le_refl _) _
        have hpz : PtB (w5.alloc (.cells (ptCs d2 (four (.slice C0 m0 c0) (.slice C1 m1 c1) (.slice C2 m2 c2) (.slice C3 m3 c3))) 124)) w5.heap.size d2 (four (.slice C0 m0 c0) (.slice C1 m1 c1) (.slice C2 m2 c2) (.slice C3 m3 c3)) := Lies.new _ _ _
        have HX6 := Lib.hid (And.intro (hX5.next hbz) (And.intro (Lies.below hl5 hbz (Lies.lt hl5)) (And.intro hpz (fun h i hi => ((hpost h).2.2 i hi).next hbz))))
        have HP9 := Lib.hid (fun h => And.intro (hpost h).1 (hpost h).2.1)
        have hPlt := Lies.lt hX5.pb
        have hlt4 : P < W4.heap.size := Lies.lt HX4.out.1.pb
        have hdrop : ws.drop k = (x1, x2) :: ws.drop (k + 1) := by
          have h1 := (List.getElem?_eq_some_iff.1 HXX.out)
          obtain ⟨h2, h3⟩ := h1
          rw [List.drop_eq_getElem_cons h2, h3]
        have hT9 := HT2.out.1
        rw [hdrop, rightO] at hT9
        have HT9 := Lib.hid hT9
        clear hb5 hpost hX5 hl5 hbz hpz hdrop hT9
        go_upto_region 9 with fail
        change Code.wp _ _ _ _ (w5.alloc (.cells (ptCs d2 (four (.slice C0 m0 c0) (.slice C1 m1 c1) (.slice C2 m2 c2) (.slice C3 m3 c3))) 124))
        generalize w5.alloc (.cells (ptCs d2 (four (.slice C0 m0 c0) (.slice C1 m1 c1) (.slice C2 m2 c2) (.slice C3 m3 c3))) 124) = W6 at HX6 ⊢
        generalize hK3 : w5.heap.size = K3 at HX6 hPlt ⊢
        clear hK3
        have l1 : W6.cell? ⟨K2, 1, none⟩ = some (.int .i64 x2) := Lies.cell HX6.out.2.1 1
        have hHZ : Below w.heap.size w W6 := (HC.out.1.trans (HR.out.2.mono HC.out.1.size)).trans (HX6.out.1.below.mono (Nat.le_trans HC.out.1.size HR.out.2.size))
        have HHZ := Lib.hid hHZ
        clear hHZ
        cases hnb : nextB Rl ts o.1 p x1
        · have hRf : R = false := by rw [← HT9.out, hnb]; rfl
          have HRF := Lib.hid hRf
          clear hRf hnb
          go_wp2_with fail
          go_ret2
          exact ⟨HHZ.out, by rw [← HRR.out, HRF.out, HC.out.2.1]; rfl⟩
        · by_cases hrx : res = x2
          · have hr2 : (res != x2) = false := by rw [bne_eq_false_iff_eq]; exact hrx
            have hgo : rightO Rl ts o.1 (nextP ts o.1 p x1.toNat) (ws.drop (k + 1)) = R := by rw [← HT9.out, if_pos ⟨hnb, by rw [← (HP9.out hnb).2]; exact hrx⟩]
            have HGO := Lib.hid (And.intro hgo hnb)
            clear hgo hnb hrx
            have q0 : W6.cell? ⟨K3, 0, none⟩ = some (.int .u16 (d2 : Nat)) := HX6.out.2.2.1.cells.1
            have q1 : W6.cell? ⟨K3, 1, none⟩ = some (.slice C0 m0 c0) := HX6.out.2.2.1.cells.2.1
            have q2 : W6.cell? ⟨K3, 2, none⟩ = some (.slice C1 m1 c1) := HX6.out.2.2.1.cells.2.2.1
            have q3 : W6.cell? ⟨K3, 3, none⟩ = some (.slice C2 m2 c2) := HX6.out.2.2.1.cells.2.2.2.1
            have q4 : W6.cell? ⟨K3, 4, none⟩ = some (.slice C3 m3 c3) := HX6.out.2.2.1.cells.2.2.2.2
            have hpb6 : PtB W6 P d (four (.slice D0 a0 b0) (.slice D1 a1 b1) (.slice D2 a2 b2) (.slice D3 a3 b3)) := by rw [HT2.out.2.2]; exact HX6.out.1.pb
            obtain ⟨y0, y1, y2, y3, y4⟩ := hpb6.cells
            have fP := hpb6.free
            go_wp2_with fail
            clear q0 q1 q2 q3 q4 y0 y1 y2 y3 y4 fP
            have hfb : Below W.heap.size W (fillP W6 P d2 (four (.slice C0 m0 c0) (.slice C1 m1 c1) (.slice C2 m2 c2) (.slice C3 m3 c3))) := fillP_below HX6.out.1.below HX6.out.1.bp d2 (four (.slice C0 m0 c0) (.slice C1 m1 c1) (.slice C2 m2 c2) (.slice C3 m3 c3))
            have hfp : PtB (fillP W6 P d2 (four (.slice C0 m0 c0) (.slice C1 m1 c1) (.slice C2 m2 c2) (.slice C3 m3 c3))) P d2 (four (.slice C0 m0 c0) (.slice C1 m1 c1) (.slice C2 m2 c2) (.slice C3 m3 c3)) := hpb6.fill d2 (four (.slice C0 m0 c0) (.slice C1 m1 c1) (.slice C2 m2 c2) (.slice C3 m3 c3))
            have hfa := fun g (hg : g ≠ P) => fillP_far (w := W6) hg d2 (four (.slice C0 m0 c0) (.slice C1 m1 c1) (.slice C2 m2 c2) (.slice C3 m3 c3))
            have hfs : W6.heap.size ≤ (fillP W6 P d2 (four (.slice C0 m0 c0) (.slice C1 m1 c1) (.slice C2 m2 c2) (.slice C3 m3 c3))).heap.size := (fillP_below (Below.refl 0 W6) (g := P) (Nat.zero_le _) d2 (four (.slice C0 m0 c0) (.slice C1 m1 c1) (.slice C2 m2 c2) (.slice C3 m3 c3))).size
            have hd2 := (HP9.out HGO.out.2).1
            have hX7 : RtR W P (nextP ts o.1 p x1.toNat) (four (.slice C0 m0 c0) (.slice C1 m1 c1) (.slice C2 m2 c2) (.slice C3 m3 c3)) (fillP W6 P d2 (four (.slice C0 m0 c0) (.slice C1 m1 c1) (.slice C2 m2 c2) (.slice C3 m3 c3))) := by
              refine ⟨hfb, by rw [← hd2]; exact hfp, fun i hi => ?_, HX6.out.1.bp⟩
              refine ((HX6.out.2.2.2 HGO.out.2 i hi).imp (S' := fun g => g ≠ P) (fun g hg hS => ?_)).keep hfs (fun g hg _ => hfa g hg)
              rcases hS with hS | hS
              · exact hS
              · omega
            have HX7 := Lib.hid hX7
            clear hfb hfp hfa hfs hX7
            go_wp2_with fail
            go_roundw
            case rel =>
              refine ⟨k + 1, nextP ts o.1 p x1.toNat, C0, C1, C2, C3, m0, m1, m2, m3, c0, c1, c2, c3, by omega, by go_num, HGO.out.1, ?_, HX7.out⟩
              have h1 := HGO.out.2
              unfold nextB at h1
              rw [Bool.and_eq_true, decide_eq_true_iff] at h1
              exact Nat.or_lt_two_pow (n := 9) HT2.out.2.1 (Nat.pow_lt_pow_right (by omega) (by have := HF.out.1; omega))
            case measure => simp [intOf]; omega
          · have hr2 : (res != x2) = true := by rw [bne_iff_ne]; exact hrx
            have hRf : R = false := by rw [← HT9.out, if_neg (fun h => hrx (by rw [(HP9.out hnb).2]; exact h.2))]
            have HRF := Lib.hid hRf
            clear hRf hnb hrx
            go_wp2_with fail
            go_ret2
            exact ⟨HHZ.out, by rw [← HRR.out, HRF.out, HC.out.2.1]; rfl⟩
      · obtain rfl : m = k := by omega
        rw [List.drop_eq_nil_of_le (by rw [← HTL.out.2]; exact Nat.le_refl _), rightO] at hT
        have HT3 := Lib.hid hT
        clear hX hT hd hdd hpb
        go_wp2_with fail
        refine (complete_any (HR.out.1.next HX.out.below) HF.out.1 (by have := HT2.out.2.1; have := HT2.out.2.2; omega : d < 65536) (four (.slice D0 a0 b0) (.slice D1 a1 b1) (.slice D2 a2 b2) (.slice D3 a3 b3)) p HT2.out.2.2.symm).mono ?_
        rintro e w4 ⟨rfl, hb4⟩
        have HZ := Lib.hid ((HC.out.1.trans (HR.out.2.mono HC.out.1.size)).trans ((HX.out.next hb4).below.mono (Nat.le_trans HC.out.1.size HR.out.2.size)))
        clear hb4
        go_wp2_with fail
        go_ret2
        exact ⟨HZ.out, by rw [HT3.out, HRR.out, HC.out.2.1]; rfl⟩


set_option maxHeartbeats 4000000 in
theorem right_any {tv lv sv : Value} {ts : List Int} {l : List Ev} {ws : List (Int × Int)} {w : World} (ht : NRd w w.heap.size tv ts) (hl : ERd w w.heap.size lv l) (hw : SRd w w.heap.size sv ws) :
    Calls Tryd.prog 21 #[tv, lv, sv] w (RightPost (aheadB (callsOf ts l).1) w ts (callsOf ts l) ws) := by
  have HTM := Lib.hid (realTime_any ht hl)
  have HT := Lib.hid (And.intro ht (And.intro hl hw))
  obtain ⟨At, capt, rfl, -, -⟩ := ht.is
  obtain ⟨Al, capl, rfl, -, -⟩ := hl.is
  obtain ⟨As, caps, rfl, -, -⟩ := hw.is
  clear ht hl hw
  obtain ⟨tl, htl⟩ : ∃ tl, tl = ts.length := ⟨_, rfl⟩
  obtain ⟨L, hL⟩ : ∃ L, L = l.length := ⟨_, rfl⟩
  obtain ⟨m, hm⟩ : ∃ m, m = ws.length := ⟨_, rfl⟩
  rw [← htl, ← hL] at HTM
  rw [← htl, ← hL, ← hm] at HT
  rw [← htl, ← hL, ← hm]
  clear htl hL hm
  go_enter Tryd.func21, Tryd.ntmps21
  go_wp2_with fail
  refine HTM.out.mono ?_
  rintro e w1 ⟨hb1, N, r, rfl, hr, hrr⟩
  have hal : Below w1.heap.size w1 (w1.alloc (.cells (relCs N r) 36)) := (Below.refl _ _).alloc (Nat.le_refl _) _
  have hbW : Below w.heap.size w (w1.alloc (.cells (relCs N r) 36)) := hb1.trans (hal.mono hb1.size)
  have hrl : RelB (w1.alloc (.cells (relCs N r) 36)) w1.heap.size N r := Lies.new _ _ _
  have HB := Lib.hid hbW
  by_cases hE : searchE (callsOf ts l) = 0
  · have c0 := hrl.size
    obtain ⟨c1, c2, c3, c4, c5, c6, c7, c8, c9, c10, c11, c12⟩ := hrl.rows
    have hF := rightIn_any (Rl := aheadB (callsOf ts l).1) (N := N) (r := r) ((HT.out.1.below hbW).mono hbW.size) ((HT.out.2.1.below hbW).mono hbW.size) ((HT.out.2.2.below hbW).mono hbW.size) hr (fun h i _ => by rw [hrr h])
    have HF := Lib.hid hF
    have HE := Lib.hid hE
    rw [hE]
    clear hb1 hr hrr hal hbW hrl hE hF HTM
    go_wp2_with fail
    refine HF.out.mono ?_
    rintro e w2 ⟨hb2, rfl⟩
    have H2 := Lib.hid (HB.out.trans (hb2.mono HB.out.size))
    clear hb2 c0 c1 c2 c3 c4 c5 c6 c7 c8 c9 c10 c11 c12
    go_wp2_with fail
    go_ret2
    exact ⟨H2.out, rfl⟩
  · have hz : (searchE (callsOf ts l) != 0) = true := by rw [bne_iff_ne]; exact hE
    have HE := Lib.hid hE
    clear hb1 hr hrr hal hbW hrl hE HTM
    generalize hEE : searchE (callsOf ts l) = E at hz HE ⊢
    have HEE := Lib.hid hEE
    clear hEE
    go_wp2_with fail
    go_ret2
    exact ⟨HB.out, by rw [HEE.out, decide_eq_false HE.out]; rfl⟩
end Go.Proofs.YtecpjeililiafaaDoor

/-
  Plain: what is found is right; where any order is right one is found, and it is no greater.
-/
namespace Go.Proofs.YtecpjeililiafaaDoor
open Go.RowKit Go.Maps
set_option maxRecDepth 20000
variable {Rl : Nat → Nat → Bool}

/-- Steps found, as they are handed in. -/
def asSteps (S : List (Nat × Int)) : List (Int × Int) := S.map fun x => ((x.1 : Int), x.2)
/-- The order of lists by their calls: the one that ends is the lesser. -/
def lexL : List (Int × Int) → List (Int × Int) → Prop
  | [], _ => True
  | _ :: _, [] => False
  | x :: a, y :: b => x.1 < y.1 ∨ x.1 = y.1 ∧ lexL a b
section
variable {ts : List Int} {cs : List Cl}
theorem next_may {p : Pt} {k : Nat} (h : k < cs.length) : nextB Rl ts cs p (k : Int) = mayB Rl ts cs p k := by
  unfold nextB
  rw [decide_eq_true ⟨by omega, by omega⟩]
  simp
theorem try_some {go : Pt → Option (List (Nat × Int))} {p : Pt} : ∀ m k S, tryO Rl go ts cs p m k = some S → ∃ j l, k ≤ j ∧ j < k + m ∧ mayB Rl ts cs p j = true ∧ go (nextP ts cs p j) = some l ∧ S = (j, (thingO ts cs p j).2.1) :: l
  | 0, k, S, h => by rw [tryO] at h; cases h
  | m + 1, k, S, h => by
    rw [tryO] at h
    split at h
    · rename_i hm
      split at h
      · rename_i l hl
        injection h with h
        exact ⟨k, l, Nat.le_refl _, by omega, hm, hl, h.symm⟩
      · obtain ⟨j, l, h1, h2, h3⟩ := try_some m (k + 1) S h
        exact ⟨j, l, by omega, by omega, h3⟩
    · obtain ⟨j, l, h1, h2, h3⟩ := try_some m (k + 1) S h
      exact ⟨j, l, by omega, by omega, h3⟩
theorem try_first {go : Pt → Option (List (Nat × Int))} {p : Pt} {k : Nat} {S : List (Nat × Int)} (hm : mayB Rl ts cs p k = true) (hg : go (nextP ts cs p k) = some S) : ∀ m k0, k0 ≤ k → k < k0 + m → ∃ j l, tryO Rl go ts cs p m k0 = some ((j, (thingO ts cs p j).2.1) :: l) ∧ (j < k ∨ j = k ∧ l = S)
  | 0, k0, h1, h2 => by omega
  | m + 1, k0, h1, h2 => by
    rw [tryO]
    by_cases e : k0 = k
    · subst e
      rw [if_pos hm, hg]
      exact ⟨k0, S, rfl, .inr ⟨rfl, rfl⟩⟩
    · split
      · split
        · rename_i l hl
          exact ⟨k0, l, rfl, .inl (by omega)⟩
        · exact try_first hm hg m (k0 + 1) (by omega) (by omega)
      · exact try_first hm hg m (k0 + 1) (by omega) (by omega)
/-- What is found is right. -/
theorem find_right : ∀ f p S, findO Rl ts cs f p = some S → rightO Rl ts cs p (asSteps S) = true
  | 0, p, S, h => by
    rw [findO] at h
    split at h
    · rename_i hf
      injection h with h
      subst h
      show rightO Rl ts cs p [] = true
      rw [rightO]; exact hf
    · cases h
  | f + 1, p, S, h => by
    rw [findO] at h
    split at h
    · rename_i hf
      injection h with h
      subst h
      show rightO Rl ts cs p [] = true
      rw [rightO]; exact hf
    · obtain ⟨j, l, _, h2, h3, h4, rfl⟩ := try_some _ _ _ h
      have ih := find_right f _ _ h4
      show rightO Rl ts cs p (((j : Int), _) :: asSteps l) = true
      rw [rightO, if_pos ⟨by rw [next_may (by omega)]; exact h3, by rw [Int.toNat_natCast]⟩, Int.toNat_natCast]
      exact ih
/-- Where an order is right one is found, and it is no greater. -/
theorem right_find : ∀ (ws : List (Int × Int)) (p : Pt) (f : Nat), rightO Rl ts cs p ws = true → leftN cs.length p ≤ f → ∃ S, findO Rl ts cs f p = some S ∧ lexL (asSteps S) ws
  | [], p, f, h, _ => by
    rw [rightO] at h
    exact ⟨[], find_full h f, trivial⟩
  | x :: r, p, f, h, hf => by
    by_cases hfu : fullB cs p = true
    · exact ⟨[], find_full hfu f, trivial⟩
    · rw [rightO] at h
      split at h
      · rename_i hx
        obtain ⟨hx1, hx2⟩ := hx
        have hn := hx1
        unfold nextB at hn
        rw [Bool.and_eq_true, decide_eq_true_iff] at hn
        obtain ⟨⟨h0, h1⟩, hm⟩ := hn
        obtain ⟨k, hk⟩ : ∃ k : Nat, x.1 = (k : Int) := ⟨x.1.toNat, by omega⟩
        rw [hk, Int.toNat_natCast] at hm hx2 h
        have hkn : k < cs.length := by omega
        have hl := left_next (ts := ts) (cs := cs) (p := p) hkn (may_done hm)
        obtain ⟨f', rfl⟩ : ∃ f', f = f' + 1 := ⟨f - 1, by omega⟩
        obtain ⟨S, hS, hlex⟩ := right_find r _ f' h (by omega)
        obtain ⟨j, l, h2, h3⟩ := try_first (go := findO Rl ts cs f') hm hS cs.length 0 (by omega) (by omega)
        refine ⟨_, by rw [findO, if_neg hfu]; exact h2, ?_⟩
        show ((j : Int) < x.1 ∨ (j : Int) = x.1 ∧ lexL (asSteps l) r)
        rcases h3 with h3 | ⟨rfl, rfl⟩
        · exact .inl (by omega)
        · exact .inr ⟨hk.symm, hlex⟩
      · cases h
/-- One is found just if one is right. -/
theorem found_iff {ws : List (Int × Int)} (h : rightO Rl ts cs (startP ts) ws = true) : ∃ S, foundO Rl ts cs = some S ∧ lexL (asSteps S) ws :=
  right_find ws (startP ts) cs.length h (by rw [left_start]; exact Nat.le_refl _)
theorem found_right {S : List (Nat × Int)} (h : foundO Rl ts cs = some S) : rightO Rl ts cs (startP ts) (asSteps S) = true := find_right _ _ _ h
end
end Go.Proofs.YtecpjeililiafaaDoor
