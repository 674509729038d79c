/-
  Joined by a program out of: LJoinedW, HistArg, PowArg, TabArg, End.
-/
import Derived.Test.YtecpjeililiafaaDoorMgBQ
import Derived.Test.YtecpjeililiafaaDoorMgAA
import Derived.Test.YtecpjeililiafaaDoorRows
import Derived.Carry
import Derived.Deep.Slices
import Derived.OpenShut
import Derived.ProofKit
import Derived.Test.YtecpjeililiafaaDoorMgAX
import Derived.Lib.LaidTab
import Derived.LaidMore
import Derived.Lay
import Derived.Test.YtecpjeililiafaaDoorMgBK
import Derived.Below

/-
  The walk of the law LocalJoined.
-/
namespace Go.Proofs.YtecpjeililiafaaDoor
open Go.RowKit
set_option maxRecDepth 20000

set_option maxHeartbeats 4000000 in
theorem ljoined_any {tv lv : Value} {ts : List Int} {l : List Ev} {w : World} (ht : NRd w w.heap.size tv ts) (hl : ERd w w.heap.size lv l) (hp : Pow10 w.heap.size w) (hT : Tab w) :
    Calls Tryd.prog 14 #[tv, lv] w fun e w' => e = .returned (.bool true) ∧ Below w.heap.size w w' := by
  obtain ⟨At, capt, rfl, -, -⟩ := ht.is
  obtain ⟨Al, capl, rfl, hl1, hl2⟩ := hl.is
  unfold maxLen at hl2
  have HT := Lib.hid (And.intro ht (And.intro hl (And.intro hp (And.intro hT (tab_pos hT)))))
  have HF := Lib.hid (lorders_any ht hl hp)
  have hja := @joined_all ts l
  have hz := @openE_zero ts l
  have hct := fun h => @calls_types ts l h
  obtain ⟨tl, htl⟩ : ∃ tl, tl = ts.length := ⟨_, rfl⟩
  obtain ⟨L, hL⟩ : ∃ L, L = l.length := ⟨_, rfl⟩
  rw [← htl, ← hL] at HF HT
  rw [← htl] at hja hct
  rw [← htl, ← hL]
  have HLL := Lib.hid htl
  have HPL := Lib.hid (And.intro hja (And.intro hz hct))
  clear ht hl hp hT htl hL hl1 hl2 hja hz hct
  generalize hEE : openE ts l = E at HF
  have HEE := Lib.hid hEE
  clear hEE
  go_enter Tryd.func14, Tryd.ntmps14
  go_wp2_with fail
  refine HF.out.mono ?_
  rintro e w1 hpo
  have hpo2 : Below w.heap.size w w1 ∧ ((∃ X : Int, X ≠ 0 ∧ e = .returned (.tuple #[.slice none 0 0, .int .i64 X])) ∨ (E = 0 ∧ (∀ t, t < tl → pB ts l t = true) ∧ ∃ g F, e = .returned (.tuple #[.slice (some ⟨g, 0, none⟩) tl tl, .int .i64 0]) ∧ w.heap.size ≤ g ∧ VTab w1 g tl F ∧ ∀ t, t < tl → TOwn w1 w.heap.size (F t) (ordL ts l t))) := by
    obtain ⟨hb, ⟨h1, h2⟩ | ⟨_, _, h2⟩ | h1⟩ := hpo
    · exact ⟨hb, .inl ⟨E, h1, h2⟩⟩
    · exact ⟨hb, .inl ⟨4, by decide, h2⟩⟩
    · exact ⟨hb, .inr h1⟩
  obtain ⟨hb, ⟨X, hX, rfl⟩ | ⟨hE, hall, g, F, rfl, hg, htab, hF⟩⟩ := hpo2
  · have H1 := Lib.hid hb
    have hez : (X != 0) = true := by rw [bne_iff_ne]; exact hX
    have HS := Lib.hid (llives_any w1 ((HT.out.2.2.1.on H1.out).mono H1.out.size))
    clear hb HF hpo hX
    go_wp2_with fail
    refine HS.out.mono ?_
    rintro e w2 ⟨rfl, hb⟩
    have H2 := Lib.hid (H1.out.trans (hb.mono H1.out.size))
    clear hb HS
    have HS := Lib.hid (llives_any w2 ((HT.out.2.2.1.on H2.out).mono H2.out.size))
    go_wp2_with fail
    refine HS.out.mono ?_
    rintro e w3 ⟨rfl, hb⟩
    have H3 := Lib.hid (H2.out.trans (hb.mono H2.out.size))
    clear hb HS
    go_wp2_with fail
    go_ret
    exact ⟨rfl, H3.out⟩
  · have hE' := hE
    subst hE'
    obtain ⟨hja, hz, hct⟩ := HPL.out
    have h0 := HEE.out
    have hc0 := (hz h0).1
    have h4 := hct hc0
    obtain ⟨ws, hjo, hrng, hlen, hown, hrt⟩ := hja h0 hall
    have H1 := Lib.hid hb
    have hq := QRd.of_tab htab hF (by omega)
    have hqw : (List.range tl).map (ordL ts l) = ordW ts l := by unfold ordW; rw [HLL.out]
    rw [hqw] at hq
    have HQ := Lib.hid hq
    have HOW := Lib.hid (And.intro hrng (And.intro hlen (And.intro hown hrt)))
    have HJO := Lib.hid hjo
    have HS := Lib.hid (llives_any w1 ((HT.out.2.2.1.on H1.out).mono H1.out.size))
    have HC0 := Lib.hid hc0
    clear hb HF hpo hE hall hg htab hF hja hz hct h0 hjo hrng hlen hown hrt hq hqw HPL hc0
    go_wp2_with fail
    refine HS.out.mono ?_
    rintro e w2 ⟨rfl, hb⟩
    have H2 := Lib.hid (H1.out.trans (hb.mono H1.out.size))
    have HQ2 := Lib.hid ((HQ.out.below hb).mono hb.size)
    have HJ := Lib.hid (ljoin_any ((HT.out.1.below H2.out).mono H2.out.size) ((HT.out.2.1.below H2.out).mono H2.out.size) HQ2.out (HT.out.2.2.2.1.below H2.out HT.out.2.2.2.2))
    clear hb HS HQ
    rw [HJO.out] at HJ
    go_wp2_with fail
    refine HJ.out.mono ?_
    rintro e w3 ⟨hb, v, rfl, hv⟩
    have H3 := Lib.hid (H2.out.trans (hb.mono H2.out.size))
    have HQ3 := Lib.hid ((HQ2.out.below hb).mono hb.size)
    have HV3 := Lib.hid hv
    obtain ⟨Av, cv, rfl, -, hcv⟩ := hv.is
    unfold maxLen at hcv
    have HC := Lib.hid (calls_any ((HT.out.1.below H3.out).mono H3.out.size) ((HT.out.2.1.below H3.out).mono H3.out.size))
    clear hb HJ HQ2 hv
    go_wp2_with fail
    refine HC.out.mono ?_
    rintro e w4 ⟨c, rfl, hb, hc⟩
    have H4 := Lib.hid (H3.out.trans (hb.mono H3.out.size))
    have HQ4 := Lib.hid ((HQ3.out.below hb).mono hb.size)
    have HV4 := Lib.hid ((HV3.out.below hb).mono hb.size)
    have HCC := Lib.hid hc
    obtain ⟨Ac, cc, rfl, -, hcc⟩ := hc.is
    unfold maxLen at hcc
    clear hb HC HQ3 HV3 hc
    rw [HC0.out]
    generalize (callsOf ts l).2.1 = at1
    have HOK := Lib.hid (ok_zero (IRd.fresh w4 25 [0, 0] 2 rfl #[.int .i64 0, .int .i64 0] rfl) (by decide) (by decide))
    obtain ⟨cs, hcs⟩ : ∃ cs, cs = (callsOf ts l).1 := ⟨_, rfl⟩
    rw [← hcs] at HOW HCC ⊢
    have HCS := Lib.hid hcs
    clear hcs
    obtain ⟨m, hm⟩ : ∃ m, m = ws.length := ⟨_, rfl⟩
    obtain ⟨n, hn⟩ : ∃ n, n = cs.length := ⟨_, rfl⟩
    rw [← hm] at HV4
    rw [← hn] at HCC
    dsimp only
    rw [← hm, ← hn]
    have HMN := Lib.hid (And.intro hm hn)
    clear hm hn
    go_wp2_with fail
    refine HOK.out.mono ?_
    rintro e w5 ⟨rfl, rfl⟩
    have hal : Below w4.heap.size w4 (w4.alloc (.cells #[.int .i64 0, .int .i64 0] 25)) := (Below.refl _ _).alloc (Nat.le_refl _) _
    have H5 := Lib.hid (H4.out.trans (hal.mono H4.out.size))
    have HX := Lib.hid (And.intro ((HQ4.out.below hal).mono hal.size) (And.intro ((HV4.out.below hal).mono hal.size) ((HCC.out.below hal).mono hal.size)))
    clear HOK hal HQ4 HV4 HCC
    go_wp2_with fail
    have H5' := H5
    change Code.wp _ _ _ _ (w4.alloc (.cells #[.int .i64 0, .int .i64 0] 25))
    generalize w4.alloc (.cells #[.int .i64 0, .int .i64 0] 25) = W at H5 HX ⊢
    clear H5'
    obtain ⟨B, hB⟩ : ∃ B, B = W.heap.size := ⟨_, rfl⟩
    rw [← hB] at HX
    have hWW : Below B W W := hB ▸ Below.refl _ _
    have HBS := Lib.hid hB
    clear hB
    go_loopw [63] (fun i wr => ∃ k : Nat, k ≤ tl ∧ i = .int .i64 k ∧ Below B W wr) (fun i _ => tl - (intOf i).toNat)
    case atStart => exact ⟨0, by omega, rfl, hWW⟩
    case round =>
      clear hWW
      obtain ⟨k, hk, rfl, hbr⟩ := hrel
      by_cases hkt : k < tl
      · have hx : (ordW ts l)[k]? = some (ordL ts l k) := ordW_at (by rw [← HLL.out]; exact hkt)
        obtain ⟨g', o', Al', cl', e1, hgB, d0, hrow⟩ := (HX.out.1.below hbr).at_ hx
        injection e1 with e1
        injection e1 with e1 e2
        subst e1 e2
        have hown := HOW.out.2.2.1 k hkt
        generalize ordL ts l k = row at d0 hrow hown
        rw [Nat.zero_add] at d0
        obtain ⟨R, hR⟩ : ∃ R, R = row.length := ⟨_, rfl⟩
        rw [← hR] at d0 hrow
        have i1 : (0 : Int) ≤ (k : Int) := by omega
        have i2 : (k : Int) < (tl : Int) := by omega
        have HGB := Lib.hid hgB
        have HD := Lib.hid (And.intro d0 (And.intro hrow hown))
        have HBR := Lib.hid hbr
        clear hx d0 hrow hown hbr hR
        go_wp2_with fail
        have ho0 : TOwn wr B (.slice none 0 0) (ownW cs k (ws.take 0)) := TOwn.nil _ _
        have hb0 : Below B wr wr := Below.refl _ _
        go_loopw [14, 68] (fun v i wq => ∃ j : Nat, j ≤ m ∧ i = .int .i64 j ∧ Below B wr wq ∧ TOwn wq B v (ownW cs k (ws.take j))) (fun _ i _ => m - (intOf i).toNat)
        case atStart => exact ⟨0, by omega, rfl, hb0, ho0⟩
        case round =>
          clear ho0 hb0
          obtain ⟨j, hj, rfl, hbq, hoq⟩ := hrel
          by_cases hjm : j < m
          · obtain ⟨x, hx⟩ : ∃ x, ws[j]? = some x := ⟨_, List.getElem?_eq_getElem (by rw [← HMN.out.1]; exact hjm)⟩
            have hst := ownW_step (cs := cs) (t := k) hx
            have hxr := HOW.out.1 x (List.mem_of_getElem? hx)
            have hbw := HBR.out.trans hbq
            obtain ⟨g2, o2, rfl, -, x0, x1⟩ := (HX.out.2.1.below hbw).sp hx
            have hac : atC cs x = cs.getD x.1.toNat default := rfl
            obtain ⟨q1, q2⟩ := x
            simp only at x0 x1 hxr hac
            obtain ⟨q, rfl⟩ : ∃ q : Nat, q1 = (q : Int) := ⟨q1.toNat, by omega⟩
            have hqn : q < n := by have := HMN.out.2; omega
            obtain ⟨y, hy⟩ : ∃ y, cs[q]? = some y := ⟨_, List.getElem?_eq_getElem (by have := HMN.out.2; omega)⟩
            obtain ⟨g3, o3, rfl, hg3, y0, y1, -⟩ := (HX.out.2.2.below hbw).cl hy
            rw [Int.toNat_natCast, List.getD_eq_getElem?_getD, hy, Option.getD_some] at hac
            rw [hac] at hst
            have hyt : 0 ≤ y.thing := (HCS.out ▸ @calls_thing ts l) y (List.mem_of_getElem? hy) |>.1
            have hpl : (ownW cs k (ws.take j)).length ≤ 1000 := by
              have h1 : (ownW cs k (ws.take j)).length ≤ (ws.take j).length := List.length_filter_le _ _
              rw [List.length_take] at h1
              have := HOW.out.2.1
              omega
            have hal : Below wr.heap.size wr (wr.alloc (.cells #[.int .i64 q, .int .i64 q2] 42)) := (Below.refl _ _).alloc (Nat.le_refl _) _
            have hnew : Lies (wr.alloc (.cells #[.int .i64 q, .int .i64 q2] 42)) wr.heap.size 42 #[.int .i64 q, .int .i64 q2] := Lies.new _ _ _
            have hbs : B ≤ wr.heap.size := by
              have h1 := hbw.size
              have := HBS.out
              omega
            have y2 := (Below.cell (p := ⟨g3, o3 + q * 7 + 1, none⟩) (hal.mono (Nat.le_refl _)) (Nat.lt_of_lt_of_le hg3 hbs)).trans y1
            have j1 : (0 : Int) ≤ (j : Int) := by omega
            have j2 : (j : Int) < (m : Int) := by omega
            have q3 : (0 : Int) ≤ (q : Int) := by omega
            have q4 : (q : Int) < (n : Int) := by omega
            have hm12 : m ≤ 12 := by have := HOW.out.2.1; have := HMN.out.1; omega
            have HO := Lib.hid (And.intro (hbq.trans (hal.mono hbs)) (And.intro (hoq.below hal) (And.intro hst (And.intro hpl hbs))))
            clear hbq hoq hst hpl hbw hx hxr hac hy y0 y1 hal
            go_upto_region 15 with fail
            change Code.wp _ _ _ _ (wr.alloc (.cells #[.int .i64 q, .int .i64 q2] 42))
            have hsz : (wr.alloc (.cells #[.int .i64 q, .int .i64 q2] 42)).heap.size = wr.heap.size + 1 := by simp
            generalize wr.alloc (.cells #[.int .i64 q, .int .i64 q2] 42) = W2 at hnew HO y2 hsz ⊢
            generalize wr.heap.size = X at hnew HO hsz ⊢
            have c0 : W2.cell? ⟨X, 0, none⟩ = some (.int .i64 q) := Lies.cell hnew 0
            have c1 : W2.cell? ⟨X, 1, none⟩ = some (.int .i64 q2) := Lies.cell hnew 1
            clear x0 x1 hnew hbs
            generalize y.thing = yt at y2 hyt HO
            by_cases h3 : yt = (k : Int)
            · have hz : (yt == (k : Int)) = true := by rw [beq_iff_eq]; exact h3
              have hst := HO.out.2.2.1
              rw [if_pos (by omega)] at hst
              have HST := Lib.hid hst
              have HSZ := Lib.hid hsz
              clear hst h3 hsz
              go_wp2_with (at_builtin; refine wpList_app_t rfl (.tmp 90) (.tmp 92) rfl B W2.heap.size _ _ (q : Int) q2 rfl rfl (HO.out.2.1.alloc _) (Lies.new _ _ _) HO.out.2.2.2.1 (by have := HO.out.2.2.2.2; have := HSZ.out; simp; omega) ?_; intro v' w5 ho5 hb5)
              go_roundw
              case rel => exact ⟨j + 1, by omega, by go_num, HO.out.1.trans (((Below.refl _ _).alloc (by have := HO.out.2.2.2.2; have := HSZ.out; omega) _).trans hb5), by rw [HST.out]; exact ho5⟩
              case measure => simp [intOf]; omega
            · have hz : (yt == (k : Int)) = false := by rw [beq_eq_false_iff_ne]; exact h3
              have hst := HO.out.2.2.1
              rw [if_neg (by omega), List.append_nil] at hst
              have HST := Lib.hid hst
              clear hst h3 hsz
              go_wp2_with fail
              go_roundw
              case rel => exact ⟨j + 1, by omega, by go_num, HO.out.1, by rw [HST.out]; exact HO.out.2.1⟩
              case measure => simp [intOf]; omega
          · obtain rfl : m = j := by omega
            have hfull : ownW cs k (ws.take m) = row := by rw [List.take_of_length_le (by rw [← HMN.out.1]; exact Nat.le_refl _)]; exact HD.out.2.2
            rw [hfull] at hoq
            have hbw := HBR.out.trans hbq
            have hrw2 := HD.out.2.1.below (hbq)
            have d1 := (hbq.cell (p := ⟨g, k, none⟩) HGB.out).trans HD.out.1
            have hee := eqSt_any hoq.rd hrw2
            have hdd : decide (row = row) = true := decide_eq_true rfl
            rw [hdd] at hee
            have HEQ := Lib.hid hee
            have HBW := Lib.hid hbw
            obtain ⟨Ao, co, rfl, -, -⟩ := hoq.rd.is
            clear hfull hbq hoq hbw hrw2 hee hdd
            go_wp2_with fail
            refine HEQ.out.mono ?_
            rintro e w6 ⟨rfl, hb6⟩
            have HB6 := Lib.hid (HBW.out.trans (hb6.mono (by have := HBW.out.size; have := HBS.out; omega)))
            clear hb6 HEQ
            go_wp2_with fail
            go_roundw
            case rel => exact ⟨k + 1, by omega, by go_num, HB6.out⟩
            case measure => simp [intOf]; omega
      · obtain rfl : k = tl := by omega
        have hbl : Below w.heap.size w wr := H5.out.trans (hbr.mono (by rw [HBS.out]; exact H5.out.size))
        have HB := Lib.hid hbl
        have HR := Lib.hid (right_say (ws := ws) ((HT.out.1.below hbl).mono hbl.size) ((HT.out.2.1.below hbl).mono hbl.size) ((HX.out.2.1.below hbr).mono (by rw [HBS.out]; rw [HBS.out] at hbr; exact hbr.size)))
        have HRT := Lib.hid HOW.out.2.2.2
        clear hbl hbr
        go_wp2_with fail
        refine HR.out.mono ?_
        rintro e w6 ⟨hb6, rfl⟩
        have HB6 := Lib.hid (HB.out.trans (hb6.mono HB.out.size))
        have hrt := HRT.out
        generalize searchE (callsOf ts l) = E at hrt ⊢
        generalize rightB ts (callsOf ts l) ws = rb at hrt ⊢
        clear hb6 HR
        by_cases hE : E = 0
        · obtain rfl := hrt hE
          subst hE
          go_wp2_with fail
          go_ret
          exact ⟨rfl, HB6.out⟩
        · have hez : (E != 0) = true := by rw [bne_iff_ne]; exact hE
          clear hrt
          go_wp2_with fail
          go_ret
          exact ⟨rfl, HB6.out⟩
end Go.Proofs.YtecpjeililiafaaDoor

/-
  Slices of numbers, of events, of calls as arguments of a law.
-/
namespace Go.Proofs.YtecpjeililiafaaDoor
open Go.RowKit Go.ChangeShapes Go.WideShapes Go.ChangeAt
set_option maxRecDepth 20000

theorem laidOutIt : laidOutB Tryd.prog = true := by kernel_rfl
theorem evShape : ∃ f0 f1 f2 f3, Tryd.prog.underlying 77 = some (.struct #[f0, f1, f2, f3]) ∧ (f0.type = 3 ∧ f0.offset = 0) ∧ (f1.type = 3 ∧ f1.offset = 1) ∧ (f2.type = 3 ∧ f2.offset = 2) ∧ (f3.type = 3 ∧ f3.offset = 3) :=
  ⟨_, _, _, _, Tryd.underlying77, ⟨rfl, rfl⟩, ⟨rfl, rfl⟩, ⟨rfl, rfl⟩, rfl, rfl⟩
theorem evSize : Tryd.prog.cellsOf 77 = 4 := by kernel_rfl
theorem clSize : Tryd.prog.cellsOf 57 = 7 := by kernel_rfl
theorem intSize : Tryd.prog.cellsOf 3 = 1 := by kernel_rfl

theorem cell_in {w : World} {p : Addr} {v : Value} (h : w.cell? p = some v) : p.block < w.heap.size := World.block_lt_of_cell? w p h
theorem plus_plain (g o j : Nat) : (⟨g, o, none⟩ : Addr).add j = ⟨g, o + j, none⟩ := WideShapes.add_plain g o j

section
variable {H : Type} {enc : TypeId × Value → H} {α : Type} {s : Nat} {f : α → List Value}
/-- A slice whose elements read each as one of α reads as a list of these. -/
theorem open_list {t e : TypeId} (ht : Tryd.prog.underlying t = some (.slice e)) (hs : Tryd.prog.cellsOf e = s) (hs0 : 0 < s) (hf : ∀ x, (f x).length = s) {w : World} {r : Reach} {b0 : Nat} {v : Value} {d : DataW H} {p : List MemPlace}
    (key : ∀ (fuel : Nat) (cs : List Value) (x : DataW H × List MemPlace), DataW.trod enc Tryd.prog w 0 (fun _ => true) true fuel e cs = some x → ∃ y : α, cs = f y)
    (hv : Value.okWide Tryd.prog w r b0 t v) (h : DataW.Trod enc Tryd.prog w 0 (fun _ => true) true t v d p) : ∃ l : List α, LRd s f w w.heap.size v l := by
  obtain ⟨A, len, cap, rfl⟩ := okWide_slice ht hv
  obtain ⟨fuel, hfu⟩ := h
  rcases Deep.open_slice ht hfu with ⟨hc, _⟩ | ⟨a, len', cap', m, n, D, Pl, hc, _, hl, hm, hmm, _, hi⟩
  · simp only [Value.cells, List.cons.injEq, Value.slice.injEq, and_true] at hc
    obtain ⟨rfl, rfl, rfl⟩ := hc
    exact ⟨[], LRd.nil _ _⟩
  · simp only [Value.cells, List.cons.injEq, Value.slice.injEq, and_true] at hc
    obtain ⟨rfl, rfl, rfl⟩ := hc
    rw [hs] at hi
    have hlm : len ≤ m := by rw [hmm]; split <;> omega
    have each : ∀ i, i < len → ∃ y : α, ∀ j u, (f y)[j]? = some u → w.cell? (a.add (i * s + j)) = some u := by
      intro i hil
      obtain ⟨cs, hcs, htr⟩ := hi i (by omega)
      obtain ⟨_, hlen, hcell⟩ := World.cells?_some hcs
      obtain ⟨y, rfl⟩ := key _ _ _ htr
      refine ⟨y, fun j u hu => ?_⟩
      have hj : j < s := by rw [← hf y]; exact (List.getElem?_eq_some_iff.1 hu).1
      have := hcell j hj
      rw [Deep.add_add] at this
      rw [this, hu]
    have pick : ∃ l : List α, l.length = len ∧ ∀ k x, l[k]? = some x → ∀ j u, (f x)[j]? = some u → w.cell? (a.add (k * s + j)) = some u := by
      have all : ∀ q, q ≤ len → ∃ l : List α, l.length = q ∧ ∀ k x, l[k]? = some x → ∀ j u, (f x)[j]? = some u → w.cell? (a.add (k * s + j)) = some u := by
        intro q
        induction q with
        | zero => intro _; exact ⟨[], rfl, fun k x h => by simp at h⟩
        | succ q ih =>
          intro hq
          obtain ⟨l, hl1, hl2⟩ := ih (by omega)
          obtain ⟨y, hy⟩ := each q (by omega)
          refine ⟨l ++ [y], by simp [hl1], fun k x hk => ?_⟩
          rw [List.getElem?_append] at hk
          split at hk
          · exact hl2 k x hk
          · have hkq : k = q := by
              have := (List.getElem?_eq_some_iff.1 hk).1
              simp at this
              omega
            subst hkq
            rw [hl1, Nat.sub_self] at hk
            injection hk with hk
            subst hk
            exact hy
      exact all len (Nat.le_refl _)
    obtain ⟨l, hl1, hl2⟩ := pick
    subst hl1
    refine ⟨l, some a, cap, rfl, hl, hm, fun h0 => ?_⟩
    obtain ⟨g, o, spot⟩ := a
    have h00 : ∃ u, (f l[0])[0]? = some u := ⟨_, List.getElem?_eq_getElem (by rw [hf]; exact hs0)⟩
    obtain ⟨u, hu⟩ := h00
    have h1 := hl2 0 l[0] (List.getElem?_eq_getElem h0) 0 u hu
    have hspot : spot = none := by simpa [Addr.add] using World.cell?_spot h1
    subst hspot
    have hg := cell_in h1
    rw [plus_plain] at hg
    refine ⟨g, o, rfl, hg, fun k x hk j u hu => ?_⟩
    have := hl2 k x hk j u hu
    rwa [plus_plain, ← Nat.add_assoc] at this

theorem open_nums {w : World} {r : Reach} {b0 : Nat} {v : Value} {d : DataW H} {p : List MemPlace} (hv : Value.okWide Tryd.prog w r b0 22 v) (h : DataW.Trod enc Tryd.prog w 0 (fun _ => true) true 22 v d p) : ∃ l, NRd w w.heap.size v l :=
  open_list Tryd.underlying22 intSize (by decide) (fun _ => rfl) (fun fuel cs x h => by
    obtain ⟨n, h1, _, _⟩ := DataW.trod_int Tryd.underlying3 h
    exact ⟨n, h1⟩) hv h

theorem open_evs {w : World} {r : Reach} {b0 : Nat} {v : Value} {d : DataW H} {p : List MemPlace} (hv : Value.okWide Tryd.prog w r b0 23 v) (h : DataW.Trod enc Tryd.prog w 0 (fun _ => true) true 23 v d p) : ∃ l, ERd w w.heap.size v l :=
  open_list Tryd.underlying23 evSize (by decide) (fun _ => rfl) (fun fuel cs x h => by
    obtain ⟨f0, f1, f2, f3, hs, ⟨t0, o0⟩, ⟨t1, o1⟩, ⟨t2, o2⟩, t3, o3⟩ := evShape
    obtain ⟨xs, n, _, _, hlen, hxl, hg⟩ := DataW.trod_struct hs h
    rw [evSize] at hlen
    have hxl' : xs.length = 4 := hxl
    have g0 := hg 0 f0 rfl
    have g1 := hg 1 f1 rfl
    have g2 := hg 2 f2 rfl
    have g3 := hg 3 f3 rfl
    rw [t0, o0, intSize, List.getElem?_eq_getElem (by omega)] at g0
    rw [t1, o1, intSize, List.getElem?_eq_getElem (by omega)] at g1
    rw [t2, o2, intSize, List.getElem?_eq_getElem (by omega)] at g2
    rw [t3, o3, intSize, List.getElem?_eq_getElem (by omega)] at g3
    obtain ⟨n0, e0, _, _⟩ := DataW.trod_int Tryd.underlying3 g0
    obtain ⟨n1, e1, _, _⟩ := DataW.trod_int Tryd.underlying3 g1
    obtain ⟨n2, e2, _, _⟩ := DataW.trod_int Tryd.underlying3 g2
    obtain ⟨n3, e3, _, _⟩ := DataW.trod_int Tryd.underlying3 g3
    match cs, hlen, e0, e1, e2, e3 with
    | [c0, c1, c2, c3], _, e0, e1, e2, e3 =>
      simp at e0 e1 e2 e3
      subst e0 e1 e2 e3
      exact ⟨⟨n0, n1, n2, n3⟩, rfl⟩) hv h
end
end Go.Proofs.YtecpjeililiafaaDoor

/-
  The three listed tables: the powers of ten as they lie. Slices of steps as arguments.
-/
namespace Go.Proofs.YtecpjeililiafaaDoor
open Go.ChangeShapes Go.WideShapes Go.ChangeAt Go.RowKit
set_option maxRecDepth 20000

def tab3Laid : List (String × DataW Unit) := [("math/bits.deBruijn32tab", Rows.laid_math_bits_deBruijn32tab), ("math/bits.deBruijn64tab", Rows.laid_math_bits_deBruijn64tab), ("internal/strconv.uint64pow10", Rows.laid_internal_strconv_uint64pow10)]
theorem laid_behind {P : Program} {x : String × DataW Unit} {rest : List (String × DataW Unit)} {W : World} (h : laidMet P (x :: rest) W) : laidMet P rest W := by
  obtain ⟨ps, ⟨g', t', cs, fuel, p, q, hg', ht', hvar, hd, hrest, hps⟩, hn, hc⟩ := h
  subst hps
  exact ⟨q, hrest, (List.nodup_append.1 hn).2.1, fun b off hm => hc b off (List.mem_append.2 (.inr hm))⟩
theorem pow_of_laid {W : World} (h : laidMetH Tryd.prog tab3Laid W) : Pow10 W.heap.size W := by
  rw [MakeChecks.laidMetH_plain _ _ _ (by kernel_rfl)] at h
  have h3 := laid_behind (laid_behind h)
  have hT : Lib.TabIs Tryd.prog W "internal/strconv.uint64pow10" .u64 Lib.pow10Tab :=
    Lib.tabIs_of_head (rest := []) (show Tryd.prog.globalNamed "internal/strconv.uint64pow10" = some 1 by kernel_rfl) (show (Tryd.prog.globals[1]?).map (·.type) = some 191 by kernel_rfl) Tryd.underlying191 Tryd.underlying164 (by kernel_rfl) (by kernel_rfl) h3
  exact Lib.tabBelow_of_tabIs hT

theorem spShape : ∃ f0 f1, Tryd.prog.underlying 42 = some (.struct #[f0, f1]) ∧ (f0.type = 3 ∧ f0.offset = 0) ∧ (f1.type = 3 ∧ f1.offset = 1) :=
  ⟨_, _, Tryd.underlying42, ⟨rfl, rfl⟩, rfl, rfl⟩
theorem spSize : Tryd.prog.cellsOf 42 = 2 := by kernel_rfl
theorem open_sps {H : Type} {enc : TypeId × Value → H} {w : World} {r : Reach} {b0 : Nat} {v : Value} {d : DataW H} {p : List MemPlace} (hv : Value.okWide Tryd.prog w r b0 24 v) (h : DataW.Trod enc Tryd.prog w 0 (fun _ => true) true 24 v d p) : ∃ l, SRd w w.heap.size v l :=
  open_list Tryd.underlying24 spSize (by decide) (fun _ => rfl) (fun fuel cs x h => by
    obtain ⟨f0, f1, hs, ⟨t0, o0⟩, t1, o1⟩ := spShape
    obtain ⟨xs, n, _, _, hlen, hxl, hg⟩ := DataW.trod_struct hs h
    rw [spSize] at hlen
    have hxl' : xs.length = 2 := hxl
    have g0 := hg 0 f0 rfl
    have g1 := hg 1 f1 rfl
    rw [t0, o0, intSize, List.getElem?_eq_getElem (by omega)] at g0
    rw [t1, o1, intSize, List.getElem?_eq_getElem (by omega)] at g1
    obtain ⟨n0, e0, _, _⟩ := DataW.trod_int Tryd.underlying3 g0
    obtain ⟨n1, e1, _, _⟩ := DataW.trod_int Tryd.underlying3 g1
    match cs, hlen, e0, e1 with
    | [c0, c1], _, e0, e1 =>
      simp at e0 e1
      subst e0 e1
      exact ⟨(n0, n1), rfl⟩) hv h
end Go.Proofs.YtecpjeililiafaaDoor

/-
  The first of the three listed tables, as the row says that it reads.
-/
namespace Go.Proofs.YtecpjeililiafaaDoor
open Go.ChangeShapes Go.WideShapes Go.ChangeAt Go.RowKit
set_option maxRecDepth 20000

theorem tab3_of_laid {W : World} (h : laidMetH Tryd.prog tab3Laid W) : Tab W := by
  rw [MakeChecks.laidMetH_plain _ _ _ (by kernel_rfl)] at h
  obtain ⟨_, ⟨g, t, cs, fuel, p, q, hg, ht, hv, hd, _, _⟩, _, _⟩ := h
  obtain rfl := Option.some.inj ((show Tryd.prog.globalNamed "math/bits.deBruijn32tab" = some 0 by kernel_rfl).symm.trans hg)
  obtain rfl := Option.some.inj ((show (Tryd.prog.globals[0]?).map (·.type) = some 149 by kernel_rfl).symm.trans ht)
  obtain ⟨xs, m, _, ex, _, hl, hel⟩ := DataW.trod_array Tryd.underlying149 hd
  have c5 : Tryd.prog.cellsOf 5 = 1 := by kernel_rfl
  have e3 : xs.map (·.1) = deb.map fun z : Nat => (DataW.lit (.int .u8 (z : Int)) : DataW Unit) := (DataW.agg.inj (Prod.mk.inj ex).1).symm
  intro k hk
  have hE := hel k hk
  rw [c5, Nat.mul_one, List.getElem?_eq_getElem (by omega)] at hE
  obtain ⟨z, e1, e2, _⟩ := DataW.trod_int Tryd.underlying5 hE
  have hz : z = ((deb.getD k 0 : Nat) : Int) := by
    have e4 := congrArg (fun l => l[k]?) e3
    simp only [List.getElem?_map, List.getElem?_eq_getElem (show k < xs.length by omega), List.getElem?_eq_getElem (show k < deb.length from hk), Option.map_some, e2, Option.some.injEq, DataW.lit.injEq, Lit.int.injEq, true_and] at e4
    rw [e4, List.getD_eq_getElem?_getD, List.getElem?_eq_getElem (show k < deb.length from hk)]
    rfl
  have e5 : cs.toList[k]? = some (.int .u8 z) := by
    have := congrArg (fun l => l[0]?) e1
    simpa using this
  rw [World.var?_cell hg hv k, ← hz]
  simpa using e5
end Go.Proofs.YtecpjeililiafaaDoor

/-
  The last step of a row: a walk that leaves all old memory as it was ('Below') pays what the row asks.
-/
namespace Go.Proofs.YtecpjeililiafaaDoor
open Go.ChangeShapes Go.WideShapes Go.ChangeAt Go.RowKit
set_option maxRecDepth 20000

section
variable {H : Type} {enc : TypeId × Value → H} {P : Program} {f : Func} {s : ChangeSpec} {ap fr ho ag : Bool} {W W' : World} {args : Array Value} {v : Value} {ds gs : List (DataW H)} {met pa pv : List MemPlace}

/-- What was met in reading the arguments is old, so it is as it was. -/
theorem end_of_below (hW : DataW.Whole enc P f.params.toList s.vars ap W args.toList ds gs met) (hb : Below W.heap.size W W') (hmet : met = pa ++ pv)
    (hr : ∀ (b : Nat) (sp : Nat → Bool) (hd : Bool), DataW.TrodAll enc P W' b sp hd f.resultTypes.toList (v.resultList f.resultTypes.size) (s.fn H (ds ++ gs)).results [])
    (ha : ∀ sp : Nat → Bool, (∀ p ∈ met, sp p.block = true) → DataW.TrodAll enc P W' 0 sp true f.params.toList args.toList (s.fn H (ds ++ gs)).args pa)
    (hv : ∀ sp : Nat → Bool, (∀ p ∈ met, sp p.block = true) → DataW.TrodVars enc P W' sp s.vars (s.fn H (ds ++ gs)).vars pv)
    (hok : ∀ (j : Nat) (t : TypeId) (r : Value), f.resultTypes[j]? = some t → (v.resultList f.resultTypes.size)[j]? = some r → Value.okWide P W' .any 0 t r) :
    s.post enc P f ap fr ho ag W args v W' := by
  subst hmet
  have old : ∀ {p : MemPlace}, p ∈ pa ++ pv → p.block < W.heap.size := fun hp => hW.lt _ hp
  have mark : ∀ p ∈ pa ++ pv, decide (p.block < W.heap.size) = true := fun p hp => decide_eq_true (old hp)
  have always : ∀ p ∈ pa ++ pv, (fun _ : Nat => true) p.block = true := fun _ _ => rfl
  have same : ([] ++ pa) ++ pv = pa ++ pv := by rw [List.nil_append]
  have keep : W.keptBut W' (fun p => p ∈ pa ++ pv ∧ (p ∈ pa ++ pv)) := World.keptBut_mono (fun p hp => ⟨hp, hp⟩) (hb.frame (· ∈ pa ++ pv))
  have frz : ∀ b off, MemPlace.cell b off ∈ ([] ++ pa) ++ pv → W'.frozen? ⟨b, off, none⟩ = W.frozen? ⟨b, off, none⟩ := fun b off hp => hb.frozen (p := ⟨b, off, none⟩) (old (p := .cell b off) (same ▸ hp))
  have whole := hW
  obtain ⟨_, _, _, _, _, hz, hn⟩ := hW
  refine ⟨ds, gs, pa ++ pv, [], pa, pv, whole, hr _ _ _, ha _ mark, hv _ mark, World.keptBut_mono (fun p hp => ⟨hp.1, Or.inr (List.mem_append.1 hp.2)⟩) keep, fun _ => ⟨hok, _, _, ([] ++ pa) ++ pv, ⟨[] ++ pa, pv, trodAll_append (ha _ always) (hr _ _ _), hv _ always, rfl, ?_, ?_⟩, ?_⟩⟩
  · exact fun b off hp => (frz b off hp).trans (hz b off (same ▸ hp))
  · exact fun h => same ▸ hn h
  · exact fun p hp _ => by simpa using hp
end
end Go.Proofs.YtecpjeililiafaaDoor
