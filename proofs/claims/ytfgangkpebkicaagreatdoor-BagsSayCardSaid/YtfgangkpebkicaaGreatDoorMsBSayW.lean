/-
  Joined by a program out of: BSayW.
-/
import Derived.Test.YtfgangkpebkicaaGreatDoorMsBagRef
import Derived.Test.YtfgangkpebkicaaGreatDoorMgAW
import Derived.Test.YtfgangkpebkicaaGreatDoorMsCallRel
import Derived.Test.YtfgangkpebkicaaGreatDoorMsCallsOf
import Derived.Test.YtfgangkpebkicaaGreatDoorMsBtwRef
import Derived.Test.YtfgangkpebkicaaGreatDoorMgAX

/-
  aliblaw.BagsSay answers true, whatever is handed in.
-/
namespace Go.Proofs.YtfgangkpebkicaaGreatDoor
open Go.RowKit
set_option maxRecDepth 20000

theorem st_nil_eq (w : World) : (binOp .eql 38 (.slice none 0 0) (.slice none 0 0)).run Tryz.prog w = .ok (.bool true) w := by kernel_rfl
theorem st_some_eq (a : Addr) (m c : Nat) (w : World) : (binOp .eql 38 (.slice (some a) m c) (.slice none 0 0)).run Tryz.prog w = .ok (.bool false) w := by kernel_rfl
theorem try_GB {Rl : Nat → Nat → Bool} {go go' : Pt → Option (List (Nat × Int))} {ts : List Int} {cs : List Cl} {p : Pt} (h : ∀ r, go r = go' r) : ∀ m k, tryO Rl go ts cs p m k = tryG (befP Rl cs) go' ts cs p m k
  | 0, k => rfl
  | m + 1, k => by
    rw [tryO, tryG, try_GB h m (k + 1), h]
    rfl
theorem find_GB {Rl : Nat → Nat → Bool} {ts : List Int} {cs : List Cl} : ∀ f p, findO Rl ts cs f p = findG (befP Rl cs) ts cs f p
  | 0, p => rfl
  | f + 1, p => by
    rw [findO, findG, try_GB (fun r => find_GB f r)]
theorem ends_irr {cs : List Cl} (h : ∀ c ∈ cs, c.til = -1 ∨ c.frm < c.til) (i : Nat) : aheadB cs i i = false := by
  unfold aheadB
  rw [decide_eq_false_iff_not]
  rintro ⟨h1, h2⟩
  by_cases hi : i < cs.length
  · have hm : cs.getD i default ∈ cs := by rw [List.getD_eq_getElem?_getD, List.getElem?_eq_getElem hi]; exact List.getElem_mem _
    have := h _ hm
    omega
  · rw [List.getD_eq_getElem?_getD, List.getElem?_eq_none (by omega)] at h2
    exact absurd h2 (by decide)
/-- The reference's LeastOrder of calls of one number: nil just if that number can't be. -/
theorem bgleast_any {l : List Ev} (h0 : (callsOf [4] l).2.2 = 0) {v : Int} (h9 : (ownV (callsOf [4] l).1 v).length ≤ 9) {w : World} {tv cv : Value} {a : Addr} {c N : Nat} (hN : N = (ownV (callsOf [4] l).1 v).length) (ht : NRd w w.heap.size tv [4]) (hc : CRd w w.heap.size cv (ownV (callsOf [4] l).1 v)) (hw : SRd w w.heap.size (.slice (some a) 0 c) []) :
    Calls Tryz.prog 13 #[tv, cv, relV N (relP (aheadB (ownV (callsOf [4] l).1 v)) N), .slice (some a) 0 c] w fun e w' => Below w.heap.size w w' ∧ ((badV (callsOf [4] l).1 v = true ∧ e = .returned (.slice none 0 0)) ∨ (badV (callsOf [4] l).1 v = false ∧ ∃ a n c, e = .returned (.slice (some a) n c))) := by
  subst hN
  have hB := (calls_bagH h0).own v
  have hok : ∀ c ∈ ownV (callsOf [4] l).1 v, CallOk [4] c := fun c hc => calls_callOk h0 c (ownV_mem.1 hc).1
  have hbad : badV (callsOf [4] l).1 v = true ↔ ¬ ∃ ws, Rite [4] (ownV (callsOf [4] l).1 v) ws := badV_iff
  generalize ownV (callsOf [4] l).1 v = cs at h9 hc hB hok hbad ⊢
  have hfo : foundO (aheadB cs) [4] cs = findG (befP (aheadB cs) cs) [4] cs cs.length (startP [4]) := find_GB _ _
  have hfr := found_rite (Rl := aheadB cs) (ts := [4]) (cs := cs) (by omega) (fun c hc => (hok c hc).thing)
  have hre : (∃ ws, RiteP [4] cs (aheadB cs) ws) ↔ ∃ ws, Rite [4] cs ws := ⟨fun ⟨ws, h⟩ => ⟨ws, riteP_iff.1 h⟩, fun ⟨ws, h⟩ => ⟨ws, riteP_iff.2 h⟩⟩
  rw [hre, hfo] at hfr
  have hirr : ∀ i, (relP (aheadB cs) cs.length i).testBit i = false := fun i => by rw [relP_bit, ends_irr hB.ends, Bool.and_false]
  have hb1 : ∀ k, k < cs.length → ∀ i, i < cs.length → ((befP (aheadB cs) cs k).testBit i = (relP (aheadB cs) cs.length i).testBit k) := fun k hk i hi => by
    unfold befP
    rw [relP_bit, relP_bit, Bool.and_comm (decide (k < cs.length))]
  have hb2 : ∀ k i, cs.length ≤ i → (befP (aheadB cs) cs k).testBit i = false := fun k i hi => by
    unfold befP
    rw [relP_bit, decide_eq_false (p := i < cs.length) (by omega), Bool.and_false, Bool.false_and]
  refine (lo_any (b := befP (aheadB cs) cs) (by omega) hirr (by decide) hok hb1 hb2 cs.length [] (startP [4]) Legal.start (by simp) ht hc hw).mono ?_
  rintro e w' ⟨hb, ⟨hn, rfl⟩ | ⟨S, a, n, c, hs, rfl, _⟩⟩
  · exact ⟨hb, .inl ⟨hbad.2 fun hx => (hfr.2 hx) hn, rfl⟩⟩
  · refine ⟨hb, .inr ⟨?_, a, n, c, rfl⟩⟩
    rw [Bool.eq_false_iff]
    intro hbt
    exact hbad.1 hbt (hfr.1 (by rw [hs]; exact fun h => by cases h))
/-- The numbers below m that can't be. -/
noncomputable def badUp (l : List Ev) (m : Nat) : List Int := ((List.range m).map fun (k : Nat) => (k : Int)).filter fun v => ((callsOf [4] l).1.any fun c => c.arg == v) && badV (callsOf [4] l).1 v
theorem badUp_all (l : List Ev) : badUp l 1001 = bagB l := rfl
theorem badUp_len (l : List Ev) (m : Nat) : (badUp l m).length ≤ m := by
  unfold badUp
  have := List.length_filter_le (fun v => ((callsOf [4] l).1.any fun c => c.arg == v) && badV (callsOf [4] l).1 v) ((List.range m).map fun (k : Nat) => (k : Int))
  rw [List.length_map, List.length_range] at this
  exact this
theorem badUp_succ (l : List Ev) (m : Nat) : badUp l (m + 1) = badUp l m ++ (if ((callsOf [4] l).1.any fun c => c.arg == (m : Int)) = true ∧ badV (callsOf [4] l).1 (m : Int) = true then [(m : Int)] else []) := by
  unfold badUp
  rw [List.range_succ, List.map_append, List.filter_append]
  congr 1
  simp only [List.map_cons, List.map_nil]
  by_cases h : ((callsOf [4] l).1.any fun c => c.arg == (m : Int)) = true ∧ badV (callsOf [4] l).1 (m : Int) = true
  · rw [if_pos h, List.filter_cons, if_pos (by rw [h.1, h.2]; rfl)]
    rfl
  · rw [if_neg h, List.filter_cons, if_neg (by rw [Bool.and_eq_true]; exact h)]
    rfl
theorem own_any {cs : List Cl} {v : Int} : (cs.any fun c => c.arg == v) = true ↔ 0 < (ownV cs v).length := by
  rw [List.length_pos_iff_exists_mem, List.any_eq_true]
  simp only [beq_iff_eq, ownV_mem]
theorem own_out {l : List Ev} (h : (callsOf [4] l).2.2 = 0) {v : Int} (hv : ¬ (1 ≤ v ∧ v ≤ 1000)) : (ownV (callsOf [4] l).1 v).length = 0 := by
  have e : ownV (callsOf [4] l).1 v = [] := List.filter_eq_nil_iff.2 fun c hc => by
    have := (calls_bagH h).set c hc
    rw [beq_iff_eq]
    omega
  rw [e]
  rfl
theorem badUp_one {l : List Ev} (h : (callsOf [4] l).2.2 = 0) : badUp l 1 = [] := by
  rw [badUp_succ]
  have h0 : badUp l 0 = [] := rfl
  rw [h0, List.nil_append, if_neg]
  rintro ⟨h1, _⟩
  rw [List.any_eq_true] at h1
  obtain ⟨c, hc, he⟩ := h1
  rw [beq_iff_eq] at he
  have := (calls_bagH h).set c hc
  omega
set_option maxHeartbeats 16000000 in
theorem bsay_any {lv : Value} {l : List Ev} {w : World} (hl : ERd w w.heap.size lv l) (n : Int) (hp : Pow10 w.heap.size w) :
    Calls Tryz.prog 3 #[lv, .int .i64 n] w fun e w' => e = .returned (.bool true) ∧ Below w.heap.size w w' := by
  have HPT := Lib.hid (bpart_any hl n)
  have HL := Lib.hid (And.intro hl hp)
  have HNL := Lib.hid (fun W : World => LRd.of_lit (f := intCs) (s := 1) (w := W) (l := [4]) (fun _ => rfl) 3 (cs := #[.int .i64 4]) rfl (n := 1) rfl (by unfold maxLen; omega))
  obtain ⟨Al, capl, rfl, -, -⟩ := hl.is
  obtain ⟨L, hL⟩ : ∃ L, L = l.length := ⟨_, rfl⟩
  rw [← hL] at HPT HL ⊢
  have HLL := Lib.hid hL
  clear hl hL hp
  go_enter Tryz.func3, Tryz.ntmps3
  go_wp2_with fail
  refine HPT.out.mono ?_
  intro e w1 hck
  obtain ⟨v1, rfl, hb1, ho1⟩ := hck
  obtain ⟨F, hF⟩ : ∃ F, F = (bagP l n).2 := ⟨_, rfl⟩
  rw [← hF]
  have HF := Lib.hid hF
  have HC := Lib.hid (bcheck_any ((HL.out.1.below hb1).mono hb1.size) ((HL.out.2.on hb1).mono hb1.size))
  have H1 := Lib.hid (And.intro hb1 ho1.rd)
  clear hF ho1 hb1 HPT
  go_wp2_with fail
  refine HC.out.mono ?_
  intro e w2 hck
  obtain ⟨hb2, v2, rfl, ho2⟩ := hck
  obtain ⟨E, hE⟩ : ∃ E, E = bagsE l := ⟨_, rfl⟩
  rw [← hE]
  have HE := Lib.hid hE
  have hbw := H1.out.1.trans (hb2.mono H1.out.1.size)
  have hal : Below w2.heap.size w2 (w2.alloc (.cells #[.int .i64 4] 3)) := (Below.refl _ _).alloc (Nat.le_refl _) _
  have hb3 := hbw.trans (hal.mono hbw.size)
  have hn3 := (HNL.out w2).mono (B' := (w2.alloc (.cells #[.int .i64 4] 3)).heap.size) (by simp)
  have HCO := Lib.hid (callsOf_any hn3 ((HL.out.1.below hb3).mono hb3.size))
  have H3 := Lib.hid (And.intro hb3 (And.intro ((((H1.out.2.below hb2).mono hb2.size).below hal).mono hal.size) ((ho2.rd.below hal).mono hal.size)))
  clear hE hbw hal hb3 hn3 hb2 ho2 HC H1
  go_wp2_with fail
  generalize w2.alloc (.cells #[.int .i64 4] 3) = W3 at HCO H3 ⊢
  refine HCO.out.mono ?_
  rintro e w4 ⟨cv, rfl, hb4, hc4⟩
  have H4 := Lib.hid (And.intro (H3.out.1.trans (hb4.mono H3.out.1.size)) (And.intro ((H3.out.2.1.below hb4).mono hb4.size) (And.intro ((H3.out.2.2.below hb4).mono hb4.size) hc4)))
  generalize ((callsOf [4] l).2.1 : Int) = at1
  clear hb4 hc4 HCO H3
  by_cases h0 : (callsOf [4] l).2.2 = 0
  · rw [h0]
    have HZ := Lib.hid h0
    have hcl := calls_lenQ h0
    have hl200 : L ≤ 200 := by rw [HLL.out]; exact (calls_zero h0).2.1
    have HCL := Lib.hid hcl
    clear h0 hcl
    obtain ⟨A2, c2, rfl, -, -⟩ := H4.out.2.2.1.is
    obtain ⟨n2, hn2⟩ : ∃ n2, n2 = (bagLst l).length := ⟨_, rfl⟩
    rw [← hn2] at H4 ⊢
    have HN2 := Lib.hid hn2
    clear hn2
    have HBE := Lib.hid (show (E = 0 ↔ ∀ v, (ownV (callsOf [4] l).1 v).length ≤ 9) ∧ (E = 0 ∨ E = 2) from by
      rw [HE.out]
      refine ⟨by rw [bagsE_zero]; exact ⟨fun h => h.2, fun h => ⟨HZ.out, h⟩⟩, ?_⟩
      unfold bagsE
      rw [if_neg (fun h => h HZ.out)]
      split
      · exact .inr rfl
      · exact .inl rfl)
    by_cases hnr : 1 ≤ n ∧ n ≤ 1000
    · have hP : bagP l n = (bagL l n, 0) := by unfold bagP; rw [if_neg (fun h => h HZ.out), if_neg (fun h => h hnr)]
      have hF2 : F = 0 := by rw [HF.out, hP]
      subst hF2
      have hbt : btw 1 n 1000 = true := btw_iff.2 hnr
      have h4 := H4.out
      rw [hP] at h4
      have HBG := Lib.hid (bgcalls_any h4.2.2.2 (Nat.le_refl _) HCL.out n)
      have H4b := Lib.hid h4
      clear hP hnr h4 H4 HF
      go_wp2_with fail
      refine (betweenI_any n 1 1000 _).mono ?_
      rintro e w' ⟨rfl, rfl⟩
      rw [hbt]
      clear hbt
      go_wp2_with fail
      refine HBG.out.mono ?_
      rintro e wo ⟨vo, rfl, hoo, hbo⟩
      have hbw := H4b.out.1.trans (hbo.mono H4b.out.1.size)
      have hev := bgevents_any ((HL.out.1.below hbw).mono hbw.size) hoo.rd (by rw [← HLL.out]; exact hl200) (Nat.le_trans (List.length_filter_le _ _) HCL.out) (refE_bag HZ.out n).1
      rw [(refE_bag HZ.out n).2] at hev
      have HEVT := Lib.hid hev
      have Ho := Lib.hid (And.intro hbw (And.intro ((H4b.out.2.1.below hbo).mono hbo.size) (And.intro ((H4b.out.2.2.1.below hbo).mono hbo.size) ((H4b.out.2.2.2.below hbo).mono hbo.size))))
      clear hbw hev hoo hbo HBG H4b
      go_wp2_with fail
      refine HEVT.out.mono ?_
      rintro e wp ⟨vp, rfl, hop, hbp⟩
      have HEQ := Lib.hid (eqEv_any ((Ho.out.2.1.below hbp).mono hbp.size) hop.rd)
      have Hp := Lib.hid (And.intro (Ho.out.1.trans (hbp.mono Ho.out.1.size)) (And.intro ((Ho.out.2.2.1.below hbp).mono hbp.size) ((Ho.out.2.2.2.below hbp).mono hbp.size)))
      clear hop hbp HEVT Ho
      go_wp2_with fail
      refine HEQ.out.mono ?_
      rintro e w5 ⟨rfl, hb5⟩
      simp only [decide_true]
      have H5 := Lib.hid (And.intro (Hp.out.1.trans (hb5.mono Hp.out.1.size)) (And.intro ((Hp.out.2.1.below hb5).mono hb5.size) ((Hp.out.2.2.below hb5).mono hb5.size)))
      clear hb5 HEQ Hp
      obtain ⟨B0, hB0⟩ : ∃ B0, B0 = w5.heap.size := ⟨_, rfl⟩
      have hwB : w.heap.size ≤ B0 := by rw [hB0]; exact H5.out.1.size
      have hc5 : CRd w5 B0 cv (callsOf [4] l).1 := by rw [hB0]; exact H5.out.2.2
      have hn5 : NRd w5 B0 (.slice A2 n2 c2) (bagLst l) := by rw [hB0]; exact H5.out.2.1
      have HB0 := Lib.hid (And.intro hB0 (And.intro hwB (And.intro hc5 hn5)))
      clear hwB hc5 hn5
      go_wp2_with fail
      go_loopw [11, 14, 15] (fun r b i wr => ∃ (m : Nat) (b0 : Value), 1 ≤ m ∧ m ≤ 1001 ∧ i = .int .i64 m ∧ b0 = b ∧ Below w.heap.size w wr ∧ Below B0 w5 wr ∧ ((r = .int .i64 0 ∧ NOwn wr B0 b0 (badUp l m) ∧ ∀ u : Nat, u < m → (ownV (callsOf [4] l).1 (u : Int)).length ≤ 9) ∨ (r = .int .i64 2 ∧ E = 2))) (fun r b i _ => 1001 - (intOf i).toNat)
      case atStart => exact ⟨1, _, by omega, by omega, rfl, rfl, H5.out.1, Below.refl _ _, .inl ⟨rfl, by rw [badUp_one HZ.out]; exact NOwn.nil _ _, fun u hu => by
        obtain rfl : u = 0 := by omega
        exact Nat.le_trans (Nat.le_of_eq (own_out HZ.out (by omega))) (Nat.zero_le _)⟩⟩
      case round =>
        clear hB0
        obtain ⟨m, b0, hm1, hm2, rfl, rfl, hb, hbb, hcase⟩ := hrel
        have hsz : B0 ≤ wr.heap.size := by rw [HB0.out.1]; exact hbb.size
        have HBW := Lib.hid (And.intro hb (And.intro hbb hsz))
        clear hb hbb
        rcases hcase with ⟨rfl, hob, h9⟩ | ⟨rfl, hE2⟩
        · by_cases hmm : m ≤ 1000
          · have i1 : (m : Int) ≤ 1000 := by omega
            have HOB := Lib.hid (And.intro hob h9)
            have HBG := Lib.hid (bgcalls_any (HB0.out.2.2.1.below HBW.out.2.1) hsz HCL.out (m : Int))
            clear hob h9 hsz
            go_wp2_with fail
            refine HBG.out.mono ?_
            rintro e wa ⟨va, rfl, hoa, hba⟩
            obtain ⟨Aa, ca, rfl⟩ := own_slice hoa
            obtain ⟨N, hN⟩ : ∃ N, N = (ownV (callsOf [4] l).1 (m : Int)).length := ⟨_, rfl⟩
            rw [← hN] at hoa ⊢
            have hbw := HBW.out.1.trans (hba.mono HBW.out.1.size)
            have hb5 := HBW.out.2.1.trans (hba.mono HBW.out.2.2)
            have hsa : B0 ≤ wa.heap.size := Nat.le_trans HBW.out.2.2 hba.size
            have hoba := HOB.out.1.below hba
            have HA := Lib.hid (And.intro hbw (And.intro hb5 (And.intro hsa (And.intro hoba hoa.rd))))
            have HN := Lib.hid hN
            clear hbw hb5 hsa hoba hoa hba hN HBG
            by_cases h9 : 9 < N
            · have i9 : (9 : Int) < (N : Int) := by omega
              have hE2 : E = 2 := HBE.out.2.resolve_left fun h => by
                have := HBE.out.1.1 h (m : Int)
                rw [← HN.out] at this
                omega
              have HE2 := Lib.hid hE2
              clear h9 hE2
              go_wp2_with fail
              go_roundw
              case rel => exact ⟨m + 1, _, by omega, by omega, by go_num, rfl, HA.out.1, HA.out.2.1, .inr ⟨rfl, HE2.out⟩⟩
              case measure => simp [intOf]; omega
            · have i9 : ¬ (9 : Int) < (N : Int) := by omega
              have hall : ∀ u : Nat, u < m + 1 → (ownV (callsOf [4] l).1 (u : Int)).length ≤ 9 := fun u hu => by
                by_cases e : u = m
                · rw [e, ← HN.out]; omega
                · exact HOB.out.2 u (by omega)
              have HALL := Lib.hid hall
              have hup := badUp_succ l m
              simp only [own_any, ← HN.out] at hup
              have HUP := Lib.hid hup
              have h99 : (ownV (callsOf [4] l).1 (m : Int)).length ≤ 9 := hall m (by omega)
              have H99 := Lib.hid h99
              clear hall hup h9 h99
              by_cases hN0 : N = 0
              · subst hN0
                go_wp2_with fail
                go_roundw
                case rel =>
                  refine ⟨m + 1, _, by omega, by omega, by go_num, rfl, HA.out.1, HA.out.2.1, .inl ⟨rfl, ?_, HALL.out⟩⟩
                  rw [HUP.out, if_neg (fun h => absurd h.1 (Nat.lt_irrefl 0)), List.append_nil]
                  exact HA.out.2.2.2.1
                case measure => simp [intOf]; omega
              · have i10 : (0 : Int) < (N : Int) := by omega
                have hal : Below wa.heap.size wa (wa.alloc (.cells #[.int .i64 4] 3)) := (Below.refl _ _).alloc (Nat.le_refl _) _
                have hn1 := (HNL.out wa).mono (B' := (wa.alloc (.cells #[.int .i64 4] 3)).heap.size) (by simp)
                have ho1 := (HA.out.2.2.2.2.below hal).mono hal.size
                have H1 := Lib.hid (And.intro (HA.out.1.trans (hal.mono HA.out.1.size)) (And.intro (HA.out.2.1.trans (hal.mono HA.out.2.2.1)) (And.intro (Nat.le_trans HA.out.2.2.1 hal.size) (And.intro (HA.out.2.2.2.1.below hal) (And.intro ho1 hn1)))))
                have hcr := callrel_any ho1 (Nat.le_refl _) (by have := H99.out; omega)
                rw [← HN.out] at hcr
                obtain ⟨rl, hrl⟩ : ∃ rl, rl = relP (aheadB (ownV (callsOf [4] l).1 (m : Int))) N := ⟨_, rfl⟩
                rw [← hrl] at hcr
                have HCR := Lib.hid hcr
                have HRL := Lib.hid hrl
                clear hal hn1 ho1 hcr hrl HA
                go_wp2_with fail
                generalize wa.heap.size = Ga at H1 ⊢
                generalize wa.alloc (.cells #[.int .i64 4] 3) = W1 at H1 HCR ⊢
                refine HCR.out.mono ?_
                rintro e wb ⟨rfl, hbb⟩
                have hal : Below wb.heap.size wb (wb.alloc (.cells #[] 64)) := (Below.refl _ _).alloc (Nat.le_refl _) _
                have hb2 : Below W1.heap.size W1 (wb.alloc (.cells #[] 64)) := hbb.trans (hal.mono hbb.size)
                have hlo := bgleast_any HZ.out H99.out HN.out ((H1.out.2.2.2.2.2.below hb2).mono hb2.size) ((H1.out.2.2.2.2.1.below hb2).mono hb2.size) (own_empty wb).rd
                rw [← HRL.out] at hlo
                have HLO := Lib.hid hlo
                have H2 := Lib.hid (And.intro (H1.out.1.trans (hb2.mono H1.out.1.size)) (And.intro (H1.out.2.1.trans (hb2.mono H1.out.2.2.1)) (And.intro (Nat.le_trans H1.out.2.2.1 hb2.size) (H1.out.2.2.2.1.below hb2))))
                clear hal hb2 hlo hbb HCR H1
                have hq1 := fun W : World => st_nil_eq W
                go_wp2_with fail
                generalize wb.heap.size = Gb at H2 HLO ⊢
                generalize wb.alloc (.cells #[] 64) = W2 at H2 HLO ⊢
                refine HLO.out.mono ?_
                rintro e w7 ⟨hb7, ⟨hbv, rfl⟩ | ⟨hbv, a7, n7, c7, rfl⟩⟩
                · have H7 := Lib.hid (And.intro (H2.out.1.trans (hb7.mono H2.out.1.size)) (And.intro (H2.out.2.1.trans (hb7.mono H2.out.2.2.1)) (And.intro (Nat.le_trans H2.out.2.2.1 hb7.size) (H2.out.2.2.2.below hb7))))
                  have HBV := Lib.hid hbv
                  have hal7 : Below w7.heap.size w7 (w7.alloc (.cells #[.int .i64 (m : Int)] 3)) := (Below.refl _ _).alloc (Nat.le_refl _) _
                  have HW := Lib.hid (And.intro (H7.out.1.trans (hal7.mono H7.out.1.size)) (And.intro (H7.out.2.1.trans (hal7.mono H7.out.2.2.1)) (Nat.le_trans H7.out.2.2.1 hal7.size)))
                  have HOW := Lib.hid (H7.out.2.2.2.below hal7)
                  have HNC := Lib.hid (new_cells w7 3 [.int .i64 (m : Int)] 0 _ rfl)
                  have hlen : (badUp l m).length ≤ 65536 := by have := badUp_len l m; omega
                  obtain ⟨us, hus⟩ : ∃ us, us = badUp l m := ⟨_, rfl⟩
                  rw [← hus] at HOW hlen HUP
                  have HLN := Lib.hid hlen
                  have HU2 := Lib.hid (show us ++ [(m : Int)] = badUp l (m + 1) by rw [HUP.out, if_pos ⟨by omega, HBV.out⟩])
                  clear hbv hb7 hal7 hlen hus HLO H2
                  go_wp2_with (at_builtin; refine wpList_app_int rfl (.tmp 87) (.tmp 89) rfl B0 w7.heap.size _ us (m : Int) rfl rfl HOW.out HNC.out HLN.out HW.out.2.2 ?_; intro v' w8 ho8 hb8; have HN8 := Lib.hid (And.intro ho8 hb8); clear ho8 hb8)
                  go_roundw
                  case rel =>
                    refine ⟨m + 1, _, by omega, by omega, by go_num, rfl, HW.out.1.trans (HN8.out.2.mono HB0.out.2.1), HW.out.2.1.trans HN8.out.2, .inl ⟨rfl, ?_, HALL.out⟩⟩
                    rw [← HU2.out]
                    exact HN8.out.1
                  case measure => simp [intOf]; omega
                · have H7 := Lib.hid (And.intro (H2.out.1.trans (hb7.mono H2.out.1.size)) (And.intro (H2.out.2.1.trans (hb7.mono H2.out.2.2.1)) (H2.out.2.2.2.below hb7)))
                  have HBV := Lib.hid hbv
                  have hq2 := fun W : World => st_some_eq a7 n7 c7 W
                  clear hbv hb7 HLO H2
                  go_wp2_with fail
                  go_roundw
                  case rel =>
                    refine ⟨m + 1, _, by omega, by omega, by go_num, rfl, H7.out.1, H7.out.2.1, .inl ⟨rfl, ?_, HALL.out⟩⟩
                    rw [HUP.out, if_neg (fun h => by rw [HBV.out] at h; exact absurd h.2 (by decide)), List.append_nil]
                    exact H7.out.2.2
                  case measure => simp [intOf]; omega
          · obtain rfl : m = 1001 := by omega
            have hE0 : E = 0 := HBE.out.1.2 fun v => by
              by_cases hv : 1 ≤ v ∧ v ≤ 1000
              · have := h9 v.toNat (by omega)
                rwa [Int.toNat_of_nonneg (by omega)] at this
              · exact Nat.le_trans (Nat.le_of_eq (own_out HZ.out hv)) (Nat.zero_le _)
            subst hE0
            have hbl : bagLst l = badUp l 1001 := by unfold bagLst; rw [if_pos HE.out.symm]; exact (badUp_all l).symm
            have hn9 := HB0.out.2.2.2.below HBW.out.2.1
            rw [hbl] at hn9
            have HEQ := Lib.hid (eqInt_same hn9 hob.rd)
            clear hob h9 hbl hn9 hmm hsz
            go_wp2_with fail
            refine HEQ.out.mono ?_
            rintro e w9 ⟨rfl, hb9⟩
            have H9 := Lib.hid (HBW.out.1.trans (hb9.mono HBW.out.1.size))
            clear hb9 HEQ
            go_wp2_with fail
            go_ret
            exact ⟨rfl, H9.out⟩
        · subst hE2
          have hn0 : n2 = 0 := by rw [HN2.out]; unfold bagLst; rw [if_neg (by rw [← HE.out]; decide)]; rfl
          subst hn0
          clear hsz
          by_cases hmm : m ≤ 1000
          · have i1 : (m : Int) ≤ 1000 := by omega
            go_wp2_with fail
            go_ret
            exact ⟨rfl, HBW.out.1⟩
          · have i1 : ¬ (m : Int) ≤ 1000 := by omega
            go_wp2_with fail
            go_ret
            exact ⟨rfl, HBW.out.1⟩
    · have hP : bagP l n = ([], 1) := by unfold bagP; rw [if_neg (fun h => h HZ.out), if_pos hnr]
      have hF2 : F = 1 := by rw [HF.out, hP]
      subst hF2
      have hbt : btw 1 n 1000 = false := btw_not.2 (fun h => hnr h)
      have h4 := H4.out
      rw [hP] at h4
      have HEQ := Lib.hid (eqEv_any h4.2.1 (LRd.nil w4 0))
      have H4b := Lib.hid h4
      clear hP hnr h4 H4 HF
      go_wp2_with fail
      refine (betweenI_any n 1 1000 _).mono ?_
      rintro e w' ⟨rfl, rfl⟩
      rw [hbt]
      clear hbt
      go_wp2_with fail
      refine HEQ.out.mono ?_
      rintro e w5 ⟨rfl, hb5⟩
      simp only [decide_true]
      have H5 := Lib.hid (And.intro (H4b.out.1.trans (hb5.mono H4b.out.1.size)) (And.intro ((H4b.out.2.2.1.below hb5).mono hb5.size) ((H4b.out.2.2.2.below hb5).mono hb5.size)))
      clear hb5 HEQ H4b
      obtain ⟨B0, hB0⟩ : ∃ B0, B0 = w5.heap.size := ⟨_, rfl⟩
      have hwB : w.heap.size ≤ B0 := by rw [hB0]; exact H5.out.1.size
      have hc5 : CRd w5 B0 cv (callsOf [4] l).1 := by rw [hB0]; exact H5.out.2.2
      have hn5 : NRd w5 B0 (.slice A2 n2 c2) (bagLst l) := by rw [hB0]; exact H5.out.2.1
      have HB0 := Lib.hid (And.intro hB0 (And.intro hwB (And.intro hc5 hn5)))
      clear hwB hc5 hn5
      go_wp2_with fail
      go_loopw [11, 14, 15] (fun r b i wr => ∃ (m : Nat) (b0 : Value), 1 ≤ m ∧ m ≤ 1001 ∧ i = .int .i64 m ∧ b0 = b ∧ Below w.heap.size w wr ∧ Below B0 w5 wr ∧ ((r = .int .i64 0 ∧ NOwn wr B0 b0 (badUp l m) ∧ ∀ u : Nat, u < m → (ownV (callsOf [4] l).1 (u : Int)).length ≤ 9) ∨ (r = .int .i64 2 ∧ E = 2))) (fun r b i _ => 1001 - (intOf i).toNat)
      case atStart => exact ⟨1, _, by omega, by omega, rfl, rfl, H5.out.1, Below.refl _ _, .inl ⟨rfl, by rw [badUp_one HZ.out]; exact NOwn.nil _ _, fun u hu => by
        obtain rfl : u = 0 := by omega
        exact Nat.le_trans (Nat.le_of_eq (own_out HZ.out (by omega))) (Nat.zero_le _)⟩⟩
      case round =>
        clear hB0
        obtain ⟨m, b0, hm1, hm2, rfl, rfl, hb, hbb, hcase⟩ := hrel
        have hsz : B0 ≤ wr.heap.size := by rw [HB0.out.1]; exact hbb.size
        have HBW := Lib.hid (And.intro hb (And.intro hbb hsz))
        clear hb hbb
        rcases hcase with ⟨rfl, hob, h9⟩ | ⟨rfl, hE2⟩
        · by_cases hmm : m ≤ 1000
          · have i1 : (m : Int) ≤ 1000 := by omega
            have HOB := Lib.hid (And.intro hob h9)
            have HBG := Lib.hid (bgcalls_any (HB0.out.2.2.1.below HBW.out.2.1) hsz HCL.out (m : Int))
            clear hob h9 hsz
            go_wp2_with fail
            refine HBG.out.mono ?_
            rintro e wa ⟨va, rfl, hoa, hba⟩
            obtain ⟨Aa, ca, rfl⟩ := own_slice hoa
            obtain ⟨N, hN⟩ : ∃ N, N = (ownV (callsOf [4] l).1 (m : Int)).length := ⟨_, rfl⟩
            rw [← hN] at hoa ⊢
            have hbw := HBW.out.1.trans (hba.mono HBW.out.1.size)
            have hb5 := HBW.out.2.1.trans (hba.mono HBW.out.2.2)
            have hsa : B0 ≤ wa.heap.size := Nat.le_trans HBW.out.2.2 hba.size
            have hoba := HOB.out.1.below hba
            have HA := Lib.hid (And.intro hbw (And.intro hb5 (And.intro hsa (And.intro hoba hoa.rd))))
            have HN := Lib.hid hN
            clear hbw hb5 hsa hoba hoa hba hN HBG
            by_cases h9 : 9 < N
            · have i9 : (9 : Int) < (N : Int) := by omega
              have hE2 : E = 2 := HBE.out.2.resolve_left fun h => by
                have := HBE.out.1.1 h (m : Int)
                rw [← HN.out] at this
                omega
              have HE2 := Lib.hid hE2
              clear h9 hE2
              go_wp2_with fail
              go_roundw
              case rel => exact ⟨m + 1, _, by omega, by omega, by go_num, rfl, HA.out.1, HA.out.2.1, .inr ⟨rfl, HE2.out⟩⟩
              case measure => simp [intOf]; omega
            · have i9 : ¬ (9 : Int) < (N : Int) := by omega
              have hall : ∀ u : Nat, u < m + 1 → (ownV (callsOf [4] l).1 (u : Int)).length ≤ 9 := fun u hu => by
                by_cases e : u = m
                · rw [e, ← HN.out]; omega
                · exact HOB.out.2 u (by omega)
              have HALL := Lib.hid hall
              have hup := badUp_succ l m
              simp only [own_any, ← HN.out] at hup
              have HUP := Lib.hid hup
              have h99 : (ownV (callsOf [4] l).1 (m : Int)).length ≤ 9 := hall m (by omega)
              have H99 := Lib.hid h99
              clear hall hup h9 h99
              by_cases hN0 : N = 0
              · subst hN0
                go_wp2_with fail
                go_roundw
                case rel =>
                  refine ⟨m + 1, _, by omega, by omega, by go_num, rfl, HA.out.1, HA.out.2.1, .inl ⟨rfl, ?_, HALL.out⟩⟩
                  rw [HUP.out, if_neg (fun h => absurd h.1 (Nat.lt_irrefl 0)), List.append_nil]
                  exact HA.out.2.2.2.1
                case measure => simp [intOf]; omega
              · have i10 : (0 : Int) < (N : Int) := by omega
                have hal : Below wa.heap.size wa (wa.alloc (.cells #[.int .i64 4] 3)) := (Below.refl _ _).alloc (Nat.le_refl _) _
                have hn1 := (HNL.out wa).mono (B' := (wa.alloc (.cells #[.int .i64 4] 3)).heap.size) (by simp)
                have ho1 := (HA.out.2.2.2.2.below hal).mono hal.size
                have H1 := Lib.hid (And.intro (HA.out.1.trans (hal.mono HA.out.1.size)) (And.intro (HA.out.2.1.trans (hal.mono HA.out.2.2.1)) (And.intro (Nat.le_trans HA.out.2.2.1 hal.size) (And.intro (HA.out.2.2.2.1.below hal) (And.intro ho1 hn1)))))
                have hcr := callrel_any ho1 (Nat.le_refl _) (by have := H99.out; omega)
                rw [← HN.out] at hcr
                obtain ⟨rl, hrl⟩ : ∃ rl, rl = relP (aheadB (ownV (callsOf [4] l).1 (m : Int))) N := ⟨_, rfl⟩
                rw [← hrl] at hcr
                have HCR := Lib.hid hcr
                have HRL := Lib.hid hrl
                clear hal hn1 ho1 hcr hrl HA
                go_wp2_with fail
                generalize wa.heap.size = Ga at H1 ⊢
                generalize wa.alloc (.cells #[.int .i64 4] 3) = W1 at H1 HCR ⊢
                refine HCR.out.mono ?_
                rintro e wb ⟨rfl, hbb⟩
                have hal : Below wb.heap.size wb (wb.alloc (.cells #[] 64)) := (Below.refl _ _).alloc (Nat.le_refl _) _
                have hb2 : Below W1.heap.size W1 (wb.alloc (.cells #[] 64)) := hbb.trans (hal.mono hbb.size)
                have hlo := bgleast_any HZ.out H99.out HN.out ((H1.out.2.2.2.2.2.below hb2).mono hb2.size) ((H1.out.2.2.2.2.1.below hb2).mono hb2.size) (own_empty wb).rd
                rw [← HRL.out] at hlo
                have HLO := Lib.hid hlo
                have H2 := Lib.hid (And.intro (H1.out.1.trans (hb2.mono H1.out.1.size)) (And.intro (H1.out.2.1.trans (hb2.mono H1.out.2.2.1)) (And.intro (Nat.le_trans H1.out.2.2.1 hb2.size) (H1.out.2.2.2.1.below hb2))))
                clear hal hb2 hlo hbb HCR H1
                have hq1 := fun W : World => st_nil_eq W
                go_wp2_with fail
                generalize wb.heap.size = Gb at H2 HLO ⊢
                generalize wb.alloc (.cells #[] 64) = W2 at H2 HLO ⊢
                refine HLO.out.mono ?_
                rintro e w7 ⟨hb7, ⟨hbv, rfl⟩ | ⟨hbv, a7, n7, c7, rfl⟩⟩
                · have H7 := Lib.hid (And.intro (H2.out.1.trans (hb7.mono H2.out.1.size)) (And.intro (H2.out.2.1.trans (hb7.mono H2.out.2.2.1)) (And.intro (Nat.le_trans H2.out.2.2.1 hb7.size) (H2.out.2.2.2.below hb7))))
                  have HBV := Lib.hid hbv
                  have hal7 : Below w7.heap.size w7 (w7.alloc (.cells #[.int .i64 (m : Int)] 3)) := (Below.refl _ _).alloc (Nat.le_refl _) _
                  have HW := Lib.hid (And.intro (H7.out.1.trans (hal7.mono H7.out.1.size)) (And.intro (H7.out.2.1.trans (hal7.mono H7.out.2.2.1)) (Nat.le_trans H7.out.2.2.1 hal7.size)))
                  have HOW := Lib.hid (H7.out.2.2.2.below hal7)
                  have HNC := Lib.hid (new_cells w7 3 [.int .i64 (m : Int)] 0 _ rfl)
                  have hlen : (badUp l m).length ≤ 65536 := by have := badUp_len l m; omega
                  obtain ⟨us, hus⟩ : ∃ us, us = badUp l m := ⟨_, rfl⟩
                  rw [← hus] at HOW hlen HUP
                  have HLN := Lib.hid hlen
                  have HU2 := Lib.hid (show us ++ [(m : Int)] = badUp l (m + 1) by rw [HUP.out, if_pos ⟨by omega, HBV.out⟩])
                  clear hbv hb7 hal7 hlen hus HLO H2
                  go_wp2_with (at_builtin; refine wpList_app_int rfl (.tmp 87) (.tmp 89) rfl B0 w7.heap.size _ us (m : Int) rfl rfl HOW.out HNC.out HLN.out HW.out.2.2 ?_; intro v' w8 ho8 hb8; have HN8 := Lib.hid (And.intro ho8 hb8); clear ho8 hb8)
                  go_roundw
                  case rel =>
                    refine ⟨m + 1, _, by omega, by omega, by go_num, rfl, HW.out.1.trans (HN8.out.2.mono HB0.out.2.1), HW.out.2.1.trans HN8.out.2, .inl ⟨rfl, ?_, HALL.out⟩⟩
                    rw [← HU2.out]
                    exact HN8.out.1
                  case measure => simp [intOf]; omega
                · have H7 := Lib.hid (And.intro (H2.out.1.trans (hb7.mono H2.out.1.size)) (And.intro (H2.out.2.1.trans (hb7.mono H2.out.2.2.1)) (H2.out.2.2.2.below hb7)))
                  have HBV := Lib.hid hbv
                  have hq2 := fun W : World => st_some_eq a7 n7 c7 W
                  clear hbv hb7 HLO H2
                  go_wp2_with fail
                  go_roundw
                  case rel =>
                    refine ⟨m + 1, _, by omega, by omega, by go_num, rfl, H7.out.1, H7.out.2.1, .inl ⟨rfl, ?_, HALL.out⟩⟩
                    rw [HUP.out, if_neg (fun h => by rw [HBV.out] at h; exact absurd h.2 (by decide)), List.append_nil]
                    exact H7.out.2.2
                  case measure => simp [intOf]; omega
          · obtain rfl : m = 1001 := by omega
            have hE0 : E = 0 := HBE.out.1.2 fun v => by
              by_cases hv : 1 ≤ v ∧ v ≤ 1000
              · have := h9 v.toNat (by omega)
                rwa [Int.toNat_of_nonneg (by omega)] at this
              · exact Nat.le_trans (Nat.le_of_eq (own_out HZ.out hv)) (Nat.zero_le _)
            subst hE0
            have hbl : bagLst l = badUp l 1001 := by unfold bagLst; rw [if_pos HE.out.symm]; exact (badUp_all l).symm
            have hn9 := HB0.out.2.2.2.below HBW.out.2.1
            rw [hbl] at hn9
            have HEQ := Lib.hid (eqInt_same hn9 hob.rd)
            clear hob h9 hbl hn9 hmm hsz
            go_wp2_with fail
            refine HEQ.out.mono ?_
            rintro e w9 ⟨rfl, hb9⟩
            have H9 := Lib.hid (HBW.out.1.trans (hb9.mono HBW.out.1.size))
            clear hb9 HEQ
            go_wp2_with fail
            go_ret
            exact ⟨rfl, H9.out⟩
        · subst hE2
          have hn0 : n2 = 0 := by rw [HN2.out]; unfold bagLst; rw [if_neg (by rw [← HE.out]; decide)]; rfl
          subst hn0
          clear hsz
          by_cases hmm : m ≤ 1000
          · have i1 : (m : Int) ≤ 1000 := by omega
            go_wp2_with fail
            go_ret
            exact ⟨rfl, HBW.out.1⟩
          · have i1 : ¬ (m : Int) ≤ 1000 := by omega
            go_wp2_with fail
            go_ret
            exact ⟨rfl, HBW.out.1⟩
  · have hE2 : E = (callsOf [4] l).2.2 := by rw [HE.out]; unfold bagsE; rw [if_pos h0]
    have hP : bagP l n = ([], (callsOf [4] l).2.2) := by unfold bagP; rw [if_pos h0]
    have hlst : bagLst l = [] := by unfold bagLst; rw [if_neg (by rw [← HE.out, hE2]; exact h0)]
    have h4 := H4.out
    rw [hP, hlst] at h4
    have hF2 : F = (callsOf [4] l).2.2 := by rw [HF.out, hP]
    obtain ⟨R, hR⟩ : ∃ R, R = (callsOf [4] l).2.2 := ⟨_, rfl⟩
    rw [← hR] at h0 hE2 hF2 ⊢
    obtain rfl : R = E := hE2.symm
    obtain rfl : R = F := hF2.symm
    obtain ⟨A2, c2, rfl, -, -⟩ := h4.2.2.1.is
    have HEV := Lib.hid (eqEv_any h4.2.1 (LRd.nil w4 0))
    have HB := Lib.hid h4.1
    have hz : (R == 0) = false := by rw [beq_eq_false_iff_ne]; exact h0
    have hzz : (R != 0) = true := by rw [bne_iff_ne]; exact h0
    have hrr : (R != R) = false := by rw [bne_eq_false_iff_eq]
    have hre : (R == R) = true := by rw [beq_iff_eq]
    clear h0 hP hlst h4 H4 hR HE HF HNL
    go_wp2_with fail
    refine HEV.out.mono ?_
    rintro e w5 ⟨rfl, hb5⟩
    simp only [decide_true]
    have H5 := Lib.hid (HB.out.trans (hb5.mono HB.out.size))
    clear hb5 HB HEV
    go_wp2_with fail
    go_loopw [11, 14, 15] (fun r b i wr => r = .int .i64 R ∧ i = .int .i64 1 ∧ wr = w5) (fun _ _ _ _ => 0)
    case atStart => exact ⟨rfl, rfl, rfl⟩
    case round =>
      obtain ⟨rfl, rfl, rfl⟩ := hrel
      go_wp2_with fail
      go_ret
      exact ⟨rfl, H5.out⟩
end Go.Proofs.YtfgangkpebkicaaGreatDoor
