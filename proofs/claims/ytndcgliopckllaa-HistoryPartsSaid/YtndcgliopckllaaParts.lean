/-
  The closure of HistoryParts; slices.ContainsFunc over it; HistoryParts answers true.
-/
import Derived.Test.YtndcgliopckllaaPart
import Derived.Test.YtndcgliopckllaaLivesH
namespace Go.Proofs.Ytndcgliopckllaa
open Go.RowKit
set_option maxRecDepth 20000

theorem other_any (P : Nat) (q : Int) (x : Ev) (w : World) (h : w.cell? ⟨P, 0, none⟩ = some (.int .i64 q)) :
    Calls Try.prog 24 #[evV x, .pointer (some ⟨P, 0, none⟩)] w fun e w' => e = .returned (.bool (x.thing != q)) ∧ Below w.heap.size w w' := by
  have hP : P < w.heap.size := World.block_lt_of_cell? w ⟨P, 0, none⟩ h
  generalize hb : (x.thing != q) = b
  go_enter Try.func24, Try.ntmps24
  go_wp2_with fail
  go_ret
  exact ⟨rfl, (Below.refl _ _).alloc (Nat.le_refl _) _⟩

/-- The closure over the variable in block P. -/
abbrev othV (P : Nat) : Value := .func (.func 24) #[] #[.pointer (some ⟨P, 0, none⟩)]
theorem find_none (P : Nat) (q : Int) {B : Nat} {v : Value} {l : List Ev} {w : World} (h : ERd w B v l) (hB : B ≤ w.heap.size) (hl : l.length ≤ 200) (hc : w.cell? ⟨P, 0, none⟩ = some (.int .i64 q)) (ha : ∀ x ∈ l, x.thing = q) :
    Calls Try.prog 39 #[v, othV P] w fun e w' => e = .returned (.int .i64 (-1)) ∧ Below w.heap.size w w' := by
  obtain ⟨A, cap, rfl, m1, m2⟩ := h.is
  have H := Lib.hid (And.intro h ha)
  clear h ha
  obtain ⟨L, hL⟩ : ∃ L, L = l.length := ⟨_, rfl⟩
  rw [← hL]
  rw [← hL] at hl
  have HL := Lib.hid hL
  have HC := Lib.hid hc
  clear hL m1 m2 hc
  go_enter Try.func39, Try.ntmps39
  go_wp2_with fail
  go_loopw [8] (fun i wr => ∃ k : Nat, k ≤ L ∧ i = .int .i64 k ∧ Below w.heap.size w wr) (fun i _ => L - (intOf i).toNat)
  case atStart => exact ⟨0, by omega, rfl, Below.refl _ _⟩
  case round =>
    obtain ⟨k, hk, rfl, hb⟩ := hrel
    by_cases hkL : k < L
    · obtain ⟨x, hx⟩ : ∃ x, l[k]? = some x := ⟨_, List.getElem?_eq_getElem (by rw [← HL.out]; exact hkL)⟩
      have hxt := H.out.2 x (List.mem_of_getElem? hx)
      have h' := H.out.1.below (hb.mono hB)
      rw [← HL.out] at h'
      obtain ⟨g, o, rfl, -, d0, d1, d2, d3⟩ := h'.ev hx
      have i1 : (0 : Int) ≤ (k : Int) := by omega
      have i2 : (k : Int) < (L : Int) := by omega
      have hPl : P < w.heap.size := World.block_lt_of_cell? w ⟨P, 0, none⟩ HC.out
      have hcr := (hb.cell (p := ⟨P, 0, none⟩) hPl).trans HC.out
      have HO := Lib.hid (other_any P q x wr hcr)
      have HB := Lib.hid (And.intro hb hxt)
      obtain ⟨xw, xt, xk, xv⟩ := x
      clear h' hx hb hxt hcr
      go_wp2_with fail
      refine HO.out.mono ?_
      rintro e w' ⟨rfl, hb2⟩
      have hz : (xt != q) = false := by rw [bne_eq_false_iff_eq]; exact HB.out.2
      rw [hz]
      have HB2 := Lib.hid (HB.out.1.trans (hb2.mono HB.out.1.size))
      clear hb2 hz
      go_wp2_with fail
      go_roundw
      case rel => exact ⟨k + 1, by omega, by go_num, HB2.out⟩
      case measure => simp [intOf]; omega
    · obtain rfl : k = L := by omega
      have HB := Lib.hid hb
      clear hb
      go_wp2_with fail
      go_ret
      exact ⟨rfl, HB.out⟩
theorem hasOther_any (P : Nat) (q : Int) {B : Nat} {v : Value} {l : List Ev} {w : World} (h : ERd w B v l) (hB : B ≤ w.heap.size) (hl : l.length ≤ 200) (hc : w.cell? ⟨P, 0, none⟩ = some (.int .i64 q)) (ha : ∀ x ∈ l, x.thing = q) :
    Calls Try.prog 23 #[v, othV P] w fun e w' => e = .returned (.bool false) ∧ Below w.heap.size w w' := by
  have HF := Lib.hid (find_none P q h hB hl hc ha)
  obtain ⟨A, cap, rfl, -, -⟩ := h.is
  clear h hc ha
  go_enter Try.func23, Try.ntmps23
  go_wp2_with fail
  refine HF.out.mono ?_
  rintro e w' ⟨rfl, hb2⟩
  have HB := Lib.hid hb2
  clear hb2
  go_wp2_with fail
  go_ret
  exact ⟨rfl, HB.out⟩

/-- The variable of the loop in block P; old memory as it was. -/
structure PtS (w0 : World) (P : Nat) (q : Int) (w : World) : Prop where
  below : Below w0.heap.size w0 w
  var : Lies w P 3 #[.int .i64 q]
theorem PtS.next {w0 w w' : World} {P : Nat} {q : Int} (h : PtS w0 P q w) (hb : Below w.heap.size w w') : PtS w0 P q w' := ⟨h.below.trans (hb.mono h.below.size), Lies.below h.var hb h.var.lt⟩

set_option maxHeartbeats 4000000 in
theorem hparts_any {tv lv : Value} {ts : List Int} {l : List Ev} {w : World} (ht : NRd w w.heap.size tv ts) (hl : ERd w w.heap.size lv l) :
    Calls Try.prog 7 #[tv, lv] w fun e w' => e = .returned (.bool true) ∧ Below w.heap.size w w' := by
  obtain ⟨At, capt, rfl, m1, m2⟩ := ht.is
  obtain ⟨Al, capl, rfl, m3, m4⟩ := hl.is
  have HT := Lib.hid (And.intro ht hl)
  have HC := Lib.hid (calls_any ht hl)
  clear ht hl m3 m4
  unfold maxLen at m2
  obtain ⟨L, hL⟩ : ∃ L, L = l.length := ⟨_, rfl⟩
  obtain ⟨M, hM⟩ : ∃ M, M = ts.length := ⟨_, rfl⟩
  rw [← hL, ← hM]
  rw [← hL] at HC
  rw [← hM] at HC m1
  have HLL := Lib.hid hL
  have HM := Lib.hid hM
  clear hL hM
  go_enter Try.func7, Try.ntmps7
  go_wp2_with fail
  refine HC.out.mono ?_
  rintro e w1 ⟨v1, rfl, hb1, -⟩
  have H1 := Lib.hid hb1
  clear HC hb1
  go_wp2_with fail
  refine (lives_any _).mono ?_
  rintro e w2 ⟨rfl, hb2⟩
  have H2 := Lib.hid (H1.out.trans (hb2.mono H1.out.size))
  clear hb2 H1
  by_cases h0 : (callsOf ts l).2.2 = 0
  · rw [h0]
    have hz := calls_zero h0
    have hM4 : M ≤ 4 := by rw [HM.out]; exact (typesB_iff.1 hz.1).1.2
    have hL200 : L ≤ 200 := by rw [HLL.out]; exact hz.2.1
    have H0 := Lib.hid h0
    generalize (callsOf ts l).2.1 = a
    clear h0 hz
    go_wp2_with fail
    go_loopw [8, 31] (fun s i wr => ∃ k : Nat, k ≤ M ∧ i = .int .i64 k ∧ s = .int .i64 (partsUp l k : Nat) ∧ Below w.heap.size w wr) (fun _ i _ => M - (intOf i).toNat)
    case atStart => exact ⟨0, by omega, rfl, rfl, H2.out⟩
    case round =>
      clear H2
      obtain ⟨k, hk, rfl, rfl, hb⟩ := hrel
      by_cases hkM : k < M
      · have hT2 : NRd wr wr.heap.size (.slice At M capt) ts := by rw [HM.out]; exact (HT.out.1.below hb).mono hb.size
        have hL2 : ERd wr wr.heap.size (.slice Al L capl) l := by rw [HLL.out]; exact (HT.out.2.below hb).mono hb.size
        have hP : PtS w wr.heap.size k (wr.alloc (.cells #[.int .i64 k] 3)) := ⟨hb.alloc hb.size _, Lies.new _ _ _⟩
        have hba : Below wr.heap.size wr (wr.alloc (.cells #[.int .i64 k] 3)) := (Below.refl _ _).alloc (Nat.le_refl _) _
        have hpo : partOf ts l (k : Int) = (partL l (k : Int), 0) := by
          unfold partOf
          rw [if_neg (fun h => h H0.out), if_neg (by rw [← HM.out]; omega)]
        have hpart := part_any ((hT2.below hba).mono hba.size) ((hL2.below hba).mono hba.size) (k : Int)
        rw [hpo] at hpart
        have HPA := Lib.hid hpart
        have HP := Lib.hid hP
        have HLs := Lib.hid (And.intro hT2 hL2)
        have hup : partsUp l (k + 1) = partsUp l k + (partL l (k : Int)).length := rfl
        have hle : partsUp l k ≤ 100000 ∧ (partL l (k : Int)).length ≤ 200 := by
          have h1 : ∀ j, partsUp l j ≤ j * 200 := by
            intro j
            induction j with
            | zero => exact Nat.zero_le _
            | succ j ih =>
              have : (partL l (j : Int)).length ≤ l.length := List.length_filter_le _ _
              rw [partsUp, Nat.add_mul]
              have := HLL.out
              omega
          have h2 := h1 k
          have h3 : (partL l (k : Int)).length ≤ l.length := List.length_filter_le _ _
          have := HLL.out
          omega
        obtain ⟨hle1, hle2⟩ := hle
        have HUP := Lib.hid hup
        generalize partsUp l k = S at hle1 HUP ⊢
        clear hT2 hL2 hP hba hpo hpart hup hb
        go_wp2_with fail
        have hP := HP.out
        have hPA := HPA.out
        clear HP HPA
        change Calls _ _ _ (wr.alloc (.cells #[.int .i64 k] 3)) _
        obtain ⟨P, hPe⟩ : ∃ P, P = wr.heap.size := ⟨_, rfl⟩
        rw [← hPe] at hP ⊢
        have HPe := Lib.hid hPe
        clear hPe
        have hLs1 : Below wr.heap.size wr (wr.alloc (.cells #[.int .i64 (k : Int)] 3)) := (Below.refl _ _).alloc (Nat.le_refl _) _
        have hLs2 := And.intro ((HLs.out.1.below hLs1).mono hLs1.size) ((HLs.out.2.below hLs1).mono hLs1.size)
        clear HLs hLs1 HPe
        generalize wr.alloc (.cells #[.int .i64 (k : Int)] 3) = W2 at hP hPA hLs2 ⊢
        have HLs := Lib.hid hLs2
        have HP := Lib.hid hP
        clear hP hLs2
        refine hPA.mono ?_
        rintro e w3 ⟨pv, rfl, hb3, hr3⟩
        have H3 := Lib.hid (And.intro (HP.out.next hb3) hr3)
        have HC := Lib.hid (calls_any ((HLs.out.1.below hb3).mono hb3.size) hr3)
        clear hPA hb3 hr3 HP HLs
        simp only
        obtain ⟨Ap, capp, rfl, k5, k6⟩ := H3.out.2.is
        simp only at k5 ⊢
        go_wp2_with fail
        refine HC.out.mono ?_
        rintro e w4 ⟨v4, rfl, hb4, -⟩
        have H4 := Lib.hid (And.intro (H3.out.1.next hb4) ((H3.out.2.below hb4).mono hb4.size))
        clear HC hb4 H3
        rw [part_ok H0.out]
        generalize (callsOf ts (partL l (k : Int))).2.1 = a2
        have hcell : w4.cell? ⟨P, 0, none⟩ = some (.int .i64 (k : Int)) := Lies.cell H4.out.1.var 0
        have HF := Lib.hid (hasOther_any P (k : Int) H4.out.2 (Nat.le_refl _) hle2 hcell (fun x hx => by
          have := (List.mem_filter.1 hx).2
          simpa using this))
        clear hcell
        go_wp2_with fail
        refine HF.out.mono ?_
        rintro e w5 ⟨rfl, hb5⟩
        have H5 := Lib.hid (H4.out.1.next hb5)
        clear hb5 H4 HF
        obtain ⟨K, hK⟩ : ∃ K, K = (partL l (k : Int)).length := ⟨_, rfl⟩
        rw [← hK] at hle2
        have HK := Lib.hid hK
        rw [← hK]
        clear hK
        go_wp2_with fail
        go_roundw
        case rel => exact ⟨k + 1, by omega, by go_num, by rw [HUP.out, ← HK.out]; go_num, H5.out.below⟩
        case measure => simp [intOf]; omega
      · obtain rfl : k = M := by omega
        have hall : partsUp l k = L := by
          rw [HLL.out]
          refine partsUp_all l k fun x hx => ?_
          have := part_range H0.out x hx
          rw [HM.out]
          exact this
        rw [hall]
        have HB := Lib.hid hb
        clear hb hall
        go_wp2_with fail
        go_ret
        exact ⟨rfl, HB.out⟩
  · have hz : ((callsOf ts l).2.2 != 0) = true := by rw [bne_iff_ne]; exact h0
    generalize (callsOf ts l).2.2 = r at hz ⊢
    generalize (callsOf ts l).2.1 = a
    clear h0
    go_wp2_with fail
    refine (lives_any _).mono ?_
    rintro e w3 ⟨rfl, hb3⟩
    have H3 := Lib.hid (H2.out.trans (hb3.mono H2.out.size))
    clear hb3
    go_wp2_with fail
    go_ret
    exact ⟨rfl, H3.out⟩
end Go.Proofs.Ytndcgliopckllaa
