/-
  Joined by a program out of: BOwnW, HistArg, PowArg, End.
-/
import Derived.Test.YtfgangkpebkicaaGreatDoorMgAX
import Derived.Test.YtfgangkpebkicaaGreatDoorMgAA
import Derived.Test.YtfgangkpebkicaaGreatDoorRows
import Derived.Carry
import Derived.Deep.Slices
import Derived.OpenShut
import Derived.ProofKit
import Derived.Test.YtfgangkpebkicaaGreatDoorMgAW
import Derived.Lib.LaidTab
import Derived.LaidMore
import Derived.Lay
import Derived.Below

/-
  alibkeep.BagsOwn answers true, whatever is handed in.
-/
namespace Go.Proofs.YtfgangkpebkicaaGreatDoor
open Go.RowKit
set_option maxRecDepth 20000

theorem bagP_ok {l : List Ev} {n : Int} (h : (bagP l n).2 = 0) : (callsOf [4] l).2.2 = 0 ∧ (1 ≤ n ∧ n ≤ 1000) ∧ bagP l n = (bagL l n, 0) := by
  unfold bagP at h ⊢
  by_cases h1 : (callsOf [4] l).2.2 = 0
  · rw [if_neg (fun k => k h1)] at h ⊢
    by_cases h2 : 1 ≤ n ∧ n ≤ 1000
    · rw [if_neg (fun k => k h2)]
      exact ⟨h1, h2, rfl⟩
    · rw [if_pos h2] at h
      cases h
  · rw [if_pos h1] at h
    exact absurd h h1
theorem bagP_again {l : List Ev} {n : Int} (h : (callsOf [4] l).2.2 = 0) (hn : 1 ≤ n ∧ n ≤ 1000) : bagP (bagL l n) n = (bagL l n, 0) := by
  unfold bagP
  rw [if_neg (by rw [bag_calls h n]; exact fun k => k rfl), if_neg (fun k => k hn), bag_again h n]
theorem bcheck_ok {l : List Ev} (h0 : bagsE l = 0) {w w' : World} {e : Ending} (h : BCheck w l e w') : Below w.heap.size w w' ∧ ∃ A c, e = .returned (.tuple #[.slice A (bagB l).length c, .int .i64 0]) ∧ NRd w' w'.heap.size (.slice A (bagB l).length c) (bagB l) := by
  obtain ⟨hb, v, he, ho⟩ := h
  rw [h0] at he
  have hl : bagLst l = bagB l := by unfold bagLst; rw [if_pos h0]
  rw [hl] at ho
  obtain ⟨A, c, rfl, -, -⟩ := ho.rd.is
  exact ⟨hb, A, c, he, ho.rd⟩
set_option maxHeartbeats 8000000 in
theorem bown_any {lv : Value} {l : List Ev} {w : World} (hl : ERd w w.heap.size lv l) (n : Int) (hp : Pow10 w.heap.size w) :
    Calls Tryz.prog 4 #[lv, .int .i64 n] w fun e w' => e = .returned (.bool true) ∧ Below w.heap.size w w' := by
  have HC := Lib.hid (bcheck_any hl hp)
  have HL := Lib.hid (And.intro hl hp)
  obtain ⟨Al, capl, rfl, -, -⟩ := hl.is
  obtain ⟨L, hL⟩ : ∃ L, L = l.length := ⟨_, rfl⟩
  rw [← hL] at HC HL ⊢
  clear hl hL hp
  go_enter Tryz.func4, Tryz.ntmps4
  go_wp2_with fail
  refine HC.out.mono ?_
  intro e w1 hck
  obtain ⟨hb1, v1, rfl, ho1⟩ := hck
  obtain ⟨E, hE⟩ : ∃ E, E = bagsE l := ⟨_, rfl⟩
  rw [← hE]
  have HPT := Lib.hid (bpart_any ((HL.out.1.below hb1).mono hb1.size) n)
  have HE := Lib.hid hE
  have H1 := Lib.hid (And.intro hb1 ho1.rd)
  clear hE ho1 hb1 HC
  go_wp2_with fail
  refine HPT.out.mono ?_
  intro e w2 hck
  obtain ⟨v2, rfl, hb2, ho2⟩ := hck
  obtain ⟨F, hF⟩ : ∃ F, F = (bagP l n).2 := ⟨_, rfl⟩
  rw [← hF]
  have HF := Lib.hid hF
  have hbw := H1.out.1.trans (hb2.mono H1.out.1.size)
  have HLV := Lib.hid (blives_any w2 ((HL.out.2.on hbw).mono hbw.size))
  have H2 := Lib.hid (And.intro hbw (And.intro ((H1.out.2.below hb2).mono hb2.size) ho2.rd))
  clear hF hbw ho2 hb2 HPT H1
  go_wp2_with fail
  refine HLV.out.mono ?_
  rintro e w3 ⟨rfl, hb3⟩
  have hal : Below w3.heap.size w3 (w3.alloc (.cells #[.int .i64 E, .int .i64 F] 23)) := (Below.refl _ _).alloc (Nat.le_refl _) _
  have hbw := H2.out.1.trans (hb3.mono H2.out.1.size)
  have H3 := Lib.hid (And.intro (hbw.trans (hal.mono hbw.size)) (And.intro ((((H2.out.2.1.below hb3).mono hb3.size).below hal).mono hal.size) ((((H2.out.2.2.below hb3).mono hb3.size).below hal).mono hal.size)))
  have hfr := IRd.fresh w3 23 [E, F] 2 rfl #[.int .i64 E, .int .i64 F] rfl
  have HLV2 := Lib.hid (fun W (hb : Below w.heap.size w W) => blives_any W ((HL.out.2.on hb).mono hb.size))
  clear hal hbw hb3 HLV H2
  by_cases hEF : E = 0 ∧ F = 0
  · obtain ⟨rfl, rfl⟩ := hEF
    have HOK := Lib.hid (ok_zero hfr (by decide) (by decide))
    obtain ⟨hc0, hn0, hbp⟩ := bagP_ok HF.out.symm
    rw [hbp] at H3
    have HX := Lib.hid (And.intro hc0 hn0)
    clear hfr hc0 hn0 hbp
    go_wp2_with fail
    refine HOK.out.mono ?_
    rintro e w4 ⟨rfl, rfl⟩
    generalize w3.alloc (.cells #[.int .i64 0, .int .i64 0] 23) = W4 at H3 ⊢
    obtain ⟨pl, hpl⟩ : ∃ pl, pl = bagL l n := ⟨_, rfl⟩
    rw [← hpl] at H3
    have hp0 : bagsE pl = 0 := by rw [hpl]; exact bag_small HE.out.symm n
    have HPL := Lib.hid (And.intro hpl hp0)
    have HC := Lib.hid (bcheck_any H3.out.2.2 ((HL.out.2.on H3.out.1).mono H3.out.1.size))
    clear hpl hp0 HOK
    go_wp2_with fail
    refine HC.out.mono ?_
    intro e w5 hck
    obtain ⟨hb5, A5, c5, rfl, hr5⟩ := bcheck_ok HPL.out.2 hck
    have hbw := H3.out.1.trans (hb5.mono H3.out.1.size)
    have hp5 := (H3.out.2.2.below hb5).mono hb5.size
    have HPT := Lib.hid (bpart_any hp5 n)
    have H5 := Lib.hid (And.intro hbw (And.intro ((H3.out.2.1.below hb5).mono hb5.size) (And.intro hp5 hr5)))
    obtain ⟨m, hm⟩ : ∃ m, m = (bagB pl).length := ⟨_, rfl⟩
    rw [← hm] at H5 ⊢
    have HM := Lib.hid hm
    clear hbw hp5 hr5 hb5 hck HC H3 hm
    go_wp2_with fail
    refine HPT.out.mono ?_
    intro e w6 hck
    obtain ⟨v6, rfl, hb6, ho6⟩ := hck
    have hag : bagP pl n = (pl, 0) := by rw [HPL.out.1]; exact bagP_again HX.out.1 HX.out.2
    rw [hag] at ho6 ⊢
    simp only at ho6 ⊢
    have hal : Below w6.heap.size w6 (w6.alloc (.cells #[.int .i64 0, .int .i64 0] 23)) := (Below.refl _ _).alloc (Nat.le_refl _) _
    have hbw := H5.out.1.trans (hb6.mono H5.out.1.size)
    have H6 := Lib.hid (And.intro (hbw.trans (hal.mono hbw.size)) (And.intro ((((H5.out.2.1.below hb6).mono hb6.size).below hal).mono hal.size) (And.intro ((((H5.out.2.2.1.below hb6).mono hb6.size).below hal).mono hal.size) (And.intro ((((H5.out.2.2.2.below hb6).mono hb6.size).below hal).mono hal.size) ((ho6.rd.below hal).mono hal.size)))))
    have HOK := Lib.hid (ok_zero (IRd.fresh w6 23 [0, 0] 2 rfl #[.int .i64 0, .int .i64 0] rfl) (by decide) (by decide))
    clear hag hal hbw hb6 ho6 HPT H5
    go_wp2_with fail
    refine HOK.out.mono ?_
    rintro e w7 ⟨rfl, rfl⟩
    generalize w6.alloc (.cells #[.int .i64 0, .int .i64 0] 23) = W7 at H6 ⊢
    have HEV := Lib.hid (eqEv_any H6.out.2.2.2.2 H6.out.2.2.1)
    clear HOK
    go_wp2_with fail
    refine HEV.out.mono ?_
    rintro e w8 ⟨rfl, hb8⟩
    simp only [decide_true]
    have hbw := H6.out.1.trans (hb8.mono H6.out.1.size)
    have hr8 := (H6.out.2.1.below hb8).mono hb8.size
    have HCN := Lib.hid (containsN_any hr8 (Nat.le_refl _) n)
    have H8 := Lib.hid (And.intro hbw ((H6.out.2.2.2.1.below hb8).mono hb8.size))
    have hbl : bagLst l = bagB l := by unfold bagLst; rw [if_pos HE.out.symm]
    have hal1 := bag_alone HX.out.1 n
    rw [← HPL.out.1] at hal1
    have HBL := Lib.hid (And.intro hbl hal1)
    clear hbw hr8 hb8 H6 HEV hbl hal1
    go_wp2_with fail
    refine HCN.out.mono ?_
    rintro e w9 ⟨rfl, hb9⟩
    have hbw := H8.out.1.trans (hb9.mono H8.out.1.size)
    have hr9 := (H8.out.2.below hb9).mono hb9.size
    by_cases hin : n ∈ bagLst l
    · have hd : decide (n ∈ bagLst l) = true := decide_eq_true hin
      rw [HBL.out.1] at hin
      have hal2 := HBL.out.2
      rw [if_pos hin] at hal2
      rw [hal2] at hr9
      have hal : Below w9.heap.size w9 (w9.alloc (.cells #[.int .i64 n] 3)) := (Below.refl _ _).alloc (Nat.le_refl _) _
      have hN : NRd (w9.alloc (.cells #[.int .i64 n] 3)) (w9.heap.size + 1) (.slice (some ⟨w9.heap.size, 0, none⟩) 1 1) [n] :=
        LRd.of_lit (f := intCs) (s := 1) (w := w9) (l := [n]) (fun _ => rfl) 3 (cs := #[.int .i64 n]) rfl (n := 1) rfl (by unfold maxLen; omega)
      have HEQ := Lib.hid (eqInt_same (hr9.below hal) hN)
      have H9 := Lib.hid (hbw.trans (hal.mono hbw.size))
      rw [hd]
      clear hd hin hal2 hr9 hal hN hbw hb9 HCN H8
      go_wp2_with fail
      refine HEQ.out.mono ?_
      rintro e w10 ⟨rfl, hb10⟩
      have H10 := Lib.hid (H9.out.trans (hb10.mono H9.out.size))
      clear hb10 H9 HEQ
      go_wp2_with fail
      go_ret
      exact ⟨rfl, H10.out⟩
    · have hd : decide (n ∈ bagLst l) = false := decide_eq_false hin
      rw [HBL.out.1] at hin
      have hal2 := HBL.out.2
      rw [if_neg hin] at hal2
      obtain rfl : m = 0 := by rw [HM.out, hal2]; rfl
      have H9 := Lib.hid hbw
      rw [hd]
      clear hd hin hal2 hr9 hbw hb9 HCN H8
      go_wp2_with fail
      go_ret
      exact ⟨rfl, H9.out⟩
  · have HOK : Hid (Calls Tryz.prog 17 #[.slice (some ⟨w3.heap.size, 0, none⟩) 2 2] (w3.alloc (.cells #[.int .i64 E, .int .i64 F] 23)) fun e w' => e = .returned (.bool false) ∧ (w3.alloc (.cells #[.int .i64 E, .int .i64 F] 23)) = w') := by
      by_cases h1 : E = 0
      · have h2 : F ≠ 0 := fun h => hEF ⟨h1, h⟩
        exact Lib.hid (ok_not hfr (x := F) (by simp) h2 (by simp))
      · exact Lib.hid (ok_not hfr (x := E) (by simp) h1 (by simp))
    clear hfr hEF
    go_wp2_with fail
    refine HOK.out.mono ?_
    rintro e w4 ⟨rfl, rfl⟩
    generalize w3.alloc (.cells #[.int .i64 E, .int .i64 F] 23) = W4 at H3 ⊢
    have HV := Lib.hid (HLV2.out W4 H3.out.1)
    clear HOK
    go_wp2_with fail
    refine HV.out.mono ?_
    rintro e w5 ⟨rfl, hb5⟩
    have H5 := Lib.hid (H3.out.1.trans (hb5.mono H3.out.1.size))
    clear hb5 HV H3
    go_wp2_with fail
    go_ret
    exact ⟨rfl, H5.out⟩
end Go.Proofs.YtfgangkpebkicaaGreatDoor

/-
  Slices of numbers, of events, of calls as arguments of a law.
-/
namespace Go.Proofs.YtfgangkpebkicaaGreatDoor
open Go.RowKit Go.ChangeShapes Go.WideShapes Go.ChangeAt
set_option maxRecDepth 20000
theorem laidOutIt : laidOutB Tryz.prog = true := by kernel_rfl
theorem evShape : ∃ f0 f1 f2 f3, Tryz.prog.underlying 37 = some (.struct #[f0, f1, f2, f3]) ∧ (f0.type = 3 ∧ f0.offset = 0) ∧ (f1.type = 3 ∧ f1.offset = 1) ∧ (f2.type = 3 ∧ f2.offset = 2) ∧ (f3.type = 3 ∧ f3.offset = 3) :=
  ⟨_, _, _, _, Tryz.underlying37, ⟨rfl, rfl⟩, ⟨rfl, rfl⟩, ⟨rfl, rfl⟩, rfl, rfl⟩
theorem evSize : Tryz.prog.cellsOf 37 = 4 := by kernel_rfl
theorem clSize : Tryz.prog.cellsOf 58 = 7 := by kernel_rfl
theorem intSize : Tryz.prog.cellsOf 3 = 1 := by kernel_rfl
theorem cell_in {w : World} {p : Addr} {v : Value} (h : w.cell? p = some v) : p.block < w.heap.size := World.block_lt_of_cell? w p h
theorem plus_plain (g o j : Nat) : (⟨g, o, none⟩ : Addr).add j = ⟨g, o + j, none⟩ := WideShapes.add_plain g o j
section
variable {H : Type} {enc : TypeId × Value → H} {α : Type} {s : Nat} {f : α → List Value}
/-- A slice whose elements read each as one of α reads as a list of these. -/
theorem open_list {t e : TypeId} (ht : Tryz.prog.underlying t = some (.slice e)) (hs : Tryz.prog.cellsOf e = s) (hs0 : 0 < s) (hf : ∀ x, (f x).length = s) {w : World} {r : Reach} {b0 : Nat} {v : Value} {d : DataW H} {p : List MemPlace}
    (key : ∀ (fuel : Nat) (cs : List Value) (x : DataW H × List MemPlace), DataW.trod enc Tryz.prog w 0 (fun _ => true) true fuel e cs = some x → ∃ y : α, cs = f y)
    (hv : Value.okWide Tryz.prog w r b0 t v) (h : DataW.Trod enc Tryz.prog w 0 (fun _ => true) true t v d p) : ∃ l : List α, LRd s f w w.heap.size v l := by
  obtain ⟨A, len, cap, rfl⟩ := okWide_slice ht hv
  obtain ⟨fuel, hfu⟩ := h
  rcases Deep.open_slice ht hfu with ⟨hc, _⟩ | ⟨a, len', cap', m, n, D, Pl, hc, _, hl, hm, hmm, _, hi⟩
  · simp only [Value.cells, List.cons.injEq, Value.slice.injEq, and_true] at hc
    obtain ⟨rfl, rfl, rfl⟩ := hc
    exact ⟨[], LRd.nil _ _⟩
  · simp only [Value.cells, List.cons.injEq, Value.slice.injEq, and_true] at hc
    obtain ⟨rfl, rfl, rfl⟩ := hc
    rw [hs] at hi
    have hlm : len ≤ m := by rw [hmm]; split <;> omega
    have each : ∀ i, i < len → ∃ y : α, ∀ j u, (f y)[j]? = some u → w.cell? (a.add (i * s + j)) = some u := by
      intro i hil
      obtain ⟨cs, hcs, htr⟩ := hi i (by omega)
      obtain ⟨_, hlen, hcell⟩ := World.cells?_some hcs
      obtain ⟨y, rfl⟩ := key _ _ _ htr
      refine ⟨y, fun j u hu => ?_⟩
      have hj : j < s := by rw [← hf y]; exact (List.getElem?_eq_some_iff.1 hu).1
      have := hcell j hj
      rw [Deep.add_add] at this
      rw [this, hu]
    have pick : ∃ l : List α, l.length = len ∧ ∀ k x, l[k]? = some x → ∀ j u, (f x)[j]? = some u → w.cell? (a.add (k * s + j)) = some u := by
      have all : ∀ q, q ≤ len → ∃ l : List α, l.length = q ∧ ∀ k x, l[k]? = some x → ∀ j u, (f x)[j]? = some u → w.cell? (a.add (k * s + j)) = some u := by
        intro q
        induction q with
        | zero => intro _; exact ⟨[], rfl, fun k x h => by simp at h⟩
        | succ q ih =>
          intro hq
          obtain ⟨l, hl1, hl2⟩ := ih (by omega)
          obtain ⟨y, hy⟩ := each q (by omega)
          refine ⟨l ++ [y], by simp [hl1], fun k x hk => ?_⟩
          rw [List.getElem?_append] at hk
          split at hk
          · exact hl2 k x hk
          · have hkq : k = q := by
              have := (List.getElem?_eq_some_iff.1 hk).1
              simp at this
              omega
            subst hkq
            rw [hl1, Nat.sub_self] at hk
            injection hk with hk
            subst hk
            exact hy
      exact all len (Nat.le_refl _)
    obtain ⟨l, hl1, hl2⟩ := pick
    subst hl1
    refine ⟨l, some a, cap, rfl, hl, hm, fun h0 => ?_⟩
    obtain ⟨g, o, spot⟩ := a
    have h00 : ∃ u, (f l[0])[0]? = some u := ⟨_, List.getElem?_eq_getElem (by rw [hf]; exact hs0)⟩
    obtain ⟨u, hu⟩ := h00
    have h1 := hl2 0 l[0] (List.getElem?_eq_getElem h0) 0 u hu
    have hspot : spot = none := by simpa [Addr.add] using World.cell?_spot h1
    subst hspot
    have hg := cell_in h1
    rw [plus_plain] at hg
    refine ⟨g, o, rfl, hg, fun k x hk j u hu => ?_⟩
    have := hl2 k x hk j u hu
    rwa [plus_plain, ← Nat.add_assoc] at this
theorem open_nums {w : World} {r : Reach} {b0 : Nat} {v : Value} {d : DataW H} {p : List MemPlace} (hv : Value.okWide Tryz.prog w r b0 26 v) (h : DataW.Trod enc Tryz.prog w 0 (fun _ => true) true 26 v d p) : ∃ l, NRd w w.heap.size v l :=
  open_list Tryz.underlying26 intSize (by decide) (fun _ => rfl) (fun fuel cs x h => by
    obtain ⟨n, h1, _, _⟩ := DataW.trod_int Tryz.underlying3 h
    exact ⟨n, h1⟩) hv h
theorem open_evs {w : World} {r : Reach} {b0 : Nat} {v : Value} {d : DataW H} {p : List MemPlace} (hv : Value.okWide Tryz.prog w r b0 22 v) (h : DataW.Trod enc Tryz.prog w 0 (fun _ => true) true 22 v d p) : ∃ l, ERd w w.heap.size v l :=
  open_list Tryz.underlying22 evSize (by decide) (fun _ => rfl) (fun fuel cs x h => by
    obtain ⟨f0, f1, f2, f3, hs, ⟨t0, o0⟩, ⟨t1, o1⟩, ⟨t2, o2⟩, t3, o3⟩ := evShape
    obtain ⟨xs, n, _, _, hlen, hxl, hg⟩ := DataW.trod_struct hs h
    rw [evSize] at hlen
    have hxl' : xs.length = 4 := hxl
    have g0 := hg 0 f0 rfl
    have g1 := hg 1 f1 rfl
    have g2 := hg 2 f2 rfl
    have g3 := hg 3 f3 rfl
    rw [t0, o0, intSize, List.getElem?_eq_getElem (by omega)] at g0
    rw [t1, o1, intSize, List.getElem?_eq_getElem (by omega)] at g1
    rw [t2, o2, intSize, List.getElem?_eq_getElem (by omega)] at g2
    rw [t3, o3, intSize, List.getElem?_eq_getElem (by omega)] at g3
    obtain ⟨n0, e0, _, _⟩ := DataW.trod_int Tryz.underlying3 g0
    obtain ⟨n1, e1, _, _⟩ := DataW.trod_int Tryz.underlying3 g1
    obtain ⟨n2, e2, _, _⟩ := DataW.trod_int Tryz.underlying3 g2
    obtain ⟨n3, e3, _, _⟩ := DataW.trod_int Tryz.underlying3 g3
    match cs, hlen, e0, e1, e2, e3 with
    | [c0, c1, c2, c3], _, e0, e1, e2, e3 =>
      simp at e0 e1 e2 e3
      subst e0 e1 e2 e3
      exact ⟨⟨n0, n1, n2, n3⟩, rfl⟩) hv h
end
end Go.Proofs.YtfgangkpebkicaaGreatDoor

/-
  The three listed tables: the powers of ten as they lie. Slices of steps as arguments.
-/
namespace Go.Proofs.YtfgangkpebkicaaGreatDoor
open Go.ChangeShapes Go.WideShapes Go.ChangeAt Go.RowKit
set_option maxRecDepth 20000
def tab3Laid : List (String × DataW Unit) := [("math/bits.deBruijn32tab", Rows.laid_math_bits_deBruijn32tab), ("math/bits.deBruijn64tab", Rows.laid_math_bits_deBruijn64tab), ("internal/strconv.uint64pow10", Rows.laid_internal_strconv_uint64pow10)]
theorem laid_behind {P : Program} {x : String × DataW Unit} {rest : List (String × DataW Unit)} {W : World} (h : laidMet P (x :: rest) W) : laidMet P rest W := by
  obtain ⟨ps, ⟨g', t', cs, fuel, p, q, hg', ht', hvar, hd, hrest, hps⟩, hn, hc⟩ := h
  subst hps
  exact ⟨q, hrest, (List.nodup_append.1 hn).2.1, fun b off hm => hc b off (List.mem_append.2 (.inr hm))⟩
theorem pow_of_laid {W : World} (h : laidMetH Tryz.prog tab3Laid W) : Pow10 W.heap.size W := by
  rw [MakeChecks.laidMetH_plain _ _ _ (by kernel_rfl)] at h
  have h3 := laid_behind (laid_behind h)
  have hT : Lib.TabIs Tryz.prog W "internal/strconv.uint64pow10" .u64 Lib.pow10Tab :=
    Lib.tabIs_of_head (rest := []) (show Tryz.prog.globalNamed "internal/strconv.uint64pow10" = some 0 by kernel_rfl) (show (Tryz.prog.globals[0]?).map (·.type) = some 173 by kernel_rfl) Tryz.underlying173 Tryz.underlying104 (by kernel_rfl) (by kernel_rfl) h3
  exact Lib.tabBelow_of_tabIs hT
theorem spShape : ∃ f0 f1, Tryz.prog.underlying 64 = some (.struct #[f0, f1]) ∧ (f0.type = 3 ∧ f0.offset = 0) ∧ (f1.type = 3 ∧ f1.offset = 1) :=
  ⟨_, _, Tryz.underlying64, ⟨rfl, rfl⟩, rfl, rfl⟩
theorem spSize : Tryz.prog.cellsOf 64 = 2 := by kernel_rfl
theorem open_sps {H : Type} {enc : TypeId × Value → H} {w : World} {r : Reach} {b0 : Nat} {v : Value} {d : DataW H} {p : List MemPlace} (hv : Value.okWide Tryz.prog w r b0 38 v) (h : DataW.Trod enc Tryz.prog w 0 (fun _ => true) true 38 v d p) : ∃ l, SRd w w.heap.size v l :=
  open_list Tryz.underlying38 spSize (by decide) (fun _ => rfl) (fun fuel cs x h => by
    obtain ⟨f0, f1, hs, ⟨t0, o0⟩, t1, o1⟩ := spShape
    obtain ⟨xs, n, _, _, hlen, hxl, hg⟩ := DataW.trod_struct hs h
    rw [spSize] at hlen
    have hxl' : xs.length = 2 := hxl
    have g0 := hg 0 f0 rfl
    have g1 := hg 1 f1 rfl
    rw [t0, o0, intSize, List.getElem?_eq_getElem (by omega)] at g0
    rw [t1, o1, intSize, List.getElem?_eq_getElem (by omega)] at g1
    obtain ⟨n0, e0, _, _⟩ := DataW.trod_int Tryz.underlying3 g0
    obtain ⟨n1, e1, _, _⟩ := DataW.trod_int Tryz.underlying3 g1
    match cs, hlen, e0, e1 with
    | [c0, c1], _, e0, e1 =>
      simp at e0 e1
      subst e0 e1
      exact ⟨(n0, n1), rfl⟩) hv h
end Go.Proofs.YtfgangkpebkicaaGreatDoor

/-
  The last step of a row: a walk that leaves all old memory as it was ('Below') pays what the row asks.
-/
namespace Go.Proofs.YtfgangkpebkicaaGreatDoor
open Go.ChangeShapes Go.WideShapes Go.ChangeAt Go.RowKit
set_option maxRecDepth 20000
section
variable {H : Type} {enc : TypeId × Value → H} {P : Program} {f : Func} {s : ChangeSpec} {ap fr ho ag : Bool} {W W' : World} {args : Array Value} {v : Value} {ds gs : List (DataW H)} {met pa pv : List MemPlace}
/-- What was met in reading the arguments is old, so it is as it was. -/
theorem end_of_below (hW : DataW.Whole enc P f.params.toList s.vars ap W args.toList ds gs met) (hb : Below W.heap.size W W') (hmet : met = pa ++ pv)
    (hr : ∀ (b : Nat) (sp : Nat → Bool) (hd : Bool), DataW.TrodAll enc P W' b sp hd f.resultTypes.toList (v.resultList f.resultTypes.size) (s.fn H (ds ++ gs)).results [])
    (ha : ∀ sp : Nat → Bool, (∀ p ∈ met, sp p.block = true) → DataW.TrodAll enc P W' 0 sp true f.params.toList args.toList (s.fn H (ds ++ gs)).args pa)
    (hv : ∀ sp : Nat → Bool, (∀ p ∈ met, sp p.block = true) → DataW.TrodVars enc P W' sp s.vars (s.fn H (ds ++ gs)).vars pv)
    (hok : ∀ (j : Nat) (t : TypeId) (r : Value), f.resultTypes[j]? = some t → (v.resultList f.resultTypes.size)[j]? = some r → Value.okWide P W' .any 0 t r) :
    s.post enc P f ap fr ho ag W args v W' := by
  subst hmet
  have old : ∀ {p : MemPlace}, p ∈ pa ++ pv → p.block < W.heap.size := fun hp => hW.lt _ hp
  have mark : ∀ p ∈ pa ++ pv, decide (p.block < W.heap.size) = true := fun p hp => decide_eq_true (old hp)
  have always : ∀ p ∈ pa ++ pv, (fun _ : Nat => true) p.block = true := fun _ _ => rfl
  have same : ([] ++ pa) ++ pv = pa ++ pv := by rw [List.nil_append]
  have keep : W.keptBut W' (fun p => p ∈ pa ++ pv ∧ (p ∈ pa ++ pv)) := World.keptBut_mono (fun p hp => ⟨hp, hp⟩) (hb.frame (· ∈ pa ++ pv))
  have frz : ∀ b off, MemPlace.cell b off ∈ ([] ++ pa) ++ pv → W'.frozen? ⟨b, off, none⟩ = W.frozen? ⟨b, off, none⟩ := fun b off hp => hb.frozen (p := ⟨b, off, none⟩) (old (p := .cell b off) (same ▸ hp))
  have whole := hW
  obtain ⟨_, _, _, _, _, hz, hn⟩ := hW
  refine ⟨ds, gs, pa ++ pv, [], pa, pv, whole, hr _ _ _, ha _ mark, hv _ mark, World.keptBut_mono (fun p hp => ⟨hp.1, Or.inr (List.mem_append.1 hp.2)⟩) keep, fun _ => ⟨hok, _, _, ([] ++ pa) ++ pv, ⟨[] ++ pa, pv, trodAll_append (ha _ always) (hr _ _ _), hv _ always, rfl, ?_, ?_⟩, ?_⟩⟩
  · exact fun b off hp => (frz b off hp).trans (hz b off (same ▸ hp))
  · exact fun h => same ▸ hn h
  · exact fun p hp _ => by simpa using hp
end
end Go.Proofs.YtfgangkpebkicaaGreatDoor
