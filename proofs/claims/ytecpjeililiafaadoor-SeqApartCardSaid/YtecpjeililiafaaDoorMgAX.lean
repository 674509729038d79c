/-
  Joined by a program out of: LinCmp, HistArg, PowArg, End, FrontRite.
-/
import Derived.Test.YtecpjeililiafaaDoorMgAU
import Derived.Test.YtecpjeililiafaaDoorMgAT
import Derived.Test.YtecpjeililiafaaDoorMgAB
import Derived.Test.YtecpjeililiafaaDoorRows
import Derived.Carry
import Derived.Deep.Slices
import Derived.OpenShut
import Derived.ProofKit
import Derived.Test.YtecpjeililiafaaDoorMgAW
import Derived.Lib.LaidTab
import Derived.LaidMore
import Derived.Lay
import Derived.Below

/-
  slices.CompareFunc of two lists of steps, by their calls.
-/
namespace Go.Proofs.YtecpjeililiafaaDoor
open Go.RowKit
set_option maxRecDepth 20000

/-- What CompareFunc answers. -/
def cmpL : List (Int × Int) → List (Int × Int) → Int
  | [], [] => 0
  | [], _ :: _ => -1
  | _ :: _, [] => 1
  | x :: a, y :: b => if x.1 - y.1 ≠ 0 then x.1 - y.1 else cmpL a b
theorem cmp_lex : ∀ a b : List (Int × Int), cmpL a b ≤ 0 ↔ lexL a b
  | [], [] => by simp [cmpL, lexL]
  | [], _ :: _ => by simp [cmpL, lexL]
  | _ :: _, [] => by simp [cmpL, lexL]
  | x :: a, y :: b => by
    rw [cmpL, lexL, ← cmp_lex a b]
    split <;> omega
theorem cmpcl_any (x0 x1 y0 y1 : Int) (hx : 0 ≤ x0 ∧ x0 < 16) (hy : 0 ≤ y0 ∧ y0 < 16) (W : World) :
    Calls Tryd.prog 46 #[.agg #[.int .i64 x0, .int .i64 x1], .agg #[.int .i64 y0, .int .i64 y1]] W fun e w' => e = .returned (.int .i64 (x0 - y0)) ∧ Below W.heap.size W w' := by
  have hw : IntKind.i64.wrap (x0 - y0) = x0 - y0 := by rw [IntKind.wrap_i64]; omega
  go_enter Tryd.func46, Tryd.ntmps46
  go_wp2_with fail
  go_ret
  exact ⟨rfl, ((Below.refl _ _).alloc (Nat.le_refl _) _).alloc (by simp) _⟩

set_option maxHeartbeats 2000000 in
theorem cmpF_any {B1 B2 : Nat} {v1 v2 : Value} {xs ys : List (Int × Int)} {w : World} (h1 : SRd w B1 v1 xs) (h2 : SRd w B2 v2 ys) (hB1 : B1 ≤ w.heap.size) (hB2 : B2 ≤ w.heap.size) (hx : ∀ x ∈ xs, 0 ≤ x.1 ∧ x.1 < 16) (hy : ∀ x ∈ ys, 0 ≤ x.1 ∧ x.1 < 16) :
    Calls Tryd.prog 45 #[v1, v2, .func (.func 46) #[] #[]] w fun e w' => e = .returned (.int .i64 (cmpL xs ys)) ∧ Below w.heap.size w w' := by
  obtain ⟨A1, c1, rfl, m1, m2⟩ := h1.is
  obtain ⟨A2, c2, rfl, m3, m4⟩ := h2.is
  unfold maxLen at m2 m4
  have H1 := Lib.hid (And.intro (h1.mono hB1) hx)
  have H2 := Lib.hid (And.intro (h2.mono hB2) hy)
  clear h1 h2 hB1 hB2 hx hy
  obtain ⟨n, hn⟩ : ∃ n, n = xs.length := ⟨_, rfl⟩
  obtain ⟨n', hn'⟩ : ∃ n, n = ys.length := ⟨_, rfl⟩
  obtain ⟨R, hR⟩ : ∃ R, R = cmpL xs ys := ⟨_, rfl⟩
  rw [← hn, ← hn', ← hR]
  have m5 : (n : Int) ≤ 9223372036854775807 := by omega
  have m6 : (n' : Int) ≤ 9223372036854775807 := by omega
  clear m1 m2 m3 m4
  have HN := Lib.hid (And.intro hn (And.intro hn' hR))
  clear hn hn' hR
  go_enter Tryd.func45, Tryd.ntmps45
  go_wp2_with fail
  go_loopw [13] (fun i wr => ∃ k : Nat, k ≤ n ∧ k ≤ n' ∧ i = .int .i64 k ∧ cmpL (xs.drop k) (ys.drop k) = R ∧ Below w.heap.size w wr) (fun i _ => n - (intOf i).toNat)
  case atStart => exact ⟨0, by omega, by omega, rfl, HN.out.2.2.symm, Below.refl _ _⟩
  case round =>
    obtain ⟨k, hk, hk2, rfl, hT, hb⟩ := hrel
    have HT := Lib.hid (And.intro hT hb)
    by_cases hkn : k < n
    · have hkx : k < xs.length := by rw [← HN.out.1]; exact hkn
      obtain ⟨x, hx⟩ : ∃ x, xs[k]? = some x := ⟨_, List.getElem?_eq_getElem hkx⟩
      have hr1 := H1.out.1.below hb
      rw [← HN.out.1] at hr1
      obtain ⟨g1, o1, rfl, -, b0, b1⟩ := hr1.sp hx
      obtain ⟨x0, x1⟩ := x
      simp only at b0 b1
      have hdx : xs.drop k = (x0, x1) :: xs.drop (k + 1) := by
        rw [List.drop_eq_getElem_cons hkx]
        rw [List.getElem?_eq_getElem hkx] at hx
        injection hx with hx
        rw [hx]
      have hbx := H1.out.2 _ (List.mem_of_getElem? hx)
      have HX := Lib.hid (And.intro hdx hbx)
      have i1 : (0 : Int) ≤ (k : Int) := by omega
      have i2 : (k : Int) < (n : Int) := by omega
      clear hr1 hx hdx hbx hkx hT
      by_cases hkn' : k < n'
      · have hky : k < ys.length := by rw [← HN.out.2.1]; exact hkn'
        obtain ⟨y, hy⟩ : ∃ y, ys[k]? = some y := ⟨_, List.getElem?_eq_getElem hky⟩
        have hr2 := H2.out.1.below hb
        rw [← HN.out.2.1] at hr2
        obtain ⟨g2, o2, rfl, hg2, d0, d1⟩ := hr2.sp hy
        obtain ⟨y0, y1⟩ := y
        simp only at d0 d1
        have hdy : ys.drop k = (y0, y1) :: ys.drop (k + 1) := by
          rw [List.drop_eq_getElem_cons hky]
          rw [List.getElem?_eq_getElem hky] at hy
          injection hy with hy
          rw [hy]
        have hby := H2.out.2 _ (List.mem_of_getElem? hy)
        have d2 : ∀ o, (wr.alloc o).cell? ⟨g2, o2 + k * 2, none⟩ = some (.int .i64 y0) := fun o => Lib.cell?_alloc_some _ d0
        have d3 : ∀ o, (wr.alloc o).cell? ⟨g2, o2 + k * 2 + 1, none⟩ = some (.int .i64 y1) := fun o => Lib.cell?_alloc_some _ d1
        have HY := Lib.hid (And.intro hdy hby)
        have HK := Lib.hid (fun W : World => cmpcl_any x0 x1 y0 y1 HX.out.2 hby W)
        have i3 : (k : Int) < (n' : Int) := by omega
        clear hr2 hy hdy hby hky hb d0 d1
        go_wp2_with fail
        refine (HK.out _).mono ?_
        rintro e w5 ⟨rfl, hb5⟩
        have HB5 := Lib.hid (((HT.out.2.alloc HT.out.2.size (.cells #[.int .i64 x0, .int .i64 x1] 42)).alloc (by have := HT.out.2.size; simp; omega) (.cells #[.int .i64 y0, .int .i64 y1] 42)).trans (hb5.mono (by have := HT.out.2.size; simp; omega)))
        have h9 := HT.out.1
        rw [HX.out.1, HY.out.1, cmpL] at h9
        have H9 := Lib.hid h9
        clear h9 hb5 HK
        by_cases hz : x0 - y0 = 0
        · have hz2 : (x0 - y0 != 0) = false := by rw [bne_eq_false_iff_eq]; exact hz
          have HZ := Lib.hid hz
          generalize x0 - y0 = dd at hz2 H9 HZ ⊢
          clear hz
          go_wp2_with fail
          go_roundw
          case rel =>
            refine ⟨k + 1, by omega, by omega, by go_num, ?_, HB5.out⟩
            rw [← H9.out, if_neg (by rw [HZ.out]; decide)]
          case measure => simp [intOf]; omega
        · have hz2 : (x0 - y0 != 0) = true := by rw [bne_iff_ne]; exact hz
          have HZ := Lib.hid hz
          generalize x0 - y0 = dd at hz2 H9 HZ ⊢
          clear hz
          go_wp2_with fail
          go_ret
          refine ⟨?_, HB5.out⟩
          rw [← H9.out, if_pos HZ.out]
          rfl
      · have i3 : (n' : Int) ≤ (k : Int) := by omega
        have hke : ys.length ≤ k := by rw [← HN.out.2.1]; omega
        have HKE := Lib.hid hke
        clear hb hkn' hke
        go_wp2_with fail
        go_ret
        refine ⟨?_, HT.out.2.alloc HT.out.2.size _⟩
        have h9 := HT.out.1
        rw [HX.out.1, List.drop_eq_nil_of_le HKE.out, cmpL] at h9
        rw [← h9]
        rfl
    · have hke : xs.length ≤ k := by rw [← HN.out.1]; omega
      have HKE := Lib.hid hke
      have h9 := HT.out.1
      rw [List.drop_eq_nil_of_le hke] at h9
      have H9 := Lib.hid h9
      obtain rfl : n = k := by omega
      clear hb hke h9 hT
      by_cases hnn : n < n'
      · have i3 : (n : Int) < (n' : Int) := by omega
        have hky : n < ys.length := by rw [← HN.out.2.1]; exact hnn
        have HKY := Lib.hid hky
        clear hky
        go_wp2_with fail
        go_ret
        refine ⟨?_, HT.out.2⟩
        have h9 := H9.out
        rw [List.drop_eq_getElem_cons HKY.out, cmpL] at h9
        rw [← h9]
        rfl
      · have i3 : ¬ (n : Int) < (n' : Int) := by omega
        have hky : ys.length ≤ n := by rw [← HN.out.2.1]; omega
        have HKY := Lib.hid hky
        clear hky
        go_wp2_with fail
        go_ret
        refine ⟨?_, HT.out.2⟩
        have h9 := H9.out
        rw [List.drop_eq_nil_of_le HKY.out, cmpL] at h9
        rw [← h9]
        rfl
end Go.Proofs.YtecpjeililiafaaDoor

/-
  Slices of numbers, of events, of calls as arguments of a law.
-/
namespace Go.Proofs.YtecpjeililiafaaDoor
open Go.RowKit Go.ChangeShapes Go.WideShapes Go.ChangeAt
set_option maxRecDepth 20000

theorem laidOutIt : laidOutB Tryd.prog = true := by kernel_rfl
theorem evShape : ∃ f0 f1 f2 f3, Tryd.prog.underlying 77 = some (.struct #[f0, f1, f2, f3]) ∧ (f0.type = 3 ∧ f0.offset = 0) ∧ (f1.type = 3 ∧ f1.offset = 1) ∧ (f2.type = 3 ∧ f2.offset = 2) ∧ (f3.type = 3 ∧ f3.offset = 3) :=
  ⟨_, _, _, _, Tryd.underlying77, ⟨rfl, rfl⟩, ⟨rfl, rfl⟩, ⟨rfl, rfl⟩, rfl, rfl⟩
theorem evSize : Tryd.prog.cellsOf 77 = 4 := by kernel_rfl
theorem clSize : Tryd.prog.cellsOf 57 = 7 := by kernel_rfl
theorem intSize : Tryd.prog.cellsOf 3 = 1 := by kernel_rfl

theorem cell_in {w : World} {p : Addr} {v : Value} (h : w.cell? p = some v) : p.block < w.heap.size := World.block_lt_of_cell? w p h
theorem plus_plain (g o j : Nat) : (⟨g, o, none⟩ : Addr).add j = ⟨g, o + j, none⟩ := WideShapes.add_plain g o j

section
variable {H : Type} {enc : TypeId × Value → H} {α : Type} {s : Nat} {f : α → List Value}
/-- A slice whose elements read each as one of α reads as a list of these. -/
theorem open_list {t e : TypeId} (ht : Tryd.prog.underlying t = some (.slice e)) (hs : Tryd.prog.cellsOf e = s) (hs0 : 0 < s) (hf : ∀ x, (f x).length = s) {w : World} {r : Reach} {b0 : Nat} {v : Value} {d : DataW H} {p : List MemPlace}
    (key : ∀ (fuel : Nat) (cs : List Value) (x : DataW H × List MemPlace), DataW.trod enc Tryd.prog w 0 (fun _ => true) true fuel e cs = some x → ∃ y : α, cs = f y)
    (hv : Value.okWide Tryd.prog w r b0 t v) (h : DataW.Trod enc Tryd.prog w 0 (fun _ => true) true t v d p) : ∃ l : List α, LRd s f w w.heap.size v l := by
  obtain ⟨A, len, cap, rfl⟩ := okWide_slice ht hv
  obtain ⟨fuel, hfu⟩ := h
  rcases Deep.open_slice ht hfu with ⟨hc, _⟩ | ⟨a, len', cap', m, n, D, Pl, hc, _, hl, hm, hmm, _, hi⟩
  · simp only [Value.cells, List.cons.injEq, Value.slice.injEq, and_true] at hc
    obtain ⟨rfl, rfl, rfl⟩ := hc
    exact ⟨[], LRd.nil _ _⟩
  · simp only [Value.cells, List.cons.injEq, Value.slice.injEq, and_true] at hc
    obtain ⟨rfl, rfl, rfl⟩ := hc
    rw [hs] at hi
    have hlm : len ≤ m := by rw [hmm]; split <;> omega
    have each : ∀ i, i < len → ∃ y : α, ∀ j u, (f y)[j]? = some u → w.cell? (a.add (i * s + j)) = some u := by
      intro i hil
      obtain ⟨cs, hcs, htr⟩ := hi i (by omega)
      obtain ⟨_, hlen, hcell⟩ := World.cells?_some hcs
      obtain ⟨y, rfl⟩ := key _ _ _ htr
      refine ⟨y, fun j u hu => ?_⟩
      have hj : j < s := by rw [← hf y]; exact (List.getElem?_eq_some_iff.1 hu).1
      have := hcell j hj
      rw [Deep.add_add] at this
      rw [this, hu]
    have pick : ∃ l : List α, l.length = len ∧ ∀ k x, l[k]? = some x → ∀ j u, (f x)[j]? = some u → w.cell? (a.add (k * s + j)) = some u := by
      have all : ∀ q, q ≤ len → ∃ l : List α, l.length = q ∧ ∀ k x, l[k]? = some x → ∀ j u, (f x)[j]? = some u → w.cell? (a.add (k * s + j)) = some u := by
        intro q
        induction q with
        | zero => intro _; exact ⟨[], rfl, fun k x h => by simp at h⟩
        | succ q ih =>
          intro hq
          obtain ⟨l, hl1, hl2⟩ := ih (by omega)
          obtain ⟨y, hy⟩ := each q (by omega)
          refine ⟨l ++ [y], by simp [hl1], fun k x hk => ?_⟩
          rw [List.getElem?_append] at hk
          split at hk
          · exact hl2 k x hk
          · have hkq : k = q := by
              have := (List.getElem?_eq_some_iff.1 hk).1
              simp at this
              omega
            subst hkq
            rw [hl1, Nat.sub_self] at hk
            injection hk with hk
            subst hk
            exact hy
      exact all len (Nat.le_refl _)
    obtain ⟨l, hl1, hl2⟩ := pick
    subst hl1
    refine ⟨l, some a, cap, rfl, hl, hm, fun h0 => ?_⟩
    obtain ⟨g, o, spot⟩ := a
    have h00 : ∃ u, (f l[0])[0]? = some u := ⟨_, List.getElem?_eq_getElem (by rw [hf]; exact hs0)⟩
    obtain ⟨u, hu⟩ := h00
    have h1 := hl2 0 l[0] (List.getElem?_eq_getElem h0) 0 u hu
    have hspot : spot = none := by simpa [Addr.add] using World.cell?_spot h1
    subst hspot
    have hg := cell_in h1
    rw [plus_plain] at hg
    refine ⟨g, o, rfl, hg, fun k x hk j u hu => ?_⟩
    have := hl2 k x hk j u hu
    rwa [plus_plain, ← Nat.add_assoc] at this

theorem open_nums {w : World} {r : Reach} {b0 : Nat} {v : Value} {d : DataW H} {p : List MemPlace} (hv : Value.okWide Tryd.prog w r b0 22 v) (h : DataW.Trod enc Tryd.prog w 0 (fun _ => true) true 22 v d p) : ∃ l, NRd w w.heap.size v l :=
  open_list Tryd.underlying22 intSize (by decide) (fun _ => rfl) (fun fuel cs x h => by
    obtain ⟨n, h1, _, _⟩ := DataW.trod_int Tryd.underlying3 h
    exact ⟨n, h1⟩) hv h

theorem open_evs {w : World} {r : Reach} {b0 : Nat} {v : Value} {d : DataW H} {p : List MemPlace} (hv : Value.okWide Tryd.prog w r b0 23 v) (h : DataW.Trod enc Tryd.prog w 0 (fun _ => true) true 23 v d p) : ∃ l, ERd w w.heap.size v l :=
  open_list Tryd.underlying23 evSize (by decide) (fun _ => rfl) (fun fuel cs x h => by
    obtain ⟨f0, f1, f2, f3, hs, ⟨t0, o0⟩, ⟨t1, o1⟩, ⟨t2, o2⟩, t3, o3⟩ := evShape
    obtain ⟨xs, n, _, _, hlen, hxl, hg⟩ := DataW.trod_struct hs h
    rw [evSize] at hlen
    have hxl' : xs.length = 4 := hxl
    have g0 := hg 0 f0 rfl
    have g1 := hg 1 f1 rfl
    have g2 := hg 2 f2 rfl
    have g3 := hg 3 f3 rfl
    rw [t0, o0, intSize, List.getElem?_eq_getElem (by omega)] at g0
    rw [t1, o1, intSize, List.getElem?_eq_getElem (by omega)] at g1
    rw [t2, o2, intSize, List.getElem?_eq_getElem (by omega)] at g2
    rw [t3, o3, intSize, List.getElem?_eq_getElem (by omega)] at g3
    obtain ⟨n0, e0, _, _⟩ := DataW.trod_int Tryd.underlying3 g0
    obtain ⟨n1, e1, _, _⟩ := DataW.trod_int Tryd.underlying3 g1
    obtain ⟨n2, e2, _, _⟩ := DataW.trod_int Tryd.underlying3 g2
    obtain ⟨n3, e3, _, _⟩ := DataW.trod_int Tryd.underlying3 g3
    match cs, hlen, e0, e1, e2, e3 with
    | [c0, c1, c2, c3], _, e0, e1, e2, e3 =>
      simp at e0 e1 e2 e3
      subst e0 e1 e2 e3
      exact ⟨⟨n0, n1, n2, n3⟩, rfl⟩) hv h
end
end Go.Proofs.YtecpjeililiafaaDoor

/-
  The three listed tables: the powers of ten as they lie. Slices of steps as arguments.
-/
namespace Go.Proofs.YtecpjeililiafaaDoor
open Go.ChangeShapes Go.WideShapes Go.ChangeAt Go.RowKit
set_option maxRecDepth 20000

def tab3Laid : List (String × DataW Unit) := [("math/bits.deBruijn32tab", Rows.laid_math_bits_deBruijn32tab), ("math/bits.deBruijn64tab", Rows.laid_math_bits_deBruijn64tab), ("internal/strconv.uint64pow10", Rows.laid_internal_strconv_uint64pow10)]
theorem laid_behind {P : Program} {x : String × DataW Unit} {rest : List (String × DataW Unit)} {W : World} (h : laidMet P (x :: rest) W) : laidMet P rest W := by
  obtain ⟨ps, ⟨g', t', cs, fuel, p, q, hg', ht', hvar, hd, hrest, hps⟩, hn, hc⟩ := h
  subst hps
  exact ⟨q, hrest, (List.nodup_append.1 hn).2.1, fun b off hm => hc b off (List.mem_append.2 (.inr hm))⟩
theorem pow_of_laid {W : World} (h : laidMetH Tryd.prog tab3Laid W) : Pow10 W.heap.size W := by
  rw [MakeChecks.laidMetH_plain _ _ _ (by kernel_rfl)] at h
  have h3 := laid_behind (laid_behind h)
  have hT : Lib.TabIs Tryd.prog W "internal/strconv.uint64pow10" .u64 Lib.pow10Tab :=
    Lib.tabIs_of_head (rest := []) (show Tryd.prog.globalNamed "internal/strconv.uint64pow10" = some 1 by kernel_rfl) (show (Tryd.prog.globals[1]?).map (·.type) = some 191 by kernel_rfl) Tryd.underlying191 Tryd.underlying164 (by kernel_rfl) (by kernel_rfl) h3
  exact Lib.tabBelow_of_tabIs hT

theorem spShape : ∃ f0 f1, Tryd.prog.underlying 42 = some (.struct #[f0, f1]) ∧ (f0.type = 3 ∧ f0.offset = 0) ∧ (f1.type = 3 ∧ f1.offset = 1) :=
  ⟨_, _, Tryd.underlying42, ⟨rfl, rfl⟩, rfl, rfl⟩
theorem spSize : Tryd.prog.cellsOf 42 = 2 := by kernel_rfl
theorem open_sps {H : Type} {enc : TypeId × Value → H} {w : World} {r : Reach} {b0 : Nat} {v : Value} {d : DataW H} {p : List MemPlace} (hv : Value.okWide Tryd.prog w r b0 24 v) (h : DataW.Trod enc Tryd.prog w 0 (fun _ => true) true 24 v d p) : ∃ l, SRd w w.heap.size v l :=
  open_list Tryd.underlying24 spSize (by decide) (fun _ => rfl) (fun fuel cs x h => by
    obtain ⟨f0, f1, hs, ⟨t0, o0⟩, t1, o1⟩ := spShape
    obtain ⟨xs, n, _, _, hlen, hxl, hg⟩ := DataW.trod_struct hs h
    rw [spSize] at hlen
    have hxl' : xs.length = 2 := hxl
    have g0 := hg 0 f0 rfl
    have g1 := hg 1 f1 rfl
    rw [t0, o0, intSize, List.getElem?_eq_getElem (by omega)] at g0
    rw [t1, o1, intSize, List.getElem?_eq_getElem (by omega)] at g1
    obtain ⟨n0, e0, _, _⟩ := DataW.trod_int Tryd.underlying3 g0
    obtain ⟨n1, e1, _, _⟩ := DataW.trod_int Tryd.underlying3 g1
    match cs, hlen, e0, e1 with
    | [c0, c1], _, e0, e1 =>
      simp at e0 e1
      subst e0 e1
      exact ⟨(n0, n1), rfl⟩) hv h
end Go.Proofs.YtecpjeililiafaaDoor

/-
  The last step of a row: a walk that leaves all old memory as it was ('Below') pays what the row asks.
-/
namespace Go.Proofs.YtecpjeililiafaaDoor
open Go.ChangeShapes Go.WideShapes Go.ChangeAt Go.RowKit
set_option maxRecDepth 20000

section
variable {H : Type} {enc : TypeId × Value → H} {P : Program} {f : Func} {s : ChangeSpec} {ap fr ho ag : Bool} {W W' : World} {args : Array Value} {v : Value} {ds gs : List (DataW H)} {met pa pv : List MemPlace}

/-- What was met in reading the arguments is old, so it is as it was. -/
theorem end_of_below (hW : DataW.Whole enc P f.params.toList s.vars ap W args.toList ds gs met) (hb : Below W.heap.size W W') (hmet : met = pa ++ pv)
    (hr : ∀ (b : Nat) (sp : Nat → Bool) (hd : Bool), DataW.TrodAll enc P W' b sp hd f.resultTypes.toList (v.resultList f.resultTypes.size) (s.fn H (ds ++ gs)).results [])
    (ha : ∀ sp : Nat → Bool, (∀ p ∈ met, sp p.block = true) → DataW.TrodAll enc P W' 0 sp true f.params.toList args.toList (s.fn H (ds ++ gs)).args pa)
    (hv : ∀ sp : Nat → Bool, (∀ p ∈ met, sp p.block = true) → DataW.TrodVars enc P W' sp s.vars (s.fn H (ds ++ gs)).vars pv)
    (hok : ∀ (j : Nat) (t : TypeId) (r : Value), f.resultTypes[j]? = some t → (v.resultList f.resultTypes.size)[j]? = some r → Value.okWide P W' .any 0 t r) :
    s.post enc P f ap fr ho ag W args v W' := by
  subst hmet
  have old : ∀ {p : MemPlace}, p ∈ pa ++ pv → p.block < W.heap.size := fun hp => hW.lt _ hp
  have mark : ∀ p ∈ pa ++ pv, decide (p.block < W.heap.size) = true := fun p hp => decide_eq_true (old hp)
  have always : ∀ p ∈ pa ++ pv, (fun _ : Nat => true) p.block = true := fun _ _ => rfl
  have same : ([] ++ pa) ++ pv = pa ++ pv := by rw [List.nil_append]
  have keep : W.keptBut W' (fun p => p ∈ pa ++ pv ∧ (p ∈ pa ++ pv)) := World.keptBut_mono (fun p hp => ⟨hp, hp⟩) (hb.frame (· ∈ pa ++ pv))
  have frz : ∀ b off, MemPlace.cell b off ∈ ([] ++ pa) ++ pv → W'.frozen? ⟨b, off, none⟩ = W.frozen? ⟨b, off, none⟩ := fun b off hp => hb.frozen (p := ⟨b, off, none⟩) (old (p := .cell b off) (same ▸ hp))
  have whole := hW
  obtain ⟨_, _, _, _, _, hz, hn⟩ := hW
  refine ⟨ds, gs, pa ++ pv, [], pa, pv, whole, hr _ _ _, ha _ mark, hv _ mark, World.keptBut_mono (fun p hp => ⟨hp.1, Or.inr (List.mem_append.1 hp.2)⟩) keep, fun _ => ⟨hok, _, _, ([] ++ pa) ++ pv, ⟨[] ++ pa, pv, trodAll_append (ha _ always) (hr _ _ _), hv _ always, rfl, ?_, ?_⟩, ?_⟩⟩
  · exact fun b off hp => (frz b off hp).trans (hz b off (same ▸ hp))
  · exact fun h => same ▸ hn h
  · exact fun p hp _ => by simpa using hp
end
end Go.Proofs.YtecpjeililiafaaDoor

/-
  Plain: a begin of a history that has a right order has one.
-/
namespace Go.Proofs.YtecpjeililiafaaDoor
open Go.RowKit
set_option maxRecDepth 20000

theorem getD_some {cs : List Cl} {i : Nat} (h : i < cs.length) : cs[i]? = some (cs.getD i default) := by
  rw [List.getD_eq_getElem?_getD, List.getElem?_eq_getElem h]
  rfl
/-- Cut behind the last that is so. -/
theorem cut_last {α : Type} (P : α → Prop) : ∀ ws : List α, ∃ a b, ws = a ++ b ∧ (∀ x ∈ b, ¬ P x) ∧ (a = [] ∨ ∃ a' y, a = a' ++ [y] ∧ P y)
  | [] => ⟨[], [], rfl, fun x hx => by simp at hx, .inl rfl⟩
  | x :: r => by
    obtain ⟨a, b, h1, h2, h3⟩ := cut_last P r
    rcases h3 with rfl | ⟨a', y, rfl, hy⟩
    · rw [List.nil_append] at h1
      subst h1
      by_cases hx : P x
      · exact ⟨[x], r, rfl, h2, .inr ⟨[], x, rfl, hx⟩⟩
      · refine ⟨[], x :: r, rfl, fun z hz => ?_, .inl rfl⟩
        rcases List.mem_cons.1 hz with rfl | hz
        · exact hx
        · exact h2 z hz
    · exact ⟨x :: (a' ++ [y]), b, by rw [h1]; rfl, h2, .inr ⟨x :: a', y, rfl, hy⟩⟩
theorem ownD_congr {cs ds : List Cl} {t : Nat} : ∀ {ws : List (Int × Int)}, (∀ x ∈ ws, (atC ds x).thing = (atC cs x).thing ∧ (atC ds x).kind = (atC cs x).kind ∧ (atC ds x).arg = (atC cs x).arg) → ownD ds t ws = ownD cs t ws
  | [], _ => rfl
  | x :: r, h => by
    rw [ownD_cons, ownD_cons, ownD_congr (ws := r) (fun y hy => h y (List.mem_cons_of_mem _ hy))]
    obtain ⟨h1, h2, h3⟩ := h x List.mem_cons_self
    unfold ddC
    rw [h1, h2, h3]
/-- No one stands behind whom it is ahead of. -/
theorem Rite.not_behind {ts : List Int} {cs : List Cl} {ws : List (Int × Int)} (h : Rite ts cs ws) {i j : Nat} (hi : i < cs.length) (hj : j < cs.length) (ha : aheadB cs i j = true) {a b : List (Int × Int)} {y : Int × Int} (e : ws = a ++ y :: b) (ey : y.1 = (j : Int)) : (i : Int) ∉ b.map (·.1) := by
  intro hm
  have h1 := h.ord i j hi hj ha a y b e ey
  have h2 := h.once
  rw [e, List.map_append, List.map_cons, List.nodup_append] at h2
  exact h2.2.2 _ h1 _ (List.mem_cons_of_mem _ hm) rfl
theorem grow_rite {ts : List Int} {n : Nat} {d c : List Cl} (hg : Grow n d c) (ht : Tidy n d) {ws : List (Int × Int)} (h : Rite ts c ws) : ∃ ws', Rite ts d ws' := by
  have hat : ∀ i, i < d.length → d.getD i default = before_ n (c.getD i default) := fun i hi => hg.same i _ _ (getD_some hi) (getD_some (by have := hg.len; omega))
  have hans : ∀ i, i < d.length → (d.getD i default).til ≠ -1 → d.getD i default = c.getD i default := fun i hi h1 => by
    have h2 := hat i hi
    unfold before_ at h2
    split at h2
    · rw [h2] at h1; exact absurd rfl h1
    · exact h2
  have hsame : ∀ i, i < d.length → (d.getD i default).thing = (c.getD i default).thing ∧ (d.getD i default).kind = (c.getD i default).kind ∧ (d.getD i default).arg = (c.getD i default).arg ∧ (d.getD i default).frm = (c.getD i default).frm := fun i hi => by
    rw [hat i hi]
    unfold before_
    split <;> exact ⟨rfl, rfl, rfl, rfl⟩
  obtain ⟨a, b, e, hb, hlast⟩ := cut_last (fun x : Int × Int => x.1 < d.length ∧ (d.getD x.1.toNat default).til ≠ -1) ws
  have hlen := hg.len
  have hin : ∀ x ∈ a, 0 ≤ x.1 ∧ x.1 < d.length := by
    intro x hx
    have h0 := h.rng x (by rw [e]; exact List.mem_append_left _ hx)
    refine ⟨h0.1, ?_⟩
    rcases hlast with rfl | ⟨a', y, rfl, hy1, hy2⟩
    · simp at hx
    · rcases List.mem_append.1 hx with hx | hx
      · apply Classical.byContradiction
        intro hn
        obtain ⟨a1, a2, rfl⟩ := List.append_of_mem hx
        have hy0 := h.rng y (by rw [e]; exact List.mem_append_left _ (List.mem_append_right _ List.mem_cons_self))
        have h3 := hans y.1.toNat (by omega) hy2
        have h4 := (ht _ (List.mem_of_getElem? (getD_some (cs := d) (i := y.1.toNat) (by omega)))).1
        have h5 := hg.new x.1.toNat (c.getD x.1.toNat default) (by omega) (getD_some (by omega))
        have ha : aheadB c y.1.toNat x.1.toNat = true := by
          unfold aheadB
          rw [decide_eq_true_iff, ← h3]
          exact ⟨hy2, by omega⟩
        refine h.not_behind (by omega) (by omega) ha (a := a1) (b := a2 ++ [y] ++ b) (y := x) (by rw [e]; simp) (by omega) ?_
        rw [List.mem_map]
        exact ⟨y, by simp, by omega⟩
      · rw [List.mem_singleton] at hx
        subst hx
        exact hy1
  have hsub : a.Sublist ws := by rw [e]; exact List.sublist_append_left a b
  refine ⟨a, hin, (hsub.map _).nodup h.once, fun x hx ht => ?_, fun i hi ht => ?_, fun i j hi hj ha a1 y b1 e1 ey => ?_, fun t ht => ?_⟩
  · have h1 := hin x hx
    have h2 : atC d x = atC c x := hans _ (by omega) ht
    rw [h2] at ht ⊢
    exact h.res x (hsub.mem hx) ht
  · have h2 := hans i hi ht
    have h3 := h.all i (by omega) (by rw [← h2]; exact ht)
    rw [e, List.map_append, List.mem_append] at h3
    rcases h3 with h3 | h3
    · exact h3
    · obtain ⟨x, hx, ex⟩ := List.mem_map.1 h3
      refine absurd ⟨by omega, ?_⟩ (hb x hx)
      rw [ex, Int.toNat_natCast]
      exact ht
  · refine h.ord i j (by omega) (by omega) ?_ a1 y (b1 ++ b) (by rw [e, e1]; simp) ey
    unfold aheadB at ha ⊢
    rw [decide_eq_true_iff] at ha ⊢
    rw [← hans i hi ha.1, ← (hsame j hj).2.2.2]
    exact ha
  · have h1 := h.goes t ht
    rw [e, ownD_append, goes_append] at h1
    rw [ownD_congr fun x hx => ?_]
    · exact h1.1
    · have := hsame x.1.toNat (by have := hin x hx; omega)
      exact ⟨this.1, this.2.1, this.2.2.1⟩
/-- HERLIHY, WING: of a history that has a right order each begin has one. -/
theorem front_rite {ts : List Int} {l : List Ev} {n : Nat} (hn : n ≤ l.length) (h0 : (callsOf ts l).2.2 = 0) {ws : List (Int × Int)} (h : Rite ts (callsOf ts l).1 ws) :
    (callsOf ts (l.take n)).2.2 = 0 ∧ (callsOf ts (l.take n)).1.length ≤ (callsOf ts l).1.length ∧ ∃ ws', Rite ts (callsOf ts (l.take n)).1 ws' := by
  obtain ⟨e1, e2⟩ := calls_run (ts := ts) (l := l) (by omega) (by omega) n
  rw [e1] at h0 h ⊢
  rw [e2]
  obtain ⟨h1, hg⟩ := front_ok hn h0
  have ht := run_tidy (ts := ts) (l.take n) 0 [] (fun c hc => by simp at hc) h1
  rw [List.length_take, Nat.zero_add, Nat.min_eq_left hn] at ht
  exact ⟨h1, hg.len, grow_rite hg ht h⟩
end Go.Proofs.YtecpjeililiafaaDoor
