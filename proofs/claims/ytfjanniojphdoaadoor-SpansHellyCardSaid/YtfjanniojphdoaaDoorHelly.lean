/-
  alibkeep.SpansHelly answers true.
-/
import Derived.Test.YtfjanniojphdoaaDoorHellyPure
import Derived.Test.YtfjanniojphdoaaDoorSpAlive
namespace Go.Proofs.YtfjanniojphdoaaDoor
open Go.RowKit
set_option maxRecDepth 20000

/-- The relation lies in block R; old memory is as it was; the spans read as they did. -/
structure HeR (w0 : World) (B R n : Nat) (a : Nat → Nat) (v : Value) (m : Nat) (F T : Nat → Int) (w : World) : Prop where
  below : Below w0.heap.size w0 w
  rel : RelB w R n a
  arg : SRd w B v m F T
  b : B ≤ w0.heap.size
theorem HeR.next {w0 w w' : World} {B R n : Nat} {a : Nat → Nat} {v : Value} {m : Nat} {F T : Nat → Int} (h : HeR w0 B R n a v m F T w) (hb : Below w.heap.size w w') : HeR w0 B R n a v m F T w' :=
  ⟨h.below.trans (hb.mono h.below.size), Lies.below h.rel hb h.rel.lt, h.arg.below (hb.mono (Nat.le_trans h.b h.below.size)), h.b⟩
theorem HeR.alloc {w0 w : World} {B R n : Nat} {a : Nat → Nat} {v : Value} {m : Nat} {F T : Nat → Int} (h : HeR w0 B R n a v m F T w) (o : Obj) : HeR w0 B R n a v m F T (w.alloc o) := h.next ((Below.refl _ _).alloc (Nat.le_refl _) o)

set_option maxHeartbeats 4000000 in
theorem helly_err {B m : Nat} {v : Value} {F T : Nat → Int} {w : World} (h : SRd w B v m F T) (hB : B ≤ w.heap.size) {E : Int} (hE : spErr m F T = E) (hz : (E != 0) = true) :
    Calls Tryd.prog 6 #[v] w fun e w' => e = .returned (.bool true) ∧ Below w.heap.size w w' := by
  obtain ⟨A, c, rfl⟩ := h.is
  have H := Lib.hid (And.intro h (And.intro hB (And.intro hE hz)))
  clear h hB hE hz
  go_enter Tryd.func6, Tryd.ntmps6
  go_wp2_with fail
  refine (meets_err H.out.1 H.out.2.1 H.out.2.2.1 H.out.2.2.2).mono ?_
  rintro e w1 ⟨rfl, hb1⟩
  have H1 := Lib.hid hb1
  clear hb1
  go_wp2_with fail
  refine (of_err (H.out.1.below (H1.out.mono H.out.2.1)) (Nat.le_trans H.out.2.1 H1.out.size) H.out.2.2.1 H.out.2.2.2).mono ?_
  rintro e w2 ⟨rfl, hb2⟩
  have H2 := Lib.hid (H1.out.trans (hb2.mono H1.out.size))
  clear hb2 H1
  go_wp2_with fail
  have h3 := H2.out.alloc H2.out.size (.cells (relCs 0 fun _ => 0) 25)
  clear H2
  change Calls _ _ _ (w2.alloc (.cells (relCs 0 fun _ => 0) 25)) _
  generalize w2.alloc (.cells (relCs 0 fun _ => 0) 25) = W2 at h3 ⊢
  have H3 := Lib.hid h3
  clear h3
  refine (slives_true W2).mono ?_
  rintro e w3 ⟨rfl, hb3⟩
  have H4 := Lib.hid (H3.out.trans (hb3.mono H3.out.size))
  clear hb3 H3
  go_wp2_with fail
  refine (ok_not (IRd.fresh w3 26 [E, E] _ rfl _ rfl) (x := E) (by simp) (by have := H.out.2.2.2; rw [bne_iff_ne] at this; exact this) (by simp)).mono ?_
  rintro e w4 ⟨rfl, rfl⟩
  have h5 := H4.out.alloc H4.out.size (.cells #[.int .i64 E, .int .i64 E] 26)
  have H5 := Lib.hid h5
  clear h5 H4
  go_wp2_with fail
  refine (slives_true _).mono ?_
  rintro e w5 ⟨rfl, hb5⟩
  have H6 := Lib.hid (H5.out.trans (hb5.mono H5.out.size))
  clear hb5 H5
  go_wp2_with fail
  go_ret
  exact ⟨rfl, H6.out⟩

set_option maxHeartbeats 4000000 in
theorem helly_ok {B m : Nat} {v : Value} {F T : Nat → Int} {w : World} (h : SRd w B v m F T) (hB : B ≤ w.heap.size) (hE : spErr m F T = 0) (hT : Tab w) (hpos : 0 < w.heap.size) :
    Calls Tryd.prog 6 #[v] w fun e w' => e = .returned (.bool true) ∧ Below w.heap.size w w' := by
  have hm : m ≤ 12 := (spErr_zero.1 hE).1
  have hle : ∀ i, i < m → F i ≤ T i := fun i hi => by
    have := (spErr_zero.1 hE).2 i hi
    unfold spOk at this
    rw [decide_eq_true_iff] at this
    exact this.2.1
  obtain ⟨A, c, rfl⟩ := h.is
  have H := Lib.hid (And.intro h (And.intro hB (And.intro hE (And.intro hT (And.intro hpos hle)))))
  clear h hB hE hT hpos hle
  go_enter Tryd.func6, Tryd.ntmps6
  go_wp2_with fail
  refine (meets_ok H.out.1 H.out.2.1 H.out.2.2.1).mono ?_
  rintro e w1 ⟨rfl, hb1⟩
  have H1 := Lib.hid hb1
  clear hb1
  obtain ⟨bt, hbt⟩ : ∃ bt, bt = (bestUp m F T m).1 := ⟨_, rfl⟩
  obtain ⟨M, hM⟩ : ∃ M : Nat, M = (bestUp m F T m).2 := ⟨_, rfl⟩
  rw [← hbt, ← hM]
  have HM := Lib.hid hM
  clear hbt hM
  go_wp2_with fail
  refine (of_ok (H.out.1.below (H1.out.mono H.out.2.1)) (Nat.le_trans H.out.2.1 H1.out.size) H.out.2.2.1).mono ?_
  rintro e w2 ⟨rfl, hb2⟩
  obtain ⟨a, ha⟩ : ∃ a, a = spRel m F T := ⟨_, rfl⟩
  rw [← ha]
  have HA := Lib.hid ha
  have H2 := Lib.hid (H1.out.trans (hb2.mono H1.out.size))
  clear hb2 H1 ha
  go_wp2_with fail
  obtain ⟨R, hR⟩ : ∃ R, R = w2.heap.size := ⟨_, rfl⟩
  have h3 : HeR w B R m a (.slice A m c) m F T (w2.alloc (.cells (relCs m a) 25)) :=
    ⟨H2.out.alloc H2.out.size _, by rw [hR]; exact Lies.new _ _ _, H.out.1.below ((H2.out.alloc H2.out.size _).mono H.out.2.1), H.out.2.1⟩
  rw [← hR]
  clear hR H2
  change Calls _ _ _ (w2.alloc (.cells (relCs m a) 25)) _
  generalize w2.alloc (.cells (relCs m a) 25) = W2 at h3 ⊢
  have H3 := Lib.hid h3
  clear h3
  refine (slives_true W2).mono ?_
  rintro e w3 ⟨rfl, hb3⟩
  have H4 := Lib.hid (H3.out.next hb3)
  clear hb3 H3
  go_wp2_with fail
  refine (ok_zero (IRd.fresh w3 26 [0, 0] _ rfl _ rfl) (by decide) (by decide)).mono ?_
  rintro e w4 ⟨rfl, rfl⟩
  have h5 := H4.out.alloc (.cells #[.int .i64 0, .int .i64 0] 26)
  have H5 := Lib.hid h5
  clear h5 H4
  go_wp2_with fail
  have hW5 := H5.out
  clear H5
  change Code.wp _ _ _ _ (w3.alloc (.cells #[.int .i64 0, .int .i64 0] 26))
  generalize w3.alloc (.cells #[.int .i64 0, .int .i64 0] 26) = W5 at hW5 ⊢
  go_loopw [8, 43] (fun q t wr => ∃ (i : Nat) (b : Bool), i ≤ m ∧ t = .int .i64 i ∧ q = .bool b ∧ (b = true → ∀ x, x < i → ∀ y, y < m → F x ≤ T y ∧ F y ≤ T x) ∧ HeR w B R m a (.slice A m c) m F T wr) (fun _ t _ => m - (intOf t).toNat)
  case atStart => exact ⟨0, true, by omega, rfl, rfl, fun _ x hx => by omega, hW5⟩
  case round =>
    clear hW5
    obtain ⟨i, b, hi, rfl, rfl, hb, hR⟩ := hrel
    by_cases him : i < m
    · obtain ⟨g, o, rfl, hg⟩ := hR.arg.addr (by omega)
      obtain ⟨d1, d2⟩ := hR.arg.cells him
      have HR := Lib.hid (And.intro hR hb)
      clear hR hb hg
      have i1 : (0 : Int) ≤ (i : Int) := by omega
      have i2 : (i : Int) < (m : Int) := by omega
      generalize hf : F i = f at d1
      generalize ht : T i = t at d2
      have HF := Lib.hid (And.intro hf ht)
      clear hf ht
      go_wp2_with fail
      obtain ⟨P, hP⟩ : ∃ P, P = wr.heap.size := ⟨_, rfl⟩
      have hl : Lies (wr.alloc (.cells #[.int .i64 f, .int .i64 t] 54)) P 54 #[.int .i64 f, .int .i64 t] := by rw [hP]; exact Lies.new _ _ _
      have hR := HR.out.1.alloc (.cells #[.int .i64 f, .int .i64 t] 54)
      have HB := Lib.hid HR.out.2
      rw [← hP]
      clear hP HR d1 d2
      generalize wr.alloc (.cells #[.int .i64 f, .int .i64 t] 54) = W6 at hl hR ⊢
      go_loopw [8, 49] (fun q t' wr => ∃ (j : Nat) (b' : Bool), j ≤ m ∧ t' = .int .i64 j ∧ q = .bool b' ∧ (b' = true → b = true ∧ ∀ y, y < j → f ≤ T y ∧ F y ≤ t) ∧ HeR w B R m a (.slice (some ⟨g, o, none⟩) m c) m F T wr ∧ Lies wr P 54 #[.int .i64 f, .int .i64 t]) (fun _ t' _ => m - (intOf t').toNat)
      case atStart => exact ⟨0, b, by omega, rfl, rfl, fun hb => ⟨hb, fun y hy => by omega⟩, hR, hl⟩
      case round =>
        clear hR hl
        obtain ⟨j, b', hj, rfl, rfl, hb', hR, hl⟩ := hrel
        by_cases hjm : j < m
        · obtain ⟨d1, d2⟩ := hR.arg.cells hjm
          have e1 : wr.cell? ⟨P, 0, none⟩ = some (.int .i64 f) := Lies.cell hl 0
          have e2 : wr.cell? ⟨P, 1, none⟩ = some (.int .i64 t) := Lies.cell hl 1
          have hPl := hl.lt
          have HR := Lib.hid (And.intro hR (And.intro hl hb'))
          clear hR hl hb'
          have j1 : (0 : Int) ≤ (j : Int) := by omega
          have j2 : (j : Int) < (m : Int) := by omega
          generalize hf' : F j = f' at d1
          generalize ht' : T j = t' at d2
          have HF' := Lib.hid (And.intro hf' ht')
          clear hf' ht'
          cases b'
          · go_wp2_with fail
            go_roundw
            case rel => exact ⟨j + 1, false, by omega, by go_num, rfl, fun hb => (by cases hb), HR.out.1.alloc _, Lies.alloc HR.out.2.1 _⟩
            case measure => simp [intOf]; omega
          · by_cases k1 : f ≤ t'
            · by_cases k2 : f' ≤ t
              · have HK := Lib.hid (And.intro k1 k2)
                go_wp2_with fail
                go_roundw
                case rel => exact ⟨j + 1, true, by omega, by go_num, by simp, fun _ => ⟨(HR.out.2.2 rfl).1, fun y hy => (Nat.lt_or_ge y j).elim (fun h => (HR.out.2.2 rfl).2 y h) (fun h => by
                  obtain rfl : y = j := by omega
                  rw [HF'.out.1, HF'.out.2]
                  exact HK.out)⟩, HR.out.1.alloc _, Lies.alloc HR.out.2.1 _⟩
                case measure => simp [intOf]; omega
              · have k2' : ¬ f' ≤ t := k2
                go_wp2_with fail
                go_roundw
                case rel => exact ⟨j + 1, false, by omega, by go_num, by simp, fun hb => (by cases hb), HR.out.1.alloc _, Lies.alloc HR.out.2.1 _⟩
                case measure => simp [intOf]; omega
            · have k1' : ¬ f ≤ t' := k1
              go_wp2_with fail
              go_roundw
              case rel => exact ⟨j + 1, false, by omega, by go_num, by simp, fun hb => (by cases hb), HR.out.1.alloc _, Lies.alloc HR.out.2.1 _⟩
              case measure => simp [intOf]; omega
        · obtain rfl : m = j := by omega
          have HR := Lib.hid (And.intro hR hb')
          clear hR hl hb'
          go_wp2_with fail
          go_roundw
          case rel => exact ⟨i + 1, b', by omega, by go_num, rfl, fun hb x hx y hy => (Nat.lt_or_ge x i).elim (fun h => HB.out (HR.out.2 hb).1 x h y hy) (fun h => by
            obtain rfl : x = i := by omega
            rw [HF.out.1, HF.out.2]
            exact (HR.out.2 hb).2 y hy), HR.out.1⟩
          case measure => simp [intOf]; omega
    · obtain rfl : m = i := by omega
      have HR := Lib.hid (And.intro hR hb)
      have c0 := hR.rel.size
      obtain ⟨c1, c2, c3, c4, c5, c6, c7, c8, c9, c10, c11, c12⟩ := hR.rel.rows
      have hz : b = true → ((M : Int) != (m : Int)) = false := fun hbt => by
        have := helly_all (m := m) (F := F) (T := T) (fun i hi j hj => hb hbt i hi j hj)
        rw [bne_eq_false_iff_eq, HM.out, this]
      clear hR hb
      have hgd : Good m a := by rw [HA.out]; exact spRel_good hm
      have hcl := clo_spRel H.out.2.2.2.2.2
      rw [← HA.out] at hcl
      have hap := apart_no m a wr hgd hcl.2 (H.out.2.2.2.1.below HR.out.1.below H.out.2.2.2.2.1) (Nat.lt_of_lt_of_le H.out.2.2.2.2.1 HR.out.1.below.size)
      have hlen : (itemsUp (wide m (clo m a)) m).length = M := by
        rw [hcl.1, items_wide hm, HA.out, helly_wide F T hm, HM.out]
      have HX := Lib.hid (And.intro hap hlen)
      clear hap hlen hcl hgd
      cases b
      · clear hz
        go_wp2_with fail
        clear c0 c1 c2 c3 c4 c5 c6 c7 c8 c9 c10 c11 c12
        refine HX.out.1.mono ?_
        rintro e w7 ⟨v7, rfl, ho7, hb7⟩
        have H7 := Lib.hid (HR.out.1.below.trans (hb7.mono HR.out.1.below.size))
        obtain ⟨A7, c7, rfl, -⟩ := ho7.rd
        rw [HX.out.2]
        clear ho7 hb7
        go_wp2_with fail
        go_ret
        exact ⟨rfl, H7.out⟩
      · have hz' := hz rfl
        clear hz
        go_wp2_with fail
        clear c0 c1 c2 c3 c4 c5 c6 c7 c8 c9 c10 c11 c12
        refine HX.out.1.mono ?_
        rintro e w7 ⟨v7, rfl, ho7, hb7⟩
        have H7 := Lib.hid (HR.out.1.below.trans (hb7.mono HR.out.1.below.size))
        obtain ⟨A7, c7, rfl, -⟩ := ho7.rd
        rw [HX.out.2]
        clear ho7 hb7
        go_wp2_with fail
        go_ret
        exact ⟨rfl, H7.out⟩

theorem helly_any {B m : Nat} {v : Value} {F T : Nat → Int} {w : World} (h : SRd w B v m F T) (hB : B ≤ w.heap.size) (hT : Tab w) (hpos : 0 < w.heap.size) :
    Calls Tryd.prog 6 #[v] w fun e w' => e = .returned (.bool true) ∧ Below w.heap.size w w' := by
  rcases spErr_ways m F T with h0 | h0
  · exact helly_ok h hB h0 hT hpos
  · exact helly_err h hB rfl h0
end Go.Proofs.YtfjanniojphdoaaDoor
