/-
  Joined by a program out of: AheadOf, LinMem, LinPt.
-/
import Derived.Test.YtfgangkpebkicaaDoorMgAK
import Derived.Test.YtfgangkpebkicaaDoorMgAJ
import Derived.Test.YtfgangkpebkicaaDoorMgAB
import Derived.Test.YtfgangkpebkicaaDoorMgAC
import Derived.Test.YtfgangkpebkicaaDoorMgAF

/-
  Contract of history.Ahead.
-/
namespace Go.Proofs.YtfgangkpebkicaaDoor
open Go.RowKit
set_option maxRecDepth 20000
set_option maxHeartbeats 4000000 in
theorem ahead_few {B : Nat} {v : Value} {l : List Cl} {w : World} (h : CRd w B v l) (hB : B ≤ w.heap.size) (hl : l.length ≤ 12) :
    Calls Tryd.prog 48 #[v] w fun e w' => e = .returned (.tuple #[relV l.length (relP (aheadB l) l.length), .int .i64 0]) ∧ Below w.heap.size w w' := by
  obtain ⟨A, c, rfl, -, -⟩ := h.is
  have H := Lib.hid (And.intro h hB)
  obtain ⟨m, hm⟩ : ∃ m, m = l.length := ⟨_, rfl⟩
  rw [← hm]
  rw [← hm] at hl
  have HM := Lib.hid hm
  have hn12 : ¬ (12 : Int) < (m : Int) := by omega
  have hO : ORel w w.heap.size (w.heap.size + 1) m (upP (aheadB l) m 0 0) ((w.alloc (.cells (relCs 0 fun _ => 0) 46)).alloc (.cells (relCs m fun _ => 0) 46)) := by
    rw [upP_none]
    have h2 := Lies.new (w.alloc (.cells (relCs 0 fun _ => 0) 46)) 46 (relCs m fun _ => 0)
    rw [World.size_alloc] at h2
    exact ⟨((Below.refl _ _).alloc (Nat.le_refl _) _).alloc (by simp) _, Lies.alloc (Lies.new _ _ _) _, h2, Nat.le_refl _, by omega⟩
  have HO := Lib.hid hO
  clear h hB hm hO
  go_enter Tryd.func48, Tryd.ntmps48
  go_wp2_with fail
  have hO := HO.out
  clear HO
  change Code.wp _ _ _ _ ((w.alloc (.cells (relCs 0 fun _ => 0) 46)).alloc (.cells (relCs m fun _ => 0) 46))
  generalize (w.alloc (.cells (relCs 0 fun _ => 0) 46)).alloc (.cells (relCs m fun _ => 0) 46) = W at hO ⊢
  obtain ⟨G, hG⟩ : ∃ G, G = w.heap.size + 1 := ⟨_, rfl⟩
  rw [← hG] at hO ⊢
  clear hG
  go_loopw [18] (fun i wr => ∃ k : Nat, k ≤ m ∧ i = .int .i64 k ∧ ORel w w.heap.size G m (upP (aheadB l) m k 0) wr) (fun i _ => m - (intOf i).toNat)
  case atStart => exact ⟨0, by omega, rfl, hO⟩
  case round =>
    clear hO
    obtain ⟨k, hk, rfl, hO⟩ := hrel
    by_cases hkm : k < m
    · obtain ⟨x, hx⟩ : ∃ x, l[k]? = some x := ⟨_, List.getElem?_eq_getElem (by rw [← HM.out]; exact hkm)⟩
      have hb := hO.below
      have h' := H.out.1.below (hb.mono H.out.2)
      rw [← HM.out] at h'
      obtain ⟨g, o, rfl, -, d0, d1, d2, d3, d4, d5, d6⟩ := h'.cl hx
      have HO := Lib.hid hO
      have HX := Lib.hid hx
      have i1 : (0 : Int) ≤ (k : Int) := by omega
      have i2 : (k : Int) < (m : Int) := by omega
      obtain ⟨x0, x1, x2, x3, x4, x5, x6⟩ := x
      clear h' hb hO hx
      go_wp2_with fail
      obtain ⟨P, hP⟩ : ∃ P, P = wr.heap.size := ⟨_, rfl⟩
      have hl1 : Lies (wr.alloc (.cells (clCs ⟨x0, x1, x2, x3, x4, x5, x6⟩).toArray 51)) P 51 (clCs ⟨x0, x1, x2, x3, x4, x5, x6⟩).toArray := by rw [hP]; exact Lies.new _ _ _
      have hGP : G < P := by rw [hP]; exact HO.out.own.lt
      have hO := HO.out.alloc (.cells (clCs ⟨x0, x1, x2, x3, x4, x5, x6⟩).toArray 51)
      rw [← hP]
      clear hP HO d0 d1 d2 d3 d4 d5 d6
      change Code.wp _ _ _ _ (wr.alloc (.cells (clCs ⟨x0, x1, x2, x3, x4, x5, x6⟩).toArray 51))
      generalize wr.alloc (.cells (clCs ⟨x0, x1, x2, x3, x4, x5, x6⟩).toArray 51) = W2 at hl1 hO ⊢
      go_loopw [25] (fun i wr => ∃ j : Nat, j ≤ m ∧ i = .int .i64 j ∧ ORel w w.heap.size G m (upP (aheadB l) m k j) wr ∧ Lies wr P 51 (clCs ⟨x0, x1, x2, x3, x4, x5, x6⟩).toArray) (fun i _ => m - (intOf i).toNat)
      case atStart => exact ⟨0, by omega, rfl, hO, hl1⟩
      case round =>
        clear hO hl1
        obtain ⟨j, hj, rfl, hO, hl1⟩ := hrel
        by_cases hjm : j < m
        · obtain ⟨y, hy⟩ : ∃ y, l[j]? = some y := ⟨_, List.getElem?_eq_getElem (by rw [← HM.out]; exact hjm)⟩
          have hb := hO.below
          have h' := H.out.1.below (hb.mono H.out.2)
          rw [← HM.out] at h'
          obtain ⟨g', o', hA, -, d0, d1, d2, d3, d4, d5, d6⟩ := h'.cl hy
          injection hA with hA
          injection hA with hA1 hA2
          subst hA1
          subst hA2
          have hst := upP_step (aheadB l) m k j
          rw [aheadB_at HX.out hy] at hst
          have j1 : (0 : Int) ≤ (j : Int) := by omega
          have j2 : (j : Int) < (m : Int) := by omega
          obtain ⟨y0, y1, y2, y3, y4, y5, y6⟩ := y
          simp only at hst
          have hba : Below wr.heap.size wr (wr.alloc (.cells (clCs ⟨y0, y1, y2, y3, y4, y5, y6⟩).toArray 51)) := (Below.refl _ _).alloc (Nat.le_refl _) _
          have hY := Lies.new wr 51 (clCs ⟨y0, y1, y2, y3, y4, y5, y6⟩).toArray
          have e6 := Lies.cell hl1
          have HO := Lib.hid (And.intro (hO.next hba) (And.intro (Lies.below hl1 hba hl1.lt) hY))
          have HS := Lib.hid hst
          obtain ⟨q0, q1, q2, q3, q4, q5, q6⟩ : wr.cell? ⟨P, 0, none⟩ = some (.int .i64 x0) ∧ wr.cell? ⟨P, 1, none⟩ = some (.int .i64 x1) ∧ wr.cell? ⟨P, 2, none⟩ = some (.int .i64 x2) ∧ wr.cell? ⟨P, 3, none⟩ = some (.int .i64 x3) ∧ wr.cell? ⟨P, 4, none⟩ = some (.int .i64 x4) ∧ wr.cell? ⟨P, 5, none⟩ = some (.int .i64 x5) ∧ wr.cell? ⟨P, 6, none⟩ = some (.int .i64 x6) := ⟨e6 0, e6 1, e6 2, e6 3, e6 4, e6 5, e6 6⟩
          have hPl := hl1.lt
          clear h' hb hO hl1 hba hY hst hy e6
          go_wp2_with fail
          change Calls _ _ _ (wr.alloc (.cells (clCs ⟨y0, y1, y2, y3, y4, y5, y6⟩).toArray 51)) _
          have HO' := HO.out
          clear HO q0 q1 q2 q3 q4 q5 q6 d0 d1 d2 d3 d4 d5 d6 hPl
          generalize wr.alloc (.cells (clCs ⟨y0, y1, y2, y3, y4, y5, y6⟩).toArray 51) = W3 at HO' ⊢
          generalize wr.heap.size = P2 at HO' ⊢
          refine (answered_any ⟨x0, x1, x2, x3, x4, x5, x6⟩ W3).mono ?_
          rintro e w4 ⟨rfl, hb4⟩
          have hO := HO'.1.next hb4
          have hl1 := Lies.below HO'.2.1 hb4 HO'.2.1.lt
          have hl2 := Lies.below HO'.2.2 hb4 HO'.2.2.lt
          clear HO' hb4
          have q6 : w4.cell? ⟨P, 6, none⟩ = some (.int .i64 x6) := Lies.cell hl1 6
          have q5 : w4.cell? ⟨P2, 5, none⟩ = some (.int .i64 y5) := Lies.cell hl2 5
          have k12 : (k : Int) < 12 := by omega
          have hk12 : k < 12 := by omega
          have ck := hO.own.row' hk12
          have fk := hO.own.free (1 + k)
          have hlt := upP_lt (aheadB l) m k j hl (by omega) k
          have HOO := Lib.hid (And.intro hO hl1)
          have hGl := hO.own.lt
          clear hO hl1 hl2
          generalize hxx : upP (aheadB l) m k j k = z at ck hlt HS
          have ho := or_pow z j hlt (by omega)
          have hp := pow_u16 j (by omega)
          have HXX := Lib.hid hxx
          clear hxx
          by_cases t1 : x6 = -1
          · have hz : (x6 != -1) = false := by rw [bne_eq_false_iff_eq]; exact t1
            have hs := HS.out
            rw [if_neg (by simp [t1])] at hs
            have HS2 := Lib.hid hs
            simp only
            rw [hz]
            clear hs t1 hz
            go_wp2_with fail
            go_roundw
            case rel => exact ⟨j + 1, by omega, by go_num, by rw [HS2.out]; exact HOO.out.1, HOO.out.2⟩
            case measure => simp [intOf]; omega
          · have hz : (x6 != -1) = true := by rw [bne_iff_ne]; exact t1
            simp only
            rw [hz]
            by_cases t2 : x6 < y5
            · have hs := HS.out
              rw [if_pos (by simp [t1, t2])] at hs
              have HS2 := Lib.hid hs
              clear hs t1 hz
              go_wp2_with fail
              go_region
              have h1 : ORel w w.heap.size G m (upP (aheadB l) m k (j + 1)) (w4.setCell ⟨G, 1 + k, none⟩ (.int .u16 ((z ||| 2 ^ j : Nat) : Int))).drew := by
                rw [HS2.out]
                exact (HOO.out.1.set_ hk12 _).drew
              have h2 : Lies (w4.setCell ⟨G, 1 + k, none⟩ (.int .u16 ((z ||| 2 ^ j : Nat) : Int))).drew P 51 (clCs ⟨x0, x1, x2, x3, x4, x5, x6⟩).toArray :=
                (Lies.far HOO.out.2 (by show P ≠ G; omega) _).drew
              clear ck fk q6 q5 ho hp
              generalize (w4.setCell ⟨G, 1 + k, none⟩ (.int .u16 ((z ||| 2 ^ j : Nat) : Int))).drew = w5 at h1 h2 ⊢
              have HX := Lib.hid (And.intro h1 h2)
              clear h1 h2 hGl
              go_wp2_with fail
              go_roundw
              case rel => exact ⟨j + 1, by omega, by go_num, HX.out⟩
              case measure => simp [intOf]; omega
            · have hs := HS.out
              rw [if_neg (by simp [t2])] at hs
              have HS2 := Lib.hid hs
              clear hs t1 hz
              go_wp2_with fail
              go_roundw
              case rel => exact ⟨j + 1, by omega, by go_num, by rw [HS2.out]; exact HOO.out.1, HOO.out.2⟩
              case measure => simp [intOf]; omega
        · obtain rfl : j = m := by omega
          rw [upP_end] at hO
          have HOO := Lib.hid hO
          clear hO hl1
          go_wp2_with fail
          go_roundw
          case rel => exact ⟨k + 1, by omega, by go_num, HOO.out⟩
          case measure => simp [intOf]; omega
    · obtain rfl : k = m := by omega
      rw [upP_all] at hO
      have hr := hO.res.size
      obtain ⟨r0, r1, r2, r3, r4, r5, r6, r7, r8, r9, r10, r11⟩ := hO.res.rows
      have hc := hO.own.size
      obtain ⟨c0, c1, c2, c3, c4, c5, c6, c7, c8, c9, c10, c11⟩ := hO.own.rows
      have hf := hO.res.free
      go_wp2_with fail
      clear hr r0 r1 r2 r3 r4 r5 r6 r7 r8 r9 r10 r11 hc c0 c1 c2 c3 c4 c5 c6 c7 c8 c9 c10 c11 hf
      refine post_fill (W := wr) (g := w.heap.size) k (relP (aheadB l) k) hO.res hO.below (by omega) ?_
      intro wz hz hbz
      have hs := hz.size
      obtain ⟨c0, c1, c2, c3, c4, c5, c6, c7, c8, c9, c10, c11⟩ := hz.rows
      exact bodyPost_ret (v := .tuple #[relV k (relP (aheadB l) k), .int .i64 0])
        (by simp [results, Tryd.results48, go_sem, hs, c0, c1, c2, c3, c4, c5, c6, c7, c8, c9, c10, c11]) rfl ⟨rfl, hbz⟩
end Go.Proofs.YtfgangkpebkicaaDoor

/-
  What package search keeps in memory: a record, a point; contracts of its small functions.
-/
namespace Go.Proofs.YtfgangkpebkicaaDoor
open Go.RowKit
set_option maxRecDepth 20000
variable {Rl : Nat → Nat → Bool}
theorem lbit_val (s i : Nat) (hs : s < 65536) : (bits BinOp.and IntKind.u16 ((s : Int) / 2 ^ ((i : Int).toNat)) 1 != 0) = s.testBit i := by
  have e : (s : Int) / 2 ^ ((i : Int).toNat) = ((s / 2 ^ i : Nat) : Int) := by simp
  rw [e, show (1 : Int) = ((1 : Nat) : Int) from rfl, u16_and_nat _ _ (Nat.lt_of_le_of_lt (Nat.div_le_self _ _) hs) (by omega)]
  rw [Nat.testBit, Nat.shiftRight_eq_div_pow, Nat.and_comm, Bool.eq_iff_iff, bne_iff_ne, bne_iff_ne]
  omega
theorem lhas_any (s i : Nat) (w : World) (hs : s < 65536) (h1 : i ≤ 15) :
    Calls Tryd.prog 72 #[.int .u16 s, .int .i64 i] w fun e w' => e = .returned (.bool (s.testBit i)) ∧ w = w' := by
  go_enter Tryd.func72, Tryd.ntmps72
  go_wp2
  go_ret
  exact ⟨ret_bool (by rw [← lbit_val s i hs]; simp), rfl⟩
theorem lresp_any (c : Cl) (w : World) : Calls Tryd.prog 71 #[clV c] w fun e w' => e = .returned (.bool (c.til != -1)) ∧ Below w.heap.size w w' := by
  generalize hv : (c.til != -1) = d
  go_enter Tryd.func71, Tryd.ntmps71
  go_wp2
  go_ret
  exact ⟨rfl, (Below.refl _ _).alloc (Nat.le_refl _) _⟩
abbrev srCs (tv cv : Value) (b : Nat → Nat) (an : Nat) : Array Value := #[tv, cv, .int .u16 (b 0 : Nat), .int .u16 (b 1 : Nat), .int .u16 (b 2 : Nat), .int .u16 (b 3 : Nat), .int .u16 (b 4 : Nat), .int .u16 (b 5 : Nat), .int .u16 (b 6 : Nat), .int .u16 (b 7 : Nat), .int .u16 (b 8 : Nat), .int .u16 (an : Nat)]
abbrev srV (tv cv : Value) (b : Nat → Nat) (an : Nat) : Value := .agg #[tv, cv, .int .u16 (b 0 : Nat), .int .u16 (b 1 : Nat), .int .u16 (b 2 : Nat), .int .u16 (b 3 : Nat), .int .u16 (b 4 : Nat), .int .u16 (b 5 : Nat), .int .u16 (b 6 : Nat), .int .u16 (b 7 : Nat), .int .u16 (b 8 : Nat), .int .u16 (an : Nat)]
/-- A record lies in block g. -/
def SrB (w : World) (g : Nat) (tv cv : Value) (b : Nat → Nat) (an : Nat) : Prop := Lies w g 108 (srCs tv cv b an)
abbrev fillS (w : World) (g : Nat) (tv cv : Value) (b : Nat → Nat) (an : Nat) : World := ((((((((((((w.setCell ⟨g, 0, none⟩ tv).setCell ⟨g, 1, none⟩ cv).setCell ⟨g, 2, none⟩ (.int .u16 (b 0 : Nat))).setCell ⟨g, 3, none⟩ (.int .u16 (b 1 : Nat))).setCell ⟨g, 4, none⟩ (.int .u16 (b 2 : Nat))).setCell ⟨g, 5, none⟩ (.int .u16 (b 3 : Nat))).setCell ⟨g, 6, none⟩ (.int .u16 (b 4 : Nat))).setCell ⟨g, 7, none⟩ (.int .u16 (b 5 : Nat))).setCell ⟨g, 8, none⟩ (.int .u16 (b 6 : Nat))).setCell ⟨g, 9, none⟩ (.int .u16 (b 7 : Nat))).setCell ⟨g, 10, none⟩ (.int .u16 (b 8 : Nat))).setCell ⟨g, 11, none⟩ (.int .u16 (an : Nat)))
theorem fillS_below {B : Nat} {w0 w : World} {g : Nat} (h : Below B w0 w) (hg : B ≤ g) (tv cv : Value) (b : Nat → Nat) (an : Nat) : Below B w0 (fillS w g tv cv b an) := ((((((((((((h.setCell (p := ⟨g, 0, none⟩) hg _).setCell (p := ⟨g, 1, none⟩) hg _).setCell (p := ⟨g, 2, none⟩) hg _).setCell (p := ⟨g, 3, none⟩) hg _).setCell (p := ⟨g, 4, none⟩) hg _).setCell (p := ⟨g, 5, none⟩) hg _).setCell (p := ⟨g, 6, none⟩) hg _).setCell (p := ⟨g, 7, none⟩) hg _).setCell (p := ⟨g, 8, none⟩) hg _).setCell (p := ⟨g, 9, none⟩) hg _).setCell (p := ⟨g, 10, none⟩) hg _).setCell (p := ⟨g, 11, none⟩) hg _)
section
variable {w : World} {g : Nat} {tv cv : Value} {b : Nat → Nat} {an : Nat}
theorem SrB.fill (h : SrB w g tv cv b an) (tv' cv' : Value) (b' : Nat → Nat) (an' : Nat) : SrB (fillS w g tv' cv' b' an') g tv' cv' b' an' := by
  have h0 := Lies.set_ h 0 tv'
  have h1 := Lies.set_ h0 1 cv'
  have h2 := Lies.set_ h1 2 (.int .u16 (b' 0 : Nat))
  have h3 := Lies.set_ h2 3 (.int .u16 (b' 1 : Nat))
  have h4 := Lies.set_ h3 4 (.int .u16 (b' 2 : Nat))
  have h5 := Lies.set_ h4 5 (.int .u16 (b' 3 : Nat))
  have h6 := Lies.set_ h5 6 (.int .u16 (b' 4 : Nat))
  have h7 := Lies.set_ h6 7 (.int .u16 (b' 5 : Nat))
  have h8 := Lies.set_ h7 8 (.int .u16 (b' 6 : Nat))
  have h9 := Lies.set_ h8 9 (.int .u16 (b' 7 : Nat))
  have h10 := Lies.set_ h9 10 (.int .u16 (b' 8 : Nat))
  have h11 := Lies.set_ h10 11 (.int .u16 (an' : Nat))
  exact Lies.cast h11 (by simp [srCs])
theorem nat9 {k : Nat} (h : k < 9) : k = 0 ∨ k = 1 ∨ k = 2 ∨ k = 3 ∨ k = 4 ∨ k = 5 ∨ k = 6 ∨ k = 7 ∨ k = 8 := by omega
theorem SrB.setB (h : SrB w g tv cv b an) {k : Nat} (hk : k < 9) (x : Nat) : SrB (w.setCell ⟨g, 2 + k, none⟩ (.int .u16 (x : Nat))) g tv cv (fun i => if i = k then x else b i) an := by
  refine Lies.cast (Lies.set_ h (2 + k) (.int .u16 (x : Nat))) ?_
  rcases nat9 hk with rfl | rfl | rfl | rfl | rfl | rfl | rfl | rfl | rfl <;> simp [srCs]
theorem SrB.setA (h : SrB w g tv cv b an) (x : Nat) : SrB (w.setCell ⟨g, 11, none⟩ (.int .u16 (x : Nat))) g tv cv b x := by
  refine Lies.cast (Lies.set_ h 11 (.int .u16 (x : Nat))) ?_
  simp [srCs]
theorem SrB.congr {b' : Nat → Nat} (h : SrB w g tv cv b an) (e : ∀ i, i < 9 → b i = b' i) : SrB w g tv cv b' an := by
  refine Lies.cast h ?_
  simp [srCs, e 0, e 1, e 2, e 3, e 4, e 5, e 6, e 7, e 8]
theorem SrB.row (h : SrB w g tv cv b an) {k : Nat} (hk : k < 9) : w.cell? ⟨g, 2 + k, none⟩ = some (.int .u16 (b k : Nat)) := by
  rw [Lies.cell h]
  rcases nat9 hk with rfl | rfl | rfl | rfl | rfl | rfl | rfl | rfl | rfl <;> rfl
theorem SrB.ans (h : SrB w g tv cv b an) : w.cell? ⟨g, 11, none⟩ = some (.int .u16 (an : Nat)) := Lies.cell h 11
theorem SrB.free (h : SrB w g tv cv b an) (i : Nat) : w.frozen? ⟨g, i, none⟩ = false := Lies.frozen h i
theorem SrB.cells (h : SrB w g tv cv b an) : w.cell? ⟨g, 0, none⟩ = some tv ∧ w.cell? ⟨g, 1, none⟩ = some cv ∧ w.cell? ⟨g, 2, none⟩ = some (.int .u16 (b 0 : Nat)) ∧ w.cell? ⟨g, 3, none⟩ = some (.int .u16 (b 1 : Nat)) ∧ w.cell? ⟨g, 4, none⟩ = some (.int .u16 (b 2 : Nat)) ∧ w.cell? ⟨g, 5, none⟩ = some (.int .u16 (b 3 : Nat)) ∧ w.cell? ⟨g, 6, none⟩ = some (.int .u16 (b 4 : Nat)) ∧ w.cell? ⟨g, 7, none⟩ = some (.int .u16 (b 5 : Nat)) ∧ w.cell? ⟨g, 8, none⟩ = some (.int .u16 (b 6 : Nat)) ∧ w.cell? ⟨g, 9, none⟩ = some (.int .u16 (b 7 : Nat)) ∧ w.cell? ⟨g, 10, none⟩ = some (.int .u16 (b 8 : Nat)) ∧ w.cell? ⟨g, 11, none⟩ = some (.int .u16 (an : Nat)) := ⟨Lies.cell h 0, Lies.cell h 1, Lies.cell h 2, Lies.cell h 3, Lies.cell h 4, Lies.cell h 5, Lies.cell h 6, Lies.cell h 7, Lies.cell h 8, Lies.cell h 9, Lies.cell h 10, Lies.cell h 11⟩
end
theorem bef_rev (cs : List Cl) : befP Rl cs = rev cs.length (relP Rl cs.length) := by
  funext x
  apply Nat.eq_of_testBit_eq
  intro t
  unfold befP
  rw [relP_bit, rev_bit, relP_bit]
  by_cases h1 : t < cs.length <;> by_cases h2 : x < cs.length <;> simp [h1, h2]
theorem bef_lt {cs : List Cl} (h : cs.length ≤ 9) (j : Nat) : befP Rl cs j < 65536 := relP_lt _ (by omega) j
theorem ans_lt {cs : List Cl} (h : cs.length ≤ 9) : ansP cs < 65536 := pickS_lt16 _ (by omega)
end Go.Proofs.YtfgangkpebkicaaDoor

/-
  Points in memory; contracts of (*record).start and (*record).complete.
-/
namespace Go.Proofs.YtfgangkpebkicaaDoor
open Go.RowKit
set_option maxRecDepth 20000
variable {Rl : Nat → Nat → Bool}
/-- A slice that reads as numbers, in a block of which S holds. -/
def NAw (S : Nat → Prop) (w : World) (v : Value) (xs : List Int) : Prop :=
  ∃ A cap, v = .slice A xs.length cap ∧ xs.length ≤ cap ∧ cap ≤ maxLen ∧ (0 < xs.length → ∃ g o, A = some ⟨g, o, none⟩ ∧ S g ∧ g < w.heap.size ∧ ∀ k x, xs[k]? = some x → ∀ j u, (intCs x)[j]? = some u → w.cell? ⟨g, o + k * 1 + j, none⟩ = some u)
theorem NAw.rd {S : Nat → Prop} {w : World} {v : Value} {xs : List Int} (h : NAw S w v xs) : NRd w w.heap.size v xs := by
  obtain ⟨A, cap, hv, h0, h1, h2⟩ := h
  refine ⟨A, cap, hv, h0, h1, fun hp => ?_⟩
  obtain ⟨g, o, hA, _, hg, hc⟩ := h2 hp
  exact ⟨g, o, hA, hg, hc⟩
theorem NAw.imp {S S' : Nat → Prop} {w : World} {v : Value} {xs : List Int} (h : NAw S w v xs) (hS : ∀ g, g < w.heap.size → S g → S' g) : NAw S' w v xs := by
  obtain ⟨A, cap, hv, h0, h1, h2⟩ := h
  refine ⟨A, cap, hv, h0, h1, fun hp => ?_⟩
  obtain ⟨g, o, hA, hs, hg, hc⟩ := h2 hp
  exact ⟨g, o, hA, hS g hg hs, hg, hc⟩
theorem NAw.keep {S : Nat → Prop} {w w' : World} {v : Value} {xs : List Int} (h : NAw S w v xs) (hz : w.heap.size ≤ w'.heap.size) (hk : ∀ g, S g → g < w.heap.size → w'.heap[g]? = w.heap[g]?) : NAw S w' v xs := by
  obtain ⟨A, cap, hv, h0, h1, h2⟩ := h
  refine ⟨A, cap, hv, h0, h1, fun hp => ?_⟩
  obtain ⟨g, o, hA, hs, hg, hc⟩ := h2 hp
  refine ⟨g, o, hA, hs, by omega, fun k x hx j u hu => ?_⟩
  rw [← hc k x hx j u hu]
  simp only [World.cell?, hk g hs hg]
theorem NAw.next {S : Nat → Prop} {w w' : World} {v : Value} {xs : List Int} (h : NAw S w v xs) (hb : Below w.heap.size w w') : NAw S w' v xs := h.keep hb.size (fun g _ hg => hb.block g hg)
theorem NAw.setCell {S : Nat → Prop} {w : World} {v : Value} {xs : List Int} (h : NAw S w v xs) (p : Addr) (u : Value) (hS : ∀ g, S g → g ≠ p.block) : NAw S (w.setCell p u) v xs := h.keep (by simp [World.setCell]) (fun g hs _ => Below.heap_setCell _ _ _ _ (hS g hs))
theorem NAw.nil (S : Nat → Prop) (w : World) : NAw S w (.slice none 0 0) [] := ⟨none, 0, rfl, Nat.le_refl _, Nat.zero_le _, fun h => by simp at h⟩
theorem NAw.of_own {B : Nat} {w : World} {v : Value} {xs : List Int} (h : IOwn w B v xs) : NAw (fun g => B ≤ g) w v xs := by
  have hr := h.rd
  obtain ⟨A, cap, hv, h0, h1, h2⟩ := hr
  refine ⟨A, cap, hv, h0, h1, fun hp => ?_⟩
  obtain ⟨g, o, hA, hg, hc⟩ := h2 hp
  refine ⟨g, o, hA, ?_, hg, hc⟩
  subst hA
  exact (h.lt hv).1
abbrev ptCs (d : Nat) (s : Nat → Value) : Array Value := #[.int .u16 (d : Nat), s 0, s 1, s 2, s 3]
abbrev ptV (d : Nat) (s : Nat → Value) : Value := .agg #[.int .u16 (d : Nat), s 0, s 1, s 2, s 3]
abbrev nilS : Nat → Value := fun _ => .slice none 0 0
/-- A point lies in block g. -/
def PtB (w : World) (g : Nat) (d : Nat) (s : Nat → Value) : Prop := Lies w g 117 (ptCs d s)
abbrev fillP (w : World) (g : Nat) (d : Nat) (s : Nat → Value) : World := ((((w.setCell ⟨g, 0, none⟩ (.int .u16 (d : Nat))).setCell ⟨g, 1, none⟩ (s 0)).setCell ⟨g, 2, none⟩ (s 1)).setCell ⟨g, 3, none⟩ (s 2)).setCell ⟨g, 4, none⟩ (s 3)
theorem fillP_below {B : Nat} {w0 w : World} {g : Nat} (h : Below B w0 w) (hg : B ≤ g) (d : Nat) (s : Nat → Value) : Below B w0 (fillP w g d s) :=
  ((((h.setCell (p := ⟨g, 0, none⟩) hg _).setCell (p := ⟨g, 1, none⟩) hg _).setCell (p := ⟨g, 2, none⟩) hg _).setCell (p := ⟨g, 3, none⟩) hg _).setCell (p := ⟨g, 4, none⟩) hg _
theorem fillP_far {w : World} {q g : Nat} (h : g ≠ q) (d : Nat) (s : Nat → Value) : (fillP w q d s).heap[g]? = w.heap[g]? := by
  have key : ∀ (W : World) (i : Nat) (u : Value), (W.setCell ⟨q, i, none⟩ u).heap[g]? = W.heap[g]? := fun W i u => Below.heap_setCell W ⟨q, i, none⟩ u g h
  unfold fillP
  rw [key, key, key, key, key]
section
variable {w : World} {g d : Nat} {s : Nat → Value}
theorem nat4 {k : Nat} (h : k < 4) : k = 0 ∨ k = 1 ∨ k = 2 ∨ k = 3 := by omega
theorem PtB.fill (h : PtB w g d s) (d' : Nat) (s' : Nat → Value) : PtB (fillP w g d' s') g d' s' := by
  have h0 := Lies.set_ h 0 (.int .u16 (d' : Nat))
  have h1 := Lies.set_ h0 1 (s' 0)
  have h2 := Lies.set_ h1 2 (s' 1)
  have h3 := Lies.set_ h2 3 (s' 2)
  have h4 := Lies.set_ h3 4 (s' 3)
  exact Lies.cast h4 (by simp [ptCs])
theorem PtB.setS (h : PtB w g d s) {k : Nat} (hk : k < 4) (x : Value) : PtB (w.setCell ⟨g, 1 + k, none⟩ x) g d (fun i => if i = k then x else s i) := by
  refine Lies.cast (Lies.set_ h (1 + k) x) ?_
  rcases nat4 hk with rfl | rfl | rfl | rfl <;> simp [ptCs]
theorem PtB.setD (h : PtB w g d s) (x : Nat) : PtB (w.setCell ⟨g, 0, none⟩ (.int .u16 (x : Nat))) g x s := by
  refine Lies.cast (Lies.set_ h 0 (.int .u16 (x : Nat))) ?_
  simp [ptCs]
theorem PtB.row (h : PtB w g d s) {k : Nat} (hk : k < 4) : w.cell? ⟨g, 1 + k, none⟩ = some (s k) := by
  rw [Lies.cell h]
  rcases nat4 hk with rfl | rfl | rfl | rfl <;> rfl
theorem PtB.cells (h : PtB w g d s) : w.cell? ⟨g, 0, none⟩ = some (.int .u16 (d : Nat)) ∧ w.cell? ⟨g, 1, none⟩ = some (s 0) ∧ w.cell? ⟨g, 2, none⟩ = some (s 1) ∧ w.cell? ⟨g, 3, none⟩ = some (s 2) ∧ w.cell? ⟨g, 4, none⟩ = some (s 3) :=
  ⟨Lies.cell h 0, Lies.cell h 1, Lies.cell h 2, Lies.cell h 3, Lies.cell h 4⟩
theorem PtB.free (h : PtB w g d s) (i : Nat) : w.frozen? ⟨g, i, none⟩ = false := Lies.frozen h i
end
/-- Four values by their number. -/
def four (a b c e : Value) : Nat → Value
  | 0 => a
  | 1 => b
  | 2 => c
  | _ => e
theorem PtB.four {w : World} {g d : Nat} {s : Nat → Value} (h : PtB w g d s) : PtB w g d (four (s 0) (s 1) (s 2) (s 3)) := h
theorem four_at (s : Nat → Value) {i : Nat} (hi : i < 4) : four (s 0) (s 1) (s 2) (s 3) i = s i := by
  rcases nat4 hi with rfl | rfl | rfl | rfl <;> rfl
/-- The value v is the point p. -/
def PtRd (S : Nat → Prop) (w : World) (v : Value) (p : Pt) : Prop := ∃ s : Nat → Value, v = ptV p.done s ∧ ∀ i, i < 4 → NAw S w (s i) (p.st i)
theorem PtRd.next {S : Nat → Prop} {w w' : World} {v : Value} {p : Pt} (h : PtRd S w v p) (hb : Below w.heap.size w w') : PtRd S w' v p := by
  obtain ⟨s, e, hs⟩ := h
  exact ⟨s, e, fun i hi => (hs i hi).next hb⟩
/-- A record stands at block Q: the types, the calls, what must be ahead of each, who was answered. -/
structure RecAt (Rl : Nat → Nat → Bool) (w : World) (Q : Nat) (tv cv : Value) (ts : List Int) (cs : List Cl) : Prop where
  c0 : w.cell? ⟨Q, 0, none⟩ = some tv
  c1 : w.cell? ⟨Q, 1, none⟩ = some cv
  bf : ∀ j, j < 9 → w.cell? ⟨Q, 2 + j, none⟩ = some (.int .u16 (befP Rl cs j : Nat))
  an : w.cell? ⟨Q, 11, none⟩ = some (.int .u16 (ansP cs : Nat))
  rt : NRd w w.heap.size tv ts
  rc : CRd w w.heap.size cv cs
  lt : Q < w.heap.size
theorem RecAt.next {w w' : World} {Q : Nat} {tv cv : Value} {ts : List Int} {cs : List Cl} (h : RecAt Rl w Q tv cv ts cs) (hb : Below w.heap.size w w') : RecAt Rl w' Q tv cv ts cs :=
  ⟨(hb.cell (p := ⟨Q, 0, none⟩) h.lt).trans h.c0, (hb.cell (p := ⟨Q, 1, none⟩) h.lt).trans h.c1, fun j hj => (hb.cell (p := ⟨Q, 2 + j, none⟩) h.lt).trans (h.bf j hj), (hb.cell (p := ⟨Q, 11, none⟩) h.lt).trans h.an, (h.rt.below hb).mono hb.size, (h.rc.below hb).mono hb.size, Nat.lt_of_lt_of_le h.lt hb.size⟩
theorem landnot (x y : Nat) (hx : x < 65536) (hy : y < 65536) : (bits BinOp.andNot IntKind.u16 (x : Int) (y : Int) == 0) = ((x &&& (65535 - y)) == 0) := by
  rw [u16_andNot_nat _ _ hx hy, Bool.eq_iff_iff, beq_iff_eq, beq_iff_eq]
  omega
/-- Does nothing have to follow? -/
theorem complete_any {w : World} {Q : Nat} {tv cv : Value} {ts : List Int} {cs : List Cl} (hR : RecAt Rl w Q tv cv ts cs) (hc : cs.length ≤ 9) {d : Nat} (hd : d < 65536) (s : Nat → Value) (p : Pt) (hp : p.done = d) :
    Calls Tryd.prog 73 #[.pointer (some ⟨Q, 0, none⟩), ptV d s] w fun e w' => e = .returned (.bool (fullB cs p)) ∧ Below w.heap.size w w' := by
  have han : (w.alloc (.cells (ptCs d s) 117)).cell? ⟨Q, 11, none⟩ = some (.int .u16 (ansP cs : Nat)) := (((Below.refl _ _).alloc (Nat.le_refl _) (.cells (ptCs d s) 117)).cell (p := ⟨Q, 11, none⟩) hR.lt).trans hR.an
  have hpt : PtB (w.alloc (.cells (ptCs d s) 117)) w.heap.size d s := Lies.new _ _ _
  have hd0 := hpt.cells.1
  have hb : Below w.heap.size w (w.alloc (.cells (ptCs d s) 117)) := (Below.refl _ _).alloc (Nat.le_refl _) _
  have hv := landnot (ansP cs) d (ans_lt hc) hd
  rw [← hp] at hv
  change _ = fullB cs p at hv
  rw [hp] at hv
  have HB := Lib.hid (And.intro hb hv)
  clear hpt hb hv hR hp
  generalize fullB cs p = F at HB ⊢
  generalize ansP cs = an at han HB
  go_enter Tryd.func73, Tryd.ntmps73
  go_wp2_with fail
  go_region
  go_wp2
  go_ret
  exact ⟨ret_bool (by rw [← HB.out.2]), HB.out.1.drew⟩
end Go.Proofs.YtfgangkpebkicaaDoor
