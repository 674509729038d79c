/-
  Joined by a program out of: RelMem, AheadOf, ObjMem.
-/
import Derived.Test.YtfgangkpebkicaaGreatDoorMgAE
import Derived.Test.YtfgangkpebkicaaGreatDoorMgAD
import Derived.Test.YtfgangkpebkicaaGreatDoorMgAA
import Derived.Lib.SliceRun
import Derived.Lib.JoinLaws
import Derived.Lib.AppendZeros
import Derived.Deep.AppendSrc

/-
  A relation as a value and in a block; no function of a program.
-/
namespace Go.Proofs.YtfgangkpebkicaaGreatDoor
open Go.RowKit
set_option maxRecDepth 20000
/-- A relation as a value: the number of items, and a set for each of twelve. -/
abbrev relV (n : Int) (a : Nat → Nat) : Value := .agg #[.int .i64 n, .int .u16 (a 0), .int .u16 (a 1), .int .u16 (a 2), .int .u16 (a 3), .int .u16 (a 4), .int .u16 (a 5), .int .u16 (a 6), .int .u16 (a 7), .int .u16 (a 8), .int .u16 (a 9), .int .u16 (a 10), .int .u16 (a 11)]
/-- The cells of a relation. -/
abbrev relCs (n : Int) (a : Nat → Nat) : Array Value := #[.int .i64 n, .int .u16 (a 0), .int .u16 (a 1), .int .u16 (a 2), .int .u16 (a 3), .int .u16 (a 4), .int .u16 (a 5), .int .u16 (a 6), .int .u16 (a 7), .int .u16 (a 8), .int .u16 (a 9), .int .u16 (a 10), .int .u16 (a 11)]
def RelB (w : World) (g : Nat) (n : Int) (a : Nat → Nat) : Prop := Lies w g 43 (relCs n a)
theorem nat12 {k : Nat} (hk : k < 12) : k = 0 ∨ k = 1 ∨ k = 2 ∨ k = 3 ∨ k = 4 ∨ k = 5 ∨ k = 6 ∨ k = 7 ∨ k = 8 ∨ k = 9 ∨ k = 10 ∨ k = 11 := by omega
section
variable {w w' : World} {g : Nat} {n : Int} {a : Nat → Nat}
theorem RelB.size (h : RelB w g n a) : w.cell? ⟨g, 0, none⟩ = some (.int .i64 n) := Lies.cell h 0
theorem RelB.row (h : RelB w g n a) {k : Nat} (hk : k < 12) : w.cell? ⟨g, k + 1, none⟩ = some (.int .u16 (a k)) := by
  rw [Lies.cell h]
  rcases nat12 hk with rfl | rfl | rfl | rfl | rfl | rfl | rfl | rfl | rfl | rfl | rfl | rfl <;> rfl
theorem RelB.row' (h : RelB w g n a) {k : Nat} (hk : k < 12) : w.cell? ⟨g, 1 + k, none⟩ = some (.int .u16 (a k)) := by
  rw [Nat.add_comm]; exact h.row hk
theorem RelB.rows (h : RelB w g n a) : w.cell? ⟨g, 1, none⟩ = some (.int .u16 (a 0)) ∧ w.cell? ⟨g, 2, none⟩ = some (.int .u16 (a 1)) ∧ w.cell? ⟨g, 3, none⟩ = some (.int .u16 (a 2)) ∧ w.cell? ⟨g, 4, none⟩ = some (.int .u16 (a 3)) ∧ w.cell? ⟨g, 5, none⟩ = some (.int .u16 (a 4)) ∧ w.cell? ⟨g, 6, none⟩ = some (.int .u16 (a 5)) ∧ w.cell? ⟨g, 7, none⟩ = some (.int .u16 (a 6)) ∧ w.cell? ⟨g, 8, none⟩ = some (.int .u16 (a 7)) ∧ w.cell? ⟨g, 9, none⟩ = some (.int .u16 (a 8)) ∧ w.cell? ⟨g, 10, none⟩ = some (.int .u16 (a 9)) ∧ w.cell? ⟨g, 11, none⟩ = some (.int .u16 (a 10)) ∧ w.cell? ⟨g, 12, none⟩ = some (.int .u16 (a 11)) :=
  ⟨h.row (k := 0) (by omega), h.row (k := 1) (by omega), h.row (k := 2) (by omega), h.row (k := 3) (by omega), h.row (k := 4) (by omega), h.row (k := 5) (by omega), h.row (k := 6) (by omega), h.row (k := 7) (by omega), h.row (k := 8) (by omega), h.row (k := 9) (by omega), h.row (k := 10) (by omega), h.row (k := 11) (by omega)⟩
theorem RelB.set' (h : RelB w g n a) {k : Nat} (hk : k < 12) (x : Nat) : RelB (w.setCell ⟨g, 1 + k, none⟩ (.int .u16 x)) g n (fun i => if i = k then x else a i) := by
  refine Lies.cast (Lies.set_ h (1 + k) (.int .u16 x)) ?_
  rcases nat12 hk with rfl | rfl | rfl | rfl | rfl | rfl | rfl | rfl | rfl | rfl | rfl | rfl <;> simp [relCs]
theorem RelB.free (h : RelB w g n a) (i : Nat) : w.frozen? ⟨g, i, none⟩ = false := Lies.frozen h i
theorem RelB.set_ (h : RelB w g n a) {k : Nat} (hk : k < 12) (x : Nat) : RelB (w.setCell ⟨g, k + 1, none⟩ (.int .u16 x)) g n (fun i => if i = k then x else a i) := by
  refine Lies.cast (Lies.set_ h (k + 1) (.int .u16 x)) ?_
  rcases nat12 hk with rfl | rfl | rfl | rfl | rfl | rfl | rfl | rfl | rfl | rfl | rfl | rfl <;> simp [relCs]
theorem RelB.congr {b : Nat → Nat} (h : RelB w g n a) (e : ∀ i, i < 12 → a i = b i) : RelB w g n b := by
  refine Lies.cast h ?_
  simp [relCs, e 0, e 1, e 2, e 3, e 4, e 5, e 6, e 7, e 8, e 9, e 10, e 11]
end
/-- The world behind thirteen stores. -/
abbrev fillW (w : World) (g : Nat) (m : Int) (b : Nat → Nat) : World := (((((((((((((w.setCell ⟨g, 0, none⟩ (.int .i64 m)).setCell ⟨g, 1, none⟩ (.int .u16 (b 0))).setCell ⟨g, 2, none⟩ (.int .u16 (b 1))).setCell ⟨g, 3, none⟩ (.int .u16 (b 2))).setCell ⟨g, 4, none⟩ (.int .u16 (b 3))).setCell ⟨g, 5, none⟩ (.int .u16 (b 4))).setCell ⟨g, 6, none⟩ (.int .u16 (b 5))).setCell ⟨g, 7, none⟩ (.int .u16 (b 6))).setCell ⟨g, 8, none⟩ (.int .u16 (b 7))).setCell ⟨g, 9, none⟩ (.int .u16 (b 8))).setCell ⟨g, 10, none⟩ (.int .u16 (b 9))).setCell ⟨g, 11, none⟩ (.int .u16 (b 10))).setCell ⟨g, 12, none⟩ (.int .u16 (b 11)))
theorem RelB.fill {w : World} {g : Nat} {n : Int} {a : Nat → Nat} (h : RelB w g n a) (m : Int) (b : Nat → Nat) : RelB (fillW w g m b) g m b := by
  have h0 := Lies.set_ h 0 (.int .i64 m)
  have h1 := Lies.set_ h0 1 (.int .u16 (b 0))
  have h2 := Lies.set_ h1 2 (.int .u16 (b 1))
  have h3 := Lies.set_ h2 3 (.int .u16 (b 2))
  have h4 := Lies.set_ h3 4 (.int .u16 (b 3))
  have h5 := Lies.set_ h4 5 (.int .u16 (b 4))
  have h6 := Lies.set_ h5 6 (.int .u16 (b 5))
  have h7 := Lies.set_ h6 7 (.int .u16 (b 6))
  have h8 := Lies.set_ h7 8 (.int .u16 (b 7))
  have h9 := Lies.set_ h8 9 (.int .u16 (b 8))
  have h10 := Lies.set_ h9 10 (.int .u16 (b 9))
  have h11 := Lies.set_ h10 11 (.int .u16 (b 10))
  have h12 := Lies.set_ h11 12 (.int .u16 (b 11))
  exact Lies.cast h12 (by simp [relCs])
theorem fillW_below {B : Nat} {w0 w : World} {g : Nat} (h : Below B w0 w) (hg : B ≤ g) (m : Int) (b : Nat → Nat) : Below B w0 (fillW w g m b) :=
  ((((((((((((h.setCell (p := ⟨g, 0, none⟩) hg _).setCell (p := ⟨g, 1, none⟩) hg _).setCell (p := ⟨g, 2, none⟩) hg _).setCell (p := ⟨g, 3, none⟩) hg _).setCell (p := ⟨g, 4, none⟩) hg _).setCell (p := ⟨g, 5, none⟩) hg _).setCell (p := ⟨g, 6, none⟩) hg _).setCell (p := ⟨g, 7, none⟩) hg _).setCell (p := ⟨g, 8, none⟩) hg _).setCell (p := ⟨g, 9, none⟩) hg _).setCell (p := ⟨g, 10, none⟩) hg _).setCell (p := ⟨g, 11, none⟩) hg _).setCell (p := ⟨g, 12, none⟩) hg _
theorem post_fill {P : Program} {fn : Func} {R : Ending → World → Prop} {act : Act} {w W : World} {B g : Nat} {n0 : Int} {a0 : Nat → Nat} (n : Int) (a : Nat → Nat)
    (hB : RelB W g n0 a0) (hb : Below B w W) (hg : B ≤ g) (k : ∀ wz, RelB wz g n a → Below B w wz → bodyPost P fn R .ret act wz) : bodyPost P fn R .ret act (fillW W g n a) :=
  k _ (hB.fill n a) (fillW_below hb hg n a)
structure ORel (w : World) (R G m : Nat) (c : Nat → Nat) (wr : World) : Prop where
  below : Below w.heap.size w wr
  res : RelB wr R 0 (fun _ => 0)
  own : RelB wr G m c
  ge : w.heap.size ≤ R
  far : R < G
theorem ORel.far' {w wr : World} {R G m : Nat} {c : Nat → Nat} (h : ORel w R G m c wr) : w.heap.size ≤ G := by
  have := h.ge
  have := h.far
  omega
theorem ORel.set_ {w wr : World} {R G m : Nat} {c : Nat → Nat} (h : ORel w R G m c wr) {k : Nat} (hk : k < 12) (x : Nat) :
    ORel w R G m (fun i => if i = k then x else c i) (wr.setCell ⟨G, 1 + k, none⟩ (.int .u16 x)) :=
  ⟨h.below.setCell h.far' _, Lies.far h.res (by have := h.far; show R ≠ G; omega) _, h.own.set' hk x, h.ge, h.far⟩
theorem ORel.drew {w wr : World} {R G m : Nat} {c : Nat → Nat} (h : ORel w R G m c wr) : ORel w R G m c wr.drew := ⟨h.below.drew, h.res, h.own, h.ge, h.far⟩
theorem ORel.drewN {w wr : World} {R G m : Nat} {c : Nat → Nat} (h : ORel w R G m c wr) (n : Nat) : ORel w R G m c (wr.drewN n) := ⟨belowN h.below n, Lies.drewN h.res n, Lies.drewN h.own n, h.ge, h.far⟩
theorem ORel.alloc {w wr : World} {R G m : Nat} {c : Nat → Nat} (h : ORel w R G m c wr) (o : Obj) : ORel w R G m c (wr.alloc o) := ⟨h.below.alloc h.below.size _, Lies.alloc h.res _, Lies.alloc h.own _, h.ge, h.far⟩
theorem ORel.congr {w wr : World} {R G m : Nat} {c d : Nat → Nat} (h : ORel w R G m c wr) (e : ∀ i, i < 12 → c i = d i) : ORel w R G m d wr := ⟨h.below, h.res, h.own.congr e, h.ge, h.far⟩
theorem ORel.next {w wr wr' : World} {R G m : Nat} {c : Nat → Nat} (h : ORel w R G m c wr) (hb : Below wr.heap.size wr wr') : ORel w R G m c wr' :=
  ⟨h.below.trans (hb.mono h.below.size), Lies.below h.res hb h.res.lt, Lies.below h.own hb h.own.lt, h.ge, h.far⟩
end Go.Proofs.YtfgangkpebkicaaGreatDoor

/-
  Contract of history.Ahead.
-/
namespace Go.Proofs.YtfgangkpebkicaaGreatDoor
open Go.RowKit
set_option maxRecDepth 20000
set_option maxHeartbeats 4000000 in
theorem ahead_few {B : Nat} {v : Value} {l : List Cl} {w : World} (h : CRd w B v l) (hB : B ≤ w.heap.size) (hl : l.length ≤ 12) :
    Calls Tryz.prog 63 #[v] w fun e w' => e = .returned (.tuple #[relV l.length (relP (aheadB l) l.length), .int .i64 0]) ∧ Below w.heap.size w w' := by
  obtain ⟨A, c, rfl, -, -⟩ := h.is
  have H := Lib.hid (And.intro h hB)
  obtain ⟨m, hm⟩ : ∃ m, m = l.length := ⟨_, rfl⟩
  rw [← hm]
  rw [← hm] at hl
  have HM := Lib.hid hm
  have hn12 : ¬ (12 : Int) < (m : Int) := by omega
  have hO : ORel w w.heap.size (w.heap.size + 1) m (upP (aheadB l) m 0 0) ((w.alloc (.cells (relCs 0 fun _ => 0) 43)).alloc (.cells (relCs m fun _ => 0) 43)) := by
    rw [upP_none]
    have h2 := Lies.new (w.alloc (.cells (relCs 0 fun _ => 0) 43)) 43 (relCs m fun _ => 0)
    rw [World.size_alloc] at h2
    exact ⟨((Below.refl _ _).alloc (Nat.le_refl _) _).alloc (by simp) _, Lies.alloc (Lies.new _ _ _) _, h2, Nat.le_refl _, by omega⟩
  have HO := Lib.hid hO
  clear h hB hm hO
  go_enter Tryz.func63, Tryz.ntmps63
  go_wp2_with fail
  have hO := HO.out
  clear HO
  change Code.wp _ _ _ _ ((w.alloc (.cells (relCs 0 fun _ => 0) 43)).alloc (.cells (relCs m fun _ => 0) 43))
  generalize (w.alloc (.cells (relCs 0 fun _ => 0) 43)).alloc (.cells (relCs m fun _ => 0) 43) = W at hO ⊢
  obtain ⟨G, hG⟩ : ∃ G, G = w.heap.size + 1 := ⟨_, rfl⟩
  rw [← hG] at hO ⊢
  clear hG
  go_loopw [18] (fun i wr => ∃ k : Nat, k ≤ m ∧ i = .int .i64 k ∧ ORel w w.heap.size G m (upP (aheadB l) m k 0) wr) (fun i _ => m - (intOf i).toNat)
  case atStart => exact ⟨0, by omega, rfl, hO⟩
  case round =>
    clear hO
    obtain ⟨k, hk, rfl, hO⟩ := hrel
    by_cases hkm : k < m
    · obtain ⟨x, hx⟩ : ∃ x, l[k]? = some x := ⟨_, List.getElem?_eq_getElem (by rw [← HM.out]; exact hkm)⟩
      have hb := hO.below
      have h' := H.out.1.below (hb.mono H.out.2)
      rw [← HM.out] at h'
      obtain ⟨g, o, rfl, -, d0, d1, d2, d3, d4, d5, d6⟩ := h'.cl hx
      have HO := Lib.hid hO
      have HX := Lib.hid hx
      have i1 : (0 : Int) ≤ (k : Int) := by omega
      have i2 : (k : Int) < (m : Int) := by omega
      obtain ⟨x0, x1, x2, x3, x4, x5, x6⟩ := x
      clear h' hb hO hx
      go_wp2_with fail
      obtain ⟨P, hP⟩ : ∃ P, P = wr.heap.size := ⟨_, rfl⟩
      have hl1 : Lies (wr.alloc (.cells (clCs ⟨x0, x1, x2, x3, x4, x5, x6⟩).toArray 58)) P 58 (clCs ⟨x0, x1, x2, x3, x4, x5, x6⟩).toArray := by rw [hP]; exact Lies.new _ _ _
      have hGP : G < P := by rw [hP]; exact HO.out.own.lt
      have hO := HO.out.alloc (.cells (clCs ⟨x0, x1, x2, x3, x4, x5, x6⟩).toArray 58)
      rw [← hP]
      clear hP HO d0 d1 d2 d3 d4 d5 d6
      change Code.wp _ _ _ _ (wr.alloc (.cells (clCs ⟨x0, x1, x2, x3, x4, x5, x6⟩).toArray 58))
      generalize wr.alloc (.cells (clCs ⟨x0, x1, x2, x3, x4, x5, x6⟩).toArray 58) = W2 at hl1 hO ⊢
      go_loopw [25] (fun i wr => ∃ j : Nat, j ≤ m ∧ i = .int .i64 j ∧ ORel w w.heap.size G m (upP (aheadB l) m k j) wr ∧ Lies wr P 58 (clCs ⟨x0, x1, x2, x3, x4, x5, x6⟩).toArray) (fun i _ => m - (intOf i).toNat)
      case atStart => exact ⟨0, by omega, rfl, hO, hl1⟩
      case round =>
        clear hO hl1
        obtain ⟨j, hj, rfl, hO, hl1⟩ := hrel
        by_cases hjm : j < m
        · obtain ⟨y, hy⟩ : ∃ y, l[j]? = some y := ⟨_, List.getElem?_eq_getElem (by rw [← HM.out]; exact hjm)⟩
          have hb := hO.below
          have h' := H.out.1.below (hb.mono H.out.2)
          rw [← HM.out] at h'
          obtain ⟨g', o', hA, -, d0, d1, d2, d3, d4, d5, d6⟩ := h'.cl hy
          injection hA with hA
          injection hA with hA1 hA2
          subst hA1
          subst hA2
          have hst := upP_step (aheadB l) m k j
          rw [aheadB_at HX.out hy] at hst
          have j1 : (0 : Int) ≤ (j : Int) := by omega
          have j2 : (j : Int) < (m : Int) := by omega
          obtain ⟨y0, y1, y2, y3, y4, y5, y6⟩ := y
          simp only at hst
          have hba : Below wr.heap.size wr (wr.alloc (.cells (clCs ⟨y0, y1, y2, y3, y4, y5, y6⟩).toArray 58)) := (Below.refl _ _).alloc (Nat.le_refl _) _
          have hY := Lies.new wr 58 (clCs ⟨y0, y1, y2, y3, y4, y5, y6⟩).toArray
          have e6 := Lies.cell hl1
          have HO := Lib.hid (And.intro (hO.next hba) (And.intro (Lies.below hl1 hba hl1.lt) hY))
          have HS := Lib.hid hst
          obtain ⟨q0, q1, q2, q3, q4, q5, q6⟩ : wr.cell? ⟨P, 0, none⟩ = some (.int .i64 x0) ∧ wr.cell? ⟨P, 1, none⟩ = some (.int .i64 x1) ∧ wr.cell? ⟨P, 2, none⟩ = some (.int .i64 x2) ∧ wr.cell? ⟨P, 3, none⟩ = some (.int .i64 x3) ∧ wr.cell? ⟨P, 4, none⟩ = some (.int .i64 x4) ∧ wr.cell? ⟨P, 5, none⟩ = some (.int .i64 x5) ∧ wr.cell? ⟨P, 6, none⟩ = some (.int .i64 x6) := ⟨e6 0, e6 1, e6 2, e6 3, e6 4, e6 5, e6 6⟩
          have hPl := hl1.lt
          clear h' hb hO hl1 hba hY hst hy e6
          go_wp2_with fail
          change Calls _ _ _ (wr.alloc (.cells (clCs ⟨y0, y1, y2, y3, y4, y5, y6⟩).toArray 58)) _
          have HO' := HO.out
          clear HO q0 q1 q2 q3 q4 q5 q6 d0 d1 d2 d3 d4 d5 d6 hPl
          generalize wr.alloc (.cells (clCs ⟨y0, y1, y2, y3, y4, y5, y6⟩).toArray 58) = W3 at HO' ⊢
          generalize wr.heap.size = P2 at HO' ⊢
          refine (answered_any ⟨x0, x1, x2, x3, x4, x5, x6⟩ W3).mono ?_
          rintro e w4 ⟨rfl, hb4⟩
          have hO := HO'.1.next hb4
          have hl1 := Lies.below HO'.2.1 hb4 HO'.2.1.lt
          have hl2 := Lies.below HO'.2.2 hb4 HO'.2.2.lt
          clear HO' hb4
          have q6 : w4.cell? ⟨P, 6, none⟩ = some (.int .i64 x6) := Lies.cell hl1 6
          have q5 : w4.cell? ⟨P2, 5, none⟩ = some (.int .i64 y5) := Lies.cell hl2 5
          have k12 : (k : Int) < 12 := by omega
          have hk12 : k < 12 := by omega
          have ck := hO.own.row' hk12
          have fk := hO.own.free (1 + k)
          have hlt := upP_lt (aheadB l) m k j hl (by omega) k
          have HOO := Lib.hid (And.intro hO hl1)
          have hGl := hO.own.lt
          clear hO hl1 hl2
          generalize hxx : upP (aheadB l) m k j k = z at ck hlt HS
          have ho := or_pow z j hlt (by omega)
          have hp := pow_u16 j (by omega)
          have HXX := Lib.hid hxx
          clear hxx
          by_cases t1 : x6 = -1
          · have hz : (x6 != -1) = false := by rw [bne_eq_false_iff_eq]; exact t1
            have hs := HS.out
            rw [if_neg (by simp [t1])] at hs
            have HS2 := Lib.hid hs
            simp only
            rw [hz]
            clear hs t1 hz
            go_wp2_with fail
            go_roundw
            case rel => exact ⟨j + 1, by omega, by go_num, by rw [HS2.out]; exact HOO.out.1, HOO.out.2⟩
            case measure => simp [intOf]; omega
          · have hz : (x6 != -1) = true := by rw [bne_iff_ne]; exact t1
            simp only
            rw [hz]
            by_cases t2 : x6 < y5
            · have hs := HS.out
              rw [if_pos (by simp [t1, t2])] at hs
              have HS2 := Lib.hid hs
              clear hs t1 hz
              go_wp2_with fail
              go_region
              have h1 : ORel w w.heap.size G m (upP (aheadB l) m k (j + 1)) (w4.setCell ⟨G, 1 + k, none⟩ (.int .u16 ((z ||| 2 ^ j : Nat) : Int))).drew := by
                rw [HS2.out]
                exact (HOO.out.1.set_ hk12 _).drew
              have h2 : Lies (w4.setCell ⟨G, 1 + k, none⟩ (.int .u16 ((z ||| 2 ^ j : Nat) : Int))).drew P 58 (clCs ⟨x0, x1, x2, x3, x4, x5, x6⟩).toArray :=
                (Lies.far HOO.out.2 (by show P ≠ G; omega) _).drew
              clear ck fk q6 q5 ho hp
              generalize (w4.setCell ⟨G, 1 + k, none⟩ (.int .u16 ((z ||| 2 ^ j : Nat) : Int))).drew = w5 at h1 h2 ⊢
              have HX := Lib.hid (And.intro h1 h2)
              clear h1 h2 hGl
              go_wp2_with fail
              go_roundw
              case rel => exact ⟨j + 1, by omega, by go_num, HX.out⟩
              case measure => simp [intOf]; omega
            · have hs := HS.out
              rw [if_neg (by simp [t2])] at hs
              have HS2 := Lib.hid hs
              clear hs t1 hz
              go_wp2_with fail
              go_roundw
              case rel => exact ⟨j + 1, by omega, by go_num, by rw [HS2.out]; exact HOO.out.1, HOO.out.2⟩
              case measure => simp [intOf]; omega
        · obtain rfl : j = m := by omega
          rw [upP_end] at hO
          have HOO := Lib.hid hO
          clear hO hl1
          go_wp2_with fail
          go_roundw
          case rel => exact ⟨k + 1, by omega, by go_num, HOO.out⟩
          case measure => simp [intOf]; omega
    · obtain rfl : k = m := by omega
      rw [upP_all] at hO
      have hr := hO.res.size
      obtain ⟨r0, r1, r2, r3, r4, r5, r6, r7, r8, r9, r10, r11⟩ := hO.res.rows
      have hc := hO.own.size
      obtain ⟨c0, c1, c2, c3, c4, c5, c6, c7, c8, c9, c10, c11⟩ := hO.own.rows
      have hf := hO.res.free
      go_wp2_with fail
      clear hr r0 r1 r2 r3 r4 r5 r6 r7 r8 r9 r10 r11 hc c0 c1 c2 c3 c4 c5 c6 c7 c8 c9 c10 c11 hf
      refine post_fill (W := wr) (g := w.heap.size) k (relP (aheadB l) k) hO.res hO.below (by omega) ?_
      intro wz hz hbz
      have hs := hz.size
      obtain ⟨c0, c1, c2, c3, c4, c5, c6, c7, c8, c9, c10, c11⟩ := hz.rows
      exact bodyPost_ret (v := .tuple #[relV k (relP (aheadB l) k), .int .i64 0])
        (by simp [results, Tryz.results63, go_sem, hs, c0, c1, c2, c3, c4, c5, c6, c7, c8, c9, c10, c11]) rfl ⟨rfl, hbz⟩
end Go.Proofs.YtfgangkpebkicaaGreatDoor

/-
  Rows of integers of the call's own, every cell of them known to be an integer; slices.Clone over integers.
-/
namespace Go.Proofs.YtfgangkpebkicaaGreatDoor
open Go.RowKit
set_option maxRecDepth 20000
/-- A row of integers in a block of the call's own (from B on): the list l, and integers up to the capacity. -/
def IOwn (w : World) (B : Nat) (v : Value) (l : List Int) : Prop :=
  (v = .slice none 0 0 ∧ l = []) ∨ ∃ (g cap : Nat) (zs : List Int), v = .slice (some ⟨g, 0, none⟩) l.length cap ∧ B ≤ g ∧ Lies w g 3 (zs.map (Value.int .i64)).toArray ∧ zs.length = cap ∧ l.length ≤ cap ∧ cap ≤ maxLen ∧ zs.take l.length = l
section
variable {w w' : World} {B : Nat} {v : Value} {l : List Int}
theorem int_cell {g : Nat} {t : TypeId} {zs : List Int} (h : Lies w g t (zs.map (Value.int .i64)).toArray) {j : Nat} {x : Int} (hx : zs[j]? = some x) : w.cell? ⟨g, j, none⟩ = some (.int .i64 x) := by
  rw [h.cell]
  simp [hx]
theorem take_at {zs l : List Int} (h : zs.take l.length = l) {j : Nat} {x : Int} (hx : l[j]? = some x) : zs[j]? = some x := by
  rw [← h, List.getElem?_take] at hx
  split at hx
  · exact hx
  · cases hx
theorem IOwn.rd (h : IOwn w B v l) : NRd w w.heap.size v l := by
  rcases h with ⟨rfl, rfl⟩ | ⟨g, cap, zs, rfl, hB, hL, hz, hc, hm, ht⟩
  · exact LRd.nil _ _
  · refine ⟨_, _, rfl, hc, hm, fun _ => ⟨g, 0, rfl, hL.lt, fun k x hk j u hu => ?_⟩⟩
    have hj : j = 0 := by
      have := (List.getElem?_eq_some_iff.1 hu).1
      simp at this
      omega
    subst hj
    simp only [List.getElem?_cons_zero, Option.some.injEq] at hu
    subst hu
    have := int_cell hL (take_at ht hk)
    simpa using this
theorem IOwn.keep (h : IOwn w B v l) (e : ∀ g, B ≤ g → g < w.heap.size → w'.heap[g]? = w.heap[g]?) : IOwn w' B v l := by
  rcases h with ⟨rfl, rfl⟩ | ⟨g, cap, zs, rfl, hB, hL, hz, hc, hm, ht⟩
  · exact Or.inl ⟨rfl, rfl⟩
  · exact Or.inr ⟨g, cap, zs, rfl, hB, hL.keep (e g hB hL.lt), hz, hc, hm, ht⟩
theorem IOwn.drew (h : IOwn w B v l) : IOwn w.drew B v l := h.keep fun _ _ _ => rfl
theorem IOwn.drewN (h : IOwn w B v l) (n : Nat) : IOwn (w.drewN n) B v l := h.keep fun _ _ _ => rfl
theorem IOwn.below (h : IOwn w B v l) (hb : Below w.heap.size w w') : IOwn w' B v l := h.keep fun g _ hg => hb.block g hg
theorem IOwn.lt (h : IOwn w B v l) {g o n cap : Nat} (e : v = .slice (some ⟨g, o, none⟩) n cap) : B ≤ g ∧ g < w.heap.size := by
  rcases h with ⟨rfl, rfl⟩ | ⟨g', cap, zs, rfl, hB, hL, hz, hc, hm, ht⟩
  · cases e
  · injection e with e
    injection e with e
    injection e with e
    subst e
    exact ⟨hB, hL.lt⟩
/-- The block of a row of one's own takes no store elsewhere amiss. -/
theorem IOwn.far (h : IOwn w B v l) {p : Addr} (hp : p.block < B) (u : Value) : IOwn (w.setCell p u) B v l :=
  h.keep fun g hg _ => Below.heap_setCell w p u g (by omega)
theorem IOwn.off (h : IOwn w B v l) {p : Addr} (hp : v.ownBlock ≠ some p.block) (u : Value) : IOwn (w.setCell p u) B v l := by
  rcases h with ⟨rfl, rfl⟩ | ⟨g, cap, zs, rfl, hB, hL, hz, hc, hm, ht⟩
  · exact Or.inl ⟨rfl, rfl⟩
  · exact Or.inr ⟨g, cap, zs, rfl, hB, hL.far (fun e => hp (by rw [← e]; rfl)) u, hz, hc, hm, ht⟩
end
theorem rdB0 (w : World) (q : Nat) : Below w.heap.size w (w.drewN q) := belowN (Below.refl _ _) q
theorem info_int : (Tryz.prog.info? 3).map (fun i => (i.zero, i.size, i.bytes)) = some (some (.int .i64 0), 1, 8) := by kernel_rfl
theorem zeros_int (k : Nat) : Builtin.zeroCells (Value.int .i64 0).cells k = ((List.replicate k (0 : Int)).map (Value.int .i64)).toArray := by
  apply Array.ext
  · simp [Builtin.zeroCells, Value.cells]
  · intro i h1 h2
    simp [Builtin.zeroCells, Value.cells, Nat.mod_one]
theorem ints_src (w : World) {g o n c : Nat} {l : List Int} (hn : l.length = n) (h : ∀ j x, l[j]? = some x → w.cell? ⟨g, o + j, none⟩ = some (.int .i64 x)) :
    Src Tryz.prog 1 26 (.slice (some ⟨g, o, none⟩) n c) n (l.map (Value.int .i64)) w :=
  Src.ofSlice w Tryz.underlying26 ⟨g, o, none⟩ n c (l.map (Value.int .i64)) (by simp [hn]) (fun j u hj => by
    rw [Addr.add_lit]
    rw [List.getElem?_map] at hj
    cases hx : l[j]? with
    | none => rw [hx] at hj; cases hj
    | some x =>
      rw [hx] at hj
      simp only [Option.map_some, Option.some.injEq] at hj
      subst hj
      exact h j x hx) (fun u hu => by
    obtain ⟨x, _, rfl⟩ := List.mem_map.1 hu
    rfl)
theorem LRd.ints {w : World} {B : Nat} {A : Option Addr} {n cap : Nat} {l : List Int} (h : NRd w B (.slice A n cap) l) (h0 : 0 < n) : ∃ g o, A = some ⟨g, o, none⟩ ∧ g < B ∧ ∀ j x, l[j]? = some x → w.cell? ⟨g, o + j, none⟩ = some (.int .i64 x) := by
  obtain ⟨A', cap', hv, h1, h2, h3⟩ := h
  injection hv with e1 e2 e3
  subst e1 e2 e3
  obtain ⟨g, o, rfl, hg, hc⟩ := h3 h0
  exact ⟨g, o, rfl, hg, fun j x hx => by simpa using hc j x hx 0 _ rfl⟩
/-- A row of integers that was just made, with zeros behind. -/
theorem own_made (w : World) (B : Nat) (l : List Int) {c : Nat} (hc : l.length ≤ c) (hm : c ≤ maxLen) (hB : B ≤ w.heap.size) :
    IOwn (w.alloc (.cells ((l.map (Value.int .i64)).toArray ++ Builtin.zeroCells (Value.int .i64 0).cells (c - l.length)) 3)) B (.slice (some ⟨w.heap.size, 0, none⟩) l.length c) l := by
  refine Or.inr ⟨_, c, l ++ List.replicate (c - l.length) 0, rfl, hB, ?_, by simp; omega, hc, hm, by simp⟩
  have := Lies.new w 3 ((l.map (Value.int .i64)).toArray ++ Builtin.zeroCells (Value.int .i64 0).cells (c - l.length))
  refine this.cast ?_
  rw [zeros_int]
  simp
set_option maxHeartbeats 1000000 in
theorem cloneI_any {v : Value} {l : List Int} {w : World} (h : NRd w w.heap.size v l) (hbig : l.length * 8 ≤ 140737488355328) :
    Calls Tryz.prog 93 #[v] w fun e w' => ∃ v', e = .returned v' ∧ IOwn w' w.heap.size v' l ∧ Below w.heap.size w w' := by
  obtain ⟨A, cap, rfl, m1, m2⟩ := h.is
  have hq := fun (W : World) (a : Option Addr) (n cap : Nat) => Lib.run_eql_slice_nil (P := Tryz.prog) W 26 3 a n cap 0 0 Tryz.underlying26
  obtain ⟨n, hn⟩ : ∃ n, n = l.length := ⟨_, rfl⟩
  cases A with
  | none =>
    have h0 : l.length = 0 := by
      apply Classical.byContradiction
      intro hp
      obtain ⟨g, o, hA, _⟩ := h.ints (by omega)
      cases hA
    have hl : l = [] := List.length_eq_zero_iff.1 h0
    subst hl
    go_enter Tryz.func93, Tryz.ntmps93
    go_wp2
    go_ret
    exact ⟨_, rfl, Or.inl ⟨rfl, rfl⟩, Below.refl _ _⟩
  | some a =>
    by_cases h0 : l.length = 0
    · have hl : l = [] := List.length_eq_zero_iff.1 h0
      subst hl
      have hsrc : Src Tryz.prog 1 26 (.slice (some a) 0 cap) 0 [] (w.alloc (.cells #[] 3)) :=
        Src.ofSlice _ Tryz.underlying26 a 0 cap [] rfl (fun j u hj => by simp at hj) (fun u hu => by cases hu)
      go_enter Tryz.func93, Tryz.ntmps93
      go_wp2_with (at_builtin; refine wpList_append_room1 _ rfl _ _ 26 26 rfl 3 _ _ Tryz.underlying26 info_int w.heap.size 0 0 0 rfl _ rfl 0 [] hsrc (by omega) (fun j hj => by simp at hj) (fun j hj => by simp at hj) ?_)
      go_ret
      refine ⟨_, rfl, ?_, (Below.refl _ _).alloc (Nat.le_refl _) _⟩
      exact Or.inr ⟨_, 0, [], rfl, Nat.le_refl _, Lies.new w 3 #[], rfl, by simp, by simp [maxLen], rfl⟩
    · obtain ⟨g, o, ha, hg, hc⟩ := h.ints (by omega)
      injection ha with ha
      subst ha
      obtain ⟨i0, hi0, hz0, hzs, hzb⟩ := info_parts info_int
      have hsrc : Src Tryz.prog i0.size 26 (.slice (some ⟨g, o, none⟩) l.length cap) l.length (l.map (Value.int .i64)) (w.alloc (.cells #[] 3)) := by
        rw [hzs]
        exact ints_src _ rfl fun j x hx => Lib.cell?_alloc_some _ (hc j x hx)
      have hold : (Builtin.firstCells i0.size 0 (.slice (some ⟨w.heap.size, 0, none⟩) 0 0)).run Tryz.prog (w.alloc (.cells #[] 3)).drew = .ok ([] : List Value).toArray (w.alloc (.cells #[] 3)).drew := by
        rw [hzs]
        exact run_firstCells_some _ 1 0 ⟨w.heap.size, 0, none⟩ 0 0 [] rfl (fun j v hj => by simp at hj)
      have hrun : ∀ ty, (Builtin.append_ #[26, 26] ty #[.slice (some ⟨w.heap.size, 0, none⟩) 0 0, .slice (some ⟨g, o, none⟩) l.length cap]).run Tryz.prog (w.alloc (.cells #[] 3)) = _ := fun ty =>
        run_append_grow_src (w.alloc (.cells #[] 3)) 26 26 ty 3 i0 _ Tryz.underlying26 hi0 hz0 (some ⟨w.heap.size, 0, none⟩) 0 0 [] hold _ l.length _ hsrc (by omega) (by omega) (by rw [hzb]; exact growslice_fits (by omega) (by omega))
      clear hsrc hold
      have HR := Lib.hid hrun
      clear hrun hc
      go_enter Tryz.func93, Tryz.ntmps93
      go_wp2_with (at_builtin; refine Lib.wpList_append_run _ rfl _ _ _ _ rfl _ _ rfl rfl _ _ (HR.out _) ?_)
      go_ret
      refine ⟨_, rfl, ?_, (((Below.refl _ _).alloc (Nat.le_refl _) _).drew).alloc (by simp) _⟩
      have := own_made (w.alloc (.cells #[] 3)) w.heap.size l (c := grownCap (w.alloc (.cells #[] 3)) (0 + l.length) 0 3) (by have := grownCap_ge (w.alloc (.cells #[] 3)) (0 + l.length) 0 3; omega) (grownCap_le_maxLen _ _ _ _ (by unfold maxLen; omega)) (by simp)
      have := this.drew
      simpa [Value.cells] using this
end Go.Proofs.YtfgangkpebkicaaGreatDoor
