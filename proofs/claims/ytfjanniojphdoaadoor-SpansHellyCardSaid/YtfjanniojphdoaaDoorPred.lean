/-
  A table of twelve sets in a block; contracts of spans.has and spans.predecessors.
-/
import Derived.Test.YtfjanniojphdoaaDoorMem
import Derived.Deep.QuietTactic
import Derived.BigQuiet
import Derived.Lib.Hide
namespace Go.Proofs.YtfjanniojphdoaaDoor
open Go.RowKit
set_option maxRecDepth 20000

abbrev rowCs (a : Nat → Nat) : Array Value := #[.int .u16 (a 0), .int .u16 (a 1), .int .u16 (a 2), .int .u16 (a 3), .int .u16 (a 4), .int .u16 (a 5), .int .u16 (a 6), .int .u16 (a 7), .int .u16 (a 8), .int .u16 (a 9), .int .u16 (a 10), .int .u16 (a 11)]
def ArrB (w : World) (g : Nat) (a : Nat → Nat) : Prop := Lies w g 23 (rowCs a)
section
variable {w w' : World} {g : Nat} {a : Nat → Nat}
theorem ArrB.row (h : ArrB w g a) {k : Nat} (hk : k < 12) : w.cell? ⟨g, k, none⟩ = some (.int .u16 (a k)) := by
  rw [Lies.cell h]
  rcases nat12 hk with rfl | rfl | rfl | rfl | rfl | rfl | rfl | rfl | rfl | rfl | rfl | rfl <;> rfl
theorem ArrB.rows (h : ArrB w g a) : w.cell? ⟨g, 0, none⟩ = some (.int .u16 (a 0)) ∧ w.cell? ⟨g, 1, none⟩ = some (.int .u16 (a 1)) ∧ w.cell? ⟨g, 2, none⟩ = some (.int .u16 (a 2)) ∧ w.cell? ⟨g, 3, none⟩ = some (.int .u16 (a 3)) ∧ w.cell? ⟨g, 4, none⟩ = some (.int .u16 (a 4)) ∧ w.cell? ⟨g, 5, none⟩ = some (.int .u16 (a 5)) ∧ w.cell? ⟨g, 6, none⟩ = some (.int .u16 (a 6)) ∧ w.cell? ⟨g, 7, none⟩ = some (.int .u16 (a 7)) ∧ w.cell? ⟨g, 8, none⟩ = some (.int .u16 (a 8)) ∧ w.cell? ⟨g, 9, none⟩ = some (.int .u16 (a 9)) ∧ w.cell? ⟨g, 10, none⟩ = some (.int .u16 (a 10)) ∧ w.cell? ⟨g, 11, none⟩ = some (.int .u16 (a 11)) :=
  ⟨h.row (k := 0) (by omega), h.row (k := 1) (by omega), h.row (k := 2) (by omega), h.row (k := 3) (by omega), h.row (k := 4) (by omega), h.row (k := 5) (by omega), h.row (k := 6) (by omega), h.row (k := 7) (by omega), h.row (k := 8) (by omega), h.row (k := 9) (by omega), h.row (k := 10) (by omega), h.row (k := 11) (by omega)⟩
theorem ArrB.free (h : ArrB w g a) (i : Nat) : w.frozen? ⟨g, i, none⟩ = false := Lies.frozen h i
theorem ArrB.set_ (h : ArrB w g a) {k : Nat} (hk : k < 12) (x : Nat) : ArrB (w.setCell ⟨g, k, none⟩ (.int .u16 x)) g (fun i => if i = k then x else a i) := by
  refine Lies.cast (Lies.set_ h k (.int .u16 x)) ?_
  rcases nat12 hk with rfl | rfl | rfl | rfl | rfl | rfl | rfl | rfl | rfl | rfl | rfl | rfl <;> simp [rowCs]
theorem ArrB.congr {b : Nat → Nat} (h : ArrB w g a) (e : ∀ i, i < 12 → a i = b i) : ArrB w g b := by
  refine Lies.cast h ?_
  simp [rowCs, e 0, e 1, e 2, e 3, e 4, e 5, e 6, e 7, e 8, e 9, e 10, e 11]
end
/-- The world behind twelve stores. -/
abbrev fillR (w : World) (g : Nat) (b : Nat → Nat) : World := ((((((((((((w.setCell ⟨g, 0, none⟩ (.int .u16 (b 0))).setCell ⟨g, 1, none⟩ (.int .u16 (b 1))).setCell ⟨g, 2, none⟩ (.int .u16 (b 2))).setCell ⟨g, 3, none⟩ (.int .u16 (b 3))).setCell ⟨g, 4, none⟩ (.int .u16 (b 4))).setCell ⟨g, 5, none⟩ (.int .u16 (b 5))).setCell ⟨g, 6, none⟩ (.int .u16 (b 6))).setCell ⟨g, 7, none⟩ (.int .u16 (b 7))).setCell ⟨g, 8, none⟩ (.int .u16 (b 8))).setCell ⟨g, 9, none⟩ (.int .u16 (b 9))).setCell ⟨g, 10, none⟩ (.int .u16 (b 10))).setCell ⟨g, 11, none⟩ (.int .u16 (b 11)))
theorem ArrB.fill {w : World} {g : Nat} {a : Nat → Nat} (h : ArrB w g a) (b : Nat → Nat) : ArrB (fillR w g b) g b := by
  have h1 := Lies.set_ h 0 (.int .u16 (b 0))
  have h2 := Lies.set_ h1 1 (.int .u16 (b 1))
  have h3 := Lies.set_ h2 2 (.int .u16 (b 2))
  have h4 := Lies.set_ h3 3 (.int .u16 (b 3))
  have h5 := Lies.set_ h4 4 (.int .u16 (b 4))
  have h6 := Lies.set_ h5 5 (.int .u16 (b 5))
  have h7 := Lies.set_ h6 6 (.int .u16 (b 6))
  have h8 := Lies.set_ h7 7 (.int .u16 (b 7))
  have h9 := Lies.set_ h8 8 (.int .u16 (b 8))
  have h10 := Lies.set_ h9 9 (.int .u16 (b 9))
  have h11 := Lies.set_ h10 10 (.int .u16 (b 10))
  have h12 := Lies.set_ h11 11 (.int .u16 (b 11))
  exact Lies.cast h12 (by simp [rowCs])
theorem fillR_below {B : Nat} {w0 w : World} {g : Nat} (h : Below B w0 w) (hg : B ≤ g) (b : Nat → Nat) : Below B w0 (fillR w g b) :=
  ((((((((((((h.setCell (p := ⟨g, 0, none⟩) hg _).setCell (p := ⟨g, 1, none⟩) hg _).setCell (p := ⟨g, 2, none⟩) hg _).setCell (p := ⟨g, 3, none⟩) hg _).setCell (p := ⟨g, 4, none⟩) hg _).setCell (p := ⟨g, 5, none⟩) hg _).setCell (p := ⟨g, 6, none⟩) hg _).setCell (p := ⟨g, 7, none⟩) hg _).setCell (p := ⟨g, 8, none⟩) hg _).setCell (p := ⟨g, 9, none⟩) hg _).setCell (p := ⟨g, 10, none⟩) hg _).setCell (p := ⟨g, 11, none⟩) hg _)
theorem post_fillR {P : Program} {fn : Func} {R : Ending → World → Prop} {act : Act} {w W : World} {B g : Nat} {a0 : Nat → Nat} (a : Nat → Nat)
    (hB : ArrB W g a0) (hb : Below B w W) (hg : B ≤ g) (k : ∀ wz, ArrB wz g a → Below B w wz → bodyPost P fn R .ret act wz) : bodyPost P fn R .ret act (fillR W g a) :=
  k _ (hB.fill a) (fillR_below hb hg a)

theorem shas_any (s i : Nat) (w : World) (hs : s < 65536) (h1 : i ≤ 15) :
    Calls Tryd.prog 54 #[.int .u16 s, .int .i64 i] w fun e w' => e = .returned (.bool (s.testBit i)) ∧ w = w' := by
  go_enter Tryd.func54, Tryd.ntmps54
  go_wp2
  go_ret
  exact ⟨ret_bool (by rw [← has_val s i hs]; simp), rfl⟩
theorem shas_yes (s i : Nat) (w : World) (hs : s < 65536) (h1 : i ≤ 15) (h : s.testBit i = true) :
    Calls Tryd.prog 54 #[.int .u16 s, .int .i64 i] w fun e w' => e = .returned (.bool true) ∧ w = w' := h ▸ shas_any s i w hs h1
theorem shas_no (s i : Nat) (w : World) (hs : s < 65536) (h1 : i ≤ 15) (h : s.testBit i = false) :
    Calls Tryd.prog 54 #[.int .u16 s, .int .i64 i] w fun e w' => e = .returned (.bool false) ∧ w = w' := h ▸ shas_any s i w hs h1

structure PrRel (w : World) (G n : Nat) (a c : Nat → Nat) (wr : World) : Prop where
  below : Below w.heap.size w wr
  arg : RelB wr w.heap.size n a
  res : ArrB wr (w.heap.size + 1) (fun _ => 0)
  own : ArrB wr G c
  far : w.heap.size + 2 ≤ G
theorem PrRel.set_ {w wr : World} {G n : Nat} {a c : Nat → Nat} (h : PrRel w G n a c wr) {k : Nat} (hk : k < 12) (x : Nat) :
    PrRel w G n a (fun i => if i = k then x else c i) (wr.setCell ⟨G, k, none⟩ (.int .u16 x)) :=
  ⟨h.below.setCell (by have := h.far; show w.heap.size ≤ G; omega) _, Lies.far h.arg (by have := h.far; show w.heap.size ≠ G; omega) _, Lies.far h.res (by have := h.far; show w.heap.size + 1 ≠ G; omega) _, h.own.set_ hk x, h.far⟩
theorem PrRel.drew {w wr : World} {G n : Nat} {a c : Nat → Nat} (h : PrRel w G n a c wr) : PrRel w G n a c wr.drew := ⟨h.below.drew, h.arg, h.res, h.own, h.far⟩
theorem PrRel.congr {w wr : World} {G n : Nat} {a c d : Nat → Nat} (h : PrRel w G n a c wr) (e : ∀ i, i < 12 → c i = d i) : PrRel w G n a d wr := ⟨h.below, h.arg, h.res, h.own.congr e, h.far⟩

set_option maxHeartbeats 1000000 in
theorem pred_any (n : Nat) (a : Nat → Nat) (w : World) (hn : n ≤ 12) (ha : ∀ i, i < 12 → a i < 65536) :
    Calls Tryd.prog 49 #[relV n a] w fun e w' => e = .returned (rowsV (rev n a)) ∧ Below w.heap.size w w' := by
  have HC : PrRel w (w.heap.size + 1 + 1) n a (fun _ => 0) (((w.alloc (.cells (relCs n a) 25)).alloc (.cells (rowCs fun _ => 0) 23)).alloc (.cells (rowCs fun _ => 0) 23)) := by
    have h1 := Lies.new w 25 (relCs n a)
    have h2 := Lies.new (w.alloc (.cells (relCs n a) 25)) 23 (rowCs fun _ => 0)
    have h3 := Lies.new ((w.alloc (.cells (relCs n a) 25)).alloc (.cells (rowCs fun _ => 0) 23)) 23 (rowCs fun _ => 0)
    rw [World.size_alloc] at h2
    rw [World.size_alloc, World.size_alloc] at h3
    exact ⟨(((Below.refl _ _).alloc (Nat.le_refl _) _).alloc (by simp) _).alloc (by simp; omega) _, (h1.alloc _).alloc _, h2.alloc _, h3, by omega⟩
  go_enter Tryd.func49, Tryd.ntmps49
  go_wp2_with fail
  change Code.wp _ _ _ _ (((w.alloc (.cells (relCs n a) 25)).alloc (.cells (rowCs fun _ => 0) 23)).alloc (.cells (rowCs fun _ => 0) 23))
  generalize ((w.alloc (.cells (relCs n a) 25)).alloc (.cells (rowCs fun _ => 0) 23)).alloc (.cells (rowCs fun _ => 0) 23) = W at HC ⊢
  have hfar := HC.far
  generalize w.heap.size + 1 + 1 = G at HC hfar ⊢
  go_loopw [8] (fun i wr => ∃ k : Nat, k ≤ n ∧ i = .int .i64 k ∧ PrRel w G n a (revs n a k) wr) (fun i _ => n - (intOf i).toNat)
  case atStart => exact ⟨0, by omega, rfl, HC⟩
  case round =>
    clear HC
    obtain ⟨k, hk, rfl, hC⟩ := hrel
    have hs := hC.arg.size
    by_cases hkn : k < n
    · go_wp2_with fail
      obtain ⟨wo, rfl⟩ : ∃ wo : World, wo = wr := ⟨_, rfl⟩
      clear hs
      go_loopw [13] (fun i wr => ∃ m : Nat, m ≤ n ∧ i = .int .i64 m ∧ PrRel w G n a (stepR m a k (revs n a k)) wr) (fun i _ => n - (intOf i).toNat)
      case atStart => exact ⟨0, by omega, rfl, by rw [stepR_zero]; exact hC⟩
      case round =>
        clear hC
        obtain ⟨m, hm, rfl, hC⟩ := hrel
        by_cases hmn : m < n
        · have hm12 : m < 12 := by omega
          have hk12 : k < 12 := by omega
          have hak := ha k hk12
          have hlm : revs n a k m < 65536 := revs_lt n a 16 m k (by omega)
          have ck := hC.arg.row' hk12
          have cm := hC.own.row hm12
          have fm := hC.own.free m
          rw [stepR_at] at cm
          have ho := or_pow (revs n a k m) k hlm (by omega)
          have hp := pow_u16 k (by omega)
          have hs := stepR_succ m a k (revs n a k)
          cases hb : (a k).testBit m
          · rw [hb] at hs
            have HS := Lib.hid hs
            have Hb := Lib.hid hb
            clear hs hb
            go_wp2_with (go_at_call 54; refine (shas_no _ m _ hak (by omega) Hb.out).mono ?_; rintro e w' ⟨rfl, rfl⟩)
            go_roundw
            case rel => exact ⟨m + 1, by omega, by go_num, hC.congr (fun i hi => by rw [HS.out]; split <;> simp_all [stepR_at])⟩
            case measure => simp [intOf]; omega
          · rw [hb] at hs
            have HS := Lib.hid hs
            have Hb := Lib.hid hb
            clear hs hb
            go_wp2_with (go_at_call 54; refine (shas_yes _ m _ hak (by omega) Hb.out).mono ?_; rintro e w' ⟨rfl, rfl⟩)
            go_region
            go_wp2
            go_roundw
            case rel => exact ⟨m + 1, by omega, by go_num, (PrRel.drew (hC.set_ hm12 _)).congr (fun i hi => by rw [HS.out]; split <;> simp_all)⟩
            case measure => simp [intOf]; omega
        · have hmn' : m = n := by omega
          subst hmn'
          go_wp2_with fail
          go_roundw
          case rel => exact ⟨k + 1, by omega, by go_num, hC⟩
          case measure => simp [intOf]; omega
    · have hkn' : k = n := by omega
      subst hkn'
      obtain ⟨r0, r1, r2, r3, r4, r5, r6, r7, r8, r9, r10, r11⟩ := hC.res.rows
      obtain ⟨c0, c1, c2, c3, c4, c5, c6, c7, c8, c9, c10, c11⟩ := hC.own.rows
      have hf := hC.res.free
      go_wp2_with fail
      clear r0 r1 r2 r3 r4 r5 r6 r7 r8 r9 r10 r11 hs c0 c1 c2 c3 c4 c5 c6 c7 c8 c9 c10 c11 hf
      refine post_fillR (W := wr) (g := w.heap.size + 1) (revs k a k) hC.res hC.below (by omega) ?_
      intro wz hz hbz
      obtain ⟨c0, c1, c2, c3, c4, c5, c6, c7, c8, c9, c10, c11⟩ := hz.rows
      exact bodyPost_ret (v := rowsV (revs k a k))
        (by simp [results, Tryd.results49, go_sem, c0, c1, c2, c3, c4, c5, c6, c7, c8, c9, c10, c11]) rfl ⟨rfl, hbz⟩
end Go.Proofs.YtfjanniojphdoaaDoor
