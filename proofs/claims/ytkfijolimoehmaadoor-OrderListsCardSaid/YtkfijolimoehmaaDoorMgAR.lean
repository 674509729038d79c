/-
  Joined by a program out of: Longest, Ranks.
-/
import Derived.Test.YtkfijolimoehmaaDoorMgAQ
import Derived.Test.YtkfijolimoehmaaDoorMgAM
import Derived.Test.YtkfijolimoehmaaDoorMgAN

/-
  Contract of order.longest.
-/
namespace Go.Proofs.YtkfijolimoehmaaDoor
open Go.RowKit
set_option maxRecDepth 20000

/-- Twelve lengths, as cells and as a value. -/
abbrev lenCs (f : Nat → Nat) : Array Value := #[.int .i64 (f 0 : Nat), .int .i64 (f 1 : Nat), .int .i64 (f 2 : Nat), .int .i64 (f 3 : Nat), .int .i64 (f 4 : Nat), .int .i64 (f 5 : Nat), .int .i64 (f 6 : Nat), .int .i64 (f 7 : Nat), .int .i64 (f 8 : Nat), .int .i64 (f 9 : Nat), .int .i64 (f 10 : Nat), .int .i64 (f 11 : Nat)]
def LenB (w : World) (g : Nat) (f : Nat → Nat) : Prop := Lies w g 55 (lenCs f)
section
variable {w : World} {g : Nat} {f : Nat → Nat}
theorem LenB.at_ (h : LenB w g f) {k : Nat} (hk : k < 12) : w.cell? ⟨g, k, none⟩ = some (.int .i64 (f k : Nat)) := by
  rw [Lies.cell h]
  rcases nat12 hk with rfl | rfl | rfl | rfl | rfl | rfl | rfl | rfl | rfl | rfl | rfl | rfl <;> rfl
theorem LenB.free (h : LenB w g f) (i : Nat) : w.frozen? ⟨g, i, none⟩ = false := Lies.frozen h i
theorem LenB.set_ (h : LenB w g f) {k : Nat} (hk : k < 12) (x : Nat) : LenB (w.setCell ⟨g, k, none⟩ (.int .i64 (x : Nat))) g (updF f k x) := by
  refine Lies.cast (Lies.set_ h k _) ?_
  rcases nat12 hk with rfl | rfl | rfl | rfl | rfl | rfl | rfl | rfl | rfl | rfl | rfl | rfl <;> simp [lenCs, updF]
end

/-- The world behind twelve stores. -/
abbrev fillL (w : World) (g : Nat) (f : Nat → Nat) : World := ((((((((((((w.setCell ⟨g, 0, none⟩ (.int .i64 (f 0 : Nat))).setCell ⟨g, 1, none⟩ (.int .i64 (f 1 : Nat))).setCell ⟨g, 2, none⟩ (.int .i64 (f 2 : Nat))).setCell ⟨g, 3, none⟩ (.int .i64 (f 3 : Nat))).setCell ⟨g, 4, none⟩ (.int .i64 (f 4 : Nat))).setCell ⟨g, 5, none⟩ (.int .i64 (f 5 : Nat))).setCell ⟨g, 6, none⟩ (.int .i64 (f 6 : Nat))).setCell ⟨g, 7, none⟩ (.int .i64 (f 7 : Nat))).setCell ⟨g, 8, none⟩ (.int .i64 (f 8 : Nat))).setCell ⟨g, 9, none⟩ (.int .i64 (f 9 : Nat))).setCell ⟨g, 10, none⟩ (.int .i64 (f 10 : Nat))).setCell ⟨g, 11, none⟩ (.int .i64 (f 11 : Nat)))
theorem LenB.fill {w : World} {g : Nat} {f0 : Nat → Nat} (h0 : LenB w g f0) (f : Nat → Nat) : LenB (fillL w g f) g f := by
  have h1 := Lies.set_ h0 0 (.int .i64 (f 0 : Nat))
  have h2 := Lies.set_ h1 1 (.int .i64 (f 1 : Nat))
  have h3 := Lies.set_ h2 2 (.int .i64 (f 2 : Nat))
  have h4 := Lies.set_ h3 3 (.int .i64 (f 3 : Nat))
  have h5 := Lies.set_ h4 4 (.int .i64 (f 4 : Nat))
  have h6 := Lies.set_ h5 5 (.int .i64 (f 5 : Nat))
  have h7 := Lies.set_ h6 6 (.int .i64 (f 6 : Nat))
  have h8 := Lies.set_ h7 7 (.int .i64 (f 7 : Nat))
  have h9 := Lies.set_ h8 8 (.int .i64 (f 8 : Nat))
  have h10 := Lies.set_ h9 9 (.int .i64 (f 9 : Nat))
  have h11 := Lies.set_ h10 10 (.int .i64 (f 10 : Nat))
  have h12 := Lies.set_ h11 11 (.int .i64 (f 11 : Nat))
  exact Lies.cast h12 (by simp [lenCs])
theorem fillL_below {B : Nat} {w0 w : World} {g : Nat} (h : Below B w0 w) (hg : B ≤ g) (f : Nat → Nat) : Below B w0 (fillL w g f) := ((((((((((((h.setCell (p := ⟨g, 0, none⟩) hg _).setCell (p := ⟨g, 1, none⟩) hg _).setCell (p := ⟨g, 2, none⟩) hg _).setCell (p := ⟨g, 3, none⟩) hg _).setCell (p := ⟨g, 4, none⟩) hg _).setCell (p := ⟨g, 5, none⟩) hg _).setCell (p := ⟨g, 6, none⟩) hg _).setCell (p := ⟨g, 7, none⟩) hg _).setCell (p := ⟨g, 8, none⟩) hg _).setCell (p := ⟨g, 9, none⟩) hg _).setCell (p := ⟨g, 10, none⟩) hg _).setCell (p := ⟨g, 11, none⟩) hg _)

/-- The state of longest: the relation, the lengths, the result's block. -/
structure NRl (w : World) (G : Nat) (n : Nat) (c f : Nat → Nat) (wr : World) : Prop where
  below : Below w.heap.size w wr
  rel : RelB wr w.heap.size n c
  res : LenB wr (w.heap.size + 1) (fun _ => 0)
  own : LenB wr G f
  far : w.heap.size + 2 ≤ G
theorem NRl.set_ {w wr : World} {G n : Nat} {c f : Nat → Nat} (h : NRl w G n c f wr) {k : Nat} (hk : k < 12) (x : Nat) : NRl w G n c (updF f k x) (wr.setCell ⟨G, k, none⟩ (.int .i64 (x : Nat))) := by
  have hf := h.far
  exact ⟨h.below.setCell (show w.heap.size ≤ G by omega) _, Lies.far h.rel (show w.heap.size ≠ G by omega) _, Lies.far h.res (show w.heap.size + 1 ≠ G by omega) _, h.own.set_ hk x, hf⟩
theorem NRl.drew {w wr : World} {G n : Nat} {c f : Nat → Nat} (h : NRl w G n c f wr) : NRl w G n c f wr.drew := ⟨h.below.drew, h.rel, h.res, h.own, h.far⟩

set_option maxHeartbeats 2000000 in
theorem longest_any (n : Nat) (c : Nat → Nat) (w : World) (hn : n ≤ 12) (hc : ∀ i, i < 12 → c i < 65536) (hirr : ∀ v, v < n → (c v).testBit v = false) :
    Calls Tryd.prog 31 #[relV n c] w fun e w' => e = .returned (.agg (lenCs (rnd c n n))) ∧ Below w.heap.size w w' := by
  go_enter Tryd.func31, Tryd.ntmps31
  go_wp2_with fail
  have H0 : NRl w (w.heap.size + 2) n c (rnd c n 0) (((w.alloc (.cells (relCs n c) 25)).alloc (.cells (lenCs fun _ => 0) 55)).alloc (.cells (lenCs fun _ => 0) 55)) := by
    have h1 : RelB (w.alloc (.cells (relCs n c) 25)) w.heap.size n c := Lies.new _ _ _
    have h2 := Lies.new (w.alloc (.cells (relCs n c) 25)) 55 (lenCs fun _ => 0)
    have h3 := Lies.new ((w.alloc (.cells (relCs n c) 25)).alloc (.cells (lenCs fun _ => 0) 55)) 55 (lenCs fun _ => 0)
    rw [World.size_alloc] at h2
    rw [World.size_alloc, World.size_alloc] at h3
    exact ⟨(((Below.refl _ _).alloc (Nat.le_refl _) _).alloc (by simp) _).alloc (by simp; omega) _, Lies.alloc (Lies.alloc h1 _) _, Lies.alloc h2 _, h3, Nat.le_refl _⟩
  change Code.wp _ _ _ _ (((w.alloc (.cells (relCs n c) 25)).alloc (.cells (lenCs fun _ => 0) 55)).alloc (.cells (lenCs fun _ => 0) 55))
  generalize ((w.alloc (.cells (relCs n c) 25)).alloc (.cells (lenCs fun _ => 0) 55)).alloc (.cells (lenCs fun _ => 0) 55) = W at H0 ⊢
  have e2 : w.heap.size + 1 + 1 = w.heap.size + 2 := rfl
  generalize hG : w.heap.size + 2 = G at H0 ⊢
  clear e2 hG
  have HI := Lib.hid hirr
  clear hirr
  go_loopw [8] (fun i wr => ∃ r : Nat, r ≤ n ∧ i = .int .i64 r ∧ NRl w G n c (rnd c n r) wr) (fun i _ => n - (intOf i).toNat)
  case atStart => exact ⟨0, by omega, rfl, H0⟩
  case round =>
    clear H0
    obtain ⟨r, hr, rfl, hN⟩ := hrel
    have hs := hN.rel.size
    by_cases hrn : r < n
    · have HN := Lib.hid hN
      clear hN
      go_wp2_with fail
      clear hs
      obtain ⟨wo, rfl⟩ : ∃ wo : World, wo = wr := ⟨_, rfl⟩
      go_loopw [12] (fun i wr => ∃ k : Nat, k ≤ n ∧ i = .int .i64 k ∧ NRl w G n c (mid c n (rnd c n r) k) wr) (fun i _ => n - (intOf i).toNat)
      case atStart => exact ⟨0, by omega, rfl, HN.out⟩
      case round =>
        clear HN
        obtain ⟨k, hk, rfl, hN⟩ := hrel
        by_cases hkn : k < n
        · have hk12 : k < 12 := by omega
          have hs := hN.rel.size
          have hat := hN.own.at_ hk12
          have hfr := hN.own.free k
          have hbd := fun j => mid_bound (c := c) (n := n) (rnd_bound (c := c) (n := n) r) k j
          have hbB : ∀ j, mid c n (rnd c n r) k j ≤ 2000 := fun j => by
            have h1 := hbd j
            have h2 : r * (n * (n + 1)) ≤ 11 * (12 * 13) := Nat.mul_le_mul (by omega) (Nat.mul_le_mul hn (by omega))
            have h3 : k * (n + 1) ≤ 11 * 13 := Nat.mul_le_mul (by omega) (by omega)
            omega
          have hM : mid c n (rnd c n r) (k + 1) = inn c k (mid c n (rnd c n r) k) n := rfl
          have h1 := hN.set_ hk12 1
          rw [show updF (mid c n (rnd c n r) k) k 1 = inn c k (mid c n (rnd c n r) k) 0 from rfl] at h1
          have hsz := hN.rel.lt
          have hGs := hN.far
          have HB := Lib.hid hbB
          have HM := Lib.hid hM
          have HN := Lib.hid h1
          clear hN h1 hbd hbB hM
          generalize mid c n (rnd c n r) k = F at *
          go_wp2_with fail
          have h1 := HN.out
          clear hs hat hfr HN
          change Code.wp _ _ _ _ (wr.setCell ⟨G, k, none⟩ (.int .i64 ((1 : Nat) : Int)))
          generalize wr.setCell ⟨G, k, none⟩ (.int .i64 ((1 : Nat) : Int)) = W1 at h1 ⊢
          have HN := Lib.hid h1
          clear h1
          obtain ⟨wo, rfl⟩ : ∃ wo : World, wo = wr := ⟨_, rfl⟩
          go_loopw [19] (fun i wr => ∃ m : Nat, m ≤ n ∧ i = .int .i64 m ∧ NRl w G n c (inn c k F m) wr) (fun i _ => n - (intOf i).toNat)
          case atStart => exact ⟨0, by omega, rfl, HN.out⟩
          case round =>
            clear HN
            obtain ⟨m, hm, rfl, hN⟩ := hrel
            by_cases hmn : m < n
            · have hm12 : m < 12 := by omega
              have ck := hN.rel.row' hk12
              have fk := hN.own.at_ hk12
              have fm := hN.own.at_ hm12
              have fr := hN.own.free k
              have hck := hc k hk12
              have hbd := fun j => inn_bound (c := c) (i := k) HB.out m j
              have hbk : inn c k F m k ≤ 2020 := by have := hbd k; omega
              have hbm : inn c k F m m ≤ 2020 := by have := hbd m; omega
              have hs := fun x => (hN.set_ hk12 x).drew
              have hst : inn c k F (m + 1) = if (c k).testBit m = true then updF (inn c k F m) k (max (inn c k F m k) (inn c k F m m + 1)) else inn c k F m := rfl
              clear hbd
              generalize inn c k F m = f at *
              cases hb : (c k).testBit m
              · rw [hb, if_neg (by decide)] at hst
                have HS := Lib.hid hst
                have Hb := Lib.hid hb
                have HN := Lib.hid hN
                clear hst hb hN hs
                go_wp2_with (go_at_call 22; refine (has_no _ m _ hck (by omega) Hb.out).mono ?_; rintro e w' ⟨rfl, rfl⟩)
                go_roundw
                case rel => exact ⟨m + 1, by omega, by go_num, by rw [HS.out]; exact HN.out⟩
                case measure => simp [intOf]; omega
              · rw [hb, if_pos rfl] at hst
                have HS := Lib.hid hst
                have Hb := Lib.hid hb
                have HN := Lib.hid hs
                clear hst hb hN hs
                go_wp2_with (go_at_call 22; refine (has_yes _ m _ hck (by omega) Hb.out).mono ?_; rintro e w' ⟨rfl, rfl⟩)
                go_region
                have hmx : (if (f k : Int) < (f m : Int) + 1 then (f m : Int) + 1 else (f k : Int)) = ((max (f k) (f m + 1) : Nat) : Int) := (by rw [Nat.max_def]; split <;> split <;> omega)
                rw [hmx]
                have h1 := HN.out (max (f k) (f m + 1))
                rw [← HS.out] at h1
                clear HN hmx ck fk fm fr hbk hbm
                generalize (wr.setCell ⟨G, k, none⟩ (.int .i64 ((max (f k) (f m + 1) : Nat) : Int))).drew = w5 at h1 ⊢
                have HN := Lib.hid h1
                clear h1
                go_wp2_with fail
                go_roundw
                case rel => exact ⟨m + 1, by omega, by go_num, HN.out⟩
                case measure => simp [intOf]; omega
            · have hmn' : m = n := by omega
              subst hmn'
              have HN := Lib.hid hN
              clear hN
              go_wp2_with fail
              go_roundw
              case rel => exact ⟨k + 1, by omega, by go_num, by rw [HM.out]; exact HN.out⟩
              case measure => simp [intOf]; omega
        · have hkn' : k = n := by omega
          subst hkn'
          have HN := Lib.hid hN
          clear hN
          go_wp2_with fail
          go_roundw
          case rel => exact ⟨r + 1, by omega, by go_num, HN.out⟩
          case measure => simp [intOf]; omega
    · have hrn' : r = n := by omega
      subst hrn'
      have f0 := hN.own.at_ (k := 0) (by decide)
      have f1 := hN.own.at_ (k := 1) (by decide)
      have f2 := hN.own.at_ (k := 2) (by decide)
      have f3 := hN.own.at_ (k := 3) (by decide)
      have f4 := hN.own.at_ (k := 4) (by decide)
      have f5 := hN.own.at_ (k := 5) (by decide)
      have f6 := hN.own.at_ (k := 6) (by decide)
      have f7 := hN.own.at_ (k := 7) (by decide)
      have f8 := hN.own.at_ (k := 8) (by decide)
      have f9 := hN.own.at_ (k := 9) (by decide)
      have f10 := hN.own.at_ (k := 10) (by decide)
      have f11 := hN.own.at_ (k := 11) (by decide)
      have g0 := hN.res.at_ (k := 0) (by decide)
      have g1 := hN.res.at_ (k := 1) (by decide)
      have g2 := hN.res.at_ (k := 2) (by decide)
      have g3 := hN.res.at_ (k := 3) (by decide)
      have g4 := hN.res.at_ (k := 4) (by decide)
      have g5 := hN.res.at_ (k := 5) (by decide)
      have g6 := hN.res.at_ (k := 6) (by decide)
      have g7 := hN.res.at_ (k := 7) (by decide)
      have g8 := hN.res.at_ (k := 8) (by decide)
      have g9 := hN.res.at_ (k := 9) (by decide)
      have g10 := hN.res.at_ (k := 10) (by decide)
      have g11 := hN.res.at_ (k := 11) (by decide)
      have gf := hN.res.free
      have hfar := hN.far
      have HN := Lib.hid hN
      clear hN
      generalize hF : rnd c r r = F at *
      have HF := Lib.hid hF
      clear hF
      go_wp2_with fail
      clear f0 f1 f2 f3 f4 f5 f6 f7 f8 f9 f10 f11 g0 g1 g2 g3 g4 g5 g6 g7 g8 g9 g10 g11 gf hs
      have hz : LenB (fillL wr (w.heap.size + 1) F) (w.heap.size + 1) F := HN.out.res.fill F
      have hbz : Below w.heap.size w (fillL wr (w.heap.size + 1) F) := fillL_below HN.out.below (by omega) F
      change bodyPost _ _ _ _ _ (fillL wr (w.heap.size + 1) F)
      generalize fillL wr (w.heap.size + 1) F = wz at hz hbz ⊢
      have z0 := hz.at_ (k := 0) (by decide)
      have z1 := hz.at_ (k := 1) (by decide)
      have z2 := hz.at_ (k := 2) (by decide)
      have z3 := hz.at_ (k := 3) (by decide)
      have z4 := hz.at_ (k := 4) (by decide)
      have z5 := hz.at_ (k := 5) (by decide)
      have z6 := hz.at_ (k := 6) (by decide)
      have z7 := hz.at_ (k := 7) (by decide)
      have z8 := hz.at_ (k := 8) (by decide)
      have z9 := hz.at_ (k := 9) (by decide)
      have z10 := hz.at_ (k := 10) (by decide)
      have z11 := hz.at_ (k := 11) (by decide)
      exact bodyPost_ret (v := .agg (lenCs F))
        (by simp [results, Tryd.results31, go_sem, z0, z1, z2, z3, z4, z5, z6, z7, z8, z9, z10, z11]) rfl ⟨by rw [HF.out], hbz⟩
end Go.Proofs.YtkfijolimoehmaaDoor

/-
  Contract of order.Ranks.
-/
namespace Go.Proofs.YtkfijolimoehmaaDoor
open Go.RowKit
set_option maxRecDepth 20000

/-- The ranks by the closure c. -/
def rankOf (n : Nat) (c : Nat → Nat) (i : Nat) : Int := ((len (rev n c) n i : Nat) : Int) - 1

def firstK (f : Nat → Int) (k : Nat) : Nat → Int := fun i => if i < k then f i else 0
theorem firstK_zero (f : Nat → Int) : firstK f 0 = fun _ => 0 := by funext i; simp [firstK]
theorem firstK_succ (f : Nat → Int) (k : Nat) : firstK f (k + 1) = upd (firstK f k) k (f k) := by
  funext i
  unfold firstK upd
  by_cases e : i = k
  · subst e; simp
  · simp [e, show i < k + 1 ↔ i < k by omega]
theorem listed_congr {n : Nat} {f g : Nat → Int} (h : ∀ i, i < n → f i = g i) : listed n f = listed n g := by
  unfold listed
  exact List.map_congr_left fun i hi => h i (List.mem_range.1 hi)

structure KRel (w : World) (L M n : Nat) (a f : Nat → Nat) (nu : Nat → Int) (wr : World) : Prop where
  below : Below w.heap.size w wr
  arg : RelB wr w.heap.size n a
  len : LenB wr L f
  out : ITab wr M n nu
  ml : M ≠ L
  mw : w.heap.size < M
theorem KRel.set_ {w wr : World} {L M n : Nat} {a f : Nat → Nat} {nu : Nat → Int} (h : KRel w L M n a f nu wr) (i : Nat) (x : Int) : KRel w L M n a f (upd nu i x) (wr.setCell ⟨M, i, none⟩ (.int .i64 x)) := by
  have h2 := h.mw
  exact ⟨h.below.setCell (show w.heap.size ≤ M by omega) _, Lies.far h.arg (show w.heap.size ≠ M by omega) _, Lies.far h.len (fun e => h.ml e.symm) _, h.out.set_ i x, h.ml, h2⟩
theorem KRel.drew {w wr : World} {L M n : Nat} {a f : Nat → Nat} {nu : Nat → Int} (h : KRel w L M n a f nu wr) : KRel w L M n a f nu wr.drew := ⟨h.below.drew, h.arg, h.len, h.out, h.ml, h.mw⟩

set_option maxHeartbeats 1000000 in
theorem ranks_no (n : Nat) (a : Nat → Nat) (w : World) (h : Good n a) (hy : cyc (clo n a) n = false) :
    Calls Tryd.prog 16 #[relV n a] w fun e w' => ∃ v, e = .returned (.tuple #[v, .int .i64 0]) ∧ IOwn w' w.heap.size v (listed n (rankOf n (clo n a))) ∧ Below w.heap.size w w' := by
  have hcl := clo_lt h
  have hle := h.le
  have hs := strict_clo h hy
  have HS := Lib.hid hs
  clear hs
  go_enter Tryd.func16, Tryd.ntmps16
  go_wp2_with fail
  refine (acyclic_no n a _ h hy).mono ?_
  rintro e w1 ⟨rfl, hb1⟩
  have hz1 : w.heap.size + 1 ≤ w1.heap.size := by have := hb1.size; simpa using this
  have hA1 : RelB w1 w.heap.size n a := Lies.below (Lies.new w _ _) hb1 (by rw [World.size_alloc]; omega)
  have hw1 : Below w.heap.size w w1 := ((Below.refl _ _).alloc (Nat.le_refl _) _).trans (hb1.mono (by simp))
  have HH := Lib.hid (And.intro hA1 (And.intro hw1 hz1))
  clear hb1 hA1 hw1 hz1
  go_wp2_with fail
  refine (reverse_any n (clo n a) _ hle hcl).mono ?_
  rintro e w2 ⟨rfl, hb2⟩
  obtain ⟨hA1, hw1, hz1⟩ := HH.out
  have hz2 : w1.heap.size + 1 ≤ w2.heap.size := by have := hb2.size; simpa using this
  have hA2 : RelB w2 w.heap.size n a := Lies.below (Lies.alloc hA1 _) hb2 (by simp; omega)
  have hw2 : Below w.heap.size w w2 := (hw1.alloc (by omega) _).trans (hb2.mono (by simp; omega))
  have HH2 := Lib.hid (And.intro hA2 hw2)
  clear hb2 hA1 hw1 HH hA2 hw2 hz1 hz2
  go_wp2_with fail
  refine (longest_any n (rev n (clo n a)) _ hle (fun i _ => rev_lt hle (clo n a) i) HS.out.turn.irr).mono ?_
  rintro e w3 ⟨rfl, hb3⟩
  have hA3 : RelB w3 w.heap.size n a := Lies.below HH2.out.1 hb3 HH2.out.1.lt
  have hw3 : Below w.heap.size w w3 := HH2.out.2.trans (hb3.mono HH2.out.2.size)
  have hsz := hA3.size
  have hlt := hA3.lt
  have hmk := fun W : World => made_ints n (n : Int) rfl (by omega) W
  have HH3 := Lib.hid (And.intro hA3 hw3)
  clear hb3 HH2 hA3 hw3
  go_wp2_with fail
  have h4 : KRel w w3.heap.size (w3.heap.size + 1) n a (rnd (rev n (clo n a)) n n) (firstK (fun i => ((rnd (rev n (clo n a)) n n i : Nat) : Int) - 1) 0) ((w3.alloc (.cells (lenCs (rnd (rev n (clo n a)) n n)) 55)).alloc (.cells (tabCs n fun _ => 0) 3)) := by
    have h1 : LenB (w3.alloc (.cells (lenCs (rnd (rev n (clo n a)) n n)) 55)) w3.heap.size (rnd (rev n (clo n a)) n n) := Lies.new _ _ _
    have h2 := Lies.new (w3.alloc (.cells (lenCs (rnd (rev n (clo n a)) n n)) 55)) 3 (tabCs n fun _ => 0)
    rw [World.size_alloc] at h2
    have hz := HH3.out.2.size
    exact ⟨(HH3.out.2.alloc hz _).alloc (by simp; omega) _, Lies.alloc (Lies.alloc HH3.out.1 _) _, Lies.alloc h1 _, by rw [firstK_zero]; exact h2, by omega, by omega⟩
  change Code.wp _ _ _ _ ((w3.alloc (.cells (lenCs (rnd (rev n (clo n a)) n n)) 55)).alloc (.cells (tabCs n fun _ => 0) 3))
  generalize (w3.alloc (.cells (lenCs (rnd (rev n (clo n a)) n n)) 55)).alloc (.cells (tabCs n fun _ => 0) 3) = W at h4 ⊢
  generalize w3.heap.size + 1 = M at h4 ⊢
  generalize w3.heap.size = L at h4 ⊢
  clear HH3 hsz hlt hmk
  have hbd := fun i => rnd_bound (c := rev n (clo n a)) (n := n) n i
  have hbB : ∀ i, rnd (rev n (clo n a)) n n i ≤ 2000 := fun i => by
    have h1 := hbd i
    have h2 : n * (n * (n + 1)) ≤ 12 * (12 * 13) := Nat.mul_le_mul hle (Nat.mul_le_mul hle (by omega))
    omega
  have hlen : listed n (firstK (fun i => ((rnd (rev n (clo n a)) n n i : Nat) : Int) - 1) n) = listed n (rankOf n (clo n a)) := listed_congr fun i hi => by
    unfold firstK rankOf
    rw [if_pos hi]
    show ((rnd (rev n (clo n a)) n n i : Nat) : Int) - 1 = _
    rw [rnd_len HS.out.turn hi]
  have HL := Lib.hid hlen
  clear hlen hbd
  generalize rnd (rev n (clo n a)) n n = f at h4 hbB HL ⊢
  have HB := Lib.hid hbB
  clear hbB
  go_loopw [25] (fun i wr => ∃ k : Nat, k ≤ n ∧ i = .int .i64 k ∧ KRel w L M n a f (firstK (fun i => ((f i : Nat) : Int) - 1) k) wr) (fun i _ => n - (intOf i).toNat)
  case atStart => exact ⟨0, by omega, rfl, h4⟩
  case round =>
    clear h4
    obtain ⟨k, hk, rfl, hR⟩ := hrel
    by_cases hkn : k < n
    · have hk12 : k < 12 := by omega
      have fk := hR.len.at_ hk12
      have mk := hR.out.cell hkn
      have mf := hR.out.free k
      have hbk := HB.out k
      have h1 := hR.set_ k (((f k : Nat) : Int) - 1)
      rw [show upd (firstK (fun i => ((f i : Nat) : Int) - 1) k) k (((f k : Nat) : Int) - 1) = firstK (fun i => ((f i : Nat) : Int) - 1) (k + 1) from (firstK_succ _ k).symm] at h1
      have H := Lib.hid h1
      clear hR h1
      go_wp2_with fail
      go_roundw
      case rel => exact ⟨k + 1, by omega, by go_num, H.out⟩
      case measure => simp [intOf]; omega
    · have hkn' : k = n := by omega
      subst hkn'
      have H := Lib.hid hR
      clear hR
      go_wp2_with fail
      go_ret2
      refine ⟨_, rfl, ?_, H.out.below⟩
      rw [← HL.out]
      exact IOwn.whole H.out.out (by have := H.out.mw; omega) (by omega)
end Go.Proofs.YtkfijolimoehmaaDoor
