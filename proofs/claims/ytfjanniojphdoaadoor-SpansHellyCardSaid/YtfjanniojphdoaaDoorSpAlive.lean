/-
  alibkeep.spansLives answers true.
-/
import Derived.Test.YtfjanniojphdoaaDoorSpLives
namespace Go.Proofs.YtfjanniojphdoaaDoor
open Go.RowKit
set_option maxRecDepth 20000

/-- The relation lies in block R, the slice v holds what was made; old memory is as it was. -/
structure LvR (w0 : World) (R : Nat) (a : Nat → Nat) (v : Value) (w : World) : Prop where
  below : Below w0.heap.size w0 w
  rel : RelB w R (3 : Nat) a
  made : SRd w w.heap.size v 3 (fun i => (frOf 3 a i : Int)) (fun i => (toOf 3 a i : Int))
theorem LvR.next {w0 w w' : World} {R : Nat} {a : Nat → Nat} {v : Value} (h : LvR w0 R a v w) (hb : Below w.heap.size w w') : LvR w0 R a v w' :=
  ⟨h.below.trans (hb.mono h.below.size), Lies.below h.rel hb h.rel.lt, (h.made.below hb).mono hb.size⟩
theorem LvR.alloc {w0 w : World} {R : Nat} {a : Nat → Nat} {v : Value} (h : LvR w0 R a v w) (o : Obj) : LvR w0 R a v (w.alloc o) := h.next ((Below.refl _ _).alloc (Nat.le_refl _) o)

theorem IRd.drew1 {w : World} {B : Nat} {v : Value} {xs : List Int} (h : IRd w B v xs) : IRd w.drew B v xs := h.below (Below.refl _ _).drew
theorem relV_congr {n : Int} {a b : Nat → Nat} (h : ∀ i, i < 12 → a i = b i) : relV n a = relV n b := by
  unfold relV
  rw [h 0 (by decide), h 1 (by decide), h 2 (by decide), h 3 (by decide), h 4 (by decide), h 5 (by decide), h 6 (by decide), h 7 (by decide), h 8 (by decide), h 9 (by decide), h 10 (by decide), h 11 (by decide)]
theorem rel3_any (g cap : Nat) (w : World) (hg : g < w.heap.size) (h0 : w.cell? ⟨g, 0, none⟩ = some (.int .i64 0)) (h1 : w.cell? ⟨g, 1, none⟩ = some (.int .i64 2)) :
    Calls Tryd.prog 42 #[.int .i64 3, .slice (some ⟨g, 0, none⟩) 1 cap] w fun e w' => e = .returned (relV (3 : Nat) (spRel 3 lvF lvT)) ∧ Below w.heap.size w w' := by
  rw [relV_congr lv_rel]
  refine prel_any 3 g 1 cap (fun _ => 0) (fun _ => 2) w (by decide) (by decide) hg (fun k hk => ?_) (by omega)
  obtain rfl : k = 0 := by omega
  exact ⟨h0, h1⟩

set_option maxHeartbeats 4000000 in
theorem slives_true (w : World) :
    Calls Tryd.prog 28 #[] w fun e w' => e = .returned (.bool true) ∧ Below w.heap.size w w' := by
  go_enter Tryd.func28, Tryd.ntmps28
  go_wp2_with fail
  have hS0 : SRd (w.alloc (.cells #[.int .i64 0, .int .i64 2, .int .i64 1, .int .i64 3, .int .i64 3, .int .i64 4] 54)) (w.heap.size + 1) (.slice (some ⟨w.heap.size, 0, none⟩) 3 3) 3 lvF lvT := by
    have hl := Lies.new w 54 #[.int .i64 0, .int .i64 2, .int .i64 1, .int .i64 3, .int .i64 3, .int .i64 4]
    refine ⟨_, 3, rfl, fun _ => ⟨w.heap.size, 0, rfl, by omega, fun j hj => ?_⟩⟩
    have hj3 : j = 0 ∨ j = 1 ∨ j = 2 := by omega
    rcases hj3 with rfl | rfl | rfl
    · exact ⟨Lies.cell hl 0, Lies.cell hl 1⟩
    · exact ⟨Lies.cell hl 2, Lies.cell hl 3⟩
    · exact ⟨Lies.cell hl 4, Lies.cell hl 5⟩
  have hW0 : Below w.heap.size w (w.alloc (.cells #[.int .i64 0, .int .i64 2, .int .i64 1, .int .i64 3, .int .i64 3, .int .i64 4] 54)) := (Below.refl _ _).alloc (Nat.le_refl _) _
  have hsz : w.heap.size + 1 ≤ (w.alloc (.cells #[.int .i64 0, .int .i64 2, .int .i64 1, .int .i64 3, .int .i64 3, .int .i64 4] 54)).heap.size := by simp
  generalize w.alloc (.cells #[.int .i64 0, .int .i64 2, .int .i64 1, .int .i64 3, .int .i64 3, .int .i64 4] 54) = W0 at hS0 hW0 hsz ⊢
  generalize (.slice (some ⟨w.heap.size, 0, none⟩) 3 3 : Value) = v0 at hS0 ⊢
  refine (of_ok hS0 hsz lv_err).mono ?_
  rintro e w1 ⟨rfl, hb1⟩
  have hS1 := hS0.below (hb1.mono hsz)
  have hw1 := hW0.trans (hb1.mono hW0.size)
  obtain ⟨a, ha⟩ : ∃ a, a = spRel 3 lvF lvT := ⟨_, rfl⟩
  rw [← ha]
  have HA := Lib.hid ha
  have hsz1 := Nat.le_trans hsz hb1.size
  have H1 := Lib.hid (And.intro hw1 (And.intro hS1 hsz1))
  clear ha hS0 hW0 hsz hb1 hS1 hw1 hsz1
  go_wp2_with fail
  obtain ⟨R, hR⟩ : ∃ R, R = w1.heap.size := ⟨_, rfl⟩
  have hl : RelB (w1.alloc (.cells (relCs (3 : Nat) a) 25)) R (3 : Nat) a := by rw [hR]; exact Lies.new _ _ _
  have hw2 := H1.out.1.alloc H1.out.1.size (.cells (relCs (3 : Nat) a) 25)
  have hS2 := H1.out.2.1.below ((Below.refl _ w1).alloc H1.out.2.2 (.cells (relCs (3 : Nat) a) 25))
  have hsz2 : w.heap.size + 1 ≤ (w1.alloc (.cells (relCs (3 : Nat) a) 25)).heap.size := by have := H1.out.2.2; simp; omega
  rw [← hR]
  clear hR H1
  change Calls _ _ _ (w1.alloc (.cells (relCs (3 : Nat) a) 25)) _
  generalize w1.alloc (.cells (relCs (3 : Nat) a) 25) = W1 at hl hw2 hS2 hsz2 ⊢
  have H2 := Lib.hid (And.intro hw2 (And.intro hl (And.intro hS2 hsz2)))
  clear hl hw2 hS2 hsz2
  refine (mk_ok 3 a W1 (by rw [HA.out]; exact spRel_good (by omega)) (by rw [HA.out]; exact lv_chain)).mono ?_
  rintro e w3 ⟨v, rfl, hb3, hS3, -, -⟩
  have hL : LvR w R a v w3 := ⟨H2.out.1.trans (hb3.mono H2.out.1.size), Lies.below H2.out.2.1 hb3 H2.out.2.1.lt, hS3⟩
  have hS4 := H2.out.2.2.1.below (hb3.mono H2.out.2.2.2)
  have hsz4 := Nat.le_trans H2.out.2.2.2 hb3.size
  have H3 := Lib.hid (And.intro hL (And.intro hS4 hsz4))
  clear hb3 hS3 hL hS4 hsz4 H2
  go_wp2_with fail
  refine (meets_ok H3.out.2.1 H3.out.2.2 lv_err).mono ?_
  rintro e w4 ⟨rfl, hb4⟩
  rw [lv_best]
  have H4 := Lib.hid (H3.out.1.next hb4)
  clear hb4 H3
  go_wp2_with fail
  have hl2 := Lies.new w4 72 #[.int .i64 0, .int .i64 1, .int .i64 2, .int .i64 3]
  refine (prel_any 4 w4.heap.size 2 2 twoX twoY _ (by decide) (by decide) (by simp) (fun k hk => ?_) (by omega)).mono ?_
  · have hk2 : k = 0 ∨ k = 1 := by omega
    rcases hk2 with rfl | rfl
    · exact ⟨Lies.cell hl2 0, Lies.cell hl2 1⟩
    · exact ⟨Lies.cell hl2 2, Lies.cell hl2 3⟩
  rintro e w5 ⟨rfl, hb5⟩
  have H5 := Lib.hid ((H4.out.alloc (.cells #[.int .i64 0, .int .i64 1, .int .i64 2, .int .i64 3] 72)).next hb5)
  clear hb5 hl2 H4
  obtain ⟨b, hb⟩ : ∃ b, b = pairsUp twoX twoY 2 := ⟨_, rfl⟩
  rw [← hb]
  have HBB := Lib.hid hb
  clear hb
  go_wp2_with fail
  refine (mk_no 4 b w5 (by rw [HBB.out]; exact two_pairs) (by rw [HBB.out]; exact two_no)).mono ?_
  rintro e w6 ⟨rfl, hb6⟩
  have H6 := Lib.hid (H5.out.next hb6)
  clear hb6 H5
  obtain ⟨A, c, rfl⟩ := H6.out.made.is
  obtain ⟨g, o, rfl, hg⟩ := H6.out.made.addr (by omega)
  clear hg
  go_wp2_with fail
  have hF : ∀ w', LvR w R a (.slice (some ⟨g, o, none⟩) 3 c) w' → (w'.cell? ⟨R, 0, none⟩ = some (.int .i64 3) ∧ w'.cell? ⟨R, 1, none⟩ = some (.int .u16 (a 0 : Nat)) ∧ w'.cell? ⟨R, 2, none⟩ = some (.int .u16 (a 1 : Nat)) ∧ w'.cell? ⟨R, 3, none⟩ = some (.int .u16 (a 2 : Nat)) ∧ w'.cell? ⟨R, 4, none⟩ = some (.int .u16 (a 3 : Nat)) ∧ w'.cell? ⟨R, 5, none⟩ = some (.int .u16 (a 4 : Nat)) ∧ w'.cell? ⟨R, 6, none⟩ = some (.int .u16 (a 5 : Nat)) ∧ w'.cell? ⟨R, 7, none⟩ = some (.int .u16 (a 6 : Nat)) ∧ w'.cell? ⟨R, 8, none⟩ = some (.int .u16 (a 7 : Nat)) ∧ w'.cell? ⟨R, 9, none⟩ = some (.int .u16 (a 8 : Nat)) ∧ w'.cell? ⟨R, 10, none⟩ = some (.int .u16 (a 9 : Nat)) ∧ w'.cell? ⟨R, 11, none⟩ = some (.int .u16 (a 10 : Nat)) ∧ w'.cell? ⟨R, 12, none⟩ = some (.int .u16 (a 11 : Nat)) ∧ w'.cell? ⟨g, o + 2, none⟩ = some (.int .i64 0) ∧ w'.cell? ⟨g, o + 2 + 1, none⟩ = some (.int .i64 1) ∧ LvR w R a (.slice (some ⟨g, o, none⟩) 3 c) w') := fun w' h => by
    obtain ⟨q1, q2, q3, q4, q5, q6, q7, q8, q9, q10, q11, q12⟩ := h.rel.rows
    have z := h.made.cells (j := 1) (by omega)
    have e1 : frOf 3 a 1 = 0 := by rw [HA.out]; exact lv_from
    have e2 : toOf 3 a 1 = 1 := by rw [HA.out]; exact lv_to
    rw [e1, e2] at z
    exact ⟨h.rel.size, q1, q2, q3, q4, q5, q6, q7, q8, q9, q10, q11, q12, z.1, z.2, h⟩
  have HK := Lib.hid hF
  have hq := fun W => rows_same (a 0 : Nat) (a 1 : Nat) (a 2 : Nat) (a 3 : Nat) (a 4 : Nat) (a 5 : Nat) (a 6 : Nat) (a 7 : Nat) (a 8 : Nat) (a 9 : Nat) (a 10 : Nat) (a 11 : Nat) W
  have HR := H6
  clear hF H6
  have HE := Lib.hid (fun (W : World) => (IRd.fresh W 26 [0, 0, 0] 3 rfl #[.int .i64 0, .int .i64 0, .int .i64 0] rfl))
  have HD := Lib.hid ((HR.out.alloc (.cells #[.int .i64 0, .int .i64 0, .int .i64 0] 26)).next (Below.refl _ _).drew)
  have HD2 := Lib.hid (((HR.out.alloc (.cells #[.int .i64 0, .int .i64 0, .int .i64 0] 26)).alloc (.cells #[.int .i64 0, .int .i64 2] 72)).next (Below.refl _ _).drew)
  have hL := (Lies.new (w6.alloc (.cells #[.int .i64 0, .int .i64 0, .int .i64 0] 26)) 72 #[.int .i64 0, .int .i64 2]).drew
  rw [World.size_alloc] at hL
  have HREL := Lib.hid (rel3_any (w6.heap.size + 1) 1 _ hL.lt (Lies.cell hL 0) (Lies.cell hL 1))
  rw [← HA.out] at HREL
  clear hL
  have hN := Lib.hid (HR.out.next (Below.refl _ _).drew)
  go_region_held3 (fun w' => w'.cell? ⟨R, 0, none⟩ = some (.int .i64 3) ∧ w'.cell? ⟨R, 1, none⟩ = some (.int .u16 (a 0 : Nat)) ∧ w'.cell? ⟨R, 2, none⟩ = some (.int .u16 (a 1 : Nat)) ∧ w'.cell? ⟨R, 3, none⟩ = some (.int .u16 (a 2 : Nat)) ∧ w'.cell? ⟨R, 4, none⟩ = some (.int .u16 (a 3 : Nat)) ∧ w'.cell? ⟨R, 5, none⟩ = some (.int .u16 (a 4 : Nat)) ∧ w'.cell? ⟨R, 6, none⟩ = some (.int .u16 (a 5 : Nat)) ∧ w'.cell? ⟨R, 7, none⟩ = some (.int .u16 (a 6 : Nat)) ∧ w'.cell? ⟨R, 8, none⟩ = some (.int .u16 (a 7 : Nat)) ∧ w'.cell? ⟨R, 9, none⟩ = some (.int .u16 (a 8 : Nat)) ∧ w'.cell? ⟨R, 10, none⟩ = some (.int .u16 (a 9 : Nat)) ∧ w'.cell? ⟨R, 11, none⟩ = some (.int .u16 (a 10 : Nat)) ∧ w'.cell? ⟨R, 12, none⟩ = some (.int .u16 (a 11 : Nat)) ∧ w'.cell? ⟨g, o + 2, none⟩ = some (.int .i64 0) ∧ w'.cell? ⟨g, o + 2 + 1, none⟩ = some (.int .i64 1) ∧ LvR w R a (.slice (some ⟨g, o, none⟩) 3 c) w') ((refine HK.out _ ?_; first | exact HR.out | exact HD.out | exact HD2.out | exact hN.out)) (first
    | (go_at_call 25; refine (ok_zero (IRd.drew1 (HE.out _)) (by decide) (by decide)).mono ?_; rintro e w' ⟨rfl, rfl⟩)
    | (go_at_call 42; refine HREL.out.mono ?_; rintro e w' ⟨rfl, hb'⟩; have hN := Lib.hid (HD2.out.next hb'); clear hb'))
  go_wp2_with fail
  go_ret
  exact ⟨rfl, hN.out.below⟩
end Go.Proofs.YtfjanniojphdoaaDoor
