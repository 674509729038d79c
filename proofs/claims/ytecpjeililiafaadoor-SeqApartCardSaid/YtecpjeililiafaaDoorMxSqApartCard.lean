/-
  Joined by a program out of: Crossed, BTab, Bools, LGrpPure, LGroup, Part, LLeast, LocalPure, PartCalls, PartRite, LParts, LOpen, SqApartW, SqApartCard.
-/
import Derived.Test.YtecpjeililiafaaDoorMgBS
import Derived.Test.YtecpjeililiafaaDoorMgAA
import Derived.Deep.AppendLies
import Derived.Test.YtecpjeililiafaaDoorMgAB
import Derived.Test.YtecpjeililiafaaDoorMgBQ
import Derived.Maps.GroupsBeside
import Derived.Test.YtecpjeililiafaaDoorMgAD
import Derived.Test.YtecpjeililiafaaDoorMgAH
import Derived.Test.YtecpjeililiafaaDoorMgBG
import Derived.Test.YtecpjeililiafaaDoorMgBC
import Derived.Deep.Cut
import Derived.Deep.RegionHeld3
import Derived.Test.YtecpjeililiafaaDoorMgAI
import Derived.Test.YtecpjeililiafaaDoorMgBB
import Derived.Test.YtecpjeililiafaaDoorMgAY
import Derived.Test.YtecpjeililiafaaDoorMgAW
import Derived.Test.YtecpjeililiafaaDoorMgBA
import Derived.Maps.RangeWalk
import Derived.Test.YtecpjeililiafaaDoorMgAX
import Derived.Test.YtecpjeililiafaaDoorTie
import Derived.Test.YtecpjeililiafaaDoorCards
import Derived.SevenTiedAt
import Derived.Stop.Joined

/-
  alibkeep.crossed: what it tells.
-/
namespace Go.Proofs.YtecpjeililiafaaDoor
open Go.RowKit
set_option maxRecDepth 20000

theorem EOwn.far {w : World} {P : Nat} {v u : Value} {l : List Ev} {j : Nat} (h : EOwn w (P + 1) v l) : EOwn (w.setCell ⟨P, j, none⟩ u) (P + 1) v l := by
  refine ⟨h.1, h.2.imp id fun ⟨g, cap, cur, h1, h2, h3, h4⟩ => ⟨g, cap, cur, h1, h2, Lies.far h3 (by show g ≠ P; omega) _, h4⟩⟩
theorem crossF_any {P : Nat} {v : Value} {l : List Ev} {w : World} (a b c d r : Int) (hP : Lies w P 23 #[v]) (ho : EOwn w (P + 1) v l) (hlen : l.length ≤ 1000) :
    Calls Tryd.prog 86 #[.int .i64 a, .int .i64 b, .int .i64 c, .int .i64 d, .int .i64 r, .pointer (some ⟨P, 0, none⟩)] w fun e w' => e = .returned (.tuple #[]) ∧ ∃ v', Lies w' P 23 #[v'] ∧ EOwn w' (P + 1) v' (l ++ [⟨a, b, c, d⟩, ⟨a, b, 0, r⟩]) ∧ Below P w w' := by
  have c0 : w.cell? ⟨P, 0, none⟩ = some v := Lies.cell hP 0
  obtain ⟨A, cp, rfl⟩ := own_sliceE ho
  obtain ⟨n, hn⟩ : ∃ n, n = l.length := ⟨_, rfl⟩
  have HO := Lib.hid (And.intro ho hP)
  have HL := Lib.hid (And.intro hlen hn)
  rw [← hn] at c0 HO
  clear hP ho hlen hn
  go_enter Tryd.func86, Tryd.ntmps86
  go_wp2_with (at_builtin; refine wpList_app_two rfl (.tmp 11) (.tmp 21) rfl (P + 1) (w.heap.size + 1) w.heap.size _ _ ⟨a, b, c, d⟩ ⟨a, b, 0, r⟩ rfl rfl (HO.out.1.alloc _) (twoE w a b c d a b 0 r) (by have := HL.out.1; omega) (by have := HO.out.2.lt; simp; omega) ?_; intro v1 z1 ho1 hb1; obtain ⟨A1, cp1, rfl⟩ := own_sliceE ho1; have hP1 : Lies z1 P 23 #[.slice A n cp] := (Lies.alloc HO.out.2 _).keep (hb1.block P (Nat.lt_succ_self P)); have f1 : z1.frozen? ⟨P, 0, none⟩ = false := Lies.frozen hP1 0; have c1 : z1.cell? ⟨P, 0, none⟩ = some (.slice A n cp) := Lies.cell hP1 0)
  have hlt : P ≤ w.heap.size := Nat.le_of_lt HO.out.2.lt
  have HX := Lib.hid (And.intro ho1 (And.intro hP1 ((Below.refl P w).alloc hlt _ |>.trans (hb1.mono (Nat.le_succ P)))))
  clear ho1 hP1 hb1
  go_end0
  exact ⟨rfl, _, Lies.cast (Lies.set_ HX.out.2.1 0 _) (by simp), HX.out.1.far, HX.out.2.2.setCell (p := ⟨P, 0, none⟩) (Nat.le_refl _) _⟩
/-- What the two do. -/
def crossL : List Ev := [⟨0, 0, 3, 1⟩, ⟨0, 0, 0, 0⟩, ⟨1, 1, 3, 2⟩, ⟨1, 1, 0, 0⟩, ⟨0, 1, 3, 1⟩, ⟨0, 1, 0, 0⟩, ⟨1, 0, 3, 2⟩, ⟨1, 0, 0, 0⟩, ⟨0, 0, 4, 0⟩, ⟨0, 0, 0, 2⟩, ⟨1, 1, 4, 0⟩, ⟨1, 1, 0, 1⟩]
set_option maxHeartbeats 2000000 in
theorem crossed_any (w : World) : Calls Tryd.prog 57 #[] w fun e w' => ∃ v, e = .returned v ∧ EOwn w' w.heap.size v crossL ∧ Below w.heap.size w w' := by
  have h0 : Lies (w.alloc (.cells #[.slice none 0 0] 23)) w.heap.size 23 #[.slice none 0 0] := Lies.new _ _ _
  have hb0 : Below w.heap.size w (w.alloc (.cells #[.slice none 0 0] 23)) := (Below.refl _ _).alloc (Nat.le_refl _) _
  have HF1 := Lib.hid (crossF_any (l := []) 0 0 3 1 0 h0 (EOwn.nil _ _) (by simp))
  have HB0 := Lib.hid hb0
  clear h0 hb0
  go_enter Tryd.func57, Tryd.ntmps57
  go_wp2_with fail
  refine HF1.out.mono ?_
  rintro e w1 ⟨rfl, v1, hL, hO, hb⟩
  have HB1 := Lib.hid (HB0.out.trans hb)
  have HF2 := Lib.hid (crossF_any 1 1 3 2 0 hL hO (by simp))
  clear hL hO hb HF1
  go_wp2_with fail
  refine HF2.out.mono ?_
  rintro e w2 ⟨rfl, v2, hL, hO, hb⟩
  have HB2 := Lib.hid (HB1.out.trans hb)
  have HF3 := Lib.hid (crossF_any 0 1 3 1 0 hL hO (by simp))
  clear hL hO hb HF2
  go_wp2_with fail
  refine HF3.out.mono ?_
  rintro e w3 ⟨rfl, v3, hL, hO, hb⟩
  have HB3 := Lib.hid (HB2.out.trans hb)
  have HF4 := Lib.hid (crossF_any 1 0 3 2 0 hL hO (by simp))
  clear hL hO hb HF3
  go_wp2_with fail
  refine HF4.out.mono ?_
  rintro e w4 ⟨rfl, v4, hL, hO, hb⟩
  have HB4 := Lib.hid (HB3.out.trans hb)
  have HF5 := Lib.hid (crossF_any 0 0 4 0 2 hL hO (by simp))
  clear hL hO hb HF4
  go_wp2_with fail
  refine HF5.out.mono ?_
  rintro e w5 ⟨rfl, v5, hL, hO, hb⟩
  have HB5 := Lib.hid (HB4.out.trans hb)
  have HF6 := Lib.hid (crossF_any 1 1 4 0 1 hL hO (by simp))
  clear hL hO hb HF5
  go_wp2_with fail
  refine HF6.out.mono ?_
  rintro e w6 ⟨rfl, v6, hL, hO, hb⟩
  have HB6 := Lib.hid (HB5.out.trans hb)
  have c0 : w6.cell? ⟨w.heap.size, 0, none⟩ = some v6 := Lies.cell hL 0
  obtain ⟨A, cp, rfl⟩ := own_sliceE hO
  have HO := Lib.hid hO
  clear hL hO hb HF6
  go_wp2_with fail
  go_ret
  refine ⟨_, rfl, ⟨HO.out.1, HO.out.2.imp id fun ⟨g, cap, cur, h1, h2, h3⟩ => ⟨g, cap, cur, h1, by omega, h3⟩⟩, HB6.out⟩
end Go.Proofs.YtecpjeililiafaaDoor

/-
  Tables of truths.
-/
namespace Go.Proofs.YtecpjeililiafaaDoor
open Go.RowKit
set_option maxRecDepth 20000

/-- The cells of a table of N truths. -/
def bitCs (N : Nat) (S : Nat → Bool) : Array Value := (Array.range N).map fun i => .bool (S i)
def BTab (w : World) (g N : Nat) (S : Nat → Bool) : Prop := Lies w g 4 (bitCs N S)
theorem bitCs_get (N : Nat) (S : Nat → Bool) (i : Nat) (h : i < N) : (bitCs N S)[i]? = some (.bool (S i)) := by
  simp [bitCs, h]
theorem bitCs_set (N : Nat) (S : Nat → Bool) (i : Nat) (x : Bool) : (bitCs N S).setIfInBounds i (.bool x) = bitCs N (fun j => if j = i then x else S j) := by
  apply Array.ext_getElem?
  intro j
  rw [Array.getElem?_setIfInBounds]
  by_cases h : i = j
  · subst h
    by_cases hi : i < N <;> simp [bitCs, hi]
  · rw [if_neg h]
    by_cases hj : j < N <;> simp [bitCs, hj, show ¬ j = i from fun e => h e.symm]
theorem BTab.cell {w : World} {g N : Nat} {S : Nat → Bool} (h : BTab w g N S) {i : Nat} (hi : i < N) : w.cell? ⟨g, i, none⟩ = some (.bool (S i)) := by
  rw [Lies.cell h, bitCs_get N S i hi]
theorem BTab.set_ {w : World} {g N : Nat} {S : Nat → Bool} (h : BTab w g N S) (i : Nat) (x : Bool) : BTab (w.setCell ⟨g, i, none⟩ (.bool x)) g N (fun j => if j = i then x else S j) :=
  Lies.cast (Lies.set_ h i (.bool x)) (bitCs_set N S i x)

theorem info_bool : (Tryd.prog.info? 4).map (fun i => (i.zero, i.size, i.bytes)) = some (some (.bool false), 1, 1) := by kernel_rfl
theorem made_bools (N : Nat) (l : Int) (hl : l = N) (hN : N ≤ 65536) (w : World) :
    (Instr.makeSlice 44 (.int .i64 l) (.int .i64 l)).run Tryd.prog w = .ok (.slice (some ⟨w.heap.size, 0, none⟩) N N) (w.alloc (.cells (bitCs N fun _ => false) 4)) := by
  obtain ⟨i0, hi, hz0, hz1, hz2⟩ := info_parts info_bool
  subst hl
  rw [run_make w 44 4 i0 (.bool false) Tryd.underlying44 hi hz0 .i64 .i64 N N (by omega) (by omega) (by rw [hz2]; omega) (by omega), hz1]
  simp only [Int.toNat_natCast, Nat.mul_one]
  congr 3
  apply Array.ext
  · simp [bitCs, madeCells]
  · intro j h1 h2
    simp [bitCs, madeCells, Value.cells, Nat.mod_one]

end Go.Proofs.YtecpjeililiafaaDoor

/-
  Rows of truths: slices.Equal, slices.Contains.
-/
namespace Go.Proofs.YtecpjeililiafaaDoor
open Go.RowKit
set_option maxRecDepth 20000

abbrev blCs (b : Bool) : List Value := [.bool b]
abbrev BlRd (w : World) (B : Nat) (v : Value) (l : List Bool) : Prop := LRd 1 blCs w B v l
theorem LRd.bl {w : World} {B n cap : Nat} {A : Option Addr} {l : List Bool} (h : BlRd w B (.slice A n cap) l) {k : Nat} {x : Bool} (hk : l[k]? = some x) : ∃ g o, A = some ⟨g, o, none⟩ ∧ g < B ∧ w.cell? ⟨g, o + k, none⟩ = some (.bool x) := by
  obtain ⟨g, o, hA, hg, hc⟩ := h.at_ hk
  refine ⟨g, o, hA, hg, ?_⟩
  have := hc 0 _ rfl
  simpa using this
theorem BTab.rd {w : World} {g N : Nat} {S : Nat → Bool} (h : BTab w g N S) (hN : N ≤ 1000) : BlRd w w.heap.size (.slice (some ⟨g, 0, none⟩) N N) ((List.range N).map S) := by
  refine ⟨some ⟨g, 0, none⟩, N, by rw [List.length_map, List.length_range], by simp, by unfold maxLen; omega, fun _ => ⟨g, 0, rfl, h.lt, fun k x hx j u hu => ?_⟩⟩
  have hk : k < N := by
    have := (List.getElem?_eq_some_iff.1 hx).1
    simpa using this
  rw [List.getElem?_map, List.getElem?_range hk] at hx
  injection hx with hx
  subst hx
  match j, hu with
  | 0, hu =>
    injection hu with hu
    subst hu
    have := h.cell hk
    simpa using this
set_option maxHeartbeats 2000000 in
theorem eqBl_any {B1 B2 : Nat} {v1 v2 : Value} {xs ys : List Bool} {w : World} (h1 : BlRd w B1 v1 xs) (h2 : BlRd w B2 v2 ys) :
    Calls Tryd.prog 59 #[v1, v2] w fun e w' => e = .returned (.bool (decide (xs = ys))) ∧ Below w.heap.size w w' := by
  obtain ⟨A1, c1, rfl, m1, m2⟩ := h1.is
  obtain ⟨A2, c2, rfl, m3, m4⟩ := h2.is
  unfold maxLen at m2 m4
  have H1 := Lib.hid h1
  have H2 := Lib.hid h2
  clear h1 h2
  obtain ⟨n, hn⟩ : ∃ n, n = xs.length := ⟨_, rfl⟩
  obtain ⟨n', hn'⟩ : ∃ n, n = ys.length := ⟨_, rfl⟩
  rw [← hn, ← hn']
  rw [← hn] at m1
  rw [← hn'] at m3
  have HN := Lib.hid hn
  have HN' := Lib.hid hn'
  clear hn hn'
  by_cases hl : n = n'
  · subst hl
    go_enter Tryd.func59, Tryd.ntmps59
    go_wp2_with fail
    go_loopw [13] (fun i wr => ∃ k : Nat, k ≤ n ∧ i = .int .i64 k ∧ (∀ (j : Nat) (x y : Bool), j < k → xs[j]? = some x → ys[j]? = some y → x = y) ∧ ∃ nq, wr = w.drewN nq) (fun i _ => n - (intOf i).toNat)
    case atStart => exact ⟨0, by omega, rfl, fun j x y hj => by omega, 0, rfl⟩
    case round =>
      obtain ⟨k, hk, rfl, ha, nq, rfl⟩ := hrel
      have HA := Lib.hid ha
      clear ha
      by_cases hkn : k < n
      · obtain ⟨x, hx⟩ : ∃ x, xs[k]? = some x := ⟨_, List.getElem?_eq_getElem (by rw [← HN.out]; exact hkn)⟩
        obtain ⟨y, hy⟩ : ∃ y, ys[k]? = some y := ⟨_, List.getElem?_eq_getElem (by rw [← HN'.out]; exact hkn)⟩
        have h1' := H1.out
        have h2' := H2.out
        rw [← HN.out] at h1'
        rw [← HN'.out] at h2'
        obtain ⟨g1, o1, rfl, -, b0⟩ := h1'.bl hx
        obtain ⟨g2, o2, rfl, -, d0⟩ := h2'.bl hy
        have HX := Lib.hid (And.intro hx hy)
        clear h1' h2' hx hy
        have i1 : (0 : Int) ≤ (k : Int) := by omega
        have i2 : (k : Int) < (n : Int) := by omega
        by_cases hxy : x = y
        · have HXY := Lib.hid hxy
          subst hxy
          go_wp2_with fail
          go_quiet (fail)
          go_wp2_with fail
          go_roundw
          case rel => exact ⟨k + 1, by omega, by go_num, fun j a b hj ha hb => by
            rcases Nat.lt_or_ge j k with h | h
            · exact HA.out j a b h ha hb
            · obtain rfl : j = k := by omega
              rw [HX.out.1] at ha
              rw [HX.out.2] at hb
              exact Option.some.inj (ha.symm.trans hb), _, rfl⟩
          case measure => simp [intOf]; omega
        · have hz : (x != y) = true := by rw [bne_iff_ne]; exact hxy
          have HXY := Lib.hid hxy
          clear hxy
          cases x
          · cases y
            · exact absurd rfl HXY.out
            · skip
              go_wp2_with fail
              go_quiet (fail)
              go_wp2_with fail
              go_ret
              exact ⟨ret_bool (decide_eq_false (fun e => HXY.out (by
                  have h1 := HX.out.1
                  rw [e, HX.out.2] at h1
                  exact (Option.some.inj h1).symm))).symm, belowN (belowN (Below.refl _ _) _) _⟩
          · cases y
            · skip
              go_wp2_with fail
              go_quiet (fail)
              go_wp2_with fail
              go_ret
              exact ⟨ret_bool (decide_eq_false (fun e => HXY.out (by
                  have h1 := HX.out.1
                  rw [e, HX.out.2] at h1
                  exact (Option.some.inj h1).symm))).symm, belowN (belowN (Below.refl _ _) _) _⟩
            · exact absurd rfl HXY.out
      · obtain rfl : k = n := by omega
        go_wp2_with fail
        go_ret
        exact ⟨ret_bool (decide_eq_true (ext_eq (HN.out.symm.trans HN'.out) (fun j x y hx hy => HA.out j x y (by rw [HN.out]; exact (List.getElem?_eq_some_iff.1 hx).1) hx hy))).symm, belowN (Below.refl _ _) _⟩
  · have hz : ((n : Int) != (n' : Int)) = true := by rw [bne_iff_ne]; omega
    have hne : decide (xs = ys) = false := decide_eq_false (fun e => hl (by rw [HN.out, HN'.out, e]))
    rw [hne]
    clear hne hl
    go_enter Tryd.func59, Tryd.ntmps59
    go_wp2_with fail
    go_ret
    exact ⟨rfl, Below.refl _ _⟩
set_option maxHeartbeats 1000000 in
theorem indexBl_any {B : Nat} {v : Value} {xs : List Bool} {w : World} (h : BlRd w B v xs) (x : Bool) :
    Calls Tryd.prog 84 #[v, .bool x] w fun e w' => ∃ r : Int, e = .returned (.int .i64 r) ∧ decide (0 ≤ r) = decide (x ∈ xs) ∧ Below w.heap.size w w' := by
  obtain ⟨A, cap, rfl, m1, m2⟩ := h.is
  unfold maxLen at m2
  obtain ⟨L, hL⟩ : ∃ L, L = xs.length := ⟨_, rfl⟩
  have HC := Lib.hid h
  have HLL := Lib.hid hL
  rw [← hL] at m1 ⊢
  clear h hL
  go_enter Tryd.func84, Tryd.ntmps84
  go_wp2_with fail
  go_loopw [8] (fun i wr => ∃ k : Nat, k ≤ L ∧ i = .int .i64 k ∧ (∀ (j : Nat) (y : Bool), j < k → xs[j]? = some y → y ≠ x) ∧ Below w.heap.size w wr) (fun i _ => L - (intOf i).toNat)
  case atStart => exact ⟨0, by omega, rfl, fun j y hj => by omega, Below.refl _ _⟩
  case round =>
    obtain ⟨k, hk, rfl, ha, hb⟩ := hrel
    by_cases hkn : k < L
    · obtain ⟨y, hy⟩ : ∃ y, xs[k]? = some y := ⟨_, List.getElem?_eq_getElem (by rw [← HLL.out]; exact hkn)⟩
      have hr := HC.out
      rw [← HLL.out] at hr
      obtain ⟨g, o, rfl, hg, d0⟩ := hr.bl hy
      have hgw : g < w.heap.size := World.block_lt_of_cell? w ⟨g, o + k, none⟩ d0
      have d1 : wr.cell? ⟨g, o + k, none⟩ = some (.bool y) := (hb.cell (p := ⟨g, o + k, none⟩) hgw).trans d0
      have i1 : (0 : Int) ≤ (k : Int) := by omega
      have i2 : (k : Int) < (L : Int) := by omega
      have HA := Lib.hid (And.intro ha (And.intro hb hy))
      clear ha hb hy hr d0
      by_cases hxy : x = y
      · have hz : (x == y) = true := by rw [beq_iff_eq]; exact hxy
        have HX := Lib.hid hxy
        clear hxy
        go_wp2_with fail
        go_ret
        refine ⟨k, rfl, ?_, HA.out.2.1⟩
        rw [decide_eq_true i1]
        exact (decide_eq_true (by rw [HX.out]; exact List.mem_of_getElem? HA.out.2.2)).symm
      · have hz : (x == y) = false := by rw [beq_eq_false_iff_ne]; exact hxy
        have HX := Lib.hid hxy
        clear hxy
        go_wp2_with fail
        go_roundw
        case rel => exact ⟨k + 1, by omega, by go_num, fun j z hj hz => by
          rcases Nat.lt_or_ge j k with h | h
          · exact HA.out.1 j z h hz
          · obtain rfl : j = k := by omega
            rw [HA.out.2.2] at hz
            injection hz with hz
            subst hz
            exact fun e => HX.out e.symm, HA.out.2.1⟩
        case measure => simp [intOf]; omega
    · obtain rfl : k = L := by omega
      have HA := Lib.hid (And.intro ha hb)
      clear ha hb
      go_wp2_with fail
      go_ret
      refine ⟨-1, rfl, ?_, HA.out.2⟩
      rw [decide_eq_false (show ¬ (0 : Int) ≤ -1 by omega)]
      refine (decide_eq_false fun hm => ?_).symm
      obtain ⟨j, hj, e⟩ := List.getElem_of_mem hm
      exact HA.out.1 j x (by rw [HLL.out]; exact hj) (by rw [List.getElem?_eq_getElem hj, e]) rfl

theorem containsBl_any {B : Nat} {v : Value} {xs : List Bool} {w : World} (h : BlRd w B v xs) (x : Bool) :
    Calls Tryd.prog 55 #[v, .bool x] w fun e w' => e = .returned (.bool (decide (x ∈ xs))) ∧ Below w.heap.size w w' := by
  have hi := indexBl_any h x
  clear h
  go_enter Tryd.func55, Tryd.ntmps55
  go_wp2_with fail
  refine hi.mono ?_
  rintro e w1 ⟨r, rfl, hr, hb⟩
  have HB := Lib.hid (And.intro hb hr)
  clear hi hb hr
  by_cases h0 : (0 : Int) ≤ r
  · go_wp2_with fail
    go_ret
    exact ⟨ret_bool (by rw [← HB.out.2] <;> simp [h0]), HB.out.1⟩
  · go_wp2_with fail
    go_ret
    exact ⟨ret_bool (by rw [← HB.out.2] <;> simp [h0]), HB.out.1⟩
end Go.Proofs.YtecpjeililiafaaDoor

/-
  Plain: the numbers of each thing's calls, as a map's datum.
-/
namespace Go.Proofs.YtecpjeililiafaaDoor
open Go.RowKit Go.Maps Go.MapKept
open Go.ChangeShapes (lits)
set_option maxRecDepth 20000

/-- The numbers of thing q's calls among the first k. -/
def idxK (cs : List Cl) (q : Int) (k : Nat) : List Int := ((List.range k).filter fun i => (cs.getD i default).thing == q).map fun i : Nat => (i : Int)
theorem idxK_succ (cs : List Cl) (q : Int) (k : Nat) : idxK cs q (k + 1) = if (cs.getD k default).thing = q then idxK cs q k ++ [(k : Int)] else idxK cs q k := by
  unfold idxK
  rw [List.range_succ, List.filter_append, List.map_append]
  rw [List.filter_cons, List.filter_nil]
  by_cases h : (cs.getD k default).thing = q
  · rw [if_pos (by rw [beq_iff_eq]; exact h), if_pos h]
    rfl
  · rw [if_neg (by rw [beq_iff_eq]; exact h), if_neg h]
    exact List.append_nil _
theorem lits_inj {H : Type} {q : IntKind} : ∀ {a b : List Int}, lits (H := H) q a = lits q b → a = b
  | [], [], _ => rfl
  | [], y :: b, h => by simp [lits] at h
  | x :: a, [], h => by simp [lits] at h
  | x :: a, y :: b, h => by
    simp only [lits, List.map_cons, List.cons.injEq] at h
    have h1 := h.1
    injection h1 with h1
    injection h1 with h2 h3
    rw [h3, lits_inj (H := H) (q := q) (a := a) (b := b) h.2]
/-- What the map tells behind k calls. -/
def GrpD (cs : List Cl) (k : Nat) (D : DataW Unit) : Prop := IsMap D ∧ ∀ q : Int, D.atKey (.int .i64 q) .nil = if idxK cs q k = [] then .nil else .slice (lits .i64 (idxK cs q k)) []
theorem GrpD.zero (cs : List Cl) : GrpD cs 0 (.map []) := ⟨⟨[], rfl⟩, fun q => by rw [if_pos (show idxK cs q 0 = [] from rfl)]; rfl⟩
/-- What the look-up hands over is what was laid there. -/
theorem GrpD.at_ {cs : List Cl} {k : Nat} {D : DataW Unit} (h : GrpD cs k D) {w : World} {base : Nat} {e : TypeId} {v : Value} {zs : List Int} {q : Int} (hat : D.atKey (.int .i64 q) .nil = rowDatum .i64 v zs) (ho : w.ownsInts base e .i64 v zs) : zs = idxK cs q k := by
  rw [h.2 q] at hat
  rcases ho.datum (H := Unit) with ⟨h1, rfl⟩ | h1
  · rw [h1] at hat
    split at hat
    · rename_i h2; exact h2.symm
    · cases hat
  · rw [h1] at hat
    split at hat
    · cases hat
    · injection hat with h2
      exact (lits_inj h2).symm
theorem GrpD.succ {cs : List Cl} {k : Nat} {D : DataW Unit} (h : GrpD cs k D) {w : World} {base : Nat} {e : TypeId} {v : Value} (ho : w.ownsInts base e .i64 v (idxK cs (cs.getD k default).thing k ++ [(k : Int)])) :
    GrpD cs (k + 1) (D.put (.int .i64 (cs.getD k default).thing) (rowDatum .i64 v (idxK cs (cs.getD k default).thing k ++ [(k : Int)]))) := by
  refine ⟨h.1.put _ _, fun q => ?_⟩
  rw [idxK_succ]
  by_cases e : (cs.getD k default).thing = q
  · subst e
    rw [atKey_put_same (k := .int .i64 (cs.getD k default).thing) h.1 (show WideAt.IsKeyLit (.int .i64 _) from trivial), if_pos rfl, if_neg (by simp), ho.datum_pos (by simp)]
  · rw [if_neg e, atKey_put_other (fun h2 => e (by injection h2 with h3 h4; exact h4.symm)), h.2 q]
end Go.Proofs.YtecpjeililiafaaDoor

/-
  Contract of local.group.
-/
namespace Go.Proofs.YtecpjeililiafaaDoor
open Go.RowKit Go.Maps
set_option maxRecDepth 20000

theorem zero_ints (w : World) : (zeroValue 22).run Tryd.prog w = .ok (.slice none 0 0) w := by kernel_rfl
theorem keyed_int : Keyed Tryd.prog 3 := int_keyed Tryd.underlying3
/-- The record of the call of the round, in a block of its own. -/
def GrS (C : Nat) (th : Int) (W : World) : Prop := ∃ cs, Lies W C 57 cs ∧ cs[1]? = some (.int .i64 th)
theorem GrS.grown {C : Nat} {th : Int} {W W' : World} {row : Option Nat} (h : GrS C th W) (hg : W.grownBy W' row) (hne : row ≠ some C) : GrS C th W' := by
  obtain ⟨cs, h1, h2⟩ := h
  exact ⟨cs, h1.keep (hg.block C h1.lt (Ne.symm hne)), h2⟩
/-- The look-up, and that what it hands over shuns what the groups shun. -/
theorem grp_at {w : World} {base b n : Nat} {D : DataW Unit} (h : w.ownsGroups Tryd.prog 3 base 3 .i64 b n D) (hn : n < maxLen) {th : Int} (hkey : keyOf Tryd.prog 3 (.int .i64 th) = some (.int .i64 th)) :
    ∃ v zs, (Instr.lookup 96 (.map (some b)) (.int .i64 th) false).run Tryd.prog w = .ok v w ∧ D.atKey (.int .i64 th) .nil = rowDatum .i64 v zs ∧ w.ownsInts base 3 .i64 v zs ∧ zs.length ≤ n ∧ w.groupBack Tryd.prog 96 3 base 3 .i64 b n D (.int .i64 th) (.int .i64 th) v ∧
      ∀ No : Nat → Prop, w.Shuns b No → ∀ g, v.ownBlock = some g → ¬ No g := by
  obtain ⟨v, zs, hrun, hat, hoi, hzl, hback⟩ := h.at keyed_int Tryd.underlying96 (zero_ints w) hn hkey
  refine ⟨v, zs, hrun, hat, hoi, hzl, hback, ?_⟩
  obtain ⟨es, clock, hb, F, _⟩ := h
  rcases Maps.fit_look false keyed_int Tryd.underlying96 (zero_ints w) hb F hkey with ⟨h1, _, _⟩ | ⟨e0, y, hm0, _, h1, _, _, _⟩
  · rw [hrun] at h1
    injection h1 with h1 _
    intro _ _ g hg
    rw [show v = .slice none 0 0 by simpa using h1] at hg
    cases hg
  · rw [hrun] at h1
    injection h1 with h1 _
    rw [show v = e0.val by simpa using h1]
    exact fun No hs g hg => hs es clock hb e0 hm0 g hg

set_option maxHeartbeats 4000000 in
theorem lgroup_any {v : Value} {cs : List Cl} {w : World} (h : CRd w w.heap.size v cs) (hm : cs.length ≤ 1000) (hth : ∀ c ∈ cs, 0 ≤ c.thing ∧ c.thing < 1000) :
    Calls Tryd.prog 72 #[v] w fun e w' => e = .returned (.map (some w.heap.size)) ∧ Below w.heap.size w w' ∧ ∃ D, GrpD cs cs.length D ∧ w'.ownsGroups Tryd.prog 3 (w.heap.size + 1) 3 .i64 w.heap.size cs.length D := by
  obtain ⟨A, c, rfl, -, -⟩ := h.is
  have H := Lib.hid h
  obtain ⟨m, hm2⟩ : ∃ m, m = cs.length := ⟨_, rfl⟩
  rw [← hm2] at hm H ⊢
  have HM := Lib.hid hm2
  clear h hm2
  have hmm := @run_makeMap Tryd.prog
  go_enter Tryd.func72, Tryd.ntmps72
  go_wp2_with fail
  clear hmm
  go_loopw [9] (fun i wr => ∃ k : Nat, k ≤ m ∧ i = .int .i64 k ∧ Below w.heap.size w wr ∧ w.heap.size + 1 ≤ wr.heap.size ∧ ∃ D, GrpD cs k D ∧ wr.ownsGroups Tryd.prog 3 (w.heap.size + 1) 3 .i64 w.heap.size k D) (fun i _ => m - (intOf i).toNat)
  case atStart => exact ⟨0, Nat.zero_le _, rfl, (Below.refl _ _).alloc (Nat.le_refl _) _, by simp, _, GrpD.zero cs, World.ownsGroups_made _ _ _ _ _⟩
  case round =>
    obtain ⟨k, hk, rfl, hb, hs, D, hD, hO⟩ := hrel
    by_cases hkm : k < m
    · obtain ⟨x, hx⟩ : ∃ x, cs[k]? = some x := ⟨_, List.getElem?_eq_getElem (by rw [← HM.out]; exact hkm)⟩
      have h' := H.out.below hb
      obtain ⟨g, o, hA, hgl, d0, d1, d2, d3, d4, d5, d6⟩ := h'.cl hx
      subst hA
      have HD := Lib.hid (And.intro hD (And.intro hb (And.intro hs hO)))
      have HX := Lib.hid (show (cs.getD k default).thing = x.thing by rw [List.getD_eq_getElem?_getD, hx]; rfl)
      clear hD hb hs hO h'
      obtain ⟨i0, hi0, hz0, hz1, hz2⟩ := info_parts info_intT
      have HKEY := Lib.hid (show keyOf Tryd.prog 3 (.int .i64 x.thing) = some (.int .i64 x.thing) by
        have hxt := hth x (List.mem_of_getElem? hx)
        simp [keyOf, Tryd.underlying3, mapKey]
        exact WalkArith.wf_i64 (by omega))
      clear hx
      have j1 : (0 : Int) ≤ (k : Int) := by omega
      have j2 : (k : Int) < (m : Int) := by omega
      go_upto_region 5 with fail
      obtain ⟨C, hC⟩ : ∃ C, C = wr.heap.size := ⟨_, rfl⟩
      obtain ⟨W1, hW1⟩ : ∃ W1, W1 = wr.alloc (.cells #[.int .i64 x.who, .int .i64 x.thing, .int .i64 x.kind, .int .i64 x.arg, .int .i64 x.res, .int .i64 x.frm, .int .i64 x.til] 57) := ⟨_, rfl⟩
      rw [← hW1, ← hC]
      have hrow : ∀ (W : World) (es : Array MapEntry) (clock : Nat), W.heap[w.heap.size]? = some (.map es clock) → ∀ y ∈ es.toList, y.val.ownBlock = none ∨ y.val.ownBlock ≠ none := fun W es clock _ y _ => by cases y.val.ownBlock <;> simp
      have hO1 : W1.ownsGroups Tryd.prog 3 (w.heap.size + 1) 3 .i64 w.heap.size k D := by rw [hW1]; exact HD.out.2.2.2.kept (World.grownBy_alloc wr _ none) (by simp) (hrow wr)
      have hS1 : GrS C x.thing W1 := by rw [hW1, hC]; exact ⟨_, Lies.new _ _ _, rfl⟩
      have hb1 : Below w.heap.size w W1 := by rw [hW1]; exact HD.out.2.1.alloc HD.out.2.1.size _
      have hH1 : W1.Shuns w.heap.size (fun g => g = C) := by
        have h1 : wr.Shuns w.heap.size (fun g => g = C) := World.Shuns.reno (No := fun _ => False) (fun _ _ _ _ _ _ _ h => h) HD.out.2.2.2 (fun g hg => .inr (by rw [hg, hC]; exact Nat.le_refl _))
        rw [hW1]; exact h1.kept (World.grownBy_alloc wr _ none) (by have := HD.out.2.2.1; omega) (by simp)
      have hC1 : w.heap.size + 1 ≤ C := by rw [hC]; exact HD.out.2.2.1
      clear hW1 hC
      refine wp_region_held_drew (S := GrS C x.thing) (by kernel_rfl) hS1 (fun hHeld => ?_)
      change wpAnyH _ _ _ _ _ 11 _ _ _
      clear hHeld
      have HS := Lib.hid (show GrS C x.thing W1.drew from hS1)
      have HO := Lib.hid (hO1.kept (w' := W1.drew) (row := none) ⟨rfl, rfl, rfl, Nat.le_refl _, fun i hi _ => rfl⟩ (by simp) (hrow W1))
      have HB := Lib.hid (And.intro (show Below w.heap.size w W1.drew from hb1.drew) (And.intro hC1 (hH1.kept (w' := W1.drew) (row := none) ⟨rfl, rfl, rfl, Nat.le_refl _, fun i hi _ => rfl⟩ (by obtain ⟨cs1, hL1, _⟩ := hS1; have := hL1.lt; omega) (by simp))))
      have hCW : C < W1.drew.heap.size := by obtain ⟨cs1, hL1, _⟩ := hS1; exact hL1.lt
      have HCW := Lib.hid hCW
      clear hS1 hO1 hb1 hC1 hH1 hCW
      generalize W1.drew = WD at HS HO HB HCW ⊢
      refine takeAt 0 14 (oi := _) (v := ?_) rfl rfl (by kernel_rfl) (by kernel_rfl) (by kernel_rfl) (fun _ _ _ h => h) (by rfl) ?_ HS.out ?_
      rotate_left
      · (intro w hSw; obtain ⟨cs1, hL1, hc1⟩ := hSw; have p1 : w.cell? ⟨C, 1, none⟩ = some (.int .i64 x.thing) := (Lies.cell hL1 1).trans hc1; go_simp; try with_reducible rfl)
      simp only [Act.put, List.setIfInBounds_toArray, List.set_cons_zero, List.set_cons_succ]
      refine takeAt 1 15 (oi := _) (v := ?_) rfl rfl (by kernel_rfl) (by kernel_rfl) (by kernel_rfl) (fun _ _ _ h => h) (by rfl) ?_ HS.out ?_
      rotate_left
      · (intro w hSw; obtain ⟨cs1, hL1, hc1⟩ := hSw; have p1 : w.cell? ⟨C, 1, none⟩ = some (.int .i64 x.thing) := (Lies.cell hL1 1).trans hc1; go_simp; try with_reducible rfl)
      simp only [Act.put, List.setIfInBounds_toArray, List.set_cons_zero, List.set_cons_succ]
      refine takeAt 2 16 (oi := _) (v := ?_) rfl rfl (by kernel_rfl) (by kernel_rfl) (by kernel_rfl) (fun _ _ _ h => h) (by rfl) ?_ HS.out ?_
      rotate_left
      · (intro w hSw; obtain ⟨cs1, hL1, hc1⟩ := hSw; have p1 : w.cell? ⟨C, 1, none⟩ = some (.int .i64 x.thing) := (Lies.cell hL1 1).trans hc1; go_simp; try with_reducible rfl)
      simp only [Act.put, List.setIfInBounds_toArray, List.set_cons_zero, List.set_cons_succ]
      refine takeAt 3 17 (oi := _) (v := ?_) rfl rfl (by kernel_rfl) (by kernel_rfl) (by kernel_rfl) (fun _ _ _ h => h) (by rfl) ?_ HS.out ?_
      rotate_left
      · (intro w hSw; obtain ⟨cs1, hL1, hc1⟩ := hSw; have p1 : w.cell? ⟨C, 1, none⟩ = some (.int .i64 x.thing) := (Lies.cell hL1 1).trans hc1; go_simp; try with_reducible rfl)
      simp only [Act.put, List.setIfInBounds_toArray, List.set_cons_zero, List.set_cons_succ]
      refine takeAt 4 18 (oi := _) (v := ?_) rfl rfl (by kernel_rfl) (by kernel_rfl) (by kernel_rfl) (fun _ _ _ h => h) (by rfl) ?_ HS.out ?_
      rotate_left
      · (intro w hSw; obtain ⟨cs1, hL1, hc1⟩ := hSw; have p1 : w.cell? ⟨C, 1, none⟩ = some (.int .i64 x.thing) := (Lies.cell hL1 1).trans hc1; go_simp; try with_reducible rfl)
      simp only [Act.put, List.setIfInBounds_toArray, List.set_cons_zero, List.set_cons_succ]
      refine takeAt 5 19 (oi := _) (v := ?_) rfl rfl (by kernel_rfl) (by kernel_rfl) (by kernel_rfl) (fun _ _ _ h => h) (by rfl) ?_ HS.out ?_
      rotate_left
      · (intro w hSw; obtain ⟨cs1, hL1, hc1⟩ := hSw; have p1 : w.cell? ⟨C, 1, none⟩ = some (.int .i64 x.thing) := (Lies.cell hL1 1).trans hc1; go_simp; try with_reducible rfl)
      simp only [Act.put, List.setIfInBounds_toArray, List.set_cons_zero, List.set_cons_succ]
      refine takeAt 7 21 (oi := _) (v := ?_) rfl rfl (by kernel_rfl) (by kernel_rfl) (by kernel_rfl) (fun _ _ _ h => h) (by rfl) ?_ HS.out ?_
      rotate_left
      · (intro w hSw; obtain ⟨cs1, hL1, hc1⟩ := hSw; have p1 : w.cell? ⟨C, 1, none⟩ = some (.int .i64 x.thing) := (Lies.cell hL1 1).trans hc1; go_simp; try with_reducible rfl)
      simp only [Act.put, List.setIfInBounds_toArray, List.set_cons_zero, List.set_cons_succ]
      refine wpAnyH_ready (rs := [6, 8]) (by kernel_rfl) (by simp) ?_
      refine AllReadyH.cons (o := _) rfl (fun K hK => ?_) (AllReadyH.cons (o := _) rfl (fun K hK => ?_) AllReadyH.nil)
      · obtain ⟨v, zs, hrun, hat, hoi, hzl, hback, hsh⟩ := grp_at HO.out (by unfold maxLen; omega) (th := x.thing) (HKEY.out)
        have HOI := Lib.hid (And.intro (hoi.alloc (.cells #[.int .i64 (k : Int)] 3)) (And.intro hzl (hsh _ HB.out.2.2)))
        have HS2 := Lib.hid (HS.out.grown (World.grownBy_alloc WD (.cells #[.int .i64 (k : Int)] 3) none) (by simp))
        have HBK := Lib.hid (And.intro hat (And.intro hoi hback))
        go_simp
        clear hrun hat hback hsh
        refine hK.out _ _ HS.out (fun _ => ?_)
        clear hK K
        refine wpAnyH_ready (rs := [8]) (by kernel_rfl) (by simp) ?_
        refine AllReadyH.cons (o := _) rfl (fun K hK => ?_) AllReadyH.nil
        go_simp
        refine hK.out _ _ HS2.out (fun _ => ?_)
        clear hK K
        obtain ⟨v', w3, hrun3, hown3, hgrow3, hnil3, hloc3⟩ := run_append_own_at (WD.alloc (.cells #[.int .i64 (k : Int)] 3)) (w.heap.size + 1) 22 22 3 i0 (.int .i64 0) 1 8 Tryd.underlying22 hi0 hz0 hz1 hz2 rfl (by decide) v zs.length (zs.map (Value.int .i64)) HOI.out.1.1 ⟨WD.heap.size, 0, none⟩ 1 1 [.int .i64 (k : Int)] rfl (cell_one_new _ _ _) (ints_oneCell .i64 [(k : Int)]) (by have := HOI.out.2.1; unfold maxLen; omega) (by have := HOI.out.2.1; omega) (by have := HB.out.2.1; have := HCW.out; simp; omega)
        have hS3 : GrS C x.thing w3 := HS2.out.grown hgrow3 (fun h => HOI.out.2.2 C h rfl)
        have HS3 := Lib.hid hS3
        clear hS3
        refine wpAnyH_ready (rs := [9]) (by kernel_rfl) (by simp) ?_
        refine AllReadyH.cons (o := _) rfl (fun K hK => ?_) AllReadyH.nil
        refine step_run_app (by rfl) (.tmp 20) (.tmp 22) _ _ (by rfl) _ _ (by rfl) (by rfl) _ _ hrun3 ?_
        refine hK.out _ _ HS3.out (fun _ => ?_)
        clear hK K
        refine wpAnyH_ready (rs := [10]) (by kernel_rfl) (by simp) ?_
        refine AllReadyH.cons (o := _) rfl (fun K hK => ?_) AllReadyH.nil
        have hint3 := HBK.out.2.1.appended hown3 (WalkArith.wf_i64 (by omega))
        have hall : WD.grownBy w3 v.ownBlock := (World.grownBy_alloc WD _ _).trans hgrow3
        obtain ⟨w4, hrun4, hO4, hg4⟩ := HBK.out.2.2 w3 v' (zs ++ [(k : Int)]) hall hint3 (by simp; exact HOI.out.2.1) (hloc3.imp id (fun h => ⟨_, h, by simp⟩))
        have hS4 : GrS C x.thing w4 := HS3.out.grown hg4 (fun h => by injection h with h; have := HB.out.2.1; omega)
        go_simp
        refine hK.out _ _ hS4 (fun _ => ?_)
        clear hK K
        refine wpAnyH_done (by kernel_rfl) ?_ _
        clear hrun4 hrun3
        go_wp2_with fail
        go_roundw
        case rel =>
          have hz := HD.out.1.at_ HBK.out.1 HBK.out.2.1
          have h9 := GrpD.succ HD.out.1 (w := w3) (v := v') (base := w.heap.size + 1) (e := 3) (by rw [HX.out, ← hz]; exact hint3)
          rw [HX.out, ← hz] at h9
          exact ⟨k + 1, by omega, by go_num, HB.out.1.groups HBK.out.2.1 hall hg4 HB.out.1.size (Nat.le_succ _) (Nat.le_refl _), Nat.le_trans (by have := HB.out.2.1; have := HCW.out; omega) (Nat.le_trans hall.size hg4.size), _, h9, hO4⟩
        case measure => simp [intOf]; omega
      · have hO2 := HO.out.kept (World.grownBy_alloc WD (.cells #[.int .i64 (k : Int)] 3) none) (by simp) (hrow WD)
        have hH2 := HB.out.2.2.kept (World.grownBy_alloc WD (.cells #[.int .i64 (k : Int)] 3) none) (by have := HB.out.2.1; have := HCW.out; omega) (by simp)
        obtain ⟨v, zs, hrun, hat, hoi, hzl, hback, hsh⟩ := grp_at hO2 (by unfold maxLen; omega) (th := x.thing) (HKEY.out)
        have HOI := Lib.hid (And.intro hoi (And.intro hzl (hsh _ hH2)))
        have HS2 := Lib.hid (HS.out.grown (World.grownBy_alloc WD (.cells #[.int .i64 (k : Int)] 3) none) (by simp))
        have HBK := Lib.hid (And.intro hat (And.intro hoi hback))
        have HB2 := Lib.hid (HB.out.1.alloc HB.out.1.size (.cells #[.int .i64 (k : Int)] 3))
        have HRUN := Lib.hid hrun
        clear hrun hat hback hsh hO2 hH2
        go_simp
        refine hK.out _ _ HS2.out (fun _ => ?_)
        clear hK K
        refine wpAnyH_ready (rs := [6]) (by kernel_rfl) (by simp) ?_
        refine AllReadyH.cons (o := _) rfl (fun K hK => ?_) AllReadyH.nil
        have hrun := HRUN.out
        go_simp
        clear hrun
        refine hK.out _ _ HS2.out (fun _ => ?_)
        clear hK K
        obtain ⟨v', w3, hrun3, hown3, hgrow3, hnil3, hloc3⟩ := run_append_own_at (WD.alloc (.cells #[.int .i64 (k : Int)] 3)) (w.heap.size + 1) 22 22 3 i0 (.int .i64 0) 1 8 Tryd.underlying22 hi0 hz0 hz1 hz2 rfl (by decide) v zs.length (zs.map (Value.int .i64)) HOI.out.1.1 ⟨WD.heap.size, 0, none⟩ 1 1 [.int .i64 (k : Int)] rfl (cell_one_new _ _ _) (ints_oneCell .i64 [(k : Int)]) (by have := HOI.out.2.1; unfold maxLen; omega) (by have := HOI.out.2.1; omega) (by have := HB.out.2.1; have := HCW.out; simp; omega)
        have hS3 : GrS C x.thing w3 := HS2.out.grown hgrow3 (fun h => HOI.out.2.2 C h rfl)
        have HS3 := Lib.hid hS3
        clear hS3
        refine wpAnyH_ready (rs := [9]) (by kernel_rfl) (by simp) ?_
        refine AllReadyH.cons (o := _) rfl (fun K hK => ?_) AllReadyH.nil
        refine step_run_app (by rfl) (.tmp 20) (.tmp 22) _ _ (by rfl) _ _ (by rfl) (by rfl) _ _ hrun3 ?_
        refine hK.out _ _ HS3.out (fun _ => ?_)
        clear hK K
        refine wpAnyH_ready (rs := [10]) (by kernel_rfl) (by simp) ?_
        refine AllReadyH.cons (o := _) rfl (fun K hK => ?_) AllReadyH.nil
        have hint3 := HBK.out.2.1.appended hown3 (WalkArith.wf_i64 (by omega))
        have hall : (WD.alloc (.cells #[.int .i64 (k : Int)] 3)).grownBy w3 v.ownBlock := hgrow3
        obtain ⟨w4, hrun4, hO4, hg4⟩ := HBK.out.2.2 w3 v' (zs ++ [(k : Int)]) hall hint3 (by simp; exact HOI.out.2.1) (hloc3.imp id (fun h => ⟨_, h, Nat.le_refl _⟩))
        have hS4 : GrS C x.thing w4 := HS3.out.grown hg4 (fun h => by injection h with h; have := HB.out.2.1; omega)
        go_simp
        refine hK.out _ _ hS4 (fun _ => ?_)
        clear hK K
        refine wpAnyH_done (by kernel_rfl) ?_ _
        clear hrun4 hrun3
        go_wp2_with fail
        go_roundw
        case rel =>
          have hz := HD.out.1.at_ HBK.out.1 HBK.out.2.1
          have h9 := GrpD.succ HD.out.1 (w := w3) (v := v') (base := w.heap.size + 1) (e := 3) (by rw [HX.out, ← hz]; exact hint3)
          rw [HX.out, ← hz] at h9
          exact ⟨k + 1, by omega, by go_num, HB2.out.groups HBK.out.2.1 hall hg4 HB2.out.size (Nat.le_succ _) (Nat.le_refl _), Nat.le_trans (by have := HB.out.2.1; have := HCW.out; simp; omega) (Nat.le_trans hall.size hg4.size), _, h9, hO4⟩
        case measure => simp [intOf]; omega
    · obtain rfl : k = m := by omega
      go_wp2_with fail
      go_ret
      exact ⟨rfl, hb, D, hD, hO⟩
end Go.Proofs.YtecpjeililiafaaDoor

/-
  Contract of history.Part.
-/
namespace Go.Proofs.YtecpjeililiafaaDoor
open Go.RowKit
set_option maxRecDepth 20000

/-- The events of one thing, or the error. -/
def partOf (ts : List Int) (l : List Ev) (q : Int) : List Ev × Int := if (callsOf ts l).2.2 ≠ 0 then ([], (callsOf ts l).2.2) else if ¬ (0 ≤ q ∧ q < ts.length) then ([], 4) else (partL l q, 0)
def PartPost (w : World) (o : List Ev × Int) (e : Ending) (w' : World) : Prop :=
  ∃ v, e = .returned (.tuple #[v, .int .i64 o.2]) ∧ Below w.heap.size w w' ∧ ERd w' w'.heap.size v o.1

theorem partL_take {l : List Ev} {k : Nat} {x : Ev} (hx : l[k]? = some x) (q : Int) : partL (l.take (k + 1)) q = if x.thing = q then partL (l.take k) q ++ [x] else partL (l.take k) q := by
  unfold partL
  rw [List.take_add_one, hx, List.filter_append]
  by_cases h : x.thing = q <;> simp [h]

set_option maxHeartbeats 4000000 in
theorem part_any {tv lv : Value} {ts : List Int} {l : List Ev} {w : World} (ht : NRd w w.heap.size tv ts) (hl : ERd w w.heap.size lv l) (q : Int) :
    Calls Tryd.prog 56 #[tv, lv, .int .i64 q] w (PartPost w (partOf ts l q)) := by
  have er : partOf ts l q = if (callsOf ts l).2.2 ≠ 0 then ([], (callsOf ts l).2.2) else if ¬ (0 ≤ q ∧ q < ts.length) then ([], 4) else (partL l q, 0) := rfl
  generalize partOf ts l q = o at er ⊢
  obtain ⟨At, capt, rfl, m1, m2⟩ := ht.is
  obtain ⟨Al, capl, rfl, m3, m4⟩ := hl.is
  unfold maxLen at m2 m4
  have HL := Lib.hid hl
  have HC := Lib.hid (calls_any ht hl)
  have HE := Lib.hid er
  clear ht hl er
  obtain ⟨L, hL⟩ : ∃ L, L = l.length := ⟨_, rfl⟩
  rw [← hL]
  rw [← hL] at m3 HC
  have HLL := Lib.hid hL
  clear hL
  have hw : IntKind.i64.wrap ((ts.length : Int) - 1) = (ts.length : Int) - 1 := by rw [IntKind.wrap_i64]; omega
  go_enter Tryd.func56, Tryd.ntmps56
  go_wp2_with fail
  refine HC.out.mono ?_
  rintro e w1 ⟨v1, rfl, hb1, -⟩
  have H1 := Lib.hid hb1
  clear HC hb1
  by_cases h0 : (callsOf ts l).2.2 = 0
  · have hlen := (calls_zero h0).2.1
    have HZ := Lib.hid h0
    have er := HE.out
    rw [if_neg (by rw [h0]; decide)] at er
    rw [h0]
    generalize (callsOf ts l).2.1 = a
    clear h0 HE
    cases c1 : btw 0 q ((ts.length : Int) - 1)
    · have hc1 := btw_not.1 c1
      rw [if_pos (by omega)] at er
      subst er
      go_wp2_with fail
      refine (within_any _ _ _ _).mono ?_
      rintro e w' ⟨rfl, rfl⟩
      go_wp2_with fail
      go_ret2
      exact ⟨_, rfl, H1.out, LRd.nil _ _⟩
    · have hc1 := btw_iff.1 c1
      rw [if_neg (by omega)] at er
      subst er
      have hL200 : L ≤ 200 := by rw [HLL.out]; exact hlen
      clear hc1
      go_wp2_with fail
      refine (within_any _ _ _ _).mono ?_
      rintro e w' ⟨rfl, rfl⟩
      go_wp2_with fail
      clear c1
      go_loopw [11, 32] (fun v i wr => ∃ (k : Nat) (v0 : Value), k ≤ L ∧ i = .int .i64 k ∧ v0 = v ∧ EOwn wr w.heap.size v0 (partL (l.take k) q) ∧ Below w.heap.size w wr) (fun _ i _ => L - (intOf i).toNat)
      case atStart => exact ⟨0, _, by omega, rfl, rfl, World.ownsRow_nil _ _ _ _, H1.out⟩
      case round =>
        clear H1
        obtain ⟨k, v0, hk, rfl, rfl, ho, hb⟩ := hrel
        by_cases hkL : k < L
        · obtain ⟨x, hx⟩ : ∃ x, l[k]? = some x := ⟨_, List.getElem?_eq_getElem (by rw [← HLL.out]; exact hkL)⟩
          have hst := partL_take hx q
          have hl' := HL.out.below hb
          rw [← HLL.out] at hl'
          obtain ⟨g, o, rfl, -, d0, d1, d2, d3⟩ := hl'.ev hx
          have i1 : (0 : Int) ≤ (k : Int) := by omega
          have i2 : (k : Int) < (L : Int) := by omega
          have hpl : (partL (l.take k) q).length ≤ 65536 := by
            have h1 : (partL (l.take k) q).length ≤ (l.take k).length := List.length_filter_le _ _
            have h2 : (l.take k).length ≤ k := List.length_take_le _ _
            omega
          have hbs := hb.size
          have HB := Lib.hid (And.intro ho (And.intro hb (And.intro hst hpl)))
          clear hl' hx ho hb hst hpl
          obtain ⟨xw, xt, xk, xv⟩ := x
          by_cases hq : xt = q
          · subst hq
            have HO := Lib.hid ((HB.out.1.alloc (.cells (evCs ⟨xw, xt, xk, xv⟩).toArray 77)).alloc (.cells (evCs ⟨xw, xt, xk, xv⟩).toArray 77))
            have HW := Lib.hid ((HB.out.2.1.alloc hbs (.cells (evCs ⟨xw, xt, xk, xv⟩).toArray 77)).alloc (by simp; omega) (.cells (evCs ⟨xw, xt, xk, xv⟩).toArray 77))
            have HNC := Lib.hid (new_cells (wr.alloc (.cells (evCs ⟨xw, xt, xk, xv⟩).toArray 77)) 77 (evCs ⟨xw, xt, xk, xv⟩))
            go_wp2_with (at_builtin; refine wpList_app_ev rfl (.tmp 40) (.tmp 42) rfl w.heap.size (wr.heap.size + 1) _ (partL (l.take k) xt) ⟨xw, xt, xk, xv⟩ rfl rfl HO.out (by simp) HB.out.2.2.2 HW.out.size ?_; intro v' w5 ho5 hb5 hg5; have HN := Lib.hid (And.intro ho5 hb5); clear ho5 hb5 hg5)
            go_roundw
            case rel =>
              refine ⟨k + 1, _, by omega, by go_num, rfl, ?_, HW.out.trans HN.out.2⟩
              rw [HB.out.2.2.1, if_pos rfl]
              exact HN.out.1
            case measure => simp [intOf]; omega
          · have hz : (xt == q) = false := by rw [beq_eq_false_iff_ne]; exact hq
            have HQ := Lib.hid hq
            clear hq
            go_wp2_with fail
            go_roundw
            case rel =>
              refine ⟨k + 1, _, by omega, by go_num, rfl, ?_, HB.out.2.1.alloc hbs _⟩
              rw [HB.out.2.2.1, if_neg HQ.out]
              exact HB.out.1.alloc _
            case measure => simp [intOf]; omega
        · obtain rfl : k = L := by omega
          have HB := Lib.hid (And.intro ho hb)
          have hbs := hb.size
          clear ho hb
          go_wp2_with fail
          go_ret2
          refine ⟨_, rfl, HB.out.2, ?_⟩
          have := HB.out.1.rd
          rw [HLL.out, List.take_length] at this
          exact this
  · have er := HE.out
    rw [if_pos h0] at er
    have hz : ((callsOf ts l).2.2 != 0) = true := by rw [bne_iff_ne]; exact h0
    generalize (callsOf ts l).2.2 = r at hz er ⊢
    generalize (callsOf ts l).2.1 = a
    have HE2 := Lib.hid er
    clear h0 HE er
    go_wp2_with fail
    go_ret2
    have e := HE2.out
    subst e
    exact ⟨_, rfl, H1.out, LRd.nil _ _⟩
end Go.Proofs.YtecpjeililiafaaDoor

/-
  Contract of local.least, where the history is told and the thing is there.
-/
namespace Go.Proofs.YtecpjeililiafaaDoor
open Go.RowKit
set_option maxRecDepth 20000

theorem lleast_any {tv lv : Value} {ts : List Int} {l : List Ev} {w : World} (ht : NRd w w.heap.size tv ts) (hl : ERd w w.heap.size lv l) (hp : Pow10 w.heap.size w) (h0 : (callsOf ts l).2.2 = 0) {q : Int} (hq : 0 ≤ q ∧ q < ts.length) :
    Calls Tryd.prog 71 #[tv, lv, .int .i64 q] w fun e w' => Below w.heap.size w w' ∧ ∃ v B, e = .returned (.tuple #[v, .bool (foundB ts (callsOf ts (partL l q))), .int .i64 (searchE (callsOf ts (partL l q)))]) ∧ w.heap.size ≤ B ∧ B ≤ w'.heap.size ∧ TOwn w' B v (foundL ts (callsOf ts (partL l q))) := by
  have HP := part_any ht hl q
  rw [show partOf ts l q = (partL l q, 0) by unfold partOf; rw [if_neg (fun h => h h0), if_neg (fun h => h hq)]] at HP
  have HP := Lib.hid HP
  obtain ⟨At, capt, rfl, -, -⟩ := ht.is
  obtain ⟨Al, capl, rfl, -, -⟩ := hl.is
  have HT := Lib.hid (And.intro ht hp)
  obtain ⟨tl, htl⟩ : ∃ tl, tl = ts.length := ⟨_, rfl⟩
  obtain ⟨L, hL⟩ : ∃ L, L = l.length := ⟨_, rfl⟩
  rw [← htl] at HP HT
  rw [← hL] at HP
  rw [← htl, ← hL]
  obtain ⟨pl, hpl⟩ : ∃ pl, pl = partL l q := ⟨_, rfl⟩
  rw [← hpl] at HP ⊢
  clear ht hl hp htl hL h0 hq hpl
  go_enter Tryd.func71, Tryd.ntmps71
  go_wp2_with fail
  refine HP.out.mono ?_
  rintro e w1 ⟨v, rfl, hb1, hv⟩
  have H1 := Lib.hid hb1
  have HF := find_say ((HT.out.1.below H1.out).mono H1.out.size) hv ((HT.out.2.on H1.out).mono H1.out.size)
  obtain ⟨Ap, capp, rfl, -, -⟩ := hv.is
  obtain ⟨P, hP⟩ : ∃ P, P = pl.length := ⟨_, rfl⟩
  rw [← hP] at HF ⊢
  have HF := Lib.hid HF
  clear hb1 hv HP hP
  go_wp2_with fail
  refine HF.out.mono ?_
  rintro e w2 ⟨hb2, u, rfl, hu⟩
  have H2 := Lib.hid (H1.out.trans (hb2.mono H1.out.size))
  have HU := Lib.hid (And.intro hb2.size hu)
  clear hb2 hu HF
  go_wp2_with fail
  go_ret3
  exact ⟨H2.out, u, w1.heap.size, rfl, H1.out.size, HU.out.1, HU.out.2⟩
end Go.Proofs.YtecpjeililiafaaDoor

/-
  Plain: the calls of a thing's part are the thing's calls of the whole, with their times counted anew.
-/
namespace Go.Proofs.YtecpjeililiafaaDoor
open Go.RowKit
set_option maxRecDepth 20000

/-- A call with other times. -/
def retC (r : Int → Int) (c : Cl) : Cl := { c with frm := r c.frm, til := if c.til = -1 then -1 else r c.til }
/-- The calls of thing q, with other times. -/
def prt (r : Int → Int) (q : Int) (cs : List Cl) : List Cl := (cs.filter fun c => c.thing == q).map (retC r)
theorem prt_append (r : Int → Int) (q : Int) (a b : List Cl) : prt r q (a ++ b) = prt r q a ++ prt r q b := by
  unfold prt
  rw [List.filter_append, List.map_append]
theorem prt_yes {r : Int → Int} {q : Int} {c : Cl} (h : c.thing = q) (l : List Cl) : prt r q (c :: l) = retC r c :: prt r q l := by
  unfold prt
  rw [List.filter_cons, if_pos (by rw [beq_iff_eq]; exact h), List.map_cons]
theorem prt_no {r : Int → Int} {q : Int} {c : Cl} (h : c.thing ≠ q) (l : List Cl) : prt r q (c :: l) = prt r q l := by
  unfold prt
  rw [List.filter_cons, if_neg (by rw [beq_iff_eq]; exact h)]
theorem prt_mem {r : Int → Int} {q : Int} {cs : List Cl} {d : Cl} : d ∈ prt r q cs ↔ ∃ c ∈ cs, c.thing = q ∧ retC r c = d := by
  unfold prt
  rw [List.mem_map]
  constructor
  · rintro ⟨c, h, e⟩
    rw [List.mem_filter, beq_iff_eq] at h
    exact ⟨c, h.1, h.2, e⟩
  · rintro ⟨c, h1, h2, e⟩
    exact ⟨c, by rw [List.mem_filter, beq_iff_eq]; exact ⟨h1, h2⟩, e⟩
theorem retC_til {r : Int → Int} (hr : ∀ z, 0 ≤ r z) (c : Cl) : (retC r c).til = -1 ↔ c.til = -1 := by
  unfold retC
  simp only
  by_cases h : c.til = -1
  · rw [if_pos h]; exact ⟨fun _ => h, fun _ => rfl⟩
  · rw [if_neg h]
    have := hr c.til
    exact ⟨fun h2 => by omega, fun h2 => absurd h2 h⟩
theorem oneOpen_pw {cs : List Cl} : OneOpen cs ↔ cs.Pairwise fun c d => ¬ (c.who = d.who ∧ c.til = -1 ∧ d.til = -1) := by
  rw [List.pairwise_iff_getElem]
  constructor
  · intro h i j hi hj hij hh
    have := h i j _ _ (List.getElem?_eq_getElem hi) (List.getElem?_eq_getElem hj) hh.1 hh.2.1 hh.2.2
    omega
  · intro h i j c d hc hd hw h1 h2
    obtain ⟨hi, rfl⟩ := List.getElem?_eq_some_iff.1 hc
    obtain ⟨hj, rfl⟩ := List.getElem?_eq_some_iff.1 hd
    rcases Nat.lt_trichotomy i j with hlt | heq | hgt
    · exact absurd ⟨hw, h1, h2⟩ (h i j hi hj hlt)
    · exact heq
    · exact absurd ⟨hw.symm, h2, h1⟩ (h j i hj hi hgt)
theorem OneOpen.prt {r : Int → Int} (hr : ∀ z, 0 ≤ r z) {cs : List Cl} (h : OneOpen cs) (q : Int) : OneOpen (prt r q cs) := by
  rw [oneOpen_pw] at h ⊢
  unfold Proofs.YtecpjeililiafaaDoor.prt
  rw [List.pairwise_map]
  refine (h.filter _).imp fun {c d} hcd hh => hcd ⟨hh.1, (retC_til hr c).1 hh.2.1, (retC_til hr d).1 hh.2.2⟩
/-- One more event, seen by a thing. -/
theorem step_prt {ts : List Int} {n m : Nat} {cs cs' : List Cl} {x : Ev} {r : Int → Int} (hr : ∀ z, 0 ≤ r z) (h1 : OneOpen cs) (q : Int) (hs : step ts n cs x = .inr cs') :
    (x.thing = q → r n = m → step ts m (prt r q cs) x = .inr (prt r q cs')) ∧ (x.thing ≠ q → prt r q cs' = prt r q cs) := by
  unfold step at hs ⊢
  split at hs
  · cases hs
  rename_i hx
  rw [if_neg hx]
  split at hs
  · rename_i hk
    rw [if_pos hk]
    unfold respS at hs ⊢
    split at hs
    · cases hs
    rename_i ho
    split at hs
    · cases hs
    rename_i hg
    obtain ⟨c, e1, e2, e3, e4⟩ := openOf_at (cs := cs) (who := x.who) (by omega)
    generalize (openOf cs x.who).toNat = i at *
    have hgd : cs.getD i default = c := by rw [List.getD_eq_getElem?_getD, e1]; rfl
    rw [hgd] at hs hg
    injection hs with hs
    have hth : c.thing = x.thing := Classical.byContradiction fun h => hg (.inl h)
    have hgi : ¬ givesB c.kind x.val = false := fun h => hg (.inr h)
    have hsp : cs = cs.take i ++ c :: cs.drop (i + 1) := by
      have h2 : cs.drop i = c :: cs.drop (i + 1) := by rw [List.drop_eq_getElem_cons e4, (List.getElem?_eq_some_iff.1 e1).2]
      rw [← h2, List.take_append_drop]
    have hset : cs' = cs.take i ++ { c with res := x.val, til := (n : Int) } :: cs.drop (i + 1) := by
      rw [← hs, List.set_eq_take_append_cons_drop, if_pos e4]
    constructor
    · intro hq hrn
      have hp1 : prt r q cs = prt r q (cs.take i) ++ retC r c :: prt r q (cs.drop (i + 1)) := by
        conv => lhs; rw [hsp]
        rw [prt_append, prt_yes (by rw [hth]; exact hq)]
      have hp2 : prt r q cs' = prt r q (cs.take i) ++ retC r { c with res := x.val, til := (n : Int) } :: prt r q (cs.drop (i + 1)) := by
        rw [hset, prt_append, prt_yes (by show c.thing = q; rw [hth]; exact hq)]
      have hat : (prt r q cs)[(prt r q (cs.take i)).length]? = some (retC r c) := by rw [hp1]; simp
      have hoo := openOf_eq (h1.prt hr q) hat (who := x.who) e2 ((retC_til hr c).2 e3)
      rw [hoo, if_neg (by omega), Int.toNat_natCast, List.getD_eq_getElem?_getD, hat]
      simp only [Option.getD_some]
      rw [if_neg (by
        rintro (h | h)
        · exact h (by show c.thing = x.thing; exact hth)
        · exact hgi h)]
      rw [hp2, hp1]
      congr 1
      rw [List.set_append, if_neg (Nat.lt_irrefl _), Nat.sub_self, List.set_cons_zero]
      congr 2
      unfold retC
      simp only
      rw [if_neg (by omega : ¬ (n : Int) = -1), hrn]
    · intro hq
      rw [hset]
      conv => rhs; rw [hsp]
      rw [prt_append, prt_append, prt_no (by show c.thing ≠ q; rw [hth]; exact hq), prt_no (by rw [hth]; exact hq)]
  · rename_i hk
    rw [if_neg hk]
    unfold invS at hs ⊢
    split at hs
    · cases hs
    rename_i hf
    rw [if_neg hf]
    split at hs
    · cases hs
    rename_i ho
    injection hs with hs
    constructor
    · intro hq hrn
      rw [if_neg (fun h0 => by
        obtain ⟨d, d1, d2, d3, _⟩ := openOf_at h0
        obtain ⟨c, c1, c2, c3⟩ := prt_mem.1 (List.mem_of_getElem? d1)
        obtain ⟨j, c4⟩ := List.getElem?_of_mem c1
        exact openOf_none (by omega : openOf cs x.who < 0) c4 (by rw [← d2, ← c3]; rfl) ((retC_til hr c).1 (by rw [c3]; exact d3)))]
      rw [← hs, prt_append, prt_yes (by exact hq)]
      unfold retC prt
      simp only [if_true, List.filter_nil, List.map_nil]
      rw [hrn]
    · intro hq
      rw [← hs, prt_append, prt_no (by exact hq)]
      exact List.append_nil _
/-- All events, seen by a thing. -/
theorem run_prt {ts : List Int} {r : Int → Int} (hr : ∀ z, 0 ≤ r z) (q : Int) : ∀ (l : List Ev) (n m : Nat) (cs : List Cl), OneOpen cs → (∀ k, k ≤ l.length → r ((n + k : Nat) : Int) = ((m + (partL (l.take k) q).length : Nat) : Int)) →
    (∀ c ∈ cs, c.thing = q → c.til ≠ -1 → r (c.til + 1) = r c.til + 1) → (run ts n cs l).2.2 = 0 →
    (run ts m (prt r q cs) (partL l q)).1 = prt r q (run ts n cs l).1 ∧ ∀ c ∈ (run ts n cs l).1, c.thing = q → c.til ≠ -1 → r (c.til + 1) = r c.til + 1
  | [], n, m, cs, _, _, ht, _ => ⟨rfl, ht⟩
  | x :: l, n, m, cs, h1, hk, ht, h0 => by
    have hn := hk 0 (Nat.zero_le _)
    rw [List.take_zero] at hn
    have hn2 : r ((n + 1 : Nat) : Int) = ((m + (partL [x] q).length : Nat) : Int) := by
      have := hk 1 (by simp)
      rwa [List.take_succ_cons, List.take_zero] at this
    rw [run] at h0 ⊢
    rcases step_K (ts := ts) (n := n) (x := x) h1 with ⟨e, he, _⟩ | ⟨cs', he, h2, _⟩
    · rw [he] at h0
      exact absurd h0 (step_err he)
    · obtain ⟨s1, s2⟩ := step_prt (m := m) hr h1 q he
      have ht2 : x.thing = q → ∀ c ∈ cs', c.thing = q → c.til ≠ -1 → r (c.til + 1) = r c.til + 1 := fun hq => by
        have hpl : (partL [x] q).length = 1 := by
          unfold partL
          rw [List.filter_cons, if_pos (by rw [beq_iff_eq]; exact hq)]
          rfl
        rw [hpl] at hn2
        have hnn : r ((n : Int) + 1) = r n + 1 := by
          have e1 : ((n + 1 : Nat) : Int) = (n : Int) + 1 := by omega
          have e2 : r ((n : Nat) : Int) = (m : Int) := by simpa [partL] using hn
          rw [← e1, hn2, e2]
          omega
        have hs := he
        unfold step respS invS at hs
        repeat' split at hs
        all_goals (try cases hs)
        · intro c hc hcq hct
          rcases List.mem_or_eq_of_mem_set hc with hc | rfl
          · exact ht c hc hcq hct
          · exact hnn
        · intro c hc hcq hct
          rcases List.mem_append.1 hc with hc | hc
          · exact ht c hc hcq hct
          · rw [List.mem_singleton] at hc
            subst hc
            exact absurd rfl hct
      rw [he] at h0
      simp only [he]
      simp only at h0
      by_cases hq : x.thing = q
      · have hp : partL (x :: l) q = x :: partL l q := by
          unfold partL
          rw [List.filter_cons, if_pos (by rw [beq_iff_eq]; exact hq)]
        rw [hp, run, s1 hq (by simpa [partL] using hn)]
        simp only
        refine run_prt hr q l (n + 1) (m + 1) cs' h2 (fun k hk2 => ?_) (ht2 hq) h0
        have := hk (k + 1) (by simp; omega)
        rw [List.take_succ_cons] at this
        have hp2 : partL (x :: l.take k) q = x :: partL (l.take k) q := by
          unfold partL
          rw [List.filter_cons, if_pos (by rw [beq_iff_eq]; exact hq)]
        rw [hp2, List.length_cons] at this
        rw [show n + 1 + k = n + (k + 1) by omega, this]
        omega
      · have hp : ∀ l', partL (x :: l') q = partL l' q := fun l' => by
          unfold partL
          rw [List.filter_cons, if_neg (by rw [beq_iff_eq]; exact hq)]
        rw [hp, ← s2 hq]
        refine run_prt hr q l (n + 1) m cs' h2 (fun k hk2 => ?_) ?_ h0
        · have := hk (k + 1) (by simp; omega)
          rw [List.take_succ_cons, hp] at this
          rw [show n + 1 + k = n + (k + 1) by omega, this]
        · have hs := he
          unfold step respS invS at hs
          repeat' split at hs
          all_goals (try cases hs)
          · have hg : ¬ ((cs.getD (openOf cs x.who).toNat default).thing ≠ x.thing ∨ givesB (cs.getD (openOf cs x.who).toNat default).kind x.val = false) := by assumption
            obtain ⟨d, e1, _, _, _⟩ := openOf_at (cs := cs) (who := x.who) (by omega)
            have hgd : cs.getD (openOf cs x.who).toNat default = d := by rw [List.getD_eq_getElem?_getD, e1]; rfl
            intro c hc hcq hct
            rcases List.mem_or_eq_of_mem_set hc with hc | rfl
            · exact ht c hc hcq hct
            · exfalso
              refine hg (.inl fun h => hq ?_)
              rw [← h]
              exact hcq
          · intro c hc hcq hct
            rcases List.mem_append.1 hc with hc | hc
            · exact ht c hc hcq hct
            · rw [List.mem_singleton] at hc
              subst hc
              exact absurd rfl hct
/-- How many events at thing q come before time z. -/
def rankE (l : List Ev) (q : Int) (z : Int) : Int := (partL (l.take z.toNat) q).length
theorem rankE_ge (l : List Ev) (q z : Int) : 0 ≤ rankE l q z := by unfold rankE; omega
theorem rankE_up (l : List Ev) (q : Int) {y z : Int} (h : y ≤ z) : rankE l q y ≤ rankE l q z := by
  unfold rankE partL
  have h1 : (l.take y.toNat).Sublist (l.take z.toNat) := by
    rw [show l.take y.toNat = (l.take z.toNat).take y.toNat by rw [List.take_take]; congr 1; omega]
    exact List.take_sublist _ _
  have := (h1.filter (fun x => x.thing == q)).length_le
  omega
theorem calls_part {ts : List Int} {l : List Ev} (h : (callsOf ts l).2.2 = 0) (q : Int) : (callsOf ts (partL l q)).1 = prt (rankE l q) q (callsOf ts l).1 ∧ ∀ c ∈ (callsOf ts l).1, c.thing = q → c.til ≠ -1 → rankE l q (c.til + 1) = rankE l q c.til + 1 := by
  obtain ⟨_, _, e1⟩ := calls_zero h
  obtain ⟨_, _, e2⟩ := calls_zero (part_ok h q)
  rw [e1] at h
  rw [e2, e1]
  exact run_prt (rankE_ge l q) q l 0 0 [] OneOpen.nil (fun k hk => by unfold rankE; rw [Int.toNat_natCast, Nat.zero_add, Nat.zero_add]) (fun c hc => by cases hc) h
end Go.Proofs.YtecpjeililiafaaDoor

/-
  Contract of local.Parts, over a contract of local.open.
-/
namespace Go.Proofs.YtecpjeililiafaaDoor
open Go.RowKit
set_option maxRecDepth 20000

/-- How many calls a thing has. -/
def ownN (cs : List Cl) (q : Int) : Nat := (cs.filter fun c => c.thing == q).length
/-- The error of package local about a history, or 0. -/
def openE (ts : List Int) (l : List Ev) : Int := if (callsOf ts l).2.2 ≠ 0 then (callsOf ts l).2.2 else if 12 < (callsOf ts l).1.length then 2 else if ((callsOf ts l).1.any fun c => decide (9 < ownN (callsOf ts l).1 c.thing)) = true then 2 else 0
theorem openE_zero {ts : List Int} {l : List Ev} (h : openE ts l = 0) : (callsOf ts l).2.2 = 0 ∧ (callsOf ts l).1.length ≤ 12 ∧ ∀ q, ownN (callsOf ts l).1 q ≤ 9 := by
  unfold openE at h
  split at h
  · rename_i h1; exact absurd h h1
  rename_i h1
  split at h
  · cases h
  rename_i h2
  split at h
  · cases h
  rename_i h3
  refine ⟨Classical.byContradiction h1, by omega, fun q => Classical.byContradiction fun hq => h3 ?_⟩
  rw [List.any_eq_true]
  have hpos : 0 < (((callsOf ts l).1).filter fun c => c.thing == q).length := by unfold ownN at hq; omega
  obtain ⟨c, hc⟩ := List.exists_mem_of_length_pos hpos
  rw [List.mem_filter, beq_iff_eq] at hc
  exact ⟨c, hc.1, by rw [decide_eq_true_iff, hc.2]; omega⟩
theorem openE_part {ts : List Int} {l : List Ev} (h : openE ts l = 0) (q : Int) : searchE (callsOf ts (partL l q)) = 0 := by
  obtain ⟨h1, _, h3⟩ := openE_zero h
  refine search_ok.2 ⟨part_ok h1 q, ?_⟩
  rw [(calls_part h1 q).1]
  unfold prt
  rw [List.length_map]
  exact h3 q
/-- Has the part of thing k a right order? -/
def pB (ts : List Int) (l : List Ev) (k : Nat) : Bool := foundB ts (callsOf ts (partL l (k : Int)))

set_option maxHeartbeats 4000000 in
theorem lparts_of {tv lv : Value} {ts : List Int} {l : List Ev} {w : World} (ht : NRd w w.heap.size tv ts) (hl : ERd w w.heap.size lv l) (hp : Pow10 w.heap.size w)
    (HO : Calls Tryd.prog 70 #[tv, lv] w fun e w' => Below w.heap.size w w' ∧ ∃ v, e = .returned (.tuple #[v, .int .i64 (openE ts l)])) :
    Calls Tryd.prog 28 #[tv, lv] w fun e w' => Below w.heap.size w w' ∧ ((openE ts l ≠ 0 ∧ e = .returned (.tuple #[.slice none 0 0, .int .i64 (openE ts l)])) ∨ (openE ts l = 0 ∧ ∃ g, e = .returned (.tuple #[.slice (some ⟨g, 0, none⟩) ts.length ts.length, .int .i64 0]) ∧ BTab w' g ts.length (pB ts l))) := by
  have HO' := HO
  clear HO
  have HO := Lib.hid HO'
  clear HO'
  obtain ⟨At, capt, rfl, m1, m2⟩ := ht.is
  obtain ⟨Al, capl, rfl, -, -⟩ := hl.is
  unfold maxLen at m2
  have HT := Lib.hid (And.intro ht (And.intro hl hp))
  obtain ⟨tl, htl⟩ : ∃ tl, tl = ts.length := ⟨_, rfl⟩
  obtain ⟨L, hL⟩ : ∃ L, L = l.length := ⟨_, rfl⟩
  rw [← htl, ← hL] at HO HT
  rw [← htl] at m1
  rw [← htl, ← hL]
  have HLL := Lib.hid htl
  clear ht hl hp htl hL
  obtain ⟨E, hEE⟩ : ∃ E, E = openE ts l := ⟨_, rfl⟩
  rw [← hEE] at HO ⊢
  have HEE := Lib.hid hEE
  clear hEE
  go_enter Tryd.func28, Tryd.ntmps28
  go_wp2_with fail
  refine HO.out.mono ?_
  rintro e w1 ⟨hb1, v, rfl⟩
  have H1 := Lib.hid hb1
  clear hb1 HO
  by_cases hE : E = 0
  · subst hE
    have h0 := openE_zero HEE.out.symm
    have htl4 : tl ≤ 4 := by
      have h1 := (calls_zero h0.1).1
      unfold typesB at h1
      rw [Bool.and_eq_true, decide_eq_true_iff] at h1
      rw [HLL.out]
      exact h1.1.2
    have hmk := made_bools tl tl rfl (by omega) w1
    have H0 := Lib.hid (And.intro h0.1 htl4)
    clear h0
    go_wp2_with fail
    clear hmk
    obtain ⟨G, hG⟩ : ∃ G, G = w1.heap.size := ⟨_, rfl⟩
    have hst : Below w.heap.size w (w1.alloc (.cells (bitCs tl fun _ => false) 4)) := H1.out.alloc H1.out.size _
    have hbt : BTab (w1.alloc (.cells (bitCs tl fun _ => false) 4)) w1.heap.size tl (fun j => decide (j < 0) && pB ts l j) := (Lies.new _ _ _).cast (by congr 1)
    rw [← hG] at hbt ⊢
    have HG := Lib.hid (show w.heap.size ≤ G by rw [hG]; exact H1.out.size)
    have HS := Lib.hid (And.intro hst hbt)
    clear hst hbt hG
    generalize w1.alloc (.cells (bitCs tl fun _ => false) 4) = W at HS ⊢
    go_loopw [27] (fun i wr => ∃ k : Nat, k ≤ tl ∧ i = .int .i64 k ∧ Below w.heap.size w wr ∧ BTab wr G tl (fun j => decide (j < k) && pB ts l j))
      (fun i _ => tl - (intOf i).toNat)
    case atStart => exact ⟨0, Nat.zero_le _, rfl, HS.out.1, HS.out.2⟩
    case round =>
      obtain ⟨k, hk, rfl, hbr, hB⟩ := hrel
      by_cases hlt : k < tl
      · have HB := Lib.hid (And.intro hbr hB)
        have HL := lleast_any ((HT.out.1.below hbr).mono hbr.size) ((HT.out.2.1.below hbr).mono hbr.size) ((HT.out.2.2.on hbr).mono hbr.size) H0.out.1 (q := (k : Int)) ⟨by omega, by rw [← HLL.out]; omega⟩
        rw [openE_part HEE.out.symm] at HL
        have HL := Lib.hid HL
        clear hbr hB
        go_wp2_with fail
        refine HL.out.mono ?_
        rintro e w2 ⟨hb2, u, B, rfl, -, -, -⟩
        have H2 := Lib.hid (HB.out.1.trans (hb2.mono HB.out.1.size))
        have hB2 : BTab w2 G tl (fun j => decide (j < k) && pB ts l j) := Lies.below HB.out.2 hb2 (Lies.lt HB.out.2)
        have hc2 := hB2.cell hlt
        have hf2 := Lies.frozen hB2 k
        have HB2 := Lib.hid hB2
        clear hb2 hB2
        go_wp2_with fail
        go_roundw
        case rel =>
          refine ⟨k + 1, by omega, by go_num, Below.setCell H2.out (show w.heap.size ≤ G from HG.out) _, ?_⟩
          have h9 := HB2.out.set_ k (pB ts l k)
          rwa [show (fun j => if j = k then pB ts l k else decide (j < k) && pB ts l j) = (fun j => decide (j < k + 1) && pB ts l j) by
            funext j
            by_cases e : j = k
            · subst e; rw [if_pos rfl, decide_eq_true (Nat.lt_succ_self j), Bool.true_and]
            · rw [if_neg e]
              congr 1
              rw [decide_eq_decide]
              omega] at h9
        case measure => simp [intOf]; omega
      · have : k = tl := by omega
        subst this
        go_wp2_with fail
        go_ret2
        refine ⟨hbr, G, rfl, ?_⟩
        have h9 : bitCs k (fun j => decide (j < k) && pB ts l j) = bitCs k (pB ts l) := by
          unfold bitCs
          apply Array.ext_getElem?
          intro j
          by_cases hj : j < k <;> simp [hj]
        exact Lies.cast hB h9
  · have hz : (E == 0) = false := by rw [beq_eq_false_iff_ne]; exact hE
    have HE := Lib.hid hE
    clear hE
    go_wp2_with fail
    go_ret2
    exact ⟨H1.out, .inl ⟨HE.out, rfl⟩⟩
end Go.Proofs.YtecpjeililiafaaDoor

/-
  Contract of local.open; package local's Parts, whole.
-/
namespace Go.Proofs.YtecpjeililiafaaDoor
open Go.RowKit Go.Maps
set_option maxRecDepth 20000

def LOpenPost (w : World) (cs : List Cl) (X : Int) (e : Ending) (w' : World) : Prop :=
  Below w.heap.size w w' ∧ ∃ v, e = .returned (.tuple #[v, .int .i64 X]) ∧ (X = 0 → CRd w' w'.heap.size v cs) ∧ (X ≠ 0 → v = .slice none 0 0)
theorem idxK_len (cs : List Cl) (q : Int) : (idxK cs q cs.length).length = ownN cs q := by
  have key : ∀ k, k ≤ cs.length → (idxK cs q k).length = ((cs.take k).filter fun c => c.thing == q).length := fun k => by
    induction k with
    | zero => intro _; rfl
    | succ k ih =>
      intro hk
      rw [idxK_succ, List.take_add_one, getD_some (show k < cs.length by omega), List.filter_append, List.length_append, ← ih (by omega)]
      generalize cs.getD k default = y
      by_cases h : y.thing = q
      · rw [if_pos h]; simp [h]
      · rw [if_neg h]; simp [h]
  rw [key _ (Nat.le_refl _), List.take_length]
  rfl
theorem row_slice {w : World} {base : Nat} {e : TypeId} {v : Value} {zs : List Int} (h : w.ownsInts base e .i64 v zs) : ∃ c : Option Addr × Nat × Nat, v = .slice c.1 c.2.1 c.2.2 ∧ c.2.1 = zs.length := by
  rcases h.1.2 with ⟨rfl, h0⟩ | ⟨g, cap, cur, rfl, _⟩
  · exact ⟨(none, 0, 0), rfl, h0.symm⟩
  · exact ⟨(_, _, _), rfl, rfl⟩
theorem lit_ne {a b : Int} (h : a ≠ b) : (Lit.int .i64 a).sameKey (.int .i64 b) = false := sameKey_ne fun e => h (by injection e)
set_option maxHeartbeats 4000000 in
theorem lopen_any {tv lv : Value} {ts : List Int} {l : List Ev} {w : World} (ht : NRd w w.heap.size tv ts) (hl : ERd w w.heap.size lv l) :
    Calls Tryd.prog 70 #[tv, lv] w (LOpenPost w (callsOf ts l).1 (openE ts l)) := by
  have HCL := Lib.hid (calls_any ht hl)
  have hse : openE ts l = if (callsOf ts l).2.2 ≠ 0 then (callsOf ts l).2.2 else if 12 < (callsOf ts l).1.length then 2 else if ((callsOf ts l).1.any fun c => decide (9 < ownN (callsOf ts l).1 c.thing)) = true then 2 else 0 := rfl
  have hth := @calls_thing ts l
  have hty := @calls_types ts l
  generalize openE ts l = X at hse ⊢
  generalize callsOf ts l = o at HCL hse hth hty ⊢
  have HSE := Lib.hid (And.intro hse (And.intro hth hty))
  clear hse hth hty
  obtain ⟨At, capt, rfl, -, -⟩ := ht.is
  obtain ⟨Al, capl, rfl, -, -⟩ := hl.is
  clear ht hl
  obtain ⟨tl, htl⟩ : ∃ tl, tl = ts.length := ⟨_, rfl⟩
  rw [← htl] at HCL HSE ⊢
  clear htl
  generalize l.length = L at HCL ⊢
  go_enter Tryd.func70, Tryd.ntmps70
  go_wp2_with fail
  refine HCL.out.mono ?_
  rintro e w1 ⟨v, rfl, hb1, hcr⟩
  obtain ⟨cs, at1, E⟩ := o
  obtain ⟨hse, hth, hty⟩ := HSE.out
  obtain ⟨A, c, rfl, -, hc9⟩ := hcr.is
  unfold maxLen at hc9
  simp only at hcr hse hth hty ⊢
  have HR := Lib.hid (And.intro hb1 hcr)
  obtain ⟨n, hn⟩ : ∃ n, n = cs.length := ⟨_, rfl⟩
  by_cases hE : E = 0
  · rw [if_neg (fun h => h hE)] at hse
    have hg := lgroup_any hcr
    subst hE
    rw [← hn] at HR hse hg ⊢
    by_cases h12 : 12 < n
    · rw [if_pos h12] at hse
      subst hse
      have i12 : (12 : Int) < (n : Int) := by omega
      clear h12 hg HCL hb1 hcr HSE hth hty hn
      go_wp2_with fail
      go_ret2
      exact ⟨HR.out.1, _, rfl, fun h => by omega, fun _ => rfl⟩
    · rw [if_neg h12] at hse
      have i12 : ¬ (12 : Int) < (n : Int) := by omega
      have HSE2 := Lib.hid hse
      have HG := Lib.hid (hg (by omega) (fun c hc => by have := hth c hc; have := hty rfl; omega))
      have HN := Lib.hid hn
      clear h12 hg HCL hb1 hcr HSE hth hty hn hse
      go_wp2_with fail
      refine HG.out.mono ?_
      rintro e w2 ⟨rfl, hb2, D, hD, hO⟩
      have H2 := Lib.hid (And.intro (HR.out.1.trans (hb2.mono HR.out.1.size)) ((HR.out.2.below hb2).mono hb2.size))
      have hlt1 : w1.heap.size < w2.heap.size := by
        obtain ⟨es, clock, h1, _⟩ := hO
        exact (Array.getElem?_eq_some_iff.1 h1).1
      have hlt0 := HR.out.1.size
      have HD := Lib.hid hD
      have hown : w2.ownsMap Tryd.prog 3 (rowElem (H := Unit) w2 (w1.heap.size + 1) 3 .i64) w1.heap.size n D := by
        obtain ⟨es, clock, h1, h2, h3, h4, _⟩ := hO
        exact ⟨es, clock, h1, h2, h3, h4⟩
      clear hb2 hD HG hO
      go_wp2_with (at_range; refine wpList_range_own _ rfl _ 96 rfl 3 22 keyed_int Tryd.underlying96 _ w1.heap.size n _ rfl hown ?_; intro w3 hrg3 hg3 hs3)
      have hstart : ∀ q : Int, 9 < ownN cs q → has D (.int .i64 q) = true := fun q hq => by
        cases hh : has D (.int .i64 q)
        · have h1 := atKey_of_not_has hh .nil
          rw [HD.out.2 q, if_neg (fun e => by have := idxK_len cs q; rw [← HN.out, e] at this; simp at this; omega)] at h1
          cases h1
        · rfl
      have HST := Lib.hid hstart
      have H3 := Lib.hid (And.intro hrg3 (And.intro hg3 hlt1))
      clear hown hrg3 hg3 hstart hs3
      go_frame
      go_loopw [27] (fun _ wr => ∃ (left : Lit → Bool) (cnt : Nat), wr.ranges Tryd.prog 3 (rowElem (H := Unit) w2 (w1.heap.size + 1) 3 .i64) w1.heap.size w2.heap.size n D left cnt ∧ Below w2.heap.size w2 wr ∧ ∀ q : Int, 9 < ownN cs q → left (.int .i64 q) = true) (fun _ wr => wr.rangeLeft w1.heap.size w2.heap.size)
      case atStart => exact ⟨_, _, H3.out.1, ⟨H3.out.2.1.os, H3.out.2.1.tape, H3.out.2.1.output, H3.out.2.1.size, fun k hk => H3.out.2.1.block k hk (by simp)⟩, HST.out⟩
      case round =>
        obtain ⟨left, cnt, hrg, hb, hbig⟩ := hrel
        have HRG := Lib.hid hrg
        have HBG := Lib.hid (And.intro hb hbig)
        clear hb hbig H3 HST
        go_wp2_with (at_next; refine wpList_next_ranges _ rfl _ rfl 3 keyed_int (rowElem (H := Unit) w2 (w1.heap.size + 1) 3 .i64) (Value.int .i64) (fun c : Option Addr × Nat × Nat => .slice c.1 c.2.1 c.2.2) (fun key kl hkey => by obtain ⟨x, rfl, _⟩ := Maps.keyOf_int_inv Tryd.underlying3 hkey; exact ⟨x, rfl⟩) (fun v y hv => by obtain ⟨zs, hz, _⟩ := rowElem_inv hv; obtain ⟨c, hc, _⟩ := row_slice hz; exact ⟨c, hc⟩) w1.heap.size w2.heap.size n _ _ _ rfl hrg ?_ ?_)
        · intro _ hl0
          have hx : X = 0 := by
            rw [HSE2.out]
            refine if_neg fun h => ?_
            obtain ⟨c, hc, h9⟩ := List.any_eq_true.1 h
            rw [decide_eq_true_iff] at h9
            have := HBG.out.2 _ h9
            rw [hl0] at this
            cases this
          subst hx
          have HZ := Lib.hid (And.intro (H2.out.1.trans (HBG.out.1.mono H2.out.1.size)) ((H2.out.2.below HBG.out.1).mono HBG.out.1.size))
          clear hl0 hrg
          go_wp2_with fail
          go_ret2
          exact ⟨HZ.out.1, _, rfl, fun _ => HZ.out.2, fun h => absurd rfl h⟩
        · intro x ca cn ck kl y1 y2 w4 cnt4 hkey hlx hRy hat hrg4 hlt4 hg4 hs4 hen
          obtain ⟨x', hx', hkl, hwf⟩ := Maps.keyOf_int_inv Tryd.underlying3 hkey
          injection hx' with _ hx'
          subst hx'
          subst hkl
          obtain ⟨zs, hz, hyz⟩ := rowElem_inv hRy
          injection hyz with hy1 hy2
          subst hy1
          obtain ⟨c2, hc2, hcl⟩ := row_slice hz
          have hzs := HD.out.at_ (hat .nil) hz
          have hcn : cn = ownN cs x := by
            have e1 := idxK_len cs x
            rw [← HN.out, ← hzs] at e1
            injection hc2 with _ h2 _
            rw [h2, hcl, e1]
          have hb4 : Below w2.heap.size w2 w4 := HBG.out.1.trans ⟨hg4.os, hg4.tape, hg4.output, hg4.size, fun k hk => hg4.block k (Nat.lt_of_lt_of_le hk HBG.out.1.size) (fun e => by injection e with e; omega)⟩
          have HX := Lib.hid (And.intro hb4 (And.intro hrg4 (And.intro hlt4 hcn)))
          have hnm : cn ≤ 9223372036854775807 := by
            have h1 : zs.length ≤ n := by
              rw [hzs]
              unfold idxK
              rw [List.length_map]
              exact Nat.le_trans (List.length_filter_le _ _) (by simp)
            rw [hcn, ← idxK_len, ← HN.out, ← hzs]
            omega
          clear hRy hy2 hat hz hc2 hcl hzs hb4 hrg4 hlt4 hcn hg4 hs4 hkey hlx hwf hrg
          by_cases h9 : 9 < cn
          · have hx : X = 2 := by
              rw [HSE2.out]
              refine if_pos (List.any_eq_true.2 ?_)
              have hpos : 0 < ((cs.filter fun c => c.thing == x)).length := by
                have := HX.out.2.2.2
                unfold ownN at this
                omega
              obtain ⟨c, hc⟩ := List.exists_mem_of_length_pos hpos
              rw [List.mem_filter, beq_iff_eq] at hc
              exact ⟨c, hc.1, by rw [decide_eq_true_iff, hc.2, ← HX.out.2.2.2]; exact h9⟩
            subst hx
            have i9 : (9 : Int) < (cn : Int) := by omega
            have HZ := Lib.hid (H2.out.1.trans (HX.out.1.mono H2.out.1.size))
            clear h9
            go_wp2_with fail
            go_ret2
            exact ⟨HZ.out, _, rfl, fun h => by omega, fun _ => rfl⟩
          · have i9 : ¬ (9 : Int) < (cn : Int) := by omega
            have H9 := Lib.hid h9
            clear h9
            go_wp2_with fail
            go_roundw
            case rel =>
              refine ⟨_, cnt4, HX.out.2.1, HX.out.1, fun q hq => ?_⟩
              rw [HBG.out.2 q hq, lit_ne (fun e => H9.out (by rw [HX.out.2.2.2, ← e]; exact hq))]
              rfl
            case measure => rw [HX.out.2.1.left_eq, HRG.out.left_eq]; exact HX.out.2.2.1
  · rw [if_pos hE] at hse
    subst hse
    have hz : (X != 0) = true := by rw [bne_iff_ne]; exact hE
    have HE := Lib.hid hE
    clear hE HCL hb1 hcr HSE hth hty hn
    go_wp2_with fail
    go_ret2
    exact ⟨HR.out.1, _, rfl, fun h => absurd h HE.out, fun _ => rfl⟩
theorem lparts_any {tv lv : Value} {ts : List Int} {l : List Ev} {w : World} (ht : NRd w w.heap.size tv ts) (hl : ERd w w.heap.size lv l) (hp : Pow10 w.heap.size w) :
    Calls Tryd.prog 28 #[tv, lv] w fun e w' => Below w.heap.size w w' ∧ ((openE ts l ≠ 0 ∧ e = .returned (.tuple #[.slice none 0 0, .int .i64 (openE ts l)])) ∨ (openE ts l = 0 ∧ ∃ g, e = .returned (.tuple #[.slice (some ⟨g, 0, none⟩) ts.length ts.length, .int .i64 0]) ∧ BTab w' g ts.length (pB ts l))) :=
  lparts_of ht hl hp ((lopen_any ht hl).mono fun _ _ h => ⟨h.1, h.2.imp fun _ h => h.1⟩)
end Go.Proofs.YtecpjeililiafaaDoor

/-
  The walk of the law SeqApart.
-/
namespace Go.Proofs.YtecpjeililiafaaDoor
open Go.RowKit
set_option maxRecDepth 20000

theorem cr_ok : searchE (callsOf [2, 2] crossL) = 0 := by decide +kernel
theorem cr_none : fndB (ownB (callsOf [2, 2] crossL).1) [2, 2] (callsOf [2, 2] crossL) = false := by decide +kernel
theorem cr_open : openE [2, 2] crossL = 0 := by decide +kernel
theorem cr_parts : (List.range 2).map (pB [2, 2] crossL) = [false, false] := by decide +kernel
theorem cr_part {k : Nat} (h : k < 2) : (partOf [2, 2] crossL k).2 = 0 ∧ searchE (callsOf [2, 2] (partOf [2, 2] crossL k).1) = 0 ∧ fndB (ownB (callsOf [2, 2] (partOf [2, 2] crossL k).1).1) [2, 2] (callsOf [2, 2] (partOf [2, 2] crossL k).1) = true := by
  have h2 : k = 0 ∨ k = 1 := by omega
  rcases h2 with rfl | rfl
  · decide +kernel
  · decide +kernel
set_option maxHeartbeats 4000000 in
theorem sapart_any {w : World} (hp : Pow10 w.heap.size w) :
    Calls Tryd.prog 16 #[] w fun e w' => e = .returned (.bool true) ∧ Below w.heap.size w w' := by
  have HP := Lib.hid hp
  clear hp
  have hb0 : Below w.heap.size w (w.alloc (.cells #[.int .i64 2, .int .i64 2] 3)) := (Below.refl _ _).alloc (Nat.le_refl _) _
  have hT0 : NRd (w.alloc (.cells #[.int .i64 2, .int .i64 2] 3)) (w.heap.size + 1) (.slice (some ⟨w.heap.size, 0, none⟩) 2 2) [2, 2] :=
    LRd.of_lit (f := intCs) (s := 1) (w := w) (l := [2, 2]) (fun _ => rfl) 3 rfl (n := 2) rfl (by unfold maxLen; omega)
  have HT := Lib.hid (And.intro hb0 (hT0.mono (B' := (w.alloc (.cells #[.int .i64 2, .int .i64 2] 3)).heap.size) (by simp)))
  have HC0 := Lib.hid (crossed_any (w.alloc (.cells #[.int .i64 2, .int .i64 2] 3)))
  obtain ⟨W0, hW0⟩ : ∃ W0, W0 = w.alloc (.cells #[.int .i64 2, .int .i64 2] 3) := ⟨_, rfl⟩
  clear hb0 hT0
  go_enter Tryd.func16, Tryd.ntmps16
  go_wp2_with fail
  refine HC0.out.mono ?_
  rintro e w1 ⟨v1, rfl, ho1, hb1⟩
  rw [← hW0] at HT hb1 ho1
  have H1 := Lib.hid (HT.out.1.trans (hb1.mono HT.out.1.size))
  have HT1 := Lib.hid ((HT.out.2.below hb1).mono hb1.size)
  have HF := Lib.hid (sqfind_any HT1.out ho1.rd ((HP.out.on H1.out).mono H1.out.size))
  clear hb1 ho1 HC0 HT hW0
  go_wp2_with fail
  refine HF.out.mono ?_
  rintro e w2 ⟨hb2, v2, rfl, -⟩
  rw [cr_ok, cr_none]
  have H2 := Lib.hid (And.intro (H1.out.trans (hb2.mono H1.out.size)) ((HT1.out.below hb2).mono hb2.size))
  clear hb2 HF HT1 H1
  go_wp2_with fail
  go_loopw [23] (fun t wr => ∃ k : Nat, k ≤ 2 ∧ t = .int .i64 k ∧ Below w.heap.size w wr ∧ NRd wr wr.heap.size (.slice (some ⟨w.heap.size, 0, none⟩) 2 2) [2, 2]) (fun t _ => 2 - (intOf t).toNat)
  case atStart => exact ⟨0, by omega, rfl, H2.out.1, H2.out.2⟩
  case round =>
    obtain ⟨k, hk, rfl, hb, hT⟩ := hrel
    by_cases hk2 : k < 2
    · have i2 : (k : Int) < 2 := by omega
      have HB := Lib.hid (And.intro hb hT)
      have HC := Lib.hid (crossed_any wr)
      have hcp := cr_part hk2
      clear hb hT
      go_wp2_with fail
      refine HC.out.mono ?_
      rintro e w3 ⟨v3, rfl, ho3, hb3⟩
      have H3 := Lib.hid (And.intro (HB.out.1.trans (hb3.mono HB.out.1.size)) ((HB.out.2.below hb3).mono hb3.size))
      have HPA := Lib.hid (part_any H3.out.2 ho3.rd (k : Int))
      clear hb3 ho3 HC HB
      go_wp2_with fail
      refine HPA.out.mono ?_
      rintro e w4 ⟨v4, rfl, hb4, hr4⟩
      rw [hcp.1]
      have H4 := Lib.hid (And.intro (H3.out.1.trans (hb4.mono H3.out.1.size)) ((H3.out.2.below hb4).mono hb4.size))
      have HF4 := Lib.hid (sqfind_any H4.out.2 hr4 ((HP.out.on H4.out.1).mono H4.out.1.size))
      have HCP := Lib.hid hcp
      clear hb4 hr4 HPA H3 hcp
      go_wp2_with fail
      refine HF4.out.mono ?_
      rintro e w5 ⟨hb5, v5, rfl, -⟩
      rw [HCP.out.2.1, HCP.out.2.2]
      have H5 := Lib.hid (And.intro (H4.out.1.trans (hb5.mono H4.out.1.size)) ((H4.out.2.below hb5).mono hb5.size))
      have HOK := Lib.hid (ok_zero (IRd.fresh w5 25 [0, 0] 2 rfl #[.int .i64 0, .int .i64 0] rfl) (by decide) (by decide))
      clear hb5 HF4 H4
      go_wp2_with fail
      refine HOK.out.mono ?_
      rintro e w6 ⟨rfl, rfl⟩
      have hal : Below w5.heap.size w5 (w5.alloc (.cells #[.int .i64 0, .int .i64 0] 25)) := (Below.refl _ _).alloc (Nat.le_refl _) _
      have H6 := Lib.hid (And.intro (H5.out.1.trans (hal.mono H5.out.1.size)) ((H5.out.2.below hal).mono hal.size))
      clear hal HOK
      go_wp2_with fail
      go_roundw
      case rel => exact ⟨k + 1, by omega, by go_num, H6.out.1, H6.out.2⟩
      case measure => simp [intOf]; omega
    · obtain rfl : k = 2 := by omega
      have HB := Lib.hid (And.intro hb hT)
      have HC := Lib.hid (crossed_any wr)
      clear hb hT
      go_wp2_with fail
      refine HC.out.mono ?_
      rintro e w3 ⟨v3, rfl, ho3, hb3⟩
      have H3 := Lib.hid (And.intro (HB.out.1.trans (hb3.mono HB.out.1.size)) ((HB.out.2.below hb3).mono hb3.size))
      have HPA := Lib.hid (lparts_any H3.out.2 ho3.rd ((HP.out.on H3.out.1).mono H3.out.1.size))
      clear hb3 ho3 HC HB
      go_wp2_with fail
      refine HPA.out.mono ?_
      rintro e w4 ⟨hb4, ⟨h0, -⟩ | ⟨-, g, rfl, htab⟩⟩
      · exact absurd cr_open h0
      have hbl := htab.rd (by decide)
      rw [show ([2, 2] : List Int).length = 2 from rfl, cr_parts] at hbl
      have H4 := Lib.hid (H3.out.1.trans (hb4.mono H3.out.1.size))
      have HBL := Lib.hid hbl
      have HS := Lib.hid (sqlives_any w4 ((HP.out.on H4.out).mono H4.out.size))
      clear hb4 htab hbl HPA H3
      simp only [List.length_cons, List.length_nil, Nat.zero_add, Nat.reduceAdd]
      go_wp2_with fail
      refine HS.out.mono ?_
      rintro e w5 ⟨rfl, hb5⟩
      have H5 := Lib.hid (H4.out.trans (hb5.mono H4.out.size))
      have HBL5 := Lib.hid ((HBL.out.below hb5).mono hb5.size)
      have HOK := Lib.hid (ok_zero (IRd.fresh w5 25 [0, 0] 2 rfl #[.int .i64 0, .int .i64 0] rfl) (by decide) (by decide))
      clear hb5 HS HBL
      go_wp2_with fail
      refine HOK.out.mono ?_
      rintro e w6 ⟨rfl, rfl⟩
      have hal : Below w5.heap.size w5 ((w5.alloc (.cells #[.int .i64 0, .int .i64 0] 25)).alloc (.cells #[.bool false, .bool false] 4)) := ((Below.refl _ _).alloc (Nat.le_refl _) _).alloc (by simp) _
      have hn : BlRd ((w5.alloc (.cells #[.int .i64 0, .int .i64 0] 25)).alloc (.cells #[.bool false, .bool false] 4)) ((w5.alloc (.cells #[.int .i64 0, .int .i64 0] 25)).heap.size + 1) (.slice (some ⟨(w5.alloc (.cells #[.int .i64 0, .int .i64 0] 25)).heap.size, 0, none⟩) 2 2) [false, false] :=
        LRd.of_lit (f := blCs) (s := 1) (w := w5.alloc (.cells #[.int .i64 0, .int .i64 0] 25)) (l := [false, false]) (fun _ => rfl) 4 rfl (n := 2) rfl (by unfold maxLen; omega)
      rw [World.size_alloc] at hn
      have HEQ := Lib.hid (eqBl_any (HBL5.out.below hal) hn)
      have H6 := Lib.hid (H5.out.trans (hal.mono H5.out.size))
      clear hal hn HOK
      go_wp2_with fail
      refine HEQ.out.mono ?_
      rintro e w7 ⟨rfl, hb7⟩
      have H7 := Lib.hid (H6.out.trans (hb7.mono H6.out.size))
      clear hb7 HEQ
      go_wp2_with fail
      go_ret
      exact ⟨rfl, H7.out⟩
end Go.Proofs.YtecpjeililiafaaDoor

/-
  The tied card of alibkeep.SeqApart: whatever is handed in (the listed tables reading as the program's own text lays them), the law answers true and leaves its arguments as they were.
-/
namespace Go.Proofs.YtecpjeililiafaaDoor
open Go.ChangeShapes Go.WideShapes Go.ChangeAt Go.RowKit
set_option maxRecDepth 20000

theorem seqApart_knob : ownKnob Tryd.prog.godebug = none := by kernel_rfl

set_option maxRecDepth 100000 in
theorem seqApart_lifted (os : Os) (started : os.Started) (H : Type) (enc : TypeId × Value → H) :
    ReturnsInHanded {} Tryd.checked os 16 .any (fun w args => (Rows.seqApartSpec.pre enc Tryd.prog Tryd.f16 [] false w args ∧ laidMetH Tryd.prog tab3Laid w) ∧ sizedMet enc Tryd.prog Tryd.f16 (OpenSpec.ofChange Rows.seqApartSpec) false w args)
      (Rows.seqApartSpec.post enc Tryd.prog Tryd.f16 false true false false) := by
  refine returnsInHanded_of_change_and (C := Tryd.checked) (X := fun w _ => laidMetH Tryd.prog tab3Laid w) (fun _ _ _ hh h => h.of_heap hh) seqApart_knob started (by kernel_rfl) Tryd.func16
    (ChangeSpec.witness_shaped (enc := enc) (C := Tryd.checked) (os := os) (X := fun w _ => laidMetH Tryd.prog tab3Laid w) false (World.laidAll Tryd.prog os tab3Laid) #[] 8 (World.laidAll_os _ _ _)
      (World.shaped_of_ZipB (by kernel_rfl) (by kernel_rfl)) (by kernel_rfl) (by kernel_rfl) (by kernel_rfl)
      (by rw [MakeChecks.laidMetH_plain _ _ _ (by kernel_rfl)]; exact laidMet_laidAll _ (by kernel_rfl) (by kernel_rfl))) ?_
  intro W base args ds gs before hval0 hW _ _ hL _
  have hval : ∀ (j : Nat) t v, Tryd.f16.params[j]? = some t → args[j]? = some v → Value.okWide Tryd.prog W .any base t v := hval0
  have hW' := hW
  obtain ⟨p, q, hA0, hV, rfl, _, _⟩ := hW
  have hA : DataW.TrodAll enc Tryd.prog W 0 (fun _ => true) true Tryd.f16.params.toList args.toList ds p := hA0
  rw [Tryd.params16] at hA hval
  obtain ⟨rfl, rfl, rfl⟩ := trodAll_none hA
  obtain ⟨rfl, rfl⟩ := trodVars_none hV
  have hT := pow_of_laid hL
  clear hA0 hval0
  simp only [List.append_nil] at hW'
  refine (sapart_any hT).mono fun e W' ⟨he, hb⟩ => ?_
  subst he
  exact ⟨_, rfl, end_of_below (pa := []) (pv := []) hW' hb rfl (fun _ _ _ => trodAll_mk1 (shut_bool Tryd.underlying4 _)) (fun _ _ => rfl) (fun _ _ => rfl) (ok_one (by kernel_rfl) rfl (okWide_bool_mk Tryd.underlying4 _))⟩

theorem seqApart_holds : Rows.SeqApartSaid :=
  OpenClaim.holds_of_wide 16 Tryd.f16 rfl rfl rfl rfl rfl rfl rfl ⟨rfl, rfl, rfl, rfl, rfl⟩ rfl rfl rfl rfl rfl (by kernel_rfl) Tryd.func16 (by kernel_rfl)
    (of_decide_eq_true (by kernel_rfl)) (by unfold Func.isWrapper; first | (rw [if_pos (by decide +kernel)]; kernel_rfl) | (rw [if_neg (by decide +kernel)]; exact ⟨rfl, rfl⟩))
    (fun os started H enc _ => seqApart_lifted os started H enc)

theorem seqApart_card : Rows.SeqApartCardSaid :=
  Claim7.holds_tied_plain_at .later [] [.data, .data, .data] true Rows.seqApartCard.stood.harness false seqApart_holds (fun _ h => by cases h) (by kernel_rfl) (fun _ h => by cases h) seqApart_row_tie rfl ⟨rfl, rfl⟩ (by kernel_rfl) rfl
    (fun f fn hf hfn => by
      obtain rfl : f = 16 := Option.some.inj ((show Tryd.prog.funcNamed "alibi/alibkeep.SeqApart" = some 16 by kernel_rfl).symm.trans hf) |>.symm
      obtain rfl : fn = Tryd.f16 := (Option.some.inj (Tryd.func16.symm.trans hfn)).symm
      exact ⟨by kernel_rfl, fun j t ht => by
        rw [Tryd.params16] at ht
        simp at ht⟩)
    (by kernel_rfl)
#print axioms seqApart_card
end Go.Proofs.YtecpjeililiafaaDoor
