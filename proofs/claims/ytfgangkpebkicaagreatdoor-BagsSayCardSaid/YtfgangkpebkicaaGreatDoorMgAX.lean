/-
  Joined by a program out of: EqInt, EqAid, EqEv, BagLives, ContainsN.
-/
import Derived.Test.YtfgangkpebkicaaGreatDoorMgAA
import Derived.Test.YtfgangkpebkicaaGreatDoorProg
import Derived.WalkKit
import Derived.Laws.StructEq
import Derived.Test.YtfgangkpebkicaaGreatDoorMgAW
import Derived.Deep.CutRange
import Derived.Deep.QuietTactic
import Derived.BigQuiet
import Derived.Lib.Hide

/-
  slices.Equal of two lists of integers.
-/
namespace Go.Proofs.YtfgangkpebkicaaGreatDoor
open Go.RowKit
set_option maxRecDepth 20000
theorem ext_eq {α : Type} {xs ys : List α} (hl : xs.length = ys.length) (h : ∀ (j : Nat) (x y : α), xs[j]? = some x → ys[j]? = some y → x = y) : xs = ys := by
  apply List.ext_getElem hl
  intro j h1 h2
  exact h j _ _ (List.getElem?_eq_getElem h1) (List.getElem?_eq_getElem h2)
set_option maxHeartbeats 2000000 in
theorem eqInt_any {B1 B2 : Nat} {v1 v2 : Value} {xs ys : List Int} {w : World} (h1 : NRd w B1 v1 xs) (h2 : NRd w B2 v2 ys) :
    Calls Tryz.prog 15 #[v1, v2] w fun e w' => e = .returned (.bool (decide (xs = ys))) ∧ Below w.heap.size w w' := by
  obtain ⟨A1, c1, rfl, m1, m2⟩ := h1.is
  obtain ⟨A2, c2, rfl, m3, m4⟩ := h2.is
  unfold maxLen at m2 m4
  have H1 := Lib.hid h1
  have H2 := Lib.hid h2
  clear h1 h2
  obtain ⟨n, hn⟩ : ∃ n, n = xs.length := ⟨_, rfl⟩
  obtain ⟨n', hn'⟩ : ∃ n, n = ys.length := ⟨_, rfl⟩
  rw [← hn, ← hn']
  rw [← hn] at m1
  rw [← hn'] at m3
  have HN := Lib.hid hn
  have HN' := Lib.hid hn'
  clear hn hn'
  by_cases hl : n = n'
  · subst hl
    go_enter Tryz.func15, Tryz.ntmps15
    go_wp2_with fail
    go_loopw [13] (fun i wr => ∃ k : Nat, k ≤ n ∧ i = .int .i64 k ∧ (∀ (j : Nat) (x y : Int), j < k → xs[j]? = some x → ys[j]? = some y → x = y) ∧ ∃ nq, wr = w.drewN nq) (fun i _ => n - (intOf i).toNat)
    case atStart => exact ⟨0, by omega, rfl, fun j x y hj => by omega, 0, rfl⟩
    case round =>
      obtain ⟨k, hk, rfl, ha, nq, rfl⟩ := hrel
      have HA := Lib.hid ha
      clear ha
      by_cases hkn : k < n
      · obtain ⟨x, hx⟩ : ∃ x, xs[k]? = some x := ⟨_, List.getElem?_eq_getElem (by rw [← HN.out]; exact hkn)⟩
        obtain ⟨y, hy⟩ : ∃ y, ys[k]? = some y := ⟨_, List.getElem?_eq_getElem (by rw [← HN'.out]; exact hkn)⟩
        have h1' := H1.out
        have h2' := H2.out
        rw [← HN.out] at h1'
        rw [← HN'.out] at h2'
        obtain ⟨g1, o1, rfl, -, b0⟩ := h1'.num hx
        obtain ⟨g2, o2, rfl, -, d0⟩ := h2'.num hy
        have HX := Lib.hid (And.intro hx hy)
        clear h1' h2' hx hy
        have i1 : (0 : Int) ≤ (k : Int) := by omega
        have i2 : (k : Int) < (n : Int) := by omega
        by_cases hxy : x = y
        · have HXY := Lib.hid hxy
          subst hxy
          go_wp2_with fail
          go_quiet (fail)
          go_wp2_with fail
          go_roundw
          case rel => exact ⟨k + 1, by omega, by go_num, fun j a b hj ha hb => by
            rcases Nat.lt_or_ge j k with h | h
            · exact HA.out j a b h ha hb
            · obtain rfl : j = k := by omega
              rw [HX.out.1] at ha
              rw [HX.out.2] at hb
              exact Option.some.inj (ha.symm.trans hb), _, rfl⟩
          case measure => simp [intOf]; omega
        · have hz : (x != y) = true := by rw [bne_iff_ne]; exact hxy
          have HXY := Lib.hid hxy
          clear hxy
          go_wp2_with fail
          go_quiet (fail)
          go_wp2_with fail
          go_ret
          exact ⟨ret_bool (decide_eq_false (fun e => HXY.out (by
              have h1 := HX.out.1
              rw [e, HX.out.2] at h1
              exact (Option.some.inj h1).symm))).symm, belowN (belowN (Below.refl _ _) _) _⟩
      · obtain rfl : k = n := by omega
        go_wp2_with fail
        go_ret
        exact ⟨ret_bool (decide_eq_true (ext_eq (HN.out.symm.trans HN'.out) (fun j x y hx hy => HA.out j x y (by rw [HN.out]; exact (List.getElem?_eq_some_iff.1 hx).1) hx hy))).symm, belowN (Below.refl _ _) _⟩
  · have hz : ((n : Int) != (n' : Int)) = true := by rw [bne_iff_ne]; omega
    have hne : decide (xs = ys) = false := decide_eq_false (fun e => hl (by rw [HN.out, HN'.out, e]))
    rw [hne]
    clear hne hl
    go_enter Tryz.func15, Tryz.ntmps15
    go_wp2_with fail
    go_ret
    exact ⟨rfl, Below.refl _ _⟩
theorem eqInt_same {B1 B2 : Nat} {v1 v2 : Value} {xs : List Int} {w : World} (h1 : NRd w B1 v1 xs) (h2 : NRd w B2 v2 xs) :
    Calls Tryz.prog 15 #[v1, v2] w fun e w' => e = .returned (.bool true) ∧ Below w.heap.size w w' := by
  have := eqInt_any h1 h2
  rwa [decide_eq_true rfl] at this
end Go.Proofs.YtfgangkpebkicaaGreatDoor

/-
  Two lists that are the same at each place.
-/
namespace Go.Proofs.YtfgangkpebkicaaGreatDoor
set_option maxRecDepth 20000
theorem take_eq {α : Type} {xs ys : List α} (hl : xs.length = ys.length) (h : ∀ (j : Nat) (x y : α), xs[j]? = some x → ys[j]? = some y → x = y) : xs = ys := by
  apply List.ext_getElem hl
  intro j h1 h2
  exact h j _ _ (List.getElem?_eq_getElem h1) (List.getElem?_eq_getElem h2)
end Go.Proofs.YtfgangkpebkicaaGreatDoor

/-
  slices.Equal of two lists of events.
-/
namespace Go.Proofs.YtfgangkpebkicaaGreatDoor
open Go.RowKit
set_option maxRecDepth 20000
/-- The first field in which two events differ. -/
theorem ev_ne (x0 x1 x2 x3 y0 y1 y2 y3 : Int) (h : (⟨x0, x1, x2, x3⟩ : Ev) ≠ ⟨y0, y1, y2, y3⟩) :
    (x0 == y0) = false ∨ (x0 = y0 ∧ (x1 == y1) = false) ∨ (x0 = y0 ∧ x1 = y1 ∧ (x2 == y2) = false) ∨ (x0 = y0 ∧ x1 = y1 ∧ x2 = y2 ∧ (x3 == y3) = false) := by
  simp only [beq_eq_false_iff_ne]
  by_cases h0 : x0 = y0
  · by_cases h1 : x1 = y1
    · by_cases h2 : x2 = y2
      · by_cases h3 : x3 = y3
        · exact absurd (Ev.same h0 h1 h2 h3) h
        · simp [*]
      · simp [*]
    · simp [*]
  · simp [*]
set_option maxHeartbeats 2000000 in
theorem eqEv_any {B1 B2 : Nat} {v1 v2 : Value} {xs ys : List Ev} {w : World} (h1 : ERd w B1 v1 xs) (h2 : ERd w B2 v2 ys) :
    Calls Tryz.prog 12 #[v1, v2] w fun e w' => e = .returned (.bool (decide (xs = ys))) ∧ Below w.heap.size w w' := by
  obtain ⟨A1, c1, rfl, m1, m2⟩ := h1.is
  obtain ⟨A2, c2, rfl, m3, m4⟩ := h2.is
  unfold maxLen at m2 m4
  have H1 := Lib.hid h1
  have H2 := Lib.hid h2
  clear h1 h2
  obtain ⟨n, hn⟩ : ∃ n, n = xs.length := ⟨_, rfl⟩
  obtain ⟨n', hn'⟩ : ∃ n, n = ys.length := ⟨_, rfl⟩
  rw [← hn, ← hn']
  rw [← hn] at m1
  rw [← hn'] at m3
  have HN := Lib.hid hn
  have HN' := Lib.hid hn'
  clear hn hn'
  by_cases hl : n = n'
  · subst hl
    go_enter Tryz.func12, Tryz.ntmps12
    go_wp2_with fail
    go_loopw [13] (fun i wr => ∃ k : Nat, k ≤ n ∧ i = .int .i64 k ∧ (∀ (j : Nat) (x y : Ev), j < k → xs[j]? = some x → ys[j]? = some y → x = y) ∧ ∃ nq, wr = w.drewN nq) (fun i _ => n - (intOf i).toNat)
    case atStart => exact ⟨0, by omega, rfl, fun j x y hj => by omega, 0, rfl⟩
    case round =>
      obtain ⟨k, hk, rfl, ha, nq, rfl⟩ := hrel
      have HA := Lib.hid ha
      clear ha
      by_cases hkn : k < n
      · obtain ⟨x, hx⟩ : ∃ x, xs[k]? = some x := ⟨_, List.getElem?_eq_getElem (by rw [← HN.out]; exact hkn)⟩
        obtain ⟨y, hy⟩ : ∃ y, ys[k]? = some y := ⟨_, List.getElem?_eq_getElem (by rw [← HN'.out]; exact hkn)⟩
        have h1' := H1.out
        have h2' := H2.out
        rw [← HN.out] at h1'
        rw [← HN'.out] at h2'
        obtain ⟨g1, o1, rfl, -, b0, b1, b2, b3⟩ := h1'.ev hx
        obtain ⟨g2, o2, rfl, -, d0, d1, d2, d3⟩ := h2'.ev hy
        have HX := Lib.hid (And.intro hx hy)
        clear h1' h2' hx hy
        have i1 : (0 : Int) ≤ (k : Int) := by omega
        have i2 : (k : Int) < (n : Int) := by omega
        by_cases hxy : x = y
        · have HXY := Lib.hid hxy
          subst hxy
          obtain ⟨x0, x1, x2, x3⟩ := x
          go_wp2_with fail
          go_quiet (fail)
          go_wp2_with fail
          go_roundw
          case rel => exact ⟨k + 1, by omega, by go_num, fun j a b hj ha hb => by
            rcases Nat.lt_or_ge j k with h | h
            · exact HA.out j a b h ha hb
            · obtain rfl : j = k := by omega
              rw [HX.out.1] at ha
              rw [HX.out.2] at hb
              exact Option.some.inj (ha.symm.trans hb), _, rfl⟩
          case measure => simp [intOf]; omega
        · obtain ⟨x0, x1, x2, x3⟩ := x
          obtain ⟨y0, y1, y2, y3⟩ := y
          simp only at b0 b1 b2 b3 d0 d1 d2 d3
          have hz := ev_ne _ _ _ _ _ _ _ _ hxy
          have HXY := Lib.hid hxy
          clear hxy
          rcases hz with hz | ⟨rfl, hz⟩ | ⟨rfl, rfl, hz⟩ | ⟨rfl, rfl, rfl, hz⟩
          all_goals (
            go_wp2_with fail
            go_quiet (fail)
            go_wp2_with fail
            go_ret
            exact ⟨ret_bool (decide_eq_false (fun e => HXY.out (by
              have h1 := HX.out.1
              rw [e, HX.out.2] at h1
              exact (Option.some.inj h1).symm))).symm, belowN (belowN (Below.refl _ _) _) _⟩)
      · obtain rfl : k = n := by omega
        go_wp2_with fail
        go_ret
        exact ⟨ret_bool (decide_eq_true (take_eq (HN.out.symm.trans HN'.out) (fun j x y hx hy => HA.out j x y (by rw [HN.out]; exact (List.getElem?_eq_some_iff.1 hx).1) hx hy))).symm, belowN (Below.refl _ _) _⟩
  · have hz : ((n : Int) != (n' : Int)) = true := by rw [bne_iff_ne]; omega
    have hne : decide (xs = ys) = false := decide_eq_false (fun e => hl (by rw [HN.out, HN'.out, e]))
    rw [hne]
    clear hne hl
    go_enter Tryz.func12, Tryz.ntmps12
    go_wp2_with fail
    go_ret
    exact ⟨rfl, Below.refl _ _⟩
end Go.Proofs.YtfgangkpebkicaaGreatDoor

/-
  alibkeep.bagsLives answers true.
-/
namespace Go.Proofs.YtfgangkpebkicaaGreatDoor
open Go.RowKit
set_option maxRecDepth 20000

/-- What is done. -/
abbrev bgD : List (Int × Int × Int) := [(7, 1, 1), (7, 2, 1), (7, 1, 1)]
abbrev bgCs (d : Int × Int × Int) : List Value := [.int .i64 d.1, .int .i64 d.2.1, .int .i64 d.2.2]
def evsB (l : List (Int × Int × Int)) : List Ev := l.flatMap fun d => [⟨0, 0, d.1, d.2.1⟩, ⟨0, 0, 0, d.2.2⟩]
abbrev bgE : List Ev := [⟨0, 0, 7, 1⟩, ⟨0, 0, 0, 1⟩, ⟨0, 0, 7, 2⟩, ⟨0, 0, 0, 1⟩, ⟨0, 0, 7, 1⟩, ⟨0, 0, 0, 1⟩]
def bg4 : List Ev := bgE.take 4
def bg2 : List Ev := [⟨0, 0, 7, 2⟩, ⟨0, 0, 0, 1⟩]
theorem evsB_take {l : List (Int × Int × Int)} {k : Nat} {d : Int × Int × Int} (h : l[k]? = some d) : evsB (l.take (k + 1)) = evsB (l.take k) ++ [⟨0, 0, d.1, d.2.1⟩, ⟨0, 0, 0, d.2.2⟩] := by
  unfold evsB
  rw [List.take_add_one, h, List.flatMap_append]
  rfl
theorem evsB_len : ∀ l : List (Int × Int × Int), (evsB l).length = 2 * l.length
  | [] => rfl
  | d :: r => by
    have := evsB_len r
    unfold evsB at this ⊢
    rw [List.flatMap_cons, List.length_append, this, List.length_cons]
    simp only [List.length_cons, List.length_nil]
    omega
theorem bad_of {l : List Ev} (h : (callsOf [4] l).2.2 = 0) {v : Int} (h9 : linE l v = 0) : badV (callsOf [4] l).1 v = !linB l v := by
  rw [linB_iff h h9, Bool.not_not]
theorem bg_ok : (callsOf [4] bgE).2.2 = 0 := by decide +kernel
theorem bg_E : bagsE bgE = 0 := by decide +kernel
theorem bg_args : ∀ c ∈ (callsOf [4] bgE).1, c.arg = 1 ∨ c.arg = 2 := by decide +kernel
theorem bg_one : ∃ c ∈ (callsOf [4] bgE).1, c.arg = 1 := by decide +kernel
theorem bg_l1 : linB bgE 1 = false := by decide +kernel
theorem bg_l2 : linB bgE 2 = true := by decide +kernel
theorem bg_B : bagB bgE = [1] := by
  refine inc_ext (bagB_up _) (List.pairwise_singleton _ _) fun x => ?_
  rw [bagB_mem bg_ok, ← badV_iff, List.mem_singleton]
  constructor
  · rintro ⟨⟨c, hc, rfl⟩, h2⟩
    rcases bg_args c hc with e | e
    · exact e
    · rw [e, bad_of bg_ok (by decide +kernel), bg_l2] at h2
      cases h2
  · rintro rfl
    refine ⟨bg_one, ?_⟩
    rw [bad_of bg_ok (by decide +kernel), bg_l1]
    rfl
theorem bg4_ok : (callsOf [4] bg4).2.2 = 0 := by decide +kernel
theorem bg4_E : bagsE bg4 = 0 := by decide +kernel
theorem bg4_args : ∀ c ∈ (callsOf [4] bg4).1, c.arg = 1 ∨ c.arg = 2 := by decide +kernel
theorem bg4_l1 : linB bg4 1 = true := by decide +kernel
theorem bg4_l2 : linB bg4 2 = true := by decide +kernel
theorem bg4_B : bagB bg4 = [] := by
  refine List.eq_nil_iff_forall_not_mem.2 fun x hx => ?_
  rw [bagB_mem bg4_ok, ← badV_iff] at hx
  obtain ⟨⟨c, hc, rfl⟩, h2⟩ := hx
  rcases bg4_args c hc with e | e
  · rw [e, bad_of bg4_ok (by decide +kernel), bg4_l1] at h2
    cases h2
  · rw [e, bad_of bg4_ok (by decide +kernel), bg4_l2] at h2
    cases h2
theorem bg_P : bagP bgE 2 = (bg2, 0) := by decide +kernel
theorem bg_forms {w w' : World} {e : Ending} (h : BCheck w bgE e w') : Below w.heap.size w w' ∧ ∃ A c, e = .returned (.tuple #[.slice A 1 c, .int .i64 0]) ∧ NRd w' w'.heap.size (.slice A 1 c) [1] := by
  obtain ⟨hb, v, he, ho⟩ := h
  rw [bg_E] at he
  have hl : bagLst bgE = [1] := by unfold bagLst; rw [if_pos bg_E]; exact bg_B
  rw [hl] at ho
  obtain ⟨A, c, rfl, -, -⟩ := ho.rd.is
  exact ⟨hb, A, c, he, ho.rd⟩
theorem bg4_forms {w w' : World} {e : Ending} (h : BCheck w bg4 e w') : Below w.heap.size w w' ∧ ∃ A c, e = .returned (.tuple #[.slice A 0 c, .int .i64 0]) := by
  obtain ⟨hb, v, he, ho⟩ := h
  rw [bg4_E] at he
  have hl : bagLst bg4 = [] := by unfold bagLst; rw [if_pos bg4_E]; exact bg4_B
  rw [hl] at ho
  obtain ⟨A, c, rfl, -, -⟩ := ho.rd.is
  exact ⟨hb, A, c, he⟩
theorem bg2_forms {w w' : World} {e : Ending} (h : BPart w (bagP bgE 2) e w') : Below w.heap.size w w' ∧ ∃ A c, e = .returned (.tuple #[.slice A 2 c, .int .i64 0]) ∧ ERd w' w'.heap.size (.slice A 2 c) bg2 := by
  rw [bg_P] at h
  obtain ⟨v, he, hb, ho⟩ := h
  obtain ⟨A, c, rfl, -, -⟩ := ho.rd.is
  exact ⟨hb, A, c, he, ho.rd⟩
structure BgR (w : World) (v : Value) (k : Nat) (W : World) : Prop where
  below : Below w.heap.size w W
  dos : LRd 3 bgCs W (w.heap.size + 1) (.slice (some ⟨w.heap.size, 0, none⟩) 3 3) bgD
  own : EOwn W (w.heap.size + 1) v (evsB (bgD.take k))
  sz : w.heap.size + 1 ≤ W.heap.size
theorem BgR.next {w : World} {v : Value} {k : Nat} {W w' : World} (h : BgR w v k W) (hb : Below W.heap.size W w') : BgR w v k w' :=
  ⟨h.below.trans (hb.mono h.below.size), h.dos.below (hb.mono h.sz), h.own.then_ hb, Nat.le_trans h.sz hb.size⟩
set_option maxHeartbeats 8000000 in
theorem blives_any (w : World) (hp : Pow10 w.heap.size w) : Calls Tryz.prog 16 #[] w fun e w' => e = .returned (.bool true) ∧ Below w.heap.size w w' := by
  have h0 : BgR w (.slice none 0 0) 0 (w.alloc (.cells #[.int .i64 7, .int .i64 1, .int .i64 1, .int .i64 7, .int .i64 2, .int .i64 1, .int .i64 7, .int .i64 1, .int .i64 1] 70)) := by
    refine ⟨(Below.refl _ _).alloc (Nat.le_refl _) _, ?_, ⟨rfl, .inl ⟨rfl, rfl⟩⟩, by simp⟩
    exact LRd.of_lit (f := bgCs) (s := 3) (w := w) (l := bgD) (fun _ => rfl) 70 (cs := #[.int .i64 7, .int .i64 1, .int .i64 1, .int .i64 7, .int .i64 2, .int .i64 1, .int .i64 7, .int .i64 1, .int .i64 1]) rfl (n := 3) rfl (by unfold maxLen; omega)
  have H0 := Lib.hid h0
  have HP := Lib.hid hp
  clear h0 hp
  go_enter Tryz.func16, Tryz.ntmps16
  go_wp2_with fail
  have h0 := H0.out
  clear H0
  change Code.wp _ _ _ _ (w.alloc (.cells #[.int .i64 7, .int .i64 1, .int .i64 1, .int .i64 7, .int .i64 2, .int .i64 1, .int .i64 7, .int .i64 1, .int .i64 1] 70))
  generalize w.alloc (.cells #[.int .i64 7, .int .i64 1, .int .i64 1, .int .i64 7, .int .i64 2, .int .i64 1, .int .i64 7, .int .i64 1, .int .i64 1] 70) = W at h0 ⊢
  go_loopw [1, 15] (fun v i wr => ∃ k : Nat, k ≤ 3 ∧ i = .int .i64 k ∧ BgR w v k wr) (fun _ i _ => 3 - (intOf i).toNat)
  case atStart => exact ⟨0, by omega, rfl, h0⟩
  case round =>
    clear h0
    obtain ⟨k, hk, rfl, hO⟩ := hrel
    by_cases hkn : k < 3
    · obtain ⟨d, hd⟩ : ∃ d, bgD[k]? = some d := ⟨_, List.getElem?_eq_getElem (by simpa using hkn)⟩
      obtain ⟨g, o, hA, -, hc⟩ := LRd.at_ hO.dos hd
      injection hA with hA
      injection hA with hA1 hA2
      subst hA1 hA2
      have d0 := hc 0 _ rfl
      have d1 := hc 1 _ rfl
      have d2 := hc 2 _ rfl
      have het := evsB_take hd
      obtain ⟨x0, x1, x2⟩ := d
      simp only [Nat.zero_add, Nat.add_zero] at d0 d1 d2 het
      have i1 : (0 : Int) ≤ (k : Int) := by omega
      have i2 : (k : Int) < 3 := by omega
      have hal : Below wr.heap.size wr (wr.alloc (.cells #[.int .i64 x0, .int .i64 x1, .int .i64 x2] 70)) := (Below.refl _ _).alloc (Nat.le_refl _) _
      have HO := Lib.hid (And.intro (hO.next hal) (And.intro (Lies.new wr 70 #[.int .i64 x0, .int .i64 x1, .int .i64 x2]) het))
      clear hO hd hal het hc
      go_upto_region 5 with fail
      clear d0 d1 d2
      change Code.wp _ _ _ _ (wr.alloc (.cells #[.int .i64 x0, .int .i64 x1, .int .i64 x2] 70))
      generalize wr.alloc (.cells #[.int .i64 x0, .int .i64 x1, .int .i64 x2] 70) = W2 at HO ⊢
      generalize wr.heap.size = Y at HO ⊢
      have e0 := Lies.cell HO.out.2.1 0
      have e1 := Lies.cell HO.out.2.1 1
      have e2 := Lies.cell HO.out.2.1 2
      simp only [List.getElem?_toArray, List.getElem?_cons_zero, List.getElem?_cons_succ] at e0 e1 e2
      have hO4 := HO.out.1.next ((Below.refl _ _).alloc (Nat.le_refl _) (.cells #[.int .i64 0, .int .i64 0, .int .i64 x0, .int .i64 x1, .int .i64 0, .int .i64 0, .int .i64 0, .int .i64 x2] 37))
      have hown := hO4.own
      have hsz := hO4.sz
      have hnew := new_cells W2 37 (evCs ⟨0, 0, x0, x1⟩ ++ evCs ⟨0, 0, 0, x2⟩)
      have hlen : (evsB (bgD.take k)).length ≤ 65536 := by
        rw [evsB_len, List.length_take]
        omega
      obtain ⟨Av, cv, hvv⟩ := own_sliceE hO4.own
      have HZ := Lib.hid (And.intro hO4 HO.out.2.2)
      obtain ⟨acc, hacc⟩ : ∃ acc, acc = evsB (bgD.take k) := ⟨_, rfl⟩
      have HACC := Lib.hid hacc
      rw [← hacc] at hown hlen hvv
      rw [hvv] at hown ⊢
      clear hO4 hacc
      go_wp2_with (at_builtin; refine wpList_app_ev2 rfl (.tmp 19) (.tmp 28) rfl (w.heap.size + 1) W2.heap.size _ acc ⟨0, 0, x0, x1⟩ ⟨0, 0, 0, x2⟩ rfl rfl hown hnew hlen hsz ?_; intro v' w7 ho7 hb7 _)
      go_roundw
      case rel => exact ⟨k + 1, by omega, by go_num, ⟨HZ.out.1.below.trans (hb7.mono (by omega)), HZ.out.1.dos.below hb7, by rw [HZ.out.2, ← HACC.out]; exact ho7, Nat.le_trans HZ.out.1.sz hb7.size⟩⟩
      case measure => simp [intOf]; omega
    · obtain rfl : k = 3 := by omega
      have hown : EOwn wr (w.heap.size + 1) u1 bgE := hO.own
      obtain ⟨Av, cv, hvv, hcl, hcm⟩ := hown.rd.is
      have hv2 : u1 = .slice Av 6 cv := hvv
      have hc6 : (6 : Nat) ≤ cv := hcl
      unfold maxLen at hcm
      subst hv2
      have hrd : ERd wr wr.heap.size (.slice Av 6 cv) bgE := hown.rd
      obtain ⟨g, o, rfl, -⟩ := LRd.at_ hrd (k := 0) rfl
      have HC := Lib.hid (bcheck_any hrd ((HP.out.on hO.below).mono hO.below.size))
      have H1 := Lib.hid (And.intro hO.below hrd)
      clear hO hown hvv hcl hrd hkn
      go_wp2_with fail
      refine HC.out.mono ?_
      intro e w2 hck
      obtain ⟨hb2, A2, c2, rfl, hr2⟩ := bg_forms hck
      have hbw := H1.out.1.trans (hb2.mono H1.out.1.size)
      have hl2 := (H1.out.2.below hb2).mono hb2.size
      have HC4 := Lib.hid (bcheck_any (l := bg4) (hl2.take_ (n := 4) (by decide)) ((HP.out.on hbw).mono hbw.size))
      have H2 := Lib.hid (And.intro hbw (And.intro hl2 hr2))
      clear hb2 hbw hl2 hr2 hck HC H1
      go_wp2_with fail
      refine HC4.out.mono ?_
      intro e w3 hck
      obtain ⟨hb3, A3, c3, rfl⟩ := bg4_forms hck
      have hl3 := (H2.out.2.1.below hb3).mono hb3.size
      have HPT := Lib.hid (bpart_any hl3 2)
      have H3 := Lib.hid (And.intro (H2.out.1.trans (hb3.mono H2.out.1.size)) (And.intro hl3 ((H2.out.2.2.below hb3).mono hb3.size)))
      clear hb3 hl3 hck HC4 H2
      go_wp2_with fail
      refine HPT.out.mono ?_
      intro e w4 hck
      obtain ⟨hb4, A4, c4, rfl, hr4⟩ := bg2_forms hck
      have hal2 : Below w4.heap.size w4 (w4.alloc (.cells #[.int .i64 0, .int .i64 0, .int .i64 0] 23)) := (Below.refl _ _).alloc (Nat.le_refl _) _
      have hbw := H3.out.1.trans (hb4.mono H3.out.1.size)
      have H4 := Lib.hid (And.intro (hbw.trans (hal2.mono hbw.size)) (And.intro ((((H3.out.2.1.below hb4).mono hb4.size).below hal2).mono hal2.size) (And.intro ((((H3.out.2.2.below hb4).mono hb4.size).below hal2).mono hal2.size) ((hr4.below hal2).mono hal2.size))))
      have HOK := Lib.hid (ok_zero (IRd.fresh w4 23 [0, 0, 0] 3 rfl #[.int .i64 0, .int .i64 0, .int .i64 0] rfl) (by decide) (by decide))
      clear hb4 hal2 hbw hr4 hck HPT H3
      go_wp2_with fail
      refine HOK.out.mono ?_
      rintro e w5 ⟨rfl, rfl⟩
      generalize w4.alloc (.cells #[.int .i64 0, .int .i64 0, .int .i64 0] 23) = W5 at H4 ⊢
      have hal : Below W5.heap.size W5 (W5.alloc (.cells #[.int .i64 1] 3)) := (Below.refl _ _).alloc (Nat.le_refl _) _
      have hN : NRd (W5.alloc (.cells #[.int .i64 1] 3)) (W5.heap.size + 1) (.slice (some ⟨W5.heap.size, 0, none⟩) 1 1) [1] :=
        LRd.of_lit (f := intCs) (s := 1) (w := W5) (l := [1]) (fun _ => rfl) 3 (cs := #[.int .i64 1]) rfl (n := 1) rfl (by unfold maxLen; omega)
      have HEQ := Lib.hid (eqInt_same (H4.out.2.2.1.below hal) hN)
      have H5 := Lib.hid (And.intro (H4.out.1.trans (hal.mono H4.out.1.size)) (And.intro ((H4.out.2.1.below hal).mono hal.size) ((H4.out.2.2.2.below hal).mono hal.size)))
      clear hal hN HOK H4
      go_wp2_with fail
      refine HEQ.out.mono ?_
      rintro e w6 ⟨rfl, hb6⟩
      have hl6 := (H5.out.2.1.below hb6).mono hb6.size
      have hd6 := (LRd.drop_ hl6 (k := 2) (by omega)).take_ (n := 2) (by decide)
      have HEV := Lib.hid (eqEv_any ((H5.out.2.2.below hb6).mono hb6.size) hd6)
      have H6 := Lib.hid (H5.out.1.trans (hb6.mono H5.out.1.size))
      clear hb6 hl6 hd6 HEQ H5
      go_wp2_with fail
      refine HEV.out.mono ?_
      rintro e w7 ⟨rfl, hb7⟩
      have hdec : decide (bg2 = (bgE.drop 2).take 2) = true := by decide +kernel
      rw [hdec]
      have H7 := Lib.hid (H6.out.trans (hb7.mono H6.out.size))
      clear hb7 hdec HEV H6
      go_wp2_with fail
      go_ret
      exact ⟨rfl, H7.out⟩
end Go.Proofs.YtfgangkpebkicaaGreatDoor

/-
  slices.Contains over integers, however many.
-/
namespace Go.Proofs.YtfgangkpebkicaaGreatDoor
open Go.RowKit
set_option maxRecDepth 20000
theorem indexN_any {B : Nat} {v : Value} {xs : List Int} {w : World} (h : NRd w B v xs) (hB : B ≤ w.heap.size) (x : Int) :
    Calls Tryz.prog 34 #[v, .int .i64 x] w fun e w' => ∃ r : Int, e = .returned (.int .i64 r) ∧ ((0 ≤ r ∧ x ∈ xs) ∨ (r = -1 ∧ x ∉ xs)) ∧ Below w.heap.size w w' := by
  obtain ⟨A, cap, rfl, m1, m2⟩ := h.is
  unfold maxLen at m2
  obtain ⟨L, hL⟩ : ∃ L, L = xs.length := ⟨_, rfl⟩
  rw [← hL] at h m1 ⊢
  have HC := Lib.hid (And.intro h (And.intro hL hB))
  have m3 : (L : Int) ≤ 9223372036854775807 := by omega
  clear h hL m1 m2 hB
  go_enter Tryz.func34, Tryz.ntmps34
  go_wp2_with fail
  go_loopw [8] (fun i wr => ∃ k : Nat, k ≤ L ∧ i = .int .i64 k ∧ (∀ (j : Nat) (y : Int), j < k → xs[j]? = some y → y ≠ x) ∧ Below w.heap.size w wr) (fun i _ => L - (intOf i).toNat)
  case atStart => exact ⟨0, by omega, rfl, fun j y hj => by omega, Below.refl _ _⟩
  case round =>
    obtain ⟨k, hk, rfl, ha, hb⟩ := hrel
    by_cases hkn : k < L
    · obtain ⟨y, hy⟩ : ∃ y, xs[k]? = some y := ⟨_, List.getElem?_eq_getElem (by rw [← HC.out.2.1]; exact hkn)⟩
      obtain ⟨g, o, hA, hg, d1⟩ := (HC.out.1.below (hb.mono HC.out.2.2)).num hy
      subst hA
      have i1 : (0 : Int) ≤ (k : Int) := by omega
      have i2 : (k : Int) < (L : Int) := by omega
      have HA := Lib.hid (And.intro ha (And.intro hb hy))
      clear ha hb hy
      by_cases hxy : x = y
      · have hz : (x == y) = true := by rw [beq_iff_eq]; exact hxy
        have HX := Lib.hid hxy
        clear hxy
        go_wp2_with fail
        go_ret
        exact ⟨k, rfl, .inl ⟨i1, by rw [HX.out]; exact List.mem_of_getElem? HA.out.2.2⟩, HA.out.2.1⟩
      · have hz : (x == y) = false := by rw [beq_eq_false_iff_ne]; exact hxy
        have HX := Lib.hid hxy
        clear hxy
        go_wp2_with fail
        go_roundw
        case rel => exact ⟨k + 1, by omega, by go_num, fun j u hj hu => by
          rcases Nat.lt_or_ge j k with h | h
          · exact HA.out.1 j u h hu
          · obtain rfl : j = k := by omega
            rw [HA.out.2.2] at hu
            injection hu with hu
            rw [← hu]
            exact fun e => HX.out e.symm, HA.out.2.1⟩
        case measure => simp [intOf]; omega
    · obtain rfl : L = k := by omega
      have HA := Lib.hid (And.intro ha hb)
      clear ha hb
      go_wp2_with fail
      go_ret
      refine ⟨-1, rfl, .inr ⟨rfl, fun hm => ?_⟩, HA.out.2⟩
      obtain ⟨j, hj, e⟩ := List.getElem_of_mem hm
      exact HA.out.1 j _ (by rw [HC.out.2.1]; exact hj) (List.getElem?_eq_getElem hj) e
theorem containsN_any {B : Nat} {v : Value} {xs : List Int} {w : World} (h : NRd w B v xs) (hB : B ≤ w.heap.size) (x : Int) :
    Calls Tryz.prog 18 #[v, .int .i64 x] w fun e w' => e = .returned (.bool (decide (x ∈ xs))) ∧ Below w.heap.size w w' := by
  have hi := Lib.hid (indexN_any h hB x)
  obtain ⟨A, cap, rfl, -, -⟩ := h.is
  clear h hB
  obtain ⟨P, hP⟩ : ∃ P, P = decide (x ∈ xs) := ⟨_, rfl⟩
  rw [← hP]
  have HP := Lib.hid hP
  clear hP
  generalize xs.length = L at hi ⊢
  go_enter Tryz.func18, Tryz.ntmps18
  go_wp2_with fail
  refine hi.out.mono ?_
  rintro e w1 ⟨r, rfl, hr, hb⟩
  have HB := Lib.hid hb
  clear hi hb
  rcases hr with ⟨h0, hm⟩ | ⟨rfl, hm⟩
  · have hP2 : P = true := by rw [HP.out]; exact decide_eq_true hm
    subst hP2
    clear hm HP
    go_wp2_with fail
    go_ret
    exact ⟨rfl, HB.out⟩
  · have hP2 : P = false := by rw [HP.out]; exact decide_eq_false hm
    subst hP2
    clear hm HP
    go_wp2_with fail
    go_ret
    exact ⟨rfl, HB.out⟩
end Go.Proofs.YtfgangkpebkicaaGreatDoor
