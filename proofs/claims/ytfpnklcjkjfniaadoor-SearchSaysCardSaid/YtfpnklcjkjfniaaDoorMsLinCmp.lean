/-
  Joined by a program out of: LoAll, LinCmp.
-/
import Derived.Test.YtfpnklcjkjfniaaDoorMsLo
import Derived.Test.YtfpnklcjkjfniaaDoorMgAT

/-
  Contract of the reference's LeastOrder, from any legal begin on.
-/
namespace Go.Proofs.YtfpnklcjkjfniaaDoor
open Go.RowKit
set_option maxRecDepth 20000

theorem tryG_none {b : Nat → Nat} {ts : List Int} {cs : List Cl} {p : Pt} : ∀ m k, tryG b (fun _ => none) ts cs p m k = none
  | 0, k => rfl
  | m + 1, k => by
    rw [tryG, tryG_none m (k + 1)]
    split <;> rfl
theorem lo_any {ts : List Int} {cs : List Cl} {r b : Nat → Nat} (hn : cs.length ≤ 12) (hirr : ∀ i, (r i).testBit i = false) (hty : ∀ t ∈ ts, 1 ≤ t ∧ t ≤ 5) (hok : ∀ c ∈ cs, CallOk ts c)
    (hb : ∀ k, k < cs.length → ∀ i, i < cs.length → ((b k).testBit i = (r i).testBit k)) (hb2 : ∀ k i, cs.length ≤ i → (b k).testBit i = false) :
    ∀ (f : Nat) (ws : List (Int × Int)) (p : Pt), Legal ts cs r ws p → cs.length ≤ ws.length + f → ∀ {w : World} {tv cv : Value} {a : Addr} {M c : Nat}, NRd w w.heap.size tv ts → CRd w w.heap.size cv cs → SRd w w.heap.size (.slice (some a) M c) ws →
      Calls Tryd.prog 19 #[tv, cv, relV cs.length r, .slice (some a) M c] w (LoPost w (findG b ts cs f p) ws)
  | 0, ws, p, hleg, hlen, w, tv, cv, a, M, c, ht, hc, hw => by
    have h := lo_core hn hirr hty hok hb hb2 hleg (go := fun _ => none) (fun k hk hm => by
      exfalso
      have h1 := (mayG_iff hleg.small (by omega) (hb k hk) (hb2 k)).1 hm
      have hnm : ¬ (k : Int) ∈ ws.map (·.1) := fun hmm => by rw [(hleg.done k hk).2 hmm] at h1; cases h1.1
      have h2 := nodup_lt cs.length (l := (k : Int) :: ws.map (·.1)) (List.nodup_cons.2 ⟨hnm, hleg.once⟩) (fun z hz => by
        rcases List.mem_cons.1 hz with rfl | hz
        · exact ⟨by omega, by omega⟩
        · obtain ⟨x, hx, rfl⟩ := List.mem_map.1 hz
          exact hleg.rng x hx)
      rw [List.length_cons, List.length_map] at h2
      omega) ht hc hw
    rw [tryG_none] at h
    exact h
  | f + 1, ws, p, hleg, hlen, w, tv, cv, a, M, c, ht, hc, hw =>
    lo_core hn hirr hty hok hb hb2 hleg (go := findG b ts cs f) (fun k hk hm => by
      intro w tv cv a N c h1 h2 h3
      obtain ⟨m1, m2, m3, m4⟩ := (mayG_iff hleg.small (by omega) (hb k hk) (hb2 k)).1 hm
      exact lo_any hn hirr hty hok hb hb2 f _ _ (hleg.next hk (by omega) (hirr k) (hok _ (List.mem_of_getElem? (getD_some hk))).thing m1 m2 m3 m4) (by rw [List.length_append]; simp; omega) h1 h2 h3) ht hc hw
theorem riteP_congr {ts : List Int} {cs : List Cl} {p q : Nat → Nat → Bool} {ws : List (Int × Int)} (h : ∀ i j, i < cs.length → j < cs.length → p i j = q i j) : RiteP ts cs p ws ↔ RiteP ts cs q ws :=
  ⟨fun k => ⟨k.rng, k.once, k.res, k.all, fun i j hi hj hp => k.ord i j hi hj (by rw [h i j hi hj]; exact hp), k.goes⟩, fun k => ⟨k.rng, k.once, k.res, k.all, fun i j hi hj hp => k.ord i j hi hj (by rw [← h i j hi hj]; exact hp), k.goes⟩⟩
end Go.Proofs.YtfpnklcjkjfniaaDoor

/-
  slices.CompareFunc of two lists of steps, by their calls.
-/
namespace Go.Proofs.YtfpnklcjkjfniaaDoor
open Go.RowKit
set_option maxRecDepth 20000

/-- What CompareFunc answers. -/
def cmpL : List (Int × Int) → List (Int × Int) → Int
  | [], [] => 0
  | [], _ :: _ => -1
  | _ :: _, [] => 1
  | x :: a, y :: b => if x.1 - y.1 ≠ 0 then x.1 - y.1 else cmpL a b
theorem cmp_lex : ∀ a b : List (Int × Int), cmpL a b ≤ 0 ↔ lexL a b
  | [], [] => by simp [cmpL, lexL]
  | [], _ :: _ => by simp [cmpL, lexL]
  | _ :: _, [] => by simp [cmpL, lexL]
  | x :: a, y :: b => by
    rw [cmpL, lexL, ← cmp_lex a b]
    split <;> omega
theorem cmpcl_any (x0 x1 y0 y1 : Int) (hx : 0 ≤ x0 ∧ x0 < 16) (hy : 0 ≤ y0 ∧ y0 < 16) (W : World) :
    Calls Tryd.prog 31 #[.agg #[.int .i64 x0, .int .i64 x1], .agg #[.int .i64 y0, .int .i64 y1]] W fun e w' => e = .returned (.int .i64 (x0 - y0)) ∧ Below W.heap.size W w' := by
  have hw : IntKind.i64.wrap (x0 - y0) = x0 - y0 := by rw [IntKind.wrap_i64]; omega
  go_enter Tryd.func31, Tryd.ntmps31
  go_wp2_with fail
  go_ret
  exact ⟨rfl, ((Below.refl _ _).alloc (Nat.le_refl _) _).alloc (by simp) _⟩

set_option maxHeartbeats 2000000 in
theorem cmpF_any {B1 B2 : Nat} {v1 v2 : Value} {xs ys : List (Int × Int)} {w : World} (h1 : SRd w B1 v1 xs) (h2 : SRd w B2 v2 ys) (hB1 : B1 ≤ w.heap.size) (hB2 : B2 ≤ w.heap.size) (hx : ∀ x ∈ xs, 0 ≤ x.1 ∧ x.1 < 16) (hy : ∀ x ∈ ys, 0 ≤ x.1 ∧ x.1 < 16) :
    Calls Tryd.prog 30 #[v1, v2, .func (.func 31) #[] #[]] w fun e w' => e = .returned (.int .i64 (cmpL xs ys)) ∧ Below w.heap.size w w' := by
  obtain ⟨A1, c1, rfl, m1, m2⟩ := h1.is
  obtain ⟨A2, c2, rfl, m3, m4⟩ := h2.is
  unfold maxLen at m2 m4
  have H1 := Lib.hid (And.intro (h1.mono hB1) hx)
  have H2 := Lib.hid (And.intro (h2.mono hB2) hy)
  clear h1 h2 hB1 hB2 hx hy
  obtain ⟨n, hn⟩ : ∃ n, n = xs.length := ⟨_, rfl⟩
  obtain ⟨n', hn'⟩ : ∃ n, n = ys.length := ⟨_, rfl⟩
  obtain ⟨R, hR⟩ : ∃ R, R = cmpL xs ys := ⟨_, rfl⟩
  rw [← hn, ← hn', ← hR]
  have m5 : (n : Int) ≤ 9223372036854775807 := by omega
  have m6 : (n' : Int) ≤ 9223372036854775807 := by omega
  clear m1 m2 m3 m4
  have HN := Lib.hid (And.intro hn (And.intro hn' hR))
  clear hn hn' hR
  go_enter Tryd.func30, Tryd.ntmps30
  go_wp2_with fail
  go_loopw [13] (fun i wr => ∃ k : Nat, k ≤ n ∧ k ≤ n' ∧ i = .int .i64 k ∧ cmpL (xs.drop k) (ys.drop k) = R ∧ Below w.heap.size w wr) (fun i _ => n - (intOf i).toNat)
  case atStart => exact ⟨0, by omega, by omega, rfl, HN.out.2.2.symm, Below.refl _ _⟩
  case round =>
    obtain ⟨k, hk, hk2, rfl, hT, hb⟩ := hrel
    have HT := Lib.hid (And.intro hT hb)
    by_cases hkn : k < n
    · have hkx : k < xs.length := by rw [← HN.out.1]; exact hkn
      obtain ⟨x, hx⟩ : ∃ x, xs[k]? = some x := ⟨_, List.getElem?_eq_getElem hkx⟩
      have hr1 := H1.out.1.below hb
      rw [← HN.out.1] at hr1
      obtain ⟨g1, o1, rfl, -, b0, b1⟩ := hr1.sp hx
      obtain ⟨x0, x1⟩ := x
      simp only at b0 b1
      have hdx : xs.drop k = (x0, x1) :: xs.drop (k + 1) := by
        rw [List.drop_eq_getElem_cons hkx]
        rw [List.getElem?_eq_getElem hkx] at hx
        injection hx with hx
        rw [hx]
      have hbx := H1.out.2 _ (List.mem_of_getElem? hx)
      have HX := Lib.hid (And.intro hdx hbx)
      have i1 : (0 : Int) ≤ (k : Int) := by omega
      have i2 : (k : Int) < (n : Int) := by omega
      clear hr1 hx hdx hbx hkx hT
      by_cases hkn' : k < n'
      · have hky : k < ys.length := by rw [← HN.out.2.1]; exact hkn'
        obtain ⟨y, hy⟩ : ∃ y, ys[k]? = some y := ⟨_, List.getElem?_eq_getElem hky⟩
        have hr2 := H2.out.1.below hb
        rw [← HN.out.2.1] at hr2
        obtain ⟨g2, o2, rfl, hg2, d0, d1⟩ := hr2.sp hy
        obtain ⟨y0, y1⟩ := y
        simp only at d0 d1
        have hdy : ys.drop k = (y0, y1) :: ys.drop (k + 1) := by
          rw [List.drop_eq_getElem_cons hky]
          rw [List.getElem?_eq_getElem hky] at hy
          injection hy with hy
          rw [hy]
        have hby := H2.out.2 _ (List.mem_of_getElem? hy)
        have d2 : ∀ o, (wr.alloc o).cell? ⟨g2, o2 + k * 2, none⟩ = some (.int .i64 y0) := fun o => Lib.cell?_alloc_some _ d0
        have d3 : ∀ o, (wr.alloc o).cell? ⟨g2, o2 + k * 2 + 1, none⟩ = some (.int .i64 y1) := fun o => Lib.cell?_alloc_some _ d1
        have HY := Lib.hid (And.intro hdy hby)
        have HK := Lib.hid (fun W : World => cmpcl_any x0 x1 y0 y1 HX.out.2 hby W)
        have i3 : (k : Int) < (n' : Int) := by omega
        clear hr2 hy hdy hby hky hb d0 d1
        go_wp2_with fail
        refine (HK.out _).mono ?_
        rintro e w5 ⟨rfl, hb5⟩
        have HB5 := Lib.hid (((HT.out.2.alloc HT.out.2.size (.cells #[.int .i64 x0, .int .i64 x1] 42)).alloc (by have := HT.out.2.size; simp; omega) (.cells #[.int .i64 y0, .int .i64 y1] 42)).trans (hb5.mono (by have := HT.out.2.size; simp; omega)))
        have h9 := HT.out.1
        rw [HX.out.1, HY.out.1, cmpL] at h9
        have H9 := Lib.hid h9
        clear h9 hb5 HK
        by_cases hz : x0 - y0 = 0
        · have hz2 : (x0 - y0 != 0) = false := by rw [bne_eq_false_iff_eq]; exact hz
          have HZ := Lib.hid hz
          generalize x0 - y0 = dd at hz2 H9 HZ ⊢
          clear hz
          go_wp2_with fail
          go_roundw
          case rel =>
            refine ⟨k + 1, by omega, by omega, by go_num, ?_, HB5.out⟩
            rw [← H9.out, if_neg (by rw [HZ.out]; decide)]
          case measure => simp [intOf]; omega
        · have hz2 : (x0 - y0 != 0) = true := by rw [bne_iff_ne]; exact hz
          have HZ := Lib.hid hz
          generalize x0 - y0 = dd at hz2 H9 HZ ⊢
          clear hz
          go_wp2_with fail
          go_ret
          refine ⟨?_, HB5.out⟩
          rw [← H9.out, if_pos HZ.out]
          rfl
      · have i3 : (n' : Int) ≤ (k : Int) := by omega
        have hke : ys.length ≤ k := by rw [← HN.out.2.1]; omega
        have HKE := Lib.hid hke
        clear hb hkn' hke
        go_wp2_with fail
        go_ret
        refine ⟨?_, HT.out.2.alloc HT.out.2.size _⟩
        have h9 := HT.out.1
        rw [HX.out.1, List.drop_eq_nil_of_le HKE.out, cmpL] at h9
        rw [← h9]
        rfl
    · have hke : xs.length ≤ k := by rw [← HN.out.1]; omega
      have HKE := Lib.hid hke
      have h9 := HT.out.1
      rw [List.drop_eq_nil_of_le hke] at h9
      have H9 := Lib.hid h9
      obtain rfl : n = k := by omega
      clear hb hke h9 hT
      by_cases hnn : n < n'
      · have i3 : (n : Int) < (n' : Int) := by omega
        have hky : n < ys.length := by rw [← HN.out.2.1]; exact hnn
        have HKY := Lib.hid hky
        clear hky
        go_wp2_with fail
        go_ret
        refine ⟨?_, HT.out.2⟩
        have h9 := H9.out
        rw [List.drop_eq_getElem_cons HKY.out, cmpL] at h9
        rw [← h9]
        rfl
      · have i3 : ¬ (n : Int) < (n' : Int) := by omega
        have hky : ys.length ≤ n := by rw [← HN.out.2.1]; omega
        have HKY := Lib.hid hky
        clear hky
        go_wp2_with fail
        go_ret
        refine ⟨?_, HT.out.2⟩
        have h9 := H9.out
        rw [List.drop_eq_nil_of_le HKY.out, cmpL] at h9
        rw [← h9]
        rfl
end Go.Proofs.YtfpnklcjkjfniaaDoor
