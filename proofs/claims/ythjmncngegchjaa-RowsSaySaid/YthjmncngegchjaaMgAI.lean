/-
  Joined by a program out of: Calls, ROpen.
-/
import Derived.Test.YthjmncngegchjaaMgAH
import Derived.Test.YthjmncngegchjaaMgAF

/-
  Contract of history.Calls.
-/
namespace Go.Proofs.Ythjmncngegchjaa
open Go.RowKit
set_option maxRecDepth 20000
/-- What Calls answers: the calls, where, and what went wrong. -/
def CallsPost (w : World) (o : List Cl × Nat × Int) (e : Ending) (w' : World) : Prop :=
  ∃ v, e = .returned (.tuple #[v, .int .i64 (o.2.1 : Nat), .int .i64 o.2.2]) ∧ Below w.heap.size w w' ∧ CRd w' w'.heap.size v o.1
theorem rec_start (w : World) (tv : Value) (ts : List Int) (h : NRd w w.heap.size tv ts) : RecS w.heap.size tv ts [] (w.alloc (.cells (recCs tv (.slice none 0 0) (fun _ => false) (fun _ => 0)) 69)) := by
  refine ⟨⟨.slice none 0 0, _, _, Lies.new w _ _, World.ownsRow_nil _ _ _ _, OneOpen.nil, fun p _ => ?_, fun p _ h => by cases h⟩, h.below ((Below.refl _ _).alloc (Nat.le_refl _) _)⟩
  simp [openOf, openFrom]
set_option maxHeartbeats 4000000 in
theorem calls_any {tv lv : Value} {ts : List Int} {l : List Ev} {w : World} (ht : NRd w w.heap.size tv ts) (hl : ERd w w.heap.size lv l) :
    Calls Try.prog 14 #[tv, lv] w (CallsPost w (callsOf ts l)) := by
  have er : callsOf ts l = if typesB ts = false then ([], 0, 1) else if 200 < l.length then ([], 0, 2) else run ts 0 [] l := rfl
  generalize callsOf ts l = o at er ⊢
  obtain ⟨At, capt, rfl, m1, m2⟩ := ht.is
  obtain ⟨Al, capl, rfl, m3, m4⟩ := hl.is
  unfold maxLen at m2 m4
  have HT := Lib.hid ht
  have HL := Lib.hid hl
  clear ht hl
  cases hb : typesB ts
  · rw [if_pos hb] at er
    subst er
    have HV := Lib.hid (valid_any HT.out)
    rw [hb] at HV
    clear hb
    go_enter Try.func14, Try.ntmps14
    go_wp2_with fail
    refine HV.out.mono ?_
    rintro e w' ⟨rfl, rfl⟩
    go_wp2_with fail
    go_ret3
    exact ⟨_, rfl, Below.refl _ _, LRd.nil _ _⟩
  · rw [if_neg (by rw [hb]; decide)] at er
    have HV := Lib.hid (valid_any HT.out)
    rw [hb] at HV
    clear hb
    by_cases hn : 200 < l.length
    · rw [if_pos hn] at er
      subst er
      have hn' : (200 : Int) < (l.length : Int) := by omega
      go_enter Try.func14, Try.ntmps14
      go_wp2_with fail
      refine HV.out.mono ?_
      rintro e w' ⟨rfl, rfl⟩
      go_wp2_with fail
      go_ret3
      exact ⟨_, rfl, Below.refl _ _, LRd.nil _ _⟩
    · rw [if_neg hn] at er
      have hn' : ¬ (200 : Int) < (l.length : Int) := by omega
      have HE := Lib.hid er
      have HR0 := Lib.hid (rec_start w _ ts HT.out)
      clear er
      go_enter Try.func14, Try.ntmps14
      go_wp2_with fail
      refine HV.out.mono ?_
      rintro e w' ⟨rfl, rfl⟩
      go_wp2_with fail
      obtain ⟨L, hL⟩ : ∃ L, L = l.length := ⟨_, rfl⟩
      have HR1 := HR0.out
      clear HR0
      change Code.wp _ _ _ _ (w.alloc (.cells (recCs (.slice At ts.length capt) (.slice none 0 0) (fun _ => false) (fun _ => 0)) 69))
      have hb0 : Below w.heap.size w (w.alloc (.cells (recCs (.slice At ts.length capt) (.slice none 0 0) (fun _ => false) (fun _ => 0)) 69)) := (Below.refl _ _).alloc (Nat.le_refl _) _
      obtain ⟨g, hg⟩ : ∃ g, g = w.heap.size := ⟨_, rfl⟩
      rw [← hg] at HR1
      rw [← hg]
      have HG := Lib.hid hg
      clear hg
      generalize w.alloc (.cells (recCs (.slice At ts.length capt) (.slice none 0 0) (fun _ => false) (fun _ => 0)) 69) = W at HR1 hb0 ⊢
      rw [← hL]
      rw [← hL] at m3 hn hn'
      have HLL := Lib.hid hL
      clear hL
      go_loopw [21] (fun i wr => ∃ (k : Nat) (cs : List Cl), k ≤ L ∧ i = .int .i64 k ∧ cs.length ≤ k ∧ run ts 0 [] l = run ts k cs (l.drop k) ∧ RecS g (.slice At ts.length capt) ts cs wr ∧ Below w.heap.size w wr) (fun i _ => L - (intOf i).toNat)
      case atStart => exact ⟨0, [], by omega, rfl, by simp, by simp, HR1, hb0⟩
      case round =>
        clear HR1 hb0
        obtain ⟨k, cs, hk, rfl, hck, hrun, hR, hB⟩ := hrel
        have HA := Lib.hid (And.intro hrun (And.intro hR hB))
        by_cases hkL : k < L
        · have hkl : k < l.length := by rw [← HLL.out]; exact hkL
          obtain ⟨x, hx⟩ : ∃ x, l[k]? = some x := ⟨_, List.getElem?_eq_getElem hkl⟩
          have hxe : l[k] = x := (List.getElem?_eq_some_iff.1 hx).2
          have hL' := HL.out.below hB
          rw [← HLL.out] at hL'
          obtain ⟨gl, o', rfl, hgl, d0, d1, d2, d3⟩ := hL'.ev hx
          have hst := run_drop (ts := ts) hkl cs
          rw [hxe] at hst
          generalize hs : step ts k cs x = s at hst
          have i1 : (0 : Int) ≤ (k : Int) := by omega
          have i2 : (k : Int) < (L : Int) := by omega
          obtain ⟨xw, xt, xk, xv⟩ := x
          have hR2 := hR.next ((Below.refl _ _).alloc (Nat.le_refl _) (.cells (evCs ⟨xw, xt, xk, xv⟩).toArray 52))
          have hl2 := Lies.new wr 52 (evCs ⟨xw, xt, xk, xv⟩).toArray
          have hb2 : Below w.heap.size w (wr.alloc (.cells (evCs ⟨xw, xt, xk, xv⟩).toArray 52)) := hB.alloc hB.size _
          have HX := Lib.hid (And.intro hst (And.intro hs (And.intro hR2 (And.intro hl2 hb2))))
          clear hx hxe hL' hst hs hrun hR hB hR2 hl2 hb2
          go_wp2_with fail
          change Calls _ _ _ (wr.alloc (.cells (evCs ⟨xw, xt, xk, xv⟩).toArray 52)) _
          generalize wr.alloc (.cells (evCs ⟨xw, xt, xk, xv⟩).toArray 52) = W2 at HX ⊢
          have hc := add_any HX.out.2.2.1 k ⟨xw, xt, xk, xv⟩ (by omega)
          rw [HX.out.2.1] at hc
          clear d0 d1 d2 d3
          refine hc.mono ?_
          rintro e w' ⟨hbw, hd⟩
          have hb' : Below w.heap.size w w' := HX.out.2.2.2.2.trans (by rw [← HG.out]; exact hbw)
          cases s with
          | inl r =>
            simp only at hd
            subst hd
            have hr : (r != 0) = true := by rw [bne_iff_ne]; exact step_err HX.out.2.1
            have HY := Lib.hid hb'
            clear hb' hbw hc
            go_wp2_with fail
            go_ret3
            have e := HE.out
            rw [HA.out.1, HX.out.1] at e
            subst e
            exact ⟨_, rfl, HY.out, LRd.nil _ _⟩
          | inr cs' =>
            obtain ⟨rfl, hd⟩ := hd
            have HY := Lib.hid (And.intro hb' hd)
            have HLN := Lib.hid (step_len HX.out.2.1)
            clear hb' hbw hd hc
            go_wp2_with fail
            go_roundw
            case rel => exact ⟨k + 1, cs', by omega, by go_num, by have := HLN.out; omega, HA.out.1.trans HX.out.1, HY.out.2, HY.out.1⟩
            case measure => simp [intOf]; omega
        · obtain rfl : k = L := by omega
          have hre : run ts 0 [] l = (cs, 0, 0) := by rw [HA.out.1, HLL.out, List.drop_length]; rfl
          have HZ := Lib.hid hre
          obtain ⟨⟨cv, b, c, h1, h2, h3⟩, h4⟩ := hR
          have r1 := h1.calls
          have HW := Lib.hid (And.intro h1 h2)
          clear hre hrun h1 h2 h3 h4 hB
          go_wp2_with fail
          go_ret3
          have e := HE.out
          rw [HZ.out] at e
          subst e
          exact ⟨_, rfl, HA.out.2.2, HW.out.2.rd⟩
end Go.Proofs.Ythjmncngegchjaa

/-
  Contract of rows.open.
-/
namespace Go.Proofs.Ythjmncngegchjaa
open Go.RowKit Go.Maps
set_option maxRecDepth 20000

/-- What one more call makes of the maps. -/
theorem addQ_up {cs : List Cl} {k : Nat} {c : Cl} (h : cs[k]? = some c) (hk : c.kind = 3 ∨ c.kind = 4) :
    (addQ (numF (pAt (cs.take k))) (numF (tAt (cs.take k))) k c).1 = okAt cs k ∧
    (okAt cs k = true → (∀ v, (addQ (numF (pAt (cs.take k))) (numF (tAt (cs.take k))) k c).2.1 v = numF (pAt (cs.take (k + 1))) v) ∧ ∀ v, (addQ (numF (pAt (cs.take k))) (numF (tAt (cs.take k))) k c).2.2 v = numF (tAt (cs.take (k + 1))) v) := by
  rw [okAt_some h]
  unfold addQ
  rcases hk with hk | hk
  · rw [if_pos hk, if_pos hk]
    refine ⟨by rw [numF_some], fun ho => ⟨fun v => ?_, fun v => ?_⟩⟩
    · rw [Bool.not_eq_true', Option.isSome_eq_false_iff, Option.isNone_iff_eq_none] at ho
      unfold numF
      rw [pAt_snoc h]
      simp only
      by_cases hv : v = c.arg
      · subst hv
        rw [if_pos rfl, ho]
        simp [isE_iff.2 ⟨hk, rfl⟩]
      · rw [if_neg hv]
        have : isE v c = false := by rw [Bool.eq_false_iff]; intro hw; exact hv (isE_iff.1 hw).2.symm
        rw [this]
        cases pAt (cs.take k) v <;> rfl
    · show numF (tAt (cs.take k)) v = numF (tAt (cs.take (k + 1))) v
      unfold numF
      rw [tAt_snoc h]
      have : isD v c = false := by rw [Bool.eq_false_iff]; intro hw; have := (isD_iff.1 hw).1; omega
      rw [this]
      cases htv : tAt (cs.take k) v with
      | some i => rfl
      | none => simp only; rw [if_neg (fun h2 => (by cases h2.2))]
  · have hk3 : ¬ c.kind = 3 := by omega
    rw [if_neg hk3, if_neg hk3]
    by_cases ht : c.til = -1
    · rw [if_pos ht]
      refine ⟨by rw [ht]; rfl, fun ho => ?_⟩
      rw [bne_iff_ne] at ho
      exact absurd ht ho
    · rw [if_neg ht]
      refine ⟨((bne_iff_ne).2 ht).symm, fun _ => ⟨fun v => ?_, fun v => ?_⟩⟩
      · show numF (pAt (cs.take k)) v = numF (pAt (cs.take (k + 1))) v
        unfold numF
        rw [pAt_snoc h]
        have : isE v c = false := by rw [Bool.eq_false_iff]; intro hw; have := (isE_iff.1 hw).1; omega
        rw [this]
        cases pAt (cs.take k) v <;> rfl
      · rw [numF_some]
        simp only
        unfold numF
        rw [tAt_snoc h]
        by_cases hc : (tAt (cs.take k) c.res).isSome = false ∧ c.res ≠ -1
        · rw [if_pos hc]
          by_cases hv : v = c.res
          · subst hv
            rw [Option.isSome_eq_false_iff, Option.isNone_iff_eq_none] at hc
            rw [hc.1]
            simp [isD_iff.2 ⟨hk, rfl⟩, hc.2]
          · simp only [hv, if_false]
            have : isD v c = false := by rw [Bool.eq_false_iff]; intro hw; exact hv (isD_iff.1 hw).2.symm
            rw [this]
            cases htv : tAt (cs.take k) v with
            | some i => rfl
            | none => simp only; rw [if_neg (fun h2 => (by cases h2.2))]
        · rw [if_neg hc]
          cases htv : tAt (cs.take k) v with
          | some i => rfl
          | none =>
            simp only
            rw [if_neg]
            rintro ⟨h1, h2⟩
            have h3 := (isD_iff.1 h2).2
            subst h3
            exact hc ⟨by rw [htv]; rfl, h1⟩
/-- What open answers. -/
def OpenR (w : World) (l : List Ev) (e : Ending) (w' : World) : Prop :=
  Below w.heap.size w w' ∧ ((rowsE l ≠ 0 ∧ e = .returned (.tuple #[.pointer none, .int .i64 (rowsE l)])) ∨
    (rowsE l = 0 ∧ ∃ B Q A cap M1 M2, e = .returned (.tuple #[.pointer (some ⟨Q, 0, none⟩), .int .i64 0]) ∧ w.heap.size ≤ B ∧ Rec w' B Q 1000 A cap (callsOf [2] l).1.length (callsOf [2] l).1 M1 M2 (numF (pAt (callsOf [2] l).1)) (numF (tAt (callsOf [2] l).1))))
set_option maxHeartbeats 8000000 in
theorem ropen_any {lv : Value} {l : List Ev} {w : World} (hl : ERd w w.heap.size lv l) :
    Calls Try.prog 19 #[lv] w (OpenR w l) := by
  have hb1 : Below w.heap.size w (w.alloc (.cells #[.int .i64 2] 3)) := (Below.refl _ _).alloc (Nat.le_refl _) _
  have hts : NRd (w.alloc (.cells #[.int .i64 2] 3)) (w.alloc (.cells #[.int .i64 2] 3)).heap.size (.slice (some ⟨w.heap.size, 0, none⟩) 1 1) [2] := by
    have h9 := LRd.of_lit (f := intCs) (s := 1) (w := w) (l := [2]) (fun _ => rfl) 3 (cs := #[.int .i64 2]) rfl (n := 1) rfl (by unfold maxLen; omega)
    exact h9.mono (by simp)
  have HC := Lib.hid (calls_any hts ((hl.below hb1).mono hb1.size))
  obtain ⟨Al, capl, rfl, -, -⟩ := hl.is
  have H1 := Lib.hid hb1
  have hze : rowsE l = if (callsOf [2] l).2.2 ≠ 0 then (callsOf [2] l).2.2 else if okQ (callsOf [2] l).1 = true then 0 else 6 := rfl
  have hkk := fun (h0 : (callsOf [2] l).2.2 = 0) => And.intro (fun c (hc : c ∈ (callsOf [2] l).1) => And.intro (que_kind (calls_callOk h0 c hc)) (que_res h0 hc)) (calls_lenQ h0)
  obtain ⟨E, hE⟩ : ∃ E, E = rowsE l := ⟨_, rfl⟩
  obtain ⟨CS, hCS⟩ : ∃ CS, CS = (callsOf [2] l).1 := ⟨_, rfl⟩
  have hpost : OpenR w l = fun e w' => Below w.heap.size w w' ∧ ((E ≠ 0 ∧ e = .returned (.tuple #[.pointer none, .int .i64 E])) ∨
    (E = 0 ∧ ∃ B Q A cap M1 M2, e = .returned (.tuple #[.pointer (some ⟨Q, 0, none⟩), .int .i64 0]) ∧ w.heap.size ≤ B ∧ Rec w' B Q 1000 A cap CS.length CS M1 M2 (numF (pAt CS)) (numF (tAt CS)))) := by
    rw [hE, hCS]; rfl
  rw [hpost]
  rw [← hE] at hze
  clear hpost hE hl hb1 hts
  generalize callsOf [2] l = o at HC hze hkk hCS
  generalize l.length = L at HC ⊢
  have HZE := Lib.hid (And.intro hze (And.intro hkk hCS))
  clear hze hkk hCS
  have hmm := @run_makeMap Try.prog
  go_enter Try.func19, Try.ntmps19
  go_wp2_with fail
  refine HC.out.mono ?_
  rintro e w1 ⟨v, rfl, hb1, hcr⟩
  obtain ⟨cs, at1, E0⟩ := o
  obtain ⟨hze, hkk, hCS⟩ := HZE.out
  simp only at hcr hze hkk hCS ⊢
  subst hCS
  obtain ⟨A, cap, rfl, -, hc9⟩ := hcr.is
  unfold maxLen at hc9
  have hbw : Below w.heap.size w w1 := H1.out.trans (hb1.mono H1.out.size)
  have H2 := Lib.hid (And.intro hbw hcr)
  clear HC H1 hb1 hcr hbw HZE
  obtain ⟨n, hn⟩ : ∃ n, n = CS.length := ⟨_, rfl⟩
  by_cases hE0 : E0 = 0
  · subst hE0
    rw [if_neg (fun h => h rfl)] at hze
    obtain ⟨hkd, hlen⟩ := hkk rfl
    have hn2 : n ≤ 200 := by rw [hn]; exact hlen
    obtain ⟨W4, hW4⟩ : ∃ W, W = ((w1.alloc (.map #[] 0)).alloc (.map #[] 0)).alloc (.cells #[.slice A n cap, .map (some w1.heap.size), .map (some (w1.heap.size + 1))] 76) := ⟨_, rfl⟩
    have hb4 : Below w1.heap.size w1 W4 := by rw [hW4]; exact (((Below.refl _ _).alloc (Nat.le_refl _) _).alloc (by simp) _).alloc (by simp; omega) _
    have hm1 := NMap.made w1
    have hm2 := NMap.made (w1.alloc (.map #[] 0))
    have h0 : Rec W4 w1.heap.size (w1.heap.size + 2) 0 A cap n CS w1.heap.size (w1.heap.size + 1) (numF (pAt (CS.take 0))) (numF (tAt (CS.take 0))) := by
      refine ⟨?_, ?_, ⟨0, Nat.le_refl _, ?_⟩, ⟨0, Nat.le_refl _, ?_⟩, Nat.le_refl _, by omega, by omega⟩
      · have := Lies.new ((w1.alloc (.map #[] 0)).alloc (.map #[] 0)) 76 #[.slice A n cap, .map (some w1.heap.size), .map (some (w1.heap.size + 1))]
        rw [World.size_alloc, World.size_alloc] at this
        rw [hW4]
        exact this
      · rw [hn]; exact H2.out.2.below hb4
      · have e := (hm1.belowB ((Below.refl (w1.alloc (.map #[] 0)).heap.size _).alloc (Nat.le_refl _) (.map #[] 0)) hm1.lt)
        rw [hW4]
        refine ((e.belowB ((Below.refl _ _).alloc (Nat.le_refl _) _) (by simp; omega)).congr fun v => ?_)
        rw [List.take_zero]; rfl
      · rw [World.size_alloc] at hm2
        rw [hW4]
        refine ((hm2.belowB ((Below.refl _ _).alloc (Nat.le_refl _) _) (by simp)).congr fun v => ?_)
        rw [List.take_zero]
        unfold numF tAt
        split <;> rfl
    have H0 := Lib.hid (And.intro h0 (H2.out.1.trans (hb4.mono H2.out.1.size)))
    have HB := Lib.hid H2.out.1.size
    have HK := Lib.hid (And.intro hn (And.intro hkd hze))
    have HW := Lib.hid hW4
    rw [← hn]
    clear h0 hm1 hm2 hb4 hkd hlen hkk hn hze H2 hW4
    go_wp2_with fail
    clear hmm
    have h0 := H0.out
    clear H0
    change Code.wp _ _ _ _ (((w1.alloc (.map #[] 0)).alloc (.map #[] 0)).alloc (.cells #[.slice A n cap, .map (some w1.heap.size), .map (some (w1.heap.size + 1))] 76))
    rw [← HW.out]
    clear HW
    generalize w1.heap.size = B at h0 HB ⊢
    go_loopw [27] (fun i wr => ∃ (k : Nat), k ≤ n ∧ i = .int .i64 k ∧ (∀ (j : Nat), j < k → okAt CS j = true) ∧ Rec wr B (B + 2) k A cap n CS B (B + 1) (numF (pAt (CS.take k))) (numF (tAt (CS.take k))) ∧ Below w.heap.size w wr) (fun i _ => n - (intOf i).toNat)
    case atStart => exact ⟨0, by omega, rfl, (fun j h => by omega), h0.1, h0.2⟩
    case round =>
      clear h0
      obtain ⟨k, hk, rfl, hno, hO, hbO⟩ := hrel
      by_cases hkn : k < n
      · obtain ⟨x, hx⟩ : ∃ x, CS[k]? = some x := ⟨_, List.getElem?_eq_getElem (by rw [← HK.out.1]; exact hkn)⟩
        have hkx := HK.out.2.1 x (List.mem_of_getElem? hx)
        obtain ⟨g, o, rfl, -, d0, d1, d2, d3, d4, d5, d6⟩ := hO.cls.cl hx
        have hal : Below wr.heap.size wr (wr.alloc (.cells #[.int .i64 x.who, .int .i64 x.thing, .int .i64 x.kind, .int .i64 x.arg, .int .i64 x.res, .int .i64 x.frm, .int .i64 x.til] 49)) := (Below.refl _ _).alloc (Nat.le_refl _) _
        have hup := addQ_up hx (by rcases hkx.1 with h | h <;> omega)
        have hcc : (x.kind = 3 ∧ 1 ≤ x.arg ∧ x.arg ≤ 1000) ∨ (x.kind = 4 ∧ -1 ≤ x.res ∧ x.res ≤ 1000) := by
          rcases hkx.1 with h | h
          · exact .inl h
          · exact .inr ⟨h.1, hkx.2 h.1⟩
        have HA := Lib.hid (radd_any (hO.next hal) (by omega) k x hcc)
        have HO := Lib.hid (And.intro (hO.next hal) (And.intro (hbO.alloc hbO.size (.cells #[.int .i64 x.who, .int .i64 x.thing, .int .i64 x.kind, .int .i64 x.arg, .int .i64 x.res, .int .i64 x.frm, .int .i64 x.til] 49)) (And.intro (Lies.new wr 49 #[.int .i64 x.who, .int .i64 x.thing, .int .i64 x.kind, .int .i64 x.arg, .int .i64 x.res, .int .i64 x.frm, .int .i64 x.til]) hno)))
        generalize haq : addQ (numF (pAt (CS.take k))) (numF (tAt (CS.take k))) k x = aq at HA hup
        clear haq
        obtain ⟨x0, x1, x2, x3, x4, x5, x6⟩ := x
        simp only at d0 d1 d2 d3 d4 d5 d6 HO HA
        have i1 : (0 : Int) ≤ (k : Int) := by omega
        have i2 : (k : Int) < (n : Int) := by omega
        have HUP := Lib.hid hup
        clear hO hx hal hno hbO hup hkx hcc
        go_upto_region 8 with fail
        clear d0 d1 d2 d3 d4 d5 d6
        change Code.wp _ _ _ _ (wr.alloc (.cells #[.int .i64 x0, .int .i64 x1, .int .i64 x2, .int .i64 x3, .int .i64 x4, .int .i64 x5, .int .i64 x6] 49))
        generalize wr.alloc (.cells #[.int .i64 x0, .int .i64 x1, .int .i64 x2, .int .i64 x3, .int .i64 x4, .int .i64 x5, .int .i64 x6] 49) = W2 at HO HA ⊢
        generalize wr.heap.size = X at HO ⊢
        have e0 := Lies.cell HO.out.2.2.1 0
        have e1 := Lies.cell HO.out.2.2.1 1
        have e2 := Lies.cell HO.out.2.2.1 2
        have e3 := Lies.cell HO.out.2.2.1 3
        have e4 := Lies.cell HO.out.2.2.1 4
        have e5 := Lies.cell HO.out.2.2.1 5
        have e6 := Lies.cell HO.out.2.2.1 6
        simp only [List.getElem?_toArray, List.getElem?_cons_zero, List.getElem?_cons_succ] at e0 e1 e2 e3 e4 e5 e6
        go_wp2_with fail
        refine HA.out.mono ?_
        rintro e w4 ⟨rfl, hr4, hb4⟩
        have hbw : Below w.heap.size w w4 := HO.out.2.1.trans (hb4.mono HB.out)
        have H4 := Lib.hid (And.intro hr4 hbw)
        have HNO := Lib.hid HO.out.2.2.2
        clear HA HO hr4 hb4 hbw e0 e1 e2 e3 e4 e5 e6
        obtain ⟨ok, hok⟩ : ∃ ok, ok = aq.1 := ⟨_, rfl⟩
        rw [← hok]
        have HOK := Lib.hid hok
        clear hok
        cases ok
        · have hE6 : E = 6 := by
            have h1 := HK.out.2.2
            rw [if_neg] at h1
            · exact h1
            · intro hall
              have h2 := okQ_all.1 hall k (by rw [← HK.out.1]; exact hkn)
              rw [← HUP.out.1, ← HOK.out] at h2
              cases h2
          have HE := Lib.hid hE6
          clear hE6
          go_wp2_with fail
          exact bodyPost_ret (v := .tuple #[.pointer none, .int .i64 6]) (by simp [results, Try.results19, go_sem]) rfl ⟨H4.out.2, .inl ⟨by rw [HE.out]; decide, by rw [HE.out]⟩⟩
        · have hka : okAt CS k = true := by rw [← HUP.out.1, ← HOK.out]
          have HZ := Lib.hid (And.intro (H4.out.1.more (Nat.le_refl _) (HUP.out.2 hka).1 (HUP.out.2 hka).2) H4.out.2)
          have HKA := Lib.hid hka
          clear hka HUP HOK H4
          go_wp2_with fail
          go_roundw
          case rel => exact ⟨k + 1, by omega, by go_num, (fun j hj => by
            rcases Nat.lt_or_ge j k with h9 | h9
            · exact HNO.out j h9
            · obtain rfl : j = k := by omega
              exact HKA.out), HZ.out⟩
          case measure => simp [intOf]; omega
      · obtain rfl : n = k := by omega
        have hok : okQ CS = true := okQ_all.2 fun j hj => hno j (by rw [HK.out.1]; exact hj)
        have hE := HK.out.2.2
        rw [hok, if_pos rfl] at hE
        rw [HK.out.1, List.take_length] at hO
        have hO2 := hO.more (N' := 1000) (by rw [← HK.out.1]; omega) (fun _ => rfl) (fun _ => rfl)
        have HZ := Lib.hid (And.intro hE (And.intro hO2 hbO))
        clear hO hO2 hbO hno hok hE
        go_wp2_with fail
        exact bodyPost_ret (v := .tuple #[.pointer (some ⟨B + 2, 0, none⟩), .int .i64 0]) (by simp [results, Try.results19, go_sem]) rfl ⟨HZ.out.2.2, .inr ⟨HZ.out.1, B, B + 2, A, cap, B, B + 1, rfl, HB.out, HZ.out.2.1⟩⟩
  · rw [if_pos hE0] at hze
    subst hze
    have hz : (E != 0) = true := by rw [bne_iff_ne]; exact hE0
    have HE := Lib.hid hE0
    clear hE0 hkk hn hmm
    generalize CS.length = nn
    go_wp2_with fail
    exact bodyPost_ret (v := .tuple #[.pointer none, .int .i64 E]) (by simp [results, Try.results19, go_sem]) rfl ⟨H2.out.1, .inl ⟨HE.out, rfl⟩⟩
end Go.Proofs.Ythjmncngegchjaa
