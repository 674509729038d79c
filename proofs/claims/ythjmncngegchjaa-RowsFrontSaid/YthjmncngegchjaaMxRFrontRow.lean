/-
  Joined by a program out of: ZFrontP, RFrontP, RFront, RFrontRow.
-/
import Derived.Test.YthjmncngegchjaaMgAC
import Derived.Test.YthjmncngegchjaaMgAA
import Derived.Test.YthjmncngegchjaaMgAE
import Derived.Test.YthjmncngegchjaaMgAR
import Derived.Test.YthjmncngegchjaaMgAQ
import Derived.Test.YthjmncngegchjaaMgAS

/-
  Plain: of a history of a register in which nothing can't be each begin is so.
-/
namespace Go.Proofs.Ythjmncngegchjaa
open Go.RowKit
set_option maxRecDepth 20000
section
variable {m : Nat} {d c : List Cl}
theorem Grow.at_ (h : Grow m d c) {i : Nat} {x : Cl} (hx : d[i]? = some x) : ∃ y, c[i]? = some y ∧ x = before_ m y := by
  have hi := (List.getElem?_eq_some_iff.1 hx).1
  obtain ⟨y, hy⟩ : ∃ y, c[i]? = some y := ⟨_, List.getElem?_eq_getElem (Nat.lt_of_lt_of_le hi h.len)⟩
  exact ⟨y, hy, h.same i x y hx hy⟩
theorem before_same (m : Nat) (y : Cl) : (before_ m y).kind = y.kind ∧ (before_ m y).arg = y.arg ∧ (before_ m y).frm = y.frm := by
  unfold before_
  split <;> exact ⟨rfl, rfl, rfl⟩
theorem before_til {m : Nat} {y : Cl} (h : (before_ m y).til ≠ -1) : before_ m y = y ∧ y.til < (m : Int) := by
  unfold before_ at h ⊢
  split at h
  · exact absurd rfl h
  · rename_i h1
    rw [if_neg h1]
    exact ⟨rfl, by omega⟩
theorem Grow.once (h : Grow m d c) (ho : Once c) : Once d := by
  intro i j x y hx hy k1 k2 he
  obtain ⟨x', hx', rfl⟩ := h.at_ hx
  obtain ⟨y', hy', rfl⟩ := h.at_ hy
  have a := before_same m x'
  have b := before_same m y'
  exact ho i j x' y' hx' hy' (a.1.symm.trans k1) (b.1.symm.trans k2) (by rw [← a.2.1, ← b.2.1]; exact he)
theorem Grow.ans (h : Grow m d c) {i : Nat} {x : Cl} (hx : d[i]? = some x) (ht : x.til ≠ -1) : c[i]? = some x ∧ x.til < (m : Int) := by
  obtain ⟨y, hy, rfl⟩ := h.at_ hx
  obtain ⟨e1, e2⟩ := before_til ht
  rw [e1] at ht ⊢
  exact ⟨hy, e2⟩
theorem Grow.early (h : Grow m d c) (he : EarlyP d) : EarlyP c := by
  obtain ⟨x, hx, h1, h2, y, hy, h3, h4⟩ := he
  obtain ⟨i, hi, rfl⟩ := List.getElem_of_mem hx
  obtain ⟨j, hj, rfl⟩ := List.getElem_of_mem hy
  have k1 := (h.ans (List.getElem?_eq_getElem hi) (isR_iff.1 h1).2).1
  obtain ⟨y', k2, e⟩ := h.at_ (List.getElem?_eq_getElem hj)
  have a := before_same m y'
  rw [← e] at a
  refine ⟨_, List.mem_of_getElem? k1, h1, h2, y', List.mem_of_getElem? k2, isW_iff.2 ⟨a.1.symm.trans (isW_iff.1 h3).1, a.2.1.symm.trans (isW_iff.1 h3).2⟩, by rw [← a.2.2]; exact h4⟩
theorem Grow.stray (h : Grow m d c) (hs : StrayP d) : StrayP c ∨ EarlyP c := by
  obtain ⟨x, hx, h1, h2, h3⟩ := hs
  obtain ⟨i, hi, rfl⟩ := List.getElem_of_mem hx
  obtain ⟨k1, k2⟩ := h.ans (List.getElem?_eq_getElem hi) (isR_iff.1 h1).2
  by_cases hw : ∃ y ∈ c, isW (d[i]).res y = true
  · obtain ⟨y, hy, k3⟩ := hw
    obtain ⟨j, hj, rfl⟩ := List.getElem_of_mem hy
    right
    refine ⟨_, List.mem_of_getElem? k1, h1, h2, _, hy, k3, ?_⟩
    rcases Nat.lt_or_ge j d.length with hjd | hjd
    · exfalso
      have e := h.same j d[j] c[j] (List.getElem?_eq_getElem hjd) (List.getElem?_eq_getElem hj)
      have a := before_same m c[j]
      rw [← e] at a
      have := h3 d[j] (List.getElem_mem hjd)
      rw [isW_iff.2 ⟨a.1.trans (isW_iff.1 k3).1, a.2.1.trans (isW_iff.1 k3).2⟩] at this
      cases this
    · have := h.new j c[j] hjd (List.getElem?_eq_getElem hj)
      omega
  · exact .inl ⟨_, List.mem_of_getElem? k1, h1, h2, fun y hy => Bool.eq_false_iff.2 fun k3 => hw ⟨y, hy, k3⟩⟩
end
end Go.Proofs.Ythjmncngegchjaa

/-
  Plain: of a history of a queue in which nothing can't be each begin is so, if all that take were answered there.
-/
namespace Go.Proofs.Ythjmncngegchjaa
open Go.RowKit
set_option maxRecDepth 20000

section
variable {m a b : Nat} {d c : List Cl}
/-- What takes stands in the whole as it stood, or comes later. -/
theorem Grow.deq (h : Grow m d c) (hq : QueH a d) {k : Nat} {t : Cl} (hk : c[k]? = some t) (h4 : t.kind = 4) : (d[k]? = some t ∧ t.til < (m : Int)) ∨ (m : Int) ≤ t.frm := by
  rcases Nat.lt_or_ge k d.length with hkd | hkd
  · left
    have e := h.same k d[k] t (List.getElem?_eq_getElem hkd) hk
    have a1 := before_same m t
    rw [← e] at a1
    have ht := hq.ans _ (List.getElem_mem hkd) (a1.1.trans h4)
    rw [e] at ht
    obtain ⟨e1, e2⟩ := before_til ht
    rw [List.getElem?_eq_getElem hkd, e, e1]
    exact ⟨rfl, e2⟩
  · exact .inr (h.new k t hkd hk)
theorem Grow.enqs (h : Grow m d c) {v : Int} {k : Nat} {y : Cl} (hk : c[k]? = some y) (hv : isE v y = true) : (∃ x, d[k]? = some x ∧ isE v x = true) ∨ (m : Int) ≤ y.frm := by
  rcases Nat.lt_or_ge k d.length with hkd | hkd
  · left
    have e := h.same k d[k] y (List.getElem?_eq_getElem hkd) hk
    have a1 := before_same m y
    rw [← e] at a1
    exact ⟨_, List.getElem?_eq_getElem hkd, isE_iff.2 ⟨a1.1.trans (isE_iff.1 hv).1, a1.2.1.trans (isE_iff.1 hv).2⟩⟩
  · exact .inr (h.new k y hkd hk)
theorem Grow.rows (h : Grow m d c) (hq : QueH a d) (hn : ¬ StrayQ c ∧ ¬ TwiceQ c ∧ ¬ EarlyQ c ∧ ¬ OrdQ c ∧ ¬ EmptyQ c) : ¬ StrayQ d ∧ ¬ TwiceQ d ∧ ¬ EarlyQ d ∧ ¬ OrdQ d ∧ ¬ EmptyQ d := by
  obtain ⟨n1, n2, n3, n4, n5⟩ := hn
  -- what takes was answered
  have hT : ∀ {i : Nat} {x : Cl}, d[i]? = some x → x.kind = 4 → c[i]? = some x ∧ x.til < (m : Int) := fun hx h4 => h.ans hx (hq.ans _ (List.mem_of_getElem? hx) h4)
  refine ⟨?_, ?_, ?_, ?_, ?_⟩
  · rintro ⟨x, hx, k1, k2, k3⟩
    obtain ⟨i, hi, rfl⟩ := List.getElem_of_mem hx
    obtain ⟨a1, a2⟩ := hT (List.getElem?_eq_getElem hi) k1
    refine n1 ⟨_, List.mem_of_getElem? a1, k1, k2, fun y hy => Bool.eq_false_iff.2 fun hv => ?_⟩
    obtain ⟨j, hj, rfl⟩ := List.getElem_of_mem hy
    rcases h.enqs (List.getElem?_eq_getElem hj) hv with ⟨z, hz, hzv⟩ | hl
    · rw [k3 z (List.mem_of_getElem? hz)] at hzv
      cases hzv
    · exact n3 ⟨_, List.mem_of_getElem? a1, k1, _, hy, hv, by omega⟩
  · rintro ⟨i, j, x, y, hij, hx, hy, k1, k2, k3⟩
    exact n2 ⟨i, j, x, y, hij, (hT hx k1).1, (hT hy k2).1, k1, k2, k3⟩
  · rintro ⟨x, hx, k1, y, hy, k2, k3⟩
    obtain ⟨i, hi, rfl⟩ := List.getElem_of_mem hx
    obtain ⟨j, hj, rfl⟩ := List.getElem_of_mem hy
    obtain ⟨y', k4, e⟩ := h.at_ (List.getElem?_eq_getElem hj)
    have a1 := before_same m y'
    rw [← e] at a1
    exact n3 ⟨_, List.mem_of_getElem? (hT (List.getElem?_eq_getElem hi) k1).1, k1, y', List.mem_of_getElem? k4, isE_iff.2 ⟨a1.1.symm.trans (isE_iff.1 k2).1, a1.2.1.symm.trans (isE_iff.1 k2).2⟩, by rw [← a1.2.2]; exact k3⟩
  · rintro ⟨p, q, ea, hea, eb, heb, tb, htb, k1, k2, k3, k4, k5, k6⟩
    obtain ⟨i, hi, rfl⟩ := List.getElem_of_mem hea
    obtain ⟨j, hj, rfl⟩ := List.getElem_of_mem heb
    obtain ⟨l, hl, rfl⟩ := List.getElem_of_mem htb
    obtain ⟨y', k7, e⟩ := h.at_ (List.getElem?_eq_getElem hj)
    have a1 := before_same m y'
    rw [← e] at a1
    have a2 := h.ans (List.getElem?_eq_getElem hi) k4
    have a3 := hT (List.getElem?_eq_getElem hl) (isD_iff.1 k3).1
    refine n4 ⟨p, q, _, List.mem_of_getElem? a2.1, y', List.mem_of_getElem? k7, _, List.mem_of_getElem? a3.1, k1, isE_iff.2 ⟨a1.1.symm.trans (isE_iff.1 k2).1, a1.2.1.symm.trans (isE_iff.1 k2).2⟩, k3, k4, by rw [← a1.2.2]; exact k5, fun ta hta hd => ?_⟩
    obtain ⟨k, hk, rfl⟩ := List.getElem_of_mem hta
    rcases h.deq hq (List.getElem?_eq_getElem hk) (isD_iff.1 hd).1 with ⟨h1, _⟩ | h1
    · exact k6 _ (List.mem_of_getElem? h1) hd
    · omega
  · rintro ⟨x, hx, k1, k2, k3⟩
    obtain ⟨i, hi, rfl⟩ := List.getElem_of_mem hx
    have a1 := hT (List.getElem?_eq_getElem hi) k1
    refine n5 ⟨_, List.mem_of_getElem? a1.1, k1, k2, fun k hk1 hk2 => ?_⟩
    obtain ⟨e, he, f1, f2, f3, f4⟩ := k3 k hk1 hk2
    obtain ⟨j, hj, rfl⟩ := List.getElem_of_mem he
    refine ⟨_, List.mem_of_getElem? (h.ans (List.getElem?_eq_getElem hj) f2).1, f1, f2, f3, fun t ht hd => ?_⟩
    obtain ⟨l, hl, rfl⟩ := List.getElem_of_mem ht
    rcases h.deq hq (List.getElem?_eq_getElem hl) (isD_iff.1 hd).1 with ⟨h1, _⟩ | h1
    · exact f4 _ (List.mem_of_getElem? h1) hd
    · omega
end
theorem rfront {l : List Ev} {n : Nat} (hn : n ≤ l.length) (h : rowsE l = 0) (hb : (badQ (callsOf [2] l).1).kind = 0) : rowsE (l.take n) = 6 ∨ (rowsE (l.take n) = 0 ∧ (badQ (callsOf [2] (l.take n)).1).kind = 0) := by
  obtain ⟨h1, _⟩ := rowsE_calls h
  have e := (calls_zero h1).2.2
  have e2 := (calls_run (ts := [2]) (l := l) (by rw [h1]; decide) (by rw [h1]; decide) n).2
  obtain ⟨f1, f2⟩ := front_ok hn (by rw [← e]; exact h1)
  rw [← e, ← e2] at f2
  rw [← e2] at f1
  by_cases hk : okQ (callsOf [2] (l.take n)).1 = true
  · right
    have ho : rowsE (l.take n) = 0 := by
      unfold rowsE
      rw [if_neg (by rw [f1]; simp), if_pos hk]
    exact ⟨ho, (rowsE_que ho).bad_iff.2 (f2.rows (rowsE_que ho) ((rowsE_que h).bad_iff.1 hb))⟩
  · left
    unfold rowsE
    rw [if_neg (by rw [f1]; simp), if_neg hk]
end Go.Proofs.Ythjmncngegchjaa

/-
  alibkeep.RowsFront answers true, whatever is handed in.
-/
namespace Go.Proofs.Ythjmncngegchjaa
open Go.RowKit Go.Maps
set_option maxRecDepth 20000

set_option maxHeartbeats 8000000 in
theorem rfrontW_any {lv : Value} {l : List Ev} {w : World} (hl : ERd w w.heap.size lv l) (n : Int) :
    Calls Try.prog 4 #[lv, .int .i64 n] w fun e w' => e = .returned (.bool true) ∧ Below w.heap.size w w' := by
  obtain ⟨Al, capl, rfl, m1, m2⟩ := hl.is
  unfold maxLen at m2
  have HC := Lib.hid (rcheck_any hl)
  have HL := Lib.hid hl
  obtain ⟨L, hL⟩ : ∃ L, L = l.length := ⟨_, rfl⟩
  rw [← hL] at HC HL m1 ⊢
  have HLL := Lib.hid hL
  clear hl hL
  go_enter Try.func4, Try.ntmps4
  go_wp2_with fail
  refine HC.out.mono ?_
  intro e w1 hck
  obtain ⟨b, k, x, y, rfl, hb1, hok, -⟩ := hck.forms
  have HK := Lib.hid hok
  have H1 := Lib.hid (hb1.alloc hb1.size (.cells #[.int .i64 k, .int .i64 x, .int .i64 y] 28))
  obtain ⟨E, hE⟩ : ∃ E, E = rowsE l := ⟨_, rfl⟩
  rw [← hE]
  have HE := Lib.hid hE
  clear HC hok hb1 hck hE
  go_wp2_with fail
  change Calls _ _ _ (w1.alloc (.cells #[.int .i64 k, .int .i64 x, .int .i64 y] 28)) _
  generalize w1.alloc (.cells #[.int .i64 k, .int .i64 x, .int .i64 y] 28) = W2 at H1 ⊢
  refine (rlives_any W2).mono ?_
  rintro e w3 ⟨rfl, hb3⟩
  have H3 := Lib.hid (H1.out.trans (hb3.mono H1.out.size))
  clear H1 hb3
  by_cases hE0 : E = 0
  · subst hE0
    by_cases hn0 : n < 0
    · go_wp2_with fail
      refine (rlives_any w3).mono ?_
      rintro e w4 ⟨rfl, hb4⟩
      have H4 := Lib.hid (H3.out.trans (hb4.mono H3.out.size))
      clear hb4
      go_wp2_with fail
      go_ret
      exact ⟨rfl, H4.out⟩
    · by_cases hnl : (L : Int) < n
      · go_wp2_with fail
        refine (rlives_any w3).mono ?_
        rintro e w4 ⟨rfl, hb4⟩
        have H4 := Lib.hid (H3.out.trans (hb4.mono H3.out.size))
        clear hb4
        go_wp2_with fail
        go_ret
        exact ⟨rfl, H4.out⟩
      · cases b
        · go_wp2_with fail
          refine (rlives_any w3).mono ?_
          rintro e w4 ⟨rfl, hb4⟩
          have H4 := Lib.hid (H3.out.trans (hb4.mono H3.out.size))
          clear hb4
          go_wp2_with fail
          go_ret
          exact ⟨rfl, H4.out⟩
        · obtain ⟨q, rfl⟩ : ∃ q : Nat, n = (q : Int) := ⟨n.toNat, by omega⟩
          have hql : q ≤ L := by omega
          have hfr := rfront (l := l) (n := q) (by rw [← HLL.out]; exact hql) HE.out.symm (by
            obtain ⟨h1, h2⟩ := HK.out HE.out.symm
            rw [h2]
            exact eq_of_beq h1.symm)
          have htk : ERd w3 w3.heap.size (.slice Al q capl) (l.take q) := ((HL.out.below H3.out).mono H3.out.size).take_ (by rw [← HLL.out]; exact hql)
          have HC := Lib.hid (rcheck_any htk)
          have HF := Lib.hid hfr
          have q1 : (q : Int) ≤ (capl : Int) := by omega
          clear hfr htk
          go_wp2_with fail
          refine HC.out.mono ?_
          intro e w4 hck
          obtain ⟨b2, k2, x2, y2, rfl, hb4, hok, -⟩ := hck.forms
          have hb5 := H3.out.trans (hb4.mono H3.out.size)
          have H4 := Lib.hid (hb5.alloc hb5.size (.cells #[.int .i64 k2, .int .i64 x2, .int .i64 y2] 28))
          rcases HF.out with hf | hf
          · rw [hf]
            clear hok hb4 hb5 hck HC HF
            go_wp2_with fail
            go_ret
            exact ⟨rfl, H4.out⟩
          · rw [hf.1]
            obtain ⟨h1, h2⟩ := hok hf.1
            have h3 := hf.2
            rw [h2] at h3
            simp only at h3
            subst h3
            obtain rfl : b2 = true := h1
            clear hok h2 hb4 hb5 hck HC HF hf
            go_wp2_with fail
            go_ret
            exact ⟨rfl, H4.out⟩
  · have hz : (E != 0) = true := by rw [bne_iff_ne]; exact hE0
    clear hE0
    go_wp2_with fail
    refine (rlives_any w3).mono ?_
    rintro e w4 ⟨rfl, hb4⟩
    have H4 := Lib.hid (H3.out.trans (hb4.mono H3.out.size))
    clear hb4
    go_wp2_with fail
    go_ret
    exact ⟨rfl, H4.out⟩
end Go.Proofs.Ythjmncngegchjaa

/-
  PROVED HERE: whatever is handed in, the law RowsFront answers true and leaves its arguments as they were. No condition.
-/


namespace Go.Proofs.Ythjmncngegchjaa
open Go.RowKit Go.ChangeShapes Go.WideShapes Go.ChangeAt
set_option maxRecDepth 20000

theorem rowsFront_own : ownKnob Try.prog.godebug = none := by kernel_rfl

set_option maxRecDepth 100000 in
theorem rowsFront_lifted (os : Os) (started : os.Started) (H : Type) (enc : TypeId × Value → H) :
    ReturnsInHanded {} Try.checked os 4 .any (Rows.rowsFrontSpec.pre6 enc Try.prog Try.f4 Rows.rowsFrontRow.domain false) (Rows.rowsFrontSpec.post enc Try.prog Try.f4 false true false false) := by
  refine returnsInHanded_of_change (C := Try.checked) rowsFront_own started (by kernel_rfl) Try.func4
    (ChangeSpec.witness6 (enc := enc) (C := Try.checked) false ⟨#[], #[.slice none 0 0, .int .i64 0], []⟩ 8 (by kernel_rfl) (by kernel_rfl) (by kernel_rfl) (by kernel_rfl)) ?_
  intro W base args ds gs before hval0 hW hcnd _
  have hval : ∀ (j : Nat) t v, Try.f4.params[j]? = some t → args[j]? = some v → Value.okWide Try.prog W .any base t v := hval0
  have hW' := hW
  have hlt := hW.lt
  obtain ⟨p, q, hA0, hV, rfl, hfz, hnd⟩ := hW
  have hA : DataW.TrodAll enc Try.prog W 0 (fun _ => true) true Try.f4.params.toList args.toList ds p := hA0
  rw [Try.params4] at hA hval
  obtain ⟨v0, v1, d0, d1, p0, p1, rfl, rfl, rfl, h0, h1⟩ := trodAll_two hA
  obtain ⟨rfl, rfl⟩ := trodVars_none hV
  obtain ⟨l0, hL0⟩ := open_evs (hval 0 22 v0 rfl rfl) h0
  obtain ⟨i1, rfl, rfl, rfl, wi1⟩ := open_int Try.underlying3 (hval 1 3 v1 rfl rfl) h1
  clear hA0 hval0
  simp only [List.append_nil] at hW' hlt
  refine (rfrontW_any hL0 i1).mono fun e W' ⟨he, hb⟩ => ?_
  subst he
  refine ⟨_, rfl, end_of_below (pa := p0) (pv := []) hW' hb (by simp) (fun _ _ _ => ?_) (fun sp hsp => ?_) (fun _ _ => rfl) (ok_one (by kernel_rfl) rfl (okWide_bool_mk Try.underlying4 _))⟩
  · exact trodAll_mk1 (shut_bool Try.underlying4 _)
  · skip
    have hk0 := WideElems.Trod_stays laidOutIt (by kernel_rfl) (of_decide_eq_true (by kernel_rfl)) h0 (fun x hx => hb.same (hlt x hx)) (fun x hx => hsp x hx)
    have := trodAll_mk2 hk0 (shut_int Try.underlying3 wi1)
    simp only [List.append_nil] at this ⊢
    exact this

theorem rowsFront_over : Rows.rowsFrontRow.holds Try.pinned (OpenSpec.ofChange Rows.rowsFrontSpec) :=
  OpenClaim.holds_of_wide 4 Try.f4 rfl rfl rfl rfl rfl rfl rfl ⟨rfl, rfl, rfl, rfl, rfl⟩ rfl rfl rfl rfl rfl (by kernel_rfl) Try.func4 (by kernel_rfl)
    (of_decide_eq_true (by kernel_rfl)) (by unfold Func.isWrapper; first | (rw [if_pos (by decide +kernel)]; kernel_rfl) | (rw [if_neg (by decide +kernel)]; exact ⟨rfl, rfl⟩))
    (fun os started H enc _ => rowsFront_lifted os started H enc)

/-- ████ THE STATEMENT ████ -/
theorem rowsFront_holds : Rows.RowsFrontSaid :=
  rowsFront_over
#print axioms rowsFront_holds
end Go.Proofs.Ythjmncngegchjaa
