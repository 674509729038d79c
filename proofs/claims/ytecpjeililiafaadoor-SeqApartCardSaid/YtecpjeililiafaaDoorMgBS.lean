/-
  Joined by a program out of: SqOrdW.
-/
import Derived.Test.YtecpjeililiafaaDoorMgBR
import Derived.Test.YtecpjeililiafaaDoorMgBB

/-
  The walk of the law SeqOrdered.
-/
namespace Go.Proofs.YtecpjeililiafaaDoor
open Go.RowKit
set_option maxRecDepth 20000

theorem wp_app_two {W : World} {o : Oper} {a : Act} {K : Act → World → Prop} {Q : Exit → Act → World → Prop} (s x : Operand)
    (ho : o.op = .call { callee := .builtin .append, args := #[s, x], argTypes := #[23, 23] })
    (base B G : Nat) (v : Value) (l : List Ev) (y z : Ev) (hs : a.eval s = v) (hx : a.eval x = .slice (some ⟨G, 0, none⟩) 2 2) (hown : EOwn W base v l) (hr : ERd W B (.slice (some ⟨G, 0, none⟩) 2 2) [y, z]) (hlen : l.length ≤ 65536) (hbase : base ≤ W.heap.size)
    (h : ∀ v' w', EOwn w' base v' (l ++ [y, z]) → Below base W w' → K (a.put o.dst v') w') : Oper.wp Tryd.prog o a W K Q := by
  obtain ⟨v', w', hrun, r1, r2⟩ := run_app_evs o.type hown hr (by simp; omega) hbase (by simp)
  unfold Oper.wp
  simp [execOp, ho, resolve, invoke, builtin, hs, hx, hrun, Result.andThen]
  exact h v' w' r1 r2
theorem wpList_app_two {W : World} {ops : Array Oper} {rest : List Oper} {o : Oper} {a : Act} {Q : Exit → Act → World → Prop} (hgd : o.guard = none) (s x : Operand)
    (ho : o.op = .call { callee := .builtin .append, args := #[s, x], argTypes := #[23, 23] })
    (base B G : Nat) (v : Value) (l : List Ev) (y z : Ev) (hs : a.eval s = v) (hx : a.eval x = .slice (some ⟨G, 0, none⟩) 2 2) (hown : EOwn W base v l) (hr : ERd W B (.slice (some ⟨G, 0, none⟩) 2 2) [y, z]) (hlen : l.length ≤ 65536) (hbase : base ≤ W.heap.size)
    (h : ∀ v' w', EOwn w' base v' (l ++ [y, z]) → Below base W w' → wpList Tryd.prog ops Q rest (a.put o.dst v') w') : wpList Tryd.prog ops Q (o :: rest) a W :=
  wpList_plain hgd fun _ hK => wp_app_two s x ho base B G v l y z hs hx hown hr hlen hbase fun v' w' h1 h2 => hK _ _ (h v' w' h1 h2)
theorem twoE (W : World) (a0 a1 a2 a3 b0 b1 b2 b3 : Int) : ERd (W.alloc (.cells #[.int .i64 a0, .int .i64 a1, .int .i64 a2, .int .i64 a3, .int .i64 b0, .int .i64 b1, .int .i64 b2, .int .i64 b3] 77)) (W.heap.size + 1) (.slice (some ⟨W.heap.size, 0, none⟩) 2 2) [⟨a0, a1, a2, a3⟩, ⟨b0, b1, b2, b3⟩] :=
  LRd.of_lit (f := evCs) (s := 4) (w := W) (l := [⟨a0, a1, a2, a3⟩, ⟨b0, b1, b2, b3⟩]) (fun _ => rfl) 77 rfl (n := 2) rfl (by unfold maxLen; omega)
/-- What was found, one behind the other, is right by time. -/
theorem ordered {ts : List Int} {l : List Ev} (hE : searchE (callsOf ts l) = 0) (h : fndB (ownB (callsOf ts l).1) ts (callsOf ts l) = true) :
    (∀ x ∈ fndL (ownB (callsOf ts l).1) ts (callsOf ts l), 0 ≤ x.1 ∧ x.1 < (callsOf ts l).1.length) ∧ (fndL (ownB (callsOf ts l).1) ts (callsOf ts l)).length ≤ 9 ∧
      searchE (callsOf ts (doneE (callsOf ts l).1 (fndL (ownB (callsOf ts l).1) ts (callsOf ts l)))) = 0 ∧ foundB ts (callsOf ts (doneE (callsOf ts l).1 (fndL (ownB (callsOf ts l).1) ts (callsOf ts l)))) = true := by
  have hr := fndL_rite h
  obtain ⟨h0, h9⟩ := search_few hE
  obtain ⟨k1, k2, ws', k3⟩ := done_calls h0 h9 hr
  have k4 : searchE (callsOf ts (doneE (callsOf ts l).1 (fndL (ownB (callsOf ts l).1) ts (callsOf ts l)))) = 0 := by
    rw [search_ok, k2]
    exact ⟨rfl, by show (doneC _ _ _).length ≤ 9; rw [doneC_len]; exact k1⟩
  exact ⟨hr.rng, k1, k4, foundB_iff.2 ⟨k4, ws', k3⟩⟩
set_option maxHeartbeats 4000000 in
theorem sordered_any {tv lv : Value} {ts : List Int} {l : List Ev} {w : World} (ht : NRd w w.heap.size tv ts) (hl : ERd w w.heap.size lv l) (hp : Pow10 w.heap.size w) :
    Calls Tryd.prog 19 #[tv, lv] w fun e w' => e = .returned (.bool true) ∧ Below w.heap.size w w' := by
  obtain ⟨At, capt, rfl, -, -⟩ := ht.is
  obtain ⟨Al, capl, rfl, hl1, hl2⟩ := hl.is
  unfold maxLen at hl2
  have HT := Lib.hid (And.intro ht (And.intro hl hp))
  have HF := Lib.hid (sqfind_any ht hl hp)
  obtain ⟨tl, htl⟩ : ∃ tl, tl = ts.length := ⟨_, rfl⟩
  obtain ⟨L, hL⟩ : ∃ L, L = l.length := ⟨_, rfl⟩
  rw [← htl, ← hL] at HF HT
  rw [← htl, ← hL]
  clear ht hl hp htl hL hl1 hl2
  go_enter Tryd.func19, Tryd.ntmps19
  go_wp2_with fail
  refine HF.out.mono ?_
  rintro e w1 ⟨hb, v, rfl, hv⟩
  have H1 := Lib.hid (hb)
  have hv2 := hv.rd
  obtain ⟨Av, cv, rfl, -, hcv⟩ := hv2.is
  unfold maxLen at hcv
  have HV := Lib.hid hv2
  have HC := Lib.hid (calls_any ((HT.out.1.below H1.out).mono H1.out.size) ((HT.out.2.1.below H1.out).mono H1.out.size))
  clear hb hv hv2 HF
  go_wp2_with fail
  refine HC.out.mono ?_
  rintro e w2 ⟨c, rfl, hb, hc⟩
  have H2 := Lib.hid (H1.out.trans (hb.mono H1.out.size))
  have HV2 := Lib.hid ((HV.out.below hb).mono hb.size)
  have HCC := Lib.hid hc
  obtain ⟨Ac, cc, rfl, -, hcc⟩ := hc.is
  unfold maxLen at hcc
  clear hb HC HV hc
  have hord := @ordered ts l
  have hfew := @search_few (callsOf ts l)
  have hno := @fndL_none (ownB (callsOf ts l).1) ts (callsOf ts l)
  by_cases hE : searchE (callsOf ts l) = 0
  · have h0 := (hfew hE).1
    rw [hE, h0]
    cases hfb : fndB (ownB (callsOf ts l).1) ts (callsOf ts l)
    · clear hord hfew hno hE h0 hfb
      generalize (fndL (ownB (callsOf ts l).1) ts (callsOf ts l)).length = m
      generalize (callsOf ts l).1.length = n
      generalize (callsOf ts l).2.1 = at1
      have HS := Lib.hid (sqlives_any w2 ((HT.out.2.2.on H2.out).mono H2.out.size))
      go_wp2_with fail
      refine HS.out.mono ?_
      rintro e w3 ⟨rfl, hb⟩
      have H3 := Lib.hid (H2.out.trans (hb.mono H2.out.size))
      clear hb HS
      have HOK := Lib.hid (ok_zero (IRd.fresh w3 25 [0, 0] 2 rfl #[.int .i64 0, .int .i64 0] rfl) (by decide) (by decide))
      go_wp2_with fail
      refine HOK.out.mono ?_
      rintro e w4 ⟨rfl, rfl⟩
      have H4 := Lib.hid (H3.out.alloc H3.out.size (.cells #[.int .i64 0, .int .i64 0] 25))
      clear HOK
      have HS := Lib.hid (sqlives_any (w3.alloc (.cells #[.int .i64 0, .int .i64 0] 25)) ((HT.out.2.2.on H4.out).mono H4.out.size))
      go_wp2_with fail
      refine HS.out.mono ?_
      rintro e w5 ⟨rfl, hb⟩
      have H5 := Lib.hid (H4.out.trans (hb.mono H4.out.size))
      clear hb HS
      go_wp2_with fail
      go_ret
      exact ⟨rfl, H5.out⟩
    · obtain ⟨k1, k2, k3, k4⟩ := hord hE hfb
      have HORD := Lib.hid (And.intro k1 (And.intro k3 k4))
      obtain ⟨ws, hws⟩ : ∃ ws, ws = fndL (ownB (callsOf ts l).1) ts (callsOf ts l) := ⟨_, rfl⟩
      obtain ⟨cs, hcs⟩ : ∃ cs, cs = (callsOf ts l).1 := ⟨_, rfl⟩
      rw [← hws, ← hcs] at HORD
      rw [← hws] at HV2 k2 ⊢
      rw [← hcs] at HCC ⊢
      obtain ⟨m, hm⟩ : ∃ m, m = ws.length := ⟨_, rfl⟩
      obtain ⟨n, hn⟩ : ∃ n, n = cs.length := ⟨_, rfl⟩
      rw [← hm] at HV2 k2 ⊢
      rw [← hn] at HCC ⊢
      have HMN := Lib.hid (And.intro hm hn)
      generalize (callsOf ts l).2.1 = at1
      have hn8 : n ≤ 9223372036854775807 := by
        obtain ⟨_, _, _, h1, h2⟩ := HCC.out.is
        rw [← hn] at h1
        unfold maxLen at h2
        omega
      clear hord hfew hno hE h0 hfb k1 k3 k4 hws hcs hm hn hcv hcc
      have HS := Lib.hid (sqlives_any w2 ((HT.out.2.2.on H2.out).mono H2.out.size))
      go_wp2_with fail
      refine HS.out.mono ?_
      rintro e w3 ⟨rfl, hb⟩
      have H3 := Lib.hid (H2.out.trans (hb.mono H2.out.size))
      have HS23 := Lib.hid hb
      clear hb HS
      have HOK := Lib.hid (ok_zero (IRd.fresh w3 25 [0, 0] 2 rfl #[.int .i64 0, .int .i64 0] rfl) (by decide) (by decide))
      go_wp2_with fail
      refine HOK.out.mono ?_
      rintro e w4 ⟨rfl, rfl⟩
      have H4 := Lib.hid (H3.out.alloc H3.out.size (.cells #[.int .i64 0, .int .i64 0] 25))
      clear HOK
      go_wp2_with fail
      have hV6 : SRd (w3.alloc (.cells #[.int .i64 0, .int .i64 0] 25)) (w3.alloc (.cells #[.int .i64 0, .int .i64 0] 25)).heap.size (.slice Av m cv) ws := by
        have h9 : Below w2.heap.size w2 (w3.alloc (.cells #[.int .i64 0, .int .i64 0] 25)) := HS23.out.alloc HS23.out.size _
        exact (HV2.out.below h9).mono h9.size
      have hC6 : CRd (w3.alloc (.cells #[.int .i64 0, .int .i64 0] 25)) (w3.alloc (.cells #[.int .i64 0, .int .i64 0] 25)).heap.size (.slice Ac n cc) cs := by
        have h9 : Below w2.heap.size w2 (w3.alloc (.cells #[.int .i64 0, .int .i64 0] 25)) := HS23.out.alloc HS23.out.size _
        exact (HCC.out.below h9).mono h9.size
      have h6 := H4.out
      have H6 := Lib.hid (And.intro hV6 (And.intro hC6 h6))
      clear hV6 hC6 h6 H4 H3 HS23 HV2 HCC
      change Code.wp _ _ _ _ (w3.alloc (.cells #[.int .i64 0, .int .i64 0] 25))
      generalize w3.alloc (.cells #[.int .i64 0, .int .i64 0] 25) = W6 at H6 ⊢
      go_loopw [48, 11] (fun t mv wr => ∃ k : Nat, k ≤ m ∧ t = .int .i64 k ∧ EOwn wr W6.heap.size mv (doneE cs (ws.take k)) ∧ Below W6.heap.size W6 wr) (fun t _ _ => m - (intOf t).toNat)
      case atStart => exact ⟨0, by omega, rfl, EOwn.nil _ _, Below.refl _ _⟩
      case round =>
        obtain ⟨k, hk, rfl, hown, hb⟩ := hrel
        by_cases hkm : k < m
        · obtain ⟨x, hx⟩ : ∃ x, ws[k]? = some x := ⟨_, List.getElem?_eq_getElem (by rw [← HMN.out.1]; exact hkm)⟩
          have hrng := HORD.out.1 x (List.mem_of_getElem? hx)
          obtain ⟨y, hy⟩ : ∃ y, cs[x.1.toNat]? = some y := ⟨_, List.getElem?_eq_getElem (by omega)⟩
          have hat : atC cs x = y := by unfold atC; rw [List.getD_eq_getElem?_getD, hy]; rfl
          have htk : ws.take (k + 1) = ws.take k ++ [x] := by rw [List.take_add_one, hx]; rfl
          have hsn := doneE_snoc cs x (ws.take k)
          rw [← htk, hat] at hsn
          have hdl : (doneE cs (ws.take k)).length ≤ 18 := by rw [doneE_len, List.length_take]; omega
          have HSN := Lib.hid (And.intro hsn hdl)
          obtain ⟨g, o, hA, -, d0, d1⟩ := (H6.out.1.below hb).sp hx
          subst hA
          obtain ⟨x1, x2⟩ := x
          simp only at d0 d1 hrng hy
          obtain ⟨q, rfl⟩ : ∃ q : Nat, x1 = (q : Int) := ⟨x1.toNat, by omega⟩
          rw [Int.toNat_natCast] at hy
          have hal : Below wr.heap.size wr (wr.alloc (.cells #[.int .i64 q, .int .i64 x2] 42)) := (Below.refl _ _).alloc (Nat.le_refl _) _
          obtain ⟨g2, o2, hA2, -, e0, e1, e2, e3, e4, e5, e6⟩ := (H6.out.2.1.below (hb.trans (hal.mono hb.size))).cl hy
          subst hA2
          have hq : (q : Int) < (n : Int) := by rw [HMN.out.2]; exact hrng.2
          have hq0 : (0 : Int) ≤ (q : Int) := hrng.1
          have i2 : (k : Int) < (m : Int) := by omega
          obtain ⟨y0, y1, y2, y3, y4, y5, y6⟩ := y
          simp only at e0 e1 e2 e3 e4 e5 e6 HSN
          have HO := Lib.hid (And.intro hown hb)
          clear hown hb hx hy hat htk hsn hdl hrng hal
          go_wp2_with (at_builtin; refine wpList_app_two rfl (.tmp 67) (.tmp 84) rfl W6.heap.size (wr.heap.size + 1 + 1 + 1) (wr.heap.size + 1 + 1) _ _ ⟨y0, y1, y2, y3⟩ ⟨y0, y1, 0, x2⟩ rfl rfl (((HO.out.1.alloc _).alloc _).alloc _) (by simpa using twoE ((wr.alloc (.cells #[.int .i64 q, .int .i64 x2] 42)).alloc (.cells #[.int .i64 y0, .int .i64 y1, .int .i64 y2, .int .i64 y3, .int .i64 y4, .int .i64 y5, .int .i64 y6] 57)) y0 y1 y2 y3 y0 y1 0 x2) (by have := HSN.out.2; omega) (by have := HO.out.2.size; simp; omega) ?_; intro v1 z1 ho1 hb1)
          have HY := Lib.hid (And.intro ho1 ((((HO.out.2.alloc HO.out.2.size _).alloc (by have := HO.out.2.size; simp; omega) _).alloc (by have := HO.out.2.size; simp; omega) _).trans hb1))
          clear ho1 hb1
          go_wp2_with fail
          go_roundw
          case rel => exact ⟨k + 1, by omega, by go_num, by rw [HSN.out.1]; exact HY.out.1, HY.out.2⟩
          case measure => simp [intOf]; omega
        · obtain rfl : m = k := by omega
          rw [List.take_of_length_le (by rw [← HMN.out.1]; exact Nat.le_refl _)] at hown
          have hb7 := H6.out.2.2.trans (hb.mono H6.out.2.2.size)
          have HS5 := Lib.hid (find_say ((HT.out.1.below hb7).mono hb7.size) hown.rd ((HT.out.2.2.on hb7).mono hb7.size))
          have H7 := Lib.hid hb7
          clear hown hb hb7
          go_wp2_with fail
          refine HS5.out.mono ?_
          rintro e w8 ⟨hb8, v8, rfl, -⟩
          rw [HORD.out.2.1, HORD.out.2.2]
          have H8 := Lib.hid (H7.out.trans (hb8.mono H7.out.size))
          clear hb8 HS5
          go_wp2_with fail
          go_ret
          exact ⟨rfl, H8.out⟩
  · clear hord hfew hno
    generalize (fndL (ownB (callsOf ts l).1) ts (callsOf ts l)).length = m
    generalize (callsOf ts l).1.length = n
    generalize (callsOf ts l).2.1 = at1
    generalize (callsOf ts l).2.2 = F
    generalize fndB (ownB (callsOf ts l).1) ts (callsOf ts l) = fb
    generalize hEE : searchE (callsOf ts l) = E at hE ⊢
    have HE := Lib.hid hE
    clear hEE hE
    have HS := Lib.hid (sqlives_any w2 ((HT.out.2.2.on H2.out).mono H2.out.size))
    go_wp2_with fail
    refine HS.out.mono ?_
    rintro e w3 ⟨rfl, hb⟩
    have H3 := Lib.hid (H2.out.trans (hb.mono H2.out.size))
    clear hb HS
    have HOK := Lib.hid (ok_not (IRd.fresh w3 25 [E, F] 2 rfl #[.int .i64 E, .int .i64 F] rfl) (x := E) (by simp) HE.out (by simp))
    go_wp2_with fail
    refine HOK.out.mono ?_
    rintro e w4 ⟨rfl, rfl⟩
    have H4 := Lib.hid (H3.out.alloc H3.out.size (.cells #[.int .i64 E, .int .i64 F] 25))
    clear HOK
    have HS := Lib.hid (sqlives_any (w3.alloc (.cells #[.int .i64 E, .int .i64 F] 25)) ((HT.out.2.2.on H4.out).mono H4.out.size))
    go_wp2_with fail
    refine HS.out.mono ?_
    rintro e w5 ⟨rfl, hb⟩
    have H5 := Lib.hid (H4.out.trans (hb.mono H4.out.size))
    clear hb HS
    go_wp2_with fail
    go_ret
    exact ⟨rfl, H5.out⟩
end Go.Proofs.YtecpjeililiafaaDoor
