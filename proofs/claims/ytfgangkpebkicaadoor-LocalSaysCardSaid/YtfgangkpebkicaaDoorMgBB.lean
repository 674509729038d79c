/-
  Joined by a program out of: LoAllB, CallRel, LOwnO, LOwnW, LMap.
-/
import Derived.Test.YtfgangkpebkicaaDoorMgBA
import Derived.Test.YtfgangkpebkicaaDoorMgAI
import Derived.Test.YtfgangkpebkicaaDoorMgAJ
import Derived.Test.YtfgangkpebkicaaDoorMgAU
import Derived.Test.YtfgangkpebkicaaDoorMgAS
import Derived.Test.YtfgangkpebkicaaDoorMgAD
import Derived.Test.YtfgangkpebkicaaDoorMgAQ
import Derived.Test.YtfgangkpebkicaaDoorMgAT
import Derived.Test.YtfgangkpebkicaaDoorMgAA
import Derived.Test.YtfgangkpebkicaaDoorMgAM

/-
  Contract of alibref.LeastOrder from any legal begin: what it answers is a row of its own.
-/
namespace Go.Proofs.YtfgangkpebkicaaDoor
open Go.RowKit
set_option maxRecDepth 20000

theorem tryG_noneB {b : Nat → Nat} {ts : List Int} {cs : List Cl} {p : Pt} : ∀ m k, tryG b (fun _ => none) ts cs p m k = none
  | 0, k => rfl
  | m + 1, k => by
    rw [tryG, tryG_noneB m (k + 1)]
    split <;> rfl
theorem lo_anyB {B : Nat} {ts : List Int} {cs : List Cl} {r b : Nat → Nat} (hn : cs.length ≤ 12) (hirr : ∀ i, (r i).testBit i = false) (hty : ∀ t ∈ ts, 1 ≤ t ∧ t ≤ 5) (hok : ∀ c ∈ cs, CallOk ts c)
    (hb : ∀ k, k < cs.length → ∀ i, i < cs.length → ((b k).testBit i = (r i).testBit k)) (hb2 : ∀ k i, cs.length ≤ i → (b k).testBit i = false) :
    ∀ (f : Nat) (ws : List (Int × Int)) (p : Pt), Legal ts cs r ws p → cs.length ≤ ws.length + f → ∀ {w : World} {tv cv : Value} {a : Addr} {M c : Nat}, NRd w w.heap.size tv ts → CRd w w.heap.size cv cs → B ≤ w.heap.size → TOwn w B (.slice (some a) M c) ws →
      Calls Tryd.prog 22 #[tv, cv, relV cs.length r, .slice (some a) M c] w (LoPostB w B (findG b ts cs f p) ws)
  | 0, ws, p, hleg, hlen, w, tv, cv, a, M, c, ht, hc, hB0, hw => by
    have h := lo_coreB hn hirr hty hok hb hb2 hleg (go := fun _ => none) (fun k hk hm => by
      exfalso
      have h1 := (mayG_iff hleg.small (by omega) (hb k hk) (hb2 k)).1 hm
      have hnm : ¬ (k : Int) ∈ ws.map (·.1) := fun hmm => by rw [(hleg.done k hk).2 hmm] at h1; cases h1.1
      have h2 := nodup_lt cs.length (l := (k : Int) :: ws.map (·.1)) (List.nodup_cons.2 ⟨hnm, hleg.once⟩) (fun z hz => by
        rcases List.mem_cons.1 hz with rfl | hz
        · exact ⟨by omega, by omega⟩
        · obtain ⟨x, hx, rfl⟩ := List.mem_map.1 hz
          exact hleg.rng x hx)
      rw [List.length_cons, List.length_map] at h2
      omega) ht hc hB0 hw
    rw [tryG_noneB] at h
    exact h
  | f + 1, ws, p, hleg, hlen, w, tv, cv, a, M, c, ht, hc, hB0, hw =>
    lo_coreB hn hirr hty hok hb hb2 hleg (go := findG b ts cs f) (fun k hk hm => by
      intro w tv cv a N c h1 h2 h3 h4
      obtain ⟨m1, m2, m3, m4⟩ := (mayG_iff hleg.small (by omega) (hb k hk) (hb2 k)).1 hm
      exact lo_anyB hn hirr hty hok hb hb2 f _ _ (hleg.next hk (by omega) (hirr k) (hok _ (List.mem_of_getElem? (getD_some hk))).thing m1 m2 m3 m4) (by rw [List.length_append]; simp; omega) h1 h2 h3 h4) ht hc hB0 hw
end Go.Proofs.YtfgangkpebkicaaDoor

/-
  Contract of the reference's CallRel.
-/
namespace Go.Proofs.YtfgangkpebkicaaDoor
open Go.RowKit
set_option maxRecDepth 20000
theorem upP_row_lt (p : Nat → Nat → Bool) (m k j : Nat) : upP p m k j k < 2 ^ j := by
  unfold upP
  rw [if_neg (by omega), if_pos rfl]
  exact pickS_lt _ _
set_option maxHeartbeats 4000000 in
theorem callrel_any {B : Nat} {v : Value} {l : List Cl} {w : World} (h : CRd w B v l) (hB : B ≤ w.heap.size) (hl : l.length ≤ 12) :
    Calls Tryd.prog 12 #[v] w fun e w' => e = .returned (relV l.length (relP (aheadB l) l.length)) ∧ Below w.heap.size w w' := by
  obtain ⟨A, c, rfl, -, -⟩ := h.is
  have H := Lib.hid (And.intro h hB)
  obtain ⟨m, hm⟩ : ∃ m, m = l.length := ⟨_, rfl⟩
  rw [← hm]
  rw [← hm] at hl
  have HM := Lib.hid hm
  have hO : ORel w w.heap.size (w.heap.size + 1) m (upP (aheadB l) m 0 0) ((w.alloc (.cells (relCs 0 fun _ => 0) 46)).alloc (.cells (relCs m fun _ => 0) 46)) := by
    rw [upP_none]
    have h2 := Lies.new (w.alloc (.cells (relCs 0 fun _ => 0) 46)) 46 (relCs m fun _ => 0)
    rw [World.size_alloc] at h2
    exact ⟨((Below.refl _ _).alloc (Nat.le_refl _) _).alloc (by simp) _, Lies.alloc (Lies.new _ _ _) _, h2, Nat.le_refl _, by omega⟩
  have HO := Lib.hid hO
  clear h hB hm hO
  go_enter Tryd.func12, Tryd.ntmps12
  go_wp2_with fail
  have hO := HO.out
  clear HO
  change Code.wp _ _ _ _ ((w.alloc (.cells (relCs 0 fun _ => 0) 46)).alloc (.cells (relCs m fun _ => 0) 46))
  generalize (w.alloc (.cells (relCs 0 fun _ => 0) 46)).alloc (.cells (relCs m fun _ => 0) 46) = W at hO ⊢
  obtain ⟨G, hG⟩ : ∃ G, G = w.heap.size + 1 := ⟨_, rfl⟩
  rw [← hG] at hO ⊢
  clear hG
  go_loopw [11] (fun i wr => ∃ k : Nat, k ≤ m ∧ i = .int .i64 k ∧ ORel w w.heap.size G m (upP (aheadB l) m k 0) wr) (fun i _ => m - (intOf i).toNat)
  case atStart => exact ⟨0, by omega, rfl, hO⟩
  case round =>
    clear hO
    obtain ⟨k, hk, rfl, hO⟩ := hrel
    by_cases hkm : k < m
    · obtain ⟨x, hx⟩ : ∃ x, l[k]? = some x := ⟨_, List.getElem?_eq_getElem (by rw [← HM.out]; exact hkm)⟩
      have HO := Lib.hid hO
      have HX := Lib.hid hx
      clear hO hx
      have i1 : (0 : Int) ≤ (k : Int) := by omega
      have i2 : (k : Int) < (m : Int) := by omega
      have k12 : (k : Int) < 12 := by omega
      go_wp2_with fail
      obtain ⟨wo, rfl⟩ : ∃ wo : World, wo = wr := ⟨_, rfl⟩
      go_loopw [16] (fun i wr => ∃ j : Nat, j ≤ m ∧ i = .int .i64 j ∧ ORel w w.heap.size G m (upP (aheadB l) m k j) wr) (fun i _ => m - (intOf i).toNat)
      case atStart => exact ⟨0, by omega, rfl, HO.out⟩
      case round =>
        clear HO
        obtain ⟨j, hj, rfl, hO⟩ := hrel
        by_cases hjm : j < m
        · obtain ⟨y, hy⟩ : ∃ y, l[j]? = some y := ⟨_, List.getElem?_eq_getElem (by rw [← HM.out]; exact hjm)⟩
          have hb := hO.below
          have h' := H.out.1.below (hb.mono H.out.2)
          rw [← HM.out] at h'
          obtain ⟨g, o, hA, -, d0, d1, d2, d3, d4, d5, d6⟩ := h'.cl HX.out
          obtain ⟨g', o', hA', -, c0, c1, c2, c3, c4, c5, c6⟩ := h'.cl hy
          subst hA
          injection hA' with hA'
          injection hA' with hA1 hA2
          subst hA1
          subst hA2
          clear d0 d1 d2 d3 d4 d5 c0 c1 c2 c3 c4 c6 h' hb
          have hst := upP_step (aheadB l) m k j
          rw [aheadB_at HX.out hy] at hst
          have j1 : (0 : Int) ≤ (j : Int) := by omega
          have j2 : (j : Int) < (m : Int) := by omega
          have hk12 : k < 12 := by omega
          have HJ := Lib.hid (upP_row_lt (aheadB l) m k j)
          have HO := Lib.hid hO
          have HS := Lib.hid hst
          clear hst hy hO
          generalize x.til = x6 at d6 HS
          generalize y.frm = y5 at c5 HS
          by_cases t1 : x6 = -1
          · have hz : (x6 != -1) = false := by rw [bne_eq_false_iff_eq]; exact t1
            have hs := HS.out
            rw [if_neg (by simp [t1])] at hs
            have HS2 := Lib.hid hs
            clear hs t1 HS
            go_wp2_with fail
            go_quiet (fail)
            go_wp2_with fail
            go_roundw
            case rel => exact ⟨j + 1, by omega, by go_num, by rw [HS2.out]; exact HO.out.drewN _⟩
            case measure => simp [intOf]; omega
          · have hz : (x6 != -1) = true := by rw [bne_iff_ne]; exact t1
            by_cases t2 : x6 < y5
            · have hs := HS.out
              rw [if_pos (by simp [t1, t2])] at hs
              have HS2 := Lib.hid hs
              clear hs t1 HS
              go_wp2_with fail
              go_quiet (fail)
              have hO := HO.out.drewN nq
              clear d6 c5 HO
              generalize wr.drewN nq = w4 at hO ⊢
              have ck := hO.own.row' hk12
              have fk := hO.own.free (1 + k)
              have hlt := HJ.out
              have HOO := Lib.hid hO
              have hGl := hO.own.lt
              clear hO
              generalize hxx : upP (aheadB l) m k j k = z at ck hlt HS2
              have HXX := Lib.hid hxx
              have ho := add_pow z j hlt (by omega)
              have hp := pow_u16 j (by omega)
              clear hxx
              go_wp2_with fail
              go_region
              have h1 : ORel w w.heap.size G m (upP (aheadB l) m k (j + 1)) (w4.setCell ⟨G, 1 + k, none⟩ (.int .u16 ((z ||| 2 ^ j : Nat) : Int))).drew := by
                rw [HS2.out]
                exact (HOO.out.set_ hk12 _).drew
              clear ck fk ho hp
              generalize (w4.setCell ⟨G, 1 + k, none⟩ (.int .u16 ((z ||| 2 ^ j : Nat) : Int))).drew = w5 at h1 ⊢
              have HX2 := Lib.hid h1
              clear h1 hGl
              go_wp2_with fail
              go_roundw
              case rel => exact ⟨j + 1, by omega, by go_num, HX2.out⟩
              case measure => simp [intOf]; omega
            · have hs := HS.out
              rw [if_neg (by simp [t2])] at hs
              have HS2 := Lib.hid hs
              clear hs t1 HS
              go_wp2_with fail
              go_quiet (fail)
              go_wp2_with fail
              go_roundw
              case rel => exact ⟨j + 1, by omega, by go_num, by rw [HS2.out]; exact HO.out.drewN _⟩
              case measure => simp [intOf]; omega
        · obtain rfl : j = m := by omega
          rw [upP_end] at hO
          go_wp2_with fail
          go_roundw
          case rel => exact ⟨k + 1, by omega, by go_num, hO⟩
          case measure => simp [intOf]; omega
    · obtain rfl : k = m := by omega
      rw [upP_all] at hO
      have hr := hO.res.size
      obtain ⟨r0, r1, r2, r3, r4, r5, r6, r7, r8, r9, r10, r11⟩ := hO.res.rows
      have hc := hO.own.size
      obtain ⟨c0, c1, c2, c3, c4, c5, c6, c7, c8, c9, c10, c11⟩ := hO.own.rows
      have hf := hO.res.free
      go_wp2_with fail
      clear hr r0 r1 r2 r3 r4 r5 r6 r7 r8 r9 r10 r11 hc c0 c1 c2 c3 c4 c5 c6 c7 c8 c9 c10 c11 hf
      refine post_fill (W := wr) (g := w.heap.size) k (relP (aheadB l) k) hO.res hO.below (by omega) ?_
      intro wz hz hbz
      have hs := hz.size
      obtain ⟨c0, c1, c2, c3, c4, c5, c6, c7, c8, c9, c10, c11⟩ := hz.rows
      exact bodyPost_ret (v := relV k (relP (aheadB l) k))
        (by simp [results, Tryd.results12, go_sem, hs, c0, c1, c2, c3, c4, c5, c6, c7, c8, c9, c10, c11]) rfl ⟨rfl, hbz⟩
end Go.Proofs.YtfgangkpebkicaaDoor

/-
  Contract of alibref.OwnOrder.
-/
namespace Go.Proofs.YtfgangkpebkicaaDoor
open Go.RowKit
set_option maxRecDepth 20000

theorem run_app_intG {W : World} {base G : Nat} {v : Value} {l : List Int} {y : Int} (ty : TypeId) (hown : NOwn W base v l) (hG : W.cell? ⟨G, 0, none⟩ = some (.int .i64 y)) (hlen : l.length ≤ 65536) (hbase : base ≤ W.heap.size) :
    ∃ v' w', (Builtin.append_ #[22, 22] ty #[v, .slice (some ⟨G, 0, none⟩) 1 1]).run Tryd.prog W = .ok v' w' ∧ NOwn w' base v' (l ++ [y]) ∧ Below base W w' ∧ W.grownBy w' v.ownBlock := by
  obtain ⟨i0, hi, hz0, hz1, hz2⟩ := info_of info_int
  have hl := World.ownsRow.lt hown
  obtain ⟨v', w', hr, h2, h3, _⟩ := run_append_own (P := Tryd.prog) W base 22 ty 3 i0 (.int .i64 0) 1 8 Tryd.underlying22 hi hz0 hz1 hz2 rfl (by decide) v l.length (l.flatMap intCs) hown
    ⟨G, 0, none⟩ 1 1 (intCs y) rfl (fun j u hu => by
      rw [Addr.add_lit, Nat.zero_add]
      have hj : j = 0 := by
        have := (List.getElem?_eq_some_iff.1 hu).1
        simp at this
        omega
      subst hj
      simp only [List.getElem?_cons_zero, Option.some.injEq] at hu
      subst hu
      exact hG) (fun u hu => by
      simp only [List.mem_cons, List.not_mem_nil, or_false] at hu
      subst hu
      rfl) (by unfold maxLen; omega) (by omega) hbase
  refine ⟨v', w', hr, ?_, (Below.refl base W).grown h3 hbase (fun k hk => (hl k hk).1), h3⟩
  unfold NOwn
  rw [List.length_append, List.flatMap_append]
  simpa using h2
/-- Rows of unlike types stand apart. -/
theorem own_apart {w : World} {B B' s s' n n' : Nat} {t t' : TypeId} {v v' : Value} {xs xs' : List Value} (h : w.ownsRow B t s v n xs) (h' : w.ownsRow B' t' s' v' n' xs') (ht : t ≠ t') : v.ownBlock = none ∨ v.ownBlock ≠ v'.ownBlock := by
  rcases h.2 with ⟨rfl, _⟩ | ⟨g, cap, cur, rfl, _, hg, _⟩
  · exact .inl rfl
  · right
    rcases h'.2 with ⟨rfl, _⟩ | ⟨g', cap', cur', rfl, _, hg', _⟩
    · intro e; cases e
    · intro e
      have e2 : g = g' := by injection e
      subst e2
      rw [hg] at hg'
      injection hg' with hg'
      injection hg' with _ e3
      exact ht e3
theorem ownQ_take {cs : List Cl} {k : Nat} {c : Cl} (h : cs[k]? = some c) (q : Int) : ownQ (cs.take (k + 1)) q = if c.thing = q then ownQ (cs.take k) q ++ [c] else ownQ (cs.take k) q := by
  unfold ownQ
  rw [List.take_add_one, h, Option.toList_some, List.filter_append]
  by_cases e : c.thing = q <;> simp [e]
theorem idxK_small (cs : List Cl) (q : Int) (k : Nat) : (idxK cs q k).length ≤ k := by
  unfold idxK
  rw [List.length_map]
  have := List.length_filter_le (fun i => (cs.getD i default).thing == q) (List.range k)
  rw [List.length_range] at this
  exact this
theorem idxK_own (cs : List Cl) (q : Int) : (idxK cs q cs.length).length = (ownQ cs q).length := idxK_len cs q
theorem try_GL {Rl : Nat → Nat → Bool} {go go' : Pt → Option (List (Nat × Int))} {ts : List Int} {cs : List Cl} {p : Pt} (h : ∀ r, go r = go' r) : ∀ m k, tryO Rl go ts cs p m k = tryG (befP Rl cs) go' ts cs p m k
  | 0, k => rfl
  | m + 1, k => by
    rw [tryO, tryG, try_GL h m (k + 1), h]
    rfl
theorem find_GL {Rl : Nat → Nat → Bool} {ts : List Int} {cs : List Cl} : ∀ f p, findO Rl ts cs f p = findG (befP Rl cs) ts cs f p
  | 0, p => rfl
  | f + 1, p => by
    rw [findO, findG, try_GL (fun r => find_GL f r)]
theorem ends_irrL {cs : List Cl} (h : ∀ c ∈ cs, c.til = -1 ∨ c.frm < c.til) (i : Nat) : aheadB cs i i = false := by
  unfold aheadB
  rw [decide_eq_false_iff_not]
  rintro ⟨h1, h2⟩
  by_cases hi : i < cs.length
  · have hm : cs.getD i default ∈ cs := by rw [List.getD_eq_getElem?_getD, List.getElem?_eq_getElem hi]; exact List.getElem_mem _
    have := h _ hm
    omega
  · rw [List.getD_eq_getElem?_getD, List.getElem?_eq_none (by omega)] at h2
    exact absurd h2 (by decide)
/-- The reference's LeastOrder of a thing's calls. -/
theorem lqleast_any {ts : List Int} {l : List Ev} (h0 : (callsOf ts l).2.2 = 0) {q : Int} {N B : Nat} (hN : N = (ownQ (callsOf ts l).1 q).length) (h9 : N ≤ 9) {w : World} {tv cv : Value} {a : Addr} {c : Nat} (ht : NRd w w.heap.size tv ts) (hc : CRd w w.heap.size cv (ownQ (callsOf ts l).1 q)) (hB : B ≤ w.heap.size) (hw : TOwn w B (.slice (some a) 0 c) []) :
    Calls Tryd.prog 22 #[tv, cv, relV N (relP (aheadB (ownQ (callsOf ts l).1 q)) N), .slice (some a) 0 c] w fun e w' => Below w.heap.size w w' ∧ ((ownO ts (callsOf ts l).1 q = none ∧ e = .returned (.slice none 0 0)) ∨ ∃ S a n c, ownO ts (callsOf ts l).1 q = some S ∧ e = .returned (.slice (some a) n c) ∧ TOwn w' B (.slice (some a) n c) (asSteps S)) := by
  subst hN
  have hor := (calls_orderly h0).1
  have hends : ∀ c ∈ ownQ (callsOf ts l).1 q, c.til = -1 ∨ c.frm < c.til := fun c hc => hor.ends c (ownQ_mem.1 hc).1
  have hok : ∀ c ∈ ownQ (callsOf ts l).1 q, CallOk ts c := fun c hc => calls_callOk h0 c (ownQ_mem.1 hc).1
  have hty : ∀ t ∈ ts, 1 ≤ t ∧ t ≤ 5 := by
    have h1 := (calls_zero h0).1
    unfold typesB at h1
    simp only [Bool.and_eq_true, List.all_eq_true, decide_eq_true_eq] at h1
    exact h1.2
  unfold ownO
  generalize ownQ (callsOf ts l).1 q = cs at h9 hc hends hok ⊢
  have hfo : foundO (aheadB cs) ts cs = findG (befP (aheadB cs) cs) ts cs cs.length (startP ts) := find_GL _ _
  rw [hfo]
  have hirr : ∀ i, (relP (aheadB cs) cs.length i).testBit i = false := fun i => by rw [relP_bit, ends_irrL hends, Bool.and_false]
  have hb1 : ∀ k, k < cs.length → ∀ i, i < cs.length → ((befP (aheadB cs) cs k).testBit i = (relP (aheadB cs) cs.length i).testBit k) := fun k hk i hi => by
    unfold befP
    rw [relP_bit, relP_bit, Bool.and_comm (decide (k < cs.length))]
  have hb2 : ∀ k i, cs.length ≤ i → (befP (aheadB cs) cs k).testBit i = false := fun k i hi => by
    unfold befP
    rw [relP_bit, decide_eq_false (p := i < cs.length) (by omega), Bool.and_false, Bool.false_and]
  refine (lo_anyB (b := befP (aheadB cs) cs) (by omega) hirr hty hok hb1 hb2 cs.length [] (startP ts) Legal.start (by simp) ht hc hB hw).mono ?_
  rintro e w' ⟨hb, ⟨hn, rfl⟩ | ⟨S, a, n, c, hs, rfl, ho⟩⟩
  · exact ⟨hb, .inl ⟨hn, rfl⟩⟩
  · exact ⟨hb, .inr ⟨S, a, n, c, hs, rfl, ho⟩⟩
end Go.Proofs.YtfgangkpebkicaaDoor

/-
  Contract of alibref.OwnOrder.
-/
namespace Go.Proofs.YtfgangkpebkicaaDoor
open Go.RowKit
set_option maxRecDepth 20000

theorem own_rng {ts : List Int} {l : List Ev} (h0 : openE ts l = 0) {q : Int} {S : List (Nat × Int)} (hS : ownO ts (callsOf ts l).1 q = some S) : ∀ x ∈ asSteps S, 0 ≤ x.1 ∧ x.1 < (ownQ (callsOf ts l).1 q).length := by
  have h1 := (openE_zero h0).2.2 q
  have h2 : (ownQ (callsOf ts l).1 q).length ≤ 9 := h1
  exact ((rite_iff (ts := ts) (by omega) (fun c hc => calls_thing c (ownQ_mem.1 hc).1)).1 (found_right hS)).rng
set_option maxHeartbeats 8000000 in
theorem lown_any {tv cv : Value} {ts : List Int} {l : List Ev} {w : World} (h0 : openE ts l = 0) (ht : NRd w w.heap.size tv ts) (hc : CRd w w.heap.size cv (callsOf ts l).1) (t : Nat) :
    Calls Tryd.prog 9 #[tv, cv, .int .i64 (t : Int)] w fun e w' => Below w.heap.size w w' ∧ ((ownO ts (callsOf ts l).1 (t : Int) = none ∧ e = .returned (.slice none 0 0)) ∨ ∃ S a n c, ownO ts (callsOf ts l).1 (t : Int) = some S ∧ e = .returned (.slice (some a) n c) ∧ TOwn w' w.heap.size (.slice (some a) n c) ((asSteps S).map (renK ts l t))) := by
  obtain ⟨Ac, cc, rfl, m1, m2⟩ := hc.is
  obtain ⟨At, ct, rfl, -, -⟩ := ht.is
  unfold maxLen at m2
  obtain ⟨z1, z2, z3⟩ := openE_zero h0
  have h9 : (ownQ (callsOf ts l).1 (t : Int)).length ≤ 9 := z3 (t : Int)
  have hrn : renK ts l t = fun x => ((idxK (callsOf ts l).1 (t : Int) (callsOf ts l).1.length).getD x.1.toNat 0, x.2) := rfl
  have HOR := Lib.hid (fun S => own_rng h0 (q := (t : Int)) (S := S))
  have HLO := Lib.hid (fun (N B : Nat) (hN : N = (ownQ (callsOf ts l).1 (t : Int)).length) (h9 : N ≤ 9) (w : World) (tv cv : Value) (a : Addr) (c : Nat) => lqleast_any (w := w) (tv := tv) (cv := cv) (a := a) (c := c) z1 (B := B) hN h9)
  rw [hrn]
  generalize ownO ts (callsOf ts l).1 (t : Int) = OO at HOR HLO ⊢
  generalize (callsOf ts l).1 = cs at m1 hc h9 z2 HOR HLO ⊢
  obtain ⟨L, hL⟩ : ∃ L, L = cs.length := ⟨_, rfl⟩
  rw [← hL] at m1 hc z2 ⊢
  obtain ⟨tl, htl⟩ : ∃ tl, tl = ts.length := ⟨_, rfl⟩
  rw [← htl] at ht ⊢
  have H := Lib.hid (And.intro ht (And.intro hc (And.intro hL h9)))
  clear ht hc hL h9 h0 z1 z3 hrn htl
  go_enter Tryd.func9, Tryd.ntmps9
  go_wp2_with fail
  go_loopw [7, 8, 15] (fun v7 v8 i wr => ∃ (k : Nat) (a7 a8 : Value), k ≤ L ∧ i = .int .i64 k ∧ a7 = v7 ∧ a8 = v8 ∧ COwn wr w.heap.size a7 (ownQ (cs.take k) (t : Int)) ∧ NOwn wr w.heap.size a8 (idxK cs (t : Int) k) ∧ Below w.heap.size w wr) (fun _ _ i _ => L - (intOf i).toNat)
  case atStart => exact ⟨0, _, _, by omega, rfl, rfl, rfl, World.ownsRow_nil _ _ _ _, NOwn.nil _ _, Below.refl _ _⟩
  case round =>
    obtain ⟨k, a7, a8, hk, rfl, rfl, rfl, ho7, ho8, hb⟩ := hrel
    by_cases hkL : k < L
    · obtain ⟨x, hx⟩ : ∃ x, cs[k]? = some x := ⟨_, List.getElem?_eq_getElem (by rw [← H.out.2.2.1]; exact hkL)⟩
      obtain ⟨g, o, rfl, -, d0, d1, d2, d3, d4, d5, d6⟩ := (H.out.2.1.below hb).cl hx
      have i1 : (0 : Int) ≤ (k : Int) := by omega
      have i2 : (k : Int) < (L : Int) := by omega
      have hst := ownQ_take hx (t : Int)
      have hix := idxK_succ cs (t : Int) k
      rw [show cs.getD k default = x by rw [List.getD_eq_getElem?_getD, hx]; rfl] at hix
      have hl7 : (ownQ (cs.take k) (t : Int)).length ≤ 65536 := by
        have h1 : (ownQ (cs.take k) (t : Int)).length ≤ (cs.take k).length := List.length_filter_le _ _
        have h2 := List.length_take_le k cs
        omega
      have hl8 : (idxK cs (t : Int) k).length ≤ 65536 := by have := idxK_small cs (t : Int) k; omega
      obtain ⟨x0, x1, x2, x3, x4, x5, x6⟩ := x
      have hba : Below wr.heap.size wr (wr.alloc (.cells #[.int .i64 x0, .int .i64 x1, .int .i64 x2, .int .i64 x3, .int .i64 x4, .int .i64 x5, .int .i64 x6] 51)) := (Below.refl _ _).alloc (Nat.le_refl _) _
      have HW := Lib.hid (And.intro (hb.trans (hba.mono hb.size)) (And.intro (ho7.then_ hba) (And.intro (ho8.below hba) (Lies.new wr 51 #[.int .i64 x0, .int .i64 x1, .int .i64 x2, .int .i64 x3, .int .i64 x4, .int .i64 x5, .int .i64 x6]))))
      have HB := Lib.hid (And.intro hst (And.intro hix (And.intro hl7 hl8)))
      clear hx ho7 ho8 hb hst hix hl7 hl8 hba
      go_upto_region 6 with fail
      clear d0 d1 d2 d3 d4 d5 d6
      change Code.wp _ _ _ _ (wr.alloc (.cells #[.int .i64 x0, .int .i64 x1, .int .i64 x2, .int .i64 x3, .int .i64 x4, .int .i64 x5, .int .i64 x6] 51))
      generalize wr.alloc (.cells #[.int .i64 x0, .int .i64 x1, .int .i64 x2, .int .i64 x3, .int .i64 x4, .int .i64 x5, .int .i64 x6] 51) = W2 at HW ⊢
      generalize wr.heap.size = X at HW ⊢
      have e0 := Lies.cell HW.out.2.2.2 0
      have e1 := Lies.cell HW.out.2.2.2 1
      have e2 := Lies.cell HW.out.2.2.2 2
      have e3 := Lies.cell HW.out.2.2.2 3
      have e4 := Lies.cell HW.out.2.2.2 4
      have e5 := Lies.cell HW.out.2.2.2 5
      have e6 := Lies.cell HW.out.2.2.2 6
      simp only [List.getElem?_toArray, List.getElem?_cons_zero, List.getElem?_cons_succ] at e0 e1 e2 e3 e4 e5 e6
      by_cases hq : x1 = (t : Int)
      · have hz : (x1 == (t : Int)) = true := by rw [beq_iff_eq]; exact hq
        have HQ := Lib.hid hq
        have hba2 : Below W2.heap.size W2 (W2.alloc (.cells (clCs ⟨x0, x1, x2, x3, x4, x5, x6⟩).toArray 51)) := (Below.refl _ _).alloc (Nat.le_refl _) _
        have hwa := HW.out.1.trans (hba2.mono HW.out.1.size)
        have hc2 := HW.out.2.1.then_ hba2
        have hn2 := HW.out.2.2.1.below hba2
        obtain ⟨v5, w5, hr1, ho5, hb5, hg5⟩ := run_app_cl (y := ⟨x0, x1, x2, x3, x4, x5, x6⟩) 31 hc2 (new_cells W2 51 (clCs ⟨x0, x1, x2, x3, x4, x5, x6⟩)) HB.out.2.2.1 hwa.size
        have hn5 : NOwn w5 w.heap.size a8 (idxK cs (t : Int) k) := World.ownsRow.kept hn2 hg5 (own_apart hn2 hc2 (by decide))
        have hw5 := hwa.trans hb5
        have hba3 : Below w5.heap.size w5 (w5.alloc (.cells #[.int .i64 (k : Int)] 3)) := (Below.refl _ _).alloc (Nat.le_refl _) _
        have hn6 := hn5.below hba3
        have hc6 := ho5.then_ hba3
        obtain ⟨v6, w6, hr2, ho6, hb6, hg6⟩ := run_app_intG 22 hn6 (new_cells w5 3 [.int .i64 (k : Int)] 0 _ rfl) HB.out.2.2.2 (hw5.trans (hba3.mono hw5.size)).size
        have hc7 : COwn w6 w.heap.size v5 (ownQ (cs.take k) (t : Int) ++ [⟨x0, x1, x2, x3, x4, x5, x6⟩]) := World.ownsRow.kept hc6 hg6 (own_apart hc6 hn6 (by decide))
        have HR1 := Lib.hid hr1
        have HR2 := Lib.hid hr2
        have HN := Lib.hid (And.intro hc7 (And.intro ho6 ((hw5.trans (hba3.mono hw5.size)).trans hb6)))
        clear hba2 hwa hc2 hn2 hr1 ho5 hb5 hg5 hn5 hw5 hba3 hn6 hc6 hr2 ho6 hb6 hg6 hc7 hq
        go_wp2_with (first | (at_builtin; refine Lib.wpList_append_run _ rfl (.tmp 24) (.tmp 26) _ _ rfl _ _ rfl rfl _ _ HR1.out ?_) | (at_builtin; refine Lib.wpList_append_run _ rfl (.tmp 28) (.tmp 30) _ _ rfl _ _ rfl rfl _ _ HR2.out ?_))
        go_roundw
        case rel =>
          refine ⟨k + 1, _, _, by omega, by go_num, rfl, rfl, ?_, ?_, HN.out.2.2⟩
          · rw [HB.out.1, if_pos HQ.out]
            exact HN.out.1
          · rw [HB.out.2.1, if_pos HQ.out]
            exact HN.out.2.1
        case measure => simp [intOf]; omega
      · have hz : (x1 == (t : Int)) = false := by rw [beq_eq_false_iff_ne]; exact hq
        have HQ := Lib.hid hq
        clear hq
        go_wp2_with fail
        go_roundw
        case rel =>
          refine ⟨k + 1, _, _, by omega, by go_num, rfl, rfl, ?_, ?_, HW.out.1⟩
          · rw [HB.out.1, if_neg HQ.out]
            exact HW.out.2.1
          · rw [HB.out.2.1, if_neg HQ.out]
            exact HW.out.2.2.1
        case measure => simp [intOf]; omega
    · obtain rfl : k = L := by omega
      rw [show cs.take k = cs by rw [H.out.2.2.1, List.take_length]] at ho7
      obtain ⟨A7, c7, rfl⟩ := own_slice ho7
      obtain ⟨N, hN⟩ : ∃ N, N = (ownQ cs (t : Int)).length := ⟨_, rfl⟩
      rw [← hN] at ho7 ⊢
      have hN9 : N ≤ 9 := by rw [hN]; exact H.out.2.2.2
      have hid : (idxK cs (t : Int) k).length = N := by rw [hN, H.out.2.2.1]; exact idxK_own cs (t : Int)
      have hcr := callrel_any ho7.rd (Nat.le_refl _) (by rw [← hN]; omega)
      rw [← hN] at hcr
      obtain ⟨rl, hrl⟩ : ∃ rl, rl = relP (aheadB (ownQ cs (t : Int))) N := ⟨_, rfl⟩
      rw [← hrl] at hcr
      have HCR := Lib.hid hcr
      have HRL := Lib.hid (And.intro hrl (And.intro hN hid))
      have HA := Lib.hid (And.intro hb (And.intro ho7.rd ho8.rd))
      clear ho7 ho8 hb hN hid hcr hrl
      go_wp2_with fail
      refine HCR.out.mono ?_
      rintro e wb ⟨rfl, hbb⟩
      have hal : Below wb.heap.size wb (wb.alloc (.cells #[] 38)) := (Below.refl _ _).alloc (Nat.le_refl _) _
      have hb2 := hbb.trans (hal.mono hbb.size)
      have hbw := HA.out.1.trans (hb2.mono HA.out.1.size)
      have hlo := HLO.out N wb.heap.size HRL.out.2.1 hN9 _ _ _ _ _ ((H.out.1.below hbw).mono hbw.size) ((HA.out.2.1.below hb2).mono hb2.size) (Nat.le_of_lt (by simp)) (own_empty wb)
      rw [← HRL.out.1] at hlo
      have HLQ := Lib.hid hlo
      have H2 := Lib.hid (And.intro hbw (And.intro (((HA.out.2.2.below hbb).mono hbb.size).below hal) (And.intro ((HA.out.1.trans (hbb.mono HA.out.1.size)).size) hal.size)))
      clear hal hb2 hbw hlo hbb HCR HA HLO
      go_wp2_with fail
      generalize wb.alloc (.cells #[] 38) = W2 at H2 HLQ ⊢
      generalize wb.heap.size = Bw at H2 HLQ ⊢
      refine HLQ.out.mono ?_
      rintro e w8 ⟨hb8, ⟨hn, rfl⟩ | ⟨S, a, n, c, hs, rfl, hos⟩⟩
      · have H8 := Lib.hid (And.intro (H2.out.1.trans (hb8.mono H2.out.1.size)) hn)
        clear hb8 hn HLQ
        go_wp2_with fail
        go_loopw [41] (fun i wr => i = .int .i64 0 ∧ wr = w8) (fun _ _ => 0)
        case atStart => exact ⟨rfl, rfl⟩
        case round =>
          obtain ⟨rfl, rfl⟩ := hrel
          go_wp2_with fail
          go_ret
          exact ⟨H8.out.1, .inl ⟨H8.out.2, rfl⟩⟩
      · have hrg := HOR.out S hs
        obtain ⟨g, rfl, hgB⟩ : ∃ g, a = ⟨g, 0, none⟩ ∧ Bw ≤ g := by
          rcases hos.2 with ⟨e, _⟩ | ⟨g, cap', cur, e, h2, _⟩
          · cases e
          · injection e with e _ _
            injection e with e
            exact ⟨g, e, h2⟩
        have hns : n = (asSteps S).length ∧ n ≤ c ∧ c ≤ 9223372036854775807 := by
          obtain ⟨_, _, e, h1, h2⟩ := hos.rd.is
          injection e with _ e1 e2
          subst e1 e2
          unfold maxLen at h2
          exact ⟨rfl, h1, h2⟩
        obtain ⟨SS, hSS⟩ : ∃ SS, SS = asSteps S := ⟨_, rfl⟩
        rw [← hSS] at hos hrg hns
        have hrd8 := H2.out.2.1
        obtain ⟨A8, c8, rfl, q1, q2⟩ := hrd8.is
        unfold maxLen at q2
        have hsz2 : Bw ≤ W2.heap.size := H2.out.2.2.2
        obtain ⟨hns1, hns2, hns3⟩ := hns
        obtain ⟨f, hf⟩ : ∃ f : Int × Int → Int × Int, f = fun x => ((idxK cs (t : Int) k).getD x.1.toNat 0, x.2) := ⟨_, rfl⟩
        have hos0 : TOwn w8 Bw (.slice (some ⟨g, 0, none⟩) n c) (mixO f SS 0) := by rw [mixO_zero]; exact hos
        have H8 := Lib.hid (And.intro (H2.out.1.trans (hb8.mono H2.out.1.size)) (And.intro (hrd8.below (hb8.mono hsz2)) (And.intro hrg (And.intro hns1 (And.intro hgB (And.intro hs (And.intro hSS (And.intro hos0 H2.out.2.2.1))))))))
        have HF := Lib.hid hf
        obtain ⟨N8, hN8⟩ : ∃ N8, N8 = (idxK cs (t : Int) k).length := ⟨_, rfl⟩
        rw [← hN8] at H8 q1 ⊢
        have HN8 := Lib.hid hN8
        clear hrg hos hns1 hrd8 hsz2 hb8 hos0 hf hN8 hs hSS HLQ H2 HOR hgB
        go_wp2_with fail
        go_loopw [41] (fun i wr => ∃ j : Nat, j ≤ n ∧ i = .int .i64 j ∧ Below w.heap.size w wr ∧ TOwn wr Bw (.slice (some ⟨g, 0, none⟩) n c) (mixO f SS j) ∧ Below Bw w8 wr) (fun i _ => n - (intOf i).toNat)
        case atStart => exact ⟨0, by omega, rfl, H8.out.1, H8.out.2.2.2.2.2.2.2.1, Below.refl _ _⟩
        case round =>
          obtain ⟨j, hj, rfl, hb, hos, hbb⟩ := hrel
          by_cases hjn : j < n
          · obtain ⟨x, hx⟩ : ∃ x, SS[j]? = some x := ⟨_, List.getElem?_eq_getElem (by rw [← H8.out.2.2.2.1]; exact hjn)⟩
            have hmx : (mixO f SS j)[j]? = some x := by
              have h1 := mixO_at (f := f) hx
              rw [List.getD_eq_getElem?_getD] at h1
              cases h2 : (mixO f SS j)[j]? with
              | none =>
                rw [List.getElem?_eq_none_iff, mixO_len, ← H8.out.2.2.2.1] at h2
                omega
              | some y => rw [h2] at h1; exact congrArg some h1
            have hxr := H8.out.2.2.1 x (List.mem_of_getElem? hx)
            obtain ⟨g', o', he, -, x0, -⟩ := hos.rd.sp hmx
            injection he with he
            injection he with he1 he2
            subst he1 he2
            rw [Nat.zero_add] at x0
            have hset := mixO_set (f := f) hx
            obtain ⟨y1, y2⟩ := x
            simp only at x0 hxr hset
            obtain ⟨q, rfl⟩ : ∃ q : Nat, y1 = (q : Int) := ⟨y1.toNat, by omega⟩
            have hqN : q < N8 := by have := HRL.out.2.2; have := HRL.out.2.1; have := HN8.out; omega
            obtain ⟨z, hz⟩ : ∃ z, (idxK cs (t : Int) k)[q]? = some z := ⟨_, List.getElem?_eq_getElem (by rw [← HN8.out]; exact hqN)⟩
            obtain ⟨g3, o3, rfl, -, z0⟩ := (H8.out.2.1.below hbb).num hz
            have hfz : f ((q : Int), y2) = (z, y2) := by
              rw [HF.out]
              simp only [Int.toNat_natCast]
              rw [List.getD_eq_getElem?_getD, hz]
              rfl
            have hfr := tOwn_frozen hos
            have hput := TOwn.put hos (by rw [mixO_len]; exact H8.out.2.2.2.1) (q := j) (by rw [mixO_len, ← H8.out.2.2.2.1]; exact hjn) z
            rw [mixO_at hx] at hput
            dsimp only at hput
            rw [← hfz, hset] at hput
            have i1 : (0 : Int) ≤ (j : Int) := by omega
            have i2 : (j : Int) < (n : Int) := by omega
            have i3 : (0 : Int) ≤ (q : Int) := by omega
            have i4 : (q : Int) < (N8 : Int) := by omega
            have hg := H8.out.2.2.2.2.1
            have HP := Lib.hid (And.intro (hb.setCell (p := ⟨g, j * 2, none⟩) (Nat.le_trans H8.out.2.2.2.2.2.2.2.2 hg) (.int .i64 z)) (And.intro hput (hbb.setCell (p := ⟨g, j * 2, none⟩) hg (.int .i64 z))))
            clear hb hos hbb hx hmx hxr hset hz hfz hput hg
            go_upto_region 14 with fail
            clear x0 z0 hfr
            change Code.wp _ _ _ _ (wr.setCell ⟨g, j * 2, none⟩ (.int .i64 z))
            generalize wr.setCell ⟨g, j * 2, none⟩ (.int .i64 z) = W3 at HP ⊢
            go_wp2_with fail
            go_roundw
            case rel => exact ⟨j + 1, by omega, by go_num, HP.out.1, HP.out.2.1, HP.out.2.2⟩
            case measure => simp [intOf]; omega
          · obtain rfl : j = n := by omega
            rw [H8.out.2.2.2.1, mixO_all] at hos
            have HZ := Lib.hid (And.intro hb hos)
            clear hb hos hbb
            go_wp2_with fail
            go_ret
            refine ⟨HZ.out.1, .inr ⟨S, _, _, _, H8.out.2.2.2.2.2.1, rfl, ?_⟩⟩
            rw [← H8.out.2.2.2.2.2.2.1, ← HF.out, H8.out.2.2.2.1]
            exact HZ.out.2.lowerB H8.out.2.2.2.2.2.2.2.2
end Go.Proofs.YtfgangkpebkicaaDoor

/-
  A map from numbers to steps; rows of rows as they are handed in.
-/
namespace Go.Proofs.YtfgangkpebkicaaDoor
open Go.RowKit Go.Maps
open Go.ChangeShapes (lits)
set_option maxRecDepth 20000
def QRd (w : World) (B : Nat) (v : Value) (ww : List (List (Int × Int))) : Prop :=
  ∃ A cap, v = .slice A ww.length cap ∧ ww.length ≤ cap ∧ cap ≤ maxLen ∧ (0 < ww.length → ∃ g o, A = some ⟨g, o, none⟩ ∧ g < B ∧ ∀ k l, ww[k]? = some l → ∃ Al cl, w.cell? ⟨g, o + k, none⟩ = some (.slice Al l.length cl) ∧ SRd w B (.slice Al l.length cl) l)
theorem QRd.is {w : World} {B : Nat} {v : Value} {ww : List (List (Int × Int))} (h : QRd w B v ww) : ∃ A cap, v = .slice A ww.length cap ∧ ww.length ≤ cap ∧ cap ≤ maxLen := by
  obtain ⟨A, cap, h1, h2, h3, _⟩ := h
  exact ⟨A, cap, h1, h2, h3⟩
theorem QRd.below {w w' : World} {B : Nat} {v : Value} {ww : List (List (Int × Int))} (h : QRd w B v ww) (hb : Below B w w') : QRd w' B v ww := by
  obtain ⟨A, cap, h1, h2, h3, h4⟩ := h
  refine ⟨A, cap, h1, h2, h3, fun hp => ?_⟩
  obtain ⟨g, o, hA, hg, hc⟩ := h4 hp
  refine ⟨g, o, hA, hg, fun k l hk => ?_⟩
  obtain ⟨Al, cl, k1, k2⟩ := hc k l hk
  exact ⟨Al, cl, (hb.cell (p := ⟨g, o + k, none⟩) hg).trans k1, k2.below hb⟩
theorem QRd.mono {w : World} {B B' : Nat} {v : Value} {ww : List (List (Int × Int))} (h : QRd w B v ww) (hB : B ≤ B') : QRd w B' v ww := by
  obtain ⟨A, cap, h1, h2, h3, h4⟩ := h
  refine ⟨A, cap, h1, h2, h3, fun hp => ?_⟩
  obtain ⟨g, o, hA, hg, hc⟩ := h4 hp
  refine ⟨g, o, hA, Nat.lt_of_lt_of_le hg hB, fun k l hk => ?_⟩
  obtain ⟨Al, cl, k1, k2⟩ := hc k l hk
  exact ⟨Al, cl, k1, k2.mono hB⟩
theorem QRd.at_ {w : World} {B n cap : Nat} {A : Option Addr} {ww : List (List (Int × Int))} (h : QRd w B (.slice A n cap) ww) {k : Nat} {l : List (Int × Int)} (hk : ww[k]? = some l) :
    ∃ g o Al cl, A = some ⟨g, o, none⟩ ∧ g < B ∧ w.cell? ⟨g, o + k, none⟩ = some (.slice Al l.length cl) ∧ SRd w B (.slice Al l.length cl) l := by
  obtain ⟨A', cap', e, h2, h3, h4⟩ := h
  injection e with e1 e2 e3
  obtain ⟨g, o, hA, hg, hc⟩ := h4 (by have := (List.getElem?_eq_some_iff.1 hk).1; omega)
  obtain ⟨Al, cl, k1, k2⟩ := hc k l hk
  exact ⟨g, o, Al, cl, e1.trans hA, hg, k1, k2⟩
def stDat (k r : Int) : DataW Unit := .slice (lits .i64 [k, r]) []
def stR : Value → Option (DataW Unit × List MemPlace)
  | .agg a => match a.toList with
    | [.int .i64 x, .int .i64 y] => some (stDat x y, [])
    | _ => none
  | _ => none
theorem stR_mk (x y : Int) : stR (.agg #[.int .i64 x, .int .i64 y]) = some (stDat x y, []) := rfl
theorem stDat_inj {a b c d : Int} (h : stDat a b = stDat c d) : a = c ∧ b = d := by
  unfold stDat at h
  injection h with h
  have := lits_inj h
  injection this with h1 h2
  injection h2 with h2 _
  exact ⟨h1, h2⟩
theorem stR_inv {v : Value} {d : DataW Unit} {ps : List MemPlace} (h : stR v = some (d, ps)) : ∃ x y, v = .agg #[.int .i64 x, .int .i64 y] ∧ d = stDat x y := by
  unfold stR at h
  split at h
  · rename_i a
    split at h
    · rename_i x y e
      injection h with h
      injection h with h1 h2
      refine ⟨x, y, ?_, h1.symm⟩
      congr 1
      exact Array.ext' e
    · cases h
  · cases h
/-- Block b is a map of at most n numbers; what it holds for each is its step. -/
def JMap (w : World) (b n : Nat) (F : Int → Option Int) : Prop :=
  ∃ D : DataW Unit, w.ownsMap Tryd.prog 3 stR b n D ∧ ∀ k : Int, has D (.int .i64 k) = (F k).isSome ∧ ∀ r, F k = some r → ∀ zd, D.atKey (.int .i64 k) zd = stDat k r
theorem JMap.made (w : World) : JMap (w.alloc (.map #[] 0)) w.heap.size 0 (fun _ => none) := ⟨_, World.ownsMap_made w _ _ _, fun _ => ⟨rfl, fun r h => by cases h⟩⟩
theorem JMap.lt {w : World} {b n : Nat} {F : Int → Option Int} (h : JMap w b n F) : b < w.heap.size := by
  obtain ⟨D, h, _⟩ := h
  exact h.lt
theorem JMap.keep {w w' : World} {b n : Nat} {F : Int → Option Int} (h : JMap w b n F) (e : w'.heap[b]? = w.heap[b]?) : JMap w' b n F := by
  obtain ⟨D, ⟨es, clock, h1, h2, h3, h4⟩, h5⟩ := h
  exact ⟨D, ⟨es, clock, e.trans h1, h2, h3, h4⟩, h5⟩
theorem JMap.below {w w' : World} {b n : Nat} {F : Int → Option Int} (h : JMap w b n F) (hb : Below w.heap.size w w') : JMap w' b n F := h.keep (hb.block b h.lt)
theorem zero_step (w : World) : (zeroValue 38).run Tryd.prog w = .ok (.agg #[.int .i64 0, .int .i64 0]) w := by kernel_rfl
theorem JMap.look {w : World} {ops : Array Oper} {rest : List Oper} {o : Oper} {a : Act} {Q : Exit → Act → World → Prop} (hg : o.guard = none) (m x : Operand) (hop : o.op = Op.lookup 65 m x true)
    {b n : Nat} {F : Int → Option Int} (h : JMap w b n F) (k : Int) (h0 : -1000000 ≤ k) (h1 : k ≤ 1000000) (hm : a.eval m = .map (some b)) (hx : a.eval x = .int .i64 k)
    (hK : ∀ z r : Int, ((F k).isSome = true → z = k ∧ F k = some r) → wpList Tryd.prog ops Q rest (a.put o.dst (.tuple #[.agg #[.int .i64 z, .int .i64 r], .bool (F k).isSome])) w) : wpList Tryd.prog ops Q (o :: rest) a w := by
  obtain ⟨D, h, h2⟩ := h
  refine wpList_lookup_own_ok w hg m x 65 hop 3 38 keyed_int Tryd.underlying65 stR (zero_step w) (stDat 0 0) [] rfl b n D hm h _ _ hx (key_int h0 h1) fun v ps hv => ?_
  obtain ⟨z, r, rfl, hd⟩ := stR_inv hv
  rw [(h2 k).1]
  refine hK z r fun hs => ?_
  cases hF : F k with
  | none => rw [hF] at hs; cases hs
  | some y =>
    rw [(h2 k).2 y hF] at hd
    obtain ⟨e1, e2⟩ := stDat_inj hd
    exact ⟨e1.symm, by rw [e2]⟩
theorem JMap.put {w : World} {ops : Array Oper} {rest : List Oper} {o : Oper} {a : Act} {Q : Exit → Act → World → Prop} (hg : o.guard = none) (m x v : Operand) (hop : o.op = Op.mapUpdate 65 m x v)
    {b n : Nat} {F : Int → Option Int} (h : JMap w b n F) (k r : Int) (h0 : -1000000 ≤ k) (h1 : k ≤ 1000000) (hn : n ≤ 1000000000000) (hm : a.eval m = .map (some b)) (hx : a.eval x = .int .i64 k) (hv : a.eval v = .agg #[.int .i64 k, .int .i64 r])
    (hK : ∀ w', JMap w' b (n + 1) (fun c => if c = k then some r else F c) → w.grownBy w' (some b) → wpList Tryd.prog ops Q rest (a.put o.dst undef) w') : wpList Tryd.prog ops Q (o :: rest) a w := by
  obtain ⟨D, h, h2⟩ := h
  refine wpList_mapUpdate_own w hg m x v 65 hop 3 38 keyed_int Tryd.underlying65 stR b n D hm h (by unfold maxLen; omega) _ _ _ hx hv (key_int h0 h1) _ [] (stR_mk k r) (fun w' h3 h4 => hK w' ⟨_, h3, fun c => ?_⟩ h4)
  by_cases e : c = k
  · subst e
    simp only [if_true]
    refine ⟨has_put_same h.isMap (by first | exact trivial | decide | simp [WideAt.IsKeyLit]) _, fun y hy zd => ?_⟩
    injection hy with hy
    subst hy
    exact atKey_put_same (k := .int .i64 c) h.isMap (by first | exact trivial | decide | simp [WideAt.IsKeyLit]) _ _
  · simp only [e, if_false]
    have hne : (Lit.int .i64 k) ≠ .int .i64 c := fun h5 => e (Eq.symm (by injection h5))
    refine ⟨(has_put_other hne.symm _).trans (h2 c).1, fun y hy zd => ?_⟩
    rw [atKey_put_other hne.symm]
    exact (h2 c).2 y hy zd
end Go.Proofs.YtfgangkpebkicaaDoor
