/-
  Joined by a program out of: LoAll, CallRel.
-/
import Derived.Test.YtfgangkpebkicaaGreatDoorMsLo
import Derived.Test.YtfgangkpebkicaaGreatDoorMgAD
import Derived.Test.YtfgangkpebkicaaGreatDoorMgAF

/-
  Contract of the reference's LeastOrder, from any legal begin on.
-/
namespace Go.Proofs.YtfgangkpebkicaaGreatDoor
open Go.RowKit
set_option maxRecDepth 20000
theorem tryG_none {b : Nat → Nat} {ts : List Int} {cs : List Cl} {p : Pt} : ∀ m k, tryG b (fun _ => none) ts cs p m k = none
  | 0, k => rfl
  | m + 1, k => by
    rw [tryG, tryG_none m (k + 1)]
    split <;> rfl
theorem lo_any {ts : List Int} {cs : List Cl} {r b : Nat → Nat} (hn : cs.length ≤ 12) (hirr : ∀ i, (r i).testBit i = false) (hty : ∀ t ∈ ts, 1 ≤ t ∧ t ≤ 5) (hok : ∀ c ∈ cs, CallOk ts c)
    (hb : ∀ k, k < cs.length → ∀ i, i < cs.length → ((b k).testBit i = (r i).testBit k)) (hb2 : ∀ k i, cs.length ≤ i → (b k).testBit i = false) :
    ∀ (f : Nat) (ws : List (Int × Int)) (p : Pt), Legal ts cs r ws p → cs.length ≤ ws.length + f → ∀ {w : World} {tv cv : Value} {a : Addr} {M c : Nat}, NRd w w.heap.size tv ts → CRd w w.heap.size cv cs → SRd w w.heap.size (.slice (some a) M c) ws →
      Calls Tryz.prog 13 #[tv, cv, relV cs.length r, .slice (some a) M c] w (LoPost w (findG b ts cs f p) ws)
  | 0, ws, p, hleg, hlen, w, tv, cv, a, M, c, ht, hc, hw => by
    have h := lo_core hn hirr hty hok hb hb2 hleg (go := fun _ => none) (fun k hk hm => by
      exfalso
      have h1 := (mayG_iff hleg.small (by omega) (hb k hk) (hb2 k)).1 hm
      have hnm : ¬ (k : Int) ∈ ws.map (·.1) := fun hmm => by rw [(hleg.done k hk).2 hmm] at h1; cases h1.1
      have h2 := nodup_lt cs.length (l := (k : Int) :: ws.map (·.1)) (List.nodup_cons.2 ⟨hnm, hleg.once⟩) (fun z hz => by
        rcases List.mem_cons.1 hz with rfl | hz
        · exact ⟨by omega, by omega⟩
        · obtain ⟨x, hx, rfl⟩ := List.mem_map.1 hz
          exact hleg.rng x hx)
      rw [List.length_cons, List.length_map] at h2
      omega) ht hc hw
    rw [tryG_none] at h
    exact h
  | f + 1, ws, p, hleg, hlen, w, tv, cv, a, M, c, ht, hc, hw =>
    lo_core hn hirr hty hok hb hb2 hleg (go := findG b ts cs f) (fun k hk hm => by
      intro w tv cv a N c h1 h2 h3
      obtain ⟨m1, m2, m3, m4⟩ := (mayG_iff hleg.small (by omega) (hb k hk) (hb2 k)).1 hm
      exact lo_any hn hirr hty hok hb hb2 f _ _ (hleg.next hk (by omega) (hirr k) (hok _ (List.mem_of_getElem? (getD_some hk))).thing m1 m2 m3 m4) (by rw [List.length_append]; simp; omega) h1 h2 h3) ht hc hw
theorem riteP_congr {ts : List Int} {cs : List Cl} {p q : Nat → Nat → Bool} {ws : List (Int × Int)} (h : ∀ i j, i < cs.length → j < cs.length → p i j = q i j) : RiteP ts cs p ws ↔ RiteP ts cs q ws :=
  ⟨fun k => ⟨k.rng, k.once, k.res, k.all, fun i j hi hj hp => k.ord i j hi hj (by rw [h i j hi hj]; exact hp), k.goes⟩, fun k => ⟨k.rng, k.once, k.res, k.all, fun i j hi hj hp => k.ord i j hi hj (by rw [← h i j hi hj]; exact hp), k.goes⟩⟩
end Go.Proofs.YtfgangkpebkicaaGreatDoor

/-
  Contract of the reference's CallRel.
-/
namespace Go.Proofs.YtfgangkpebkicaaGreatDoor
open Go.RowKit
set_option maxRecDepth 20000
theorem upP_row_lt (p : Nat → Nat → Bool) (m k j : Nat) : upP p m k j k < 2 ^ j := by
  unfold upP
  rw [if_neg (by omega), if_pos rfl]
  exact pickS_lt _ _
set_option maxHeartbeats 4000000 in
theorem callrel_any {B : Nat} {v : Value} {l : List Cl} {w : World} (h : CRd w B v l) (hB : B ≤ w.heap.size) (hl : l.length ≤ 12) :
    Calls Tryz.prog 14 #[v] w fun e w' => e = .returned (relV l.length (relP (aheadB l) l.length)) ∧ Below w.heap.size w w' := by
  obtain ⟨A, c, rfl, -, -⟩ := h.is
  have H := Lib.hid (And.intro h hB)
  obtain ⟨m, hm⟩ : ∃ m, m = l.length := ⟨_, rfl⟩
  rw [← hm]
  rw [← hm] at hl
  have HM := Lib.hid hm
  have hO : ORel w w.heap.size (w.heap.size + 1) m (upP (aheadB l) m 0 0) ((w.alloc (.cells (relCs 0 fun _ => 0) 43)).alloc (.cells (relCs m fun _ => 0) 43)) := by
    rw [upP_none]
    have h2 := Lies.new (w.alloc (.cells (relCs 0 fun _ => 0) 43)) 43 (relCs m fun _ => 0)
    rw [World.size_alloc] at h2
    exact ⟨((Below.refl _ _).alloc (Nat.le_refl _) _).alloc (by simp) _, Lies.alloc (Lies.new _ _ _) _, h2, Nat.le_refl _, by omega⟩
  have HO := Lib.hid hO
  clear h hB hm hO
  go_enter Tryz.func14, Tryz.ntmps14
  go_wp2_with fail
  have hO := HO.out
  clear HO
  change Code.wp _ _ _ _ ((w.alloc (.cells (relCs 0 fun _ => 0) 43)).alloc (.cells (relCs m fun _ => 0) 43))
  generalize (w.alloc (.cells (relCs 0 fun _ => 0) 43)).alloc (.cells (relCs m fun _ => 0) 43) = W at hO ⊢
  obtain ⟨G, hG⟩ : ∃ G, G = w.heap.size + 1 := ⟨_, rfl⟩
  rw [← hG] at hO ⊢
  clear hG
  go_loopw [11] (fun i wr => ∃ k : Nat, k ≤ m ∧ i = .int .i64 k ∧ ORel w w.heap.size G m (upP (aheadB l) m k 0) wr) (fun i _ => m - (intOf i).toNat)
  case atStart => exact ⟨0, by omega, rfl, hO⟩
  case round =>
    clear hO
    obtain ⟨k, hk, rfl, hO⟩ := hrel
    by_cases hkm : k < m
    · obtain ⟨x, hx⟩ : ∃ x, l[k]? = some x := ⟨_, List.getElem?_eq_getElem (by rw [← HM.out]; exact hkm)⟩
      have HO := Lib.hid hO
      have HX := Lib.hid hx
      clear hO hx
      have i1 : (0 : Int) ≤ (k : Int) := by omega
      have i2 : (k : Int) < (m : Int) := by omega
      have k12 : (k : Int) < 12 := by omega
      go_wp2_with fail
      obtain ⟨wo, rfl⟩ : ∃ wo : World, wo = wr := ⟨_, rfl⟩
      go_loopw [16] (fun i wr => ∃ j : Nat, j ≤ m ∧ i = .int .i64 j ∧ ORel w w.heap.size G m (upP (aheadB l) m k j) wr) (fun i _ => m - (intOf i).toNat)
      case atStart => exact ⟨0, by omega, rfl, HO.out⟩
      case round =>
        clear HO
        obtain ⟨j, hj, rfl, hO⟩ := hrel
        by_cases hjm : j < m
        · obtain ⟨y, hy⟩ : ∃ y, l[j]? = some y := ⟨_, List.getElem?_eq_getElem (by rw [← HM.out]; exact hjm)⟩
          have hb := hO.below
          have h' := H.out.1.below (hb.mono H.out.2)
          rw [← HM.out] at h'
          obtain ⟨g, o, hA, -, d0, d1, d2, d3, d4, d5, d6⟩ := h'.cl HX.out
          obtain ⟨g', o', hA', -, c0, c1, c2, c3, c4, c5, c6⟩ := h'.cl hy
          subst hA
          injection hA' with hA'
          injection hA' with hA1 hA2
          subst hA1
          subst hA2
          clear d0 d1 d2 d3 d4 d5 c0 c1 c2 c3 c4 c6 h' hb
          have hst := upP_step (aheadB l) m k j
          rw [aheadB_at HX.out hy] at hst
          have j1 : (0 : Int) ≤ (j : Int) := by omega
          have j2 : (j : Int) < (m : Int) := by omega
          have hk12 : k < 12 := by omega
          have HJ := Lib.hid (upP_row_lt (aheadB l) m k j)
          have HO := Lib.hid hO
          have HS := Lib.hid hst
          clear hst hy hO
          generalize x.til = x6 at d6 HS
          generalize y.frm = y5 at c5 HS
          by_cases t1 : x6 = -1
          · have hz : (x6 != -1) = false := by rw [bne_eq_false_iff_eq]; exact t1
            have hs := HS.out
            rw [if_neg (by simp [t1])] at hs
            have HS2 := Lib.hid hs
            clear hs t1 HS
            go_wp2_with fail
            go_quiet (fail)
            go_wp2_with fail
            go_roundw
            case rel => exact ⟨j + 1, by omega, by go_num, by rw [HS2.out]; exact HO.out.drewN _⟩
            case measure => simp [intOf]; omega
          · have hz : (x6 != -1) = true := by rw [bne_iff_ne]; exact t1
            by_cases t2 : x6 < y5
            · have hs := HS.out
              rw [if_pos (by simp [t1, t2])] at hs
              have HS2 := Lib.hid hs
              clear hs t1 HS
              go_wp2_with fail
              go_quiet (fail)
              have hO := HO.out.drewN nq
              clear d6 c5 HO
              generalize wr.drewN nq = w4 at hO ⊢
              have ck := hO.own.row' hk12
              have fk := hO.own.free (1 + k)
              have hlt := HJ.out
              have HOO := Lib.hid hO
              have hGl := hO.own.lt
              clear hO
              generalize hxx : upP (aheadB l) m k j k = z at ck hlt HS2
              have HXX := Lib.hid hxx
              have ho := add_pow z j hlt (by omega)
              have hp := pow_u16 j (by omega)
              clear hxx
              go_wp2_with fail
              go_region
              have h1 : ORel w w.heap.size G m (upP (aheadB l) m k (j + 1)) (w4.setCell ⟨G, 1 + k, none⟩ (.int .u16 ((z ||| 2 ^ j : Nat) : Int))).drew := by
                rw [HS2.out]
                exact (HOO.out.set_ hk12 _).drew
              clear ck fk ho hp
              generalize (w4.setCell ⟨G, 1 + k, none⟩ (.int .u16 ((z ||| 2 ^ j : Nat) : Int))).drew = w5 at h1 ⊢
              have HX2 := Lib.hid h1
              clear h1 hGl
              go_wp2_with fail
              go_roundw
              case rel => exact ⟨j + 1, by omega, by go_num, HX2.out⟩
              case measure => simp [intOf]; omega
            · have hs := HS.out
              rw [if_neg (by simp [t2])] at hs
              have HS2 := Lib.hid hs
              clear hs t1 HS
              go_wp2_with fail
              go_quiet (fail)
              go_wp2_with fail
              go_roundw
              case rel => exact ⟨j + 1, by omega, by go_num, by rw [HS2.out]; exact HO.out.drewN _⟩
              case measure => simp [intOf]; omega
        · obtain rfl : j = m := by omega
          rw [upP_end] at hO
          go_wp2_with fail
          go_roundw
          case rel => exact ⟨k + 1, by omega, by go_num, hO⟩
          case measure => simp [intOf]; omega
    · obtain rfl : k = m := by omega
      rw [upP_all] at hO
      have hr := hO.res.size
      obtain ⟨r0, r1, r2, r3, r4, r5, r6, r7, r8, r9, r10, r11⟩ := hO.res.rows
      have hc := hO.own.size
      obtain ⟨c0, c1, c2, c3, c4, c5, c6, c7, c8, c9, c10, c11⟩ := hO.own.rows
      have hf := hO.res.free
      go_wp2_with fail
      clear hr r0 r1 r2 r3 r4 r5 r6 r7 r8 r9 r10 r11 hc c0 c1 c2 c3 c4 c5 c6 c7 c8 c9 c10 c11 hf
      refine post_fill (W := wr) (g := w.heap.size) k (relP (aheadB l) k) hO.res hO.below (by omega) ?_
      intro wz hz hbz
      have hs := hz.size
      obtain ⟨c0, c1, c2, c3, c4, c5, c6, c7, c8, c9, c10, c11⟩ := hz.rows
      exact bodyPost_ret (v := relV k (relP (aheadB l) k))
        (by simp [results, Tryz.results14, go_sem, hs, c0, c1, c2, c3, c4, c5, c6, c7, c8, c9, c10, c11]) rfl ⟨rfl, hbz⟩
end Go.Proofs.YtfgangkpebkicaaGreatDoor
