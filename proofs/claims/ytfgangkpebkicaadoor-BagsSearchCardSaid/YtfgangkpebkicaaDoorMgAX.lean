/-
  Joined by a program out of: BagCheck, AppEv2, EqInt, EqAid, EqEv.
-/
import Derived.Test.YtfgangkpebkicaaDoorMgAV
import Derived.Test.YtfgangkpebkicaaDoorMgAW
import Derived.Test.YtfgangkpebkicaaDoorMgAD
import Derived.Test.YtfgangkpebkicaaDoorMgAA
import Derived.Test.YtfgangkpebkicaaDoorProg
import Derived.WalkKit
import Derived.Laws.StructEq

/-
  Contracts of bags.linearizable and bags.Check.
-/
namespace Go.Proofs.YtfgangkpebkicaaDoor
open Go.RowKit
set_option maxRecDepth 20000

/-- What linearizable answers of a number that may be. -/
def linE (l : List Ev) (q : Int) : Int := searchE (callsOf [4] (bagL l q))
def linB (l : List Ev) (q : Int) : Bool := foundB [4] (callsOf [4] (bagL l q))
theorem linE_len {l : List Ev} (h : (callsOf [4] l).2.2 = 0) (q : Int) : linE l q = if 9 < (ownV (callsOf [4] l).1 q).length then 2 else 0 := by
  unfold linE searchE
  rw [bag_calls h q, if_neg (fun h => h rfl)]
  simp only [List.length_map]
theorem linB_iff {l : List Ev} (h : (callsOf [4] l).2.2 = 0) {q : Int} (h9 : linE l q = 0) : linB l q = !badV (callsOf [4] l).1 q := by
  rw [Bool.eq_iff_iff, Bool.not_eq_true', Bool.eq_false_iff, Ne, badV_iff, Classical.not_not]
  unfold linB
  rw [foundB_iff]
  constructor
  · rintro ⟨_, ws, hw⟩
    exact ⟨ws, (bag_part h q).1 hw⟩
  · rintro ⟨ws, hw⟩
    exact ⟨h9, ws, (bag_part h q).2 hw⟩
set_option maxHeartbeats 4000000 in
theorem blin_any {lv : Value} {l : List Ev} {w : World} (hl : ERd w w.heap.size lv l) (hp : Pow10 w.heap.size w) (h0 : (callsOf [4] l).2.2 = 0) {q : Int} (hq : 1 ≤ q ∧ q ≤ 1000) :
    Calls Tryd.prog 30 #[lv, .int .i64 q] w fun e w' => Below w.heap.size w w' ∧ e = .returned (.tuple #[.bool (linB l q), .int .i64 (linE l q)]) := by
  have HPT := Lib.hid (bpart_any hl q)
  have hbp : bagP l q = (bagL l q, 0) := by
    unfold bagP
    rw [if_neg (fun h => h h0), if_neg (fun h => h hq)]
  rw [hbp] at HPT
  have hee : linE l q = searchE (callsOf [4] (bagL l q)) := rfl
  have hbb : linB l q = foundB [4] (callsOf [4] (bagL l q)) := rfl
  rw [hee, hbb]
  clear hee hbb
  generalize bagL l q = p at HPT ⊢
  have HP := Lib.hid hp
  have HNL := Lib.hid (fun W : World => LRd.of_lit (f := intCs) (s := 1) (w := W) (l := [4]) (fun _ => rfl) 3 (cs := #[.int .i64 4]) rfl (n := 1) rfl (by unfold maxLen; omega))
  obtain ⟨Al, capl, rfl, -, -⟩ := hl.is
  generalize l.length = L at HPT ⊢
  obtain ⟨fb, hfb⟩ : ∃ fb, fb = foundB [4] (callsOf [4] p) := ⟨_, rfl⟩
  obtain ⟨SE, hSE⟩ : ∃ SE, SE = searchE (callsOf [4] p) := ⟨_, rfl⟩
  rw [← hfb, ← hSE]
  have HQ := Lib.hid (And.intro hfb hSE)
  clear hl hp h0 hq hbp hfb hSE
  go_enter Tryd.func30, Tryd.ntmps30
  go_wp2_with fail
  refine HPT.out.mono ?_
  rintro e w1 ⟨v, rfl, hb1, ho1⟩
  have hbl : Below w.heap.size w (w1.alloc (.cells #[.int .i64 4] 3)) := hb1.alloc hb1.size _
  have hrd := (ho1.alloc (.cells #[.int .i64 4] 3)).rd
  have hn := (HNL.out w1).mono (B' := (w1.alloc (.cells #[.int .i64 4] 3)).heap.size) (by simp)
  have hf := find_say hn hrd ((HP.out.on hbl).mono hbl.size)
  rw [← HQ.out.1, ← HQ.out.2] at hf
  have HF := Lib.hid hf
  clear hf
  obtain ⟨A, c, rfl, -, -⟩ := hrd.is
  generalize p.length = n at HF ⊢
  have H1 := Lib.hid hbl
  clear HPT hb1 ho1 hbl hrd hn
  simp only
  go_wp2_with fail
  refine HF.out.mono ?_
  rintro e w2 ⟨hb2, v, rfl, hv⟩
  have H2 := Lib.hid (H1.out.trans (hb2.mono H1.out.size))
  clear hb2 hv HF H1
  go_wp2_with fail
  go_ret2
  exact ⟨H2.out, rfl⟩
/-- The list that Check tells. -/
noncomputable def bagLst (l : List Ev) : List Int := if bagsE l = 0 then bagB l else []
/-- What Check answers. -/
def BCheck (w : World) (l : List Ev) (e : Ending) (w' : World) : Prop :=
  Below w.heap.size w w' ∧ ∃ v, e = .returned (.tuple #[v, .int .i64 (bagsE l)]) ∧ NOwn w' w.heap.size v (bagLst l)
/-- The numbers that can't be, of those up to one. -/
noncomputable def upB (l : List Ev) (es : List Int) : List Int := es.filter fun v => badV (callsOf [4] l).1 v
theorem upB_all {l : List Ev} (h : (callsOf [4] l).2.2 = 0) : upB l (elemL (callsOf [4] l).1) = bagB l := by
  obtain ⟨h1, h2, _⟩ := elemL_inc (callsOf [4] l).1
  refine inc_ext (h1.filter _) (bagB_up l) fun x => ?_
  unfold upB
  rw [List.mem_filter, h2, badV_iff, bagB_mem h]
theorem upB_take {l : List Ev} {es : List Int} {k : Nat} {x : Int} (h : es[k]? = some x) : upB l (es.take (k + 1)) = if badV (callsOf [4] l).1 x = true then upB l (es.take k) ++ [x] else upB l (es.take k) := by
  unfold upB
  rw [List.take_add_one, h, Option.toList_some, List.filter_append]
  cases hb : badV (callsOf [4] l).1 x <;> simp [hb]
set_option maxHeartbeats 8000000 in
theorem bcheck_any {lv : Value} {l : List Ev} {w : World} (hl : ERd w w.heap.size lv l) (hp : Pow10 w.heap.size w) :
    Calls Tryd.prog 15 #[lv] w (BCheck w l) := by
  have HO := Lib.hid (bopen_any hl)
  have HL := Lib.hid (And.intro hl hp)
  obtain ⟨Al, capl, rfl, m3, m4⟩ := hl.is
  unfold maxLen at m4
  obtain ⟨L, hL⟩ : ∃ L, L = l.length := ⟨_, rfl⟩
  rw [← hL] at m3 HO HL ⊢
  clear hl hp hL
  have hpost : BCheck w l = fun e w' => Below w.heap.size w w' ∧ ∃ v, e = .returned (.tuple #[v, .int .i64 (bagsE l)]) ∧ NOwn w' w.heap.size v (bagLst l) := rfl
  rw [hpost]
  clear hpost
  obtain ⟨bl, hbl⟩ : ∃ bl, bl = bagLst l := ⟨_, rfl⟩
  rw [← hbl]
  have HBL := Lib.hid (show (bagsE l = 0 → bl = bagB l) ∧ (bagsE l ≠ 0 → bl = []) from ⟨fun h => by rw [hbl]; unfold bagLst; rw [if_pos h], fun h => by rw [hbl]; unfold bagLst; rw [if_neg h]⟩)
  clear hbl
  by_cases h0 : (callsOf [4] l).2.2 = 0
  · obtain ⟨E, hE⟩ : ∃ E, E = bagsE l := ⟨_, rfl⟩
    rw [← hE] at HBL ⊢
    have hcl := calls_lenQ h0
    have hbz : E = 0 ↔ ∀ v, (ownV (callsOf [4] l).1 v).length ≤ 9 := by
      rw [hE, bagsE_zero]
      exact ⟨fun h => h.2, fun h => ⟨h0, h⟩⟩
    have hb2 : E = 0 ∨ E = 2 := by
      rw [hE]
      unfold bagsE
      rw [if_neg (fun h => h h0)]
      split
      · exact .inr rfl
      · exact .inl rfl
    have HE := Lib.hid (And.intro hbz hb2)
    have HZ := Lib.hid h0
    rw [h0] at HO
    clear h0 hbz hb2 hE
    go_enter Tryd.func15, Tryd.ntmps15
    go_wp2_with fail
    refine HO.out.mono ?_
    rintro e w1 ⟨hb1, v1, rfl, hc1⟩
    have HEL := Lib.hid (belems_any hc1 hcl)
    have H1 := Lib.hid hb1
    obtain ⟨Ac, cc, rfl, -, -⟩ := hc1.is
    generalize (callsOf [4] l).1.length = nc at HEL ⊢
    clear hc1 hb1 HO hcl
    go_wp2_with fail
    refine HEL.out.mono ?_
    rintro e w2 ⟨v2, rfl, ho2, hb2⟩
    have hb2w := H1.out.trans (hb2.mono H1.out.size)
    obtain ⟨es, hes⟩ : ∃ es, es = elemL (callsOf [4] l).1 := ⟨_, rfl⟩
    rw [← hes] at ho2
    have hrd := ho2.rd
    obtain ⟨Ae, ce, rfl, e1, e2⟩ := hrd.is
    unfold maxLen at e2
    have hel := (elemL_inc (callsOf [4] l).1).2.2
    rw [← hes] at hel
    have hcl := calls_lenQ HZ.out
    obtain ⟨N, hN⟩ : ∃ N, N = es.length := ⟨_, rfl⟩
    rw [← hN] at hrd e1 ⊢
    have hN2 : N ≤ 200 := by omega
    have H2 := Lib.hid (And.intro hb2w (And.intro hrd (And.intro hes hN)))
    clear ho2 hb2 hb2w hrd hes hN HEL H1 hel hcl
    go_wp2_with fail
    obtain ⟨B2, hB2⟩ : ∃ B2, B2 = w2.heap.size := ⟨_, rfl⟩
    rw [← hB2] at H2
    have HB2 := Lib.hid hB2
    go_loopw [6, 22] (fun v i wr => ∃ (k : Nat) (v0 : Value), k ≤ N ∧ i = .int .i64 k ∧ v0 = v ∧ NOwn wr B2 v0 (upB l (es.take k)) ∧ Below w.heap.size w wr ∧ Below B2 w2 wr ∧ ∀ j x, j < k → es[j]? = some x → (ownV (callsOf [4] l).1 x).length ≤ 9) (fun _ i _ => N - (intOf i).toNat)
    case atStart => exact ⟨0, _, by omega, rfl, rfl, NOwn.nil _ _, H2.out.1, Below.refl _ _, fun j x hj => by omega⟩
    case round =>
      clear hB2
      obtain ⟨k, v0, hk, rfl, rfl, ho, hb, hbb, hall⟩ := hrel
      by_cases hkN : k < N
      · obtain ⟨x, hx⟩ : ∃ x, es[k]? = some x := ⟨_, List.getElem?_eq_getElem (by rw [← H2.out.2.2.2]; exact hkN)⟩
        obtain ⟨g, o, rfl, -, d0⟩ := (H2.out.2.1.below hbb).num hx
        have i1 : (0 : Int) ≤ (k : Int) := by omega
        have i2 : (k : Int) < (N : Int) := by omega
        have hst := upB_take (l := l) hx
        have hxa : 1 ≤ x ∧ x ≤ 1000 := by
          have hm := List.mem_of_getElem? hx
          rw [H2.out.2.2.1, (elemL_inc _).2.1] at hm
          obtain ⟨c, hc, rfl⟩ := hm
          have := (calls_bagH HZ.out).set c hc
          exact ⟨this.2.1, this.2.2.1⟩
        have HLI := Lib.hid (blin_any ((HL.out.1.below hb).mono hb.size) ((HL.out.2.on hb).mono hb.size) HZ.out hxa)
        have hlen := linE_len HZ.out x
        have hlb := fun h => linB_iff HZ.out (q := x) h
        have hpl : (upB l (es.take k)).length ≤ 65536 := by
          have h1 : (upB l (es.take k)).length ≤ (es.take k).length := List.length_filter_le _ _
          have h2 := List.length_take_le k es
          omega
        have HB := Lib.hid (And.intro ho (And.intro hb (And.intro hbb (And.intro hall (And.intro hst (And.intro hlen (And.intro hlb (And.intro hpl hx))))))))
        generalize linB l x = lb at HLI HB
        generalize linE l x = le at HLI HB
        clear ho hb hbb hall hst hlen hlb hpl hx hxa
        go_wp2_with fail
        refine HLI.out.mono ?_
        rintro e w3 ⟨hb3, rfl⟩
        have hB2w : B2 ≤ wr.heap.size := by have := HB.out.2.2.1.size; rw [HB2.out]; exact this
        have H3 := Lib.hid (And.intro (HB.out.2.1.trans (hb3.mono HB.out.2.1.size)) (And.intro (HB.out.2.2.1.trans (hb3.mono hB2w)) (And.intro (HB.out.1.below hb3) (Nat.le_trans hB2w hb3.size))))
        clear hb3 HLI hB2w d0
        by_cases hE0 : le = 0
        · subst hE0
          have hlb := HB.out.2.2.2.2.2.2.1 rfl
          have h9 : (ownV (callsOf [4] l).1 x).length ≤ 9 := by
            have := HB.out.2.2.2.2.2.1
            apply Classical.byContradiction
            intro hn
            rw [if_pos (by omega)] at this
            cases this
          have hall2 : ∀ j y, j < k + 1 → es[j]? = some y → (ownV (callsOf [4] l).1 y).length ≤ 9 := fun j y hj hy => by
            by_cases e : j = k
            · rw [e, HB.out.2.2.2.2.2.2.2.2] at hy
              injection hy with hy
              rw [← hy]
              exact h9
            · exact HB.out.2.2.2.1 j y (by omega) hy
          cases hbv : badV (callsOf [4] l).1 x
          · rw [hbv] at hlb
            obtain rfl : lb = true := hlb
            have hs2 := HB.out.2.2.2.2.1
            rw [if_neg (by rw [hbv]; decide)] at hs2
            have HS := Lib.hid (And.intro hs2 hall2)
            clear h9 hall2 hbv hs2
            go_wp2_with fail
            go_roundw
            case rel =>
              refine ⟨k + 1, _, by omega, by go_num, rfl, ?_, H3.out.1, H3.out.2.1, HS.out.2⟩
              rw [HS.out.1]
              exact H3.out.2.2.1
            case measure => simp [intOf]; omega
          · rw [hbv] at hlb
            obtain rfl : lb = false := hlb
            have hs2 := HB.out.2.2.2.2.1
            rw [if_pos hbv] at hs2
            have HS := Lib.hid (And.intro hs2 hall2)
            have HOW := Lib.hid (H3.out.2.2.1.alloc (.cells #[.int .i64 x] 3))
            have HW := Lib.hid (And.intro (H3.out.1.alloc H3.out.1.size (.cells #[.int .i64 x] 3)) (And.intro (H3.out.2.1.alloc H3.out.2.2.2 (.cells #[.int .i64 x] 3)) (Nat.le_trans H3.out.2.2.2 (show w3.heap.size ≤ (w3.alloc (.cells #[.int .i64 x] 3)).heap.size by simp))))
            have HNC := Lib.hid (new_cells w3 3 [.int .i64 x] 0 _ rfl)
            have HBM := Lib.hid (show w.heap.size ≤ B2 by rw [HB2.out]; exact H2.out.1.size)
            obtain ⟨us, hus⟩ : ∃ us, us = upB l (es.take k) := ⟨_, rfl⟩
            have hpl := HB.out.2.2.2.2.2.2.2.1
            rw [← hus] at HOW hpl
            have HPL := Lib.hid (And.intro hpl hus)
            clear h9 hall2 hbv hs2 hus hpl
            go_wp2_with (at_builtin; refine wpList_app_int rfl (.tmp 37) (.tmp 39) rfl B2 w3.heap.size _ us x rfl rfl HOW.out HNC.out HPL.out.1 HW.out.2.2 ?_; intro v' w5 ho5 hb5; have HN := Lib.hid (And.intro ho5 hb5); clear ho5 hb5)
            go_roundw
            case rel =>
              refine ⟨k + 1, _, by omega, by go_num, rfl, ?_, HW.out.1.trans (HN.out.2.mono HBM.out), HW.out.2.1.trans HN.out.2, HS.out.2⟩
              rw [HS.out.1, ← HPL.out.2]
              exact HN.out.1
            case measure => simp [intOf]; omega
        · have h9 : le = 2 ∧ ¬ (ownV (callsOf [4] l).1 x).length ≤ 9 := by
            have := HB.out.2.2.2.2.2.1
            by_cases hn : 9 < (ownV (callsOf [4] l).1 x).length
            · rw [if_pos hn] at this
              exact ⟨this, by omega⟩
            · rw [if_neg hn] at this
              exact absurd this hE0
          obtain rfl := h9.1
          obtain rfl : E = 2 := HE.out.2.resolve_left fun h => h9.2 (HE.out.1.1 h x)
          clear hE0 h9
          go_wp2_with fail
          go_ret2
          exact ⟨H3.out.1, _, rfl, by rw [HBL.out.2 (by decide)]; exact NOwn.nil _ _⟩
      · obtain rfl : k = N := by omega
        have h9 : ∀ v, (ownV (callsOf [4] l).1 v).length ≤ 9 := fun v => by
          by_cases hm : v ∈ es
          · obtain ⟨j, hj, e⟩ := List.getElem_of_mem hm
            exact hall j v (by rw [H2.out.2.2.2]; exact hj) (by rw [← e]; exact List.getElem?_eq_getElem hj)
          · have e : ownV (callsOf [4] l).1 v = [] := List.filter_eq_nil_iff.2 fun c hc => by
              rw [beq_iff_eq]
              intro e2
              refine hm ?_
              rw [H2.out.2.2.1, (elemL_inc _).2.1]
              exact ⟨c, hc, e2⟩
            rw [e]
            exact Nat.zero_le _
        obtain rfl : E = 0 := HE.out.1.2 h9
        rw [H2.out.2.2.2, List.take_length, H2.out.2.2.1, upB_all HZ.out] at ho
        have HB := Lib.hid (And.intro ho hb)
        have HBM := Lib.hid (show w.heap.size ≤ B2 by rw [HB2.out]; exact H2.out.1.size)
        clear ho hb hbb hall h9
        go_wp2_with fail
        go_ret2
        refine ⟨HB.out.2, _, rfl, ?_⟩
        rw [HBL.out.1 (by trivial)]
        exact HB.out.1.base_mono HBM.out
  · have hE : bagsE l = (callsOf [4] l).2.2 := by unfold bagsE; rw [if_pos h0]
    have hn := HBL.out.2 (by rw [hE]; exact h0)
    subst hn
    rw [hE]
    have hz : ((callsOf [4] l).2.2 != 0) = true := by rw [bne_iff_ne]; exact h0
    generalize (callsOf [4] l).2.2 = r at HO hz ⊢
    clear h0 hE HBL
    go_enter Tryd.func15, Tryd.ntmps15
    go_wp2_with fail
    refine HO.out.mono ?_
    rintro e w1 ⟨hb1, v1, rfl, hc1⟩
    have H1 := Lib.hid hb1
    clear hb1 hc1 HO
    go_wp2_with fail
    go_ret2
    exact ⟨H1.out, _, rfl, NOwn.nil _ _⟩
end Go.Proofs.YtfgangkpebkicaaDoor

/-
  append(s, x, y): two events at once.
-/
namespace Go.Proofs.YtfgangkpebkicaaDoor
open Go.RowKit
set_option maxRecDepth 20000
theorem run_app_ev2 {W : World} {base G : Nat} {v : Value} {l : List Ev} {y z : Ev} (ty : TypeId) (hown : EOwn W base v l) (hG : ∀ j u, (evCs y ++ evCs z)[j]? = some u → W.cell? ⟨G, j, none⟩ = some u) (hlen : l.length ≤ 65536) (hbase : base ≤ W.heap.size) :
    ∃ v' w', (Builtin.append_ #[23, 23] ty #[v, .slice (some ⟨G, 0, none⟩) 2 2]).run Tryd.prog W = .ok v' w' ∧ EOwn w' base v' (l ++ [y, z]) ∧ Below base W w' ∧ W.grownBy w' v.ownBlock := by
  obtain ⟨i0, hi, hz0, hz1, hz2⟩ := info_of info_ev
  have hl := World.ownsRow.lt hown
  obtain ⟨v', w', hr, h2, h3, _⟩ := run_append_own (P := Tryd.prog) W base 23 ty 84 i0 (evV default) 4 32 Tryd.underlying23 hi hz0 hz1 hz2 rfl (by decide) v l.length (l.flatMap evCs) hown
    ⟨G, 0, none⟩ 2 2 (evCs y ++ evCs z) rfl (fun j u hu => by
      rw [Addr.add_lit, Nat.zero_add]
      exact hG j u hu) (fun u hu => by
      simp only [List.mem_append, List.mem_cons, List.not_mem_nil, or_false] at hu
      rcases hu with (rfl | rfl | rfl | rfl) | (rfl | rfl | rfl | rfl) <;> rfl) (by unfold maxLen; omega) (by omega) hbase
  refine ⟨v', w', hr, ?_, (Below.refl base W).grown h3 hbase (fun k hk => (hl k hk).1), h3⟩
  unfold EOwn
  rw [List.length_append, List.flatMap_append]
  simpa [List.flatMap_cons] using h2
theorem wp_app_ev2 {W : World} {o : Oper} {a : Act} {K : Act → World → Prop} {Q : Exit → Act → World → Prop} (s x : Operand)
    (ho : o.op = .call { callee := .builtin .append, args := #[s, x], argTypes := #[23, 23] })
    (base G : Nat) (v : Value) (l : List Ev) (y z : Ev) (hs : a.eval s = v) (hx : a.eval x = .slice (some ⟨G, 0, none⟩) 2 2) (hown : EOwn W base v l) (hG : ∀ j u, (evCs y ++ evCs z)[j]? = some u → W.cell? ⟨G, j, none⟩ = some u) (hlen : l.length ≤ 65536) (hbase : base ≤ W.heap.size)
    (h : ∀ v' w', EOwn w' base v' (l ++ [y, z]) → Below base W w' → W.grownBy w' v.ownBlock → K (a.put o.dst v') w') : Oper.wp Tryd.prog o a W K Q := by
  obtain ⟨v', w', hrun, r1, r2, r3⟩ := run_app_ev2 o.type hown hG hlen hbase
  unfold Oper.wp
  simp [execOp, ho, resolve, invoke, builtin, hs, hx, hrun, Result.andThen]
  exact h v' w' r1 r2 r3
theorem wpList_app_ev2 {W : World} {ops : Array Oper} {rest : List Oper} {o : Oper} {a : Act} {Q : Exit → Act → World → Prop} (hgd : o.guard = none) (s x : Operand)
    (ho : o.op = .call { callee := .builtin .append, args := #[s, x], argTypes := #[23, 23] })
    (base G : Nat) (v : Value) (l : List Ev) (y z : Ev) (hs : a.eval s = v) (hx : a.eval x = .slice (some ⟨G, 0, none⟩) 2 2) (hown : EOwn W base v l) (hG : ∀ j u, (evCs y ++ evCs z)[j]? = some u → W.cell? ⟨G, j, none⟩ = some u) (hlen : l.length ≤ 65536) (hbase : base ≤ W.heap.size)
    (h : ∀ v' w', EOwn w' base v' (l ++ [y, z]) → Below base W w' → W.grownBy w' v.ownBlock → wpList Tryd.prog ops Q rest (a.put o.dst v') w') : wpList Tryd.prog ops Q (o :: rest) a W :=
  wpList_plain hgd fun _ hK => wp_app_ev2 s x ho base G v l y z hs hx hown hG hlen hbase fun v' w' h1 h2 h3 => hK _ _ (h v' w' h1 h2 h3)
end Go.Proofs.YtfgangkpebkicaaDoor

/-
  slices.Equal of two lists of integers.
-/
namespace Go.Proofs.YtfgangkpebkicaaDoor
open Go.RowKit
set_option maxRecDepth 20000
theorem ext_eq {α : Type} {xs ys : List α} (hl : xs.length = ys.length) (h : ∀ (j : Nat) (x y : α), xs[j]? = some x → ys[j]? = some y → x = y) : xs = ys := by
  apply List.ext_getElem hl
  intro j h1 h2
  exact h j _ _ (List.getElem?_eq_getElem h1) (List.getElem?_eq_getElem h2)
set_option maxHeartbeats 2000000 in
theorem eqInt_any {B1 B2 : Nat} {v1 v2 : Value} {xs ys : List Int} {w : World} (h1 : NRd w B1 v1 xs) (h2 : NRd w B2 v2 ys) :
    Calls Tryd.prog 35 #[v1, v2] w fun e w' => e = .returned (.bool (decide (xs = ys))) ∧ Below w.heap.size w w' := by
  obtain ⟨A1, c1, rfl, m1, m2⟩ := h1.is
  obtain ⟨A2, c2, rfl, m3, m4⟩ := h2.is
  unfold maxLen at m2 m4
  have H1 := Lib.hid h1
  have H2 := Lib.hid h2
  clear h1 h2
  obtain ⟨n, hn⟩ : ∃ n, n = xs.length := ⟨_, rfl⟩
  obtain ⟨n', hn'⟩ : ∃ n, n = ys.length := ⟨_, rfl⟩
  rw [← hn, ← hn']
  rw [← hn] at m1
  rw [← hn'] at m3
  have HN := Lib.hid hn
  have HN' := Lib.hid hn'
  clear hn hn'
  by_cases hl : n = n'
  · subst hl
    go_enter Tryd.func35, Tryd.ntmps35
    go_wp2_with fail
    go_loopw [13] (fun i wr => ∃ k : Nat, k ≤ n ∧ i = .int .i64 k ∧ (∀ (j : Nat) (x y : Int), j < k → xs[j]? = some x → ys[j]? = some y → x = y) ∧ ∃ nq, wr = w.drewN nq) (fun i _ => n - (intOf i).toNat)
    case atStart => exact ⟨0, by omega, rfl, fun j x y hj => by omega, 0, rfl⟩
    case round =>
      obtain ⟨k, hk, rfl, ha, nq, rfl⟩ := hrel
      have HA := Lib.hid ha
      clear ha
      by_cases hkn : k < n
      · obtain ⟨x, hx⟩ : ∃ x, xs[k]? = some x := ⟨_, List.getElem?_eq_getElem (by rw [← HN.out]; exact hkn)⟩
        obtain ⟨y, hy⟩ : ∃ y, ys[k]? = some y := ⟨_, List.getElem?_eq_getElem (by rw [← HN'.out]; exact hkn)⟩
        have h1' := H1.out
        have h2' := H2.out
        rw [← HN.out] at h1'
        rw [← HN'.out] at h2'
        obtain ⟨g1, o1, rfl, -, b0⟩ := h1'.num hx
        obtain ⟨g2, o2, rfl, -, d0⟩ := h2'.num hy
        have HX := Lib.hid (And.intro hx hy)
        clear h1' h2' hx hy
        have i1 : (0 : Int) ≤ (k : Int) := by omega
        have i2 : (k : Int) < (n : Int) := by omega
        by_cases hxy : x = y
        · have HXY := Lib.hid hxy
          subst hxy
          go_wp2_with fail
          go_quiet (fail)
          go_wp2_with fail
          go_roundw
          case rel => exact ⟨k + 1, by omega, by go_num, fun j a b hj ha hb => by
            rcases Nat.lt_or_ge j k with h | h
            · exact HA.out j a b h ha hb
            · obtain rfl : j = k := by omega
              rw [HX.out.1] at ha
              rw [HX.out.2] at hb
              exact Option.some.inj (ha.symm.trans hb), _, rfl⟩
          case measure => simp [intOf]; omega
        · have hz : (x != y) = true := by rw [bne_iff_ne]; exact hxy
          have HXY := Lib.hid hxy
          clear hxy
          go_wp2_with fail
          go_quiet (fail)
          go_wp2_with fail
          go_ret
          exact ⟨ret_bool (decide_eq_false (fun e => HXY.out (by
              have h1 := HX.out.1
              rw [e, HX.out.2] at h1
              exact (Option.some.inj h1).symm))).symm, belowN (belowN (Below.refl _ _) _) _⟩
      · obtain rfl : k = n := by omega
        go_wp2_with fail
        go_ret
        exact ⟨ret_bool (decide_eq_true (ext_eq (HN.out.symm.trans HN'.out) (fun j x y hx hy => HA.out j x y (by rw [HN.out]; exact (List.getElem?_eq_some_iff.1 hx).1) hx hy))).symm, belowN (Below.refl _ _) _⟩
  · have hz : ((n : Int) != (n' : Int)) = true := by rw [bne_iff_ne]; omega
    have hne : decide (xs = ys) = false := decide_eq_false (fun e => hl (by rw [HN.out, HN'.out, e]))
    rw [hne]
    clear hne hl
    go_enter Tryd.func35, Tryd.ntmps35
    go_wp2_with fail
    go_ret
    exact ⟨rfl, Below.refl _ _⟩
theorem eqInt_same {B1 B2 : Nat} {v1 v2 : Value} {xs : List Int} {w : World} (h1 : NRd w B1 v1 xs) (h2 : NRd w B2 v2 xs) :
    Calls Tryd.prog 35 #[v1, v2] w fun e w' => e = .returned (.bool true) ∧ Below w.heap.size w w' := by
  have := eqInt_any h1 h2
  rwa [decide_eq_true rfl] at this
end Go.Proofs.YtfgangkpebkicaaDoor

/-
  Two lists that are the same at each place.
-/
namespace Go.Proofs.YtfgangkpebkicaaDoor
set_option maxRecDepth 20000
theorem take_eq {α : Type} {xs ys : List α} (hl : xs.length = ys.length) (h : ∀ (j : Nat) (x y : α), xs[j]? = some x → ys[j]? = some y → x = y) : xs = ys := by
  apply List.ext_getElem hl
  intro j h1 h2
  exact h j _ _ (List.getElem?_eq_getElem h1) (List.getElem?_eq_getElem h2)
end Go.Proofs.YtfgangkpebkicaaDoor

/-
  slices.Equal of two lists of events.
-/
namespace Go.Proofs.YtfgangkpebkicaaDoor
open Go.RowKit
set_option maxRecDepth 20000
/-- The first field in which two events differ. -/
theorem ev_ne (x0 x1 x2 x3 y0 y1 y2 y3 : Int) (h : (⟨x0, x1, x2, x3⟩ : Ev) ≠ ⟨y0, y1, y2, y3⟩) :
    (x0 == y0) = false ∨ (x0 = y0 ∧ (x1 == y1) = false) ∨ (x0 = y0 ∧ x1 = y1 ∧ (x2 == y2) = false) ∨ (x0 = y0 ∧ x1 = y1 ∧ x2 = y2 ∧ (x3 == y3) = false) := by
  simp only [beq_eq_false_iff_ne]
  by_cases h0 : x0 = y0
  · by_cases h1 : x1 = y1
    · by_cases h2 : x2 = y2
      · by_cases h3 : x3 = y3
        · exact absurd (Ev.same h0 h1 h2 h3) h
        · simp [*]
      · simp [*]
    · simp [*]
  · simp [*]
set_option maxHeartbeats 2000000 in
theorem eqEv_any {B1 B2 : Nat} {v1 v2 : Value} {xs ys : List Ev} {w : World} (h1 : ERd w B1 v1 xs) (h2 : ERd w B2 v2 ys) :
    Calls Tryd.prog 36 #[v1, v2] w fun e w' => e = .returned (.bool (decide (xs = ys))) ∧ Below w.heap.size w w' := by
  obtain ⟨A1, c1, rfl, m1, m2⟩ := h1.is
  obtain ⟨A2, c2, rfl, m3, m4⟩ := h2.is
  unfold maxLen at m2 m4
  have H1 := Lib.hid h1
  have H2 := Lib.hid h2
  clear h1 h2
  obtain ⟨n, hn⟩ : ∃ n, n = xs.length := ⟨_, rfl⟩
  obtain ⟨n', hn'⟩ : ∃ n, n = ys.length := ⟨_, rfl⟩
  rw [← hn, ← hn']
  rw [← hn] at m1
  rw [← hn'] at m3
  have HN := Lib.hid hn
  have HN' := Lib.hid hn'
  clear hn hn'
  by_cases hl : n = n'
  · subst hl
    go_enter Tryd.func36, Tryd.ntmps36
    go_wp2_with fail
    go_loopw [13] (fun i wr => ∃ k : Nat, k ≤ n ∧ i = .int .i64 k ∧ (∀ (j : Nat) (x y : Ev), j < k → xs[j]? = some x → ys[j]? = some y → x = y) ∧ ∃ nq, wr = w.drewN nq) (fun i _ => n - (intOf i).toNat)
    case atStart => exact ⟨0, by omega, rfl, fun j x y hj => by omega, 0, rfl⟩
    case round =>
      obtain ⟨k, hk, rfl, ha, nq, rfl⟩ := hrel
      have HA := Lib.hid ha
      clear ha
      by_cases hkn : k < n
      · obtain ⟨x, hx⟩ : ∃ x, xs[k]? = some x := ⟨_, List.getElem?_eq_getElem (by rw [← HN.out]; exact hkn)⟩
        obtain ⟨y, hy⟩ : ∃ y, ys[k]? = some y := ⟨_, List.getElem?_eq_getElem (by rw [← HN'.out]; exact hkn)⟩
        have h1' := H1.out
        have h2' := H2.out
        rw [← HN.out] at h1'
        rw [← HN'.out] at h2'
        obtain ⟨g1, o1, rfl, -, b0, b1, b2, b3⟩ := h1'.ev hx
        obtain ⟨g2, o2, rfl, -, d0, d1, d2, d3⟩ := h2'.ev hy
        have HX := Lib.hid (And.intro hx hy)
        clear h1' h2' hx hy
        have i1 : (0 : Int) ≤ (k : Int) := by omega
        have i2 : (k : Int) < (n : Int) := by omega
        by_cases hxy : x = y
        · have HXY := Lib.hid hxy
          subst hxy
          obtain ⟨x0, x1, x2, x3⟩ := x
          go_wp2_with fail
          go_quiet (fail)
          go_wp2_with fail
          go_roundw
          case rel => exact ⟨k + 1, by omega, by go_num, fun j a b hj ha hb => by
            rcases Nat.lt_or_ge j k with h | h
            · exact HA.out j a b h ha hb
            · obtain rfl : j = k := by omega
              rw [HX.out.1] at ha
              rw [HX.out.2] at hb
              exact Option.some.inj (ha.symm.trans hb), _, rfl⟩
          case measure => simp [intOf]; omega
        · obtain ⟨x0, x1, x2, x3⟩ := x
          obtain ⟨y0, y1, y2, y3⟩ := y
          simp only at b0 b1 b2 b3 d0 d1 d2 d3
          have hz := ev_ne _ _ _ _ _ _ _ _ hxy
          have HXY := Lib.hid hxy
          clear hxy
          rcases hz with hz | ⟨rfl, hz⟩ | ⟨rfl, rfl, hz⟩ | ⟨rfl, rfl, rfl, hz⟩
          all_goals (
            go_wp2_with fail
            go_quiet (fail)
            go_wp2_with fail
            go_ret
            exact ⟨ret_bool (decide_eq_false (fun e => HXY.out (by
              have h1 := HX.out.1
              rw [e, HX.out.2] at h1
              exact (Option.some.inj h1).symm))).symm, belowN (belowN (Below.refl _ _) _) _⟩)
      · obtain rfl : k = n := by omega
        go_wp2_with fail
        go_ret
        exact ⟨ret_bool (decide_eq_true (take_eq (HN.out.symm.trans HN'.out) (fun j x y hx hy => HA.out j x y (by rw [HN.out]; exact (List.getElem?_eq_some_iff.1 hx).1) hx hy))).symm, belowN (Below.refl _ _) _⟩
  · have hz : ((n : Int) != (n' : Int)) = true := by rw [bne_iff_ne]; omega
    have hne : decide (xs = ys) = false := decide_eq_false (fun e => hl (by rw [HN.out, HN'.out, e]))
    rw [hne]
    clear hne hl
    go_enter Tryd.func36, Tryd.ntmps36
    go_wp2_with fail
    go_ret
    exact ⟨rfl, Below.refl _ _⟩
end Go.Proofs.YtfgangkpebkicaaDoor
