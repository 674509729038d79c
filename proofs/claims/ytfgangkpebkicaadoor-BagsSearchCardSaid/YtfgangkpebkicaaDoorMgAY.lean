/-
  Joined by a program out of: BagLives, BSearchW, HistArg, PowArg, End, BSearchCard.
-/
import Derived.Test.YtfgangkpebkicaaDoorMgAX
import Derived.Test.YtfgangkpebkicaaDoorMgAW
import Derived.Deep.CutRange
import Derived.Test.YtfgangkpebkicaaDoorMgAA
import Derived.Test.YtfgangkpebkicaaDoorRows
import Derived.Carry
import Derived.Deep.Slices
import Derived.OpenShut
import Derived.ProofKit
import Derived.Lib.LaidTab
import Derived.LaidMore
import Derived.Lay
import Derived.Below
import Derived.Test.YtfgangkpebkicaaDoorTie
import Derived.Test.YtfgangkpebkicaaDoorCards
import Derived.SevenTiedAt
import Derived.Stop.Joined

/-
  alibkeep.bagsLives answers true.
-/
namespace Go.Proofs.YtfgangkpebkicaaDoor
open Go.RowKit
set_option maxRecDepth 20000

/-- What is done. -/
abbrev bgD : List (Int × Int × Int) := [(7, 1, 1), (7, 2, 1), (7, 1, 1)]
abbrev bgCs (d : Int × Int × Int) : List Value := [.int .i64 d.1, .int .i64 d.2.1, .int .i64 d.2.2]
def evsB (l : List (Int × Int × Int)) : List Ev := l.flatMap fun d => [⟨0, 0, d.1, d.2.1⟩, ⟨0, 0, 0, d.2.2⟩]
abbrev bgE : List Ev := [⟨0, 0, 7, 1⟩, ⟨0, 0, 0, 1⟩, ⟨0, 0, 7, 2⟩, ⟨0, 0, 0, 1⟩, ⟨0, 0, 7, 1⟩, ⟨0, 0, 0, 1⟩]
def bg4 : List Ev := bgE.take 4
def bg2 : List Ev := [⟨0, 0, 7, 2⟩, ⟨0, 0, 0, 1⟩]
theorem evsB_take {l : List (Int × Int × Int)} {k : Nat} {d : Int × Int × Int} (h : l[k]? = some d) : evsB (l.take (k + 1)) = evsB (l.take k) ++ [⟨0, 0, d.1, d.2.1⟩, ⟨0, 0, 0, d.2.2⟩] := by
  unfold evsB
  rw [List.take_add_one, h, List.flatMap_append]
  rfl
theorem evsB_len : ∀ l : List (Int × Int × Int), (evsB l).length = 2 * l.length
  | [] => rfl
  | d :: r => by
    have := evsB_len r
    unfold evsB at this ⊢
    rw [List.flatMap_cons, List.length_append, this, List.length_cons]
    simp only [List.length_cons, List.length_nil]
    omega
theorem bad_of {l : List Ev} (h : (callsOf [4] l).2.2 = 0) {v : Int} (h9 : linE l v = 0) : badV (callsOf [4] l).1 v = !linB l v := by
  rw [linB_iff h h9, Bool.not_not]
theorem bg_ok : (callsOf [4] bgE).2.2 = 0 := by decide +kernel
theorem bg_E : bagsE bgE = 0 := by decide +kernel
theorem bg_args : ∀ c ∈ (callsOf [4] bgE).1, c.arg = 1 ∨ c.arg = 2 := by decide +kernel
theorem bg_one : ∃ c ∈ (callsOf [4] bgE).1, c.arg = 1 := by decide +kernel
theorem bg_l1 : linB bgE 1 = false := by decide +kernel
theorem bg_l2 : linB bgE 2 = true := by decide +kernel
theorem bg_B : bagB bgE = [1] := by
  refine inc_ext (bagB_up _) (List.pairwise_singleton _ _) fun x => ?_
  rw [bagB_mem bg_ok, ← badV_iff, List.mem_singleton]
  constructor
  · rintro ⟨⟨c, hc, rfl⟩, h2⟩
    rcases bg_args c hc with e | e
    · exact e
    · rw [e, bad_of bg_ok (by decide +kernel), bg_l2] at h2
      cases h2
  · rintro rfl
    refine ⟨bg_one, ?_⟩
    rw [bad_of bg_ok (by decide +kernel), bg_l1]
    rfl
theorem bg4_ok : (callsOf [4] bg4).2.2 = 0 := by decide +kernel
theorem bg4_E : bagsE bg4 = 0 := by decide +kernel
theorem bg4_args : ∀ c ∈ (callsOf [4] bg4).1, c.arg = 1 ∨ c.arg = 2 := by decide +kernel
theorem bg4_l1 : linB bg4 1 = true := by decide +kernel
theorem bg4_l2 : linB bg4 2 = true := by decide +kernel
theorem bg4_B : bagB bg4 = [] := by
  refine List.eq_nil_iff_forall_not_mem.2 fun x hx => ?_
  rw [bagB_mem bg4_ok, ← badV_iff] at hx
  obtain ⟨⟨c, hc, rfl⟩, h2⟩ := hx
  rcases bg4_args c hc with e | e
  · rw [e, bad_of bg4_ok (by decide +kernel), bg4_l1] at h2
    cases h2
  · rw [e, bad_of bg4_ok (by decide +kernel), bg4_l2] at h2
    cases h2
theorem bg_P : bagP bgE 2 = (bg2, 0) := by decide +kernel
theorem bg_forms {w w' : World} {e : Ending} (h : BCheck w bgE e w') : Below w.heap.size w w' ∧ ∃ A c, e = .returned (.tuple #[.slice A 1 c, .int .i64 0]) ∧ NRd w' w'.heap.size (.slice A 1 c) [1] := by
  obtain ⟨hb, v, he, ho⟩ := h
  rw [bg_E] at he
  have hl : bagLst bgE = [1] := by unfold bagLst; rw [if_pos bg_E]; exact bg_B
  rw [hl] at ho
  obtain ⟨A, c, rfl, -, -⟩ := ho.rd.is
  exact ⟨hb, A, c, he, ho.rd⟩
theorem bg4_forms {w w' : World} {e : Ending} (h : BCheck w bg4 e w') : Below w.heap.size w w' ∧ ∃ A c, e = .returned (.tuple #[.slice A 0 c, .int .i64 0]) := by
  obtain ⟨hb, v, he, ho⟩ := h
  rw [bg4_E] at he
  have hl : bagLst bg4 = [] := by unfold bagLst; rw [if_pos bg4_E]; exact bg4_B
  rw [hl] at ho
  obtain ⟨A, c, rfl, -, -⟩ := ho.rd.is
  exact ⟨hb, A, c, he⟩
theorem bg2_forms {w w' : World} {e : Ending} (h : BPart w (bagP bgE 2) e w') : Below w.heap.size w w' ∧ ∃ A c, e = .returned (.tuple #[.slice A 2 c, .int .i64 0]) ∧ ERd w' w'.heap.size (.slice A 2 c) bg2 := by
  rw [bg_P] at h
  obtain ⟨v, he, hb, ho⟩ := h
  obtain ⟨A, c, rfl, -, -⟩ := ho.rd.is
  exact ⟨hb, A, c, he, ho.rd⟩
structure BgR (w : World) (v : Value) (k : Nat) (W : World) : Prop where
  below : Below w.heap.size w W
  dos : LRd 3 bgCs W (w.heap.size + 1) (.slice (some ⟨w.heap.size, 0, none⟩) 3 3) bgD
  own : EOwn W (w.heap.size + 1) v (evsB (bgD.take k))
  sz : w.heap.size + 1 ≤ W.heap.size
theorem BgR.next {w : World} {v : Value} {k : Nat} {W w' : World} (h : BgR w v k W) (hb : Below W.heap.size W w') : BgR w v k w' :=
  ⟨h.below.trans (hb.mono h.below.size), h.dos.below (hb.mono h.sz), h.own.then_ hb, Nat.le_trans h.sz hb.size⟩
set_option maxHeartbeats 8000000 in
theorem blives_any (w : World) (hp : Pow10 w.heap.size w) : Calls Tryd.prog 17 #[] w fun e w' => e = .returned (.bool true) ∧ Below w.heap.size w w' := by
  have h0 : BgR w (.slice none 0 0) 0 (w.alloc (.cells #[.int .i64 7, .int .i64 1, .int .i64 1, .int .i64 7, .int .i64 2, .int .i64 1, .int .i64 7, .int .i64 1, .int .i64 1] 81)) := by
    refine ⟨(Below.refl _ _).alloc (Nat.le_refl _) _, ?_, ⟨rfl, .inl ⟨rfl, rfl⟩⟩, by simp⟩
    exact LRd.of_lit (f := bgCs) (s := 3) (w := w) (l := bgD) (fun _ => rfl) 81 (cs := #[.int .i64 7, .int .i64 1, .int .i64 1, .int .i64 7, .int .i64 2, .int .i64 1, .int .i64 7, .int .i64 1, .int .i64 1]) rfl (n := 3) rfl (by unfold maxLen; omega)
  have H0 := Lib.hid h0
  have HP := Lib.hid hp
  clear h0 hp
  go_enter Tryd.func17, Tryd.ntmps17
  go_wp2_with fail
  have h0 := H0.out
  clear H0
  change Code.wp _ _ _ _ (w.alloc (.cells #[.int .i64 7, .int .i64 1, .int .i64 1, .int .i64 7, .int .i64 2, .int .i64 1, .int .i64 7, .int .i64 1, .int .i64 1] 81))
  generalize w.alloc (.cells #[.int .i64 7, .int .i64 1, .int .i64 1, .int .i64 7, .int .i64 2, .int .i64 1, .int .i64 7, .int .i64 1, .int .i64 1] 81) = W at h0 ⊢
  go_loopw [1, 15] (fun v i wr => ∃ k : Nat, k ≤ 3 ∧ i = .int .i64 k ∧ BgR w v k wr) (fun _ i _ => 3 - (intOf i).toNat)
  case atStart => exact ⟨0, by omega, rfl, h0⟩
  case round =>
    clear h0
    obtain ⟨k, hk, rfl, hO⟩ := hrel
    by_cases hkn : k < 3
    · obtain ⟨d, hd⟩ : ∃ d, bgD[k]? = some d := ⟨_, List.getElem?_eq_getElem (by simpa using hkn)⟩
      obtain ⟨g, o, hA, -, hc⟩ := LRd.at_ hO.dos hd
      injection hA with hA
      injection hA with hA1 hA2
      subst hA1 hA2
      have d0 := hc 0 _ rfl
      have d1 := hc 1 _ rfl
      have d2 := hc 2 _ rfl
      have het := evsB_take hd
      obtain ⟨x0, x1, x2⟩ := d
      simp only [Nat.zero_add, Nat.add_zero] at d0 d1 d2 het
      have i1 : (0 : Int) ≤ (k : Int) := by omega
      have i2 : (k : Int) < 3 := by omega
      have hal : Below wr.heap.size wr (wr.alloc (.cells #[.int .i64 x0, .int .i64 x1, .int .i64 x2] 81)) := (Below.refl _ _).alloc (Nat.le_refl _) _
      have HO := Lib.hid (And.intro (hO.next hal) (And.intro (Lies.new wr 81 #[.int .i64 x0, .int .i64 x1, .int .i64 x2]) het))
      clear hO hd hal het hc
      go_upto_region 5 with fail
      clear d0 d1 d2
      change Code.wp _ _ _ _ (wr.alloc (.cells #[.int .i64 x0, .int .i64 x1, .int .i64 x2] 81))
      generalize wr.alloc (.cells #[.int .i64 x0, .int .i64 x1, .int .i64 x2] 81) = W2 at HO ⊢
      generalize wr.heap.size = Y at HO ⊢
      have e0 := Lies.cell HO.out.2.1 0
      have e1 := Lies.cell HO.out.2.1 1
      have e2 := Lies.cell HO.out.2.1 2
      simp only [List.getElem?_toArray, List.getElem?_cons_zero, List.getElem?_cons_succ] at e0 e1 e2
      have hO4 := HO.out.1.next ((Below.refl _ _).alloc (Nat.le_refl _) (.cells #[.int .i64 0, .int .i64 0, .int .i64 x0, .int .i64 x1, .int .i64 0, .int .i64 0, .int .i64 0, .int .i64 x2] 84))
      have hown := hO4.own
      have hsz := hO4.sz
      have hnew := new_cells W2 84 (evCs ⟨0, 0, x0, x1⟩ ++ evCs ⟨0, 0, 0, x2⟩)
      have hlen : (evsB (bgD.take k)).length ≤ 65536 := by
        rw [evsB_len, List.length_take]
        omega
      obtain ⟨Av, cv, hvv⟩ := own_sliceE hO4.own
      have HZ := Lib.hid (And.intro hO4 HO.out.2.2)
      obtain ⟨acc, hacc⟩ : ∃ acc, acc = evsB (bgD.take k) := ⟨_, rfl⟩
      have HACC := Lib.hid hacc
      rw [← hacc] at hown hlen hvv
      rw [hvv] at hown ⊢
      clear hO4 hacc
      go_wp2_with (at_builtin; refine wpList_app_ev2 rfl (.tmp 19) (.tmp 28) rfl (w.heap.size + 1) W2.heap.size _ acc ⟨0, 0, x0, x1⟩ ⟨0, 0, 0, x2⟩ rfl rfl hown hnew hlen hsz ?_; intro v' w7 ho7 hb7 _)
      go_roundw
      case rel => exact ⟨k + 1, by omega, by go_num, ⟨HZ.out.1.below.trans (hb7.mono (by omega)), HZ.out.1.dos.below hb7, by rw [HZ.out.2, ← HACC.out]; exact ho7, Nat.le_trans HZ.out.1.sz hb7.size⟩⟩
      case measure => simp [intOf]; omega
    · obtain rfl : k = 3 := by omega
      have hown : EOwn wr (w.heap.size + 1) u1 bgE := hO.own
      obtain ⟨Av, cv, hvv, hcl, hcm⟩ := hown.rd.is
      have hv2 : u1 = .slice Av 6 cv := hvv
      have hc6 : (6 : Nat) ≤ cv := hcl
      unfold maxLen at hcm
      subst hv2
      have hrd : ERd wr wr.heap.size (.slice Av 6 cv) bgE := hown.rd
      obtain ⟨g, o, rfl, -⟩ := LRd.at_ hrd (k := 0) rfl
      have HC := Lib.hid (bcheck_any hrd ((HP.out.on hO.below).mono hO.below.size))
      have H1 := Lib.hid (And.intro hO.below hrd)
      clear hO hown hvv hcl hrd hkn
      go_wp2_with fail
      refine HC.out.mono ?_
      intro e w2 hck
      obtain ⟨hb2, A2, c2, rfl, hr2⟩ := bg_forms hck
      have hbw := H1.out.1.trans (hb2.mono H1.out.1.size)
      have hl2 := (H1.out.2.below hb2).mono hb2.size
      have HC4 := Lib.hid (bcheck_any (l := bg4) (hl2.take_ (n := 4) (by decide)) ((HP.out.on hbw).mono hbw.size))
      have H2 := Lib.hid (And.intro hbw (And.intro hl2 hr2))
      clear hb2 hbw hl2 hr2 hck HC H1
      go_wp2_with fail
      refine HC4.out.mono ?_
      intro e w3 hck
      obtain ⟨hb3, A3, c3, rfl⟩ := bg4_forms hck
      have hl3 := (H2.out.2.1.below hb3).mono hb3.size
      have HPT := Lib.hid (bpart_any hl3 2)
      have H3 := Lib.hid (And.intro (H2.out.1.trans (hb3.mono H2.out.1.size)) (And.intro hl3 ((H2.out.2.2.below hb3).mono hb3.size)))
      clear hb3 hl3 hck HC4 H2
      go_wp2_with fail
      refine HPT.out.mono ?_
      intro e w4 hck
      obtain ⟨hb4, A4, c4, rfl, hr4⟩ := bg2_forms hck
      have hal2 : Below w4.heap.size w4 (w4.alloc (.cells #[.int .i64 0, .int .i64 0, .int .i64 0] 25)) := (Below.refl _ _).alloc (Nat.le_refl _) _
      have hbw := H3.out.1.trans (hb4.mono H3.out.1.size)
      have H4 := Lib.hid (And.intro (hbw.trans (hal2.mono hbw.size)) (And.intro ((((H3.out.2.1.below hb4).mono hb4.size).below hal2).mono hal2.size) (And.intro ((((H3.out.2.2.below hb4).mono hb4.size).below hal2).mono hal2.size) ((hr4.below hal2).mono hal2.size))))
      have HOK := Lib.hid (ok_zero (IRd.fresh w4 25 [0, 0, 0] 3 rfl #[.int .i64 0, .int .i64 0, .int .i64 0] rfl) (by decide) (by decide))
      clear hb4 hal2 hbw hr4 hck HPT H3
      go_wp2_with fail
      refine HOK.out.mono ?_
      rintro e w5 ⟨rfl, rfl⟩
      generalize w4.alloc (.cells #[.int .i64 0, .int .i64 0, .int .i64 0] 25) = W5 at H4 ⊢
      have hal : Below W5.heap.size W5 (W5.alloc (.cells #[.int .i64 1] 3)) := (Below.refl _ _).alloc (Nat.le_refl _) _
      have hN : NRd (W5.alloc (.cells #[.int .i64 1] 3)) (W5.heap.size + 1) (.slice (some ⟨W5.heap.size, 0, none⟩) 1 1) [1] :=
        LRd.of_lit (f := intCs) (s := 1) (w := W5) (l := [1]) (fun _ => rfl) 3 (cs := #[.int .i64 1]) rfl (n := 1) rfl (by unfold maxLen; omega)
      have HEQ := Lib.hid (eqInt_same (H4.out.2.2.1.below hal) hN)
      have H5 := Lib.hid (And.intro (H4.out.1.trans (hal.mono H4.out.1.size)) (And.intro ((H4.out.2.1.below hal).mono hal.size) ((H4.out.2.2.2.below hal).mono hal.size)))
      clear hal hN HOK H4
      go_wp2_with fail
      refine HEQ.out.mono ?_
      rintro e w6 ⟨rfl, hb6⟩
      have hl6 := (H5.out.2.1.below hb6).mono hb6.size
      have hd6 := (LRd.drop_ hl6 (k := 2) (by omega)).take_ (n := 2) (by decide)
      have HEV := Lib.hid (eqEv_any ((H5.out.2.2.below hb6).mono hb6.size) hd6)
      have H6 := Lib.hid (H5.out.1.trans (hb6.mono H5.out.1.size))
      clear hb6 hl6 hd6 HEQ H5
      go_wp2_with fail
      refine HEV.out.mono ?_
      rintro e w7 ⟨rfl, hb7⟩
      have hdec : decide (bg2 = (bgE.drop 2).take 2) = true := by decide +kernel
      rw [hdec]
      have H7 := Lib.hid (H6.out.trans (hb7.mono H6.out.size))
      clear hb7 hdec HEV H6
      go_wp2_with fail
      go_ret
      exact ⟨rfl, H7.out⟩
end Go.Proofs.YtfgangkpebkicaaDoor

/-
  alibkeep.BagsSearch answers true, whatever is handed in.
-/
namespace Go.Proofs.YtfgangkpebkicaaDoor
open Go.RowKit
set_option maxRecDepth 20000

theorem bsearch_iff {l : List Ev} (hs : searchE (callsOf [4] l) = 0) : foundB [4] (callsOf [4] l) = ((bagB l).length == 0) := by
  obtain ⟨h0, h9⟩ := search_ok.1 hs
  rw [Bool.eq_iff_iff, foundB_iff, beq_iff_eq, List.length_eq_zero_iff, ← bags_search h0 (by omega)]
  exact ⟨fun h => h.2, fun h => ⟨hs, h⟩⟩
set_option maxHeartbeats 8000000 in
theorem bsearch_any {lv : Value} {l : List Ev} {w : World} (hl : ERd w w.heap.size lv l) (hp : Pow10 w.heap.size w) :
    Calls Tryd.prog 5 #[lv] w fun e w' => e = .returned (.bool true) ∧ Below w.heap.size w w' := by
  have HC := Lib.hid (bcheck_any hl hp)
  have HL := Lib.hid (And.intro hl hp)
  have HNL := Lib.hid (fun W : World => LRd.of_lit (f := intCs) (s := 1) (w := W) (l := [4]) (fun _ => rfl) 3 (cs := #[.int .i64 4]) rfl (n := 1) rfl (by unfold maxLen; omega))
  obtain ⟨Al, capl, rfl, m1, m2⟩ := hl.is
  unfold maxLen at m2
  obtain ⟨L, hL⟩ : ∃ L, L = l.length := ⟨_, rfl⟩
  rw [← hL] at HC HL m1 ⊢
  clear hl hL hp
  go_enter Tryd.func5, Tryd.ntmps5
  go_wp2_with fail
  refine HC.out.mono ?_
  intro e w1 hck
  obtain ⟨hb1, v1, rfl, ho1⟩ := hck
  obtain ⟨A1, c1, rfl, -, -⟩ := ho1.rd.is
  obtain ⟨n, hn⟩ : ∃ n, n = (bagLst l).length := ⟨_, rfl⟩
  obtain ⟨E, hE⟩ : ∃ E, E = bagsE l := ⟨_, rfl⟩
  rw [← hn, ← hE]
  have hok : E = 0 → n = (bagB l).length := fun h => by rw [hn]; unfold bagLst; rw [if_pos (by rw [← hE]; exact h)]
  have hno : E ≠ 0 → n = 0 := fun h => by rw [hn]; unfold bagLst; rw [if_neg (by rw [← hE]; exact h)]; rfl
  have HK := Lib.hid (And.intro hok (And.intro hno hE))
  have H1 := Lib.hid hb1
  clear HC hok hno hE hn ho1 hb1
  go_wp2_with fail
  have hb3 : Below w.heap.size w (w1.alloc (.cells #[.int .i64 4] 3)) := H1.out.alloc H1.out.size _
  have hn3 := (HNL.out w1).mono (B' := (w1.alloc (.cells #[.int .i64 4] 3)).heap.size) (by simp)
  have HF := Lib.hid (find_say hn3 ((HL.out.1.below hb3).mono hb3.size) ((HL.out.2.on hb3).mono hb3.size))
  have H3 := Lib.hid hb3
  clear hb3 hn3 H1
  generalize w1.heap.size = G2 at HF ⊢
  generalize w1.alloc (.cells #[.int .i64 4] 3) = W3 at HF H3 ⊢
  refine HF.out.mono ?_
  rintro e w4 ⟨hb4, v, rfl, hv⟩
  obtain ⟨fb, hfb⟩ : ∃ fb, fb = foundB [4] (callsOf [4] l) := ⟨_, rfl⟩
  obtain ⟨SE, hSE⟩ : ∃ SE, SE = searchE (callsOf [4] l) := ⟨_, rfl⟩
  rw [← hfb, ← hSE]
  have HQ := Lib.hid (And.intro hfb hSE)
  have hbw := H3.out.trans (hb4.mono H3.out.size)
  have HLV := Lib.hid (blives_any w4 ((HL.out.2.on hbw).mono hbw.size))
  have H4 := Lib.hid hbw
  clear hv hfb hSE HF H3 hb4 hbw
  go_wp2_with fail
  refine HLV.out.mono ?_
  rintro e w5 ⟨rfl, hb5⟩
  have hbw := H4.out.trans (hb5.mono H4.out.size)
  have HLV2 := Lib.hid (blives_any w5 ((HL.out.2.on hbw).mono hbw.size))
  have H5 := Lib.hid hbw
  clear hb5 H4 hbw HLV
  by_cases hE0 : E = 0
  · subst hE0
    have hnb := HK.out.1 rfl
    by_cases hS : SE = 0
    · subst hS
      have hfb := HQ.out.1
      rw [bsearch_iff HQ.out.2.symm, ← hnb] at hfb
      by_cases hz : n = 0
      · subst hz
        obtain rfl : fb = true := hfb
        clear hnb
        go_wp2_with fail
        go_ret
        exact ⟨rfl, H5.out⟩
      · have hzz : (n == 0) = false := by rw [beq_eq_false_iff_ne]; exact hz
        have hzi : ((n : Int) == 0) = false := by rw [beq_eq_false_iff_ne]; omega
        rw [hzz] at hfb
        subst hfb
        clear hnb hz hzz
        go_wp2_with fail
        go_ret
        exact ⟨rfl, H5.out⟩
    · have hz : (SE != 0) = true := by rw [bne_iff_ne]; exact hS
      clear hS hnb
      go_wp2_with fail
      go_ret
      exact ⟨rfl, H5.out⟩
  · have hz : (E != 0) = true := by rw [bne_iff_ne]; exact hE0
    obtain rfl := HK.out.2.1 hE0
    clear hE0
    go_wp2_with fail
    refine HLV2.out.mono ?_
    rintro e w6 ⟨rfl, hb6⟩
    have H6 := Lib.hid (H5.out.trans (hb6.mono H5.out.size))
    clear hb6 H5
    go_wp2_with fail
    go_ret
    exact ⟨rfl, H6.out⟩
end Go.Proofs.YtfgangkpebkicaaDoor

/-
  Slices of numbers, of events, of calls as arguments of a law.
-/
namespace Go.Proofs.YtfgangkpebkicaaDoor
open Go.RowKit Go.ChangeShapes Go.WideShapes Go.ChangeAt
set_option maxRecDepth 20000
theorem laidOutIt : laidOutB Tryd.prog = true := by kernel_rfl
theorem evShape : ∃ f0 f1 f2 f3, Tryd.prog.underlying 84 = some (.struct #[f0, f1, f2, f3]) ∧ (f0.type = 3 ∧ f0.offset = 0) ∧ (f1.type = 3 ∧ f1.offset = 1) ∧ (f2.type = 3 ∧ f2.offset = 2) ∧ (f3.type = 3 ∧ f3.offset = 3) :=
  ⟨_, _, _, _, Tryd.underlying84, ⟨rfl, rfl⟩, ⟨rfl, rfl⟩, ⟨rfl, rfl⟩, rfl, rfl⟩
theorem evSize : Tryd.prog.cellsOf 84 = 4 := by kernel_rfl
theorem clSize : Tryd.prog.cellsOf 51 = 7 := by kernel_rfl
theorem intSize : Tryd.prog.cellsOf 3 = 1 := by kernel_rfl
theorem cell_in {w : World} {p : Addr} {v : Value} (h : w.cell? p = some v) : p.block < w.heap.size := World.block_lt_of_cell? w p h
theorem plus_plain (g o j : Nat) : (⟨g, o, none⟩ : Addr).add j = ⟨g, o + j, none⟩ := WideShapes.add_plain g o j
section
variable {H : Type} {enc : TypeId × Value → H} {α : Type} {s : Nat} {f : α → List Value}
/-- A slice whose elements read each as one of α reads as a list of these. -/
theorem open_list {t e : TypeId} (ht : Tryd.prog.underlying t = some (.slice e)) (hs : Tryd.prog.cellsOf e = s) (hs0 : 0 < s) (hf : ∀ x, (f x).length = s) {w : World} {r : Reach} {b0 : Nat} {v : Value} {d : DataW H} {p : List MemPlace}
    (key : ∀ (fuel : Nat) (cs : List Value) (x : DataW H × List MemPlace), DataW.trod enc Tryd.prog w 0 (fun _ => true) true fuel e cs = some x → ∃ y : α, cs = f y)
    (hv : Value.okWide Tryd.prog w r b0 t v) (h : DataW.Trod enc Tryd.prog w 0 (fun _ => true) true t v d p) : ∃ l : List α, LRd s f w w.heap.size v l := by
  obtain ⟨A, len, cap, rfl⟩ := okWide_slice ht hv
  obtain ⟨fuel, hfu⟩ := h
  rcases Deep.open_slice ht hfu with ⟨hc, _⟩ | ⟨a, len', cap', m, n, D, Pl, hc, _, hl, hm, hmm, _, hi⟩
  · simp only [Value.cells, List.cons.injEq, Value.slice.injEq, and_true] at hc
    obtain ⟨rfl, rfl, rfl⟩ := hc
    exact ⟨[], LRd.nil _ _⟩
  · simp only [Value.cells, List.cons.injEq, Value.slice.injEq, and_true] at hc
    obtain ⟨rfl, rfl, rfl⟩ := hc
    rw [hs] at hi
    have hlm : len ≤ m := by rw [hmm]; split <;> omega
    have each : ∀ i, i < len → ∃ y : α, ∀ j u, (f y)[j]? = some u → w.cell? (a.add (i * s + j)) = some u := by
      intro i hil
      obtain ⟨cs, hcs, htr⟩ := hi i (by omega)
      obtain ⟨_, hlen, hcell⟩ := World.cells?_some hcs
      obtain ⟨y, rfl⟩ := key _ _ _ htr
      refine ⟨y, fun j u hu => ?_⟩
      have hj : j < s := by rw [← hf y]; exact (List.getElem?_eq_some_iff.1 hu).1
      have := hcell j hj
      rw [Deep.add_add] at this
      rw [this, hu]
    have pick : ∃ l : List α, l.length = len ∧ ∀ k x, l[k]? = some x → ∀ j u, (f x)[j]? = some u → w.cell? (a.add (k * s + j)) = some u := by
      have all : ∀ q, q ≤ len → ∃ l : List α, l.length = q ∧ ∀ k x, l[k]? = some x → ∀ j u, (f x)[j]? = some u → w.cell? (a.add (k * s + j)) = some u := by
        intro q
        induction q with
        | zero => intro _; exact ⟨[], rfl, fun k x h => by simp at h⟩
        | succ q ih =>
          intro hq
          obtain ⟨l, hl1, hl2⟩ := ih (by omega)
          obtain ⟨y, hy⟩ := each q (by omega)
          refine ⟨l ++ [y], by simp [hl1], fun k x hk => ?_⟩
          rw [List.getElem?_append] at hk
          split at hk
          · exact hl2 k x hk
          · have hkq : k = q := by
              have := (List.getElem?_eq_some_iff.1 hk).1
              simp at this
              omega
            subst hkq
            rw [hl1, Nat.sub_self] at hk
            injection hk with hk
            subst hk
            exact hy
      exact all len (Nat.le_refl _)
    obtain ⟨l, hl1, hl2⟩ := pick
    subst hl1
    refine ⟨l, some a, cap, rfl, hl, hm, fun h0 => ?_⟩
    obtain ⟨g, o, spot⟩ := a
    have h00 : ∃ u, (f l[0])[0]? = some u := ⟨_, List.getElem?_eq_getElem (by rw [hf]; exact hs0)⟩
    obtain ⟨u, hu⟩ := h00
    have h1 := hl2 0 l[0] (List.getElem?_eq_getElem h0) 0 u hu
    have hspot : spot = none := by simpa [Addr.add] using World.cell?_spot h1
    subst hspot
    have hg := cell_in h1
    rw [plus_plain] at hg
    refine ⟨g, o, rfl, hg, fun k x hk j u hu => ?_⟩
    have := hl2 k x hk j u hu
    rwa [plus_plain, ← Nat.add_assoc] at this
theorem open_nums {w : World} {r : Reach} {b0 : Nat} {v : Value} {d : DataW H} {p : List MemPlace} (hv : Value.okWide Tryd.prog w r b0 22 v) (h : DataW.Trod enc Tryd.prog w 0 (fun _ => true) true 22 v d p) : ∃ l, NRd w w.heap.size v l :=
  open_list Tryd.underlying22 intSize (by decide) (fun _ => rfl) (fun fuel cs x h => by
    obtain ⟨n, h1, _, _⟩ := DataW.trod_int Tryd.underlying3 h
    exact ⟨n, h1⟩) hv h
theorem open_evs {w : World} {r : Reach} {b0 : Nat} {v : Value} {d : DataW H} {p : List MemPlace} (hv : Value.okWide Tryd.prog w r b0 23 v) (h : DataW.Trod enc Tryd.prog w 0 (fun _ => true) true 23 v d p) : ∃ l, ERd w w.heap.size v l :=
  open_list Tryd.underlying23 evSize (by decide) (fun _ => rfl) (fun fuel cs x h => by
    obtain ⟨f0, f1, f2, f3, hs, ⟨t0, o0⟩, ⟨t1, o1⟩, ⟨t2, o2⟩, t3, o3⟩ := evShape
    obtain ⟨xs, n, _, _, hlen, hxl, hg⟩ := DataW.trod_struct hs h
    rw [evSize] at hlen
    have hxl' : xs.length = 4 := hxl
    have g0 := hg 0 f0 rfl
    have g1 := hg 1 f1 rfl
    have g2 := hg 2 f2 rfl
    have g3 := hg 3 f3 rfl
    rw [t0, o0, intSize, List.getElem?_eq_getElem (by omega)] at g0
    rw [t1, o1, intSize, List.getElem?_eq_getElem (by omega)] at g1
    rw [t2, o2, intSize, List.getElem?_eq_getElem (by omega)] at g2
    rw [t3, o3, intSize, List.getElem?_eq_getElem (by omega)] at g3
    obtain ⟨n0, e0, _, _⟩ := DataW.trod_int Tryd.underlying3 g0
    obtain ⟨n1, e1, _, _⟩ := DataW.trod_int Tryd.underlying3 g1
    obtain ⟨n2, e2, _, _⟩ := DataW.trod_int Tryd.underlying3 g2
    obtain ⟨n3, e3, _, _⟩ := DataW.trod_int Tryd.underlying3 g3
    match cs, hlen, e0, e1, e2, e3 with
    | [c0, c1, c2, c3], _, e0, e1, e2, e3 =>
      simp at e0 e1 e2 e3
      subst e0 e1 e2 e3
      exact ⟨⟨n0, n1, n2, n3⟩, rfl⟩) hv h
end
end Go.Proofs.YtfgangkpebkicaaDoor

/-
  The three listed tables: the powers of ten as they lie. Slices of steps as arguments.
-/
namespace Go.Proofs.YtfgangkpebkicaaDoor
open Go.ChangeShapes Go.WideShapes Go.ChangeAt Go.RowKit
set_option maxRecDepth 20000
def tab3Laid : List (String × DataW Unit) := [("math/bits.deBruijn32tab", Rows.laid_math_bits_deBruijn32tab), ("math/bits.deBruijn64tab", Rows.laid_math_bits_deBruijn64tab), ("internal/strconv.uint64pow10", Rows.laid_internal_strconv_uint64pow10)]
theorem laid_behind {P : Program} {x : String × DataW Unit} {rest : List (String × DataW Unit)} {W : World} (h : laidMet P (x :: rest) W) : laidMet P rest W := by
  obtain ⟨ps, ⟨g', t', cs, fuel, p, q, hg', ht', hvar, hd, hrest, hps⟩, hn, hc⟩ := h
  subst hps
  exact ⟨q, hrest, (List.nodup_append.1 hn).2.1, fun b off hm => hc b off (List.mem_append.2 (.inr hm))⟩
theorem pow_of_laid {W : World} (h : laidMetH Tryd.prog tab3Laid W) : Pow10 W.heap.size W := by
  rw [MakeChecks.laidMetH_plain _ _ _ (by kernel_rfl)] at h
  have h3 := laid_behind (laid_behind h)
  have hT : Lib.TabIs Tryd.prog W "internal/strconv.uint64pow10" .u64 Lib.pow10Tab :=
    Lib.tabIs_of_head (rest := []) (show Tryd.prog.globalNamed "internal/strconv.uint64pow10" = some 1 by kernel_rfl) (show (Tryd.prog.globals[1]?).map (·.type) = some 202 by kernel_rfl) Tryd.underlying202 Tryd.underlying155 (by kernel_rfl) (by kernel_rfl) h3
  exact Lib.tabBelow_of_tabIs hT
theorem spShape : ∃ f0 f1, Tryd.prog.underlying 38 = some (.struct #[f0, f1]) ∧ (f0.type = 3 ∧ f0.offset = 0) ∧ (f1.type = 3 ∧ f1.offset = 1) :=
  ⟨_, _, Tryd.underlying38, ⟨rfl, rfl⟩, rfl, rfl⟩
theorem spSize : Tryd.prog.cellsOf 38 = 2 := by kernel_rfl
theorem open_sps {H : Type} {enc : TypeId × Value → H} {w : World} {r : Reach} {b0 : Nat} {v : Value} {d : DataW H} {p : List MemPlace} (hv : Value.okWide Tryd.prog w r b0 34 v) (h : DataW.Trod enc Tryd.prog w 0 (fun _ => true) true 34 v d p) : ∃ l, SRd w w.heap.size v l :=
  open_list Tryd.underlying34 spSize (by decide) (fun _ => rfl) (fun fuel cs x h => by
    obtain ⟨f0, f1, hs, ⟨t0, o0⟩, t1, o1⟩ := spShape
    obtain ⟨xs, n, _, _, hlen, hxl, hg⟩ := DataW.trod_struct hs h
    rw [spSize] at hlen
    have hxl' : xs.length = 2 := hxl
    have g0 := hg 0 f0 rfl
    have g1 := hg 1 f1 rfl
    rw [t0, o0, intSize, List.getElem?_eq_getElem (by omega)] at g0
    rw [t1, o1, intSize, List.getElem?_eq_getElem (by omega)] at g1
    obtain ⟨n0, e0, _, _⟩ := DataW.trod_int Tryd.underlying3 g0
    obtain ⟨n1, e1, _, _⟩ := DataW.trod_int Tryd.underlying3 g1
    match cs, hlen, e0, e1 with
    | [c0, c1], _, e0, e1 =>
      simp at e0 e1
      subst e0 e1
      exact ⟨(n0, n1), rfl⟩) hv h
end Go.Proofs.YtfgangkpebkicaaDoor

/-
  The last step of a row: a walk that leaves all old memory as it was ('Below') pays what the row asks.
-/
namespace Go.Proofs.YtfgangkpebkicaaDoor
open Go.ChangeShapes Go.WideShapes Go.ChangeAt Go.RowKit
set_option maxRecDepth 20000
section
variable {H : Type} {enc : TypeId × Value → H} {P : Program} {f : Func} {s : ChangeSpec} {ap fr ho ag : Bool} {W W' : World} {args : Array Value} {v : Value} {ds gs : List (DataW H)} {met pa pv : List MemPlace}
/-- What was met in reading the arguments is old, so it is as it was. -/
theorem end_of_below (hW : DataW.Whole enc P f.params.toList s.vars ap W args.toList ds gs met) (hb : Below W.heap.size W W') (hmet : met = pa ++ pv)
    (hr : ∀ (b : Nat) (sp : Nat → Bool) (hd : Bool), DataW.TrodAll enc P W' b sp hd f.resultTypes.toList (v.resultList f.resultTypes.size) (s.fn H (ds ++ gs)).results [])
    (ha : ∀ sp : Nat → Bool, (∀ p ∈ met, sp p.block = true) → DataW.TrodAll enc P W' 0 sp true f.params.toList args.toList (s.fn H (ds ++ gs)).args pa)
    (hv : ∀ sp : Nat → Bool, (∀ p ∈ met, sp p.block = true) → DataW.TrodVars enc P W' sp s.vars (s.fn H (ds ++ gs)).vars pv)
    (hok : ∀ (j : Nat) (t : TypeId) (r : Value), f.resultTypes[j]? = some t → (v.resultList f.resultTypes.size)[j]? = some r → Value.okWide P W' .any 0 t r) :
    s.post enc P f ap fr ho ag W args v W' := by
  subst hmet
  have old : ∀ {p : MemPlace}, p ∈ pa ++ pv → p.block < W.heap.size := fun hp => hW.lt _ hp
  have mark : ∀ p ∈ pa ++ pv, decide (p.block < W.heap.size) = true := fun p hp => decide_eq_true (old hp)
  have always : ∀ p ∈ pa ++ pv, (fun _ : Nat => true) p.block = true := fun _ _ => rfl
  have same : ([] ++ pa) ++ pv = pa ++ pv := by rw [List.nil_append]
  have keep : W.keptBut W' (fun p => p ∈ pa ++ pv ∧ (p ∈ pa ++ pv)) := World.keptBut_mono (fun p hp => ⟨hp, hp⟩) (hb.frame (· ∈ pa ++ pv))
  have frz : ∀ b off, MemPlace.cell b off ∈ ([] ++ pa) ++ pv → W'.frozen? ⟨b, off, none⟩ = W.frozen? ⟨b, off, none⟩ := fun b off hp => hb.frozen (p := ⟨b, off, none⟩) (old (p := .cell b off) (same ▸ hp))
  have whole := hW
  obtain ⟨_, _, _, _, _, hz, hn⟩ := hW
  refine ⟨ds, gs, pa ++ pv, [], pa, pv, whole, hr _ _ _, ha _ mark, hv _ mark, World.keptBut_mono (fun p hp => ⟨hp.1, Or.inr (List.mem_append.1 hp.2)⟩) keep, fun _ => ⟨hok, _, _, ([] ++ pa) ++ pv, ⟨[] ++ pa, pv, trodAll_append (ha _ always) (hr _ _ _), hv _ always, rfl, ?_, ?_⟩, ?_⟩⟩
  · exact fun b off hp => (frz b off hp).trans (hz b off (same ▸ hp))
  · exact fun h => same ▸ hn h
  · exact fun p hp _ => by simpa using hp
end
end Go.Proofs.YtfgangkpebkicaaDoor

/-
  The tied card of alibkeep.BagsSearch: whatever is handed in (the listed tables reading as the program's own text lays them), the law answers true and leaves its arguments as they were.
-/
namespace Go.Proofs.YtfgangkpebkicaaDoor
open Go.ChangeShapes Go.WideShapes Go.ChangeAt Go.RowKit
set_option maxRecDepth 20000

theorem bagsSearch_knob : ownKnob Tryd.prog.godebug = none := by kernel_rfl

set_option maxRecDepth 100000 in
theorem bagsSearch_lifted (os : Os) (started : os.Started) (H : Type) (enc : TypeId × Value → H) :
    ReturnsInHanded {} Tryd.checked os 5 .any (fun w args => (Rows.bagsSearchSpec.pre enc Tryd.prog Tryd.f5 [] false w args ∧ laidMetH Tryd.prog tab3Laid w) ∧ sizedMet enc Tryd.prog Tryd.f5 (OpenSpec.ofChange Rows.bagsSearchSpec) false w args)
      (Rows.bagsSearchSpec.post enc Tryd.prog Tryd.f5 false true false false) := by
  refine returnsInHanded_of_change_and (C := Tryd.checked) (X := fun w _ => laidMetH Tryd.prog tab3Laid w) (fun _ _ _ hh h => h.of_heap hh) bagsSearch_knob started (by kernel_rfl) Tryd.func5
    (ChangeSpec.witness_shaped (enc := enc) (C := Tryd.checked) (os := os) (X := fun w _ => laidMetH Tryd.prog tab3Laid w) false (World.laidAll Tryd.prog os tab3Laid) #[.slice none 0 0] 8 (World.laidAll_os _ _ _)
      (World.shaped_of_ZipB (by kernel_rfl) (by kernel_rfl)) (by kernel_rfl) (by kernel_rfl) (by kernel_rfl)
      (by rw [MakeChecks.laidMetH_plain _ _ _ (by kernel_rfl)]; exact laidMet_laidAll _ (by kernel_rfl) (by kernel_rfl))) ?_
  intro W base args ds gs before hval0 hW _ _ hL _
  have hval : ∀ (j : Nat) t v, Tryd.f5.params[j]? = some t → args[j]? = some v → Value.okWide Tryd.prog W .any base t v := hval0
  have hW' := hW
  have hlt := hW.lt
  obtain ⟨p, q, hA0, hV, rfl, _, _⟩ := hW
  have hA : DataW.TrodAll enc Tryd.prog W 0 (fun _ => true) true Tryd.f5.params.toList args.toList ds p := hA0
  rw [Tryd.params5] at hA hval
  obtain ⟨v0, d0, rfl, rfl, h0⟩ := trodAll_one hA
  obtain ⟨rfl, rfl⟩ := trodVars_none hV
  obtain ⟨l0, hL0⟩ := open_evs (hval 0 23 v0 rfl rfl) h0
  have hT := pow_of_laid hL
  clear hA0 hval0
  simp only [List.append_nil] at hW' hlt
  refine (bsearch_any hL0 hT).mono fun e W' ⟨he, hb⟩ => ?_
  subst he
  refine ⟨_, rfl, end_of_below (pa := p) (pv := []) hW' hb (by simp) (fun _ _ _ => ?_) (fun sp hsp => ?_) (fun _ _ => rfl) (ok_one (by kernel_rfl) rfl (okWide_bool_mk Tryd.underlying4 _))⟩
  · exact trodAll_mk1 (shut_bool Tryd.underlying4 _)
  · skip
    have hk0 := WideElems.Trod_stays laidOutIt (by kernel_rfl) (of_decide_eq_true (by kernel_rfl)) h0 (fun x hx => hb.same (hlt x hx)) (fun x hx => hsp x hx)
    have := trodAll_mk1 hk0
    exact this

theorem bagsSearch_holds : Rows.BagsSearchSaid :=
  OpenClaim.holds_of_wide 5 Tryd.f5 rfl rfl rfl rfl rfl rfl rfl ⟨rfl, rfl, rfl, rfl, rfl⟩ rfl rfl rfl rfl rfl (by kernel_rfl) Tryd.func5 (by kernel_rfl)
    (of_decide_eq_true (by kernel_rfl)) (by unfold Func.isWrapper; first | (rw [if_pos (by decide +kernel)]; kernel_rfl) | (rw [if_neg (by decide +kernel)]; exact ⟨rfl, rfl⟩))
    (fun os started H enc _ => bagsSearch_lifted os started H enc)

theorem bagsSearch_card : Rows.BagsSearchCardSaid :=
  Claim7.holds_tied_plain_at .later [] [.data, .data, .data] true Rows.bagsSearchCard.stood.harness false bagsSearch_holds (fun _ h => by cases h) (by kernel_rfl) (fun _ h => by cases h) bagsSearch_row_tie rfl ⟨rfl, rfl⟩ (by kernel_rfl) rfl
    (fun f fn hf hfn => by
      obtain rfl : f = 5 := Option.some.inj ((show Tryd.prog.funcNamed "alibi/alibkeep.BagsSearch" = some 5 by kernel_rfl).symm.trans hf) |>.symm
      obtain rfl : fn = Tryd.f5 := (Option.some.inj (Tryd.func5.symm.trans hfn)).symm
      exact ⟨by kernel_rfl, fun j t ht => by
        rw [Tryd.params5] at ht
        have hm : t ∈ [23] := by simpa using Array.mem_of_getElem? ht
        have hall : ([23].all fun u => !Tryd.prog.wantsStandIn u) = true := by kernel_rfl
        exact (show Tryd.prog.wantsStandIn t = false by simpa using List.all_eq_true.1 hall t hm)⟩)
    (by kernel_rfl)
#print axioms bagsSearch_card
end Go.Proofs.YtfgangkpebkicaaDoor
