/-
  Joined by a program out of: REmptyC, REmpty.
-/
import Derived.Test.YthjmncngegchjaaMgAJ
import Derived.Test.YthjmncngegchjaaMgAO

/-
  The closure of (*rows.record).empty.
-/
namespace Go.Proofs.Ythjmncngegchjaa
open Go.RowKit Go.Maps
set_option maxRecDepth 20000

theorem all_full {ss : List (Int × Int)} {a b : Nat} (hb : b ≤ 200) {r : Bool} (h : r = true ↔ ∃ k, k < b - a ∧ fullAt ss ((a + k : Nat) : Int) = false) :
    (!r) = (List.range 200).all fun (k : Nat) => !decide ((a : Int) ≤ (k : Int) ∧ (k : Int) < (b : Int)) || fullAt ss k := by
  rw [Bool.eq_iff_iff, Bool.not_eq_true', List.all_eq_true]
  constructor
  · intro hr k _
    rw [Bool.or_eq_true, Bool.not_eq_true', decide_eq_false_iff_not]
    by_cases hd : (a : Int) ≤ (k : Int) ∧ (k : Int) < (b : Int)
    · right
      rw [← Bool.not_eq_false]
      intro hf
      have : r = true := h.2 ⟨k - a, by omega, by rw [show a + (k - a) = k by omega]; exact hf⟩
      rw [this] at hr
      cases hr
    · exact .inl hd
  · intro hall
    rw [Bool.eq_false_iff]
    intro hr
    obtain ⟨k, h1, h2⟩ := h.1 hr
    have := hall (a + k) (List.mem_range.2 (by omega))
    rw [Bool.or_eq_true, Bool.not_eq_true', decide_eq_false_iff_not, h2] at this
    rcases this with this | this
    · exact this (by omega)
    · cases this
set_option maxHeartbeats 4000000 in
theorem rempty_cl {w : World} {F : Nat} {ss : List (Int × Int)} (h : Lies w F 84 (bitCs 200 fun i => fullAt ss (i : Int))) (k : Nat) (c : Cl) (hc : 0 ≤ c.frm ∧ c.frm < c.til ∧ c.til < 200) :
    Calls Try.prog 45 #[.int .i64 k, clQ c, .pointer (some ⟨F, 0, none⟩)] w fun e w' => e = .returned (.tuple #[.int .i64 (emptyF ss k c).1, .bool (emptyF ss k c).2]) ∧ Below w.heap.size w w' := by
  obtain ⟨fi, hfi⟩ : ∃ fi, fi = (c.res == -1 && (List.range 200).all fun (k : Nat) => !decide (c.frm ≤ (k : Int) ∧ (k : Int) < c.til) || fullAt ss k) := ⟨_, rfl⟩
  rw [show emptyF ss k c = (0, fi) by rw [hfi]; rfl]
  simp only
  have HFD := Lib.hid (rfound_any c)
  have hal : Below w.heap.size w (w.alloc (.cells #[.int .i64 c.who, .int .i64 c.thing, .int .i64 c.kind, .int .i64 c.arg, .int .i64 c.res, .int .i64 c.frm, .int .i64 c.til] 49)) := (Below.refl _ _).alloc (Nat.le_refl _) _
  have H0 := Lib.hid (And.intro hal (And.intro (Lies.below h hal h.lt) (Lies.new w 49 #[.int .i64 c.who, .int .i64 c.thing, .int .i64 c.kind, .int .i64 c.arg, .int .i64 c.res, .int .i64 c.frm, .int .i64 c.til])))
  obtain ⟨x0, x1, x2, x3, x4, x5, x6⟩ := c
  simp only [clV] at hc H0 HFD hfi
  obtain ⟨a, rfl⟩ : ∃ a : Nat, x5 = (a : Int) := ⟨x5.toNat, by omega⟩
  obtain ⟨b, rfl⟩ : ∃ b : Nat, x6 = (b : Int) := ⟨x6.toNat, by omega⟩
  have HFI := Lib.hid hfi
  clear h hal hfi
  go_enter Try.func45, Try.ntmps45
  go_upto_region 1 with fail
  change Code.wp _ _ _ _ (w.alloc (.cells #[.int .i64 x0, .int .i64 x1, .int .i64 x2, .int .i64 x3, .int .i64 x4, .int .i64 (a : Int), .int .i64 (b : Int)] 49))
  generalize w.alloc (.cells #[.int .i64 x0, .int .i64 x1, .int .i64 x2, .int .i64 x3, .int .i64 x4, .int .i64 (a : Int), .int .i64 (b : Int)] 49) = W at H0 ⊢
  have c0 := Lies.cell H0.out.2.2 0
  have c1 := Lies.cell H0.out.2.2 1
  have c2 := Lies.cell H0.out.2.2 2
  have c3 := Lies.cell H0.out.2.2 3
  have c4 := Lies.cell H0.out.2.2 4
  have c5 := Lies.cell H0.out.2.2 5
  have c6 := Lies.cell H0.out.2.2 6
  simp only [List.getElem?_toArray, List.getElem?_cons_zero, List.getElem?_cons_succ] at c0 c1 c2 c3 c4 c5 c6
  go_wp2_with fail
  refine ((HFD.out _).mono ?_)
  rintro e w1 ⟨rfl, hb1⟩
  have H1 := Lib.hid (And.intro (H0.out.1.trans (hb1.mono H0.out.1.size)) (And.intro (Lies.below H0.out.2.1 hb1 H0.out.2.1.lt) (Lies.below H0.out.2.2 hb1 H0.out.2.2.lt)))
  clear HFD H0 hb1 c0 c1 c2 c3 c4 c5 c6
  simp only
  by_cases h4 : x4 = -1
  · have hz : (x4 == -1) = true := by rw [beq_iff_eq]; exact h4
    rw [hz]
    have hfi := HFI.out
    rw [hz, Bool.true_and] at hfi
    have HFI2 := Lib.hid hfi
    have c5 := Lies.cell H1.out.2.2 5
    have c6 := Lies.cell H1.out.2.2 6
    simp only [List.getElem?_toArray, List.getElem?_cons_zero, List.getElem?_cons_succ] at c5 c6
    have HB := Lib.hid (bcontains_any (cap := 200 - a) H1.out.2.1 (a := a) (n := b - a) (by omega) (by omega) false)
    have hab : (a : Int) ≤ (b : Int) := by omega
    have hb2 : (b : Int) ≤ 200 := by omega
    have ha0 : (0 : Int) ≤ (a : Int) := by omega
    clear hz h4 hfi HFI
    go_wp2_with fail
    refine HB.out.mono ?_
    rintro e w2 ⟨r, rfl, hr, hb3⟩
    have hfi2 : fi = !r := by rw [HFI2.out, ← all_full (ss := ss) (a := a) (b := b) (by omega) hr]
    subst hfi2
    have HZ := Lib.hid (H1.out.1.trans (hb3.mono H1.out.1.size))
    clear HB HFI2 H1 hr hb3 c5 c6
    go_wp2_with fail
    exact bodyPost_ret (v := .tuple #[.int .i64 0, .bool (!r)]) (by simp [results, Try.results45, go_sem]) rfl ⟨rfl, HZ.out⟩
  · have hz : (x4 == -1) = false := by rw [beq_eq_false_iff_ne]; exact h4
    rw [hz]
    have hfi := HFI.out
    rw [hz, Bool.false_and] at hfi
    subst hfi
    have HB := Lib.hid H1.out.1
    clear HFI hz h4 H1
    go_wp2_with fail
    exact bodyPost_ret (v := .tuple #[.int .i64 0, .bool false]) (by simp [results, Try.results45, go_sem]) rfl ⟨rfl, HB.out⟩
end Go.Proofs.Ythjmncngegchjaa

/-
  Contract of (*rows.record).empty.
-/
namespace Go.Proofs.Ythjmncngegchjaa
open Go.RowKit Go.Maps
set_option maxRecDepth 20000

theorem fullAt_take {ss : List (Int × Int)} {k : Nat} {x : Int × Int} (h : ss[k]? = some x) (i : Int) : fullAt (ss.take (k + 1)) i = (fullAt (ss.take k) i || decide (x.1 ≤ i ∧ i ≤ x.2)) := by
  unfold fullAt
  rw [List.take_add_one, h, List.any_append]
  simp
/-- What the loops of empty keep. -/
structure EmR (w : World) (B Q : Nat) (A : Option Addr) (cap n : Nat) (cs : List Cl) (M1 M2 : Nat) (D : Nat) (V : Option Addr) (len capv : Nat) (ss : List (Int × Int)) (S : Nat → Bool) (W : World) : Prop where
  rec_ : OvS w B Q A cap n cs M1 M2 W
  own : SnOwn W D (.slice V len capv) ss
  res : Lies W w.heap.size 28 #[.int .i64 0, .int .i64 0, .int .i64 0]
  tab : Lies W (w.heap.size + 1) 84 (bitCs 200 S)
  sz : w.heap.size + 2 ≤ D
  q : Q < w.heap.size
section
variable {w : World} {B Q : Nat} {A : Option Addr} {cap n : Nat} {cs : List Cl} {M1 M2 : Nat} {D : Nat} {V : Option Addr} {len capv : Nat} {ss : List (Int × Int)} {S S' : Nat → Bool} {W w' : World}
theorem EmR.next (h : EmR w B Q A cap n cs M1 M2 D V len capv ss S W) (hb : Below W.heap.size W w') : EmR w B Q A cap n cs M1 M2 D V len capv ss S w' :=
  ⟨h.rec_.next hb, h.own.then_ hb, Lies.below h.res hb h.res.lt, Lies.below h.tab hb h.tab.lt, h.sz, h.q⟩
theorem EmR.congr (h : EmR w B Q A cap n cs M1 M2 D V len capv ss S W) (e : ∀ i, i < 200 → S i = S' i) : EmR w B Q A cap n cs M1 M2 D V len capv ss S' W := by
  refine ⟨h.rec_, h.own, h.res, Lies.cast h.tab ?_, h.sz, h.q⟩
  apply Array.ext_getElem?
  intro j
  by_cases hj : j < 200
  · rw [bitCs_get _ _ _ hj, bitCs_get _ _ _ hj, e j hj]
  · simp [bitCs, hj]
theorem EmR.set_ (h : EmR w B Q A cap n cs M1 M2 D V len capv ss S W) (i : Nat) (x : Bool) : EmR w B Q A cap n cs M1 M2 D V len capv ss (fun j => if j = i then x else S j) (W.setCell ⟨w.heap.size + 1, i, none⟩ (.bool x)) := by
  have hr := h.rec_.rec_
  have hs := hr.sz
  have hq := h.q
  have hb : Below (w.heap.size + 1) W (W.setCell ⟨w.heap.size + 1, i, none⟩ (.bool x)) := (Below.refl _ _).setCell (p := ⟨w.heap.size + 1, i, none⟩) (Nat.le_refl _) _
  obtain ⟨m1, a1, a2⟩ := hr.enq
  obtain ⟨m2, b1, b2⟩ := hr.deq
  refine ⟨⟨⟨Lies.below hr.rcd hb (by omega), hr.cls.below (hb.mono (by omega)), ⟨m1, a1, a2.belowB hb (by omega)⟩, ⟨m2, b1, b2.belowB hb (by omega)⟩, hs⟩, h.rec_.below.trans (hb.mono (by omega))⟩, ?_, Lies.below h.res hb (by omega), Lies.cast (Lies.set_ h.tab i (.bool x)) (bitCs_set 200 S i x), h.sz, hq⟩
  refine World.ownsRow.kept h.own (row := some (w.heap.size + 1)) ⟨rfl, rfl, rfl, by rw [World.size_setCell]; exact Nat.le_refl _, fun j _ hne => Below.heap_setCell W _ _ j (fun e => hne (by rw [e]))⟩ ?_
  cases hv : (Value.slice V len capv).ownBlock with
  | none => exact .inl rfl
  | some g =>
    right
    have h1 := (World.ownsRow.lt h.own g hv).1
    have h2 := h.sz
    intro e
    injection e with e
    omega
end
theorem stays_rng {cs : List Cl} (hf : ∀ c ∈ cs, 0 ≤ c.frm ∧ c.frm < 200 ∧ -1 ≤ c.til ∧ c.til < 200 ∧ (c.kind = 4 → c.frm < c.til)) : ∀ s ∈ staysL cs, 0 ≤ s.1 ∧ s.1 ≤ s.2 ∧ s.2 ≤ 199 := by
  intro s hs
  unfold staysL at hs
  obtain ⟨v, hv, he⟩ := List.mem_filterMap.1 hs
  obtain ⟨i, c, a1, a2, a3, a4⟩ := p_get (mem_vals0 hv)
  have h1 := hf c (List.mem_of_getElem? a1)
  unfold stayV at he
  generalize hz : (if (tAt cs v).isSome = true then (tC cs v).frm - 1 else 199) = z at he
  have hz2 : z ≤ 199 := by
    rw [← hz]
    split
    · rename_i h2
      obtain ⟨j, d, b1, b2, b3, b4, _⟩ := t_get h2
      have := hf d (List.mem_of_getElem? b1)
      rw [b4]
      omega
    · omega
  split at he
  · rename_i hc
    injection he with he
    subst he
    rw [a4] at hc ⊢
    simp only
    omega
  · cases he
theorem staysL_len (cs : List Cl) : (staysL cs).length ≤ 1001 := Nat.le_trans (List.length_filterMap_le _ _) (valsQ_len cs)
set_option maxHeartbeats 8000000 in
theorem rempty_any {w : World} {B Q : Nat} {A : Option Addr} {cap n : Nat} {cs : List Cl} {M1 M2 : Nat} (h : Rec w B Q 1000 A cap n cs M1 M2 (numF (pAt cs)) (numF (tAt cs))) (hn : n = cs.length) (hm : n ≤ 200) (hv : ∀ x, (pAt cs x).isSome = true → 0 ≤ x ∧ x ≤ 1000) (hf : ∀ c ∈ cs, 0 ≤ c.frm ∧ c.frm < 200 ∧ -1 ≤ c.til ∧ c.til < 200 ∧ (c.kind = 4 → c.frm < c.til)) :
    Calls Try.prog 25 #[.pointer (some ⟨Q, 0, none⟩)] w fun e w' => e = .returned (bzV (firstD 7 (emptyF (staysL cs)) 0 cs)) ∧ Below w.heap.size w w' := by
  obtain ⟨W, hW⟩ : ∃ W, W = (w.alloc (.cells #[.int .i64 0, .int .i64 0, .int .i64 0] 28)).alloc (.cells Try.zeroCells84 84) := ⟨_, rfl⟩
  have hb : Below w.heap.size w W := by rw [hW]; exact ((Below.refl _ _).alloc (Nat.le_refl _) _).alloc (by simp) _
  have hr : Lies W w.heap.size 28 #[.int .i64 0, .int .i64 0, .int .i64 0] := by rw [hW]; exact Lies.alloc (Lies.new _ _ _) _
  have ht : Lies W (w.heap.size + 1) 84 (bitCs 200 fun _ => false) := by
    have := Lies.new (w.alloc (.cells #[.int .i64 0, .int .i64 0, .int .i64 0] 28)) 84 Try.zeroCells84
    rw [World.size_alloc] at this
    rw [hW]
    exact Lies.cast this (by kernel_rfl)
  have HST := Lib.hid (rstays_any (h.next hb) hn hv (fun c hc => by have := hf c hc; omega))
  have H0 := Lib.hid (And.intro (show OvS w B Q A cap n cs M1 M2 W from ⟨h.next hb, hb⟩) (And.intro hr (And.intro ht h.rcd.lt)))
  have HWS := Lib.hid (show w.heap.size + 2 ≤ W.heap.size by rw [hW]; simp)
  have HW := Lib.hid hW
  have HN := Lib.hid (And.intro hn (And.intro hm hf))
  have HSR := Lib.hid (stays_rng hf)
  obtain ⟨R, hR⟩ : ∃ R, R = firstD 7 (emptyF (staysL cs)) 0 cs := ⟨_, rfl⟩
  rw [← hR]
  have HR := Lib.hid hR
  have HVL := Lib.hid (staysL_len cs)
  clear h hn hm hv hf hb hr ht hW hR
  go_enter Try.func25, Try.ntmps25
  go_upto_region 2 with fail
  change Code.wp _ _ _ _ ((w.alloc (.cells #[.int .i64 0, .int .i64 0, .int .i64 0] 28)).alloc (.cells Try.zeroCells84 84))
  rw [← HW.out]
  clear HW
  go_wp2_with fail
  refine HST.out.mono ?_
  rintro e w1 ⟨v, rfl, hks, hb1, D, hD, hown⟩
  obtain ⟨V, capv, rfl, -, hc9⟩ := hks.is
  unfold maxLen at hc9
  generalize hss : staysL cs = ss at hks hown HR HVL HSR ⊢
  obtain ⟨len, hlen⟩ : ∃ len, len = ss.length := ⟨_, rfl⟩
  rw [← hlen] at hks hown ⊢
  have hlen2 : len ≤ 1001 := by rw [hlen]; exact HVL.out
  have h0 : EmR w B Q A cap n cs M1 M2 D V len capv ss (fun _ => false) w1 := ⟨H0.out.1.next hb1, hown, Lies.below H0.out.2.1 hb1 H0.out.2.1.lt, Lies.below H0.out.2.2.1 hb1 H0.out.2.2.1.lt, Nat.le_trans HWS.out hD, H0.out.2.2.2⟩
  have HL := Lib.hid hlen
  clear HST H0 hks hb1 hlen hown hss hD
  go_wp2_with fail
  go_loopw [10] (fun i wr => ∃ k : Nat, k ≤ len ∧ i = .int .i64 k ∧ EmR w B Q A cap n cs M1 M2 D V len capv ss (fun i => fullAt (ss.take k) (i : Int)) wr) (fun i _ => len - (intOf i).toNat)
  case atStart => exact ⟨0, by omega, rfl, by rw [List.take_zero]; exact h0⟩
  case round =>
    clear h0
    obtain ⟨k, hk, rfl, hO⟩ := hrel
    by_cases hkn : k < len
    · obtain ⟨x, hx⟩ : ∃ x, ss[k]? = some x := ⟨_, List.getElem?_eq_getElem (by rw [← HL.out]; exact hkn)⟩
      have hxr := HSR.out x (List.mem_of_getElem? hx)
      have htk := fullAt_take hx
      obtain ⟨g, o, hA, -, d0, d1⟩ := sn_at hO.own.rd hx
      subst hA
      obtain ⟨x1, x2⟩ := x
      simp only at d0 d1 hxr htk
      obtain ⟨f, rfl⟩ : ∃ f : Nat, x1 = (f : Int) := ⟨x1.toNat, by omega⟩
      obtain ⟨t, rfl⟩ : ∃ t : Nat, x2 = (t : Int) := ⟨x2.toNat, by omega⟩
      have i1 : (0 : Int) ≤ (k : Int) := by omega
      have i2 : (k : Int) < (len : Int) := by omega
      have ht : t ≤ 199 := by omega
      have hft : f ≤ t := by omega
      have hal : Below wr.heap.size wr (wr.alloc (.cells #[.int .i64 (f : Int), .int .i64 (t : Int)] 35)) := (Below.refl _ _).alloc (Nat.le_refl _) _
      have HO := Lib.hid (And.intro (hO.next hal) (And.intro (Lies.new wr 35 #[.int .i64 (f : Int), .int .i64 (t : Int)]) (And.intro hO.tab.lt htk)))
      clear hO hx hxr hal htk
      go_upto_region 5 with fail
      clear d0 d1
      change Code.wp _ _ _ _ (wr.alloc (.cells #[.int .i64 (f : Int), .int .i64 (t : Int)] 35))
      generalize wr.alloc (.cells #[.int .i64 (f : Int), .int .i64 (t : Int)] 35) = W2 at HO ⊢
      generalize wr.heap.size = Y at HO ⊢
      have y0 := Lies.cell HO.out.2.1 0
      have y1 := Lies.cell HO.out.2.1 1
      simp only [List.getElem?_toArray, List.getElem?_cons_zero, List.getElem?_cons_succ] at y0 y1
      have h0 : EmR w B Q A cap n cs M1 M2 D (some ⟨g, o, none⟩) len capv ss (fun i => fullAt (ss.take k) (i : Int) || decide (f ≤ i ∧ i < f)) W2 := HO.out.1.congr fun i _ => by
        rw [decide_eq_false (by omega), Bool.or_false]
      have h1 := And.intro h0 HO.out.2.1
      have HTK := Lib.hid HO.out.2.2
      clear HO h0
      go_wp2_with fail
      clear y0 y1
      go_loopw [6] (fun i wr => ∃ j : Nat, f ≤ j ∧ j ≤ t + 1 ∧ i = .int .i64 j ∧ EmR w B Q A cap n cs M1 M2 D (some ⟨g, o, none⟩) len capv ss (fun i => fullAt (ss.take k) (i : Int) || decide (f ≤ i ∧ i < j)) wr ∧ Lies wr Y 35 #[.int .i64 (f : Int), .int .i64 (t : Int)]) (fun i _ => t + 1 - (intOf i).toNat)
      case atStart => exact ⟨f, by omega, by omega, rfl, h1⟩
      case round =>
        clear h1
        obtain ⟨j, hj0, hj, rfl, hO, hY⟩ := hrel
        by_cases hjn : j ≤ t
        · have j1 : (0 : Int) ≤ (j : Int) := by omega
          have j2 : (j : Int) ≤ (t : Int) := by omega
          have j3 : (j : Int) < 200 := by omega
          have y1 := Lies.cell hY 1
          simp only [List.getElem?_toArray, List.getElem?_cons_zero, List.getElem?_cons_succ] at y1
          have b0 := Lies.cell hO.tab j
          rw [bitCs_get _ _ _ (by omega)] at b0
          have bf : ∀ i, wr.frozen? ⟨w.heap.size + 1, i, none⟩ = false := fun i => Lies.frozen hO.tab i
          have hne : Y ≠ w.heap.size + 1 := by have := HTK.out.1; omega
          have hset := (hO.set_ j true).congr (S' := fun i => fullAt (ss.take k) (i : Int) || decide (f ≤ i ∧ i < j + 1)) fun i _ => by
            by_cases e : i = j
            · subst e
              rw [if_pos rfl, decide_eq_true (by omega), Bool.or_true]
            · rw [if_neg e]
              congr 1
              rw [decide_eq_decide]
              omega
          have hY2 : Lies (wr.setCell ⟨w.heap.size + 1, j, none⟩ (.bool true)) Y 35 #[.int .i64 (f : Int), .int .i64 (t : Int)] := Lies.far hY (p := ⟨w.heap.size + 1, j, none⟩) (by simp; omega) _
          have HZ := Lib.hid (And.intro hset hY2)
          generalize (fullAt (ss.take k) (j : Int) || decide (f ≤ j ∧ j < j)) = bb at b0
          clear hO hY hset hY2 hne
          go_wp2_with fail
          go_roundw
          case rel => exact ⟨j + 1, by omega, by omega, by go_num, HZ.out⟩
          case measure => simp [intOf]; omega
        · obtain rfl : j = t + 1 := by omega
          have y1 := Lies.cell hY 1
          simp only [List.getElem?_toArray, List.getElem?_cons_zero, List.getElem?_cons_succ] at y1
          have hdone := hO.congr (S' := fun i => fullAt (ss.take (k + 1)) (i : Int)) fun i _ => by
            rw [HTK.out.2]
            congr 1
            rw [decide_eq_decide]
            omega
          have HZ := Lib.hid hdone
          have j2 : ¬ ((t : Int) + 1 ≤ (t : Int)) := by omega
          clear hO hY hdone
          go_wp2_with fail
          go_roundw
          case rel => exact ⟨k + 1, by omega, by go_num, HZ.out⟩
          case measure => simp [intOf]; omega
    · obtain rfl : len = k := by omega
      have hall : EmR w B Q A cap n cs M1 M2 D V len capv ss (fun i => fullAt ss (i : Int)) wr := hO.congr fun i _ => by rw [HL.out, List.take_length]
      have HF := Lib.hid (rfirstM_any (P := w.heap.size + 1) (f := emptyF ss) hall.rec_.rec_ HN.out.1 HN.out.2.1 7 (fun k c W' hk h4 hW' => rempty_cl (Lies.below hall.tab hW' hall.tab.lt) k c (by have := HN.out.2.2 c (List.mem_of_getElem? hk); have := this.2.2.2.2 h4; omega)))
      rw [← HR.out] at HF
      obtain ⟨k0, k1, k2⟩ := R
      have HO := Lib.hid hall
      clear hO hall
      go_wp2_with fail
      refine HF.out.mono ?_
      rintro e w5 ⟨rfl, hb5⟩
      have hO5 := HO.out.next hb5
      have r0 := Lies.cell hO5.res 0
      have r1 := Lies.cell hO5.res 1
      have r2 := Lies.cell hO5.res 2
      have rf : ∀ i, w5.frozen? ⟨w.heap.size, i, none⟩ = false := fun i => Lies.frozen hO5.res i
      simp only [List.getElem?_toArray, List.getElem?_cons_zero, List.getElem?_cons_succ] at r0 r1 r2
      have HZ := Lib.hid hO5
      clear hO5 hb5 HF HO
      go_wp2_with fail
      clear r0 r1 r2 rf
      have hl := fill3_lies (a := .int .i64 k0) (b := .int .i64 k1) (c := .int .i64 k2) HZ.out.res
      have hb := fill3_below (a := .int .i64 k0) (b := .int .i64 k1) (c := .int .i64 k2) HZ.out.rec_.below (g := w.heap.size) (Nat.le_refl _)
      change bodyPost _ _ _ _ _ (fill3 w5 w.heap.size (.int .i64 k0) (.int .i64 k1) (.int .i64 k2))
      generalize fill3 w5 w.heap.size (.int .i64 k0) (.int .i64 k1) (.int .i64 k2) = wz at hl hb ⊢
      have q0 := Lies.cell hl 0
      have q1 := Lies.cell hl 1
      have q2 := Lies.cell hl 2
      simp only [List.getElem?_toArray, List.getElem?_cons_zero, List.getElem?_cons_succ] at q0 q1 q2
      exact bodyPost_ret (v := bzV ⟨k0, k1, k2⟩) (by simp [results, Try.results25, go_sem, q0, q1, q2]) rfl ⟨rfl, hb⟩
end Go.Proofs.Ythjmncngegchjaa
