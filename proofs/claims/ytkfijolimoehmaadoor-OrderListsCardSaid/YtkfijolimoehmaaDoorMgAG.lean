/-
  Joined by a program out of: ColPure, Reverse, Count, BitsPure.
-/
import Derived.Test.YtkfijolimoehmaaDoorMgAF
import Derived.Test.YtkfijolimoehmaaDoorMgAB
import Derived.Test.YtkfijolimoehmaaDoorMgAC
import Derived.WalkKit

/-
  Plain: the least numbers that begin so, item by item, are those that place finds.
-/
namespace Go.Proofs.YtkfijolimoehmaaDoor
open Go.RowKit
set_option maxRecDepth 20000

/-- The least number that none has yet. -/
def freshL : List Nat → Nat → Nat
  | [], a => a
  | x :: r, a => freshL r (max a (x + 1))
/-- May the item behind l have number k? -/
def fitC (rel : Nat → Nat) (item k : Nat) (l : List Nat) : Bool := (List.range l.length).all fun j => l.getD j 0 != k || (rel item).testBit j
/-- The reference's search: numbers from k on, m of them to try. -/
def tryC (go : List Nat → Option (List Nat)) (rel : Nat → Nat) (l : List Nat) : Nat → Nat → Option (List Nat)
  | 0, _ => none
  | m + 1, k => if fitC rel l.length k l = true then (match go (l ++ [k]) with
    | some o => some o
    | none => tryC go rel l m (k + 1)) else tryC go rel l m (k + 1)
/-- Coloured, with t items still to come. -/
def colC (rel : Nat → Nat) (K : Nat) : Nat → List Nat → Option (List Nat)
  | 0, l => some l
  | t + 1, l => tryC (colC rel K t) rel l (min K (freshL l 0 + 1)) 0
theorem fresh_ge : ∀ (l : List Nat) (a : Nat), a ≤ freshL l a
  | [], _ => Nat.le_refl _
  | x :: r, a => by rw [freshL]; have := fresh_ge r (max a (x + 1)); omega
theorem fresh_snoc : ∀ (l : List Nat) (a k : Nat), freshL (l ++ [k]) a = max (freshL l a) (k + 1)
  | [], _, _ => rfl
  | x :: r, a, k => by rw [List.cons_append, freshL, freshL, fresh_snoc r]
/-- The chains, the numbers that place holds are those of the list. -/
structure CSt (K : Nat) (l : List Nat) (ch : Nat → Nat) (nu : Nat → Int) : Prop where
  nums : ∀ (j k : Nat), l[j]? = some k → nu j = (k : Int)
  bits : ∀ k j, (ch k).testBit j = true ↔ l[j]? = some k
  low : ∀ k, k < freshL l 0 → ch k ≠ 0
  high : ∀ k, freshL l 0 ≤ k → ch k = 0
  lt : ∀ k, ch k < 65536
  le : freshL l 0 ≤ K
theorem fit_same {rel : Nat → Nat} {l : List Nat} {k x item : Nat} (hx : x < 65536) (hr : rel item < 65536) (hb : ∀ j, x.testBit j = true ↔ l[j]? = some k) : (x &&& (65535 - rel item) = 0) ↔ fitC rel item k l = true := by
  unfold fitC
  rw [List.all_eq_true]
  constructor
  · intro h j hj
    rw [List.mem_range] at hj
    rw [Bool.or_eq_true, bne_iff_ne]
    by_cases e : l.getD j 0 = k
    · right
      have hxj : x.testBit j = true := (hb j).2 (by
        rw [List.getElem?_eq_getElem hj]
        rw [List.getD_eq_getElem?_getD, List.getElem?_eq_getElem hj] at e
        exact congrArg some e)
      have h1 := congrArg (fun y => y.testBit j) h
      simp only [Nat.testBit_and, hxj, Bool.true_and, not_bit _ _ hr, Nat.zero_testBit] at h1
      have hj16 : j < 16 := by
        apply Classical.byContradiction
        intro hn
        rw [Nat.testBit_lt_two_pow (Nat.lt_of_lt_of_le hx (Nat.le_trans (by decide : 65536 ≤ 2 ^ 16) (Nat.pow_le_pow_right (by omega) (by omega))))] at hxj
        cases hxj
      rw [decide_eq_true hj16, Bool.true_and] at h1
      simpa using h1
    · exact .inl e
  · intro h
    apply Nat.eq_of_testBit_eq
    intro j
    rw [Nat.testBit_and, not_bit _ _ hr, Nat.zero_testBit]
    cases hxj : x.testBit j
    · rfl
    · have h1 := (hb j).1 hxj
      have hj := (List.getElem?_eq_some_iff.1 h1).1
      have h2 := h j (List.mem_range.2 hj)
      rw [List.getD_eq_getElem?_getD, h1] at h2
      rw [Bool.or_eq_true, bne_iff_ne] at h2
      rcases h2 with h2 | h2
      · exact absurd rfl h2
      · rw [h2]; simp
section
variable {rel : Nat → Nat} {K n : Nat}
theorem CSt.put {l : List Nat} {ch : Nat → Nat} {nu : Nat → Int} (h : CSt K l ch nu) {k : Nat} (hk : k < K) (hkf : k ≤ freshL l 0) (hl : l.length < 12) : CSt K (l ++ [k]) (updN ch k (ch k ||| 2 ^ l.length)) (upd nu l.length k) := by
  have hsn := fresh_snoc l 0 k
  have hget : ∀ j : Nat, (l ++ [k])[j]? = if j < l.length then l[j]? else if j = l.length then some k else none := fun j => by
    by_cases h1 : j < l.length
    · rw [if_pos h1, List.getElem?_append_left h1]
    · rw [if_neg h1]
      by_cases h2 : j = l.length
      · rw [if_pos h2, h2, List.getElem?_append_right (Nat.le_refl _)]; simp
      · rw [if_neg h2, List.getElem?_eq_none]; simp; omega
  refine ⟨fun j x hx => ?_, fun x j => ?_, fun x hx => ?_, fun x hx => ?_, fun x => ?_, by rw [hsn]; have := h.le; omega⟩
  · rw [hget] at hx
    unfold upd
    by_cases h1 : j < l.length
    · rw [if_pos h1] at hx
      rw [if_neg (by omega)]
      exact h.nums j x hx
    · rw [if_neg h1] at hx
      by_cases h2 : j = l.length
      · rw [if_pos h2] at hx ⊢
        injection hx with hx
        rw [hx]
      · rw [if_neg h2] at hx; cases hx
  · rw [hget]
    unfold updN
    have hb := h.bits x j
    by_cases hxk : x = k
    · subst hxk
      rw [if_pos rfl, Nat.testBit_or, Nat.testBit_two_pow, Bool.or_eq_true, decide_eq_true_iff, hb]
      by_cases h1 : j < l.length
      · rw [if_pos h1]
        exact ⟨fun h => h.elim (fun h => h) (fun h => by omega), fun h => .inl h⟩
      · rw [if_neg h1]
        by_cases h2 : j = l.length
        · rw [if_pos h2]; exact ⟨fun _ => rfl, fun _ => .inr h2.symm⟩
        · rw [if_neg h2, List.getElem?_eq_none (by omega)]
          exact ⟨fun h => h.elim (fun h => h) (fun h => by omega), fun h => by cases h⟩
    · rw [if_neg hxk, hb]
      by_cases h1 : j < l.length
      · rw [if_pos h1]
      · rw [if_neg h1, List.getElem?_eq_none (by omega)]
        by_cases h2 : j = l.length
        · rw [if_pos h2]
          exact ⟨fun h => (by cases h), fun h => (by injection h with h; exact absurd h.symm hxk)⟩
        · rw [if_neg h2]
  · rw [hsn] at hx
    unfold updN
    by_cases hxk : x = k
    · rw [if_pos hxk]
      intro h0
      have h1 := congrArg (fun y => y.testBit l.length) h0
      simp only [Nat.testBit_or, Nat.testBit_two_pow, decide_true, Bool.or_true, Nat.zero_testBit] at h1
      cases h1
    · rw [if_neg hxk]
      exact h.low x (by omega)
  · rw [hsn] at hx
    unfold updN
    rw [if_neg (by omega)]
    exact h.high x (by omega)
  · unfold updN
    split
    · exact Nat.or_lt_two_pow (n := 16) (h.lt k) (Nat.lt_of_lt_of_le (Nat.pow_lt_pow_right (by omega) hl) (by decide))
    · exact h.lt x
/-- Two searches that come to the same. -/
def SameC (l : List Nat) (n : Nat) (ch : Nat → Nat) (r : PRes) (o : Option (List Nat)) : Prop :=
  (r.ok = true → ∃ l', o = some l' ∧ l'.length = n ∧ ∀ (j k : Nat), l'[j]? = some k → r.nu j = (k : Int)) ∧
  (r.ok = false → o = none ∧ r.ch = ch ∧ ∀ (j k : Nat), l[j]? = some k → r.nu j = (k : Int))
theorem try_same (hr : ∀ i, rel i < 65536) (hn : n ≤ 12) {l : List Nat} (hl : l.length < n) {go : (Nat → Nat) → (Nat → Int) → PRes} {goC : List Nat → Option (List Nat)}
    (hgo : ∀ k, k < K → k ≤ freshL l 0 → ∀ ch nu, CSt K (l ++ [k]) ch nu → SameC (l ++ [k]) n ch (go ch nu) (goC (l ++ [k]))) :
    ∀ m k ch nu, m + k = K → k ≤ freshL l 0 → CSt K l ch nu → SameC l n ch (tryK go rel l.length m k ch nu) (tryC goC rel l (min K (freshL l 0 + 1) - k) k)
  | 0, k, ch, nu, hmk, hkf, hI => by
    rw [show min K (freshL l 0 + 1) - k = 0 by omega, tryK, tryC]
    exact ⟨fun h => (by cases h), fun _ => ⟨rfl, rfl, hI.nums⟩⟩
  | m + 1, k, ch, nu, hmk, hkf, hI => by
    have ih := try_same hr hn hl hgo m (k + 1)
    rw [show min K (freshL l 0 + 1) - k = (min K (freshL l 0 + 1) - (k + 1)) + 1 by omega, tryK, tryC]
    have hfs := fit_same (l := l) (k := k) (item := l.length) (hI.lt k) (hr l.length) (hI.bits k)
    -- what follows if number k does not serve
    have next : ∀ nu', CSt K l ch nu' → ch k ≠ 0 → SameC l n ch (tryK go rel l.length m (k + 1) ch nu') (tryC goC rel l (min K (freshL l 0 + 1) - (k + 1)) (k + 1)) := fun nu' hI' hne => by
      refine ih ch nu' (by omega) ?_ hI'
      apply Classical.byContradiction
      intro hh
      exact hne (hI.high k (by omega))
    by_cases hfit : ch k &&& (65535 - rel l.length) = 0
    · rw [if_pos hfit, if_pos (hfs.1 hfit)]
      have hs := hgo k (by omega) hkf _ _ (hI.put (by omega) hkf (by omega))
      generalize go (updN ch k (ch k ||| 2 ^ l.length)) (upd nu l.length k) = r at hs ⊢
      by_cases hok : r.ok = true
      · rw [if_pos hok]
        obtain ⟨l', h1, h2, h3⟩ := hs.1 hok
        rw [h1]
        exact ⟨fun _ => ⟨l', rfl, h2, h3⟩, fun h => (by cases h)⟩
      · rw [if_neg hok]
        have hok' : r.ok = false := by simpa using hok
        obtain ⟨h1, h2, h3⟩ := hs.2 hok'
        rw [h1]
        have hback : updN r.ch k (ch k) = ch := by
          rw [h2]
          funext j
          unfold updN
          by_cases e : j = k
          · rw [if_pos e, e]
          · rw [if_neg e, if_neg e]
        have hnu : ∀ (j x : Nat), l[j]? = some x → r.nu j = (x : Int) := fun j x hx => h3 j x (by rw [List.getElem?_append_left (List.getElem?_eq_some_iff.1 hx).1]; exact hx)
        rw [hback]
        by_cases hz : ch k = 0
        · rw [if_pos hz]
          have hkk : k = freshL l 0 := by
            apply Classical.byContradiction
            intro hne
            exact hI.low k (by omega) hz
          rw [show min K (freshL l 0 + 1) - (k + 1) = 0 by omega]
          exact ⟨fun h => (by cases h), fun _ => ⟨rfl, rfl, hnu⟩⟩
        · rw [if_neg hz]
          exact next _ ⟨hnu, hI.bits, hI.low, hI.high, hI.lt, hI.le⟩ hz
    · rw [if_neg hfit, if_neg (fun h => hfit (hfs.2 h))]
      refine next nu hI (fun h0 => hfit ?_)
      rw [h0, Nat.zero_and]
theorem col_same (hr : ∀ i, rel i < 65536) (hn : n ≤ 12) : ∀ t, t ≤ n → ∀ l ch nu, l.length = n - t → CSt K l ch nu → SameC l n ch (placeM rel K n t ch nu) (colC rel K t l)
  | 0, _, l, ch, nu, hl, hI => by
    rw [placeM, colC]
    exact ⟨fun _ => ⟨l, rfl, by omega, hI.nums⟩, fun h => (by cases h)⟩
  | t + 1, ht, l, ch, nu, hl, hI => by
    rw [placeM, colC, ← hl]
    have := try_same (rel := rel) (K := K) (n := n) hr hn (l := l) (by omega) (go := placeM rel K n t) (goC := colC rel K t) (fun k hk hkf ch' nu' hI' => col_same hr hn t (by omega) (l ++ [k]) ch' nu' (by rw [List.length_append]; simp; omega) hI') K 0 ch nu (by omega) (Nat.zero_le _) hI
    exact this
end
end Go.Proofs.YtkfijolimoehmaaDoor

/-
  Contract of order.reverse.
-/
namespace Go.Proofs.YtkfijolimoehmaaDoor
open Go.RowKit
set_option maxRecDepth 20000

set_option maxHeartbeats 1000000 in
theorem reverse_any (n : Nat) (a : Nat → Nat) (w : World) (hn : n ≤ 12) (ha : ∀ i, i < 12 → a i < 65536) :
    Calls Tryd.prog 24 #[relV n a] w fun e w' => e = .returned (relV n (rev n a)) ∧ Below w.heap.size w w' := by
  have HC : CRel w (w.heap.size + 1 + 1) n a (fun _ => 0) (((w.alloc (.cells (relCs n a) 25)).alloc (.cells (relCs 0 fun _ => 0) 25)).alloc (.cells (relCs n fun _ => 0) 25)) := by
    have h1 := Lies.new w 25 (relCs n a)
    have h2 := Lies.new (w.alloc (.cells (relCs n a) 25)) 25 (relCs 0 fun _ => 0)
    have h3 := Lies.new ((w.alloc (.cells (relCs n a) 25)).alloc (.cells (relCs 0 fun _ => 0) 25)) 25 (relCs n fun _ => 0)
    rw [World.size_alloc] at h2
    rw [World.size_alloc, World.size_alloc] at h3
    exact ⟨(((Below.refl _ _).alloc (Nat.le_refl _) _).alloc (by simp) _).alloc (by simp; omega) _, (h1.alloc _).alloc _, h2.alloc _, h3, by omega⟩
  go_enter Tryd.func24, Tryd.ntmps24
  go_wp2_with fail
  change Code.wp _ _ _ _ (((w.alloc (.cells (relCs n a) 25)).alloc (.cells (relCs 0 fun _ => 0) 25)).alloc (.cells (relCs n fun _ => 0) 25))
  generalize ((w.alloc (.cells (relCs n a) 25)).alloc (.cells (relCs 0 fun _ => 0) 25)).alloc (.cells (relCs n fun _ => 0) 25) = W at HC ⊢
  have hfar := HC.far
  generalize w.heap.size + 1 + 1 = G at HC hfar ⊢
  go_loopw [11] (fun i wr => ∃ k : Nat, k ≤ n ∧ i = .int .i64 k ∧ CRel w G n a (revs n a k) wr) (fun i _ => n - (intOf i).toNat)
  case atStart => exact ⟨0, by omega, rfl, HC⟩
  case round =>
    clear HC
    obtain ⟨k, hk, rfl, hC⟩ := hrel
    have hs := hC.arg.size
    by_cases hkn : k < n
    · go_wp2_with fail
      obtain ⟨wo, rfl⟩ : ∃ wo : World, wo = wr := ⟨_, rfl⟩
      clear hs
      go_loopw [16] (fun i wr => ∃ m : Nat, m ≤ n ∧ i = .int .i64 m ∧ CRel w G n a (stepR m a k (revs n a k)) wr) (fun i _ => n - (intOf i).toNat)
      case atStart => exact ⟨0, by omega, rfl, by rw [stepR_zero]; exact hC⟩
      case round =>
        clear hC
        obtain ⟨m, hm, rfl, hC⟩ := hrel
        by_cases hmn : m < n
        · have hm12 : m < 12 := by omega
          have hk12 : k < 12 := by omega
          have hak := ha k hk12
          have hlm : revs n a k m < 65536 := revs_lt n a 16 m k (by omega)
          have ck := hC.arg.row' hk12
          have cm := hC.clo.row' hm12
          have fm := hC.clo.free (1 + m)
          rw [stepR_at] at cm
          have ho := or_pow (revs n a k m) k hlm (by omega)
          have hp := pow_u16 k (by omega)
          have hs := stepR_succ m a k (revs n a k)
          cases hb : (a k).testBit m
          · rw [hb] at hs
            have HS := Lib.hid hs
            have Hb := Lib.hid hb
            clear hs hb
            go_wp2_with (go_at_call 22; refine (has_no _ m _ hak (by omega) Hb.out).mono ?_; rintro e w' ⟨rfl, rfl⟩)
            go_roundw
            case rel => exact ⟨m + 1, by omega, by go_num, hC.congr (fun i hi => by rw [HS.out]; split <;> simp_all [stepR_at])⟩
            case measure => simp [intOf]; omega
          · rw [hb] at hs
            have HS := Lib.hid hs
            have Hb := Lib.hid hb
            clear hs hb
            go_wp2_with (go_at_call 22; refine (has_yes _ m _ hak (by omega) Hb.out).mono ?_; rintro e w' ⟨rfl, rfl⟩)
            go_region
            go_wp2
            go_roundw
            case rel => exact ⟨m + 1, by omega, by go_num, (CRel.drew (hC.set_ hm12 _)).congr (fun i hi => by rw [HS.out]; split <;> simp_all)⟩
            case measure => simp [intOf]; omega
        · have hmn' : m = n := by omega
          subst hmn'
          go_wp2_with fail
          go_roundw
          case rel => exact ⟨k + 1, by omega, by go_num, hC⟩
          case measure => simp [intOf]; omega
    · have hkn' : k = n := by omega
      subst hkn'
      have hr := hC.res.size
      obtain ⟨r0, r1, r2, r3, r4, r5, r6, r7, r8, r9, r10, r11⟩ := hC.res.rows
      have hc := hC.clo.size
      obtain ⟨c0, c1, c2, c3, c4, c5, c6, c7, c8, c9, c10, c11⟩ := hC.clo.rows
      have hf := hC.res.free
      go_wp2_with fail
      clear hr r0 r1 r2 r3 r4 r5 r6 r7 r8 r9 r10 r11 hs hc c0 c1 c2 c3 c4 c5 c6 c7 c8 c9 c10 c11 hf
      refine post_fill (W := wr) (g := w.heap.size + 1) k (revs k a k) hC.res hC.below (by omega) ?_
      intro wz hz hbz
      have hs := hz.size
      obtain ⟨c0, c1, c2, c3, c4, c5, c6, c7, c8, c9, c10, c11⟩ := hz.rows
      exact bodyPost_ret (v := relV k (revs k a k))
        (by simp [results, Tryd.results24, go_sem, hs, c0, c1, c2, c3, c4, c5, c6, c7, c8, c9, c10, c11]) rfl ⟨rfl, hbz⟩
end Go.Proofs.YtkfijolimoehmaaDoor

/-
  Contract of order.Count.
-/
namespace Go.Proofs.YtkfijolimoehmaaDoor
open Go.RowKit
set_option maxRecDepth 20000

/-- The number that Count answers, of the closure c. -/
def cntC (n : Nat) (c : Nat → Nat) : Int := ctab (rev n c) n (2 ^ n) (2 ^ n - 1)

theorem clo_lt {n : Nat} {a : Nat → Nat} (h : Good n a) : ∀ i, i < 12 → clo n a i < 65536 := warsh_lt (B := 16) h.lt n h.le
theorem rev_lt {n : Nat} (h : n ≤ 12) (c : Nat → Nat) : ∀ i, rev n c i < 65536 := fun i => revs_lt n c 16 i n (by omega)

theorem wraps_i64 (n : Int) (h₀ : 0 ≤ n) (h₁ : n < 2 ^ 62) : IntKind.i64.wrap n = n := by rw [IntKind.wrap_i64]; omega
theorem pow12 {n : Nat} (h : n ≤ 12) : 2 ^ n ≤ 4096 := Nat.le_trans (Nat.pow_le_pow_right (by omega) h) (by decide)
theorem two_pow_cast (n : Nat) (h : n ≤ 12) : wrap64 (2 ^ n) = ((2 ^ n : Nat) : Int) := by
  rw [show ((2 : Int) ^ n) = ((2 ^ n : Nat) : Int) from by simp]
  have h2 := pow12 h
  generalize 2 ^ n = p at h2 ⊢
  exact IntWalk.wrap64_in _ ⟨by omega, by omega⟩
theorem or_i64 (d m : Nat) (hd : d < 4096) (hm : m < 12) : bits BinOp.or IntKind.i64 (d : Int) (wrap64 (2 ^ m)) = ((d ||| 2 ^ m : Nat) : Int) := by
  rw [two_pow_cast m (by omega)]
  have h2 : 2 ^ m ≤ 4096 := pow12 (by omega)
  exact (bits_nat .i64 62 (by decide) wraps_i64 d (2 ^ m) (by omega) (by omega)).2

structure NRel (w : World) (B G n N : Nat) (a b : Nat → Nat) (f : Nat → Int) (wr : World) : Prop where
  below : Below w.heap.size w wr
  arg : RelB wr w.heap.size n a
  bef : RelB wr B n b
  tab : ITab wr G N f
  fb : w.heap.size < B
  fg : B < G
  sz : G < wr.heap.size

theorem NRel.drew {w wr : World} {B G n N : Nat} {a b : Nat → Nat} {f : Nat → Int} (h : NRel w B G n N a b f wr) : NRel w B G n N a b f wr.drew :=
  ⟨h.below.drew, h.arg, h.bef, h.tab, h.fb, h.fg, h.sz⟩
theorem NRel.then_ {w wr w' : World} {B G n N : Nat} {a b : Nat → Nat} {f : Nat → Int} (h : NRel w B G n N a b f wr) (hb : Below wr.heap.size wr w') : NRel w B G n N a b f w' := by
  have h1 := h.fb; have h2 := h.fg; have h3 := h.sz; have h4 := h.below.size
  exact ⟨h.below.trans (hb.mono h4), Lies.below h.arg hb (by omega), Lies.below h.bef hb (by omega), Lies.below h.tab hb h3, h1, h2, Nat.lt_of_lt_of_le h3 hb.size⟩
theorem NRel.set_ {w wr : World} {B G n N : Nat} {a b : Nat → Nat} {f : Nat → Int} (h : NRel w B G n N a b f wr) (i : Nat) (x : Int) :
    NRel w B G n N a b (upd f i x) (wr.setCell ⟨G, i, none⟩ (.int .i64 x)) := by
  have h1 := h.fb; have h2 := h.fg
  exact ⟨h.below.setCell (by show w.heap.size ≤ G; omega) _, Lies.far h.arg (by show w.heap.size ≠ G; omega) _, Lies.far h.bef (by show B ≠ G; omega) _, h.tab.set_ i x, h1, h2, by simpa [World.setCell] using h.sz⟩
theorem NRel.congr {w wr : World} {B G n N : Nat} {a b : Nat → Nat} {f f' : Nat → Int} (h : NRel w B G n N a b f wr) (e : f = f') : NRel w B G n N a b f' wr := e ▸ h

set_option maxHeartbeats 1000000 in
theorem count_no (n : Nat) (a : Nat → Nat) (w : World) (h : Good n a) (hy : cyc (clo n a) n = false) :
    Calls Tryd.prog 7 #[relV n a] w fun e w' => e = .returned (.tuple #[.int .i64 (cntC n (clo n a)), .int .i64 0]) ∧ Below w.heap.size w w' := by
  have hcl := clo_lt h
  have hle := h.le
  obtain ⟨N, hN⟩ : ∃ N, N = 2 ^ n := ⟨_, rfl⟩
  have hN1 : 1 ≤ N := by rw [hN]; exact Nat.one_le_two_pow
  have hN2 : N ≤ 4096 := by rw [hN]; exact pow12 hle
  have hmk := fun W : World => made_ints N (wrap64 (2 ^ n)) (by rw [two_pow_cast n hle, hN]) (by omega) W
  have HN := Lib.hid hN
  clear hN
  go_enter Tryd.func7, Tryd.ntmps7
  go_wp2_with fail
  refine (acyclic_no n a _ h hy).mono ?_
  rintro e w1 ⟨rfl, hb1⟩
  have hz1 : w.heap.size + 1 ≤ w1.heap.size := by have := hb1.size; simpa using this
  have hA1 : RelB w1 w.heap.size n a := Lies.below (Lies.new w _ _) hb1 (by rw [World.size_alloc]; omega)
  have hw1 : Below w.heap.size w w1 := ((Below.refl _ _).alloc (Nat.le_refl _) _).trans (hb1.mono (by simp))
  have HH := Lib.hid (And.intro hA1 (And.intro hw1 hz1))
  clear hb1 hA1 hw1 hz1
  go_wp2_with fail
  refine (reverse_any n (clo n a) _ hle hcl).mono ?_
  rintro e w2 ⟨rfl, hb2⟩
  obtain ⟨hA1, hw1, hz1⟩ := HH.out
  have hz2 : w1.heap.size + 1 ≤ w2.heap.size := by have := hb2.size; simpa using this
  have hA2 : RelB w2 w.heap.size n a := Lies.below (Lies.alloc hA1 _) hb2 (by simp; omega)
  have hw2 : Below w.heap.size w w2 := (hw1.alloc (by omega) _).trans (hb2.mono (by simp; omega))
  have hs := hA2.size
  have hlt : w.heap.size < w2.heap.size := by omega
  have HH2 := Lib.hid (And.intro hA2 hw2)
  clear hb2 hA1 hw1 hz1 HH hA2 hw2 hz2
  have t0 := tabCs_get N (fun _ => 0) 0 (by omega)
  go_wp2_with fail
  obtain ⟨hA2, hw2⟩ := HH2.out
  change Code.wp _ _ _ _ ((w2.alloc (.cells (relCs n (rev n (clo n a))) 25)).alloc (.cells ((tabCs N fun _ => 0).setIfInBounds 0 (.int .i64 1)) 3))
  have HN0 : NRel w w2.heap.size (w2.heap.size + 1) n N a (rev n (clo n a)) (ctab (rev n (clo n a)) n 0) ((w2.alloc (.cells (relCs n (rev n (clo n a))) 25)).alloc (.cells ((tabCs N fun _ => 0).setIfInBounds 0 (.int .i64 1)) 3)) := by
    have hG := Lies.new (w2.alloc (.cells (relCs n (rev n (clo n a))) 25)) 3 ((tabCs N fun _ => 0).setIfInBounds 0 (.int .i64 1))
    rw [World.size_alloc] at hG
    refine ⟨(hw2.alloc (by omega) _).alloc (by simp; omega) _, Lies.alloc (Lies.alloc hA2 _) _, Lies.alloc (Lies.new _ _ _) _, ?_, hlt, by omega, by simp⟩
    exact Lies.cast hG (tabCs_set N _ 0 1)
  generalize (w2.alloc (.cells (relCs n (rev n (clo n a))) 25)).alloc (.cells ((tabCs N fun _ => 0).setIfInBounds 0 (.int .i64 1)) 3) = W at HN0 ⊢
  have hrl := rev_lt hle (clo n a)
  generalize hbb : rev n (clo n a) = b at HN0 hrl ⊢
  have HBB := Lib.hid hbb
  clear hbb
  have hBlt := HN0.fb
  generalize w2.heap.size + 1 = G at HN0 ⊢
  generalize w2.heap.size = B at HN0 hBlt ⊢
  clear hA2 hw2 HH2 t0 hs hlt hmk
  go_loopw [29] (fun i wr => ∃ k : Nat, k ≤ N ∧ i = .int .i64 k ∧ NRel w B G n N a b (ctab b n k) wr) (fun i _ => N - (intOf i).toNat)
  case atStart => exact ⟨0, by omega, rfl, HN0⟩
  case round =>
    clear HN0
    obtain ⟨k, hk, rfl, hR⟩ := hrel
    have hs := hR.arg.size
    by_cases hkN : k < N
    · have hb0 := hR.bef.size
      obtain ⟨c0, c1, c2, c3, c4, c5, c6, c7, c8, c9, c10, c11⟩ := hR.bef.rows
      have HR := Lib.hid hR
      clear hR
      go_wp2_with fail
      refine (ready_any n b k wr hle (fun i _ => hrl i) (by omega)).mono ?_
      rintro e w3 ⟨rfl, hb3⟩
      have hR := HR.out.then_ hb3
      clear HR hs hb0 c0 c1 c2 c3 c4 c5 c6 c7 c8 c9 c10 c11 hb3
      have hs := hR.arg.size
      have HR := Lib.hid hR
      clear hR
      have hrx : rdyUp b k n < 65536 := rdyUp_lt b k 16 n (by omega)
      generalize hr : rdyUp b k n = r at hrx ⊢
      have HRR := Lib.hid hr
      clear hr
      go_wp2_with fail
      clear hs
      go_loopw [38] (fun i wr => ∃ m : Nat, m ≤ n ∧ i = .int .i64 m ∧ NRel w B G n N a b (pushed r k (ctab b n k) m) wr) (fun i _ => n - (intOf i).toNat)
      case atStart => exact ⟨0, by omega, rfl, HR.out⟩
      case round =>
        clear HR
        obtain ⟨m, hm, rfl, hR⟩ := hrel
        by_cases hmn : m < n
        · have hdm : k ||| 2 ^ m < N := by rw [HN.out] at hkN ⊢; exact or_pow_lt hkN hmn
          have hor := or_i64 k m (by omega) (by omega)
          have ck := hR.tab.cell hkN
          have cm := hR.tab.cell hdm
          have fm := hR.tab.free (k ||| 2 ^ m)
          have he : pushed r k (ctab b n k) (m + 1) = if r.testBit m = true then upd (pushed r k (ctab b n k) m) (k ||| 2 ^ m) (wrap64 (pushed r k (ctab b n k) m (k ||| 2 ^ m) + pushed r k (ctab b n k) m k)) else pushed r k (ctab b n k) m := rfl
          have HR := Lib.hid hR
          clear hR
          generalize pushed r k (ctab b n k) m = f at ck cm he HR ⊢
          cases hb : r.testBit m
          · rw [hb, if_neg (by decide)] at he
            have HE := Lib.hid he
            have Hb := Lib.hid hb
            clear he hb ck cm fm hor
            go_wp2_with (go_at_call 22; refine (has_no r m _ hrx (by omega) Hb.out).mono ?_; rintro e w' ⟨rfl, rfl⟩)
            go_roundw
            case rel => exact ⟨m + 1, by omega, by go_num, by rw [HE.out]; exact HR.out⟩
            case measure => simp [intOf]; omega
          · rw [hb, if_pos rfl] at he
            have HE := Lib.hid he
            have Hb := Lib.hid hb
            clear he hb
            generalize hq : k ||| 2 ^ m = q at *
            have HQ := Lib.hid hq
            clear hq
            go_wp2_with (go_at_call 22; refine (has_yes r m _ hrx (by omega) Hb.out).mono ?_; rintro e w' ⟨rfl, rfl⟩)
            go_region
            go_wp2
            go_roundw
            case rel => exact ⟨m + 1, by omega, by go_num, by rw [HE.out]; exact NRel.drew (HR.out.set_ q _)⟩
            case measure => simp [intOf]; omega
        · have hmn' : m = n := by omega
          subst hmn'
          go_wp2_with fail
          go_roundw
          case rel => exact ⟨k + 1, by omega, by go_num, hR.congr (by rw [← HRR.out]; rfl)⟩
          case measure => simp [intOf]; omega
    · have hkN' : k = N := by omega
      subst hkN'
      have hc := hR.tab.cell (i := k - 1) (by omega)
      have HR := Lib.hid hR
      clear hR
      go_wp2_with fail
      go_ret2
      have e : cntC n (clo n a) = ctab b n k (k - 1) := by unfold cntC; rw [HBB.out, ← HN.out]
      rw [e]
      exact ⟨rfl, HR.out.below⟩
end Go.Proofs.YtkfijolimoehmaaDoor

/-
  Plain mathematics of the lowest bit, and of how many bits there are.
-/
namespace Go.Proofs.YtkfijolimoehmaaDoor
open Go.RowKit
set_option maxRecDepth 20000

/-- The place of the lowest bit. -/
def tzN : Nat → Nat → Nat
  | 0, _ => 0
  | f + 1, x => if x % 2 = 1 then 0 else tzN f (x / 2) + 1
def tz (x : Nat) : Nat := tzN 16 x

theorem and_double (a b : Nat) : (2 * a) &&& (2 * b) = 2 * (a &&& b) := by
  apply Nat.eq_of_testBit_eq
  intro i
  cases i with
  | zero => simp [Nat.testBit_zero]
  | succ j =>
    rw [Nat.testBit_succ, Nat.testBit_succ, Nat.and_div_two]
    rw [show 2 * a / 2 = a by omega, show 2 * b / 2 = b by omega, show 2 * (a &&& b) / 2 = a &&& b by omega]
theorem and_odd (a b : Nat) : (2 * a + 1) &&& (2 * b + 1) = 2 * (a &&& b) + 1 := by
  apply Nat.eq_of_testBit_eq
  intro i
  cases i with
  | zero => simp [Nat.testBit_zero]
  | succ j =>
    rw [Nat.testBit_succ, Nat.testBit_succ, Nat.and_div_two]
    rw [show (2 * a + 1) / 2 = a by omega, show (2 * b + 1) / 2 = b by omega, show (2 * (a &&& b) + 1) / 2 = a &&& b by omega]
theorem and_compl (k m : Nat) (h : m < 2 ^ k) : m &&& (2 ^ k - 1 - m) = 0 := by
  apply Nat.eq_of_testBit_eq
  intro i
  rw [show 2 ^ k - 1 - m = 2 ^ k - (m + 1) by omega, Nat.testBit_and, Nat.testBit_two_pow_sub_succ h, Nat.zero_testBit]
  cases m.testBit i <;> simp

theorem low_and : ∀ k x : Nat, 0 < x → x < 2 ^ k → x &&& (2 ^ k - x) = 2 ^ (tzN k x) ∧ tzN k x < k
  | 0, x, h0, h1 => by simp at h1; omega
  | k + 1, x, h0, h1 => by
    have hp : 2 ^ (k + 1) = 2 * 2 ^ k := by rw [Nat.pow_succ]; omega
    unfold tzN
    by_cases ho : x % 2 = 1
    · rw [if_pos ho]
      obtain ⟨m, rfl⟩ : ∃ m, x = 2 * m + 1 := ⟨x / 2, by omega⟩
      have hm : m < 2 ^ k := by omega
      rw [show 2 ^ (k + 1) - (2 * m + 1) = 2 * (2 ^ k - 1 - m) + 1 by omega, and_odd, and_compl k m hm]
      exact ⟨rfl, by omega⟩
    · rw [if_neg ho]
      obtain ⟨m, rfl⟩ : ∃ m, x = 2 * m := ⟨x / 2, by omega⟩
      have hm : m < 2 ^ k := by omega
      obtain ⟨h, hl⟩ := low_and k m (by omega) hm
      rw [show 2 ^ (k + 1) - (2 * m) = 2 * (2 ^ k - m) by omega, and_double, show 2 * m / 2 = m by omega, h]
      exact ⟨by rw [Nat.pow_succ]; omega, by omega⟩

theorem tzN_bit : ∀ k x : Nat, 0 < x → x < 2 ^ k → x.testBit (tzN k x) = true ∧ ∀ i, i < tzN k x → x.testBit i = false
  | 0, x, h0, h1 => by simp at h1; omega
  | k + 1, x, h0, h1 => by
    have hp : 2 ^ (k + 1) = 2 * 2 ^ k := by rw [Nat.pow_succ]; omega
    unfold tzN
    by_cases ho : x % 2 = 1
    · rw [if_pos ho]
      exact ⟨by rw [Nat.testBit_zero]; simpa using ho, fun i hi => by omega⟩
    · rw [if_neg ho]
      obtain ⟨h, hl⟩ := tzN_bit k (x / 2) (by omega) (by omega)
      refine ⟨by rw [Nat.testBit_succ]; exact h, fun i hi => ?_⟩
      cases i with
      | zero => rw [Nat.testBit_zero]; simpa using ho
      | succ j => rw [Nat.testBit_succ]; exact hl j (by omega)

/-- How many of the lowest k bits are set. -/
def popN : Nat → Nat → Nat
  | 0, _ => 0
  | f + 1, x => x % 2 + popN f (x / 2)
def pop (x : Nat) : Nat := popN 16 x

def deb : List Nat := [0, 1, 28, 2, 29, 14, 24, 3, 30, 22, 20, 15, 25, 17, 4, 8, 31, 27, 13, 23, 21, 19, 16, 7, 26, 12, 18, 6, 11, 5, 10, 9]
theorem deb_at : ∀ t, t < 16 → 2 ^ t * 125613361 % 4294967296 / 134217728 < 32 ∧ deb.getD (2 ^ t * 125613361 % 4294967296 / 134217728) 0 = t := by decide

theorem popN_zero : ∀ k, popN k 0 = 0
  | 0 => rfl
  | k + 1 => by unfold popN; rw [popN_zero k]
theorem popN_small : ∀ k j x : Nat, x < 2 ^ k → k ≤ j → popN j x = popN k x
  | 0, j, x, h, _ => by
    have : x = 0 := by simpa using h
    subst this
    rw [popN_zero, popN_zero]
  | k + 1, 0, x, h, hj => by omega
  | k + 1, j + 1, x, h, hj => by
    have hp : 2 ^ (k + 1) = 2 * 2 ^ k := by rw [Nat.pow_succ]; omega
    unfold popN
    rw [popN_small k j (x / 2) (by omega) (by omega)]
theorem popN_split : ∀ k j x : Nat, popN (k + j) x = popN k (x % 2 ^ k) + popN j (x / 2 ^ k)
  | 0, j, x => by simp [popN]
  | k + 1, j, x => by
    have hp : 2 ^ (k + 1) = 2 * 2 ^ k := by rw [Nat.pow_succ]; omega
    rw [show k + 1 + j = (k + j) + 1 by omega]
    unfold popN
    rw [popN_split k j (x / 2)]
    have e1 : x % 2 ^ (k + 1) % 2 = x % 2 := by rw [hp, Nat.mod_mul_right_mod]
    have e2 : x % 2 ^ (k + 1) / 2 = x / 2 % 2 ^ k := by rw [hp, Nat.mod_mul_right_div_self]
    have e3 : x / 2 / 2 ^ k = x / 2 ^ (k + 1) := by rw [Nat.div_div_eq_div_mul, ← hp]
    rw [e1, e2, e3]
    cases j <;> simp [popN] <;> omega
end Go.Proofs.YtkfijolimoehmaaDoor
