/-
  Joined by a program out of: RefLoc, ChosenP, AheadR.
-/
import Derived.Test.YtfgangkpebkicaaDoorMgBC
import Derived.Test.YtfgangkpebkicaaDoorMgBD
import Derived.Test.YtfgangkpebkicaaDoorMgBB
import Derived.Test.YtfgangkpebkicaaDoorMgAK
import Derived.Deep.QuietTactic
import Derived.BigQuiet
import Derived.Lib.Hide

/-
  Contract of alibref.Locals.
-/
namespace Go.Proofs.YtfgangkpebkicaaDoor
open Go.RowKit
set_option maxRecDepth 20000
theorem cntT_all (cs : List Cl) (q : Int) : cntT cs q cs.length = ownN cs q := by
  have h : (prt (fun z => z) q cs).length = (idxQ cs q).length := prt_len
  unfold prt at h
  rw [List.length_map] at h
  exact h.symm
theorem ownN_mem {cs : List Cl} {q : Int} (h : 0 < ownN cs q) : ∃ c ∈ cs, c.thing = q := by
  unfold ownN at h
  obtain ⟨c, hc⟩ := List.exists_mem_of_length_pos h
  rw [List.mem_filter, beq_iff_eq] at hc
  exact ⟨c, hc.1, hc.2⟩
theorem openE_big {ts : List Int} {l : List Ev} (h : (callsOf ts l).2.2 = 0) {q : Int} (hq : 9 < ownN (callsOf ts l).1 q ∨ 12 < (callsOf ts l).1.length) : openE ts l = 2 := by
  unfold openE
  rw [if_neg (by simp [h])]
  by_cases h1 : 12 < (callsOf ts l).1.length
  · rw [if_pos h1]
  · rw [if_neg h1]
    have h2 := hq.resolve_right h1
    obtain ⟨c, hc, e⟩ := ownN_mem (show 0 < ownN (callsOf ts l).1 q by omega)
    rw [if_pos (List.any_eq_true.2 ⟨c, hc, by rw [e]; exact decide_eq_true h2⟩)]
theorem openE_small {ts : List Int} {l : List Ev} (h : (callsOf ts l).2.2 = 0) (hq : ∀ t : Nat, t < ts.length → ¬ (9 < ownN (callsOf ts l).1 (t : Int) ∨ 12 < (callsOf ts l).1.length)) (h1 : 1 ≤ ts.length) : openE ts l = 0 := by
  unfold openE
  rw [if_neg (by simp [h]), if_neg (fun h2 => hq 0 (by omega) (.inr h2)), if_neg]
  rw [List.any_eq_true]
  rintro ⟨c, hc, h2⟩
  have h3 := (calls_callOk h c hc).thing
  refine hq c.thing.toNat (by omega) (.inl ?_)
  rw [Int.toNat_of_nonneg h3.1]
  exact of_decide_eq_true h2
set_option maxHeartbeats 4000000 in
theorem locals_any {tv lv : Value} {ts : List Int} {l : List Ev} {w : World} (ht : NRd w w.heap.size tv ts) (hl : ERd w w.heap.size lv l) :
    Calls Tryd.prog 8 #[tv, lv] w (LOpenPost w (callsOf ts l).1 (openE ts l)) := by
  have HC := Lib.hid (callsOf_any ht hl)
  obtain ⟨At, capt, rfl, -, -⟩ := ht.is
  obtain ⟨Al, capl, rfl, -, -⟩ := hl.is
  clear ht hl
  have hbig := @openE_big ts l
  have hsm := @openE_small ts l
  have hbad : (callsOf ts l).2.2 ≠ 0 → openE ts l = (callsOf ts l).2.2 := fun h => by unfold openE; rw [if_pos h]
  have hty := fun h => (calls_types (ts := ts) (l := l) h)
  have h1 : (callsOf ts l).2.2 = 0 → 1 ≤ ts.length := fun h => by
    have h1 := (calls_zero h).1
    unfold typesB at h1
    rw [Bool.and_eq_true, decide_eq_true_iff] at h1
    exact h1.1.1
  generalize openE ts l = X at hbig hsm hbad ⊢
  generalize callsOf ts l = o at HC hbig hsm hbad hty h1 ⊢
  obtain ⟨cs, at1, E⟩ := o
  simp only at hbig hsm hbad hty h1
  obtain ⟨tl, htl⟩ : ∃ tl, tl = ts.length := ⟨_, rfl⟩
  rw [← htl] at HC hsm hty h1 ⊢
  clear htl
  generalize l.length = L at HC ⊢
  have HP := Lib.hid (And.intro @hbig (And.intro hsm (And.intro hbad (And.intro hty h1))))
  clear hbig hsm hbad hty h1
  go_enter Tryd.func8, Tryd.ntmps8
  go_wp2_with fail
  refine HC.out.mono ?_
  rintro e w1 ⟨v, rfl, hb, hc⟩
  simp only at hc ⊢
  have H1 := Lib.hid hb
  have HCC := Lib.hid hc
  obtain ⟨Ac, cc, rfl, -, hcc⟩ := hc.is
  unfold maxLen at hcc
  clear hb hc HC
  by_cases hE : E = 0
  · subst hE
    obtain ⟨hbig, hsm, -, hty, h1⟩ := HP.out
    have htl4 := hty rfl
    have HQ := Lib.hid (And.intro (@hbig rfl) (And.intro (hsm rfl) (h1 rfl)))
    obtain ⟨n, hn⟩ : ∃ n, n = cs.length := ⟨_, rfl⟩
    have hn8 : n ≤ 9223372036854775807 := by
      obtain ⟨_, _, _, a1, a2⟩ := HCC.out.is
      unfold maxLen at a2
      omega
    have HNN := Lib.hid hn
    rw [← hn] at HCC ⊢
    clear hn hbig hsm hty h1 HP
    have hb0 : Below w1.heap.size w1 w1 := Below.refl _ _
    go_wp2_with fail
    go_loopw [25] (fun i wr => ∃ k : Nat, k ≤ tl ∧ i = .int .i64 k ∧ Below w1.heap.size w1 wr ∧ ∀ t : Nat, t < k → ¬ (9 < ownN cs (t : Int) ∨ 12 < cs.length)) (fun i _ => tl - (intOf i).toNat)
    case atStart => exact ⟨0, by omega, rfl, hb0, fun t h => by omega⟩
    case round =>
      clear hb0
      obtain ⟨k, hk, rfl, hbr, hno⟩ := hrel
      by_cases hkt : k < tl
      · have HBR := Lib.hid (And.intro hbr hno)
        have i1 : (0 : Int) ≤ (k : Int) := by omega
        have i2 : (k : Int) < (tl : Int) := by omega
        have hb0 : Below w1.heap.size w1 wr := hbr
        clear hbr hno
        go_wp2_with fail
        go_loopw [10, 30] (fun c i wq => ∃ t : Nat, t ≤ n ∧ i = .int .i64 t ∧ c = .int .i64 (cntT cs (k : Int) t) ∧ Below w1.heap.size w1 wq) (fun _ i _ => n - (intOf i).toNat)
        case atStart => exact ⟨0, by omega, rfl, rfl, hb0⟩
        case round =>
          clear hb0
          obtain ⟨t, htq, rfl, rfl, hb2⟩ := hrel
          by_cases htt : t < n
          · obtain ⟨y, hy⟩ : ∃ y, cs[t]? = some y := ⟨_, List.getElem?_eq_getElem (by have := HNN.out; omega)⟩
            have hcs2 := cntT_succ cs (k : Int) t
            rw [List.getD_eq_getElem?_getD, hy, Option.getD_some] at hcs2
            have hct := cntT_le cs (k : Int) t
            obtain ⟨g3, o3, rfl, -, y0, y1, y2, y3, y4, y5, y6⟩ := (HCC.out.below hb2).cl hy
            have t1 : (0 : Int) ≤ (t : Int) := by omega
            have t2 : (t : Int) < (n : Int) := by omega
            have HB2 := Lib.hid hb2
            clear hb2 hy
            generalize y.thing = yt at y1 hcs2
            by_cases h3 : yt = (k : Int)
            · have hz : (yt == (k : Int)) = true := by rw [beq_iff_eq]; exact h3
              rw [if_pos h3] at hcs2
              clear h3
              have HC2 := Lib.hid hcs2
              clear hcs2
              generalize cntT cs (k : Int) t = c1 at hct HC2 ⊢
              go_wp2_with fail
              go_roundw
              case rel => exact ⟨t + 1, by omega, by go_num, by rw [HC2.out]; go_num, HB2.out.alloc HB2.out.size _⟩
              case measure => simp [intOf]; omega
            · have hz : (yt == (k : Int)) = false := by rw [beq_eq_false_iff_ne]; exact h3
              rw [if_neg h3] at hcs2
              have HC2 := Lib.hid hcs2
              clear h3 hcs2
              go_wp2_with fail
              go_roundw
              case rel => exact ⟨t + 1, by omega, by go_num, by rw [HC2.out]; rfl, HB2.out.alloc HB2.out.size _⟩
              case measure => simp [intOf]; omega
          · obtain rfl : t = n := by omega
            have hcn : cntT cs (k : Int) t = ownN cs (k : Int) := by rw [HNN.out]; exact cntT_all _ _
            rw [hcn]
            have hle : ownN cs (k : Int) ≤ t := by rw [← hcn]; exact cntT_le _ _ _
            have HB2 := Lib.hid hb2
            have hbq := @HQ.out.1
            have hno := HBR.out.2
            have hbg : 9 < ownN cs (k : Int) ∨ 12 < cs.length → X = 2 := fun h => hbq h
            have HBG := Lib.hid hbg
            have HNO := Lib.hid hno
            have HON := Lib.hid (show ∃ q, q = ownN cs (k : Int) from ⟨_, rfl⟩)
            obtain ⟨q, hq⟩ := HON.out
            rw [← hq] at HBG hle ⊢
            have HQQ := Lib.hid hq
            clear hcn hbq hno hbg HON hq hb2
            by_cases h5 : 9 < q
            · have h6 : (9 : Int) < (q : Int) := by omega
              have hX := HBG.out (.inl h5)
              subst hX
              go_wp2_with fail
              go_ret2
              exact ⟨H1.out.trans (HB2.out.mono H1.out.size), _, rfl, (fun h => by cases h), fun _ => rfl⟩
            · by_cases h7 : 12 < t
              · have h6 : ¬ (9 : Int) < (q : Int) := by omega
                have h8 : (12 : Int) < (t : Int) := by omega
                have hX := HBG.out (.inr (by rw [← HNN.out]; exact h7))
                subst hX
                go_wp2_with fail
                go_ret2
                exact ⟨H1.out.trans (HB2.out.mono H1.out.size), _, rfl, (fun h => by cases h), fun _ => rfl⟩
              · have h6 : ¬ (9 : Int) < (q : Int) := by omega
                have h8 : ¬ (12 : Int) < (t : Int) := by omega
                go_wp2_with fail
                go_roundw
                case rel => exact ⟨k + 1, by omega, by go_num, HB2.out, fun u hu => by
                  rcases Nat.lt_or_ge u k with h9 | h9
                  · exact HNO.out u h9
                  · obtain rfl : u = k := by omega
                    rw [← HQQ.out, ← HNN.out]
                    omega⟩
                case measure => simp [intOf]; omega
      · obtain rfl : k = tl := by omega
        have hX := HQ.out.2.1 hno HQ.out.2.2
        subst hX
        have HB := Lib.hid hbr
        clear hbr hno
        go_wp2_with fail
        go_ret2
        exact ⟨H1.out.trans (HB.out.mono H1.out.size), _, rfl, fun _ => (HCC.out.below HB.out).mono HB.out.size, fun h => absurd rfl h⟩
  · have hez : (E != 0) = true := by rw [bne_iff_ne]; exact hE
    obtain rfl := HP.out.2.2.1 hE
    have HE := Lib.hid hE
    clear hE HP
    generalize cs.length = n
    go_wp2_with fail
    go_ret2
    exact ⟨H1.out, _, rfl, fun h => absurd h HE.out, fun _ => rfl⟩
end Go.Proofs.YtfgangkpebkicaaDoor

/-
  Plain: the reference's way to choose the least number that may come next each time, and the least order of the closure: the same.
-/
namespace Go.Proofs.YtfgangkpebkicaaDoor
open Go.RowKit
set_option maxRecDepth 20000
/-- May i come next? -/
def mayC (a : Nat → Nat) (n : Nat) (D : List Nat) (i : Nat) : Bool := !D.contains i && (List.range n).all fun j => !(a j).testBit i || D.contains j
theorem mayC_iff {a : Nat → Nat} {n : Nat} {D : List Nat} {i : Nat} : mayC a n D i = true ↔ i ∉ D ∧ ∀ j, j < n → (a j).testBit i = true → j ∈ D := by
  unfold mayC
  rw [Bool.and_eq_true, List.all_eq_true]
  constructor
  · rintro ⟨h1, h2⟩
    refine ⟨fun h => (by rw [List.contains_iff_mem.2 h] at h1; cases h1), fun j hj hb => ?_⟩
    have := h2 j (List.mem_range.2 hj)
    rw [hb] at this
    exact List.contains_iff_mem.1 (by simpa using this)
  · rintro ⟨h1, h2⟩
    refine ⟨?_, fun j hj => ?_⟩
    · cases hc : D.contains i
      · rfl
      · exact absurd (List.contains_iff_mem.1 hc) h1
    · cases hb : (a j).testBit i
      · rfl
      · rw [List.contains_iff_mem.2 (h2 j (List.mem_range.1 hj) hb)]
        rfl
def chsF (a : Nat → Nat) (n : Nat) : Nat → List Nat → Option (List Nat)
  | 0, D => some D
  | f + 1, D => match (List.range n).find? (mayC a n D) with
    | some i => chsF a n f (D ++ [i])
    | none => none
theorem find_range {p : Nat → Bool} {n i : Nat} (hi : i < n) (hp : p i = true) (hlt : ∀ j, j < i → p j = false) : (List.range n).find? p = some i :=
  List.find?_range_eq_some.2 ⟨hp, List.mem_range.2 hi, fun j hj => by simp [hlt j hj]⟩
/-- What is closed downwards is so under the closure. -/
theorem warsh_down {n : Nat} {a : Nat → Nat} {P : Nat → Prop} {i : Nat} (hi : i < n) (hd : ∀ x y, x < n → y < n → P y → (a x).testBit y = true → P x) (hb : ∀ x, x < n → (a x).testBit i = true → P x) :
    ∀ k, k ≤ n → ∀ x y, x < n → y < n → (P y ∨ y = i) → (warsh n a k x).testBit y = true → P x
  | 0, _, x, y, hx, hy, hu, h => by
    rcases hu with hu | rfl
    · exact hd x y hx hy hu h
    · exact hb x hx h
  | k + 1, hk, x, y, hx, hy, hu, h => by
    have ih := warsh_down hi hd hb k (by omega)
    change (stepV n (warsh n a k) k x).testBit y = true at h
    rw [stepV_bit n _ k _ _ hx] at h
    simp only [Bool.or_eq_true, Bool.and_eq_true] at h
    rcases h with h | ⟨h1, h2⟩
    · exact ih x y hx hy hu h
    · exact ih x k hx (by omega) (.inl (ih k y (by omega) hy hu h2)) h1
theorem chs_calm {n : Nat} {a : Nat → Nat} (h : Good n a) (hy : cyc (clo n a) n = false) : ∀ f k, k + f = n → chsF a n f ((List.range k).map (nth n (clo n a))) = some ((List.range n).map (nth n (clo n a)))
  | 0, k, e => by
    obtain rfl : k = n := by omega
    rfl
  | f + 1, k, e => by
    have hs := strict_clo h hy
    have hn := h.le
    have hk : k < n := by omega
    have hin : ∀ x, x ∈ (List.range k).map (nth n (clo n a)) ↔ ∃ m, m < k ∧ nth n (clo n a) m = x := fun x => by
      rw [List.mem_map]
      exact ⟨fun ⟨m, h1, h2⟩ => ⟨m, List.mem_range.1 h1, h2⟩, fun ⟨m, h1, h2⟩ => ⟨m, List.mem_range.2 h1, h2⟩⟩
    have hS := (least_step hs hn k (by omega)).2
    have hn1 := next_is hs hn (lsD_lt (rev n (clo n a)) n k) (by rw [(least_step hs hn k (by omega)).1]; exact hk)
    have hf : (List.range n).find? (mayC a n ((List.range k).map (nth n (clo n a)))) = some (nth n (clo n a) k) := by
      refine find_range (nth_lt hs hn hk) (mayC_iff.2 ⟨fun hm => ?_, fun j hj hb => ?_⟩) (fun j hj => ?_)
      · obtain ⟨m, hm, e⟩ := (hin _).1 hm
        exact nth_ne hs hn hm hk e
      · exact (hin j).2 ((hS j).1 (least_sub hs hn hk j (rev_at.2 ⟨hj, nth_lt hs hn hk, clo_has n a j _ hb⟩)))
      · cases hm : mayC a n ((List.range k).map (nth n (clo n a))) j
        · rfl
        · exfalso
          obtain ⟨h1, h2⟩ := mayC_iff.1 hm
          have hjn : j < n := Nat.lt_trans hj (nth_lt hs hn hk)
          have hsub : Sub (rev n (clo n a) j) (lsD (rev n (clo n a)) n k) := fun x hx => by
            obtain ⟨hxn, _, hxb⟩ := rev_at.1 hx
            refine (hS x).2 ((hin x).1 (warsh_down (P := fun z => z ∈ (List.range k).map (nth n (clo n a))) hjn (fun x y hx hy hp hb => ?_) h2 n (Nat.le_refl _) x j hxn hjn (.inr rfl) hxb))
            obtain ⟨m, hmk, rfl⟩ := (hin y).1 hp
            obtain ⟨m2, h3, h4⟩ := ((least_step hs hn m (by omega)).2 x).1 (least_sub hs hn (show m < n by omega) x (rev_at.2 ⟨hx, hy, clo_has n a x _ hb⟩))
            exact (hin x).2 ⟨m2, by omega, h4⟩
          have hD := lsD_lt (rev n (clo n a)) n k
          have hbit : (rdyUp (rev n (clo n a)) (lsD (rev n (clo n a)) n k) n).testBit j = true := by
            rw [rdy_bit]
            simp only [Bool.and_eq_true, decide_eq_true_eq, Bool.not_eq_true']
            refine ⟨hjn, ?_, (within_iff (rev_lt hn _ j) hD).2 hsub⟩
            cases hb : (lsD (rev n (clo n a)) n k).testBit j
            · rfl
            · exact absurd ((hin j).2 ((hS j).1 hb)) h1
          have hne : rdyUp (rev n (clo n a)) (lsD (rev n (clo n a)) n k) n ≠ 0 := fun e => by rw [e] at hbit; simp at hbit
          have hlt : rdyUp (rev n (clo n a)) (lsD (rev n (clo n a)) n k) n < 2 ^ 16 := rdyUp_lt _ _ 16 n (by omega)
          have := (tzN_bit 16 _ (Nat.pos_of_ne_zero hne) hlt).2 j (by
            have e2 : nth n (clo n a) k = tzN 16 (rdyUp (rev n (clo n a)) (lsD (rev n (clo n a)) n k) n) := by
              unfold nth nextOf
              rw [if_neg hne]
              rfl
            rw [← e2]
            exact hj)
          rw [hbit] at this
          cases this
    rw [chsF, hf]
    have e2 : (List.range k).map (nth n (clo n a)) ++ [nth n (clo n a) k] = (List.range (k + 1)).map (nth n (clo n a)) := by rw [List.range_succ, List.map_append]; rfl
    simp only
    rw [e2]
    exact chs_calm h hy f (k + 1) (by omega)
/-- A list in which each stands behind all that stand ahead of it. -/
structure ChD (a : Nat → Nat) (n : Nat) (D : List Nat) : Prop where
  once : D.Nodup
  rng : ∀ x ∈ D, x < n
  ord : ∀ u x v, D = u ++ x :: v → ∀ j, j < n → (a j).testBit x = true → j ∈ u
theorem chs_some {a : Nat → Nat} {n : Nat} : ∀ {f : Nat} {D E : List Nat}, ChD a n D → chsF a n f D = some E → ChD a n E ∧ E.length = D.length + f
  | 0, D, E, h, e => by
    injection e with e
    subst e
    exact ⟨h, rfl⟩
  | f + 1, D, E, h, e => by
    rw [chsF] at e
    cases hf : (List.range n).find? (mayC a n D) with
    | none => rw [hf] at e; cases e
    | some i =>
      rw [hf] at e
      have h1 := mayC_iff.1 (List.find?_some hf)
      have h2 := List.mem_range.1 (List.mem_of_find?_eq_some hf)
      have hD : ChD a n (D ++ [i]) := by
        refine ⟨?_, fun x hx => ?_, fun u x v he j hj hb => ?_⟩
        · rw [List.nodup_append]
          exact ⟨h.once, by simp, fun p hp q hq e => by rw [List.mem_singleton] at hq; subst e hq; exact h1.1 hp⟩
        · rcases List.mem_append.1 hx with hx | hx
          · exact h.rng x hx
          · rw [List.mem_singleton] at hx; rw [hx]; exact h2
        · rcases List.append_eq_append_iff.1 he with ⟨w, e1, e2⟩ | ⟨w, e1, e2⟩
          · have hw : w = [] ∧ x = i ∧ v = [] := by
              cases w with
              | nil => simp at e2; exact ⟨rfl, e2.1.symm, e2.2⟩
              | cons c w => simp at e2
            obtain ⟨rfl, rfl, rfl⟩ := hw
            rw [List.append_nil] at e1
            rw [e1]
            exact h1.2 j hj hb
          · cases w with
            | nil =>
              simp at e2
              rw [List.append_nil] at e1
              rw [← e1]
              exact h1.2 j hj (by rw [← e2.1]; exact hb)
            | cons c w =>
              injection e2 with e3 e4
              subst e3
              exact h.ord u x w e1 j hj hb
      obtain ⟨h3, h4⟩ := chs_some hD e
      refine ⟨h3, ?_⟩
      rw [h4, List.length_append, List.length_singleton]
      omega
theorem chs_all {a : Nat → Nat} {n : Nat} {E : List Nat} (h : ChD a n E) (hl : E.length = n) {j : Nat} (hj : j < n) : j ∈ E := by
  apply Classical.byContradiction
  intro hno
  have h1 : ((j :: E).map fun i : Nat => (i : Int)).Nodup := by
    have h0 : (j :: E).Nodup := List.nodup_cons.2 ⟨hno, h.once⟩
    exact List.Pairwise.map _ (fun a b hab e => hab (Int.ofNat_inj.1 e)) h0
  have h2 := nodup_lt n h1 (fun k hk => by
    obtain ⟨i, hi, rfl⟩ := List.mem_map.1 hk
    rcases List.mem_cons.1 hi with rfl | hi
    · omega
    · have := h.rng i hi
      omega)
  rw [List.length_map, List.length_cons, hl] at h2
  omega
theorem chs_round {n : Nat} {p : Nat → Nat → Bool} {E : List Nat} (h : chsF (relP p n) n n [] = some E) : cyc (clo n (relP p n)) n = false := by
  obtain ⟨hE, hl⟩ := chs_some (D := []) ⟨List.nodup_nil, (fun x h => by simp at h), fun u x v he => by simp at he⟩ h
  rw [List.length_nil, Nat.zero_add] at hl
  refine cyc_rank (fun i => plcW (E.map fun i : Nat => ((i : Int), (0 : Int))) (i : Int)) fun i j hi hj hp => ?_
  obtain ⟨u, v, rfl⟩ := List.append_of_mem (chs_all hE hl hj)
  have hiu := hE.ord u j v rfl i hi (by rw [relP_bit]; simp [hi, hj, hp])
  refine plcW_lt (x := ((i : Int), 0)) (y := ((j : Int), 0)) ?_ ?_
  · rw [List.map_map]
    exact List.Pairwise.map _ (fun a b hab e => hab (Int.ofNat_inj.1 e)) hE.once
  · have : [i, j].Sublist (u ++ j :: v) := List.Sublist.append (List.singleton_sublist.2 hiu) (List.singleton_sublist.2 (by simp))
    exact this.map (fun i : Nat => ((i : Int), (0 : Int)))
/-- What is chosen is the least order of the closure; or it can't go on where something is round. -/
theorem chosen_eq {n : Nat} {p : Nat → Nat → Bool} (hn : n ≤ 12) : (chsF (relP p n) n n []).map (fun E => E.map fun i : Nat => (i : Int)) = if cyc (clo n (relP p n)) n = true then none else some (lsL (rev n (clo n (relP p n))) n n) := by
  cases hy : cyc (clo n (relP p n)) n
  · rw [if_neg (by decide)]
    have h1 := chs_calm (good_relP p hn) hy n 0 (by omega)
    rw [List.range_zero, List.map_nil] at h1
    rw [h1, Option.map_some]
    congr 1
    refine List.ext_getElem ?_ fun i h2 h3 => ?_
    · rw [List.length_map, List.length_map, List.length_range, lsL_length]
    · have h4 : i < n := by simpa using h2
      have h5 := lsL_get (rev n (clo n (relP p n))) n n i h4
      rw [List.getD_eq_getElem?_getD, List.getElem?_eq_getElem h3, Option.getD_some] at h5
      rw [h5]
      simp [nth]
  · rw [if_pos rfl]
    cases hc : chsF (relP p n) n n [] with
    | none => rfl
    | some E =>
      have := chs_round hc
      rw [hy] at this
      cases this
end Go.Proofs.YtfgangkpebkicaaDoor

/-
  Contract of alibref.Ahead.
-/
namespace Go.Proofs.YtfgangkpebkicaaDoor
open Go.RowKit
set_option maxRecDepth 20000
theorem ahead_val (s j : Nat) : (((s : Int) / 2 ^ ((j : Int).toNat)).tmod 2 == 1) = s.testBit j := by
  have e : (s : Int) / 2 ^ ((j : Int).toNat) = ((s / 2 ^ j : Nat) : Int) := by simp
  rw [e, Nat.testBit, Nat.shiftRight_eq_div_pow, Nat.and_comm, Nat.and_one_is_mod, Bool.eq_iff_iff, beq_iff_eq, bne_iff_ne]
  have : (((s / 2 ^ j : Nat) : Int)).tmod 2 = ((s / 2 ^ j % 2 : Nat) : Int) := rfl
  rw [this]
  omega
theorem ahead_any (n : Int) (c : Nat → Nat) (i j : Nat) (w : World) (hi : i < 12) (hj : j ≤ 15) :
    Calls Tryd.prog 27 #[relV n c, .int .i64 i, .int .i64 j] w fun e w' => e = .returned (.bool ((c i).testBit j)) ∧ Below w.heap.size w w' := by
  have hb := (Below.refl w.heap.size w).alloc (Nat.le_refl _) (.cells (relCs n c) 46)
  have hR : RelB (w.alloc (.cells (relCs n c) 46)) w.heap.size n c := Lies.new _ _ _
  have hk := hR.row' (k := i) hi
  have HB := Lib.hid (And.intro hb hR)
  clear hb hR
  go_enter Tryd.func27, Tryd.ntmps27
  go_wp2_with fail
  go_ret
  exact ⟨ret_bool (by rw [← ahead_val]; simp), HB.out.1⟩
end Go.Proofs.YtfgangkpebkicaaDoor
