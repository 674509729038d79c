/-
  Joined by a program out of: Acyclic, Ready, Reverse, CloLt, SeqI, BitsPure, Bits, LeastPure, Least, ErrF, LeastErr, Trans, Good.
-/
import Derived.Test.YtfgangkpebkicaaDoorMgBC
import Derived.Test.YtfgangkpebkicaaDoorMgAJ
import Derived.Test.YtfgangkpebkicaaDoorMgAG
import Derived.Test.YtfgangkpebkicaaDoorMgAP
import Derived.OwnWalk
import Derived.Test.YtfgangkpebkicaaDoorProg
import Derived.WalkKit
import Derived.Deep.QuietTactic
import Derived.BigQuiet

/-
  Contract of order.closeAcyclic.
-/
namespace Go.Proofs.YtfgangkpebkicaaDoor
open Go.RowKit
set_option maxRecDepth 20000
set_option maxHeartbeats 1000000 in
theorem acyclic_yes (n : Nat) (a : Nat → Nat) (w : World) (h : Good n a) (hy : cyc (clo n a) n = true) :
    Calls Tryd.prog 49 #[relV n a] w fun e w' => e = .returned (.tuple #[zeroV, .int .i64 4]) ∧ Below w.heap.size w w' := by
  go_enter Tryd.func49, Tryd.ntmps49
  go_wp2_with fail
  refine (close_yes n a _ h hy).mono ?_
  rintro e w1 ⟨rfl, hb1⟩
  have hB0 : RelB w1 (w.heap.size + 1) 0 (fun _ => 0) := Lies.below (Lies.cast (by have h := Lies.new (w.alloc (.cells (relCs n a) 46)) 46 (relCs 0 fun _ => 0); rw [World.size_alloc] at h; exact h) rfl) hb1 (by rw [World.size_alloc, World.size_alloc]; omega)
  have hbw : Below w.heap.size w w1 := (((Below.refl _ _).alloc (Nat.le_refl _) _).alloc (by simp) _).trans (hb1.mono (by simp; omega))
  have hlt : w.heap.size + 1 < w1.heap.size := by have := hb1.size; simp at this; omega
  have hs := hB0.size
  obtain ⟨c0, c1, c2, c3, c4, c5, c6, c7, c8, c9, c10, c11⟩ := hB0.rows
  have hf := hB0.free
  have HB := Lib.hid hbw
  clear hb1 hbw
  go_wp2_with fail
  clear hs c0 c1 c2 c3 c4 c5 c6 c7 c8 c9 c10 c11 hf
  refine post_fill1 (W := w1) (g := w.heap.size + 1) 0 (fun _ => 0) hB0 HB.out (by omega) (by omega) ?_
  intro wz hz hbz
  have hs := hz.size
  obtain ⟨c0, c1, c2, c3, c4, c5, c6, c7, c8, c9, c10, c11⟩ := hz.rows
  exact bodyPost_ret (v := .tuple #[zeroV, .int .i64 4])
    (by simp [results, Tryd.results49, go_sem, hs, c0, c1, c2, c3, c4, c5, c6, c7, c8, c9, c10, c11]) rfl ⟨rfl, hbz⟩
set_option maxHeartbeats 1000000 in
theorem acyclic_no (n : Nat) (a : Nat → Nat) (w : World) (h : Good n a) (hy : cyc (clo n a) n = false) :
    Calls Tryd.prog 49 #[relV n a] w fun e w' => e = .returned (.tuple #[(relV n (clo n a)), .int .i64 0]) ∧ Below w.heap.size w w' := by
  go_enter Tryd.func49, Tryd.ntmps49
  go_wp2_with fail
  refine (close_no n a _ h hy).mono ?_
  rintro e w1 ⟨rfl, hb1⟩
  have hB0 : RelB w1 (w.heap.size + 1) 0 (fun _ => 0) := Lies.below (Lies.cast (by have h := Lies.new (w.alloc (.cells (relCs n a) 46)) 46 (relCs 0 fun _ => 0); rw [World.size_alloc] at h; exact h) rfl) hb1 (by rw [World.size_alloc, World.size_alloc]; omega)
  have hbw : Below w.heap.size w w1 := (((Below.refl _ _).alloc (Nat.le_refl _) _).alloc (by simp) _).trans (hb1.mono (by simp; omega))
  have hlt : w.heap.size + 1 < w1.heap.size := by have := hb1.size; simp at this; omega
  have hs := hB0.size
  obtain ⟨c0, c1, c2, c3, c4, c5, c6, c7, c8, c9, c10, c11⟩ := hB0.rows
  have hf := hB0.free
  have HB := Lib.hid hbw
  clear hb1 hbw
  go_wp2_with fail
  clear hs c0 c1 c2 c3 c4 c5 c6 c7 c8 c9 c10 c11 hf
  refine post_fill1 (W := w1) (g := w.heap.size + 1) n (clo n a) hB0 HB.out (by omega) (by omega) ?_
  intro wz hz hbz
  have hs := hz.size
  obtain ⟨c0, c1, c2, c3, c4, c5, c6, c7, c8, c9, c10, c11⟩ := hz.rows
  exact bodyPost_ret (v := .tuple #[(relV n (clo n a)), .int .i64 0])
    (by simp [results, Tryd.results49, go_sem, hs, c0, c1, c2, c3, c4, c5, c6, c7, c8, c9, c10, c11]) rfl ⟨rfl, hbz⟩
end Go.Proofs.YtfgangkpebkicaaDoor

/-
  Contract of order.ready.
-/
namespace Go.Proofs.YtfgangkpebkicaaDoor
open Go.RowKit
set_option maxRecDepth 20000
set_option maxHeartbeats 1000000 in
theorem ready_any (n : Nat) (b : Nat → Nat) (d : Nat) (w : World) (hn : n ≤ 12) (hb : ∀ i, i < 12 → b i < 65536) (hd : d < 65536) :
    Calls Tryd.prog 52 #[relV n b, .int .u16 d] w fun e w' => e = .returned (.int .u16 (rdyUp b d n)) ∧ Below w.heap.size w w' := by
  have hB : RelB (w.alloc (.cells (relCs n b) 46)) w.heap.size n b := Lies.new _ _ _
  have hb0 : Below w.heap.size w (w.alloc (.cells (relCs n b) 46)) := (Below.refl _ _).alloc (Nat.le_refl _) _
  go_enter Tryd.func52, Tryd.ntmps52
  go_wp2_with fail
  change Code.wp _ _ _ _ (w.alloc (.cells (relCs n b) 46))
  generalize w.alloc (.cells (relCs n b) 46) = W at hB hb0 ⊢
  go_loop [5, 9] (fun s i => ∃ k : Nat, k ≤ n ∧ i = .int .i64 k ∧ s = .int .u16 (rdyUp b d k)) (fun _ i => n - (intOf i).toNat)
  case atStart => exact ⟨0, by omega, rfl, rfl⟩
  case round =>
    obtain ⟨k, hk, rfl, rfl⟩ := hrel
    by_cases hkn : k < n
    · have hr := hB.row' (show k < 12 by omega)
      have hv := u16_andNot_nat (b k) d (hb k (by omega)) hd
      have ho := or_pow (rdyUp b d k) k (rdyUp_lt b d 16 k (by omega)) (by omega)
      have hp := pow_u16 k (by omega)
      have he : rdyUp b d (k + 1) = if d.testBit k = false ∧ b k &&& (65535 - d) = 0 then rdyUp b d k ||| 2 ^ k else rdyUp b d k := rfl
      have hz := nat_eq0 (b k &&& (65535 - d))
      cases hdk : d.testBit k
      · by_cases hbk : b k &&& (65535 - d) = 0
        · rw [if_pos ⟨hdk, hbk⟩] at he
          rw [decide_eq_true hbk] at hz
          have HE := Lib.hid he
          have HD := Lib.hid hdk
          clear he hbk hdk
          go_wp2_with (go_at_call 68; refine (has_no d k _ hd (by omega) HD.out).mono ?_; rintro e w' ⟨rfl, rfl⟩)
          go_round
          case rel => exact ⟨k + 1, by omega, by go_num, by rw [HE.out]⟩
          case measure => simp [intOf]; omega
        · rw [if_neg (fun h => hbk h.2)] at he
          rw [decide_eq_false hbk] at hz
          have HE := Lib.hid he
          have HD := Lib.hid hdk
          clear he hbk hdk
          go_wp2_with (go_at_call 68; refine (has_no d k _ hd (by omega) HD.out).mono ?_; rintro e w' ⟨rfl, rfl⟩)
          go_round
          case rel => exact ⟨k + 1, by omega, by go_num, by rw [HE.out]⟩
          case measure => simp [intOf]; omega
      · rw [if_neg (fun h => by rw [hdk] at h; exact absurd h.1 (by decide))] at he
        have HE := Lib.hid he
        have HD := Lib.hid hdk
        clear he hdk hz
        go_wp2_with (go_at_call 68; refine (has_yes d k _ hd (by omega) HD.out).mono ?_; rintro e w' ⟨rfl, rfl⟩)
        go_round
        case rel => exact ⟨k + 1, by omega, by go_num, by rw [HE.out]⟩
        case measure => simp [intOf]; omega
    · have hkn' : k = n := by omega
      subst hkn'
      go_wp2_with fail
      go_ret
      exact ⟨rfl, hb0⟩
end Go.Proofs.YtfgangkpebkicaaDoor

/-
  Contract of order.reverse.
-/
namespace Go.Proofs.YtfgangkpebkicaaDoor
open Go.RowKit
set_option maxRecDepth 20000
set_option maxHeartbeats 1000000 in
theorem reverse_any (n : Nat) (a : Nat → Nat) (w : World) (hn : n ≤ 12) (ha : ∀ i, i < 12 → a i < 65536) :
    Calls Tryd.prog 50 #[relV n a] w fun e w' => e = .returned (relV n (rev n a)) ∧ Below w.heap.size w w' := by
  have HC : CRel w (w.heap.size + 1 + 1) n a (fun _ => 0) (((w.alloc (.cells (relCs n a) 46)).alloc (.cells (relCs 0 fun _ => 0) 46)).alloc (.cells (relCs n fun _ => 0) 46)) := by
    have h1 := Lies.new w 46 (relCs n a)
    have h2 := Lies.new (w.alloc (.cells (relCs n a) 46)) 46 (relCs 0 fun _ => 0)
    have h3 := Lies.new ((w.alloc (.cells (relCs n a) 46)).alloc (.cells (relCs 0 fun _ => 0) 46)) 46 (relCs n fun _ => 0)
    rw [World.size_alloc] at h2
    rw [World.size_alloc, World.size_alloc] at h3
    exact ⟨(((Below.refl _ _).alloc (Nat.le_refl _) _).alloc (by simp) _).alloc (by simp; omega) _, (h1.alloc _).alloc _, h2.alloc _, h3, by omega⟩
  go_enter Tryd.func50, Tryd.ntmps50
  go_wp2_with fail
  change Code.wp _ _ _ _ (((w.alloc (.cells (relCs n a) 46)).alloc (.cells (relCs 0 fun _ => 0) 46)).alloc (.cells (relCs n fun _ => 0) 46))
  generalize ((w.alloc (.cells (relCs n a) 46)).alloc (.cells (relCs 0 fun _ => 0) 46)).alloc (.cells (relCs n fun _ => 0) 46) = W at HC ⊢
  have hfar := HC.far
  generalize w.heap.size + 1 + 1 = G at HC hfar ⊢
  go_loopw [11] (fun i wr => ∃ k : Nat, k ≤ n ∧ i = .int .i64 k ∧ CRel w G n a (revs n a k) wr) (fun i _ => n - (intOf i).toNat)
  case atStart => exact ⟨0, by omega, rfl, HC⟩
  case round =>
    clear HC
    obtain ⟨k, hk, rfl, hC⟩ := hrel
    have hs := hC.arg.size
    by_cases hkn : k < n
    · go_wp2_with fail
      obtain ⟨wo, rfl⟩ : ∃ wo : World, wo = wr := ⟨_, rfl⟩
      clear hs
      go_loopw [16] (fun i wr => ∃ m : Nat, m ≤ n ∧ i = .int .i64 m ∧ CRel w G n a (stepR m a k (revs n a k)) wr) (fun i _ => n - (intOf i).toNat)
      case atStart => exact ⟨0, by omega, rfl, by rw [stepR_zero]; exact hC⟩
      case round =>
        clear hC
        obtain ⟨m, hm, rfl, hC⟩ := hrel
        by_cases hmn : m < n
        · have hm12 : m < 12 := by omega
          have hk12 : k < 12 := by omega
          have hak := ha k hk12
          have hlm : revs n a k m < 65536 := revs_lt n a 16 m k (by omega)
          have ck := hC.arg.row' hk12
          have cm := hC.clo.row' hm12
          have fm := hC.clo.free (1 + m)
          rw [stepR_at] at cm
          have ho := or_pow (revs n a k m) k hlm (by omega)
          have hp := pow_u16 k (by omega)
          have hs := stepR_succ m a k (revs n a k)
          cases hb : (a k).testBit m
          · rw [hb] at hs
            have HS := Lib.hid hs
            have Hb := Lib.hid hb
            clear hs hb
            go_wp2_with (go_at_call 68; refine (has_no _ m _ hak (by omega) Hb.out).mono ?_; rintro e w' ⟨rfl, rfl⟩)
            go_roundw
            case rel => exact ⟨m + 1, by omega, by go_num, hC.congr (fun i hi => by rw [HS.out]; split <;> simp_all [stepR_at])⟩
            case measure => simp [intOf]; omega
          · rw [hb] at hs
            have HS := Lib.hid hs
            have Hb := Lib.hid hb
            clear hs hb
            go_wp2_with (go_at_call 68; refine (has_yes _ m _ hak (by omega) Hb.out).mono ?_; rintro e w' ⟨rfl, rfl⟩)
            go_region
            go_wp2
            go_roundw
            case rel => exact ⟨m + 1, by omega, by go_num, (CRel.drew (hC.set_ hm12 _)).congr (fun i hi => by rw [HS.out]; split <;> simp_all)⟩
            case measure => simp [intOf]; omega
        · have hmn' : m = n := by omega
          subst hmn'
          go_wp2_with fail
          go_roundw
          case rel => exact ⟨k + 1, by omega, by go_num, hC⟩
          case measure => simp [intOf]; omega
    · have hkn' : k = n := by omega
      subst hkn'
      have hr := hC.res.size
      obtain ⟨r0, r1, r2, r3, r4, r5, r6, r7, r8, r9, r10, r11⟩ := hC.res.rows
      have hc := hC.clo.size
      obtain ⟨c0, c1, c2, c3, c4, c5, c6, c7, c8, c9, c10, c11⟩ := hC.clo.rows
      have hf := hC.res.free
      go_wp2_with fail
      clear hr r0 r1 r2 r3 r4 r5 r6 r7 r8 r9 r10 r11 hs hc c0 c1 c2 c3 c4 c5 c6 c7 c8 c9 c10 c11 hf
      refine post_fill (W := wr) (g := w.heap.size + 1) k (revs k a k) hC.res hC.below (by omega) ?_
      intro wz hz hbz
      have hs := hz.size
      obtain ⟨c0, c1, c2, c3, c4, c5, c6, c7, c8, c9, c10, c11⟩ := hz.rows
      exact bodyPost_ret (v := relV k (revs k a k))
        (by simp [results, Tryd.results50, go_sem, hs, c0, c1, c2, c3, c4, c5, c6, c7, c8, c9, c10, c11]) rfl ⟨rfl, hbz⟩
end Go.Proofs.YtfgangkpebkicaaDoor

/-
  Plain: the closure and the turned relation stay small.
-/
namespace Go.Proofs.YtfgangkpebkicaaDoor
open Go.RowKit
set_option maxRecDepth 20000
theorem clo_lt {n : Nat} {a : Nat → Nat} (h : Good n a) : ∀ i, i < 12 → clo n a i < 65536 := warsh_lt (B := 16) h.lt n h.le
theorem rev_lt {n : Nat} (h : n ≤ 12) (c : Nat → Nat) : ∀ i, rev n c i < 65536 := fun i => revs_lt n c 16 i n (by omega)
end Go.Proofs.YtfgangkpebkicaaDoor

/-
  Slices of integers of the call's own: make with a capacity, append of one; slices that read as a list.
-/
namespace Go.Proofs.YtfgangkpebkicaaDoor
open Go.RowKit
set_option maxRecDepth 20000
/-- The value v is a slice of the call's own (in blocks from B on) that holds the integers xs. -/
def JOwn (w : World) (B : Nat) (v : Value) (xs : List Int) : Prop := w.ownsRow B 3 1 v xs.length (xs.map (Value.int .i64))
theorem JOwn.drew {w : World} {B : Nat} {v : Value} {xs : List Int} (h : JOwn w B v xs) : JOwn w.drew B v xs := h
theorem JOwn.alloc {w : World} {B : Nat} {v : Value} {xs : List Int} (h : JOwn w B v xs) (o : Obj) : JOwn (w.alloc o) B v xs := World.ownsRow.alloc h o
theorem JOwn.then_ {w w' : World} {B : Nat} {v : Value} {xs : List Int} (h : JOwn w B v xs) (hb : Below w.heap.size w w') : JOwn w' B v xs :=
  World.ownsRow.kept h (row := none) ⟨hb.os, hb.tape, hb.output, hb.size, fun k hk _ => hb.block k hk⟩ (by
    cases hv : v.ownBlock with
    | none => exact .inl rfl
    | some k => exact .inr (by simp))
theorem JOwn.mono {w : World} {B B' : Nat} {v : Value} {xs : List Int} (h : JOwn w B v xs) (hB : B' ≤ B) : JOwn w B' v xs := by
  obtain ⟨h1, h2⟩ := h
  refine ⟨h1, ?_⟩
  rcases h2 with h2 | ⟨g, cap, cur, h3, h4, h5⟩
  · exact .inl h2
  · exact .inr ⟨g, cap, cur, h3, Nat.le_trans hB h4, h5⟩
theorem made_cap (N : Nat) (hN : N ≤ 65536) (w : World) :
    (Instr.makeSlice 22 (.int .i64 0) (.int .i64 N)).run Tryd.prog w = .ok (.slice (some ⟨w.heap.size, 0, none⟩) 0 N) (w.alloc (.cells (tabCs N fun _ => 0) 3)) := by
  obtain ⟨i0, hi, hz0, hz1, hz2⟩ := info_parts info_intT
  rw [run_make w 22 3 i0 (.int .i64 0) Tryd.underlying22 hi hz0 .i64 .i64 0 N (by omega) (by omega) (by rw [hz2]; omega) (by omega), hz1]
  simp only [Int.toNat_natCast, Nat.mul_one]
  congr 3
  apply Array.ext
  · simp [tabCs, madeCells]
  · intro j h1 h2
    simp [tabCs, madeCells, Value.cells, Nat.mod_one]
theorem JOwn.made (w : World) (N : Nat) (hN : N ≤ 65536) : JOwn (w.alloc (.cells (tabCs N fun _ => 0) 3)) w.heap.size (.slice (some ⟨w.heap.size, 0, none⟩) 0 N) [] :=
  World.ownsRow_made w _ N (Nat.le_refl _) (by unfold maxLen; omega) (by simp [tabCs])
/-- append(s, y), behind the block that holds y. -/
theorem app_one {W : World} {ops : Array Oper} {rest : List Oper} {o : Oper} {a : Act} {Q : Exit → Act → World → Prop} (hgd : o.guard = none) (s x : Operand)
    (ho : o.op = .call { callee := .builtin .append, args := #[s, x], argTypes := #[22, 22] })
    (B : Nat) (v : Value) (xs : List Int) (hs : a.eval s = v) (hown : JOwn W B v xs) (y : Int) (hx : a.eval x = .slice (some ⟨W.heap.size, 0, none⟩) 1 1)
    (hlen : xs.length ≤ 65536) (hB : B ≤ W.heap.size)
    (k : ∀ v' w', JOwn w' B v' (xs ++ [y]) → Below B W w' → wpList Tryd.prog ops Q rest (a.put o.dst v') w') :
    wpList Tryd.prog ops Q (o :: rest) a (W.alloc (.cells #[.int .i64 y] 3)) := by
  obtain ⟨i0, hi, hz0, hz1, hz2⟩ := info_parts info_intT
  refine wpList_append_own _ hgd s x 22 ho B 3 i0 (.int .i64 0) 1 8 Tryd.underlying22 hi hz0 hz1 hz2 rfl (by decide) v xs.length (xs.map (Value.int .i64)) hs (World.ownsRow.alloc hown _)
    ⟨W.heap.size, 0, none⟩ 1 1 [.int .i64 y] hx rfl ?_ ?_ (by unfold maxLen; omega) (by omega) (by simp; omega) ?_
  · intro j u hu
    match j, hu with
    | 0, hu => injection hu with hu; subst hu; exact (World.cell?_alloc_at _ _ _ _ rfl).trans rfl
    | j + 1, hu => simp at hu
  · intro u hu
    simp at hu
    subst hu
    rfl
  · intro v' w' h1 h2 _
    refine k v' w' ?_ ?_
    · unfold JOwn
      simpa using h1
    · have hl := World.ownsRow.lt hown
      exact ((Below.refl B W).alloc hB _).grown h2 (by simp; omega) (fun k hk => (hl k hk).1)
theorem JOwn.rd {w : World} {B : Nat} {v : Value} {xs : List Int} (h : JOwn w B v xs) : IRd w w.heap.size v xs := by
  rcases h.2 with ⟨rfl, h0⟩ | ⟨g, cap, cur, rfl, h1, h2, h3⟩
  · exact ⟨none, 0, by rw [h0], fun h => by omega⟩
  · refine ⟨_, cap, rfl, fun _ => ⟨g, rfl, ?_, fun j hj => ?_⟩⟩
    · rcases Nat.lt_or_ge g w.heap.size with h' | h'
      · exact h'
      · rw [Array.getElem?_eq_none h'] at h2; cases h2
    · rw [World.ownsRow.cellAt h j (by omega)]
      simp [hj]
end Go.Proofs.YtfgangkpebkicaaDoor

/-
  Plain mathematics of the lowest bit, and of how many bits there are.
-/
namespace Go.Proofs.YtfgangkpebkicaaDoor
open Go.RowKit
set_option maxRecDepth 20000
/-- The place of the lowest bit. -/
def tzN : Nat → Nat → Nat
  | 0, _ => 0
  | f + 1, x => if x % 2 = 1 then 0 else tzN f (x / 2) + 1
def tz (x : Nat) : Nat := tzN 16 x
theorem and_double (a b : Nat) : (2 * a) &&& (2 * b) = 2 * (a &&& b) := by
  apply Nat.eq_of_testBit_eq
  intro i
  cases i with
  | zero => simp [Nat.testBit_zero]
  | succ j =>
    rw [Nat.testBit_succ, Nat.testBit_succ, Nat.and_div_two]
    rw [show 2 * a / 2 = a by omega, show 2 * b / 2 = b by omega, show 2 * (a &&& b) / 2 = a &&& b by omega]
theorem and_odd (a b : Nat) : (2 * a + 1) &&& (2 * b + 1) = 2 * (a &&& b) + 1 := by
  apply Nat.eq_of_testBit_eq
  intro i
  cases i with
  | zero => simp [Nat.testBit_zero]
  | succ j =>
    rw [Nat.testBit_succ, Nat.testBit_succ, Nat.and_div_two]
    rw [show (2 * a + 1) / 2 = a by omega, show (2 * b + 1) / 2 = b by omega, show (2 * (a &&& b) + 1) / 2 = a &&& b by omega]
theorem and_compl (k m : Nat) (h : m < 2 ^ k) : m &&& (2 ^ k - 1 - m) = 0 := by
  apply Nat.eq_of_testBit_eq
  intro i
  rw [show 2 ^ k - 1 - m = 2 ^ k - (m + 1) by omega, Nat.testBit_and, Nat.testBit_two_pow_sub_succ h, Nat.zero_testBit]
  cases m.testBit i <;> simp
theorem low_and : ∀ k x : Nat, 0 < x → x < 2 ^ k → x &&& (2 ^ k - x) = 2 ^ (tzN k x) ∧ tzN k x < k
  | 0, x, h0, h1 => by simp at h1; omega
  | k + 1, x, h0, h1 => by
    have hp : 2 ^ (k + 1) = 2 * 2 ^ k := by rw [Nat.pow_succ]; omega
    unfold tzN
    by_cases ho : x % 2 = 1
    · rw [if_pos ho]
      obtain ⟨m, rfl⟩ : ∃ m, x = 2 * m + 1 := ⟨x / 2, by omega⟩
      have hm : m < 2 ^ k := by omega
      rw [show 2 ^ (k + 1) - (2 * m + 1) = 2 * (2 ^ k - 1 - m) + 1 by omega, and_odd, and_compl k m hm]
      exact ⟨rfl, by omega⟩
    · rw [if_neg ho]
      obtain ⟨m, rfl⟩ : ∃ m, x = 2 * m := ⟨x / 2, by omega⟩
      have hm : m < 2 ^ k := by omega
      obtain ⟨h, hl⟩ := low_and k m (by omega) hm
      rw [show 2 ^ (k + 1) - (2 * m) = 2 * (2 ^ k - m) by omega, and_double, show 2 * m / 2 = m by omega, h]
      exact ⟨by rw [Nat.pow_succ]; omega, by omega⟩
theorem tzN_bit : ∀ k x : Nat, 0 < x → x < 2 ^ k → x.testBit (tzN k x) = true ∧ ∀ i, i < tzN k x → x.testBit i = false
  | 0, x, h0, h1 => by simp at h1; omega
  | k + 1, x, h0, h1 => by
    have hp : 2 ^ (k + 1) = 2 * 2 ^ k := by rw [Nat.pow_succ]; omega
    unfold tzN
    by_cases ho : x % 2 = 1
    · rw [if_pos ho]
      exact ⟨by rw [Nat.testBit_zero]; simpa using ho, fun i hi => by omega⟩
    · rw [if_neg ho]
      obtain ⟨h, hl⟩ := tzN_bit k (x / 2) (by omega) (by omega)
      refine ⟨by rw [Nat.testBit_succ]; exact h, fun i hi => ?_⟩
      cases i with
      | zero => rw [Nat.testBit_zero]; simpa using ho
      | succ j => rw [Nat.testBit_succ]; exact hl j (by omega)
def deb : List Nat := [0, 1, 28, 2, 29, 14, 24, 3, 30, 22, 20, 15, 25, 17, 4, 8, 31, 27, 13, 23, 21, 19, 16, 7, 26, 12, 18, 6, 11, 5, 10, 9]
theorem deb_at : ∀ t, t < 16 → 2 ^ t * 125613361 % 4294967296 / 134217728 < 32 ∧ deb.getD (2 ^ t * 125613361 % 4294967296 / 134217728) 0 = t := by decide
end Go.Proofs.YtfgangkpebkicaaDoor

/-
  Contracts of math/bits' TrailingZeros16 and OnesCount16.
-/
namespace Go.Proofs.YtfgangkpebkicaaDoor
open Go.RowKit
set_option maxRecDepth 20000
/-- The library's table, where the program lays it. -/
def Tab (w : World) : Prop := ∀ k, k < 32 → w.cell? ⟨0, k, none⟩ = some (.int .u8 (deb.getD k 0 : Nat))
theorem Tab.below {w w' : World} {B : Nat} (h : Tab w) (hb : Below B w w') (hB : 0 < B) : Tab w' := fun k hk => (hb.cell (p := ⟨0, k, none⟩) hB).trans (h k hk)
theorem Tab.drew {w : World} (h : Tab w) : Tab w.drew := h
theorem Tab.alloc {w : World} (h : Tab w) (hp : 0 < w.heap.size) (o : Obj) : Tab (w.alloc o) := h.below ((Below.refl w.heap.size w).alloc (Nat.le_refl _) o) hp
theorem neg_val (x : Nat) (h0 : 0 < x) (hx : x < 65536) : IntKind.u16.wrap (-(x : Int)) = ((65536 - x : Nat) : Int) := by
  rw [IntKind.wrap_u16]; omega
theorem tz_and (x : Nat) (h0 : 0 < x) (hx : x < 65536) : bits BinOp.and IntKind.u16 (x : Int) (IntKind.u16.wrap (-(x : Int))) = ((2 ^ tz x : Nat) : Int) := by
  rw [neg_val x h0 hx, u16_and_nat _ _ hx (by omega)]
  have h := (low_and 16 x h0 hx).1
  exact congrArg _ h
theorem tz_any (x : Nat) (w : World) (hx : x < 65536) (h0 : 0 < x) (hT : Tab w) :
    Calls Tryd.prog 51 #[.int .u16 x] w fun e w' => e = .returned (.int .i64 (tz x)) ∧ w = w' := by
  have hz : ((x : Int) == 0) = false := by rw [beq_eq_false_iff_ne]; omega
  have hl : tz x < 16 := (low_and 16 x h0 hx).2
  obtain ⟨d1, d2⟩ := deb_at (tz x) hl
  have hp : 2 ^ tz x < 65536 := pow_lt _ (by omega)
  have hv := tz_and x h0 hx
  have hqg : ∀ p : Nat, p < 65536 → ((p : Int) % 4294967296 * 125613361 % 4294967296 / 134217728).toNat = p * 125613361 % 4294967296 / 134217728 := by
    intro p hp
    rw [show (p : Int) % 4294967296 = p by omega, show ((p : Int) * 125613361 % 4294967296 / 134217728) = ((p * 125613361 % 4294967296 / 134217728 : Nat) : Int) from by rw [Int.natCast_ediv, Int.natCast_emod, Int.natCast_mul]; rfl, Int.toNat_natCast]
  have hq : (((2 ^ tz x : Nat) : Int) % 4294967296 * 125613361 % 4294967296 / 134217728).toNat = 2 ^ tz x * 125613361 % 4294967296 / 134217728 := hqg _ hp
  clear hqg
  have hc := hT _ d1
  rw [d2, ← hq, ← hv] at hc
  have hi1 : 0 ≤ bits BinOp.and IntKind.u16 (x : Int) (IntKind.u16.wrap (-(x : Int))) % 4294967296 * 125613361 % 4294967296 / 134217728 := by rw [hv]; omega
  have hi2 : bits BinOp.and IntKind.u16 (x : Int) (IntKind.u16.wrap (-(x : Int))) % 4294967296 * 125613361 % 4294967296 / 134217728 < 32 := by rw [hv]; omega
  clear hq hv d1 d2 hT
  go_enter Tryd.func51, Tryd.ntmps51
  go_wp2
  go_ret
  exact ⟨rfl, rfl⟩
end Go.Proofs.YtfgangkpebkicaaDoor

/-
  Plain: the list that Least makes.
-/
namespace Go.Proofs.YtfgangkpebkicaaDoor
open Go.RowKit
set_option maxRecDepth 20000
/-- The lowest item of a set of sixteen; 16 where it is empty. -/
def nextOf (r : Nat) : Nat := if r = 0 then 16 else tz r
def lsD (b : Nat → Nat) (n : Nat) : Nat → Nat
  | 0 => 0
  | k + 1 => lsD b n k ||| (2 ^ nextOf (rdyUp b (lsD b n k) n) % 65536)
def lsL (b : Nat → Nat) (n : Nat) : Nat → List Int
  | 0 => []
  | k + 1 => lsL b n k ++ [(nextOf (rdyUp b (lsD b n k) n) : Int)]
theorem lsD_lt (b : Nat → Nat) (n : Nat) : ∀ k, lsD b n k < 65536
  | 0 => by unfold lsD; decide
  | k + 1 => by
    unfold lsD
    exact Nat.or_lt_two_pow (n := 16) (lsD_lt b n k) (Nat.mod_lt _ (by decide))
theorem lsL_length (b : Nat → Nat) (n : Nat) : ∀ k, (lsL b n k).length = k
  | 0 => rfl
  | k + 1 => by unfold lsL; rw [List.length_append, lsL_length b n k]; rfl
end Go.Proofs.YtfgangkpebkicaaDoor

/-
  Contract of order.Least.
-/
namespace Go.Proofs.YtfgangkpebkicaaDoor
open Go.RowKit
set_option maxRecDepth 20000
theorem tz_zero (w : World) : Calls Tryd.prog 51 #[.int .u16 0] w fun e w' => e = .returned (.int .i64 16) ∧ w = w' := by
  go_enter Tryd.func51, Tryd.ntmps51
  go_wp2
  go_ret
  exact ⟨rfl, rfl⟩
theorem next_any (x : Nat) (w : World) (hx : x < 65536) (hT : Tab w) :
    Calls Tryd.prog 51 #[.int .u16 x] w fun e w' => e = .returned (.int .i64 (nextOf x)) ∧ w = w' := by
  unfold nextOf
  by_cases h : x = 0
  · subst h
    exact tz_zero w
  · rw [if_neg h]
    exact tz_any x w hx (by omega) hT
theorem nextOf_le (x : Nat) (hx : x < 65536) : nextOf x ≤ 16 := by
  unfold nextOf
  split
  · omega
  · exact Nat.le_of_lt (low_and 16 x (by omega) hx).2
structure LRel (w : World) (B G n : Nat) (a b : Nat → Nat) (v : Value) (xs : List Int) (wr : World) : Prop where
  below : Below w.heap.size w wr
  arg : RelB wr w.heap.size n a
  bef : RelB wr B n b
  own : JOwn wr G v xs
  tab : Tab wr
  pos : 0 < w.heap.size
  fb : w.heap.size < B
  fg : B < G
  sz : G ≤ wr.heap.size
theorem LRel.then_ {w wr w' : World} {B G n : Nat} {a b : Nat → Nat} {v : Value} {xs : List Int} (h : LRel w B G n a b v xs wr) (hb : Below wr.heap.size wr w') : LRel w B G n a b v xs w' := by
  have h1 := h.fb; have h2 := h.fg; have h3 := h.sz; have h4 := h.below.size; have h5 := h.pos
  exact ⟨h.below.trans (hb.mono h4), Lies.below h.arg hb (by omega), Lies.below h.bef hb (by omega), h.own.then_ hb, h.tab.below hb (by omega), h5, h1, h2, Nat.le_trans h3 hb.size⟩
theorem LRel.app {w wr w' : World} {B G n : Nat} {a b : Nat → Nat} {v v' : Value} {xs ys : List Int} (h : LRel w B G n a b v xs wr) (hb : Below G wr w') (ho : JOwn w' G v' ys) : LRel w B G n a b v' ys w' := by
  have h1 := h.fb; have h2 := h.fg; have h3 := h.sz; have h4 := h.below.size; have h5 := h.pos
  exact ⟨h.below.trans (hb.mono (by omega)), Lies.below h.arg hb (by omega), Lies.below h.bef hb (by omega), ho, h.tab.below hb (by omega), h5, h1, h2, Nat.le_trans h3 hb.size⟩
set_option maxHeartbeats 1000000 in
theorem least_no (n : Nat) (a : Nat → Nat) (w : World) (h : Good n a) (hy : cyc (clo n a) n = false) (hT : Tab w) (hpos : 0 < w.heap.size) :
    Calls Tryd.prog 25 #[relV n a] w fun e w' => ∃ v, e = .returned (.tuple #[v, .int .i64 0]) ∧ JOwn w' w.heap.size v (lsL (rev n (clo n a)) n n) ∧ Below w.heap.size w w' := by
  have hcl := clo_lt h
  have hle := h.le
  have hmk := made_cap n (by omega)
  go_enter Tryd.func25, Tryd.ntmps25
  go_wp2_with fail
  refine (acyclic_no n a _ h hy).mono ?_
  rintro e w1 ⟨rfl, hb1⟩
  have hz1 : w.heap.size + 1 ≤ w1.heap.size := by have := hb1.size; simpa using this
  have hA1 : RelB w1 w.heap.size n a := Lies.below (Lies.new w _ _) hb1 (by rw [World.size_alloc]; omega)
  have hw1 : Below w.heap.size w w1 := ((Below.refl _ _).alloc (Nat.le_refl _) _).trans (hb1.mono (by simp))
  have HH := Lib.hid (And.intro hA1 (And.intro hw1 hz1))
  have HT := Lib.hid hT
  clear hb1 hA1 hw1 hz1 hT
  go_wp2_with fail
  refine (reverse_any n (clo n a) _ hle hcl).mono ?_
  rintro e w2 ⟨rfl, hb2⟩
  obtain ⟨hA1, hw1, hz1⟩ := HH.out
  have hz2 : w1.heap.size + 1 ≤ w2.heap.size := by have := hb2.size; simpa using this
  have hA2 : RelB w2 w.heap.size n a := Lies.below (Lies.alloc hA1 _) hb2 (by simp; omega)
  have hw2 : Below w.heap.size w w2 := (hw1.alloc (by omega) _).trans (hb2.mono (by simp; omega))
  have hs := hA2.size
  have hlt : w.heap.size < w2.heap.size := by omega
  have HH2 := Lib.hid (And.intro hA2 hw2)
  clear hb2 hA1 hw1 hz1 HH hA2 hw2 hz2
  go_wp2_with fail
  obtain ⟨hA2, hw2⟩ := HH2.out
  change Code.wp _ _ _ _ ((w2.alloc (.cells (relCs n (rev n (clo n a))) 46)).alloc (.cells (tabCs n fun _ => 0) 3))
  have HN0 : LRel w w2.heap.size (w2.heap.size + 1) n a (rev n (clo n a)) (.slice (some ⟨w2.heap.size + 1, 0, none⟩) 0 n) [] ((w2.alloc (.cells (relCs n (rev n (clo n a))) 46)).alloc (.cells (tabCs n fun _ => 0) 3)) := by
    have hG := JOwn.made (w2.alloc (.cells (relCs n (rev n (clo n a))) 46)) n (by omega)
    rw [World.size_alloc] at hG
    have hb : Below w.heap.size w ((w2.alloc (.cells (relCs n (rev n (clo n a))) 46)).alloc (.cells (tabCs n fun _ => 0) 3)) := (hw2.alloc (by omega) _).alloc (by simp; omega) _
    exact ⟨hb, Lies.alloc (Lies.alloc hA2 _) _, Lies.alloc (Lies.new _ _ _) _, hG, HT.out.below hb hpos, hpos, hlt, by omega, by simp⟩
  generalize (w2.alloc (.cells (relCs n (rev n (clo n a))) 46)).alloc (.cells (tabCs n fun _ => 0) 3) = W at HN0 ⊢
  have hrl := rev_lt hle (clo n a)
  generalize hbb : rev n (clo n a) = b at HN0 hrl ⊢
  have HBB := Lib.hid hbb
  clear hbb
  have hBlt := HN0.fb
  generalize w2.heap.size + 1 = G at HN0 ⊢
  generalize w2.heap.size = B at HN0 hBlt ⊢
  clear hA2 hw2 HH2 hs hlt hmk
  go_loopw [7, 8, 25] (fun v d i wr => ∃ k : Nat, k ≤ n ∧ i = .int .i64 k ∧ d = .int .u16 (lsD b n k) ∧ LRel w B G n a b v (lsL b n k) wr) (fun _ _ i _ => n - (intOf i).toNat)
  case atStart => exact ⟨0, by omega, rfl, rfl, HN0⟩
  case round =>
    clear HN0
    obtain ⟨k, hk, rfl, rfl, hR⟩ := hrel
    by_cases hkn : k < n
    · have hb0 := hR.bef.size
      obtain ⟨c0, c1, c2, c3, c4, c5, c6, c7, c8, c9, c10, c11⟩ := hR.bef.rows
      have HR := Lib.hid hR
      have hdl := lsD_lt b n k
      have hll := lsL_length b n k
      have hD : lsD b n (k + 1) = lsD b n k ||| (2 ^ nextOf (rdyUp b (lsD b n k) n) % 65536) := rfl
      have hL : lsL b n (k + 1) = lsL b n k ++ [(nextOf (rdyUp b (lsD b n k) n) : Int)] := rfl
      generalize lsD b n k = d at hdl hD hL ⊢
      have HD := Lib.hid hD
      have HL := Lib.hid hL
      have HLL := Lib.hid hll
      clear hR hD hL hll
      go_wp2_with fail
      refine (ready_any n b d wr hle (fun i _ => hrl i) hdl).mono ?_
      rintro e w3 ⟨rfl, hb3⟩
      have hR := HR.out.then_ hb3
      clear HR hb0 c0 c1 c2 c3 c4 c5 c6 c7 c8 c9 c10 c11 hb3
      have hrx : rdyUp b d n < 65536 := rdyUp_lt b d 16 n (by omega)
      go_wp2_with fail
      refine (next_any (rdyUp b d n) w3 hrx hR.tab).mono ?_
      rintro e w4 ⟨rfl, rfl⟩
      have ht := nextOf_le (rdyUp b d n) hrx
      have hown := hR.own
      have hsz := hR.sz
      have HR := Lib.hid hR
      have HO := Lib.hid hown
      clear hR hown hrx
      generalize nextOf (rdyUp b d n) = t at ht HD HL ⊢
      have hsh : IntKind.u16.wrap (2 ^ t) = ((2 ^ t % 65536 : Nat) : Int) := by rw [IntKind.wrap_u16]; simp
      have hor := u16_or_nat d (2 ^ t % 65536) hdl (by omega)
      rw [← hsh] at hor
      clear hsh
      go_wp2_with (at_builtin; refine app_one rfl (.tmp 31) (.tmp 33) rfl G _ (lsL b n k) rfl HO.out (t : Int) rfl (by rw [HLL.out]; omega) hsz ?_; intro v' w5 ho5 hb5)
      go_roundw
      case rel => exact ⟨k + 1, by omega, by go_num, by rw [HD.out], by rw [HL.out]; exact HR.out.app hb5 ho5⟩
      case measure => simp [intOf]; omega
    · have hkn' : k = n := by omega
      subst hkn'
      have HR := Lib.hid hR
      clear hR
      go_wp2_with fail
      go_ret2
      exact ⟨_, rfl, by rw [HBB.out]; exact HR.out.own.mono (by have := HR.out.fg; omega), HR.out.below⟩
end Go.Proofs.YtfgangkpebkicaaDoor

/-
  Where closeAcyclic finds a fault.
-/
namespace Go.Proofs.YtfgangkpebkicaaDoor
open Go.RowKit
set_option maxRecDepth 20000
/-- closeAcyclic tells the fault E, whatever the memory. -/
def Fails (n : Int) (a : Nat → Nat) (E : Int) : Prop := ∀ w : World, Calls Tryd.prog 49 #[relV n a] w fun e w' => e = .returned (.tuple #[zeroV, .int .i64 E]) ∧ Below w.heap.size w w'
theorem fails_round {n : Nat} {a : Nat → Nat} (h : Good n a) (hy : cyc (clo n a) n = true) : Fails n a 4 := fun w => acyclic_yes n a w h hy
end Go.Proofs.YtfgangkpebkicaaDoor

/-
  Where closeAcyclic finds a fault, Least answers that fault.
-/
namespace Go.Proofs.YtfgangkpebkicaaDoor
open Go.RowKit
set_option maxRecDepth 20000
set_option maxHeartbeats 1000000 in
theorem least_err (n : Int) (a : Nat → Nat) (E : Int) (w : World) (hE : (E != 0) = true) (hF : Fails n a E) :
    Calls Tryd.prog 25 #[relV n a] w fun e w' => e = .returned (.tuple #[.slice none 0 0, .int .i64 E]) ∧ Below w.heap.size w w' := by
  go_enter Tryd.func25, Tryd.ntmps25
  go_wp2_with fail
  refine (hF _).mono ?_
  rintro e w1 ⟨rfl, hb1⟩
  have hw1 : Below w.heap.size w w1 := ((Below.refl _ _).alloc (Nat.le_refl _) _).trans (hb1.mono (by simp))
  have HW := Lib.hid hw1
  clear hb1 hw1
  go_wp2_with fail
  go_ret2
  exact ⟨rfl, HW.out.alloc HW.out.size _⟩
end Go.Proofs.YtfgangkpebkicaaDoor

/-
  Plain: the closure is transitive, has all that was there, and closing it once more changes nothing.
-/
namespace Go.Proofs.YtfgangkpebkicaaDoor
open Go.RowKit
set_option maxRecDepth 20000
/-- What stands ahead of v stands ahead of all that v stands ahead of. -/
def TransV (n : Nat) (c : Nat → Nat) : Prop := ∀ i, i < n → ∀ v, v < n → (c i).testBit v = true → ∀ j, (c v).testBit j = true → (c i).testBit j = true
theorem stepV_bit (n : Nat) (a : Nat → Nat) (v i j : Nat) (hi : i < n) : (stepV n a v i).testBit j = ((a i).testBit j || ((a i).testBit v && (a v).testBit j)) := by
  unfold stepV
  by_cases h : (a i).testBit v = true
  · rw [if_pos ⟨hi, h⟩, Nat.testBit_or, h]; rfl
  · rw [if_neg (fun k => h k.2)]
    have : (a i).testBit v = false := by simpa using h
    rw [this]; simp
/-- Behind k rounds one may go through the items below k. -/
theorem warsh_trans (n : Nat) (a : Nat → Nat) : ∀ k, k ≤ n → ∀ i, i < n → ∀ v, v < k → ((warsh n a k i).testBit v = true) → ∀ j, (warsh n a k v).testBit j = true → (warsh n a k i).testBit j = true
  | 0, _ => fun _ _ v hv => by omega
  | k + 1, hk => by
    have ih := warsh_trans n a k (by omega)
    intro i hi v hv hiv j hvj
    change (stepV n (warsh n a k) k i).testBit v = true at hiv
    change (stepV n (warsh n a k) k v).testBit j = true at hvj
    show (stepV n (warsh n a k) k i).testBit j = true
    rw [stepV_bit n _ k _ _ hi] at hiv ⊢
    rw [stepV_bit n _ k _ _ (by omega)] at hvj
    simp only [Bool.or_eq_true, Bool.and_eq_true] at hiv hvj ⊢
    rcases Nat.lt_or_ge v k with hvk | hvk
    · rcases hiv with h1 | ⟨h1, h2⟩
      · rcases hvj with h3 | ⟨h3, h4⟩
        · exact .inl (ih i hi v hvk h1 j h3)
        · exact .inr ⟨ih i hi v hvk h1 k h3, h4⟩
      · rcases hvj with h3 | ⟨h3, h4⟩
        · exact .inr ⟨h1, ih k (by omega) v hvk h2 j h3⟩
        · exact .inr ⟨h1, h4⟩
    · obtain rfl : v = k := by omega
      have hik : (warsh n a v i).testBit v = true := by
        rcases hiv with h1 | ⟨h1, _⟩ <;> exact h1
      have hkj : (warsh n a v v).testBit j = true := by
        rcases hvj with h3 | ⟨_, h4⟩
        · exact h3
        · exact h4
      exact .inr ⟨hik, hkj⟩
theorem warsh_has (n : Nat) (a : Nat → Nat) (i j : Nat) (h : (a i).testBit j = true) : ∀ k, (warsh n a k i).testBit j = true
  | 0 => h
  | k + 1 => by
    show (stepV n (warsh n a k) k i).testBit j = true
    unfold stepV
    split
    · rw [Nat.testBit_or, warsh_has n a i j h k]; rfl
    · exact warsh_has n a i j h k
/-- Nothing but the first n items comes up, if so it was. -/
theorem warsh_in {n : Nat} {a : Nat → Nat} (h : ∀ i, i < n → ∀ j, (a i).testBit j = true → j < n) : ∀ k, k ≤ n → ∀ i, i < n → ∀ j, (warsh n a k i).testBit j = true → j < n
  | 0, _ => h
  | k + 1, hk => fun i hi j hj => by
    change (stepV n (warsh n a k) k i).testBit j = true at hj
    rw [stepV_bit n _ k _ _ hi] at hj
    simp only [Bool.or_eq_true, Bool.and_eq_true] at hj
    rcases hj with h1 | ⟨_, h2⟩
    · exact warsh_in h k (by omega) i hi j h1
    · exact warsh_in h k (by omega) k (by omega) j h2
theorem warsh_out {n : Nat} {a : Nat → Nat} (i : Nat) (hi : n ≤ i) : ∀ k, warsh n a k i = a i
  | 0 => rfl
  | k + 1 => by
    show stepV n (warsh n a k) k i = a i
    unfold stepV
    rw [if_neg (fun h => by omega)]
    exact warsh_out i hi k
end Go.Proofs.YtfgangkpebkicaaDoor

/-
  Plain: relations that Check lets by: their closure is one, closed, and has all that was there. The three ways of Check.
-/
namespace Go.Proofs.YtfgangkpebkicaaDoor
open Go.RowKit
set_option maxRecDepth 20000
theorem not_bit (x j : Nat) (hx : x < 65536) : (65535 - x).testBit j = (decide (j < 16) && !x.testBit j) := by
  have := Nat.testBit_two_pow_sub_succ (n := 16) hx j
  rw [show 2 ^ 16 - (x + 1) = 65535 - x by omega] at this
  exact this
theorem sub_zero {x y : Nat} (hy : y < 65536) (h : ∀ j, x.testBit j = true → y.testBit j = true) : x &&& (65535 - y) = 0 := by
  apply Nat.eq_of_testBit_eq
  intro j
  rw [Nat.testBit_and, not_bit _ _ hy, Nat.zero_testBit]
  cases hj : x.testBit j
  · rfl
  · rw [h j hj]; simp
theorem bit_lt16 {x j : Nat} (hx : x < 65536) (hj : x.testBit j = true) : j < 16 := by
  rcases Nat.lt_or_ge j 16 with h | h
  · exact h
  · have : x < 2 ^ j := Nat.lt_of_lt_of_le (show x < 2 ^ 16 from hx) (Nat.pow_le_pow_right (by omega) h)
    rw [Nat.testBit_lt_two_pow this] at hj; cases hj
theorem sub_of_zero {x y : Nat} (hx : x < 65536) (hy : y < 65536) (h : x &&& (65535 - y) = 0) (j : Nat) (hj : x.testBit j = true) : y.testBit j = true := by
  have h1 := congrArg (fun t => t.testBit j) h
  simp only [Nat.testBit_and, not_bit _ _ hy, Nat.zero_testBit, hj, bit_lt16 hx hj] at h1
  simpa using h1
theorem ones_bit (n j : Nat) : (2 ^ n - 1).testBit j = decide (j < n) := Nat.testBit_two_pow_sub_one n j
theorem ones_lt {n : Nat} (h : n ≤ 12) : 2 ^ n - 1 < 65536 := by
  have h2 : 2 ^ n ≤ 4096 := Nat.le_trans (Nat.pow_le_pow_right (by omega) h) (by decide)
  omega
theorem Good.inn {n : Nat} {a : Nat → Nat} (h : Good n a) {i : Nat} (hi : i < 12) {j : Nat} (hj : (a i).testBit j = true) : j < n := by
  have hb := h.rows i hi
  unfold rowBad at hb
  rw [Bool.or_eq_false_iff] at hb
  have h0 : a i &&& (65535 - (2 ^ n - 1)) = 0 := by simpa using hb.1
  have := sub_of_zero (h.lt i hi) (ones_lt h.le) h0 j hj
  rw [ones_bit] at this
  simpa using this
theorem Good.out {n : Nat} {a : Nat → Nat} (h : Good n a) {i : Nat} (hi : i < 12) (hn : n ≤ i) : a i = 0 := by
  have hb := h.rows i hi
  unfold rowBad at hb
  rw [Bool.or_eq_false_iff] at hb
  simpa [hn] using hb.2
theorem good_of {n : Nat} {a : Nat → Nat} (hn : n ≤ 12) (hl : ∀ i, i < 12 → a i < 65536) (hi : ∀ i, i < 12 → ∀ j, (a i).testBit j = true → j < n) (ho : ∀ i, i < 12 → n ≤ i → a i = 0) : Good n a := by
  refine ⟨hn, hl, fun i h => ?_⟩
  unfold rowBad
  rw [Bool.or_eq_false_iff]
  refine ⟨?_, ?_⟩
  · have := sub_zero (x := a i) (ones_lt hn) (fun j hj => by rw [ones_bit]; exact decide_eq_true (hi i h j hj))
    rw [this]; rfl
  · by_cases hni : n ≤ i
    · rw [ho i h hni]; simp
    · simp [hni]
theorem Good.clo_in {n : Nat} {a : Nat → Nat} (h : Good n a) {i : Nat} (hi : i < n) {j : Nat} (hj : (clo n a i).testBit j = true) : j < n :=
  warsh_in (fun _ hi _ hj => h.inn (Nat.lt_of_lt_of_le hi h.le) hj) n (Nat.le_refl _) i hi j hj
theorem Good.clo_out {n : Nat} {a : Nat → Nat} (h : Good n a) {i : Nat} (hi : i < 12) (hn : n ≤ i) : clo n a i = 0 := (warsh_out i hn n).trans (h.out hi hn)
theorem Good.clo {n : Nat} {a : Nat → Nat} (h : Good n a) : Good n (clo n a) := by
  refine good_of h.le (fun i hi => warsh_lt (B := 16) h.lt n h.le i hi) (fun i hi j hj => ?_) (fun i hi hn => h.clo_out hi hn)
  rcases Nat.lt_or_ge i n with hin | hin
  · exact h.clo_in hin hj
  · rw [h.clo_out hi hin] at hj; simp at hj
theorem clo_trans (n : Nat) (a : Nat → Nat) : TransV n (clo n a) := fun i hi v hv hiv j hj => warsh_trans n a n (Nat.le_refl _) i hi v hv hiv j hj
theorem clo_has (n : Nat) (a : Nat → Nat) (i j : Nat) (h : (a i).testBit j = true) : (clo n a i).testBit j = true := warsh_has n a i j h n
end Go.Proofs.YtfgangkpebkicaaDoor
