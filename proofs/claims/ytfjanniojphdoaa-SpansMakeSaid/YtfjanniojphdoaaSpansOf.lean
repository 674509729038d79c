/-
  Contract of alibref.SpansOf.
-/
import Derived.Test.YtfjanniojphdoaaRelRight
import Derived.Test.YtfjanniojphdoaaSpApp
namespace Go.Proofs.Ytfjanniojphdoaa
open Go.RowKit
set_option maxRecDepth 20000

/-- append(s, x), x a span, behind the block that holds it. -/
theorem app_span1 {W : World} {ops : Array Oper} {rest : List Oper} {o : Oper} {a : Act} {Q : Exit → Act → World → Prop} (hgd : o.guard = none) (s x : Operand)
    (ho : o.op = .call { callee := .builtin .append, args := #[s, x], argTypes := #[22, 22] })
    (B : Nat) (v : Value) (n : Nat) (xs : List Value) (hs : a.eval s = v) (hown : W.ownsRow B 34 2 v n xs) (F T : Int) (hx : a.eval x = .slice (some ⟨W.heap.size, 0, none⟩) 1 1)
    (hn : n ≤ 12) (hB : B ≤ W.heap.size)
    (k : ∀ v' w', w'.ownsRow B 34 2 v' (n + 1) (xs ++ [.int .i64 F, .int .i64 T]) → Below B W w' → wpList Try.prog ops Q rest (a.put o.dst v') w') :
    wpList Try.prog ops Q (o :: rest) a (W.alloc (.cells #[.int .i64 F, .int .i64 T] 34)) := by
  obtain ⟨i0, hi, hz0, hz1, hz2⟩ := info_parts info_span
  refine wpList_append_own _ hgd s x 22 ho B 34 i0 (.agg #[.int .i64 0, .int .i64 0]) 2 16 Try.underlying22 hi hz0 hz1 hz2 rfl (by decide) v n xs hs (World.ownsRow.alloc hown _)
    ⟨W.heap.size, 0, none⟩ 1 1 [.int .i64 F, .int .i64 T] hx rfl ?_ ?_ (by unfold maxLen; omega) (by omega) (by simp; omega) ?_
  · intro j u hu
    have hl := Lies.new W 34 #[.int .i64 F, .int .i64 T]
    match j, hu with
    | 0, hu => injection hu with hu; subst hu; rw [WideShapes.add_plain]; exact Lies.cell hl 0
    | 1, hu => injection hu with hu; subst hu; rw [WideShapes.add_plain]; exact Lies.cell hl 1
    | j + 2, hu => simp at hu
  · intro u hu
    simp at hu
    rcases hu with rfl | rfl <;> rfl
  · intro v' w' h1 h2 _
    refine k v' w' h1 ?_
    have hl := World.ownsRow.lt hown
    exact ((Below.refl B W).alloc hB _).grown h2 (by simp; omega) (fun k hk => (hl k hk).1)

/-- The first k spans, one behind the other. -/
def lst (F T : Nat → Int) (k : Nat) : List Value := (List.range (k * 2)).map fun c => .int .i64 (both F T c)
theorem lst_step (F T : Nat → Int) (k : Nat) : lst F T (k + 1) = lst F T k ++ [.int .i64 (F k), .int .i64 (T k)] := by
  unfold lst
  rw [show (k + 1) * 2 = k * 2 + 1 + 1 by omega, List.range_succ, List.range_succ]
  simp [both_from, both_to]

structure SoO (w : World) (n : Nat) (a : Nat → Nat) (v : Value) (k : Nat) (xs : List Value) (wr : World) : Prop where
  below : Below w.heap.size w wr
  rel : RelB wr w.heap.size n a
  out : wr.ownsRow (w.heap.size + 1) 34 2 v k xs
theorem own_then {w w' : World} {B k : Nat} {v : Value} {xs : List Value} (h : w.ownsRow B 34 2 v k xs) (hb : Below w.heap.size w w') : w'.ownsRow B 34 2 v k xs :=
  World.ownsRow.kept h (row := none) ⟨hb.os, hb.tape, hb.output, hb.size, fun k hk _ => hb.block k hk⟩ (by
    cases hv : v.ownBlock with
    | none => exact .inl rfl
    | some k => exact .inr (by simp))
theorem SoO.next {w wr wr' : World} {n : Nat} {a : Nat → Nat} {v : Value} {k : Nat} {xs : List Value} (h : SoO w n a v k xs wr) (hb : Below wr.heap.size wr wr') : SoO w n a v k xs wr' :=
  ⟨h.below.trans (hb.mono h.below.size), Lies.below h.rel hb h.rel.lt, own_then h.out hb⟩

structure SoR (w : World) (n : Nat) (a : Nat → Nat) (S : Nat) (F T : Int) (v : Value) (k : Nat) (xs : List Value) (wr : World) : Prop where
  o : SoO w n a v k xs wr
  sp : Lies wr S 34 #[.int .i64 F, .int .i64 T]
  far : w.heap.size < S
  ne : v.ownBlock ≠ some S
theorem SoR.next {w wr wr' : World} {n : Nat} {a : Nat → Nat} {S : Nat} {F T : Int} {v : Value} {k : Nat} {xs : List Value} (h : SoR w n a S F T v k xs wr) (hb : Below wr.heap.size wr wr') : SoR w n a S F T v k xs wr' :=
  ⟨h.o.next hb, Lies.below h.sp hb h.sp.lt, h.far, h.ne⟩
theorem SoR.put {w wr : World} {n : Nat} {a : Nat → Nat} {S : Nat} {F T F' T' : Int} {v : Value} {k : Nat} {xs : List Value} (h : SoR w n a S F T v k xs wr) (i : Nat) (x : Int)
    (e : (#[.int .i64 F, .int .i64 T] : Array Value).setIfInBounds i (.int .i64 x) = #[.int .i64 F', .int .i64 T']) : SoR w n a S F' T' v k xs (wr.setCell ⟨S, i, none⟩ (.int .i64 x)) := by
  have h1 := h.far
  have hg : wr.grownBy (wr.setCell ⟨S, i, none⟩ (.int .i64 x)) (some S) := by
    have hb := (Below.refl 0 wr).setCell (p := ⟨S, i, none⟩) (Nat.zero_le _) (.int .i64 x)
    exact ⟨hb.os, hb.tape, hb.output, hb.size, fun k _ hne => Below.heap_setCell wr ⟨S, i, none⟩ _ k (fun e => hne (by rw [e]))⟩
  exact ⟨⟨h.o.below.setCell (by show w.heap.size ≤ S; omega) _, Lies.far h.o.rel (by show w.heap.size ≠ S; omega) _, World.ownsRow.kept h.o.out hg (.inr h.ne)⟩, Lies.cast (Lies.set_ h.sp i (.int .i64 x)) e, h1, h.ne⟩

set_option maxHeartbeats 16000000 in
theorem sof_go (n : Nat) (a : Nat → Nat) (w : World) (hn : n ≤ 12) :
    Calls Try.prog 17 #[relV n a] w fun e w' => ∃ v, e = .returned v ∧ Below w.heap.size w w' ∧ w'.ownsRow (w.heap.size + 1) 34 2 v n (lst (fun i => (frOf n a i : Int)) (fun i => (toOf n a i : Int)) n) := by
  have hO : SoO w n a (.slice none 0 0) 0 (lst (fun i => (frOf n a i : Int)) (fun i => (toOf n a i : Int)) 0) (w.alloc (.cells (relCs n a) 26)) :=
    ⟨(Below.refl _ _).alloc (Nat.le_refl _) _, Lies.new _ _ _, World.ownsRow_nil _ _ _ _⟩
  have HO := Lib.hid hO
  clear hO
  go_enter Try.func17, Try.ntmps17
  go_wp2_with fail
  have hO := HO.out
  clear HO
  change Code.wp _ _ _ _ (w.alloc (.cells (relCs n a) 26))
  generalize w.alloc (.cells (relCs n a) 26) = W at hO ⊢
  go_loopw [3, 12] (fun v t wr => ∃ (i : Nat) (v0 : Value), i ≤ n ∧ t = .int .i64 i ∧ v0 = v ∧ SoO w n a v0 i (lst (fun i => (frOf n a i : Int)) (fun i => (toOf n a i : Int)) i) wr) (fun _ t _ => n - (intOf t).toNat)
  case atStart => exact ⟨0, _, by omega, rfl, rfl, hO⟩
  case round =>
    clear hO
    obtain ⟨i, v3, hi, rfl, rfl, hO⟩ := hrel
    by_cases hin : i < n
    · have s0 := hO.rel.size
      have slt := hO.rel.lt
      have HO := Lib.hid hO
      clear hO
      go_wp2_with fail
      obtain ⟨S, hS⟩ : ∃ S, S = wr.heap.size := ⟨_, rfl⟩
      have hR : SoR w n a S ((frUp n (rev n a) i 0 : Nat) : Int) ((toUp n (rev n a) i 0 : Nat) : Int) v3 i (lst (fun i => (frOf n a i : Int)) (fun i => (toOf n a i : Int)) i) (wr.alloc (.cells #[.int .i64 0, .int .i64 0] 34)) := by
        refine ⟨HO.out.next ((Below.refl _ _).alloc (Nat.le_refl _) _), by rw [hS]; exact Lies.new _ _ _, by rw [hS]; exact slt, fun e => ?_⟩
        have := (World.ownsRow.lt HO.out.out S e).2
        omega
      rw [← hS]
      clear hS HO s0 slt
      generalize wr.alloc (.cells #[.int .i64 0, .int .i64 0] 34) = W2 at hR ⊢
      go_loopw [18] (fun t wr => ∃ s : Nat, s ≤ n ∧ t = .int .i64 s ∧ SoR w n a S ((frUp n (rev n a) i s : Nat) : Int) ((toUp n (rev n a) i s : Nat) : Int) v3 i (lst (fun i => (frOf n a i : Int)) (fun i => (toOf n a i : Int)) i) wr) (fun t _ => n - (intOf t).toNat)
      case atStart => exact ⟨0, by omega, rfl, hR⟩
      case round =>
        clear hR
        obtain ⟨s, hs, rfl, hR⟩ := hrel
        by_cases hsn : s < n
        · have s0 := hR.o.rel.size
          have HR := Lib.hid hR
          clear hR
          obtain ⟨X, hX⟩ : ∃ X, X = frUp n (rev n a) i s := ⟨_, rfl⟩
          obtain ⟨Y, hY⟩ : ∃ Y, Y = toUp n (rev n a) i s := ⟨_, rfl⟩
          have hXs : X ≤ s := hX ▸ cntP_le _ s
          have hYs : Y ≤ s := hY ▸ cntP_le _ s
          have hFs : frUp n (rev n a) i (s + 1) = X + if (szIs n (rev n a) s && decide (s < pop (rev n a i))) = true then 1 else 0 := by rw [hX]; rfl
          have hTs : toUp n (rev n a) i (s + 1) = Y + if (szIs n (rev n a) s && (decide (0 < s) && allMore n (rev n a) i s)) = true then 1 else 0 := by rw [hY]; rfl
          rw [← hX, ← hY] at HR
          have HS := Lib.hid (And.intro hFs hTs)
          clear hX hY hFs hTs
          go_wp2_with fail
          have hR := HR.out
          clear HR s0
          obtain ⟨wo2, rfl⟩ : ∃ wo : World, wo = wr := ⟨_, rfl⟩
          go_loopw [7, 8, 23] (fun p q t wr => ∃ j : Nat, j ≤ n ∧ t = .int .i64 j ∧ p = .bool (anyP (fun j => decide (pop (rev n a j) = s)) j) ∧ q = .bool (!anyP (fun j => (rev n a j).testBit i && decide (pop (rev n a j) ≤ s)) j) ∧
            SoR w n a S (X : Int) (Y : Int) v3 i (lst (fun i => (frOf n a i : Int)) (fun i => (toOf n a i : Int)) i) wr) (fun _ _ t _ => n - (intOf t).toNat)
          case atStart => exact ⟨0, by omega, rfl, rfl, rfl, hR⟩
          case round =>
            clear hR
            obtain ⟨j, hj, rfl, rfl, rfl, hR⟩ := hrel
            by_cases hjn : j < n
            · have c0 := hR.o.rel.size
              obtain ⟨c1, c2, c3, c4, c5, c6, c7, c8, c9, c10, c11, c12⟩ := hR.o.rel.rows
              have HR := Lib.hid hR
              clear hR
              have hb := fun W => before_any n a j W hn hjn
              have h1 : anyP (fun j => decide (pop (rev n a j) = s)) (j + 1) = (anyP (fun j => decide (pop (rev n a j) = s)) j || decide (pop (rev n a j) = s)) := rfl
              have h2 : anyP (fun j => (rev n a j).testBit i && decide (pop (rev n a j) ≤ s)) (j + 1) = (anyP (fun j => (rev n a j).testBit i && decide (pop (rev n a j) ≤ s)) j || ((rev n a j).testBit i && decide (pop (rev n a j) ≤ s))) := rfl
              have h3 : (rev n a j).testBit i = (a i).testBit j := by rw [rev_bit]; simp [hin, hjn]
              rw [h3] at h2
              unfold befOf at hb
              generalize anyP (fun j => decide (pop (rev n a j) = s)) j = p at h1 ⊢
              generalize anyP (fun j => (rev n a j).testBit i && decide (pop (rev n a j) ≤ s)) j = q at h2 ⊢
              generalize pop (rev n a j) = bj at hb h1 h2
              have HBF := Lib.hid hb
              have HF := Lib.hid (And.intro h1 h2)
              clear hb h1 h2 h3
              have i12 : i < 12 := by omega
              have j15 : j ≤ 15 := by omega
              by_cases d1 : bj = s
              · have d1' : ((bj : Int) == (s : Int)) = true := by rw [beq_iff_eq]; omega
                cases e1 : (a i).testBit j
                · have D := Lib.hid d1
                  clear d1
                  go_wp2_with (first | (go_at_call 27; refine (ahead_any _ a _ _ _ (by omega) (by omega)).mono ?_; rintro e w' ⟨rfl, hb'⟩; clear c0 c1 c2 c3 c4 c5 c6 c7 c8 c9 c10 c11 c12; have hR' := HR.out.next hb'; have c0 := hR'.o.rel.size; obtain ⟨c1, c2, c3, c4, c5, c6, c7, c8, c9, c10, c11, c12⟩ := hR'.o.rel.rows; have HR := Lib.hid hR'; clear hR' hb') | (go_at_call 28; refine (HBF.out _).mono ?_; rintro e w' ⟨rfl, hb'⟩; clear c0 c1 c2 c3 c4 c5 c6 c7 c8 c9 c10 c11 c12; have hR' := HR.out.next hb'; have c0 := hR'.o.rel.size; obtain ⟨c1, c2, c3, c4, c5, c6, c7, c8, c9, c10, c11, c12⟩ := hR'.o.rel.rows; have HR := Lib.hid hR'; clear hR' hb'))
                  go_roundw
                  case rel => exact ⟨j + 1, by omega, by go_num, by rw [HF.out.1]; simp [D.out], by rw [HF.out.2]; simp [e1], HR.out⟩
                  case measure => simp [intOf]; omega
                · by_cases d2 : bj ≤ s
                  · have d2' : (bj : Int) ≤ (s : Int) := by omega
                    have D := Lib.hid (And.intro d1 d2)
                    clear d1 d2
                    go_wp2_with (first | (go_at_call 27; refine (ahead_any _ a _ _ _ (by omega) (by omega)).mono ?_; rintro e w' ⟨rfl, hb'⟩; clear c0 c1 c2 c3 c4 c5 c6 c7 c8 c9 c10 c11 c12; have hR' := HR.out.next hb'; have c0 := hR'.o.rel.size; obtain ⟨c1, c2, c3, c4, c5, c6, c7, c8, c9, c10, c11, c12⟩ := hR'.o.rel.rows; have HR := Lib.hid hR'; clear hR' hb') | (go_at_call 28; refine (HBF.out _).mono ?_; rintro e w' ⟨rfl, hb'⟩; clear c0 c1 c2 c3 c4 c5 c6 c7 c8 c9 c10 c11 c12; have hR' := HR.out.next hb'; have c0 := hR'.o.rel.size; obtain ⟨c1, c2, c3, c4, c5, c6, c7, c8, c9, c10, c11, c12⟩ := hR'.o.rel.rows; have HR := Lib.hid hR'; clear hR' hb'))
                    go_roundw
                    case rel => exact ⟨j + 1, by omega, by go_num, by rw [HF.out.1]; simp [D.out.1], by rw [HF.out.2]; simp [e1, D.out.2], HR.out⟩
                    case measure => simp [intOf]; omega
                  · have d2' : ¬ (bj : Int) ≤ (s : Int) := by omega
                    have D := Lib.hid (And.intro d1 d2)
                    clear d1 d2
                    go_wp2_with (first | (go_at_call 27; refine (ahead_any _ a _ _ _ (by omega) (by omega)).mono ?_; rintro e w' ⟨rfl, hb'⟩; clear c0 c1 c2 c3 c4 c5 c6 c7 c8 c9 c10 c11 c12; have hR' := HR.out.next hb'; have c0 := hR'.o.rel.size; obtain ⟨c1, c2, c3, c4, c5, c6, c7, c8, c9, c10, c11, c12⟩ := hR'.o.rel.rows; have HR := Lib.hid hR'; clear hR' hb') | (go_at_call 28; refine (HBF.out _).mono ?_; rintro e w' ⟨rfl, hb'⟩; clear c0 c1 c2 c3 c4 c5 c6 c7 c8 c9 c10 c11 c12; have hR' := HR.out.next hb'; have c0 := hR'.o.rel.size; obtain ⟨c1, c2, c3, c4, c5, c6, c7, c8, c9, c10, c11, c12⟩ := hR'.o.rel.rows; have HR := Lib.hid hR'; clear hR' hb'))
                    go_roundw
                    case rel => exact ⟨j + 1, by omega, by go_num, by rw [HF.out.1]; simp [D.out.1], by rw [HF.out.2]; simp [e1, D.out.2], HR.out⟩
                    case measure => simp [intOf]; omega
              · have d1' : ((bj : Int) == (s : Int)) = false := by rw [beq_eq_false_iff_ne]; omega
                cases e1 : (a i).testBit j
                · have D := Lib.hid d1
                  clear d1
                  go_wp2_with (first | (go_at_call 27; refine (ahead_any _ a _ _ _ (by omega) (by omega)).mono ?_; rintro e w' ⟨rfl, hb'⟩; clear c0 c1 c2 c3 c4 c5 c6 c7 c8 c9 c10 c11 c12; have hR' := HR.out.next hb'; have c0 := hR'.o.rel.size; obtain ⟨c1, c2, c3, c4, c5, c6, c7, c8, c9, c10, c11, c12⟩ := hR'.o.rel.rows; have HR := Lib.hid hR'; clear hR' hb') | (go_at_call 28; refine (HBF.out _).mono ?_; rintro e w' ⟨rfl, hb'⟩; clear c0 c1 c2 c3 c4 c5 c6 c7 c8 c9 c10 c11 c12; have hR' := HR.out.next hb'; have c0 := hR'.o.rel.size; obtain ⟨c1, c2, c3, c4, c5, c6, c7, c8, c9, c10, c11, c12⟩ := hR'.o.rel.rows; have HR := Lib.hid hR'; clear hR' hb'))
                  go_roundw
                  case rel => exact ⟨j + 1, by omega, by go_num, by rw [HF.out.1]; simp [D.out], by rw [HF.out.2]; simp [e1], HR.out⟩
                  case measure => simp [intOf]; omega
                · by_cases d2 : bj ≤ s
                  · have d2' : (bj : Int) ≤ (s : Int) := by omega
                    have D := Lib.hid (And.intro d1 d2)
                    clear d1 d2
                    go_wp2_with (first | (go_at_call 27; refine (ahead_any _ a _ _ _ (by omega) (by omega)).mono ?_; rintro e w' ⟨rfl, hb'⟩; clear c0 c1 c2 c3 c4 c5 c6 c7 c8 c9 c10 c11 c12; have hR' := HR.out.next hb'; have c0 := hR'.o.rel.size; obtain ⟨c1, c2, c3, c4, c5, c6, c7, c8, c9, c10, c11, c12⟩ := hR'.o.rel.rows; have HR := Lib.hid hR'; clear hR' hb') | (go_at_call 28; refine (HBF.out _).mono ?_; rintro e w' ⟨rfl, hb'⟩; clear c0 c1 c2 c3 c4 c5 c6 c7 c8 c9 c10 c11 c12; have hR' := HR.out.next hb'; have c0 := hR'.o.rel.size; obtain ⟨c1, c2, c3, c4, c5, c6, c7, c8, c9, c10, c11, c12⟩ := hR'.o.rel.rows; have HR := Lib.hid hR'; clear hR' hb'))
                    go_roundw
                    case rel => exact ⟨j + 1, by omega, by go_num, by rw [HF.out.1]; simp [D.out.1], by rw [HF.out.2]; simp [e1, D.out.2], HR.out⟩
                    case measure => simp [intOf]; omega
                  · have d2' : ¬ (bj : Int) ≤ (s : Int) := by omega
                    have D := Lib.hid (And.intro d1 d2)
                    clear d1 d2
                    go_wp2_with (first | (go_at_call 27; refine (ahead_any _ a _ _ _ (by omega) (by omega)).mono ?_; rintro e w' ⟨rfl, hb'⟩; clear c0 c1 c2 c3 c4 c5 c6 c7 c8 c9 c10 c11 c12; have hR' := HR.out.next hb'; have c0 := hR'.o.rel.size; obtain ⟨c1, c2, c3, c4, c5, c6, c7, c8, c9, c10, c11, c12⟩ := hR'.o.rel.rows; have HR := Lib.hid hR'; clear hR' hb') | (go_at_call 28; refine (HBF.out _).mono ?_; rintro e w' ⟨rfl, hb'⟩; clear c0 c1 c2 c3 c4 c5 c6 c7 c8 c9 c10 c11 c12; have hR' := HR.out.next hb'; have c0 := hR'.o.rel.size; obtain ⟨c1, c2, c3, c4, c5, c6, c7, c8, c9, c10, c11, c12⟩ := hR'.o.rel.rows; have HR := Lib.hid hR'; clear hR' hb'))
                    go_roundw
                    case rel => exact ⟨j + 1, by omega, by go_num, by rw [HF.out.1]; simp [D.out.1], by rw [HF.out.2]; simp [e1, D.out.2], HR.out⟩
                    case measure => simp [intOf]; omega
            · obtain rfl : n = j := by omega
              clear hj
              have c0 := hR.o.rel.size
              obtain ⟨c1, c2, c3, c4, c5, c6, c7, c8, c9, c10, c11, c12⟩ := hR.o.rel.rows
              have HR := Lib.hid hR
              clear hR
              have hb := fun W => before_any n a i W hn hin
              unfold befOf at hb
              have hs' := HS.out
              unfold szIs allMore at hs'
              have hw1 : IntKind.i64.wrap ((X : Int) + 1) = (X : Int) + 1 := by rw [IntKind.wrap_i64]; omega
              have hw2 : IntKind.i64.wrap ((Y : Int) + 1) = (Y : Int) + 1 := by rw [IntKind.wrap_i64]; omega
              generalize anyP (fun j => decide (pop (rev n a j) = s)) n = p at hs' ⊢
              generalize anyP (fun j => (rev n a j).testBit i && decide (pop (rev n a j) ≤ s)) n = q at hs' ⊢
              generalize pop (rev n a i) = bi at hb hs'
              have HBI := Lib.hid hb
              have HF := Lib.hid hs'
              clear hb hs' HS
              cases p
              · have e1 : frUp n (rev n a) i (s + 1) = X := by rw [HF.out.1]; simp
                have e2 : toUp n (rev n a) i (s + 1) = Y := by rw [HF.out.2]; simp
                have HE := Lib.hid (And.intro e1 e2)
                clear e1 e2
                go_wp2_with fail
                go_roundw
                case rel => exact ⟨s + 1, by omega, by go_num, by rw [HE.out.1, HE.out.2]; exact HR.out⟩
                case measure => simp [intOf]; omega
              · by_cases d1 : s < bi
                · have d1' : (s : Int) < (bi : Int) := by omega
                  by_cases d2 : 0 < s
                  · have d2' : (0 : Int) < (s : Int) := by omega
                    cases q
                    · have e1 : frUp n (rev n a) i (s + 1) = X + 1 := by rw [HF.out.1]; simp [d1]
                      have e2 : toUp n (rev n a) i (s + 1) = Y + 1 := by rw [HF.out.2]; simp [d2]
                      have HE := Lib.hid (And.intro e1 e2)
                      clear e1 e2
                      go_wp2_with (go_at_call 28; refine (HBI.out _).mono ?_; rintro e w' ⟨rfl, hb'⟩; clear c0 c1 c2 c3 c4 c5 c6 c7 c8 c9 c10 c11 c12; have hR' := HR.out.next hb'; have c0 := hR'.o.rel.size; obtain ⟨c1, c2, c3, c4, c5, c6, c7, c8, c9, c10, c11, c12⟩ := hR'.o.rel.rows; have z0 : w'.cell? ⟨S, 0, none⟩ = some (.int .i64 (X : Int)) := Lies.cell hR'.sp 0; have z1 : w'.cell? ⟨S, 1, none⟩ = some (.int .i64 (Y : Int)) := Lies.cell hR'.sp 1; have zf : ∀ i, w'.frozen? ⟨S, i, none⟩ = false := fun i => Lies.frozen hR'.sp i; have HR := Lib.hid hR'; clear hR' hb')
                      go_roundw
                      case rel => exact ⟨s + 1, by omega, by go_num, by rw [HE.out.1, HE.out.2]; exact ((HR.out.put (F' := ((X + 1 : Nat) : Int)) (T' := (Y : Int)) 0 ((X : Int) + 1) rfl).put (F' := ((X + 1 : Nat) : Int)) (T' := ((Y + 1 : Nat) : Int)) 1 ((Y : Int) + 1) rfl)⟩
                      case measure => simp [intOf]; omega
                    · have e1 : frUp n (rev n a) i (s + 1) = X + 1 := by rw [HF.out.1]; simp [d1]
                      have e2 : toUp n (rev n a) i (s + 1) = Y := by rw [HF.out.2]; simp [d2]
                      have HE := Lib.hid (And.intro e1 e2)
                      clear e1 e2
                      go_wp2_with (go_at_call 28; refine (HBI.out _).mono ?_; rintro e w' ⟨rfl, hb'⟩; clear c0 c1 c2 c3 c4 c5 c6 c7 c8 c9 c10 c11 c12; have hR' := HR.out.next hb'; have c0 := hR'.o.rel.size; obtain ⟨c1, c2, c3, c4, c5, c6, c7, c8, c9, c10, c11, c12⟩ := hR'.o.rel.rows; have z0 : w'.cell? ⟨S, 0, none⟩ = some (.int .i64 (X : Int)) := Lies.cell hR'.sp 0; have z1 : w'.cell? ⟨S, 1, none⟩ = some (.int .i64 (Y : Int)) := Lies.cell hR'.sp 1; have zf : ∀ i, w'.frozen? ⟨S, i, none⟩ = false := fun i => Lies.frozen hR'.sp i; have HR := Lib.hid hR'; clear hR' hb')
                      go_roundw
                      case rel => exact ⟨s + 1, by omega, by go_num, by rw [HE.out.1, HE.out.2]; exact (HR.out.put (F' := ((X + 1 : Nat) : Int)) (T' := (Y : Int)) 0 ((X : Int) + 1) rfl)⟩
                      case measure => simp [intOf]; omega
                  · have d2' : ¬ (0 : Int) < (s : Int) := by omega
                    have e1 : frUp n (rev n a) i (s + 1) = X + 1 := by rw [HF.out.1]; simp [d1]
                    have e2 : toUp n (rev n a) i (s + 1) = Y := by rw [HF.out.2]; simp [d2]
                    have HE := Lib.hid (And.intro e1 e2)
                    clear e1 e2
                    go_wp2_with (go_at_call 28; refine (HBI.out _).mono ?_; rintro e w' ⟨rfl, hb'⟩; clear c0 c1 c2 c3 c4 c5 c6 c7 c8 c9 c10 c11 c12; have hR' := HR.out.next hb'; have c0 := hR'.o.rel.size; obtain ⟨c1, c2, c3, c4, c5, c6, c7, c8, c9, c10, c11, c12⟩ := hR'.o.rel.rows; have z0 : w'.cell? ⟨S, 0, none⟩ = some (.int .i64 (X : Int)) := Lies.cell hR'.sp 0; have z1 : w'.cell? ⟨S, 1, none⟩ = some (.int .i64 (Y : Int)) := Lies.cell hR'.sp 1; have zf : ∀ i, w'.frozen? ⟨S, i, none⟩ = false := fun i => Lies.frozen hR'.sp i; have HR := Lib.hid hR'; clear hR' hb')
                    go_roundw
                    case rel => exact ⟨s + 1, by omega, by go_num, by rw [HE.out.1, HE.out.2]; exact (HR.out.put (F' := ((X + 1 : Nat) : Int)) (T' := (Y : Int)) 0 ((X : Int) + 1) rfl)⟩
                    case measure => simp [intOf]; omega
                · have d1' : ¬ (s : Int) < (bi : Int) := by omega
                  by_cases d2 : 0 < s
                  · have d2' : (0 : Int) < (s : Int) := by omega
                    cases q
                    · have e1 : frUp n (rev n a) i (s + 1) = X := by rw [HF.out.1]; simp [d1]
                      have e2 : toUp n (rev n a) i (s + 1) = Y + 1 := by rw [HF.out.2]; simp [d2]
                      have HE := Lib.hid (And.intro e1 e2)
                      clear e1 e2
                      go_wp2_with (go_at_call 28; refine (HBI.out _).mono ?_; rintro e w' ⟨rfl, hb'⟩; clear c0 c1 c2 c3 c4 c5 c6 c7 c8 c9 c10 c11 c12; have hR' := HR.out.next hb'; have c0 := hR'.o.rel.size; obtain ⟨c1, c2, c3, c4, c5, c6, c7, c8, c9, c10, c11, c12⟩ := hR'.o.rel.rows; have z0 : w'.cell? ⟨S, 0, none⟩ = some (.int .i64 (X : Int)) := Lies.cell hR'.sp 0; have z1 : w'.cell? ⟨S, 1, none⟩ = some (.int .i64 (Y : Int)) := Lies.cell hR'.sp 1; have zf : ∀ i, w'.frozen? ⟨S, i, none⟩ = false := fun i => Lies.frozen hR'.sp i; have HR := Lib.hid hR'; clear hR' hb')
                      go_roundw
                      case rel => exact ⟨s + 1, by omega, by go_num, by rw [HE.out.1, HE.out.2]; exact (HR.out.put (F' := ((X : Nat) : Int)) (T' := ((Y + 1 : Nat) : Int)) 1 ((Y : Int) + 1) rfl)⟩
                      case measure => simp [intOf]; omega
                    · have e1 : frUp n (rev n a) i (s + 1) = X := by rw [HF.out.1]; simp [d1]
                      have e2 : toUp n (rev n a) i (s + 1) = Y := by rw [HF.out.2]; simp [d2]
                      have HE := Lib.hid (And.intro e1 e2)
                      clear e1 e2
                      go_wp2_with (go_at_call 28; refine (HBI.out _).mono ?_; rintro e w' ⟨rfl, hb'⟩; clear c0 c1 c2 c3 c4 c5 c6 c7 c8 c9 c10 c11 c12; have hR' := HR.out.next hb'; have c0 := hR'.o.rel.size; obtain ⟨c1, c2, c3, c4, c5, c6, c7, c8, c9, c10, c11, c12⟩ := hR'.o.rel.rows; have z0 : w'.cell? ⟨S, 0, none⟩ = some (.int .i64 (X : Int)) := Lies.cell hR'.sp 0; have z1 : w'.cell? ⟨S, 1, none⟩ = some (.int .i64 (Y : Int)) := Lies.cell hR'.sp 1; have zf : ∀ i, w'.frozen? ⟨S, i, none⟩ = false := fun i => Lies.frozen hR'.sp i; have HR := Lib.hid hR'; clear hR' hb')
                      go_roundw
                      case rel => exact ⟨s + 1, by omega, by go_num, by rw [HE.out.1, HE.out.2]; exact HR.out⟩
                      case measure => simp [intOf]; omega
                  · have d2' : ¬ (0 : Int) < (s : Int) := by omega
                    have e1 : frUp n (rev n a) i (s + 1) = X := by rw [HF.out.1]; simp [d1]
                    have e2 : toUp n (rev n a) i (s + 1) = Y := by rw [HF.out.2]; simp [d2]
                    have HE := Lib.hid (And.intro e1 e2)
                    clear e1 e2
                    go_wp2_with (go_at_call 28; refine (HBI.out _).mono ?_; rintro e w' ⟨rfl, hb'⟩; clear c0 c1 c2 c3 c4 c5 c6 c7 c8 c9 c10 c11 c12; have hR' := HR.out.next hb'; have c0 := hR'.o.rel.size; obtain ⟨c1, c2, c3, c4, c5, c6, c7, c8, c9, c10, c11, c12⟩ := hR'.o.rel.rows; have z0 : w'.cell? ⟨S, 0, none⟩ = some (.int .i64 (X : Int)) := Lies.cell hR'.sp 0; have z1 : w'.cell? ⟨S, 1, none⟩ = some (.int .i64 (Y : Int)) := Lies.cell hR'.sp 1; have zf : ∀ i, w'.frozen? ⟨S, i, none⟩ = false := fun i => Lies.frozen hR'.sp i; have HR := Lib.hid hR'; clear hR' hb')
                    go_roundw
                    case rel => exact ⟨s + 1, by omega, by go_num, by rw [HE.out.1, HE.out.2]; exact HR.out⟩
                    case measure => simp [intOf]; omega
        · obtain rfl : n = s := by omega
          have e1 : frUp n (rev n a) i n = frOf n a i := rfl
          have e2 : toUp n (rev n a) i n = toOf n a i := rfl
          rw [e1, e2] at hR
          have hst := lst_step (fun i => (frOf n a i : Int)) (fun i => (toOf n a i : Int)) i
          have z0 : wr.cell? ⟨S, 0, none⟩ = some (.int .i64 (frOf n a i : Int)) := Lies.cell hR.sp 0
          have z1 : wr.cell? ⟨S, 1, none⟩ = some (.int .i64 (toOf n a i : Int)) := Lies.cell hR.sp 1
          have hrl := hR.o.rel.lt
          have HR := Lib.hid (And.intro hR (And.intro hst hrl))
          clear hR hst hs e1 e2 hrl
          generalize hf : (frOf n a i : Int) = f at z0
          generalize ht : (toOf n a i : Int) = t at z1
          have HFT := Lib.hid (And.intro hf ht)
          clear hf ht
          go_wp2_with (at_builtin; refine app_span1 rfl (.tmp 68) (.tmp 70) rfl (w.heap.size + 1) v3 i _ rfl HR.out.1.o.out f t rfl (by omega) HR.out.2.2 ?_; intro v' w5 ho5 hb5)
          go_roundw
          case rel => exact ⟨i + 1, _, by omega, by go_num, rfl, HR.out.1.o.below.trans (hb5.mono (by omega)), Lies.below HR.out.1.o.rel hb5 (by omega), by rw [HR.out.2.1]; show w5.ownsRow _ _ _ _ _ (_ ++ [.int .i64 (frOf n a i : Int), .int .i64 (toOf n a i : Int)]); rw [HFT.out.1, HFT.out.2]; exact ho5⟩
          case measure => simp [intOf]; omega
    · obtain rfl : n = i := by omega
      have HO := Lib.hid hO
      have s0 := hO.rel.size
      clear hO
      go_wp2_with fail
      go_ret
      exact ⟨_, rfl, HO.out.below, HO.out.out⟩
end Go.Proofs.Ytfjanniojphdoaa
