/-
  Joined by a program out of: LinPt, LinKeyC.
-/
import Derived.Test.YtfgangkpebkicaaDoorMgAJ
import Derived.Test.YtfgangkpebkicaaDoorMgAE
import Derived.Test.YtfgangkpebkicaaDoorMgAI
import Derived.Lib.ItoaLen

/-
  Points in memory; contracts of (*record).start and (*record).complete.
-/
namespace Go.Proofs.YtfgangkpebkicaaDoor
open Go.RowKit
set_option maxRecDepth 20000
variable {Rl : Nat → Nat → Bool}
/-- A slice that reads as numbers, in a block of which S holds. -/
def NAw (S : Nat → Prop) (w : World) (v : Value) (xs : List Int) : Prop :=
  ∃ A cap, v = .slice A xs.length cap ∧ xs.length ≤ cap ∧ cap ≤ maxLen ∧ (0 < xs.length → ∃ g o, A = some ⟨g, o, none⟩ ∧ S g ∧ g < w.heap.size ∧ ∀ k x, xs[k]? = some x → ∀ j u, (intCs x)[j]? = some u → w.cell? ⟨g, o + k * 1 + j, none⟩ = some u)
theorem NAw.rd {S : Nat → Prop} {w : World} {v : Value} {xs : List Int} (h : NAw S w v xs) : NRd w w.heap.size v xs := by
  obtain ⟨A, cap, hv, h0, h1, h2⟩ := h
  refine ⟨A, cap, hv, h0, h1, fun hp => ?_⟩
  obtain ⟨g, o, hA, _, hg, hc⟩ := h2 hp
  exact ⟨g, o, hA, hg, hc⟩
theorem NAw.imp {S S' : Nat → Prop} {w : World} {v : Value} {xs : List Int} (h : NAw S w v xs) (hS : ∀ g, g < w.heap.size → S g → S' g) : NAw S' w v xs := by
  obtain ⟨A, cap, hv, h0, h1, h2⟩ := h
  refine ⟨A, cap, hv, h0, h1, fun hp => ?_⟩
  obtain ⟨g, o, hA, hs, hg, hc⟩ := h2 hp
  exact ⟨g, o, hA, hS g hg hs, hg, hc⟩
theorem NAw.keep {S : Nat → Prop} {w w' : World} {v : Value} {xs : List Int} (h : NAw S w v xs) (hz : w.heap.size ≤ w'.heap.size) (hk : ∀ g, S g → g < w.heap.size → w'.heap[g]? = w.heap[g]?) : NAw S w' v xs := by
  obtain ⟨A, cap, hv, h0, h1, h2⟩ := h
  refine ⟨A, cap, hv, h0, h1, fun hp => ?_⟩
  obtain ⟨g, o, hA, hs, hg, hc⟩ := h2 hp
  refine ⟨g, o, hA, hs, by omega, fun k x hx j u hu => ?_⟩
  rw [← hc k x hx j u hu]
  simp only [World.cell?, hk g hs hg]
theorem NAw.next {S : Nat → Prop} {w w' : World} {v : Value} {xs : List Int} (h : NAw S w v xs) (hb : Below w.heap.size w w') : NAw S w' v xs := h.keep hb.size (fun g _ hg => hb.block g hg)
theorem NAw.setCell {S : Nat → Prop} {w : World} {v : Value} {xs : List Int} (h : NAw S w v xs) (p : Addr) (u : Value) (hS : ∀ g, S g → g ≠ p.block) : NAw S (w.setCell p u) v xs := h.keep (by simp [World.setCell]) (fun g hs _ => Below.heap_setCell _ _ _ _ (hS g hs))
theorem NAw.nil (S : Nat → Prop) (w : World) : NAw S w (.slice none 0 0) [] := ⟨none, 0, rfl, Nat.le_refl _, Nat.zero_le _, fun h => by simp at h⟩
theorem NAw.of_own {B : Nat} {w : World} {v : Value} {xs : List Int} (h : IOwn w B v xs) : NAw (fun g => B ≤ g) w v xs := by
  have hr := h.rd
  obtain ⟨A, cap, hv, h0, h1, h2⟩ := hr
  refine ⟨A, cap, hv, h0, h1, fun hp => ?_⟩
  obtain ⟨g, o, hA, hg, hc⟩ := h2 hp
  refine ⟨g, o, hA, ?_, hg, hc⟩
  subst hA
  exact (h.lt hv).1
abbrev ptCs (d : Nat) (s : Nat → Value) : Array Value := #[.int .u16 (d : Nat), s 0, s 1, s 2, s 3]
abbrev ptV (d : Nat) (s : Nat → Value) : Value := .agg #[.int .u16 (d : Nat), s 0, s 1, s 2, s 3]
abbrev nilS : Nat → Value := fun _ => .slice none 0 0
/-- A point lies in block g. -/
def PtB (w : World) (g : Nat) (d : Nat) (s : Nat → Value) : Prop := Lies w g 117 (ptCs d s)
abbrev fillP (w : World) (g : Nat) (d : Nat) (s : Nat → Value) : World := ((((w.setCell ⟨g, 0, none⟩ (.int .u16 (d : Nat))).setCell ⟨g, 1, none⟩ (s 0)).setCell ⟨g, 2, none⟩ (s 1)).setCell ⟨g, 3, none⟩ (s 2)).setCell ⟨g, 4, none⟩ (s 3)
theorem fillP_below {B : Nat} {w0 w : World} {g : Nat} (h : Below B w0 w) (hg : B ≤ g) (d : Nat) (s : Nat → Value) : Below B w0 (fillP w g d s) :=
  ((((h.setCell (p := ⟨g, 0, none⟩) hg _).setCell (p := ⟨g, 1, none⟩) hg _).setCell (p := ⟨g, 2, none⟩) hg _).setCell (p := ⟨g, 3, none⟩) hg _).setCell (p := ⟨g, 4, none⟩) hg _
theorem fillP_far {w : World} {q g : Nat} (h : g ≠ q) (d : Nat) (s : Nat → Value) : (fillP w q d s).heap[g]? = w.heap[g]? := by
  have key : ∀ (W : World) (i : Nat) (u : Value), (W.setCell ⟨q, i, none⟩ u).heap[g]? = W.heap[g]? := fun W i u => Below.heap_setCell W ⟨q, i, none⟩ u g h
  unfold fillP
  rw [key, key, key, key, key]
section
variable {w : World} {g d : Nat} {s : Nat → Value}
theorem nat4 {k : Nat} (h : k < 4) : k = 0 ∨ k = 1 ∨ k = 2 ∨ k = 3 := by omega
theorem PtB.fill (h : PtB w g d s) (d' : Nat) (s' : Nat → Value) : PtB (fillP w g d' s') g d' s' := by
  have h0 := Lies.set_ h 0 (.int .u16 (d' : Nat))
  have h1 := Lies.set_ h0 1 (s' 0)
  have h2 := Lies.set_ h1 2 (s' 1)
  have h3 := Lies.set_ h2 3 (s' 2)
  have h4 := Lies.set_ h3 4 (s' 3)
  exact Lies.cast h4 (by simp [ptCs])
theorem PtB.setS (h : PtB w g d s) {k : Nat} (hk : k < 4) (x : Value) : PtB (w.setCell ⟨g, 1 + k, none⟩ x) g d (fun i => if i = k then x else s i) := by
  refine Lies.cast (Lies.set_ h (1 + k) x) ?_
  rcases nat4 hk with rfl | rfl | rfl | rfl <;> simp [ptCs]
theorem PtB.setD (h : PtB w g d s) (x : Nat) : PtB (w.setCell ⟨g, 0, none⟩ (.int .u16 (x : Nat))) g x s := by
  refine Lies.cast (Lies.set_ h 0 (.int .u16 (x : Nat))) ?_
  simp [ptCs]
theorem PtB.row (h : PtB w g d s) {k : Nat} (hk : k < 4) : w.cell? ⟨g, 1 + k, none⟩ = some (s k) := by
  rw [Lies.cell h]
  rcases nat4 hk with rfl | rfl | rfl | rfl <;> rfl
theorem PtB.cells (h : PtB w g d s) : w.cell? ⟨g, 0, none⟩ = some (.int .u16 (d : Nat)) ∧ w.cell? ⟨g, 1, none⟩ = some (s 0) ∧ w.cell? ⟨g, 2, none⟩ = some (s 1) ∧ w.cell? ⟨g, 3, none⟩ = some (s 2) ∧ w.cell? ⟨g, 4, none⟩ = some (s 3) :=
  ⟨Lies.cell h 0, Lies.cell h 1, Lies.cell h 2, Lies.cell h 3, Lies.cell h 4⟩
theorem PtB.free (h : PtB w g d s) (i : Nat) : w.frozen? ⟨g, i, none⟩ = false := Lies.frozen h i
end
/-- Four values by their number. -/
def four (a b c e : Value) : Nat → Value
  | 0 => a
  | 1 => b
  | 2 => c
  | _ => e
theorem PtB.four {w : World} {g d : Nat} {s : Nat → Value} (h : PtB w g d s) : PtB w g d (four (s 0) (s 1) (s 2) (s 3)) := h
theorem four_at (s : Nat → Value) {i : Nat} (hi : i < 4) : four (s 0) (s 1) (s 2) (s 3) i = s i := by
  rcases nat4 hi with rfl | rfl | rfl | rfl <;> rfl
/-- The value v is the point p. -/
def PtRd (S : Nat → Prop) (w : World) (v : Value) (p : Pt) : Prop := ∃ s : Nat → Value, v = ptV p.done s ∧ ∀ i, i < 4 → NAw S w (s i) (p.st i)
theorem PtRd.next {S : Nat → Prop} {w w' : World} {v : Value} {p : Pt} (h : PtRd S w v p) (hb : Below w.heap.size w w') : PtRd S w' v p := by
  obtain ⟨s, e, hs⟩ := h
  exact ⟨s, e, fun i hi => (hs i hi).next hb⟩
/-- A record stands at block Q: the types, the calls, what must be ahead of each, who was answered. -/
structure RecAt (Rl : Nat → Nat → Bool) (w : World) (Q : Nat) (tv cv : Value) (ts : List Int) (cs : List Cl) : Prop where
  c0 : w.cell? ⟨Q, 0, none⟩ = some tv
  c1 : w.cell? ⟨Q, 1, none⟩ = some cv
  bf : ∀ j, j < 9 → w.cell? ⟨Q, 2 + j, none⟩ = some (.int .u16 (befP Rl cs j : Nat))
  an : w.cell? ⟨Q, 11, none⟩ = some (.int .u16 (ansP cs : Nat))
  rt : NRd w w.heap.size tv ts
  rc : CRd w w.heap.size cv cs
  lt : Q < w.heap.size
theorem RecAt.next {w w' : World} {Q : Nat} {tv cv : Value} {ts : List Int} {cs : List Cl} (h : RecAt Rl w Q tv cv ts cs) (hb : Below w.heap.size w w') : RecAt Rl w' Q tv cv ts cs :=
  ⟨(hb.cell (p := ⟨Q, 0, none⟩) h.lt).trans h.c0, (hb.cell (p := ⟨Q, 1, none⟩) h.lt).trans h.c1, fun j hj => (hb.cell (p := ⟨Q, 2 + j, none⟩) h.lt).trans (h.bf j hj), (hb.cell (p := ⟨Q, 11, none⟩) h.lt).trans h.an, (h.rt.below hb).mono hb.size, (h.rc.below hb).mono hb.size, Nat.lt_of_lt_of_le h.lt hb.size⟩
theorem landnot (x y : Nat) (hx : x < 65536) (hy : y < 65536) : (bits BinOp.andNot IntKind.u16 (x : Int) (y : Int) == 0) = ((x &&& (65535 - y)) == 0) := by
  rw [u16_andNot_nat _ _ hx hy, Bool.eq_iff_iff, beq_iff_eq, beq_iff_eq]
  omega
/-- Does nothing have to follow? -/
theorem complete_any {w : World} {Q : Nat} {tv cv : Value} {ts : List Int} {cs : List Cl} (hR : RecAt Rl w Q tv cv ts cs) (hc : cs.length ≤ 9) {d : Nat} (hd : d < 65536) (s : Nat → Value) (p : Pt) (hp : p.done = d) :
    Calls Tryd.prog 73 #[.pointer (some ⟨Q, 0, none⟩), ptV d s] w fun e w' => e = .returned (.bool (fullB cs p)) ∧ Below w.heap.size w w' := by
  have han : (w.alloc (.cells (ptCs d s) 117)).cell? ⟨Q, 11, none⟩ = some (.int .u16 (ansP cs : Nat)) := (((Below.refl _ _).alloc (Nat.le_refl _) (.cells (ptCs d s) 117)).cell (p := ⟨Q, 11, none⟩) hR.lt).trans hR.an
  have hpt : PtB (w.alloc (.cells (ptCs d s) 117)) w.heap.size d s := Lies.new _ _ _
  have hd0 := hpt.cells.1
  have hb : Below w.heap.size w (w.alloc (.cells (ptCs d s) 117)) := (Below.refl _ _).alloc (Nat.le_refl _) _
  have hv := landnot (ansP cs) d (ans_lt hc) hd
  rw [← hp] at hv
  change _ = fullB cs p at hv
  rw [hp] at hv
  have HB := Lib.hid (And.intro hb hv)
  clear hpt hb hv hR hp
  generalize fullB cs p = F at HB ⊢
  generalize ansP cs = an at han HB
  go_enter Tryd.func73, Tryd.ntmps73
  go_wp2_with fail
  go_region
  go_wp2
  go_ret
  exact ⟨ret_bool (by rw [← HB.out.2]), HB.out.1.drew⟩
end Go.Proofs.YtfgangkpebkicaaDoor

/-
  Contract of (*point).key.
-/
namespace Go.Proofs.YtfgangkpebkicaaDoor
open Go.RowKit
set_option maxRecDepth 20000
theorem rowB8_len : ∀ (l : List Int), (∀ x, x ∈ l → -1000000 ≤ x ∧ x ≤ 1000000) → (rowB8 l).length ≤ 22 * l.length
  | [], _ => Nat.le_refl _
  | y :: r, h => by
    have h1 := rowB8_len r (fun x hx => h x (List.mem_cons_of_mem _ hx))
    have h2 := h y (List.mem_cons_self ..)
    have h3 := Lib.itoa_length_le y (by omega) (by omega)
    rw [rowB8, List.length_cons, List.length_append, List.length_cons]
    omega
theorem rowsB8_len {st : Nat → List Int} (h : ∀ i, i < 4 → (st i).length ≤ 50 ∧ ∀ x, x ∈ st i → -1000000 ≤ x ∧ x ≤ 1000000) : ∀ m, m ≤ 4 → (rowsB8 st m).length ≤ 1101 * m
  | 0, _ => Nat.le_refl _
  | m + 1, hm => by
    have h1 := rowsB8_len h m (by omega)
    have h2 := rowB8_len (st m) (h m (by omega)).2
    have h3 := (h m (by omega)).1
    rw [rowsB8, List.length_append, List.length_cons]
    omega
theorem dec_len {d : Nat} (hd : d < 65536) : (Lib.decDigits d).length ≤ 21 := by
  rw [← Lib.itoa_nonneg]
  exact Lib.itoa_length_le _ (by omega) (by omega)
theorem rowB8_take {l : List Int} {j : Nat} {x : Int} (h : l[j]? = some x) : rowB8 (l.take (j + 1)) = rowB8 (l.take j) ++ 32 :: Lib.itoa x := by
  rw [List.take_add_one, h]
  exact rowB8_snoc _ _
theorem byte_59 (W : World) : (W.alloc (.cells #[.int .u8 59] 5)).cell? ⟨W.heap.size, 0, none⟩ = some (.int .u8 ((59 : UInt8).toNat : Int)) := Lies.cell (Lies.new W 5 #[.int .u8 59]) 0
theorem byte_32 (W : World) : (W.alloc (.cells #[.int .u8 32] 5)).cell? ⟨W.heap.size, 0, none⟩ = some (.int .u8 ((32 : UInt8).toNat : Int)) := Lies.cell (Lies.new W 5 #[.int .u8 32]) 0
theorem idx_0 (a b c e : Value) (w : World) : (Instr.index 115 (.agg #[a, b, c, e]) (.int .i64 0)).run Tryd.prog w = .ok a w := by kernel_rfl
theorem idx_1 (a b c e : Value) (w : World) : (Instr.index 115 (.agg #[a, b, c, e]) (.int .i64 1)).run Tryd.prog w = .ok b w := by kernel_rfl
theorem idx_2 (a b c e : Value) (w : World) : (Instr.index 115 (.agg #[a, b, c, e]) (.int .i64 2)).run Tryd.prog w = .ok c w := by kernel_rfl
theorem idx_3 (a b c e : Value) (w : World) : (Instr.index 115 (.agg #[a, b, c, e]) (.int .i64 3)).run Tryd.prog w = .ok e w := by kernel_rfl
set_option maxHeartbeats 8000000 in
theorem key_core {w : World} {g d : Nat} {st : Nat → List Int} (B0 B1 B2 B3 : Option Addr) (k0 k1 k2 k3 : Nat) (hp : PtB w g d (four (.slice B0 (st 0).length k0) (.slice B1 (st 1).length k1) (.slice B2 (st 2).length k2) (.slice B3 (st 3).length k3))) (hd : d < 65536)
    (hs : ∀ i, i < 4 → NRd w w.heap.size ((four (.slice B0 (st 0).length k0) (.slice B1 (st 1).length k1) (.slice B2 (st 2).length k2) (.slice B3 (st 3).length k3)) i) (st i)) (hst : ∀ i, i < 4 → (st i).length ≤ 50 ∧ ∀ x, x ∈ st i → -1000000 ≤ x ∧ x ≤ 1000000) (ht : Pow10 w.heap.size w) :
    Calls Tryd.prog 74 #[.pointer (some ⟨g, 0, none⟩)] w fun e w' => e = .returned (.string ⟨(keyB ⟨d, st⟩).toArray⟩) ∧ Below w.heap.size w w' := by
  have d0 : w.cell? ⟨g, 0, none⟩ = some (.int .u16 (d : Nat)) := hp.cells.1
  have hcv : IntKind.u64.wrap (d : Int) = (d : Int) := by
    have : (d : Int) < 65536 := by omega
    unfold IntKind.wrap
    simp [IntKind.bits, IntKind.signed]
    omega
  have HP := Lib.hid hp
  have HS := Lib.hid hs
  have HT := Lib.hid ht
  have HST := Lib.hid hst
  have HCV := Lib.hid hcv
  have hd16 : (d : Int) < 65536 := by omega
  clear hp hs hst ht hcv
  go_enter Tryd.func74, Tryd.ntmps74
  go_wp2_with fail
  refine (appuint_any d (by omega) (BOwn.nil w w.heap.size) (Nat.le_refl _) (by simp) HT.out).mono ?_
  rintro e w1 ⟨v1, rfl, ho1, hb1⟩
  have hp1 : PtB w1 g d (four (.slice B0 (st 0).length k0) (.slice B1 (st 1).length k1) (.slice B2 (st 2).length k2) (.slice B3 (st 3).length k3)) := Lies.below HP.out hb1 HP.out.lt
  have p1 : w1.cell? ⟨g, 1, none⟩ = some (.slice B0 (st 0).length k0) := hp1.cells.2.1
  have p2 : w1.cell? ⟨g, 2, none⟩ = some (.slice B1 (st 1).length k1) := hp1.cells.2.2.1
  have p3 : w1.cell? ⟨g, 3, none⟩ = some (.slice B2 (st 2).length k2) := hp1.cells.2.2.2.1
  have p4 : w1.cell? ⟨g, 4, none⟩ = some (.slice B3 (st 3).length k3) := hp1.cells.2.2.2.2
  have HK := Lib.hid (And.intro ho1 hb1)
  clear hp1 ho1 hb1 d0 hd16
  go_wp2_with fail
  have hK := HK.out
  clear HK p1 p2 p3 p4
  go_loopw [3, 18] (fun v t wr => ∃ i : Nat, i ≤ 4 ∧ t = .int .i64 i ∧ BOwn wr w.heap.size v (Lib.decDigits d ++ rowsB8 st i) ∧ Below w.heap.size w wr) (fun _ t _ => 4 - (intOf t).toNat)
  case atStart => exact ⟨0, by omega, rfl, by simpa [rowsB8] using hK.1, hK.2⟩
  case round =>
    clear hK
    obtain ⟨i, hi, rfl, ho, hb⟩ := hrel
    by_cases hi4 : i < 4
    · have hln : (Lib.decDigits d ++ rowsB8 st i).length ≤ 5000 := by
        have h1 := dec_len hd
        have h2 := rowsB8_len HST.out i (by omega)
        rw [List.length_append]
        omega
      have hend : Lib.decDigits d ++ rowsB8 st (i + 1) = (Lib.decDigits d ++ rowsB8 st i) ++ 59 :: rowB8 (st i) := by rw [rowsB8, List.append_assoc]
      generalize Lib.decDigits d ++ rowsB8 st i = pre at ho hln hend
      have HE := Lib.hid hend
      have HO := Lib.hid (And.intro ho hb)
      have HLN := Lib.hid hln
      have HI := Lib.hid (HST.out i hi4)
      clear ho hb hln hend hi
      rcases nat4 hi4 with rfl | rfl | rfl | rfl
      · have hsi : NRd w w.heap.size (.slice B0 (st 0).length k0) (st 0) := HS.out 0 (by omega)
        obtain ⟨L, hL⟩ : ∃ L, L = (st 0).length := ⟨_, rfl⟩
        have HSI := Lib.hid (And.intro hsi hL)
        clear hsi
        rw [← hL]
        clear hL
        have hL50 : L ≤ 50 := by have h1 := HI.out.1; have h2 := HSI.out.2; omega
        have hix := idx_0
        go_wp2_with (at_builtin; refine wpList_app_byte rfl (.tmp 21) (.tmp 22) rfl w.heap.size wr.heap.size _ _ 59 rfl rfl (BOwn.below HO.out.1 ((Below.refl _ _).alloc (Nat.le_refl _) _)) (byte_59 wr) (Nat.le_trans HLN.out (by decide)) (Nat.le_trans HO.out.2.size (by simp)) ?_; intro v5 w5 ho5 hb5; have HN := Lib.hid (And.intro ho5 (((HO.out.2.alloc HO.out.2.size _)).trans hb5)); clear ho5 hb5)
        clear hix
        have hN := HN.out
        clear HN HO
        go_loopw [3, 26] (fun v t wr => ∃ j : Nat, j ≤ L ∧ t = .int .i64 j ∧ BOwn wr w.heap.size v (pre ++ 59 :: rowB8 ((st 0).take j)) ∧ Below w.heap.size w wr) (fun _ t _ => L - (intOf t).toNat)
        case atStart => exact ⟨0, by omega, rfl, by simpa [rowB8] using hN.1, hN.2⟩
        case round =>
          clear hN
          obtain ⟨j, hj, rfl, ho, hb⟩ := hrel
          by_cases hjL : j < L
          · obtain ⟨x, hx⟩ : ∃ x, (st 0)[j]? = some x := ⟨_, List.getElem?_eq_getElem (by rw [← HSI.out.2]; exact hjL)⟩
            have hsi := HSI.out.1.below hb
            rw [← HSI.out.2] at hsi
            obtain ⟨g', o', hA, -, d1⟩ := hsi.num hx
            have hxr := HI.out.2 x (List.mem_of_getElem? hx)
            have htk := rowB8_take hx
            have hlr : (pre ++ 59 :: rowB8 ((st 0).take j)).length ≤ 65000 := by
              have h1 := HLN.out
              have h2 := rowB8_len ((st 0).take j) (fun y hy => HI.out.2 y (List.mem_of_mem_take hy))
              have h3 := HI.out.1
              rw [List.length_append, List.length_cons]
              rw [List.length_take] at h2
              omega
            have j1 : (0 : Int) ≤ (j : Int) := by omega
            have j2 : (j : Int) < (L : Int) := by omega
            subst hA
            have HTK := Lib.hid (And.intro htk (And.intro hlr hxr))
            have HO := Lib.hid (And.intro ho hb)
            clear ho hb hsi hx htk hlr hxr
            go_wp2_with (at_builtin; refine wpList_app_byte rfl (.tmp 30) (.tmp 31) rfl w.heap.size wr.heap.size _ _ 32 rfl rfl (BOwn.below HO.out.1 ((Below.refl _ _).alloc (Nat.le_refl _) _)) (byte_32 wr) (Nat.le_trans HTK.out.2.1 (by decide)) (Nat.le_trans HO.out.2.size (by simp)) ?_; intro v5 w5 ho5 hb5; have HN := Lib.hid (And.intro ho5 (((HO.out.2.alloc HO.out.2.size _)).trans hb5)); clear ho5 hb5)
            refine (appint_any x (by have := HTK.out.2.2; omega) (by have := HTK.out.2.2; omega) HN.out.1 HN.out.2.size (by have := HTK.out.2.1; rw [List.length_append]; simp only [List.length_cons, List.length_nil]; omega) (HT.out.on HN.out.2)).mono ?_
            rintro e w6 ⟨v6, rfl, ho6, hb6⟩
            have HM := Lib.hid (And.intro ho6 (HN.out.2.trans hb6))
            clear ho6 hb6 HN
            go_wp2_with fail
            go_roundw
            case rel => exact ⟨j + 1, by omega, by go_num, by rw [HTK.out.1]; have := HM.out.1; simpa using this, HM.out.2⟩
            case measure => simp [intOf]; omega
          · obtain rfl : L = j := by omega
            rw [show (st 0).take L = st 0 by rw [HSI.out.2, List.take_length]] at ho
            have HM := Lib.hid (And.intro ho hb)
            clear ho hb
            go_wp2_with fail
            go_roundw
            case rel => exact ⟨0 + 1, by omega, by go_num, by rw [HE.out]; exact HM.out.1, HM.out.2⟩
            case measure => simp [intOf]
      · have hsi : NRd w w.heap.size (.slice B1 (st 1).length k1) (st 1) := HS.out 1 (by omega)
        obtain ⟨L, hL⟩ : ∃ L, L = (st 1).length := ⟨_, rfl⟩
        have HSI := Lib.hid (And.intro hsi hL)
        clear hsi
        rw [← hL]
        clear hL
        have hL50 : L ≤ 50 := by have h1 := HI.out.1; have h2 := HSI.out.2; omega
        have hix := idx_1
        go_wp2_with (at_builtin; refine wpList_app_byte rfl (.tmp 21) (.tmp 22) rfl w.heap.size wr.heap.size _ _ 59 rfl rfl (BOwn.below HO.out.1 ((Below.refl _ _).alloc (Nat.le_refl _) _)) (byte_59 wr) (Nat.le_trans HLN.out (by decide)) (Nat.le_trans HO.out.2.size (by simp)) ?_; intro v5 w5 ho5 hb5; have HN := Lib.hid (And.intro ho5 (((HO.out.2.alloc HO.out.2.size _)).trans hb5)); clear ho5 hb5)
        clear hix
        have hN := HN.out
        clear HN HO
        go_loopw [3, 26] (fun v t wr => ∃ j : Nat, j ≤ L ∧ t = .int .i64 j ∧ BOwn wr w.heap.size v (pre ++ 59 :: rowB8 ((st 1).take j)) ∧ Below w.heap.size w wr) (fun _ t _ => L - (intOf t).toNat)
        case atStart => exact ⟨0, by omega, rfl, by simpa [rowB8] using hN.1, hN.2⟩
        case round =>
          clear hN
          obtain ⟨j, hj, rfl, ho, hb⟩ := hrel
          by_cases hjL : j < L
          · obtain ⟨x, hx⟩ : ∃ x, (st 1)[j]? = some x := ⟨_, List.getElem?_eq_getElem (by rw [← HSI.out.2]; exact hjL)⟩
            have hsi := HSI.out.1.below hb
            rw [← HSI.out.2] at hsi
            obtain ⟨g', o', hA, -, d1⟩ := hsi.num hx
            have hxr := HI.out.2 x (List.mem_of_getElem? hx)
            have htk := rowB8_take hx
            have hlr : (pre ++ 59 :: rowB8 ((st 1).take j)).length ≤ 65000 := by
              have h1 := HLN.out
              have h2 := rowB8_len ((st 1).take j) (fun y hy => HI.out.2 y (List.mem_of_mem_take hy))
              have h3 := HI.out.1
              rw [List.length_append, List.length_cons]
              rw [List.length_take] at h2
              omega
            have j1 : (0 : Int) ≤ (j : Int) := by omega
            have j2 : (j : Int) < (L : Int) := by omega
            subst hA
            have HTK := Lib.hid (And.intro htk (And.intro hlr hxr))
            have HO := Lib.hid (And.intro ho hb)
            clear ho hb hsi hx htk hlr hxr
            go_wp2_with (at_builtin; refine wpList_app_byte rfl (.tmp 30) (.tmp 31) rfl w.heap.size wr.heap.size _ _ 32 rfl rfl (BOwn.below HO.out.1 ((Below.refl _ _).alloc (Nat.le_refl _) _)) (byte_32 wr) (Nat.le_trans HTK.out.2.1 (by decide)) (Nat.le_trans HO.out.2.size (by simp)) ?_; intro v5 w5 ho5 hb5; have HN := Lib.hid (And.intro ho5 (((HO.out.2.alloc HO.out.2.size _)).trans hb5)); clear ho5 hb5)
            refine (appint_any x (by have := HTK.out.2.2; omega) (by have := HTK.out.2.2; omega) HN.out.1 HN.out.2.size (by have := HTK.out.2.1; rw [List.length_append]; simp only [List.length_cons, List.length_nil]; omega) (HT.out.on HN.out.2)).mono ?_
            rintro e w6 ⟨v6, rfl, ho6, hb6⟩
            have HM := Lib.hid (And.intro ho6 (HN.out.2.trans hb6))
            clear ho6 hb6 HN
            go_wp2_with fail
            go_roundw
            case rel => exact ⟨j + 1, by omega, by go_num, by rw [HTK.out.1]; have := HM.out.1; simpa using this, HM.out.2⟩
            case measure => simp [intOf]; omega
          · obtain rfl : L = j := by omega
            rw [show (st 1).take L = st 1 by rw [HSI.out.2, List.take_length]] at ho
            have HM := Lib.hid (And.intro ho hb)
            clear ho hb
            go_wp2_with fail
            go_roundw
            case rel => exact ⟨1 + 1, by omega, by go_num, by rw [HE.out]; exact HM.out.1, HM.out.2⟩
            case measure => simp [intOf]
      · have hsi : NRd w w.heap.size (.slice B2 (st 2).length k2) (st 2) := HS.out 2 (by omega)
        obtain ⟨L, hL⟩ : ∃ L, L = (st 2).length := ⟨_, rfl⟩
        have HSI := Lib.hid (And.intro hsi hL)
        clear hsi
        rw [← hL]
        clear hL
        have hL50 : L ≤ 50 := by have h1 := HI.out.1; have h2 := HSI.out.2; omega
        have hix := idx_2
        go_wp2_with (at_builtin; refine wpList_app_byte rfl (.tmp 21) (.tmp 22) rfl w.heap.size wr.heap.size _ _ 59 rfl rfl (BOwn.below HO.out.1 ((Below.refl _ _).alloc (Nat.le_refl _) _)) (byte_59 wr) (Nat.le_trans HLN.out (by decide)) (Nat.le_trans HO.out.2.size (by simp)) ?_; intro v5 w5 ho5 hb5; have HN := Lib.hid (And.intro ho5 (((HO.out.2.alloc HO.out.2.size _)).trans hb5)); clear ho5 hb5)
        clear hix
        have hN := HN.out
        clear HN HO
        go_loopw [3, 26] (fun v t wr => ∃ j : Nat, j ≤ L ∧ t = .int .i64 j ∧ BOwn wr w.heap.size v (pre ++ 59 :: rowB8 ((st 2).take j)) ∧ Below w.heap.size w wr) (fun _ t _ => L - (intOf t).toNat)
        case atStart => exact ⟨0, by omega, rfl, by simpa [rowB8] using hN.1, hN.2⟩
        case round =>
          clear hN
          obtain ⟨j, hj, rfl, ho, hb⟩ := hrel
          by_cases hjL : j < L
          · obtain ⟨x, hx⟩ : ∃ x, (st 2)[j]? = some x := ⟨_, List.getElem?_eq_getElem (by rw [← HSI.out.2]; exact hjL)⟩
            have hsi := HSI.out.1.below hb
            rw [← HSI.out.2] at hsi
            obtain ⟨g', o', hA, -, d1⟩ := hsi.num hx
            have hxr := HI.out.2 x (List.mem_of_getElem? hx)
            have htk := rowB8_take hx
            have hlr : (pre ++ 59 :: rowB8 ((st 2).take j)).length ≤ 65000 := by
              have h1 := HLN.out
              have h2 := rowB8_len ((st 2).take j) (fun y hy => HI.out.2 y (List.mem_of_mem_take hy))
              have h3 := HI.out.1
              rw [List.length_append, List.length_cons]
              rw [List.length_take] at h2
              omega
            have j1 : (0 : Int) ≤ (j : Int) := by omega
            have j2 : (j : Int) < (L : Int) := by omega
            subst hA
            have HTK := Lib.hid (And.intro htk (And.intro hlr hxr))
            have HO := Lib.hid (And.intro ho hb)
            clear ho hb hsi hx htk hlr hxr
            go_wp2_with (at_builtin; refine wpList_app_byte rfl (.tmp 30) (.tmp 31) rfl w.heap.size wr.heap.size _ _ 32 rfl rfl (BOwn.below HO.out.1 ((Below.refl _ _).alloc (Nat.le_refl _) _)) (byte_32 wr) (Nat.le_trans HTK.out.2.1 (by decide)) (Nat.le_trans HO.out.2.size (by simp)) ?_; intro v5 w5 ho5 hb5; have HN := Lib.hid (And.intro ho5 (((HO.out.2.alloc HO.out.2.size _)).trans hb5)); clear ho5 hb5)
            refine (appint_any x (by have := HTK.out.2.2; omega) (by have := HTK.out.2.2; omega) HN.out.1 HN.out.2.size (by have := HTK.out.2.1; rw [List.length_append]; simp only [List.length_cons, List.length_nil]; omega) (HT.out.on HN.out.2)).mono ?_
            rintro e w6 ⟨v6, rfl, ho6, hb6⟩
            have HM := Lib.hid (And.intro ho6 (HN.out.2.trans hb6))
            clear ho6 hb6 HN
            go_wp2_with fail
            go_roundw
            case rel => exact ⟨j + 1, by omega, by go_num, by rw [HTK.out.1]; have := HM.out.1; simpa using this, HM.out.2⟩
            case measure => simp [intOf]; omega
          · obtain rfl : L = j := by omega
            rw [show (st 2).take L = st 2 by rw [HSI.out.2, List.take_length]] at ho
            have HM := Lib.hid (And.intro ho hb)
            clear ho hb
            go_wp2_with fail
            go_roundw
            case rel => exact ⟨2 + 1, by omega, by go_num, by rw [HE.out]; exact HM.out.1, HM.out.2⟩
            case measure => simp [intOf]
      · have hsi : NRd w w.heap.size (.slice B3 (st 3).length k3) (st 3) := HS.out 3 (by omega)
        obtain ⟨L, hL⟩ : ∃ L, L = (st 3).length := ⟨_, rfl⟩
        have HSI := Lib.hid (And.intro hsi hL)
        clear hsi
        rw [← hL]
        clear hL
        have hL50 : L ≤ 50 := by have h1 := HI.out.1; have h2 := HSI.out.2; omega
        have hix := idx_3
        go_wp2_with (at_builtin; refine wpList_app_byte rfl (.tmp 21) (.tmp 22) rfl w.heap.size wr.heap.size _ _ 59 rfl rfl (BOwn.below HO.out.1 ((Below.refl _ _).alloc (Nat.le_refl _) _)) (byte_59 wr) (Nat.le_trans HLN.out (by decide)) (Nat.le_trans HO.out.2.size (by simp)) ?_; intro v5 w5 ho5 hb5; have HN := Lib.hid (And.intro ho5 (((HO.out.2.alloc HO.out.2.size _)).trans hb5)); clear ho5 hb5)
        clear hix
        have hN := HN.out
        clear HN HO
        go_loopw [3, 26] (fun v t wr => ∃ j : Nat, j ≤ L ∧ t = .int .i64 j ∧ BOwn wr w.heap.size v (pre ++ 59 :: rowB8 ((st 3).take j)) ∧ Below w.heap.size w wr) (fun _ t _ => L - (intOf t).toNat)
        case atStart => exact ⟨0, by omega, rfl, by simpa [rowB8] using hN.1, hN.2⟩
        case round =>
          clear hN
          obtain ⟨j, hj, rfl, ho, hb⟩ := hrel
          by_cases hjL : j < L
          · obtain ⟨x, hx⟩ : ∃ x, (st 3)[j]? = some x := ⟨_, List.getElem?_eq_getElem (by rw [← HSI.out.2]; exact hjL)⟩
            have hsi := HSI.out.1.below hb
            rw [← HSI.out.2] at hsi
            obtain ⟨g', o', hA, -, d1⟩ := hsi.num hx
            have hxr := HI.out.2 x (List.mem_of_getElem? hx)
            have htk := rowB8_take hx
            have hlr : (pre ++ 59 :: rowB8 ((st 3).take j)).length ≤ 65000 := by
              have h1 := HLN.out
              have h2 := rowB8_len ((st 3).take j) (fun y hy => HI.out.2 y (List.mem_of_mem_take hy))
              have h3 := HI.out.1
              rw [List.length_append, List.length_cons]
              rw [List.length_take] at h2
              omega
            have j1 : (0 : Int) ≤ (j : Int) := by omega
            have j2 : (j : Int) < (L : Int) := by omega
            subst hA
            have HTK := Lib.hid (And.intro htk (And.intro hlr hxr))
            have HO := Lib.hid (And.intro ho hb)
            clear ho hb hsi hx htk hlr hxr
            go_wp2_with (at_builtin; refine wpList_app_byte rfl (.tmp 30) (.tmp 31) rfl w.heap.size wr.heap.size _ _ 32 rfl rfl (BOwn.below HO.out.1 ((Below.refl _ _).alloc (Nat.le_refl _) _)) (byte_32 wr) (Nat.le_trans HTK.out.2.1 (by decide)) (Nat.le_trans HO.out.2.size (by simp)) ?_; intro v5 w5 ho5 hb5; have HN := Lib.hid (And.intro ho5 (((HO.out.2.alloc HO.out.2.size _)).trans hb5)); clear ho5 hb5)
            refine (appint_any x (by have := HTK.out.2.2; omega) (by have := HTK.out.2.2; omega) HN.out.1 HN.out.2.size (by have := HTK.out.2.1; rw [List.length_append]; simp only [List.length_cons, List.length_nil]; omega) (HT.out.on HN.out.2)).mono ?_
            rintro e w6 ⟨v6, rfl, ho6, hb6⟩
            have HM := Lib.hid (And.intro ho6 (HN.out.2.trans hb6))
            clear ho6 hb6 HN
            go_wp2_with fail
            go_roundw
            case rel => exact ⟨j + 1, by omega, by go_num, by rw [HTK.out.1]; have := HM.out.1; simpa using this, HM.out.2⟩
            case measure => simp [intOf]; omega
          · obtain rfl : L = j := by omega
            rw [show (st 3).take L = st 3 by rw [HSI.out.2, List.take_length]] at ho
            have HM := Lib.hid (And.intro ho hb)
            clear ho hb
            go_wp2_with fail
            go_roundw
            case rel => exact ⟨3 + 1, by omega, by go_num, by rw [HE.out]; exact HM.out.1, HM.out.2⟩
            case measure => simp [intOf]
    · obtain rfl : i = 4 := by omega
      have hne : Lib.decDigits d ++ rowsB8 st 4 ≠ [] := by simp [dec_ne]
      have hcs := bytes_string ho hne
      have HB := Lib.hid hb
      clear hb ho hne
      go_wp2_with fail
      go_ret
      exact ⟨rfl, HB.out⟩
end Go.Proofs.YtfgangkpebkicaaDoor
