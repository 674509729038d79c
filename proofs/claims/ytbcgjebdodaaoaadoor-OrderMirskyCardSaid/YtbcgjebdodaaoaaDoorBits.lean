/-
  Contracts of math/bits' TrailingZeros16 and OnesCount16.
-/
import Derived.Test.YtbcgjebdodaaoaaDoorReady
import Derived.Test.YtbcgjebdodaaoaaDoorBitsPure
namespace Go.Proofs.YtbcgjebdodaaoaaDoor
open Go.RowKit

/-- The library's table, where the program lays it. -/
def Tab (w : World) : Prop := ∀ k, k < 32 → w.cell? ⟨0, k, none⟩ = some (.int .u8 (deb.getD k 0 : Nat))
theorem Tab.below {w w' : World} {B : Nat} (h : Tab w) (hb : Below B w w') (hB : 0 < B) : Tab w' := fun k hk => (hb.cell (p := ⟨0, k, none⟩) hB).trans (h k hk)

theorem Tab.drew {w : World} (h : Tab w) : Tab w.drew := h
theorem Tab.alloc {w : World} (h : Tab w) (hp : 0 < w.heap.size) (o : Obj) : Tab (w.alloc o) := h.below ((Below.refl w.heap.size w).alloc (Nat.le_refl _) o) hp

theorem neg_val (x : Nat) (h0 : 0 < x) (hx : x < 65536) : IntKind.u16.wrap (-(x : Int)) = ((65536 - x : Nat) : Int) := by
  rw [IntKind.wrap_u16]; omega
theorem tz_and (x : Nat) (h0 : 0 < x) (hx : x < 65536) : bits BinOp.and IntKind.u16 (x : Int) (IntKind.u16.wrap (-(x : Int))) = ((2 ^ tz x : Nat) : Int) := by
  rw [neg_val x h0 hx, u16_and_nat _ _ hx (by omega)]
  have h := (low_and 16 x h0 hx).1
  exact congrArg _ h

theorem tz_any (x : Nat) (w : World) (hx : x < 65536) (h0 : 0 < x) (hT : Tab w) :
    Calls Tryd.prog 36 #[.int .u16 x] w fun e w' => e = .returned (.int .i64 (tz x)) ∧ w = w' := by
  have hz : ((x : Int) == 0) = false := by rw [beq_eq_false_iff_ne]; omega
  have hl : tz x < 16 := (low_and 16 x h0 hx).2
  obtain ⟨d1, d2⟩ := deb_at (tz x) hl
  have hp : 2 ^ tz x < 65536 := pow_lt _ (by omega)
  have hv := tz_and x h0 hx
  have hqg : ∀ p : Nat, p < 65536 → ((p : Int) % 4294967296 * 125613361 % 4294967296 / 134217728).toNat = p * 125613361 % 4294967296 / 134217728 := by
    intro p hp
    rw [show (p : Int) % 4294967296 = p by omega, show ((p : Int) * 125613361 % 4294967296 / 134217728) = ((p * 125613361 % 4294967296 / 134217728 : Nat) : Int) from by rw [Int.natCast_ediv, Int.natCast_emod, Int.natCast_mul]; rfl, Int.toNat_natCast]
  have hq : (((2 ^ tz x : Nat) : Int) % 4294967296 * 125613361 % 4294967296 / 134217728).toNat = 2 ^ tz x * 125613361 % 4294967296 / 134217728 := hqg _ hp
  clear hqg
  have hc := hT _ d1
  rw [d2, ← hq, ← hv] at hc
  have hi1 : 0 ≤ bits BinOp.and IntKind.u16 (x : Int) (IntKind.u16.wrap (-(x : Int))) % 4294967296 * 125613361 % 4294967296 / 134217728 := by rw [hv]; omega
  have hi2 : bits BinOp.and IntKind.u16 (x : Int) (IntKind.u16.wrap (-(x : Int))) % 4294967296 * 125613361 % 4294967296 / 134217728 < 32 := by rw [hv]; omega
  clear hq hv d1 d2 hT
  go_enter Tryd.func36, Tryd.ntmps36
  go_wp2
  go_ret
  exact ⟨rfl, rfl⟩

/-- The library's table of how many bits a byte has. -/
def popS : ByteArray := (⟨(List.append (List.append [0, 1, 1, 2, 1, 2, 2, 3, 1, 2, 2, 3, 2, 3, 3, 4, 1, 2, 2, 3, 2, 3, 3, 4, 2, 3, 3, 4, 3, 4, 4, 5, 1, 2, 2, 3, 2, 3, 3, 4, 2, 3, 3, 4, 3, 4, 4, 5, 2, 3, 3, 4, 3, 4, 4, 5, 3, 4, 4, 5, 4, 5, 5, 6] [1, 2, 2, 3, 2, 3, 3, 4, 2, 3, 3, 4, 3, 4, 4, 5, 2, 3, 3, 4, 3, 4, 4, 5, 3, 4, 4, 5, 4, 5, 5, 6, 2, 3, 3, 4, 3, 4, 4, 5, 3, 4, 4, 5, 4, 5, 5, 6, 3, 4, 4, 5, 4, 5, 5, 6, 4, 5, 5, 6, 5, 6, 6, 7]) (List.append [1, 2, 2, 3, 2, 3, 3, 4, 2, 3, 3, 4, 3, 4, 4, 5, 2, 3, 3, 4, 3, 4, 4, 5, 3, 4, 4, 5, 4, 5, 5, 6, 2, 3, 3, 4, 3, 4, 4, 5, 3, 4, 4, 5, 4, 5, 5, 6, 3, 4, 4, 5, 4, 5, 5, 6, 4, 5, 5, 6, 5, 6, 6, 7] [2, 3, 3, 4, 3, 4, 4, 5, 3, 4, 4, 5, 4, 5, 5, 6, 3, 4, 4, 5, 4, 5, 5, 6, 4, 5, 5, 6, 5, 6, 6, 7, 3, 4, 4, 5, 4, 5, 5, 6, 4, 5, 5, 6, 5, 6, 6, 7, 4, 5, 5, 6, 5, 6, 6, 7, 5, 6, 6, 7, 6, 7, 7, 8])).toArray⟩ : ByteArray)
theorem popS_at : ∀ k, k < 256 → popS[k]? = some (UInt8.ofNat (popN 8 k)) := by decide +kernel
theorem popN_le : ∀ k x : Nat, popN k x ≤ k
  | 0, _ => Nat.le_refl _
  | k + 1, x => by unfold popN; have := popN_le k (x / 2); omega
theorem pop_two (x : Nat) : popN 8 (x / 256) + popN 8 (x % 256) = pop x := by
  have h := popN_split 8 8 x
  unfold pop
  rw [h]
  exact Nat.add_comm _ _

theorem index_at (S : ByteArray) (i : Nat) (b : UInt8) (h : S[i]? = some b) (w : World) :
    (Instr.index 9 (.string S) (.int .u16 (i : Int))).run Tryd.prog w = .ok (.int .u8 b.toNat) w := by
  have hi : i < S.size := by
    rcases Nat.lt_or_ge i S.size with h' | h'
    · exact h'
    · rw [ByteArray.getElem?_ge' S _ (by omega)] at h; cases h
  rw [ByteArray.getElem?_lt' S _ hi] at h
  rw [run_index_string w _ S _ _ Tryd.underlying9, dif_pos (by omega)]
  injection h with h
  simp [h]

set_option maxRecDepth 100000 in
theorem ones_any (x : Nat) (w : World) (hx : x < 65536) :
    Calls Tryd.prog 43 #[.int .u16 x] w fun e w' => e = .returned (.int .i64 (pop x)) ∧ ∃ n, w' = w.drewN n := by
  have h1 := popS_at (x / 256) (by omega)
  have h2 := popS_at (x % 256) (by omega)
  have l1 := popN_le 8 (x / 256)
  have l2 := popN_le 8 (x % 256)
  have hp := pop_two x
  go_enter Tryd.func43, Tryd.ntmps43
  go_wp2
  generalize hS : (⟨(List.append (List.append [0, 1, 1, 2, 1, 2, 2, 3, 1, 2, 2, 3, 2, 3, 3, 4, 1, 2, 2, 3, 2, 3, 3, 4, 2, 3, 3, 4, 3, 4, 4, 5, 1, 2, 2, 3, 2, 3, 3, 4, 2, 3, 3, 4, 3, 4, 4, 5, 2, 3, 3, 4, 3, 4, 4, 5, 3, 4, 4, 5, 4, 5, 5, 6] [1, 2, 2, 3, 2, 3, 3, 4, 2, 3, 3, 4, 3, 4, 4, 5, 2, 3, 3, 4, 3, 4, 4, 5, 3, 4, 4, 5, 4, 5, 5, 6, 2, 3, 3, 4, 3, 4, 4, 5, 3, 4, 4, 5, 4, 5, 5, 6, 3, 4, 4, 5, 4, 5, 5, 6, 4, 5, 5, 6, 5, 6, 6, 7]) (List.append [1, 2, 2, 3, 2, 3, 3, 4, 2, 3, 3, 4, 3, 4, 4, 5, 2, 3, 3, 4, 3, 4, 4, 5, 3, 4, 4, 5, 4, 5, 5, 6, 2, 3, 3, 4, 3, 4, 4, 5, 3, 4, 4, 5, 4, 5, 5, 6, 3, 4, 4, 5, 4, 5, 5, 6, 4, 5, 5, 6, 5, 6, 6, 7] [2, 3, 3, 4, 3, 4, 4, 5, 3, 4, 4, 5, 4, 5, 5, 6, 3, 4, 4, 5, 4, 5, 5, 6, 4, 5, 5, 6, 5, 6, 6, 7, 3, 4, 4, 5, 4, 5, 5, 6, 4, 5, 5, 6, 5, 6, 6, 7, 4, 5, 5, 6, 5, 6, 6, 7, 5, 6, 6, 7, 6, 7, 7, 8])).toArray⟩ : ByteArray) = S
  rw [show popS = S from hS] at h1 h2
  clear hS
  have hm : bits BinOp.and IntKind.u16 (x : Int) 255 = ((x % 256 : Nat) : Int) := by
    rw [show (255 : Int) = ((255 : Nat) : Int) from rfl, u16_and_nat _ _ hx (by omega)]
    exact congrArg _ (Nat.and_two_pow_sub_one_eq_mod x 8)
  have i1 := index_at S (x / 256) _ h1 
  have i2 := index_at S (x % 256) _ h2
  rw [← hm] at i2
  have e1 : ((x / 256 : Nat) : Int) = (x : Int) / 256 := by omega
  rw [e1] at i1
  clear h1 h2 hm e1
  go_quiet (fail)
  go_wp2
  go_ret
  exact ⟨ret_int (by omega), nq, rfl⟩
theorem ones_below (x : Nat) (w : World) (hx : x < 65536) :
    Calls Tryd.prog 43 #[.int .u16 x] w fun e w' => e = .returned (.int .i64 (pop x)) ∧ Below w.heap.size w w' :=
  (ones_any x w hx).mono fun _ _ ⟨he, _, hw⟩ => ⟨he, by rw [hw]; exact ⟨rfl, rfl, rfl, Nat.le_refl _, fun _ _ => rfl⟩⟩
end Go.Proofs.YtbcgjebdodaaoaaDoor
