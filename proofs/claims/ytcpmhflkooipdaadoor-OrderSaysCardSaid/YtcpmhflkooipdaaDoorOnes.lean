/-
  Contract of math/bits' OnesCount16.
-/
import Derived.Test.YtcpmhflkooipdaaDoorMem
import Derived.Test.YtcpmhflkooipdaaDoorBitsPure
import Derived.Deep.QuietTactic
import Derived.BigQuiet
namespace Go.Proofs.YtcpmhflkooipdaaDoor
open Go.RowKit
set_option maxRecDepth 20000

/-- The library's table of how many bits a byte has. -/
def popS : ByteArray := (⟨(List.append (List.append [0, 1, 1, 2, 1, 2, 2, 3, 1, 2, 2, 3, 2, 3, 3, 4, 1, 2, 2, 3, 2, 3, 3, 4, 2, 3, 3, 4, 3, 4, 4, 5, 1, 2, 2, 3, 2, 3, 3, 4, 2, 3, 3, 4, 3, 4, 4, 5, 2, 3, 3, 4, 3, 4, 4, 5, 3, 4, 4, 5, 4, 5, 5, 6] [1, 2, 2, 3, 2, 3, 3, 4, 2, 3, 3, 4, 3, 4, 4, 5, 2, 3, 3, 4, 3, 4, 4, 5, 3, 4, 4, 5, 4, 5, 5, 6, 2, 3, 3, 4, 3, 4, 4, 5, 3, 4, 4, 5, 4, 5, 5, 6, 3, 4, 4, 5, 4, 5, 5, 6, 4, 5, 5, 6, 5, 6, 6, 7]) (List.append [1, 2, 2, 3, 2, 3, 3, 4, 2, 3, 3, 4, 3, 4, 4, 5, 2, 3, 3, 4, 3, 4, 4, 5, 3, 4, 4, 5, 4, 5, 5, 6, 2, 3, 3, 4, 3, 4, 4, 5, 3, 4, 4, 5, 4, 5, 5, 6, 3, 4, 4, 5, 4, 5, 5, 6, 4, 5, 5, 6, 5, 6, 6, 7] [2, 3, 3, 4, 3, 4, 4, 5, 3, 4, 4, 5, 4, 5, 5, 6, 3, 4, 4, 5, 4, 5, 5, 6, 4, 5, 5, 6, 5, 6, 6, 7, 3, 4, 4, 5, 4, 5, 5, 6, 4, 5, 5, 6, 5, 6, 6, 7, 4, 5, 5, 6, 5, 6, 6, 7, 5, 6, 6, 7, 6, 7, 7, 8])).toArray⟩ : ByteArray)
theorem popS_at : ∀ k, k < 256 → popS[k]? = some (UInt8.ofNat (popN 8 k)) := by decide +kernel
theorem popN_le : ∀ k x : Nat, popN k x ≤ k
  | 0, _ => Nat.le_refl _
  | k + 1, x => by unfold popN; have := popN_le k (x / 2); omega
theorem pop_two (x : Nat) : popN 8 (x / 256) + popN 8 (x % 256) = pop x := by
  have h := popN_split 8 8 x
  unfold pop
  rw [h]
  exact Nat.add_comm _ _

theorem index_at (S : ByteArray) (i : Nat) (b : UInt8) (h : S[i]? = some b) (w : World) :
    (Instr.index 9 (.string S) (.int .u16 (i : Int))).run Tryd.prog w = .ok (.int .u8 b.toNat) w := by
  have hi : i < S.size := by
    rcases Nat.lt_or_ge i S.size with h' | h'
    · exact h'
    · rw [ByteArray.getElem?_ge' S _ (by omega)] at h; cases h
  rw [ByteArray.getElem?_lt' S _ hi] at h
  rw [run_index_string w _ S _ _ Tryd.underlying9, dif_pos (by omega)]
  injection h with h
  simp [h]

set_option maxRecDepth 100000 in
theorem ones_any (x : Nat) (w : World) (hx : x < 65536) :
    Calls Tryd.prog 33 #[.int .u16 x] w fun e w' => e = .returned (.int .i64 (pop x)) ∧ ∃ n, w' = w.drewN n := by
  have h1 := popS_at (x / 256) (by omega)
  have h2 := popS_at (x % 256) (by omega)
  have l1 := popN_le 8 (x / 256)
  have l2 := popN_le 8 (x % 256)
  have hp := pop_two x
  go_enter Tryd.func33, Tryd.ntmps33
  go_wp2
  generalize hS : (⟨(List.append (List.append [0, 1, 1, 2, 1, 2, 2, 3, 1, 2, 2, 3, 2, 3, 3, 4, 1, 2, 2, 3, 2, 3, 3, 4, 2, 3, 3, 4, 3, 4, 4, 5, 1, 2, 2, 3, 2, 3, 3, 4, 2, 3, 3, 4, 3, 4, 4, 5, 2, 3, 3, 4, 3, 4, 4, 5, 3, 4, 4, 5, 4, 5, 5, 6] [1, 2, 2, 3, 2, 3, 3, 4, 2, 3, 3, 4, 3, 4, 4, 5, 2, 3, 3, 4, 3, 4, 4, 5, 3, 4, 4, 5, 4, 5, 5, 6, 2, 3, 3, 4, 3, 4, 4, 5, 3, 4, 4, 5, 4, 5, 5, 6, 3, 4, 4, 5, 4, 5, 5, 6, 4, 5, 5, 6, 5, 6, 6, 7]) (List.append [1, 2, 2, 3, 2, 3, 3, 4, 2, 3, 3, 4, 3, 4, 4, 5, 2, 3, 3, 4, 3, 4, 4, 5, 3, 4, 4, 5, 4, 5, 5, 6, 2, 3, 3, 4, 3, 4, 4, 5, 3, 4, 4, 5, 4, 5, 5, 6, 3, 4, 4, 5, 4, 5, 5, 6, 4, 5, 5, 6, 5, 6, 6, 7] [2, 3, 3, 4, 3, 4, 4, 5, 3, 4, 4, 5, 4, 5, 5, 6, 3, 4, 4, 5, 4, 5, 5, 6, 4, 5, 5, 6, 5, 6, 6, 7, 3, 4, 4, 5, 4, 5, 5, 6, 4, 5, 5, 6, 5, 6, 6, 7, 4, 5, 5, 6, 5, 6, 6, 7, 5, 6, 6, 7, 6, 7, 7, 8])).toArray⟩ : ByteArray) = S
  rw [show popS = S from hS] at h1 h2
  clear hS
  have hm : bits BinOp.and IntKind.u16 (x : Int) 255 = ((x % 256 : Nat) : Int) := by
    rw [show (255 : Int) = ((255 : Nat) : Int) from rfl, u16_and_nat _ _ hx (by omega)]
    exact congrArg _ (Nat.and_two_pow_sub_one_eq_mod x 8)
  have i1 := index_at S (x / 256) _ h1 
  have i2 := index_at S (x % 256) _ h2
  rw [← hm] at i2
  have e1 : ((x / 256 : Nat) : Int) = (x : Int) / 256 := by omega
  rw [e1] at i1
  clear h1 h2 hm e1
  go_quiet (fail)
  go_wp2
  go_ret
  exact ⟨ret_int (by omega), nq, rfl⟩
theorem ones_below (x : Nat) (w : World) (hx : x < 65536) :
    Calls Tryd.prog 33 #[.int .u16 x] w fun e w' => e = .returned (.int .i64 (pop x)) ∧ Below w.heap.size w w' :=
  (ones_any x w hx).mono fun _ _ ⟨he, _, hw⟩ => ⟨he, by rw [hw]; exact ⟨rfl, rfl, rfl, Nat.le_refl _, fun _ _ => rfl⟩⟩
end Go.Proofs.YtcpmhflkooipdaaDoor
