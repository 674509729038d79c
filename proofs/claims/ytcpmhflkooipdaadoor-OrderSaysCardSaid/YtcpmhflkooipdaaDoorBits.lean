/-
  Contracts of math/bits' TrailingZeros16 and OnesCount16.
-/
import Derived.Test.YtcpmhflkooipdaaDoorReady
import Derived.Test.YtcpmhflkooipdaaDoorBitsPure
import Derived.Test.YtcpmhflkooipdaaDoorOnes
namespace Go.Proofs.YtcpmhflkooipdaaDoor
open Go.RowKit
set_option maxRecDepth 20000

/-- The library's table, where the program lays it. -/
def Tab (w : World) : Prop := ∀ k, k < 32 → w.cell? ⟨0, k, none⟩ = some (.int .u8 (deb.getD k 0 : Nat))
theorem Tab.below {w w' : World} {B : Nat} (h : Tab w) (hb : Below B w w') (hB : 0 < B) : Tab w' := fun k hk => (hb.cell (p := ⟨0, k, none⟩) hB).trans (h k hk)

theorem Tab.drew {w : World} (h : Tab w) : Tab w.drew := h
theorem Tab.alloc {w : World} (h : Tab w) (hp : 0 < w.heap.size) (o : Obj) : Tab (w.alloc o) := h.below ((Below.refl w.heap.size w).alloc (Nat.le_refl _) o) hp

theorem neg_val (x : Nat) (h0 : 0 < x) (hx : x < 65536) : IntKind.u16.wrap (-(x : Int)) = ((65536 - x : Nat) : Int) := by
  rw [IntKind.wrap_u16]; omega
theorem tz_and (x : Nat) (h0 : 0 < x) (hx : x < 65536) : bits BinOp.and IntKind.u16 (x : Int) (IntKind.u16.wrap (-(x : Int))) = ((2 ^ tz x : Nat) : Int) := by
  rw [neg_val x h0 hx, u16_and_nat _ _ hx (by omega)]
  have h := (low_and 16 x h0 hx).1
  exact congrArg _ h

theorem tz_any (x : Nat) (w : World) (hx : x < 65536) (h0 : 0 < x) (hT : Tab w) :
    Calls Tryd.prog 25 #[.int .u16 x] w fun e w' => e = .returned (.int .i64 (tz x)) ∧ w = w' := by
  have hz : ((x : Int) == 0) = false := by rw [beq_eq_false_iff_ne]; omega
  have hl : tz x < 16 := (low_and 16 x h0 hx).2
  obtain ⟨d1, d2⟩ := deb_at (tz x) hl
  have hp : 2 ^ tz x < 65536 := pow_lt _ (by omega)
  have hv := tz_and x h0 hx
  have hqg : ∀ p : Nat, p < 65536 → ((p : Int) % 4294967296 * 125613361 % 4294967296 / 134217728).toNat = p * 125613361 % 4294967296 / 134217728 := by
    intro p hp
    rw [show (p : Int) % 4294967296 = p by omega, show ((p : Int) * 125613361 % 4294967296 / 134217728) = ((p * 125613361 % 4294967296 / 134217728 : Nat) : Int) from by rw [Int.natCast_ediv, Int.natCast_emod, Int.natCast_mul]; rfl, Int.toNat_natCast]
  have hq : (((2 ^ tz x : Nat) : Int) % 4294967296 * 125613361 % 4294967296 / 134217728).toNat = 2 ^ tz x * 125613361 % 4294967296 / 134217728 := hqg _ hp
  clear hqg
  have hc := hT _ d1
  rw [d2, ← hq, ← hv] at hc
  have hi1 : 0 ≤ bits BinOp.and IntKind.u16 (x : Int) (IntKind.u16.wrap (-(x : Int))) % 4294967296 * 125613361 % 4294967296 / 134217728 := by rw [hv]; omega
  have hi2 : bits BinOp.and IntKind.u16 (x : Int) (IntKind.u16.wrap (-(x : Int))) % 4294967296 * 125613361 % 4294967296 / 134217728 < 32 := by rw [hv]; omega
  clear hq hv d1 d2 hT
  go_enter Tryd.func25, Tryd.ntmps25
  go_wp2
  go_ret
  exact ⟨rfl, rfl⟩

end Go.Proofs.YtcpmhflkooipdaaDoor
