/-
  Joined by a program out of: LinMem, ObjOpen, ObjValid.
-/
import Derived.Test.YtfgangkpebkicaaGreatDoorMgAE
import Derived.Test.YtfgangkpebkicaaGreatDoorMgAF
import Derived.Test.YtfgangkpebkicaaGreatDoorMgAA

/-
  What package search keeps in memory: a record, a point; contracts of its small functions.
-/
namespace Go.Proofs.YtfgangkpebkicaaGreatDoor
open Go.RowKit
set_option maxRecDepth 20000
variable {Rl : Nat → Nat → Bool}
theorem lbit_val (s i : Nat) (hs : s < 65536) : (bits BinOp.and IntKind.u16 ((s : Int) / 2 ^ ((i : Int).toNat)) 1 != 0) = s.testBit i := by
  have e : (s : Int) / 2 ^ ((i : Int).toNat) = ((s / 2 ^ i : Nat) : Int) := by simp
  rw [e, show (1 : Int) = ((1 : Nat) : Int) from rfl, u16_and_nat _ _ (Nat.lt_of_le_of_lt (Nat.div_le_self _ _) hs) (by omega)]
  rw [Nat.testBit, Nat.shiftRight_eq_div_pow, Nat.and_comm, Bool.eq_iff_iff, bne_iff_ne, bne_iff_ne]
  omega
theorem lhas_any (s i : Nat) (w : World) (hs : s < 65536) (h1 : i ≤ 15) :
    Calls Tryz.prog 78 #[.int .u16 s, .int .i64 i] w fun e w' => e = .returned (.bool (s.testBit i)) ∧ w = w' := by
  go_enter Tryz.func78, Tryz.ntmps78
  go_wp2
  go_ret
  exact ⟨ret_bool (by rw [← lbit_val s i hs]; simp), rfl⟩
theorem lresp_any (c : Cl) (w : World) : Calls Tryz.prog 77 #[clV c] w fun e w' => e = .returned (.bool (c.til != -1)) ∧ Below w.heap.size w w' := by
  generalize hv : (c.til != -1) = d
  go_enter Tryz.func77, Tryz.ntmps77
  go_wp2
  go_ret
  exact ⟨rfl, (Below.refl _ _).alloc (Nat.le_refl _) _⟩
abbrev srCs (tv cv : Value) (b : Nat → Nat) (an : Nat) : Array Value := #[tv, cv, .int .u16 (b 0 : Nat), .int .u16 (b 1 : Nat), .int .u16 (b 2 : Nat), .int .u16 (b 3 : Nat), .int .u16 (b 4 : Nat), .int .u16 (b 5 : Nat), .int .u16 (b 6 : Nat), .int .u16 (b 7 : Nat), .int .u16 (b 8 : Nat), .int .u16 (an : Nat)]
abbrev srV (tv cv : Value) (b : Nat → Nat) (an : Nat) : Value := .agg #[tv, cv, .int .u16 (b 0 : Nat), .int .u16 (b 1 : Nat), .int .u16 (b 2 : Nat), .int .u16 (b 3 : Nat), .int .u16 (b 4 : Nat), .int .u16 (b 5 : Nat), .int .u16 (b 6 : Nat), .int .u16 (b 7 : Nat), .int .u16 (b 8 : Nat), .int .u16 (an : Nat)]
/-- A record lies in block g. -/
def SrB (w : World) (g : Nat) (tv cv : Value) (b : Nat → Nat) (an : Nat) : Prop := Lies w g 109 (srCs tv cv b an)
abbrev fillS (w : World) (g : Nat) (tv cv : Value) (b : Nat → Nat) (an : Nat) : World := ((((((((((((w.setCell ⟨g, 0, none⟩ tv).setCell ⟨g, 1, none⟩ cv).setCell ⟨g, 2, none⟩ (.int .u16 (b 0 : Nat))).setCell ⟨g, 3, none⟩ (.int .u16 (b 1 : Nat))).setCell ⟨g, 4, none⟩ (.int .u16 (b 2 : Nat))).setCell ⟨g, 5, none⟩ (.int .u16 (b 3 : Nat))).setCell ⟨g, 6, none⟩ (.int .u16 (b 4 : Nat))).setCell ⟨g, 7, none⟩ (.int .u16 (b 5 : Nat))).setCell ⟨g, 8, none⟩ (.int .u16 (b 6 : Nat))).setCell ⟨g, 9, none⟩ (.int .u16 (b 7 : Nat))).setCell ⟨g, 10, none⟩ (.int .u16 (b 8 : Nat))).setCell ⟨g, 11, none⟩ (.int .u16 (an : Nat)))
theorem fillS_below {B : Nat} {w0 w : World} {g : Nat} (h : Below B w0 w) (hg : B ≤ g) (tv cv : Value) (b : Nat → Nat) (an : Nat) : Below B w0 (fillS w g tv cv b an) := ((((((((((((h.setCell (p := ⟨g, 0, none⟩) hg _).setCell (p := ⟨g, 1, none⟩) hg _).setCell (p := ⟨g, 2, none⟩) hg _).setCell (p := ⟨g, 3, none⟩) hg _).setCell (p := ⟨g, 4, none⟩) hg _).setCell (p := ⟨g, 5, none⟩) hg _).setCell (p := ⟨g, 6, none⟩) hg _).setCell (p := ⟨g, 7, none⟩) hg _).setCell (p := ⟨g, 8, none⟩) hg _).setCell (p := ⟨g, 9, none⟩) hg _).setCell (p := ⟨g, 10, none⟩) hg _).setCell (p := ⟨g, 11, none⟩) hg _)
section
variable {w : World} {g : Nat} {tv cv : Value} {b : Nat → Nat} {an : Nat}
theorem SrB.fill (h : SrB w g tv cv b an) (tv' cv' : Value) (b' : Nat → Nat) (an' : Nat) : SrB (fillS w g tv' cv' b' an') g tv' cv' b' an' := by
  have h0 := Lies.set_ h 0 tv'
  have h1 := Lies.set_ h0 1 cv'
  have h2 := Lies.set_ h1 2 (.int .u16 (b' 0 : Nat))
  have h3 := Lies.set_ h2 3 (.int .u16 (b' 1 : Nat))
  have h4 := Lies.set_ h3 4 (.int .u16 (b' 2 : Nat))
  have h5 := Lies.set_ h4 5 (.int .u16 (b' 3 : Nat))
  have h6 := Lies.set_ h5 6 (.int .u16 (b' 4 : Nat))
  have h7 := Lies.set_ h6 7 (.int .u16 (b' 5 : Nat))
  have h8 := Lies.set_ h7 8 (.int .u16 (b' 6 : Nat))
  have h9 := Lies.set_ h8 9 (.int .u16 (b' 7 : Nat))
  have h10 := Lies.set_ h9 10 (.int .u16 (b' 8 : Nat))
  have h11 := Lies.set_ h10 11 (.int .u16 (an' : Nat))
  exact Lies.cast h11 (by simp [srCs])
theorem nat9 {k : Nat} (h : k < 9) : k = 0 ∨ k = 1 ∨ k = 2 ∨ k = 3 ∨ k = 4 ∨ k = 5 ∨ k = 6 ∨ k = 7 ∨ k = 8 := by omega
theorem SrB.setB (h : SrB w g tv cv b an) {k : Nat} (hk : k < 9) (x : Nat) : SrB (w.setCell ⟨g, 2 + k, none⟩ (.int .u16 (x : Nat))) g tv cv (fun i => if i = k then x else b i) an := by
  refine Lies.cast (Lies.set_ h (2 + k) (.int .u16 (x : Nat))) ?_
  rcases nat9 hk with rfl | rfl | rfl | rfl | rfl | rfl | rfl | rfl | rfl <;> simp [srCs]
theorem SrB.setA (h : SrB w g tv cv b an) (x : Nat) : SrB (w.setCell ⟨g, 11, none⟩ (.int .u16 (x : Nat))) g tv cv b x := by
  refine Lies.cast (Lies.set_ h 11 (.int .u16 (x : Nat))) ?_
  simp [srCs]
theorem SrB.congr {b' : Nat → Nat} (h : SrB w g tv cv b an) (e : ∀ i, i < 9 → b i = b' i) : SrB w g tv cv b' an := by
  refine Lies.cast h ?_
  simp [srCs, e 0, e 1, e 2, e 3, e 4, e 5, e 6, e 7, e 8]
theorem SrB.row (h : SrB w g tv cv b an) {k : Nat} (hk : k < 9) : w.cell? ⟨g, 2 + k, none⟩ = some (.int .u16 (b k : Nat)) := by
  rw [Lies.cell h]
  rcases nat9 hk with rfl | rfl | rfl | rfl | rfl | rfl | rfl | rfl | rfl <;> rfl
theorem SrB.ans (h : SrB w g tv cv b an) : w.cell? ⟨g, 11, none⟩ = some (.int .u16 (an : Nat)) := Lies.cell h 11
theorem SrB.free (h : SrB w g tv cv b an) (i : Nat) : w.frozen? ⟨g, i, none⟩ = false := Lies.frozen h i
theorem SrB.cells (h : SrB w g tv cv b an) : w.cell? ⟨g, 0, none⟩ = some tv ∧ w.cell? ⟨g, 1, none⟩ = some cv ∧ w.cell? ⟨g, 2, none⟩ = some (.int .u16 (b 0 : Nat)) ∧ w.cell? ⟨g, 3, none⟩ = some (.int .u16 (b 1 : Nat)) ∧ w.cell? ⟨g, 4, none⟩ = some (.int .u16 (b 2 : Nat)) ∧ w.cell? ⟨g, 5, none⟩ = some (.int .u16 (b 3 : Nat)) ∧ w.cell? ⟨g, 6, none⟩ = some (.int .u16 (b 4 : Nat)) ∧ w.cell? ⟨g, 7, none⟩ = some (.int .u16 (b 5 : Nat)) ∧ w.cell? ⟨g, 8, none⟩ = some (.int .u16 (b 6 : Nat)) ∧ w.cell? ⟨g, 9, none⟩ = some (.int .u16 (b 7 : Nat)) ∧ w.cell? ⟨g, 10, none⟩ = some (.int .u16 (b 8 : Nat)) ∧ w.cell? ⟨g, 11, none⟩ = some (.int .u16 (an : Nat)) := ⟨Lies.cell h 0, Lies.cell h 1, Lies.cell h 2, Lies.cell h 3, Lies.cell h 4, Lies.cell h 5, Lies.cell h 6, Lies.cell h 7, Lies.cell h 8, Lies.cell h 9, Lies.cell h 10, Lies.cell h 11⟩
end
theorem bef_rev (cs : List Cl) : befP Rl cs = rev cs.length (relP Rl cs.length) := by
  funext x
  apply Nat.eq_of_testBit_eq
  intro t
  unfold befP
  rw [relP_bit, rev_bit, relP_bit]
  by_cases h1 : t < cs.length <;> by_cases h2 : x < cs.length <;> simp [h1, h2]
theorem bef_lt {cs : List Cl} (h : cs.length ≤ 9) (j : Nat) : befP Rl cs j < 65536 := relP_lt _ (by omega) j
theorem ans_lt {cs : List Cl} (h : cs.length ≤ 9) : ansP cs < 65536 := pickS_lt16 _ (by omega)
end Go.Proofs.YtfgangkpebkicaaGreatDoor

/-
  Contracts of object.open.
-/
namespace Go.Proofs.YtfgangkpebkicaaGreatDoor
open Go.RowKit
set_option maxRecDepth 20000
theorem open_reg (A : Option Addr) (n c : Nat) (w : World) : Calls Tryz.prog 88 #[.int .i64 1, .slice A n c] w fun e w' => e = .returned (.tuple #[.iface 152 (.pointer (some ⟨w.heap.size, 0, none⟩)), .bool true]) ∧ w' = w.alloc (.cells #[.slice A n c] 156) := by
  go_enter Tryz.func88, Tryz.ntmps88
  go_wp2
  go_ret2
  exact ⟨rfl, rfl⟩
theorem open_queue (A : Option Addr) (n c : Nat) (w : World) : Calls Tryz.prog 88 #[.int .i64 2, .slice A n c] w fun e w' => e = .returned (.tuple #[.iface 157 (.pointer (some ⟨w.heap.size, 0, none⟩)), .bool true]) ∧ w' = w.alloc (.cells #[.slice A n c] 160) := by
  go_enter Tryz.func88, Tryz.ntmps88
  go_wp2
  go_ret2
  exact ⟨rfl, rfl⟩
theorem open_stack (A : Option Addr) (n c : Nat) (w : World) : Calls Tryz.prog 88 #[.int .i64 3, .slice A n c] w fun e w' => e = .returned (.tuple #[.iface 161 (.pointer (some ⟨w.heap.size, 0, none⟩)), .bool true]) ∧ w' = w.alloc (.cells #[.slice A n c] 162) := by
  go_enter Tryz.func88, Tryz.ntmps88
  go_wp2
  go_ret2
  exact ⟨rfl, rfl⟩
theorem open_set (A : Option Addr) (n c : Nat) (w : World) : Calls Tryz.prog 88 #[.int .i64 4, .slice A n c] w fun e w' => e = .returned (.tuple #[.iface 163 (.pointer (some ⟨w.heap.size, 0, none⟩)), .bool true]) ∧ w' = w.alloc (.cells #[.slice A n c] 164) := by
  go_enter Tryz.func88, Tryz.ntmps88
  go_wp2
  go_ret2
  exact ⟨rfl, rfl⟩
theorem open_ticket (A : Option Addr) (n c : Nat) (w : World) : Calls Tryz.prog 88 #[.int .i64 5, .slice A n c] w fun e w' => e = .returned (.tuple #[.iface 165 (.pointer (some ⟨w.heap.size, 0, none⟩)), .bool true]) ∧ w' = w.alloc (.cells #[.slice A n c] 166) := by
  go_enter Tryz.func88, Tryz.ntmps88
  go_wp2
  go_ret2
  exact ⟨rfl, rfl⟩
theorem typ_ways (t : Int) : t = 1 ∨ t = 2 ∨ t = 3 ∨ t = 4 ∨ t = 5 ∨ ((t == 1) = false ∧ (t == 2) = false ∧ (t == 3) = false ∧ (t == 4) = false ∧ (t == 5) = false ∧ btw 1 t 5 = false) := by
  simp only [beq_eq_false_iff_ne, btw_not]
  omega
theorem open_none {typ : Int} (h : (typ == 1) = false ∧ (typ == 2) = false ∧ (typ == 3) = false ∧ (typ == 4) = false ∧ (typ == 5) = false) (A : Option Addr) (n c : Nat) (w : World) : Calls Tryz.prog 88 #[.int .i64 typ, .slice A n c] w fun e w' => e = .returned (.tuple #[.nilIface, .bool false]) ∧ w = w' := by
  obtain ⟨h1, h2, h3, h4, h5⟩ := h
  go_enter Tryz.func88, Tryz.ntmps88
  go_wp2
  go_ret2
  exact ⟨rfl, rfl⟩
theorem meth_reg_start (k : Nat) (a : Addr) (w : World) : (method (k + 8) 152 (.pointer (some a)) "alibi/object.start").run Tryz.prog w = .ok (120, .pointer (some a)) w := by kernel_rfl
theorem meth_reg_valid (k : Nat) (a : Addr) (w : World) : (method (k + 8) 152 (.pointer (some a)) "alibi/object.valid").run Tryz.prog w = .ok (122, .pointer (some a)) w := by kernel_rfl
theorem meth_reg_state (k : Nat) (a : Addr) (w : World) : (method (k + 8) 152 (.pointer (some a)) "alibi/object.state").run Tryz.prog w = .ok (121, .pointer (some a)) w := by kernel_rfl
theorem meth_reg_do (k : Nat) (a : Addr) (w : World) : (method (k + 8) 152 (.pointer (some a)) "alibi/object.do").run Tryz.prog w = .ok (119, .pointer (some a)) w := by kernel_rfl
theorem meth_queue_start (k : Nat) (a : Addr) (w : World) : (method (k + 8) 157 (.pointer (some a)) "alibi/object.start").run Tryz.prog w = .ok (125, .pointer (some a)) w := by kernel_rfl
theorem meth_queue_valid (k : Nat) (a : Addr) (w : World) : (method (k + 8) 157 (.pointer (some a)) "alibi/object.valid").run Tryz.prog w = .ok (127, .pointer (some a)) w := by kernel_rfl
theorem meth_queue_state (k : Nat) (a : Addr) (w : World) : (method (k + 8) 157 (.pointer (some a)) "alibi/object.state").run Tryz.prog w = .ok (126, .pointer (some a)) w := by kernel_rfl
theorem meth_queue_do (k : Nat) (a : Addr) (w : World) : (method (k + 8) 157 (.pointer (some a)) "alibi/object.do").run Tryz.prog w = .ok (124, .pointer (some a)) w := by kernel_rfl
theorem meth_stack_start (k : Nat) (a : Addr) (w : World) : (method (k + 8) 161 (.pointer (some a)) "alibi/object.start").run Tryz.prog w = .ok (125, .pointer (some a)) w := by kernel_rfl
theorem meth_stack_valid (k : Nat) (a : Addr) (w : World) : (method (k + 8) 161 (.pointer (some a)) "alibi/object.valid").run Tryz.prog w = .ok (127, .pointer (some a)) w := by kernel_rfl
theorem meth_stack_state (k : Nat) (a : Addr) (w : World) : (method (k + 8) 161 (.pointer (some a)) "alibi/object.state").run Tryz.prog w = .ok (126, .pointer (some a)) w := by kernel_rfl
theorem meth_stack_do (k : Nat) (a : Addr) (w : World) : (method (k + 8) 161 (.pointer (some a)) "alibi/object.do").run Tryz.prog w = .ok (136, .pointer (some a)) w := by kernel_rfl
theorem meth_set_start (k : Nat) (a : Addr) (w : World) : (method (k + 8) 163 (.pointer (some a)) "alibi/object.start").run Tryz.prog w = .ok (125, .pointer (some a)) w := by kernel_rfl
theorem meth_set_valid (k : Nat) (a : Addr) (w : World) : (method (k + 8) 163 (.pointer (some a)) "alibi/object.valid").run Tryz.prog w = .ok (138, .pointer (some a)) w := by kernel_rfl
theorem meth_set_state (k : Nat) (a : Addr) (w : World) : (method (k + 8) 163 (.pointer (some a)) "alibi/object.state").run Tryz.prog w = .ok (126, .pointer (some a)) w := by kernel_rfl
theorem meth_set_do (k : Nat) (a : Addr) (w : World) : (method (k + 8) 163 (.pointer (some a)) "alibi/object.do").run Tryz.prog w = .ok (137, .pointer (some a)) w := by kernel_rfl
theorem meth_ticket_start (k : Nat) (a : Addr) (w : World) : (method (k + 8) 165 (.pointer (some a)) "alibi/object.start").run Tryz.prog w = .ok (120, .pointer (some a)) w := by kernel_rfl
theorem meth_ticket_valid (k : Nat) (a : Addr) (w : World) : (method (k + 8) 165 (.pointer (some a)) "alibi/object.valid").run Tryz.prog w = .ok (122, .pointer (some a)) w := by kernel_rfl
theorem meth_ticket_state (k : Nat) (a : Addr) (w : World) : (method (k + 8) 165 (.pointer (some a)) "alibi/object.state").run Tryz.prog w = .ok (121, .pointer (some a)) w := by kernel_rfl
theorem meth_ticket_do (k : Nat) (a : Addr) (w : World) : (method (k + 8) 165 (.pointer (some a)) "alibi/object.do").run Tryz.prog w = .ok (141, .pointer (some a)) w := by kernel_rfl
end Go.Proofs.YtfgangkpebkicaaGreatDoor

/-
  Contracts of object.within, and of valid of numbers, of rows, of sets.
-/
namespace Go.Proofs.YtfgangkpebkicaaGreatDoor
open Go.RowKit
set_option maxRecDepth 20000
theorem owithin_any (n a b : Int) (w : World) : Calls Tryz.prog 123 #[.int .i64 n, .int .i64 a, .int .i64 b] w fun e w' => e = .returned (.bool (btw a n b)) ∧ w = w' := by
  by_cases h1 : a ≤ n
  · by_cases h2 : n ≤ b
    · have h : btw a n b = true := btw_iff.2 ⟨h1, h2⟩
      rw [h]
      clear h
      go_enter Tryz.func123, Tryz.ntmps123
      go_wp2
      go_ret
      exact ⟨rfl, rfl⟩
    · have h : btw a n b = false := btw_not.2 fun h => h2 h.2
      rw [h]
      clear h
      go_enter Tryz.func123, Tryz.ntmps123
      go_wp2
      go_ret
      exact ⟨rfl, rfl⟩
  · have h : btw a n b = false := btw_not.2 fun h => h1 h.1
    rw [h]
    clear h
    go_enter Tryz.func123, Tryz.ntmps123
    go_wp2
    go_ret
    exact ⟨rfl, rfl⟩
theorem owithin_yes {n a b : Int} (w : World) (h : btw a n b = true) : Calls Tryz.prog 123 #[.int .i64 n, .int .i64 a, .int .i64 b] w fun e w' => e = .returned (.bool true) ∧ w = w' := by
  have := owithin_any n a b w
  rwa [h] at this
theorem owithin_no {n a b : Int} (w : World) (h : btw a n b = false) : Calls Tryz.prog 123 #[.int .i64 n, .int .i64 a, .int .i64 b] w fun e w' => e = .returned (.bool false) ∧ w = w' := by
  have := owithin_any n a b w
  rwa [h] at this
theorem rec_cell {w : World} {g : Nat} {t : TypeId} {v : Value} (h : Lies w g t #[v]) : w.cell? ⟨g, 0, none⟩ = some v := by rw [h.cell]; rfl
set_option maxHeartbeats 1000000 in
theorem nvalid_any {g : Nat} {t : TypeId} {v : Value} {l : List Int} {w : World} (h : Lies w g t #[v]) (hr : NRd w w.heap.size v l) :
    Calls Tryz.prog 122 #[.pointer (some ⟨g, 0, none⟩)] w fun e w' => e = .returned (.bool (decide (l.length = 1) && btw 0 (l.getD 0 0) 1000)) ∧ w = w' := by
  have c0 := rec_cell h
  obtain ⟨A, cap, rfl, m1, m2⟩ := hr.is
  unfold maxLen at m2
  by_cases hl : l.length = 1
  · obtain ⟨gl, o, rfl, hgl, hc⟩ := hr.ints (by omega)
    have d0 := hc 0 (l.getD 0 0) (by rw [List.getD_eq_getElem?_getD, List.getElem?_eq_getElem (by omega)]; rfl)
    rw [Nat.add_zero] at d0
    rw [decide_eq_true hl, Bool.true_and]
    have HY := Lib.hid hc
    have HR := Lib.hid hr
    clear hc hr h
    generalize l.getD 0 0 = y at d0 ⊢
    rw [hl] at c0
    go_enter Tryz.func122, Tryz.ntmps122
    go_wp2_with (go_at_call 123; (with_reducible refine (owithin_any _ _ _ _).mono ?_); rintro e w' ⟨rfl, rfl⟩)
    go_ret
    exact ⟨rfl, rfl⟩
  · rw [decide_eq_false hl, Bool.false_and]
    have hz : ((l.length : Int) == 1) = false := by rw [beq_eq_false_iff_ne]; omega
    go_enter Tryz.func122, Tryz.ntmps122
    go_wp2
    go_ret
    exact ⟨rfl, rfl⟩
/-- All of a row are values. -/
def rowB (l : List Int) : Bool := l.all fun x => btw 1 x 1000
theorem rowB_yes {l : List Int} (h : ∀ (j : Nat) (x : Int), l[j]? = some x → btw 1 x 1000 = true) : rowB l = true := by
  unfold rowB
  rw [List.all_eq_true]
  intro x hx
  obtain ⟨j, hj, e⟩ := List.getElem_of_mem hx
  exact h j x (by rw [List.getElem?_eq_getElem hj, e])
theorem rowB_no {l : List Int} {j : Nat} {x : Int} (hx : l[j]? = some x) (h : btw 1 x 1000 = false) : rowB l = false := by
  unfold rowB
  rw [List.all_eq_false]
  exact ⟨x, List.mem_of_getElem? hx, by rw [h]; decide⟩
set_option maxHeartbeats 1000000 in
theorem rvalid_any {g : Nat} {t : TypeId} {v : Value} {l : List Int} {w : World} (h : Lies w g t #[v]) (hr : NRd w w.heap.size v l) :
    Calls Tryz.prog 127 #[.pointer (some ⟨g, 0, none⟩)] w fun e w' => e = .returned (.bool (rowB l)) ∧ w = w' := by
  have c0 := rec_cell h
  obtain ⟨A, cap, rfl, m1, m2⟩ := hr.is
  unfold maxLen at m2
  have HR := Lib.hid hr
  clear hr h
  obtain ⟨n, hn⟩ : ∃ n, n = l.length := ⟨_, rfl⟩
  have HN := Lib.hid hn
  rw [← hn] at c0 m1
  clear hn
  generalize hb : rowB l = b
  have HB := Lib.hid hb
  clear hb
  go_enter Tryz.func127, Tryz.ntmps127
  go_wp2
  go_loop [10] (fun i => ∃ k : Nat, k ≤ n ∧ i = .int .i64 k ∧ ∀ j x, j < k → l[j]? = some x → btw 1 x 1000 = true) (fun i => n - (intOf i).toNat)
  case atStart => exact ⟨0, by omega, rfl, fun j x hj => by omega⟩
  case round =>
    obtain ⟨k, hk, rfl, ha⟩ := hrel
    have HA := Lib.hid ha
    clear ha
    by_cases hkn : k < n
    · obtain ⟨x, hx⟩ : ∃ x, l[k]? = some x := ⟨_, List.getElem?_eq_getElem (by rw [← HN.out]; exact hkn)⟩
      have hr' := HR.out
      rw [← HN.out] at hr'
      obtain ⟨gl, o, rfl, -, d0⟩ := hr'.num hx
      have HX := Lib.hid hx
      clear hr' hx
      cases hw : btw 1 x 1000
      · have HW := Lib.hid hw
        have hc := fun W : World => owithin_no W hw
        have HC := Lib.hid hc
        clear hw hc
        go_wp2_with (go_at_call 123; (with_reducible refine (HC.out _).mono ?_); rintro e w' ⟨rfl, rfl⟩)
        go_ret
        exact ⟨ret_bool ((rowB_no HX.out HW.out).symm.trans HB.out), rfl⟩
      · have HW := Lib.hid hw
        have hc := fun W : World => owithin_yes W hw
        have HC := Lib.hid hc
        clear hw hc
        go_wp2_with (go_at_call 123; (with_reducible refine (HC.out _).mono ?_); rintro e w' ⟨rfl, rfl⟩)
        go_round
        case rel => exact ⟨k + 1, by omega, by go_num, fun j y hj hy => by
          rcases Nat.lt_or_ge j k with h | h
          · exact HA.out j y h hy
          · obtain rfl : j = k := by omega
            rw [HX.out] at hy
            injection hy with hy
            subst hy
            exact HW.out⟩
        case measure => simp [intOf]; omega
    · obtain rfl : k = n := by omega
      go_wp2
      go_ret
      exact ⟨ret_bool ((rowB_yes fun j x hx => HA.out j x (by rw [HN.out]; exact (List.getElem?_eq_some_iff.1 hx).1) hx).symm.trans HB.out), rfl⟩
set_option maxHeartbeats 2000000 in
theorem svalid_any {g : Nat} {t : TypeId} {v : Value} {l : List Int} {w : World} (h : Lies w g t #[v]) (hr : NRd w w.heap.size v l) :
    Calls Tryz.prog 138 #[.pointer (some ⟨g, 0, none⟩)] w fun e w' => e = .returned (.bool (rowB l && incrB l)) ∧ ∃ q, w' = w.drewN q := by
  obtain ⟨A, cap, rfl, m1, m2⟩ := hr.is
  unfold maxLen at m2
  have HR := Lib.hid hr
  have HL := Lib.hid h
  clear hr h
  obtain ⟨n, hn⟩ : ∃ n, n = l.length := ⟨_, rfl⟩
  have HN := Lib.hid hn
  rw [← hn] at m1
  have HL' := HL.out
  rw [← hn] at HL'
  clear HL hn
  have HL := Lib.hid HL'
  clear HL'
  generalize hb : (rowB l && incrB l) = b
  have HB := Lib.hid hb
  clear hb
  go_enter Tryz.func138, Tryz.ntmps138
  go_wp2_with fail
  go_loopw [3] (fun i wr => ∃ k : Nat, 1 ≤ k ∧ (k ≤ n ∨ k = 1) ∧ i = .int .i64 k ∧ (∀ j, j + 1 < k → j + 1 < l.length → l.getD j 0 < l.getD (j + 1) 0) ∧ ∃ q, wr = w.drewN q) (fun i _ => n - (intOf i).toNat)
  case atStart => exact ⟨1, by omega, by omega, rfl, fun j hj => by omega, 0, rfl⟩
  case round =>
    obtain ⟨k, hk1, hk2, rfl, ha, q, rfl⟩ := hrel
    have HA := Lib.hid ha
    clear ha
    have c0 := rec_cell HL.out
    by_cases hkn : k < n
    · obtain ⟨x, hx⟩ : ∃ x, l[k]? = some x := ⟨_, List.getElem?_eq_getElem (by rw [← HN.out]; exact hkn)⟩
      obtain ⟨y, hy⟩ : ∃ y, l[k - 1]? = some y := ⟨_, List.getElem?_eq_getElem (by rw [← HN.out]; omega)⟩
      have hr' := HR.out
      rw [← HN.out] at hr'
      obtain ⟨gl, o, hA, -, d0⟩ := hr'.num hx
      obtain ⟨gl', o', hA', -, d1⟩ := hr'.num hy
      rw [hA] at hA'
      injection hA' with hA'
      injection hA' with e1 e2
      subst e1 e2 hA
      have gx : l.getD k 0 = x := by rw [List.getD_eq_getElem?_getD, hx]; rfl
      have gy : l.getD (k - 1) 0 = y := by rw [List.getD_eq_getElem?_getD, hy]; rfl
      have HX := Lib.hid (And.intro gx gy)
      clear hr' hx hy gx gy
      have i0 : (0 : Int) ≤ (k : Int) - 1 := by omega
      have i1 : (k : Int) - 1 < (n : Int) := by omega
      have i2 : (k : Int) < (n : Int) := by omega
      have i3 : (0 : Int) ≤ (k : Int) := by omega
      have hs1 : IntKind.i64.wrap ((k : Int) - 1) = (k : Int) - 1 := IntWalk.i64_in _ (by omega)
      have hs2 : ((k : Int) - 1).toNat = k - 1 := by omega
      by_cases hle : x ≤ y
      · have hd : decide (x ≤ y) = true := decide_eq_true hle
        have HW := Lib.hid hle
        clear hle
        go_wp2_with fail
        go_quiet (fail)
        go_wp2_with fail
        go_ret
        refine ⟨ret_bool ?_, q + nq, World.drewN_drewN _ _ _⟩
        rw [← HB.out, not_sorted (i := k - 1) (by rw [← HN.out]; omega) (by
          rw [show k - 1 + 1 = k by omega, HX.out.1, HX.out.2]
          exact HW.out), Bool.and_false]
      · have hd : decide (x ≤ y) = false := decide_eq_false hle
        have HW := Lib.hid hle
        clear hle
        go_wp2_with fail
        go_quiet (fail)
        go_wp2_with fail
        go_roundw
        case rel => exact ⟨k + 1, by omega, by omega, by go_num, fun j hj hjl => by
          rcases Nat.lt_or_ge (j + 1) k with h | h
          · exact HA.out j h hjl
          · obtain rfl : j + 1 = k := by omega
            rw [HX.out.1]
            have := HX.out.2
            rw [Nat.add_sub_cancel] at this
            rw [this]
            have := HW.out
            omega, _, rfl⟩
        case measure => simp [intOf]; omega
    · have hi : incrB l = true := sorted_yes fun j hj => HA.out j (by rw [← HN.out] at hj; omega) hj
      have hv := rvalid_any (HL.out.drewN q) (by
        have := HR.out.below (rdB0 w q)
        rw [← HN.out] at this
        exact this)
      have HV := Lib.hid hv
      have HI := Lib.hid hi
      clear hv hi
      go_wp2_with fail
      refine HV.out.mono ?_
      rintro e w' ⟨rfl, rfl⟩
      go_wp2_with fail
      go_ret
      exact ⟨ret_bool (by rw [← HB.out, HI.out, Bool.and_true]), q, rfl⟩
end Go.Proofs.YtfgangkpebkicaaGreatDoor
