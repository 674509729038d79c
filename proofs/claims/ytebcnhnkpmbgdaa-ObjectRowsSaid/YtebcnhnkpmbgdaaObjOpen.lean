/-
  Contracts of object.open.
-/
import Derived.Test.YtebcnhnkpmbgdaaObjMem
namespace Go.Proofs.Ytebcnhnkpmbgdaa
open Go.RowKit
set_option maxRecDepth 20000

theorem open_reg (A : Option Addr) (n c : Nat) (w : World) : Calls Try.prog 41 #[.int .i64 1, .slice A n c] w fun e w' => e = .returned (.tuple #[.iface 92 (.pointer (some ⟨w.heap.size, 0, none⟩)), .bool true]) ∧ w' = w.alloc (.cells #[.slice A n c] 96) := by
  go_enter Try.func41, Try.ntmps41
  go_wp2
  go_ret2
  exact ⟨rfl, rfl⟩
theorem open_queue (A : Option Addr) (n c : Nat) (w : World) : Calls Try.prog 41 #[.int .i64 2, .slice A n c] w fun e w' => e = .returned (.tuple #[.iface 97 (.pointer (some ⟨w.heap.size, 0, none⟩)), .bool true]) ∧ w' = w.alloc (.cells #[.slice A n c] 100) := by
  go_enter Try.func41, Try.ntmps41
  go_wp2
  go_ret2
  exact ⟨rfl, rfl⟩
theorem open_stack (A : Option Addr) (n c : Nat) (w : World) : Calls Try.prog 41 #[.int .i64 3, .slice A n c] w fun e w' => e = .returned (.tuple #[.iface 101 (.pointer (some ⟨w.heap.size, 0, none⟩)), .bool true]) ∧ w' = w.alloc (.cells #[.slice A n c] 102) := by
  go_enter Try.func41, Try.ntmps41
  go_wp2
  go_ret2
  exact ⟨rfl, rfl⟩
theorem open_set (A : Option Addr) (n c : Nat) (w : World) : Calls Try.prog 41 #[.int .i64 4, .slice A n c] w fun e w' => e = .returned (.tuple #[.iface 103 (.pointer (some ⟨w.heap.size, 0, none⟩)), .bool true]) ∧ w' = w.alloc (.cells #[.slice A n c] 104) := by
  go_enter Try.func41, Try.ntmps41
  go_wp2
  go_ret2
  exact ⟨rfl, rfl⟩
theorem open_ticket (A : Option Addr) (n c : Nat) (w : World) : Calls Try.prog 41 #[.int .i64 5, .slice A n c] w fun e w' => e = .returned (.tuple #[.iface 105 (.pointer (some ⟨w.heap.size, 0, none⟩)), .bool true]) ∧ w' = w.alloc (.cells #[.slice A n c] 106) := by
  go_enter Try.func41, Try.ntmps41
  go_wp2
  go_ret2
  exact ⟨rfl, rfl⟩
theorem typ_ways (t : Int) : t = 1 ∨ t = 2 ∨ t = 3 ∨ t = 4 ∨ t = 5 ∨ ((t == 1) = false ∧ (t == 2) = false ∧ (t == 3) = false ∧ (t == 4) = false ∧ (t == 5) = false ∧ btw 1 t 5 = false) := by
  simp only [beq_eq_false_iff_ne, btw_not]
  omega
theorem open_none {typ : Int} (h : (typ == 1) = false ∧ (typ == 2) = false ∧ (typ == 3) = false ∧ (typ == 4) = false ∧ (typ == 5) = false) (A : Option Addr) (n c : Nat) (w : World) : Calls Try.prog 41 #[.int .i64 typ, .slice A n c] w fun e w' => e = .returned (.tuple #[.nilIface, .bool false]) ∧ w = w' := by
  obtain ⟨h1, h2, h3, h4, h5⟩ := h
  go_enter Try.func41, Try.ntmps41
  go_wp2
  go_ret2
  exact ⟨rfl, rfl⟩

theorem meth_reg_start (k : Nat) (a : Addr) (w : World) : (method (k + 8) 92 (.pointer (some a)) "alibi/object.start").run Try.prog w = .ok (74, .pointer (some a)) w := by kernel_rfl
theorem meth_reg_valid (k : Nat) (a : Addr) (w : World) : (method (k + 8) 92 (.pointer (some a)) "alibi/object.valid").run Try.prog w = .ok (76, .pointer (some a)) w := by kernel_rfl
theorem meth_reg_state (k : Nat) (a : Addr) (w : World) : (method (k + 8) 92 (.pointer (some a)) "alibi/object.state").run Try.prog w = .ok (75, .pointer (some a)) w := by kernel_rfl
theorem meth_reg_do (k : Nat) (a : Addr) (w : World) : (method (k + 8) 92 (.pointer (some a)) "alibi/object.do").run Try.prog w = .ok (73, .pointer (some a)) w := by kernel_rfl
theorem meth_queue_start (k : Nat) (a : Addr) (w : World) : (method (k + 8) 97 (.pointer (some a)) "alibi/object.start").run Try.prog w = .ok (79, .pointer (some a)) w := by kernel_rfl
theorem meth_queue_valid (k : Nat) (a : Addr) (w : World) : (method (k + 8) 97 (.pointer (some a)) "alibi/object.valid").run Try.prog w = .ok (81, .pointer (some a)) w := by kernel_rfl
theorem meth_queue_state (k : Nat) (a : Addr) (w : World) : (method (k + 8) 97 (.pointer (some a)) "alibi/object.state").run Try.prog w = .ok (80, .pointer (some a)) w := by kernel_rfl
theorem meth_queue_do (k : Nat) (a : Addr) (w : World) : (method (k + 8) 97 (.pointer (some a)) "alibi/object.do").run Try.prog w = .ok (78, .pointer (some a)) w := by kernel_rfl
theorem meth_stack_start (k : Nat) (a : Addr) (w : World) : (method (k + 8) 101 (.pointer (some a)) "alibi/object.start").run Try.prog w = .ok (79, .pointer (some a)) w := by kernel_rfl
theorem meth_stack_valid (k : Nat) (a : Addr) (w : World) : (method (k + 8) 101 (.pointer (some a)) "alibi/object.valid").run Try.prog w = .ok (81, .pointer (some a)) w := by kernel_rfl
theorem meth_stack_state (k : Nat) (a : Addr) (w : World) : (method (k + 8) 101 (.pointer (some a)) "alibi/object.state").run Try.prog w = .ok (80, .pointer (some a)) w := by kernel_rfl
theorem meth_stack_do (k : Nat) (a : Addr) (w : World) : (method (k + 8) 101 (.pointer (some a)) "alibi/object.do").run Try.prog w = .ok (90, .pointer (some a)) w := by kernel_rfl
theorem meth_set_start (k : Nat) (a : Addr) (w : World) : (method (k + 8) 103 (.pointer (some a)) "alibi/object.start").run Try.prog w = .ok (79, .pointer (some a)) w := by kernel_rfl
theorem meth_set_valid (k : Nat) (a : Addr) (w : World) : (method (k + 8) 103 (.pointer (some a)) "alibi/object.valid").run Try.prog w = .ok (92, .pointer (some a)) w := by kernel_rfl
theorem meth_set_state (k : Nat) (a : Addr) (w : World) : (method (k + 8) 103 (.pointer (some a)) "alibi/object.state").run Try.prog w = .ok (80, .pointer (some a)) w := by kernel_rfl
theorem meth_set_do (k : Nat) (a : Addr) (w : World) : (method (k + 8) 103 (.pointer (some a)) "alibi/object.do").run Try.prog w = .ok (91, .pointer (some a)) w := by kernel_rfl
theorem meth_ticket_start (k : Nat) (a : Addr) (w : World) : (method (k + 8) 105 (.pointer (some a)) "alibi/object.start").run Try.prog w = .ok (74, .pointer (some a)) w := by kernel_rfl
theorem meth_ticket_valid (k : Nat) (a : Addr) (w : World) : (method (k + 8) 105 (.pointer (some a)) "alibi/object.valid").run Try.prog w = .ok (76, .pointer (some a)) w := by kernel_rfl
theorem meth_ticket_state (k : Nat) (a : Addr) (w : World) : (method (k + 8) 105 (.pointer (some a)) "alibi/object.state").run Try.prog w = .ok (75, .pointer (some a)) w := by kernel_rfl
theorem meth_ticket_do (k : Nat) (a : Addr) (w : World) : (method (k + 8) 105 (.pointer (some a)) "alibi/object.do").run Try.prog w = .ok (97, .pointer (some a)) w := by kernel_rfl
end Go.Proofs.Ytebcnhnkpmbgdaa
