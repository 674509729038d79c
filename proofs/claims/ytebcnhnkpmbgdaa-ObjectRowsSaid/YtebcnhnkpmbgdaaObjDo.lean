/-
  Contracts of do: of registers, tickets, queues, stacks, sets.
-/
import Derived.Test.YtebcnhnkpmbgdaaObjRow
import Derived.StillTailTactics
namespace Go.Proofs.Ytebcnhnkpmbgdaa
open Go.RowKit
set_option maxRecDepth 20000

/-- What do leaves: no room; or the answer, and the state. -/
def DoDid (w : World) (B g : Nat) (T : TypeId) (o : List Int × Int × Int) (e : Ending) (w' : World) : Prop :=
  Below B w w' ∧ ((o.2.2 = 2 ∧ ∃ r, e = .returned (.tuple #[.int .i64 r, .bool false])) ∨ (o.2.2 = 0 ∧ e = .returned (.tuple #[.int .i64 o.2.1, .bool true]) ∧ ObjSt w' B g T o.1))
theorem DoDid.no {w w' : World} {B g : Nat} {T : TypeId} {o : List Int × Int × Int} {e : Ending} {r : Int} (hb : Below B w w') (ho : o.2.2 = 2) (he : e = .returned (.tuple #[.int .i64 r, .bool false])) : DoDid w B g T o e w' := ⟨hb, Or.inl ⟨ho, r, he⟩⟩
theorem DoDid.yes {w w' : World} {B g : Nat} {T : TypeId} {o : List Int × Int × Int} {e : Ending} (hb : Below B w w') (ho : o.2.2 = 0) (he : e = .returned (.tuple #[.int .i64 o.2.1, .bool true])) (hs : ObjSt w' B g T o.1) : DoDid w B g T o e w' := ⟨hb, Or.inr ⟨ho, he, hs⟩⟩

theorem getD_at {l : List Int} {p : Nat} (hp : p < l.length) : l[p]? = some (l.getD p 0) := by rw [List.getD_eq_getElem?_getD, List.getElem?_eq_getElem hp]; rfl
/-- A row of one's own of one number. -/
theorem ObjAt.one {w : World} {B g : Nat} {T : TypeId} {v : Value} {l : List Int} (h : ObjAt w B g T v l) (hl : l.length = 1) : ∃ gl cap zs, v = .slice (some ⟨gl, 0, none⟩) 1 cap ∧ gl ≠ g ∧ B ≤ gl ∧ gl < w.heap.size ∧ Lies w gl 3 ((l.getD 0 0 :: zs).map (Value.int .i64)).toArray ∧ zs.length + 1 = cap ∧ cap ≤ maxLen := by
  rcases h.row with ⟨_, h1⟩ | ⟨gl, cap, zs, h1, hB, hL, hz, hc, hm, ht⟩
  · rw [h1] at hl
    cases hl
  · have h0 : zs[0]? = some (l.getD 0 0) := take_at ht (getD_at (by omega))
    cases zs with
    | nil => simp at h0
    | cons z zs =>
      simp only [List.getElem?_cons_zero, Option.some.injEq] at h0
      subst h0
      rw [hl] at h1
      exact ⟨gl, cap, zs, h1, fun e => h.apart (by rw [h1, e]; rfl), hB, hL.lt, hL, by simpa using hz, hm⟩
theorem ObjAt.put {w : World} {B g : Nat} {T : TypeId} {gl cap : Nat} {x y : Int} {zs l : List Int} (h : ObjAt w B g T (.slice (some ⟨gl, 0, none⟩) 1 cap) l) (hne : gl ≠ g) (hB : B ≤ gl) (hL : Lies w gl 3 ((x :: zs).map (Value.int .i64)).toArray) (hz : zs.length + 1 = cap) (hm : cap ≤ maxLen) :
    ObjAt (w.setCell ⟨gl, 0, none⟩ (.int .i64 y)) B g T (.slice (some ⟨gl, 0, none⟩) 1 cap) [y] :=
  ⟨h.far, h.rc.far (p := ⟨gl, 0, none⟩) (fun e => hne e.symm) _, Or.inr ⟨gl, cap, y :: zs, rfl, hB, (hL.set_ 0 _).cast (by simp), by simpa using hz, by simp; omega, hm, by simp⟩, h.apart⟩

set_option maxHeartbeats 1000000 in
theorem regDo_any {g B : Nat} {v : Value} {l : List Int} {w : World} (h : ObjAt w B g 96 v l) (hl : l.length = 1) (kind arg : Int) (hk : kind = 1 ∨ kind = 2) :
    Calls Try.prog 73 #[.pointer (some ⟨g, 0, none⟩), .int .i64 kind, .int .i64 arg] w (DoDid w B g 96 (stepped l kind arg)) := by
  have c0 := rec_cell h.rc
  obtain ⟨gl, cap, zs, rfl, hne, hB, hlt, hL, hz, hm⟩ := h.one hl
  have d0 : w.cell? ⟨gl, 0, none⟩ = some (.int .i64 (l.getD 0 0)) := by rw [hL.cell]; simp
  have f0 := hL.frozen 0
  rcases hk with rfl | rfl
  · have HP := Lib.hid (h.put (y := arg) hne hB hL hz hm)
    clear h hL hm
    go_enter Try.func73, Try.ntmps73
    go_wp2
    go_ret2
    exact DoDid.yes ((Below.refl _ _).setCell hB _) rfl rfl ⟨_, HP.out⟩
  · have HP := Lib.hid h
    have e : stepped l 2 arg = (l, l.getD 0 0, 0) := rfl
    rw [e]
    clear h hL hm e
    generalize l.getD 0 0 = y at d0 ⊢
    go_enter Try.func73, Try.ntmps73
    go_wp2
    go_ret2
    exact DoDid.yes (Below.refl _ _) rfl rfl ⟨_, HP.out⟩

set_option maxHeartbeats 1000000 in
theorem ticketDo_any {g B : Nat} {v : Value} {l : List Int} {w : World} (h : ObjAt w B g 106 v l) (hl : l.length = 1) (h0 : 0 ≤ l.getD 0 0) (h1 : l.getD 0 0 ≤ 1000) (arg : Int) :
    Calls Try.prog 97 #[.pointer (some ⟨g, 0, none⟩), .int .i64 10, .int .i64 arg] w (DoDid w B g 106 (stepped l 10 arg)) := by
  have c0 := rec_cell h.rc
  obtain ⟨gl, cap, zs, rfl, hne, hB, hlt, hL, hz, hm⟩ := h.one hl
  have d0 : w.cell? ⟨gl, 0, none⟩ = some (.int .i64 (l.getD 0 0)) := by rw [hL.cell]; simp
  have f0 := hL.frozen 0
  have e : stepped l 10 arg = if l.getD 0 0 = 1000 then ([], 0, 2) else ([l.getD 0 0 + 1], l.getD 0 0, 0) := rfl
  rw [e]
  have HP := Lib.hid (h.put (y := l.getD 0 0 + 1) hne hB hL hz hm)
  clear h hL hm e
  generalize l.getD 0 0 = y at d0 h0 h1 HP ⊢
  by_cases hy : y = 1000
  · rw [if_pos hy]
    subst hy
    go_enter Try.func97, Try.ntmps97
    go_wp2
    go_ret2
    exact DoDid.no (Below.refl _ _) rfl rfl
  · rw [if_neg hy]
    have hz : (y == 1000) = false := by rw [beq_eq_false_iff_ne]; exact hy
    clear hy
    go_enter Try.func97, Try.ntmps97
    go_wp2
    go_ret2
    exact DoDid.yes ((Below.refl _ _).setCell hB _) rfl rfl ⟨_, HP.out⟩
end Go.Proofs.Ytebcnhnkpmbgdaa
