/-
  Contracts of (*object.row).insert and remove.
-/
import Derived.Test.YtebcnhnkpmbgdaaObjIns
import Derived.Test.YtebcnhnkpmbgdaaObjValid
namespace Go.Proofs.Ytebcnhnkpmbgdaa
open Go.RowKit
set_option maxRecDepth 20000

/-- An object of type T in block g, of the call's own (from B on), with the state l in a row of its own. -/
structure ObjAt (w : World) (B g : Nat) (T : TypeId) (v : Value) (l : List Int) : Prop where
  far : B ≤ g
  rc : Lies w g T #[v]
  row : IOwn w B v l
  apart : v.ownBlock ≠ some g
def ObjSt (w : World) (B g : Nat) (T : TypeId) (l : List Int) : Prop := ∃ v, ObjAt w B g T v l
/-- What a method leaves: what it answers, and the state. -/
def ObjDid (w : World) (B g : Nat) (T : TypeId) (r : Value) (l : List Int) (e : Ending) (w' : World) : Prop :=
  e = .returned r ∧ Below B w w' ∧ ObjSt w' B g T l

theorem own_block {w : World} {B : Nat} {v : Value} {l : List Int} (h : IOwn w B v l) {k : Nat} (hk : v.ownBlock = some k) : B ≤ k ∧ k < w.heap.size := by
  rcases h with ⟨rfl, rfl⟩ | ⟨g, cap, zs, rfl, hB, hL, hz, hc, hm, ht⟩
  · cases hk
  · injection hk with hk
    subst hk
    exact ⟨hB, hL.lt⟩
theorem IOwn.alloc {w : World} {B : Nat} {v : Value} {l : List Int} (h : IOwn w B v l) (o : Obj) : IOwn (w.alloc o) B v l := h.below ((Below.refl _ _).alloc (Nat.le_refl _) o)
theorem ObjAt.alloc {w : World} {B g : Nat} {T : TypeId} {v : Value} {l : List Int} (h : ObjAt w B g T v l) (o : Obj) : ObjAt (w.alloc o) B g T v l := ⟨h.far, h.rc.alloc o, h.row.alloc o, h.apart⟩
theorem ObjAt.drewN {w : World} {B g : Nat} {T : TypeId} {v : Value} {l : List Int} (h : ObjAt w B g T v l) (n : Nat) : ObjAt (w.drewN n) B g T v l := ⟨h.far, h.rc.drewN n, h.row.drewN n, h.apart⟩
/-- Behind a call that wrote into the row alone, or made another one: the record holds the new row. -/
theorem ObjAt.stored {w w1 : World} {B g : Nat} {T : TypeId} {v v' : Value} {l l' : List Int} (h : ObjAt w B g T v l) (hg : w.grownBy w1 v.ownBlock) (ho : IOwn w1 B v' l') (hn : v'.ownBlock = v.ownBlock ∨ ∀ k, v'.ownBlock = some k → w.heap.size ≤ k) (hB : B ≤ w.heap.size) :
    Below B w (w1.setCell ⟨g, 0, none⟩ v') ∧ ObjAt (w1.setCell ⟨g, 0, none⟩ v') B g T v' l' := by
  have hb : Below B w w1 := (Below.refl B w).grown hg hB (fun k hk => (own_block h.row hk).1)
  have hr : Lies w1 g T #[v] := h.rc.keep (hg.block g h.rc.lt fun e => h.apart e.symm)
  have hne : v'.ownBlock ≠ some g := fun e => hn.elim (fun h' => h.apart (h'.symm.trans e)) (fun h' => by have := h' g e; have := h.rc.lt; omega)
  exact ⟨hb.setCell h.far _, h.far, (hr.set_ 0 v').cast (by simp), ho.off hne v', hne⟩

set_option maxHeartbeats 1000000 in
theorem insert_full {g B : Nat} {T : TypeId} {v : Value} {l : List Int} {w : World} (h : ObjAt w B g T v l) (hl : l.length = 50) (p x : Int) :
    Calls Try.prog 83 #[.pointer (some ⟨g, 0, none⟩), .int .i64 p, .int .i64 x] w fun e w' => e = .returned (.bool false) ∧ w = w' := by
  have c0 := rec_cell h.rc
  obtain ⟨A, cap, rfl, m1, m2⟩ := h.row.rd.is
  rw [hl] at c0
  clear h
  go_enter Try.func83, Try.ntmps83
  go_wp2
  go_ret
  exact ⟨rfl, rfl⟩

set_option maxHeartbeats 1000000 in
theorem insert_any {g B : Nat} {T : TypeId} {v : Value} {l : List Int} {w : World} (h : ObjAt w B g T v l) (hl : l.length < 50) {p : Nat} (hp : p ≤ l.length) (x : Int) (hB : B ≤ w.heap.size) :
    Calls Try.prog 83 #[.pointer (some ⟨g, 0, none⟩), .int .i64 p, .int .i64 x] w (ObjDid w B g T (.bool true) (insAt l p x)) := by
  have c0 := rec_cell h.rc
  obtain ⟨A, cap, rfl, m1, m2⟩ := h.row.rd.is
  have hz : ((l.length : Int) == 50) = false := by rw [beq_eq_false_iff_ne]; omega
  have hx : OneCell (w.alloc (.cells #[.int .i64 x] 3)) w.heap.size x := Lies.new w _ _
  have hI := insI_any (vb := w.heap.size) (x := x) (h.alloc (.cells #[.int .i64 x] 3)).row hp hl hx (fun e => by have := (own_block h.row e).2; omega) (by simp; omega)
  have HI := Lib.hid hI
  have HH := Lib.hid h
  clear hI hx h m1 m2
  unfold InsPost at HI
  go_enter Try.func83, Try.ntmps83
  go_wp2_with fail
  refine HI.out.mono ?_
  rintro e w1 ⟨v', rfl, ho, hg, hn⟩
  have hr : Lies w1 g T #[.slice A l.length cap] := (HH.out.alloc (.cells #[.int .i64 x] 3)).rc.keep (hg.block g (HH.out.alloc _).rc.lt fun e => HH.out.apart e.symm)
  obtain ⟨A', cap', rfl, m1, m2⟩ := ho.rd.is
  have c1 := rec_cell hr
  have f1 := hr.frozen 0
  have HS := Lib.hid ((HH.out.alloc (.cells #[.int .i64 x] 3)).stored hg ho hn (by simp; omega))
  clear ho hg hr HI m1 m2 hn
  go_wp2_with fail
  go_ret
  exact ⟨rfl, ((Below.refl _ _).alloc hB _).trans HS.out.1, _, HS.out.2⟩

set_option maxHeartbeats 1000000 in
theorem remove_none {g B : Nat} {T : TypeId} {v : Value} {l : List Int} {w : World} (h : ObjAt w B g T v l) (hl : l.length = 0) (p : Int) :
    Calls Try.prog 82 #[.pointer (some ⟨g, 0, none⟩), .int .i64 p] w fun e w' => e = .returned (.int .i64 (-1)) ∧ w = w' := by
  have c0 := rec_cell h.rc
  obtain ⟨A, cap, rfl, m1, m2⟩ := h.row.rd.is
  rw [hl] at c0
  have hw : btw 0 p (-1) = false := btw_not.2 (by omega)
  have hc := fun W : World => owithin_no W hw
  have HC := Lib.hid hc
  clear h hw hc
  go_enter Try.func82, Try.ntmps82
  go_wp2_with (go_at_call 77; (with_reducible refine (HC.out _).mono ?_); rintro e w' ⟨rfl, rfl⟩)
  go_ret
  exact ⟨rfl, rfl⟩

set_option maxHeartbeats 1000000 in
theorem remove_any {g B : Nat} {T : TypeId} {v : Value} {l : List Int} {w : World} (h : ObjAt w B g T v l) {p : Nat} (hp : p < l.length) (h50 : l.length ≤ 50) (hB : B ≤ w.heap.size) :
    Calls Try.prog 82 #[.pointer (some ⟨g, 0, none⟩), .int .i64 p] w (ObjDid w B g T (.int .i64 (l.getD p 0)) (delAt l p)) := by
  have c0 := rec_cell h.rc
  have f0 := h.rc.frozen 0
  obtain ⟨A, cap, rfl, m1, m2⟩ := h.row.rd.is
  obtain ⟨gl, o, hA, hgl, hcell⟩ := h.row.rd.ints (by omega)
  subst hA
  have ho : o = 0 := by
    rcases h.row with ⟨h1, _⟩ | ⟨g', cap', zs, h1, _⟩
    · cases h1
    · injection h1 with h1
      injection h1 with h1
      injection h1
  subst ho
  have d0 := hcell p (l.getD p 0) (by rw [List.getD_eq_getElem?_getD, List.getElem?_eq_getElem hp]; rfl)
  rw [Nat.zero_add] at d0
  have hD := delI_any h.row hp
  have hw : btw 0 (p : Int) ((l.length : Int) - 1) = true := btw_iff.2 (by omega)
  have hc := fun W : World => owithin_yes W hw
  have HC := Lib.hid hc
  have HD := Lib.hid hD
  have HH := Lib.hid h
  have i0 : (0 : Int) ≤ (p : Int) := by omega
  have i1 : (p : Int) < (l.length : Int) := by omega
  have i2 : (p : Int) ≤ 50 := by omega
  have i3 : (l.length : Int) ≤ 50 := by omega
  clear hcell hc hw hD h m1 m2
  generalize l.getD p 0 = y at d0 ⊢
  unfold InsPost at HD
  go_enter Try.func82, Try.ntmps82
  go_wp2_with (go_at_call 77; (with_reducible refine (HC.out _).mono ?_); rintro e w' ⟨rfl, rfl⟩)
  refine HD.out.mono ?_
  rintro e w1 ⟨v', rfl, ho, hg, hn⟩
  have hr : Lies w1 g T #[.slice (some ⟨gl, 0, none⟩) l.length cap] := HH.out.rc.keep (hg.block g HH.out.rc.lt fun e => HH.out.apart e.symm)
  obtain ⟨A', cap', rfl, m1, m2⟩ := ho.rd.is
  have c1 := rec_cell hr
  have f1 := hr.frozen 0
  have HS := Lib.hid (HH.out.stored hg ho hn hB)
  clear ho hg hr HD m1 m2 hn
  go_wp2_with fail
  go_ret
  exact ⟨rfl, HS.out.1, _, HS.out.2⟩
end Go.Proofs.Ytebcnhnkpmbgdaa
