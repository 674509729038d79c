/-
  Joined by a program out of: ObjRow, ObjDo, ObjDo2, ObjDo3.
-/
import Derived.Test.YtfgangkpebkicaaDoorMgAE
import Derived.Test.YtfgangkpebkicaaDoorMgAC
import Derived.StillTailTactics

/-
  Contracts of (*object.row).insert and remove.
-/
namespace Go.Proofs.YtfgangkpebkicaaDoor
open Go.RowKit
set_option maxRecDepth 20000
/-- An object of type T in block g, of the call's own (from B on), with the state l in a row of its own. -/
structure ObjAt (w : World) (B g : Nat) (T : TypeId) (v : Value) (l : List Int) : Prop where
  far : B ≤ g
  rc : Lies w g T #[v]
  row : IOwn w B v l
  apart : v.ownBlock ≠ some g
def ObjSt (w : World) (B g : Nat) (T : TypeId) (l : List Int) : Prop := ∃ v, ObjAt w B g T v l
/-- What a method leaves: what it answers, and the state. -/
def ObjDid (w : World) (B g : Nat) (T : TypeId) (r : Value) (l : List Int) (e : Ending) (w' : World) : Prop :=
  e = .returned r ∧ Below B w w' ∧ ObjSt w' B g T l
theorem own_block {w : World} {B : Nat} {v : Value} {l : List Int} (h : IOwn w B v l) {k : Nat} (hk : v.ownBlock = some k) : B ≤ k ∧ k < w.heap.size := by
  rcases h with ⟨rfl, rfl⟩ | ⟨g, cap, zs, rfl, hB, hL, hz, hc, hm, ht⟩
  · cases hk
  · injection hk with hk
    subst hk
    exact ⟨hB, hL.lt⟩
theorem IOwn.alloc {w : World} {B : Nat} {v : Value} {l : List Int} (h : IOwn w B v l) (o : Obj) : IOwn (w.alloc o) B v l := h.below ((Below.refl _ _).alloc (Nat.le_refl _) o)
theorem ObjAt.alloc {w : World} {B g : Nat} {T : TypeId} {v : Value} {l : List Int} (h : ObjAt w B g T v l) (o : Obj) : ObjAt (w.alloc o) B g T v l := ⟨h.far, h.rc.alloc o, h.row.alloc o, h.apart⟩
theorem ObjAt.drewN {w : World} {B g : Nat} {T : TypeId} {v : Value} {l : List Int} (h : ObjAt w B g T v l) (n : Nat) : ObjAt (w.drewN n) B g T v l := ⟨h.far, h.rc.drewN n, h.row.drewN n, h.apart⟩
/-- Behind a call that wrote into the row alone, or made another one: the record holds the new row. -/
theorem ObjAt.stored {w w1 : World} {B g : Nat} {T : TypeId} {v v' : Value} {l l' : List Int} (h : ObjAt w B g T v l) (hg : w.grownBy w1 v.ownBlock) (ho : IOwn w1 B v' l') (hn : v'.ownBlock = v.ownBlock ∨ ∀ k, v'.ownBlock = some k → w.heap.size ≤ k) (hB : B ≤ w.heap.size) :
    Below B w (w1.setCell ⟨g, 0, none⟩ v') ∧ ObjAt (w1.setCell ⟨g, 0, none⟩ v') B g T v' l' := by
  have hb : Below B w w1 := (Below.refl B w).grown hg hB (fun k hk => (own_block h.row hk).1)
  have hr : Lies w1 g T #[v] := h.rc.keep (hg.block g h.rc.lt fun e => h.apart e.symm)
  have hne : v'.ownBlock ≠ some g := fun e => hn.elim (fun h' => h.apart (h'.symm.trans e)) (fun h' => by have := h' g e; have := h.rc.lt; omega)
  exact ⟨hb.setCell h.far _, h.far, (hr.set_ 0 v').cast (by simp), ho.off hne v', hne⟩
set_option maxHeartbeats 1000000 in
theorem insert_full {g B : Nat} {T : TypeId} {v : Value} {l : List Int} {w : World} (h : ObjAt w B g T v l) (hl : l.length = 50) (p x : Int) :
    Calls Tryd.prog 148 #[.pointer (some ⟨g, 0, none⟩), .int .i64 p, .int .i64 x] w fun e w' => e = .returned (.bool false) ∧ w = w' := by
  have c0 := rec_cell h.rc
  obtain ⟨A, cap, rfl, m1, m2⟩ := h.row.rd.is
  rw [hl] at c0
  clear h
  go_enter Tryd.func148, Tryd.ntmps148
  go_wp2
  go_ret
  exact ⟨rfl, rfl⟩
set_option maxHeartbeats 1000000 in
theorem insert_any {g B : Nat} {T : TypeId} {v : Value} {l : List Int} {w : World} (h : ObjAt w B g T v l) (hl : l.length < 50) {p : Nat} (hp : p ≤ l.length) (x : Int) (hB : B ≤ w.heap.size) :
    Calls Tryd.prog 148 #[.pointer (some ⟨g, 0, none⟩), .int .i64 p, .int .i64 x] w (ObjDid w B g T (.bool true) (insAt l p x)) := by
  have c0 := rec_cell h.rc
  obtain ⟨A, cap, rfl, m1, m2⟩ := h.row.rd.is
  have hz : ((l.length : Int) == 50) = false := by rw [beq_eq_false_iff_ne]; omega
  have hx : OneCell (w.alloc (.cells #[.int .i64 x] 3)) w.heap.size x := Lies.new w _ _
  have hI := insI_any (vb := w.heap.size) (x := x) (h.alloc (.cells #[.int .i64 x] 3)).row hp hl hx (fun e => by have := (own_block h.row e).2; omega) (by simp; omega)
  have HI := Lib.hid hI
  have HH := Lib.hid h
  clear hI hx h m1 m2
  unfold InsPost at HI
  go_enter Tryd.func148, Tryd.ntmps148
  go_wp2_with fail
  refine HI.out.mono ?_
  rintro e w1 ⟨v', rfl, ho, hg, hn⟩
  have hr : Lies w1 g T #[.slice A l.length cap] := (HH.out.alloc (.cells #[.int .i64 x] 3)).rc.keep (hg.block g (HH.out.alloc _).rc.lt fun e => HH.out.apart e.symm)
  obtain ⟨A', cap', rfl, m1, m2⟩ := ho.rd.is
  have c1 := rec_cell hr
  have f1 := hr.frozen 0
  have HS := Lib.hid ((HH.out.alloc (.cells #[.int .i64 x] 3)).stored hg ho hn (by simp; omega))
  clear ho hg hr HI m1 m2 hn
  go_wp2_with fail
  go_ret
  exact ⟨rfl, ((Below.refl _ _).alloc hB _).trans HS.out.1, _, HS.out.2⟩
set_option maxHeartbeats 1000000 in
theorem remove_none {g B : Nat} {T : TypeId} {v : Value} {l : List Int} {w : World} (h : ObjAt w B g T v l) (hl : l.length = 0) (p : Int) :
    Calls Tryd.prog 147 #[.pointer (some ⟨g, 0, none⟩), .int .i64 p] w fun e w' => e = .returned (.int .i64 (-1)) ∧ w = w' := by
  have c0 := rec_cell h.rc
  obtain ⟨A, cap, rfl, m1, m2⟩ := h.row.rd.is
  rw [hl] at c0
  have hw : btw 0 p (-1) = false := btw_not.2 (by omega)
  have hc := fun W : World => owithin_no W hw
  have HC := Lib.hid hc
  clear h hw hc
  go_enter Tryd.func147, Tryd.ntmps147
  go_wp2_with (go_at_call 142; (with_reducible refine (HC.out _).mono ?_); rintro e w' ⟨rfl, rfl⟩)
  go_ret
  exact ⟨rfl, rfl⟩
set_option maxHeartbeats 1000000 in
theorem remove_any {g B : Nat} {T : TypeId} {v : Value} {l : List Int} {w : World} (h : ObjAt w B g T v l) {p : Nat} (hp : p < l.length) (h50 : l.length ≤ 50) (hB : B ≤ w.heap.size) :
    Calls Tryd.prog 147 #[.pointer (some ⟨g, 0, none⟩), .int .i64 p] w (ObjDid w B g T (.int .i64 (l.getD p 0)) (delAt l p)) := by
  have c0 := rec_cell h.rc
  have f0 := h.rc.frozen 0
  obtain ⟨A, cap, rfl, m1, m2⟩ := h.row.rd.is
  obtain ⟨gl, o, hA, hgl, hcell⟩ := h.row.rd.ints (by omega)
  subst hA
  have ho : o = 0 := by
    rcases h.row with ⟨h1, _⟩ | ⟨g', cap', zs, h1, _⟩
    · cases h1
    · injection h1 with h1
      injection h1 with h1
      injection h1
  subst ho
  have d0 := hcell p (l.getD p 0) (by rw [List.getD_eq_getElem?_getD, List.getElem?_eq_getElem hp]; rfl)
  rw [Nat.zero_add] at d0
  have hD := delI_any h.row hp
  have hw : btw 0 (p : Int) ((l.length : Int) - 1) = true := btw_iff.2 (by omega)
  have hc := fun W : World => owithin_yes W hw
  have HC := Lib.hid hc
  have HD := Lib.hid hD
  have HH := Lib.hid h
  have i0 : (0 : Int) ≤ (p : Int) := by omega
  have i1 : (p : Int) < (l.length : Int) := by omega
  have i2 : (p : Int) ≤ 50 := by omega
  have i3 : (l.length : Int) ≤ 50 := by omega
  clear hcell hc hw hD h m1 m2
  generalize l.getD p 0 = y at d0 ⊢
  unfold InsPost at HD
  go_enter Tryd.func147, Tryd.ntmps147
  go_wp2_with (go_at_call 142; (with_reducible refine (HC.out _).mono ?_); rintro e w' ⟨rfl, rfl⟩)
  refine HD.out.mono ?_
  rintro e w1 ⟨v', rfl, ho, hg, hn⟩
  have hr : Lies w1 g T #[.slice (some ⟨gl, 0, none⟩) l.length cap] := HH.out.rc.keep (hg.block g HH.out.rc.lt fun e => HH.out.apart e.symm)
  obtain ⟨A', cap', rfl, m1, m2⟩ := ho.rd.is
  have c1 := rec_cell hr
  have f1 := hr.frozen 0
  have HS := Lib.hid (HH.out.stored hg ho hn hB)
  clear ho hg hr HD m1 m2 hn
  go_wp2_with fail
  go_ret
  exact ⟨rfl, HS.out.1, _, HS.out.2⟩
end Go.Proofs.YtfgangkpebkicaaDoor

/-
  Contracts of do: of registers, tickets, queues, stacks, sets.
-/
namespace Go.Proofs.YtfgangkpebkicaaDoor
open Go.RowKit
set_option maxRecDepth 20000
/-- What do leaves: no room; or the answer, and the state. -/
def DoDid (w : World) (B g : Nat) (T : TypeId) (o : List Int × Int × Int) (e : Ending) (w' : World) : Prop :=
  Below B w w' ∧ ((o.2.2 = 2 ∧ ∃ r, e = .returned (.tuple #[.int .i64 r, .bool false])) ∨ (o.2.2 = 0 ∧ e = .returned (.tuple #[.int .i64 o.2.1, .bool true]) ∧ ObjSt w' B g T o.1))
theorem DoDid.no {w w' : World} {B g : Nat} {T : TypeId} {o : List Int × Int × Int} {e : Ending} {r : Int} (hb : Below B w w') (ho : o.2.2 = 2) (he : e = .returned (.tuple #[.int .i64 r, .bool false])) : DoDid w B g T o e w' := ⟨hb, Or.inl ⟨ho, r, he⟩⟩
theorem DoDid.yes {w w' : World} {B g : Nat} {T : TypeId} {o : List Int × Int × Int} {e : Ending} (hb : Below B w w') (ho : o.2.2 = 0) (he : e = .returned (.tuple #[.int .i64 o.2.1, .bool true])) (hs : ObjSt w' B g T o.1) : DoDid w B g T o e w' := ⟨hb, Or.inr ⟨ho, he, hs⟩⟩
theorem getD_at {l : List Int} {p : Nat} (hp : p < l.length) : l[p]? = some (l.getD p 0) := by rw [List.getD_eq_getElem?_getD, List.getElem?_eq_getElem hp]; rfl
/-- A row of one's own of one number. -/
theorem ObjAt.one {w : World} {B g : Nat} {T : TypeId} {v : Value} {l : List Int} (h : ObjAt w B g T v l) (hl : l.length = 1) : ∃ gl cap zs, v = .slice (some ⟨gl, 0, none⟩) 1 cap ∧ gl ≠ g ∧ B ≤ gl ∧ gl < w.heap.size ∧ Lies w gl 3 ((l.getD 0 0 :: zs).map (Value.int .i64)).toArray ∧ zs.length + 1 = cap ∧ cap ≤ maxLen := by
  rcases h.row with ⟨_, h1⟩ | ⟨gl, cap, zs, h1, hB, hL, hz, hc, hm, ht⟩
  · rw [h1] at hl
    cases hl
  · have h0 : zs[0]? = some (l.getD 0 0) := take_at ht (getD_at (by omega))
    cases zs with
    | nil => simp at h0
    | cons z zs =>
      simp only [List.getElem?_cons_zero, Option.some.injEq] at h0
      subst h0
      rw [hl] at h1
      exact ⟨gl, cap, zs, h1, fun e => h.apart (by rw [h1, e]; rfl), hB, hL.lt, hL, by simpa using hz, hm⟩
theorem ObjAt.put {w : World} {B g : Nat} {T : TypeId} {gl cap : Nat} {x y : Int} {zs l : List Int} (h : ObjAt w B g T (.slice (some ⟨gl, 0, none⟩) 1 cap) l) (hne : gl ≠ g) (hB : B ≤ gl) (hL : Lies w gl 3 ((x :: zs).map (Value.int .i64)).toArray) (hz : zs.length + 1 = cap) (hm : cap ≤ maxLen) :
    ObjAt (w.setCell ⟨gl, 0, none⟩ (.int .i64 y)) B g T (.slice (some ⟨gl, 0, none⟩) 1 cap) [y] :=
  ⟨h.far, h.rc.far (p := ⟨gl, 0, none⟩) (fun e => hne e.symm) _, Or.inr ⟨gl, cap, y :: zs, rfl, hB, (hL.set_ 0 _).cast (by simp), by simpa using hz, by simp; omega, hm, by simp⟩, h.apart⟩
set_option maxHeartbeats 1000000 in
theorem regDo_any {g B : Nat} {v : Value} {l : List Int} {w : World} (h : ObjAt w B g 181 v l) (hl : l.length = 1) (kind arg : Int) (hk : kind = 1 ∨ kind = 2) :
    Calls Tryd.prog 138 #[.pointer (some ⟨g, 0, none⟩), .int .i64 kind, .int .i64 arg] w (DoDid w B g 181 (stepped l kind arg)) := by
  have c0 := rec_cell h.rc
  obtain ⟨gl, cap, zs, rfl, hne, hB, hlt, hL, hz, hm⟩ := h.one hl
  have d0 : w.cell? ⟨gl, 0, none⟩ = some (.int .i64 (l.getD 0 0)) := by rw [hL.cell]; simp
  have f0 := hL.frozen 0
  rcases hk with rfl | rfl
  · have HP := Lib.hid (h.put (y := arg) hne hB hL hz hm)
    clear h hL hm
    go_enter Tryd.func138, Tryd.ntmps138
    go_wp2
    go_ret2
    exact DoDid.yes ((Below.refl _ _).setCell hB _) rfl rfl ⟨_, HP.out⟩
  · have HP := Lib.hid h
    have e : stepped l 2 arg = (l, l.getD 0 0, 0) := rfl
    rw [e]
    clear h hL hm e
    generalize l.getD 0 0 = y at d0 ⊢
    go_enter Tryd.func138, Tryd.ntmps138
    go_wp2
    go_ret2
    exact DoDid.yes (Below.refl _ _) rfl rfl ⟨_, HP.out⟩
set_option maxHeartbeats 1000000 in
theorem ticketDo_any {g B : Nat} {v : Value} {l : List Int} {w : World} (h : ObjAt w B g 191 v l) (hl : l.length = 1) (h0 : 0 ≤ l.getD 0 0) (h1 : l.getD 0 0 ≤ 1000) (arg : Int) :
    Calls Tryd.prog 160 #[.pointer (some ⟨g, 0, none⟩), .int .i64 10, .int .i64 arg] w (DoDid w B g 191 (stepped l 10 arg)) := by
  have c0 := rec_cell h.rc
  obtain ⟨gl, cap, zs, rfl, hne, hB, hlt, hL, hz, hm⟩ := h.one hl
  have d0 : w.cell? ⟨gl, 0, none⟩ = some (.int .i64 (l.getD 0 0)) := by rw [hL.cell]; simp
  have f0 := hL.frozen 0
  have e : stepped l 10 arg = if l.getD 0 0 = 1000 then ([], 0, 2) else ([l.getD 0 0 + 1], l.getD 0 0, 0) := rfl
  rw [e]
  have HP := Lib.hid (h.put (y := l.getD 0 0 + 1) hne hB hL hz hm)
  clear h hL hm e
  generalize l.getD 0 0 = y at d0 h0 h1 HP ⊢
  by_cases hy : y = 1000
  · rw [if_pos hy]
    subst hy
    go_enter Tryd.func160, Tryd.ntmps160
    go_wp2
    go_ret2
    exact DoDid.no (Below.refl _ _) rfl rfl
  · rw [if_neg hy]
    have hz : (y == 1000) = false := by rw [beq_eq_false_iff_ne]; exact hy
    clear hy
    go_enter Tryd.func160, Tryd.ntmps160
    go_wp2
    go_ret2
    exact DoDid.yes ((Below.refl _ _).setCell hB _) rfl rfl ⟨_, HP.out⟩
end Go.Proofs.YtfgangkpebkicaaDoor

/-
  Contracts of do of queues and stacks.
-/
namespace Go.Proofs.YtfgangkpebkicaaDoor
open Go.RowKit
set_option maxRecDepth 20000
set_option maxHeartbeats 2000000 in
theorem queueDo_any {g B : Nat} {v : Value} {l : List Int} {w : World} (h : ObjAt w B g 185 v l) (hl : l.length ≤ 50) (hB : B ≤ w.heap.size) (kind arg : Int) (hk : kind = 3 ∨ kind = 4) :
    Calls Tryd.prog 143 #[.pointer (some ⟨g, 0, none⟩), .int .i64 kind, .int .i64 arg] w (DoDid w B g 185 (stepped l kind arg)) := by
  rcases hk with rfl | rfl
  · have e : stepped l 3 arg = if l.length = 50 then ([], 0, 2) else (insAt l l.length arg, 0, 0) := rfl
    rw [e]
    clear e
    have c0 := rec_cell h.rc
    obtain ⟨A, cap, rfl, m1, m2⟩ := h.row.rd.is
    unfold maxLen at m2
    have HH := Lib.hid h
    have HB := Lib.hid hB
    by_cases h50 : l.length = 50
    · rw [if_pos h50]
      have HC := Lib.hid (insert_full (h.drewN 1) h50 (l.length : Int) arg)
      clear h hB hl h50
      go_enter Tryd.func143, Tryd.ntmps143
      go_wp2_with fail
      go_still_tail 10, (by kernel_rfl)
      change wpList _ _ _ _ _ (w.drewN 1)
      go_wp2_with fail
      refine HC.out.mono ?_
      rintro e w' ⟨rfl, rfl⟩
      go_wp2_with fail
      go_ret2
      exact DoDid.no (belowN (Below.refl _ _) _) rfl rfl
    · rw [if_neg h50]
      have HC := Lib.hid (insert_any (h.drewN 1) (by omega) (Nat.le_refl l.length) arg hB)
      unfold ObjDid at HC
      clear h hB hl h50
      go_enter Tryd.func143, Tryd.ntmps143
      go_wp2_with fail
      go_still_tail 10, (by kernel_rfl)
      change wpList _ _ _ _ _ (w.drewN 1)
      go_wp2_with fail
      refine HC.out.mono ?_
      rintro e w' ⟨rfl, hb, hs⟩
      have HS := Lib.hid (And.intro hb hs)
      clear hb hs
      go_wp2_with fail
      go_ret2
      exact DoDid.yes ((belowN (Below.refl _ _) 1).trans HS.out.1) rfl rfl HS.out.2
  · have e : stepped l 4 arg = if l.length = 0 then (l, -1, 0) else (delAt l 0, l.getD 0 0, 0) := rfl
    rw [e]
    clear e
    have HB := Lib.hid hB
    by_cases h0 : l.length = 0
    · rw [if_pos h0]
      have HC := Lib.hid (remove_none h h0 0)
      have HH := Lib.hid h
      clear h hB hl h0
      go_enter Tryd.func143, Tryd.ntmps143
      go_wp2_with fail
      refine HC.out.mono ?_
      rintro e w' ⟨rfl, rfl⟩
      go_wp2_with fail
      go_ret2
      exact DoDid.yes (Below.refl _ _) rfl rfl ⟨_, HH.out⟩
    · rw [if_neg h0]
      have HC := Lib.hid (remove_any h (p := 0) (by omega) hl hB)
      unfold ObjDid at HC
      clear h hB hl h0
      generalize l.getD 0 0 = y at HC ⊢
      go_enter Tryd.func143, Tryd.ntmps143
      go_wp2_with fail
      refine HC.out.mono ?_
      rintro e w' ⟨rfl, hb, hs⟩
      have HS := Lib.hid (And.intro hb hs)
      clear hb hs
      go_wp2_with fail
      go_ret2
      exact DoDid.yes HS.out.1 rfl rfl HS.out.2
set_option maxHeartbeats 2000000 in
theorem stackDo_any {g B : Nat} {v : Value} {l : List Int} {w : World} (h : ObjAt w B g 187 v l) (hl : l.length ≤ 50) (hB : B ≤ w.heap.size) (kind arg : Int) (hk : kind = 5 ∨ kind = 6) :
    Calls Tryd.prog 155 #[.pointer (some ⟨g, 0, none⟩), .int .i64 kind, .int .i64 arg] w (DoDid w B g 187 (stepped l kind arg)) := by
  have c0 := rec_cell h.rc
  obtain ⟨A, cap, rfl, m1, m2⟩ := h.row.rd.is
  unfold maxLen at m2
  have HB := Lib.hid hB
  rcases hk with rfl | rfl
  · have e : stepped l 5 arg = if l.length = 50 then ([], 0, 2) else (insAt l l.length arg, 0, 0) := rfl
    rw [e]
    clear e
    by_cases h50 : l.length = 50
    · rw [if_pos h50]
      have HC := Lib.hid (insert_full (h.drewN 1) h50 (l.length : Int) arg)
      clear h hB hl h50
      go_enter Tryd.func155, Tryd.ntmps155
      go_wp2_with fail
      go_still_tail 10, (by kernel_rfl)
      change wpList _ _ _ _ _ (w.drewN 1)
      go_wp2_with fail
      refine HC.out.mono ?_
      rintro e w' ⟨rfl, rfl⟩
      go_wp2_with fail
      go_ret2
      exact DoDid.no (belowN (Below.refl _ _) _) rfl rfl
    · rw [if_neg h50]
      have HC := Lib.hid (insert_any (h.drewN 1) (by omega) (Nat.le_refl l.length) arg hB)
      unfold ObjDid at HC
      clear h hB hl h50
      go_enter Tryd.func155, Tryd.ntmps155
      go_wp2_with fail
      go_still_tail 10, (by kernel_rfl)
      change wpList _ _ _ _ _ (w.drewN 1)
      go_wp2_with fail
      refine HC.out.mono ?_
      rintro e w' ⟨rfl, hb, hs⟩
      have HS := Lib.hid (And.intro hb hs)
      clear hb hs
      go_wp2_with fail
      go_ret2
      exact DoDid.yes ((belowN (Below.refl _ _) 1).trans HS.out.1) rfl rfl HS.out.2
  · have e : stepped l 6 arg = if l.length = 0 then (l, -1, 0) else (delAt l (l.length - 1), l.getD (l.length - 1) 0, 0) := rfl
    rw [e]
    clear e
    by_cases h0 : l.length = 0
    · rw [if_pos h0]
      have HC := Lib.hid (remove_none (h.drewN 1) h0 (-1))
      have HH := Lib.hid h
      rw [h0] at c0
      have hw : IntKind.i64.wrap (0 - 1) = -1 := rfl
      clear h hB hl h0
      go_enter Tryd.func155, Tryd.ntmps155
      go_wp2_with fail
      go_still_tail 10, (by kernel_rfl)
      change wpList _ _ _ _ _ (w.drewN 1)
      go_wp2_with fail
      refine HC.out.mono ?_
      rintro e w' ⟨rfl, rfl⟩
      go_wp2_with fail
      go_ret2
      exact DoDid.yes (belowN (Below.refl _ _) _) rfl rfl ⟨_, HH.out.drewN 1⟩
    · rw [if_neg h0]
      have hq := remove_any (h.drewN 1) (p := l.length - 1) (by omega) hl hB
      have e1 : ((l.length - 1 : Nat) : Int) = (l.length : Int) - 1 := by omega
      rw [e1] at hq
      have HC := Lib.hid hq
      unfold ObjDid at HC
      have hw : IntKind.i64.wrap ((l.length : Int) - 1) = (l.length : Int) - 1 := IntWalk.i64_in _ (by omega)
      clear h hB hl h0 hq e1
      generalize l.getD (l.length - 1) 0 = y at HC ⊢
      go_enter Tryd.func155, Tryd.ntmps155
      go_wp2_with fail
      go_still_tail 10, (by kernel_rfl)
      change wpList _ _ _ _ _ (w.drewN 1)
      go_wp2_with fail
      refine HC.out.mono ?_
      rintro e w' ⟨rfl, hb, hs⟩
      have HS := Lib.hid (And.intro hb hs)
      clear hb hs
      go_wp2_with fail
      go_ret2
      exact DoDid.yes ((belowN (Below.refl _ _) 1).trans HS.out.1) rfl rfl HS.out.2
end Go.Proofs.YtfgangkpebkicaaDoor

/-
  Contract of do of sets.
-/
namespace Go.Proofs.YtfgangkpebkicaaDoor
open Go.RowKit
set_option maxRecDepth 20000
set_option maxHeartbeats 2000000 in
theorem setDo_any {g B : Nat} {v : Value} {l : List Int} {w : World} (h : ObjAt w B g 189 v l) (hl : l.length ≤ 50) (hs : l.Pairwise (· < ·)) (hB : B ≤ w.heap.size) (kind arg : Int) (hk : kind = 7 ∨ kind = 8 ∨ kind = 9) :
    Calls Tryd.prog 156 #[.pointer (some ⟨g, 0, none⟩), .int .i64 kind, .int .i64 arg] w (DoDid w B g 189 (stepped l kind arg)) := by
  have c0 := rec_cell h.rc
  have HS := Lib.hid (searchI_any (x := arg) h.row hs hl)
  have hlt : ∀ hx : arg ∈ l, lessN l arg < l.length := fun hx => (less_at hs hx).1
  have hle := lessN_le l arg
  have e7 : stepped l 7 arg = if arg ∈ l then (l, 0, 0) else if l.length = 50 then ([], 0, 2) else (insAt l (lessN l arg) arg, 1, 0) := rfl
  have e8 : stepped l 8 arg = if arg ∈ l then (delAt l (lessN l arg), 1, 0) else (l, 0, 0) := rfl
  have e9 : stepped l 9 arg = (l, if arg ∈ l then 1 else 0, 0) := rfl
  obtain ⟨A, cap, rfl, m1, m2⟩ := h.row.rd.is
  clear hs
  by_cases hm : arg ∈ l
  · rw [if_pos hm] at e7 e8 e9
    rw [decide_eq_true hm] at HS
    have hp := hlt hm
    rcases hk with rfl | rfl | rfl
    · rw [e7]
      clear e7 e8 e9 hlt hle hp hm m1 m2 hl hB
      have HH := Lib.hid h
      clear h
      go_enter Tryd.func156, Tryd.ntmps156
      go_wp2_with fail
      refine HS.out.mono ?_
      rintro e w1 ⟨rfl, q, rfl⟩
      go_wp2_with fail
      go_ret2
      exact DoDid.yes (belowN (Below.refl _ _) _) rfl rfl ⟨_, HH.out.drewN q⟩
    · rw [e8]
      have HR := Lib.hid (fun q => remove_any (h.drewN q) hp hl hB)
      clear e7 e8 e9 hlt hle hp hm m1 m2 hl hB
      have HH := Lib.hid h
      clear h
      go_enter Tryd.func156, Tryd.ntmps156
      go_wp2_with fail
      refine HS.out.mono ?_
      rintro e w1 ⟨rfl, q, rfl⟩
      go_wp2_with fail
      refine (HR.out q).mono ?_
      rintro e w' ⟨rfl, hb, hs⟩
      have HX := Lib.hid (And.intro hb hs)
      clear hb hs
      go_wp2_with fail
      go_ret2
      exact DoDid.yes ((belowN (Below.refl _ _) q).trans HX.out.1) rfl rfl HX.out.2
    · rw [e9]
      clear e7 e8 e9 hlt hle hp hm m1 m2 hl hB
      have HH := Lib.hid h
      clear h
      go_enter Tryd.func156, Tryd.ntmps156
      go_wp2_with fail
      refine HS.out.mono ?_
      rintro e w1 ⟨rfl, q, rfl⟩
      go_wp2_with fail
      go_ret2
      exact DoDid.yes (belowN (Below.refl _ _) _) rfl rfl ⟨_, HH.out.drewN q⟩
  · rw [if_neg hm] at e7 e8 e9
    rw [decide_eq_false hm] at HS
    rcases hk with rfl | rfl | rfl
    · rw [e7]
      by_cases h50 : l.length = 50
      · rw [if_pos h50]
        have HR := Lib.hid (fun q => insert_full (h.drewN q) h50 (lessN l arg : Int) arg)
        clear e7 e8 e9 hlt hle hm m1 m2 hl hB h50 h
        go_enter Tryd.func156, Tryd.ntmps156
        go_wp2_with fail
        refine HS.out.mono ?_
        rintro e w1 ⟨rfl, q, rfl⟩
        go_wp2_with fail
        refine (HR.out q).mono ?_
        rintro e w' ⟨rfl, rfl⟩
        go_wp2_with fail
        go_ret2
        exact DoDid.no (belowN (Below.refl _ _) _) rfl rfl
      · rw [if_neg h50]
        have HR := Lib.hid (fun q => insert_any (h.drewN q) (by omega) hle arg hB)
        clear e7 e8 e9 hlt hle hm m1 m2 hl hB h50 h
        go_enter Tryd.func156, Tryd.ntmps156
        go_wp2_with fail
        refine HS.out.mono ?_
        rintro e w1 ⟨rfl, q, rfl⟩
        go_wp2_with fail
        refine (HR.out q).mono ?_
        rintro e w' ⟨rfl, hb, hs⟩
        have HX := Lib.hid (And.intro hb hs)
        clear hb hs
        go_wp2_with fail
        go_ret2
        exact DoDid.yes ((belowN (Below.refl _ _) q).trans HX.out.1) rfl rfl HX.out.2
    · rw [e8]
      clear e7 e8 e9 hlt hle hm m1 m2 hl hB
      have HH := Lib.hid h
      clear h
      go_enter Tryd.func156, Tryd.ntmps156
      go_wp2_with fail
      refine HS.out.mono ?_
      rintro e w1 ⟨rfl, q, rfl⟩
      go_wp2_with fail
      go_ret2
      exact DoDid.yes (belowN (Below.refl _ _) _) rfl rfl ⟨_, HH.out.drewN q⟩
    · rw [e9]
      clear e7 e8 e9 hlt hle hm m1 m2 hl hB
      have HH := Lib.hid h
      clear h
      go_enter Tryd.func156, Tryd.ntmps156
      go_wp2_with fail
      refine HS.out.mono ?_
      rintro e w1 ⟨rfl, q, rfl⟩
      go_wp2_with fail
      go_ret2
      exact DoDid.yes (belowN (Below.refl _ _) _) rfl rfl ⟨_, HH.out.drewN q⟩
end Go.Proofs.YtfgangkpebkicaaDoor
