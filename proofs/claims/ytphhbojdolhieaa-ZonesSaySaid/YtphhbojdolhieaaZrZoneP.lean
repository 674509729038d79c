/-
  Contract of the reference's ZoneOf.
-/
import Derived.Test.YtphhbojdolhieaaZrWr
import Derived.Test.YtphhbojdolhieaaZMem
import Derived.Test.YtphhbojdolhieaaZOpenP
import Derived.Deep.CutRange
namespace Go.Proofs.Ytphhbojdolhieaa
open Go.RowKit
set_option maxRecDepth 20000

/-- Where the reference begins. -/
def zr0 (cs : List Cl) (v : Int) : Int × Int × Bool × Bool := match wAt v 0 cs with
  | none => (if v = 0 then -1 else 200, -1, decide (v = 0), false)
  | some i => (if v = 0 then -1 else if (cs.getD i default).til = -1 then 200 else (cs.getD i default).til, (cs.getD i default).frm, true, (cs.getD i default).til != -1)
/-- What it says of a history of a register. -/
theorem zr_zone {n : Nat} {cs : List Cl} (h : RegH n cs) (v : Int) : zoneV cs v = if ((zr0 cs v).2.2.1 && ((zr0 cs v).2.2.2 || zAny v (rds 0 cs))) = true then some ⟨v, zF v (rds 0 cs) (zr0 cs v).1, zL v (rds 0 cs) (zr0 cs v).2.1, decide (zF v (rds 0 cs) (zr0 cs v).1 < zL v (rds 0 cs) (zr0 cs v).2.1)⟩ else none := by
  unfold zoneV wOf zr0
  by_cases hv : v = 0
  · subst hv
    have hw : wAt 0 0 cs = none := (wAt_none cs 0).2 fun c hc => by
      rw [Bool.eq_false_iff]
      intro hw
      have h1 := isW_iff.1 hw
      rcases h.kind hc with a | a <;> omega
    rw [hw]
    simp [countsZ, zoneOf]
  · rw [if_neg hv]
    cases hw : wAt v 0 cs with
    | none => simp [hv]
    | some i =>
      obtain ⟨_, c, hc, hwc⟩ := wAt_some cs 0 i hw
      rw [Nat.sub_zero] at hc
      have hd := isW_iff.1 hwc
      have e : cs.getD i default = c := by rw [List.getD_eq_getElem?_getD, hc]; rfl
      have hf := h.frm (List.mem_of_getElem? hc)
      simp only [Option.map_some, e, if_neg hv, Bool.true_and]
      have e1 : (wrZ i c).value = v := hd.2
      have e2 : (wrZ i c).til = if c.til = -1 then 200 else c.til := rfl
      have e3 : (wrZ i c).frm = c.frm := rfl
      have e4 : countsZ (wrZ i c) (rds 0 cs) = (c.til != -1 || zAny v (rds 0 cs)) := by
        unfold countsZ
        rw [e1, e2, bne_iff_ne.2 hv, Bool.true_and]
        congr 1
        by_cases ht : c.til = -1
        · rw [if_pos ht, ht]; rfl
        · rw [if_neg ht, bne_iff_ne.2 ht, bne_iff_ne]
          omega
      rw [e4]
      unfold zoneOf
      rw [e1, e2, e3]
theorem zF_snoc (v : Int) (r : Zop) : ∀ (l : List Zop) (a : Int), zF v (l ++ [r]) a = if r.value = v then (if r.til < zF v l a then r.til else zF v l a) else zF v l a
  | [], a => rfl
  | x :: l, a => by rw [List.cons_append, zF, zF, zF_snoc v r l]
theorem zL_snoc (v : Int) (r : Zop) : ∀ (l : List Zop) (a : Int), zL v (l ++ [r]) a = if r.value = v then (if zL v l a < r.frm then r.frm else zL v l a) else zL v l a
  | [], a => rfl
  | x :: l, a => by rw [List.cons_append, zL, zL, zL_snoc v r l]
theorem zAny_snoc (v : Int) (r : Zop) (l : List Zop) : zAny v (l ++ [r]) = (zAny v l || r.value == v) := by
  unfold zAny
  rw [List.any_append]
  simp
/-- The first of the write, as the reference has it. -/
def zF1 (cs : List Cl) (v : Int) : Int := match wAt v 0 cs with
  | none => 200
  | some i => if (cs.getD i default).til = -1 then 200 else (cs.getD i default).til
def zL1 (cs : List Cl) (v : Int) : Int := match wAt v 0 cs with
  | none => -1
  | some i => (cs.getD i default).frm
def zC1 (cs : List Cl) (v : Int) : Bool := match wAt v 0 cs with
  | none => false
  | some i => (cs.getD i default).til != -1
theorem zr0_eq (cs : List Cl) (v : Int) : zr0 cs v = (if v = 0 then -1 else zF1 cs v, zL1 cs v, (wAt v 0 cs).isSome || decide (v = 0), zC1 cs v) := by
  unfold zr0 zF1 zL1 zC1
  cases wAt v 0 cs <;> simp
end Go.Proofs.Ytphhbojdolhieaa
