/-
  What package cover's sweep holds in memory while it goes on; in whatever memory.
-/
import Derived.Test.YtdklpgphmoaniaaGreatDoorLaidV
import Derived.Test.YtdklpgphmoaniaaGreatDoorQAround
import Derived.Test.YtdklpgphmoaniaaGreatDoorProg
import Derived.Handy
import Derived.Deep.QuietTactic
import Derived.WalkSpells
import Derived.WalkLawsBesides
import Derived.BigQuiet
import Derived.PlainAid
import Derived.Deep.RegionWith
import Derived.Laws.BitsAllLaws
import Derived.Sort.LotA
import Derived.Sort.LotB
import Derived.Deep.RegionHeld3
import Derived.WalkSmall
import Derived.Deep.CutRange
import Derived.BigRegion
import Derived.OwnWalk
import Derived.Laws.OwnMore
import Derived.OneCell
import Derived.Laws.CopyOwn
import Derived.Sort.Row
import Derived.Sort.WalkB3
import Derived.Laws.StructEq
import Derived.Deep.AppendLies
import Derived.Deep.RegionLaw
import Derived.RangeFuncFrom
import Derived.RangeFuncCalls
import Derived.RangeFuncLeaves
import Derived.WalkKit
import Derived.OwnWalkIn
import Derived.TacticsInMore
import Derived.LoopNIn
import Derived.LoopIn
import Derived.RegionIn
import Derived.Stop.RegionWithIn
import Derived.Test.YtdklpgphmoaniaaGreatDoorRows
import Derived.LaidMore
import Derived.Stop.LaidErr
namespace Go.Proofs.YtdklpgphmoaniaaGreatDoor
open Go.RowKit Go

/-- The tables' blocks lie ahead of B. -/
def LowT (B : Nat) : Prop := (2 < B ∧ 0 < B) ∧ 1 < B

theorem Cov3.low {B : Nat} {w w' : World} (h : Cov3 w) (hl : LowT B) (hb : Below B w w') : Cov3 w' :=
  ⟨Tabs.low h.1 hl.1.1 hl.1.2 hb, var?_below hb gWays hl.2 h.2⟩

theorem Cov3.lt {w : World} (h : Cov3 w) : LowT w.heap.size :=
  ⟨Tabs.lt h.1, World.block_lt_of_cell? _ _ (show w.cell? ⟨1, 0, none⟩ = some (.int .i64 1) from (h.2.cell 0).trans rfl)⟩

/-- What a sweep holds: found: F, in the row fv, told by the variable at FB; what waits: H, in the row v. X: where the sweep's own pointer lies; k: the loop's mark. w: the memory ahead of all. -/
structure FromI (S X FB k : Nat) (l1 l2 u1 u2 r d : Int) (vo : Value) (O : List Nat) (w : World) (F : List (Int × Int)) (H : List Int) (v fv : Value) (W : World) : Prop where
  hat : HatQ W (X + 1) S 7 v H
  heap : Hp H.length H.toArray
  swm : SweepM S l1 l2 u1 u2 r d vo W
  onw : W.ownsRow (S + 1) 3 1 vo O.length (natV O)
  ptr : W.cell? ⟨X, 0, none⟩ = some (.pointer (some ⟨S, 0, none⟩))
  fnd : W.cell? ⟨FB, 0, none⟩ = some fv
  ffz : W.frozen? ⟨FB, 0, none⟩ = false
  row : RowE (k + 2) fv F W
  cov : Cov3 W
  frm : ButQ S 7 none w W
  vsep : ∀ z, v.ownBlock = some z → z ≠ FB ∧ z ≠ k ∧ z ≠ k + 1 ∧ fv.ownBlock ≠ some z

/-- Where the blocks stand. -/
structure FromO (S X FB k : Nat) (vo : Value) (w : World) : Prop where
  s : S < X
  x : w.heap.size = X
  fb : X < FB
  k : FB < k
  low : LowT S
  vo : ∀ z, vo.ownBlock = some z → S < z ∧ z < X

theorem FromI.below {S X FB k : Nat} {l1 l2 u1 u2 r d : Int} {vo : Value} {O : List Nat} {w : World} {F : List (Int × Int)} {H : List Int} {v fv : Value} {W W' : World} (h : FromI S X FB k l1 l2 u1 u2 r d vo O w F H v fv W) (hb : Below W.heap.size W W') : FromI S X FB k l1 l2 u1 u2 r d vo O w F H v fv W' :=
  ⟨h.hat.keep hb, h.heap, h.swm.keep hb, own_keep hb h.onw, keepCell hb h.ptr, keepCell hb h.fnd, keepFrozen hb h.fnd h.ffz, h.row.keep hb, h.cov.below hb, h.frm.trans (ButQ.of_below (r := none) hb h.hat.lt) (.inl rfl), h.vsep⟩

theorem HatQ.grownR {w w' : World} {base B o : Nat} {v : Value} {L : List Int} {r : Option Nat} (h : HatQ w base B o v L) (hg : w.grownBy w' r) (h1 : some B ≠ r) (h2 : v.ownBlock ≠ r) : HatQ w' base B o v L :=
  ⟨hg.cell h.cell h1, by rw [World.frozen?_of_block (hg.block B h.lt h1)]; exact h.frz, h.ne, World.ownsRow.kept h.own hg (.inr h2)⟩

/-- A block that the sweep does not hold is changed. -/
theorem FromI.grown {S X FB k : Nat} {l1 l2 u1 u2 r d : Int} {vo : Value} {O : List Nat} {w : World} {F : List (Int × Int)} {H : List Int} {v fv : Value} {W W' : World} (h : FromI S X FB k l1 l2 u1 u2 r d vo O w F H v fv W) (o : FromO S X FB k vo w) (hg : W.grownBy W' (some (k + 1))) : FromI S X FB k l1 l2 u1 u2 r d vo O w F H v fv W' := by
  obtain ⟨o1, o2, o3, o4, o5, o6⟩ := o
  have nv : v.ownBlock ≠ some (k + 1) := fun e => (h.vsep _ e).2.2.1 rfl
  have nf : fv.ownBlock ≠ some (k + 1) := fun e => by have := (World.ownsRow.lt h.row _ e).1; omega
  refine ⟨h.hat.grownR hg (by simp; omega) nv, h.heap, h.swm.far hg (by simp; omega), World.ownsRow.kept h.onw hg (.inr fun e => by have := o6 _ e; omega), hg.cell h.ptr (by simp; omega), hg.cell h.fnd (by simp; omega), ?_, h.row.grown hg nf, h.cov.low o5 ?_, h.frm.trans (ButQ.grown (r := some (k + 1)) hg h.hat.lt (by simp; omega)) (.inr fun z hz => by have := Option.some.inj hz; omega), h.vsep⟩
  · rw [World.frozen?_of_block (hg.block FB (World.block_lt_of_cell? _ _ h.fnd) (by simp; omega))]; exact h.ffz
  · exact (Below.refl S W).grown hg (by have := h.hat.lt; omega) (fun z hz => by have := Option.some.inj hz; omega)

/-- What waits is changed. -/
theorem FromI.but {S X FB k : Nat} {l1 l2 u1 u2 r d : Int} {vo : Value} {O : List Nat} {w : World} {F : List (Int × Int)} {H H' : List Int} {v v' fv : Value} {W W' : World} (h : FromI S X FB k l1 l2 u1 u2 r d vo O w F H v fv W) (o : FromO S X FB k vo w) (hb : ButQ S 7 v.ownBlock W W') (hat' : HatQ W' (X + 1) S 7 v' H') (hp' : Hp H'.length H'.toArray) (hv : ∀ z, v'.ownBlock = some z → v.ownBlock = some z ∨ W.heap.size ≤ z) (hk : k + 2 ≤ W.heap.size) : FromI S X FB k l1 l2 u1 u2 r d vo O w F H' v' fv W' := by
  obtain ⟨o1, o2, o3, o4, o5, o6⟩ := o
  have hvX : ∀ z, v.ownBlock = some z → X + 1 ≤ z := fun z e => (World.ownsRow.lt h.hat.own z e).1
  have nX : v.ownBlock ≠ some X := fun e => by have := hvX _ e; omega
  have nF : v.ownBlock ≠ some FB := fun e => (h.vsep _ e).1 rfl
  refine ⟨hat', hp', h.swm.but hb, hb.own h.onw (fun e => by have := o6 _ e; omega) (fun z e e' => by have := o6 _ e'; have := hvX _ e; omega), hb.cellK h.ptr (by simp; omega) nX, hb.cellK h.fnd (by simp; omega) nF, ?_, hb.own h.row (fun e => by have := (World.ownsRow.lt h.row _ e).1; omega) (fun z e e' => (h.vsep _ e).2.2.2 e'), h.cov.low o5 (hb.below (Nat.le_refl _) (fun z e => by have := hvX _ e; omega) (by have := h.hat.lt; omega)), h.frm.trans hb (.inr fun z e => by have := hvX _ e; omega), fun z e => ?_⟩
  · rw [hb.frozK (p := ⟨FB, 0, none⟩) (World.block_lt_of_cell? _ _ h.fnd) (by simp; omega) nF]; exact h.ffz
  · rcases hv z e with e1 | e1
    · exact h.vsep z e1
    · have lF := World.block_lt_of_cell? _ _ h.fnd
      simp only at lF
      exact ⟨by omega, by omega, by omega, fun e' => by have := (World.ownsRow.lt h.row _ e').2; omega⟩

/-- What has been found is changed. -/
theorem FromI.found {S X FB k : Nat} {l1 l2 u1 u2 r d : Int} {vo : Value} {O : List Nat} {w : World} {F F' : List (Int × Int)} {H : List Int} {v fv fv' : Value} {W W1 : World} (h : FromI S X FB k l1 l2 u1 u2 r d vo O w F H v fv W) (o : FromO S X FB k vo w) (hg : W.grownBy W1 fv.ownBlock) (hr : RowE (k + 2) fv' F' W1) (hv : ∀ z, fv'.ownBlock = some z → fv.ownBlock = some z ∨ W.heap.size ≤ z) : FromI S X FB k l1 l2 u1 u2 r d vo O w F' H v fv' (W1.setCell ⟨FB, 0, none⟩ fv') := by
  obtain ⟨o1, o2, o3, o4, o5, o6⟩ := o
  have hfz : ∀ z, fv.ownBlock = some z → k + 2 ≤ z := fun z e => (World.ownsRow.lt h.row z e).1
  have g2 := grown_set W1 FB 0 fv'
  have nS : some S ≠ fv.ownBlock := fun e => by have := hfz _ e.symm; omega
  have nX : some X ≠ fv.ownBlock := fun e => by have := hfz _ e.symm; omega
  have nF : some FB ≠ fv.ownBlock := fun e => by have := hfz _ e.symm; omega
  have nv : v.ownBlock ≠ fv.ownBlock ∨ v.ownBlock = none := by
    cases e : v.ownBlock with
    | none => exact .inr rfl
    | some z => exact .inl fun e' => (h.vsep z e).2.2.2 e'.symm
  have nvF : v.ownBlock ≠ some FB := fun e => (h.vsep _ e).1 rfl
  have hsz := h.hat.lt
  have HA : HatQ W1 (X + 1) S 7 v H := ⟨hg.cell h.hat.cell nS, by rw [World.frozen?_of_block (hg.block S hsz nS)]; exact h.hat.frz, h.hat.ne, World.ownsRow.kept h.hat.own hg (nv.elim .inr .inl)⟩
  have hBW : Below S W W1 := (Below.refl S W).grown hg (by omega) (fun z e => by have := hfz z e; omega)
  have hB2 : Below S W1 (W1.setCell ⟨FB, 0, none⟩ fv') := (Below.refl S W1).setCell (by simp; omega) _
  refine ⟨HA.grownR g2 (by simp; omega) nvF, h.heap, (h.swm.far hg nS).far g2 (by simp; omega), World.ownsRow.kept (World.ownsRow.kept h.onw hg ?_) g2 (.inr fun e => by have := o6 _ e; omega), store_keep (hg.cell h.ptr nX) (by simp; try omega), store_new (hg.cell h.fnd nF), ?_, hr.grown g2 ?_, h.cov.low o5 (hBW.trans hB2), ?_, fun z e => ⟨(h.vsep z e).1, (h.vsep z e).2.1, (h.vsep z e).2.2.1, fun e' => ?_⟩⟩
  · cases e : vo.ownBlock with
    | none => exact .inl rfl
    | some z => exact .inr fun e' => by have := o6 _ e; have := hfz _ e'.symm; omega
  · rw [World.frozen?_setCell, World.frozen?_of_block (hg.block FB (World.block_lt_of_cell? _ _ h.fnd) nF)]; exact h.ffz
  · intro e
    have := (World.ownsRow.lt hr _ e).1
    omega
  · have hSW1 : S < W1.heap.size := Nat.lt_of_lt_of_le hsz hg.size
    exact (h.frm.trans (ButQ.grown (r := fv.ownBlock) hg hsz (fun e => nS e.symm)) (.inr fun z e => by have := hfz z e; omega)).trans (ButQ.grown (r := some FB) g2 hSW1 (by simp; omega)) (.inr fun z e => by have := Option.some.inj e; omega)
  · rcases hv z e' with e1 | e1
    · exact (h.vsep z e).2.2.2 e1
    · have := (World.ownsRow.lt h.hat.own z e).2
      omega

end Go.Proofs.YtdklpgphmoaniaaGreatDoor
