/-
  A law's own row of bytes beside a disk; texts copied into it; in whatever memory.
-/
import Derived.Test.YtinplpcobmbekaaDCopy
import Derived.Laws.CopyOwn
import Derived.Below
import Derived.Test.YtinplpcobmbekaaProg
import Derived.Handy
import Derived.Deep.QuietTactic
import Derived.WalkSpells
import Derived.WalkLawsBesides
import Derived.BigQuiet
import Derived.PlainAid
import Derived.Deep.RegionWith
import Derived.Laws.BitsAllLaws
import Derived.OwnWalk
import Derived.Laws.OwnMore
import Derived.Deep.RegionHeld3
import Derived.WalkSmall
import Derived.Deep.CutRange
import Derived.BigRegion
import Derived.OneCell
import Derived.Sort.Row
import Derived.ChangeSlices
import Derived.OpenShut
import Derived.Deep.AppendLies
import Derived.Laws.BytesArg
import Derived.Laws.CopyRow
import Derived.Laws.IdiomCopy
import Derived.Deep.OwnRows
import Derived.Deep.RegionLaw
namespace Go.Proofs.Ytinplpcobmbekaa
open Go.RowKit

/-- A disk of a law's own, and a row of bytes beside it, at block g. -/
structure LDR (B : Nat) (W w : World) (P : Nat) (s : DS) (n : Nat) (F : Nat → Prop) (g m : Nat) (R : List Int) : Prop where
  ld : LD B W w P s n F
  row : w.ownsRow 0 5 1 (.slice (some ⟨g, 0, none⟩) m m) m (bV R)
  far : ∀ z, F z → z ≠ g
  hg : B ≤ g

section
variable {B : Nat} {W w w' : World} {P : Nat} {s s' : DS} {n : Nat} {F F' : Nat → Prop} {g m : Nat} {R : List Int}
theorem LDR.lt (h : LDR B W w P s n F g m R) : g < w.heap.size := (h.row.lt g rfl).2
theorem LDR.quiet (h : LDR B W w P s n F g m R) (hb : Below w.heap.size w w') : LDR B W w' P s n F g m R := ⟨h.ld.quiet hb, own_keep hb h.row, h.far, h.hg⟩
theorem LDR.step (h : LDR B W w P s n F g m R) (hc : CD w' P s' n F') (hf : Frm F w w') (hk : ∀ k, F' k → F k ∨ w.heap.size ≤ k) : LDR B W w' P s' n F' g m R :=
  ⟨h.ld.step hc hf hk, own_same h.row fun z e => by
    have : g = z := by simpa [Value.ownBlock] using e
    subst this
    exact hf.block g h.lt fun hz => h.far g hz rfl, fun z hz e => (hk z hz).elim (fun hz => h.far z hz e) fun h2 => by have := h.lt; omega, h.hg⟩
theorem LDR.paint (h : LDR B W w P s n F g m R) {R' : List Int} (hr : w'.ownsRow 0 5 1 (.slice (some ⟨g, 0, none⟩) m m) m (bV R')) (hg : w.grownBy w' (some g)) : LDR B W w' P s n F g m R' :=
  have hf : Frm (fun z => z = g) w w' := Frm.of_grown hg fun z e => .inl (by simpa using e.symm)
  ⟨⟨h.ld.cd.frm hf fun z hz e => h.far z hz e, h.ld.bel.trans (hf.below (fun z e => by have := h.hg; omega) h.ld.size), h.ld.fresh, Nat.le_trans h.ld.size hf.size⟩, hr, h.far, h.hg⟩
end

/-- copy(row[a:], text), at the list of a plain region. -/
theorem wpList_copy_text {w : World} {ops : Array Oper} {rest : List Oper} {o : Oper} {a : Act} {Q : Exit → Act → World → Prop} (hgd : o.guard = none) (d s : Operand)
    (ho : o.op = .call { callee := .builtin .copy, args := #[d, s], argTypes := #[30, 9] }) {g n c : Nat} {L bs : List Int} (h : w.ownsRow 0 5 1 (.slice (some ⟨g, 0, none⟩) n c) n (bV L)) (hb : ∀ x ∈ bs, 0 ≤ x ∧ x < 256) (i m c' : Nat) (ha : i + bs.length ≤ n) (hm : bs.length ≤ m)
    (hd : a.eval d = .slice (some ⟨g, i, none⟩) m c') (hs : a.eval s = .string (strOfNums bs))
    (hK : ∀ w', w'.ownsRow 0 5 1 (.slice (some ⟨g, 0, none⟩) n c) n (bV (splice L i bs)) → w.grownBy w' (some g) → wpList Try.prog ops Q rest (a.put o.dst (goInt bs.length)) w') : wpList Try.prog ops Q (o :: rest) a w := by
  refine wpList_plain hgd fun K hK' => ?_
  obtain ⟨w', hr, h1, h2⟩ := run_copy_text h hb i m c' ha hm o.type
  unfold Oper.wp
  simp [execOp, ho, resolve, invoke, builtin, hd, hs, hr, Result.andThen]
  exact hK' _ _ (hK w' h1 h2)

/-- The same as a step of a region that draws. -/
theorem step_copy_text {w : World} {ops : Array Oper} {o : Oper} {a : Act} {K : Act → World → Prop} {Q : Exit → Act → World → Prop} {E : Prop} (hgd : o.guard = none) (d s : Operand)
    (ho : o.op = .call { callee := .builtin .copy, args := #[d, s], argTypes := #[30, 9] }) {g n c : Nat} {L bs : List Int} (h : w.ownsRow 0 5 1 (.slice (some ⟨g, 0, none⟩) n c) n (bV L)) (hb : ∀ x ∈ bs, 0 ≤ x ∧ x < 256) (i m c' : Nat) (ha : i + bs.length ≤ n) (hm : bs.length ≤ m)
    (hd : a.eval d = .slice (some ⟨g, i, none⟩) m c') (hs : a.eval s = .string (strOfNums bs))
    (hK : ∀ w', w'.ownsRow 0 5 1 (.slice (some ⟨g, 0, none⟩) n c) n (bV (splice L i bs)) → w.grownBy w' (some g) → K (a.put o.dst (goInt bs.length)) w') :
    if Region.wanted o (yielded ops a.tmps) = true then Oper.wp Try.prog o a w K Q else E := by
  have hw : Region.wanted o (yielded ops a.tmps) = true := by simp [Region.wanted, hgd]
  rw [if_pos hw]
  obtain ⟨w', hr, h1, h2⟩ := run_copy_text h hb i m c' ha hm o.type
  unfold Oper.wp
  simp [execOp, ho, resolve, invoke, builtin, hd, hs, hr, Result.andThen]
  exact hK w' h1 h2

/-- A beginning of a text of bytes. -/
theorem str_cut (bs : List Int) (n : Nat) : (strOfNums bs).extract 0 n = strOfNums (bs.take n) := by
  apply ByteArray.ext
  simp [strOfNums, ByteArray.data_extract]

theorem str_len (bs : List Int) : (strOfNums bs).size = bs.length := strOfNums_size bs

end Go.Proofs.Ytinplpcobmbekaa
