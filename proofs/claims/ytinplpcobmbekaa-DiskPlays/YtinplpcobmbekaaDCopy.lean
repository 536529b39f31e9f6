/-
  copy of a text of bytes into a row of one's own; []byte of a text; in whatever memory.
-/
import Derived.Test.YtinplpcobmbekaaBD
import Derived.Test.YtinplpcobmbekaaCDiskT
import Derived.Laws.CopyOwn
import Derived.Below
import Derived.Test.YtinplpcobmbekaaProg
import Derived.Handy
import Derived.Deep.QuietTactic
import Derived.WalkSpells
import Derived.WalkLawsBesides
import Derived.BigQuiet
import Derived.PlainAid
import Derived.Deep.RegionWith
import Derived.Laws.BitsAllLaws
import Derived.OwnWalk
import Derived.Laws.OwnMore
import Derived.Deep.RegionHeld3
import Derived.WalkSmall
import Derived.Deep.CutRange
import Derived.BigRegion
import Derived.OneCell
import Derived.Sort.Row
import Derived.ChangeSlices
import Derived.OpenShut
import Derived.Deep.AppendLies
import Derived.Laws.BytesArg
import Derived.Laws.CopyRow
import Derived.Laws.IdiomCopy
import Derived.Deep.OwnRows
import Derived.Deep.RegionLaw
import Derived.Lib.BufferWrite
namespace Go.Proofs.Ytinplpcobmbekaa
open Go.RowKit

theorem byteCells_str (bs : List Int) (hb : ∀ x ∈ bs, 0 ≤ x ∧ x < 256) : Lib.byteCells (strOfNums bs).data.toList = bV bs := by
  rw [strOfNums_data]
  unfold Lib.byteCells bV
  rw [List.map_map]
  refine List.map_congr_left fun x hx => ?_
  have := hb x hx
  simp only [Function.comp_apply, Value.int.injEq, true_and]
  simp
  omega

theorem bV_splice (L bs : List Int) (a : Nat) : bV (splice L a bs) = (bV L).take a ++ (bV bs ++ (bV L).drop (a + bs.length)) := by
  unfold splice bV
  rw [List.map_append, List.map_append, List.map_take, List.map_drop]

/-- copy(row[a:], text). -/
theorem run_copy_text {w : World} {base g n c : Nat} {L bs : List Int} (h : w.ownsRow base 5 1 (.slice (some ⟨g, 0, none⟩) n c) n (bV L)) (hb : ∀ x ∈ bs, 0 ≤ x ∧ x < 256) (a m c' : Nat) (ha : a + bs.length ≤ n) (hm : bs.length ≤ m) (ty : TypeId) :
    ∃ w', (Builtin.copy_ #[30, 9] ty #[.slice (some ⟨g, a, none⟩) m c', .string (strOfNums bs)]).run Try.prog w = .ok (goInt bs.length) w' ∧ w'.ownsRow base 5 1 (.slice (some ⟨g, 0, none⟩) n c) n (bV (splice L a bs)) ∧ w.grownBy w' (some g) := by
  have hs := strOfNums_size bs
  have hl : L.length = n := by have := h.1; rw [bV_len] at this; omega
  rcases h.2 with ⟨e, _⟩ | ⟨g', cap, cur, e, hbs, hg, hnc, hcm, hcs, ht⟩
  · simp at e
  · simp only [Value.slice.injEq, Option.some.injEq, Addr.mk.injEq, and_true, true_and] at e
    obtain ⟨rfl, rfl⟩ := e
    have hr := Lib.run_copy_row_string (P := Try.prog) w 30 9 ty 5 g a m c' (strOfNums bs) cur 5 Try.underlying30 infoU8 hg (by omega) (by omega)
    rw [byteCells_str bs hb, hs] at hr
    refine ⟨_, hr, ⟨?_, .inr ⟨g, c, _, rfl, hbs, setRow_heap w g cur _ _ (0, 0) hg, hnc, hcm, ?_, ?_⟩⟩, ⟨rfl, rfl, rfl, by simp [World.setRow], fun k hk hn => setRow_other w g k _ (fun e => hn (by rw [e]))⟩⟩
    · rw [bV_len, splice_len (by omega)]
      omega
    · simp only [List.size_toArray, List.length_append, List.length_take, List.length_drop, Array.length_toList, bV_len]
      omega
    · rw [Nat.mul_one] at ht ⊢
      rw [bV_splice, ← ht]
      have h1 : (cur.toList.take a ++ bV bs).length = a + bs.length := by
        rw [List.length_append, List.length_take, bV_len, Array.length_toList]
        omega
      rw [List.take_append, h1, List.take_of_length_le (by rw [h1]; exact ha), List.take_take, Nat.min_eq_left (show a ≤ n by omega), List.drop_take, List.append_assoc]

/-- []byte(text): a new row. -/
theorem run_bytes_text (w : World) (bs : List Int) (hb : ∀ x ∈ bs, 0 ≤ x ∧ x < 256) : ∃ c w', (convert 9 30 (.string (strOfNums bs))).run Try.prog w = .ok (.slice (some ⟨w.heap.size, 0, none⟩) bs.length c) w' ∧ LstB w' (.slice (some ⟨w.heap.size, 0, none⟩) bs.length c) bs ∧ Below w.heap.size w w' := by
  have hr := run_bytes_of_string (P := Try.prog) w 9 30 5 (strOfNums bs) Try.underlying9 Try.underlying30 Try.underlying5
  rw [strOfNums_size] at hr
  refine ⟨_, _, hr, ⟨_, _, rfl, fun _ => ⟨_, 0, rfl, fun j hj => ?_⟩⟩, belowT (drewB w) (allocB w.drew _)⟩
  rw [Nat.zero_add, show w.heap.size = w.drew.heap.size from rfl, World.cell?_alloc_mark, bytesRow_at _ _ j (by rw [show (strOfNums bs).data.size = bs.length from strOfNums_size bs]; exact hj)]
  have := hb _ (List.getElem_mem hj)
  simp only [strOfNums]
  simp
  omega

end Go.Proofs.Ytinplpcobmbekaa
