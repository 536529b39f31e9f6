/-
  The texts that layer 12's statements write; two texts of bytes compared; in whatever memory.
-/
import Derived.Test.YtinplpcobmbekaaBD
import Derived.Test.YtinplpcobmbekaaDskRel
import Derived.Laws.CopyOwn
import Derived.Below
import Derived.Test.YtinplpcobmbekaaProg
import Derived.Handy
import Derived.Deep.QuietTactic
import Derived.WalkSpells
import Derived.WalkLawsBesides
import Derived.BigQuiet
import Derived.PlainAid
import Derived.Deep.RegionWith
import Derived.Laws.BitsAllLaws
import Derived.OwnWalk
import Derived.Laws.OwnMore
import Derived.Deep.RegionHeld3
import Derived.WalkSmall
import Derived.Deep.CutRange
import Derived.BigRegion
import Derived.OneCell
import Derived.Sort.Row
import Derived.ChangeSlices
import Derived.OpenShut
import Derived.Deep.AppendLies
import Derived.Laws.BytesArg
import Derived.Laws.CopyRow
import Derived.Laws.IdiomCopy
import Derived.Deep.OwnRows
import Derived.Deep.RegionLaw
namespace Go.Proofs.Ytinplpcobmbekaa
open Go.RowKit

/-- []byte of a constant text: the row just laid is marked (one place behind its last cell). -/
theorem conv_mark (w : World) (C : Array Value) (e : TypeId) (n c : Nat) : (convert 30 30 (.slice (some ⟨w.heap.size, 0, none⟩) n c)).run Try.prog (w.alloc (.cells C e)) = .ok (.slice (some ⟨w.heap.size, 0, none⟩) n c) (w.alloc (.cells C e (C.size, C.size + 1))) := by
  have hsh : (w.alloc (.cells C e)).shape? w.heap.size = some (e, C.size) := by
    unfold World.shape?
    rw [heap_alloc_new]
  have hfr : (w.alloc (.cells C e)).freeze ⟨w.heap.size, C.size, none⟩ 1 = w.alloc (.cells C e (C.size, C.size + 1)) := by
    have hm : ∀ (a : Array Obj) (x : Obj) (f : Obj → Obj), (a.push x).modify a.size f = a.push (f x) := by
      intro a x f
      apply Array.ext
      · simp
      · intro i h1 h2
        simp only [Array.getElem_modify, Array.getElem_push]
        by_cases h : a.size = i
        · subst h
          simp
        · have hi : i < a.size := by simp at h1; omega
          simp [h, hi]
    unfold World.freeze
    rw [if_neg (by decide)]
    show ({ w.alloc (.cells C e) with heap := (w.heap.push (.cells C e)).modify w.heap.size _ } : World) = _
    rw [hm]
    rfl
  simp [convert, run_underlying Try.underlying30, run_underlying Try.underlying5, markStringish, hsh]
  exact hfr

/-- string(b), b a row of one's own. -/
theorem str_of_own {w : World} {base : Nat} {v : Value} {L : List Int} (h : w.ownsRow base 5 1 v L.length (bV L)) : (convert 30 9 v).run Try.prog w = .ok (.string (strOfNums L)) w := by
  rcases h.2 with ⟨rfl, h0⟩ | ⟨g, cap, cur, rfl, _⟩
  · obtain rfl := List.eq_nil_of_length_eq_zero h0
    exact str_of_none w 0 0
  · have := str_of_row h 0 L.length cap (by omega)
    rwa [List.drop_zero, List.take_of_length_le (Nat.le_refl _)] at this

/-- So many bytes of a number. -/
def textL (n : Int) (L : Nat) : List Int := (List.range L).map fun (i : Nat) => (n + 7 * (i : Int) + 1) % 256

theorem textL_len (n : Int) (L : Nat) : (textL n L).length = L := by simp [textL]

theorem textL_mem (n : Int) (L : Nat) : ∀ x ∈ textL n L, 0 ≤ x ∧ x < 256 := fun x hx => by
  obtain ⟨i, -, rfl⟩ := List.mem_map.1 hx
  omega

theorem textL_set (n : Int) {L i : Nat} (h : i < L) : (bV (textL n i ++ List.replicate (L - i) 0)).set i (.int .u8 ((n + 7 * (i : Int) + 1) % 256)) = bV (textL n (i + 1) ++ List.replicate (L - (i + 1)) 0) := by
  rw [bV_set]
  congr 1
  rw [List.set_append, if_neg (by rw [textL_len]; omega), textL_len, Nat.sub_self, show L - i = (L - (i + 1)) + 1 by omega, List.replicate_succ, List.set_cons_zero]
  unfold textL
  rw [List.range_succ, List.map_append, List.append_assoc]
  rfl

theorem str_inj {L M : List Int} (hL : ∀ x ∈ L, 0 ≤ x ∧ x < 256) (hM : ∀ x ∈ M, 0 ≤ x ∧ x < 256) (h : strOfNums L = strOfNums M) : L = M := by
  have e : (strOfNums L).data.toList = (strOfNums M).data.toList := by rw [h]
  rw [strOfNums_data, strOfNums_data] at e
  induction L generalizing M with
  | nil => cases M with
    | nil => rfl
    | cons y M => simp at e
  | cons x L ih => cases M with
    | nil => simp at e
    | cons y M =>
      simp only [List.map_cons, List.cons.injEq] at e
      have hx := hL x (by simp)
      have hy := hM y (by simp)
      have e1 : x = y := by
        have := congrArg UInt8.toNat e.1
        simp at this
        omega
      rw [e1, ih (fun z hz => hL z (by simp [hz])) (fun z hz => hM z (by simp [hz])) (by unfold strOfNums; rw [e.2]) e.2]

set_option maxHeartbeats 4000000 in
theorem a_text (n : Int) (L : Nat) (hL : L ≤ 64) (w : World) :
    Calls Try.prog 11 #[.int .i64 n, .int .i64 (L : Int)] w fun e w' => e = .returned (.string (strOfNums (textL n L))) ∧ Below w.heap.size w w' := by
  have hmk := fun w => run_make_row' (P := Try.prog) 30 5 (.int .u8 0) 1 Try.underlying30 infoByte rfl .i64 .i64 L (by omega) (by omega) w
  have e : (madeCells #[Value.int .u8 0] L).toList = bV (List.replicate L 0) := by rw [toList_madeCells_one]; simp [bV]
  have O0 : Hid ((w.alloc (.cells (madeCells #[.int .u8 0] L) 5)).ownsRow 0 5 1 (.slice (some ⟨w.heap.size, 0, none⟩) L L) L (bV (textL n 0 ++ List.replicate (L - 0) 0))) :=
    hidd ⟨by simp [bV, textL], .inr ⟨w.heap.size, L, _, rfl, Nat.zero_le _, heap_alloc_new w _, Nat.le_refl _, by unfold maxLen; omega, by rw [size_madeCells]; omega, by rw [e, Nat.mul_one]; exact List.take_of_length_le (by simp [bV])⟩⟩
  have B0 := hidd (allocB w (.cells (madeCells #[.int .u8 0] L) 5))
  clear e
  go_enter Try.func11, Try.ntmps11
  go_wp2_with fail
  go_loopw [11] (fun v11 wr => ∃ i : Nat, i ≤ L ∧ v11 = .int .i64 (i : Int) ∧ Hid (wr.ownsRow 0 5 1 (.slice (some ⟨w.heap.size, 0, none⟩) L L) L (bV (textL n i ++ List.replicate (L - i) 0))) ∧ Hid (Below w.heap.size w wr)) (fun v11 _ => L - (intOf v11).toNat)
  case atStart => exact ⟨0, by omega, rfl, O0, B0⟩
  case round =>
    clear O0 B0
    obtain ⟨i, hi, rfl, O, B⟩ := hrel
    by_cases h1 : i < L
    · have h1' : (i : Int) < (L : Int) := by omega
      have hl : i < (textL n i ++ List.replicate (L - i) 0).length := by rw [List.length_append, textL_len, List.length_replicate]; omega
      have c0 := bytes_at O.out i hl
      have f0 := O.out.frozenAt i
      generalize (textL n i ++ List.replicate (L - i) 0)[i] = z at c0
      have hv : wrap64 (wrap64 (n + 7 * (i : Int)) + 1) % 256 = (n + 7 * (i : Int) + 1) % 256 := by
        unfold wrap64
        omega
      obtain ⟨x, hx⟩ : ∃ x, (n + 7 * (i : Int) + 1) % 256 = x := ⟨_, rfl⟩
      have ST := (O.out.stored i (.int .u8 x)).1
      rw [← hx, textL_set n h1, hx] at ST
      have ST := hidd ST
      rw [hx] at hv
      have B1 := hidd (B.out.setCell (p := ⟨w.heap.size, i, none⟩) (Nat.le_refl _) (.int .u8 x))
      clear O B hl hx
      go_wp2_with fail
      go_roundw
      case rel => exact ⟨i + 1, by omega, by go_num, ST, B1⟩
      case measure => simp [intOf]; omega
    · obtain rfl : i = L := by omega
      have h1' : decide ((i : Int) < (i : Int)) = false := by simp
      have O1 := O.out
      rw [Nat.sub_self, List.replicate_zero, List.append_nil] at O1
      have CV := str_of_row O1 0 i i (by omega)
      rw [List.drop_zero, List.take_of_length_le (by rw [textL_len]; omega)] at CV
      clear O O1
      go_wp2
      go_ret
      exact ⟨rfl, B.out⟩

end Go.Proofs.Ytinplpcobmbekaa
