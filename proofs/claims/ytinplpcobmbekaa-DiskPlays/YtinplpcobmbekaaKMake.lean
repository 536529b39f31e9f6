/-
  Package disk's New, Stop, Read; in whatever memory.
-/
import Derived.Test.YtinplpcobmbekaaRDiskN
import Derived.Test.YtinplpcobmbekaaKCode
import Derived.Laws.CopyOwn
import Derived.Below
import Derived.Test.YtinplpcobmbekaaProg
import Derived.Handy
import Derived.Deep.QuietTactic
import Derived.WalkSpells
import Derived.WalkLawsBesides
import Derived.BigQuiet
import Derived.PlainAid
import Derived.Deep.RegionWith
import Derived.Laws.BitsAllLaws
import Derived.OwnWalk
import Derived.Laws.OwnMore
import Derived.Deep.RegionHeld3
import Derived.WalkSmall
import Derived.Deep.CutRange
import Derived.BigRegion
import Derived.OneCell
import Derived.Sort.Row
import Derived.ChangeSlices
import Derived.OpenShut
import Derived.Deep.AppendLies
import Derived.Laws.BytesArg
import Derived.Laws.CopyRow
import Derived.Laws.IdiomCopy
import Derived.Deep.OwnRows
import Derived.Deep.RegionLaw
import Derived.Lib.MinMax
namespace Go.Proofs.Ytinplpcobmbekaa
open Go.RowKit

/-- A disk just made: three blocks side by side, in either order. -/
theorem new_kv {w w' : World} {n P a b : Nat} (hn : n ≤ 1000000) (ha : w'.heap[a]? = some (.cells (madeCells #[.int .u8 0] n) 5 (0, 0))) (hb : w'.heap[b]? = some (.cells (madeCells #[.int .u8 0] n) 5 (0, 0)))
    (hP : KB w' P (.slice (some ⟨a, 0, none⟩) n n) (.slice (some ⟨b, 0, none⟩) n n) (.slice none 0 0) 0 (-1)) (hab : a ≠ b) (h1 : a ≠ P) (h2 : b ≠ P) (l1 : w.heap.size ≤ a) (l2 : w.heap.size ≤ b) (l3 : w.heap.size ≤ P) (hB : Below w.heap.size w w') :
    TellsND (newD n) n w (.returned (.pointer (some ⟨P, 0, none⟩))) w' := by
  have e : (madeCells #[Value.int .u8 0] n).toList = bV (List.replicate n 0) := by rw [toList_madeCells_one]; simp [bV]
  have row : ∀ g, w'.heap[g]? = some (.cells (madeCells #[.int .u8 0] n) 5 (0, 0)) → w'.ownsRow 0 5 1 (.slice (some ⟨g, 0, none⟩) n n) n (bV (List.replicate n 0)) := fun g hg =>
    ⟨by simp [bV], .inr ⟨g, n, _, rfl, Nat.zero_le _, hg, Nat.le_refl _, by unfold maxLen; omega, by rw [size_madeCells]; omega, by rw [e, Nat.mul_one]; exact List.take_of_length_le (by simp [bV])⟩⟩
  have lt : ∀ {g : Nat} {o : Obj}, w'.heap[g]? = some o → g < w'.heap.size := fun h => (Array.getElem?_eq_some_iff.1 h).1
  have byt : ∀ x ∈ List.replicate n (0 : Int), 0 ≤ x ∧ x < 256 := fun x hx => by
    have := List.eq_of_mem_replicate hx
    omega
  refine ⟨P, fun k => k = P ∨ k = a ∨ k = b, rfl, ⟨_, _, _, [], -1, ⟨hP, row a ha, row b hb, World.ownsRow_nil _ _ _ _, fun x hx => by simp at hx, .inl rfl, fun z e => ?_, fun z e => ?_, fun z e => by simp [Value.ownBlock] at e, fun z hz => ?_, byt, byt, hn⟩, rfl, rfl, leftR_live, newD_ok n hn, by simp [newD]⟩, hB, fun z hz => ?_⟩
  · have : a = z := by simpa [Value.ownBlock] using e
    subst this
    exact ⟨.inr (.inl rfl), h1, by simpa [Value.ownBlock] using fun e => hab e.symm, by simp [Value.ownBlock]⟩
  · have : b = z := by simpa [Value.ownBlock] using e
    subst this
    exact ⟨.inr (.inr rfl), h2, by simp [Value.ownBlock]⟩
  · rcases hz with rfl | rfl | rfl
    · exact hP.lt
    · exact lt ha
    · exact lt hb
  · rcases hz with rfl | rfl | rfl <;> assumption

theorem new_two (w : World) {N : Nat} (hle : N ≤ 1000000) :
    TellsND (newD N) N w (.returned (.pointer (some ⟨w.heap.size + 1 + 1, 0, none⟩))) (((w.alloc (.cells (madeCells #[.int .u8 0] N) 5)).alloc (.cells (madeCells #[.int .u8 0] N) 5)).alloc (.cells #[.slice (some ⟨w.heap.size, 0, none⟩) N N, .slice (some ⟨w.heap.size + 1, 0, none⟩) N N, .slice none 0 0, .int .i64 0, .int .i64 (-1)] 59)).drew ∧
    TellsND (newD N) N w (.returned (.pointer (some ⟨w.heap.size + 1 + 1, 0, none⟩))) (((w.alloc (.cells (madeCells #[.int .u8 0] N) 5)).alloc (.cells (madeCells #[.int .u8 0] N) 5)).alloc (.cells #[.slice (some ⟨w.heap.size + 1, 0, none⟩) N N, .slice (some ⟨w.heap.size, 0, none⟩) N N, .slice none 0 0, .int .i64 0, .int .i64 (-1)] 59)).drew := by
  constructor
  · obtain ⟨e1, e2, e3, hb⟩ := three_new w (.cells (madeCells #[.int .u8 0] N) 5) (.cells (madeCells #[.int .u8 0] N) 5) (.cells #[.slice (some ⟨w.heap.size, 0, none⟩) N N, .slice (some ⟨w.heap.size + 1, 0, none⟩) N N, .slice none 0 0, .int .i64 0, .int .i64 (-1)] 59)
    exact new_kv hle e1 e2 e3 (by omega) (by omega) (by omega) (by omega) (by omega) (by omega) hb
  · obtain ⟨e1, e2, e3, hb⟩ := three_new w (.cells (madeCells #[.int .u8 0] N) 5) (.cells (madeCells #[.int .u8 0] N) 5) (.cells #[.slice (some ⟨w.heap.size + 1, 0, none⟩) N N, .slice (some ⟨w.heap.size, 0, none⟩) N N, .slice none 0 0, .int .i64 0, .int .i64 (-1)] 59)
    exact new_kv hle e2 e1 e3 (by omega) (by omega) (by omega) (by omega) (by omega) (by omega) hb

set_option maxRecDepth 100000 in
set_option maxHeartbeats 4000000 in
theorem c_new (w : World) (k : Int) (k1 : -9223372036854775808 ≤ k) (k2 : k ≤ 9223372036854775807) : Calls Try.prog 9 #[.int .i64 k] w fun e w' => TellsND (newD (clampN k)) (clampN k) w e w' := by
  obtain ⟨N, hN⟩ : ∃ N, clampN k = N := ⟨_, rfl⟩
  have hle := clamp_le k
  have hmm : min (max k 0) 1000000 = (N : Int) := by unfold clampN at hN; omega
  rw [hN] at hle ⊢
  have hmk := fun w => run_make_row' (P := Try.prog) 30 5 (.int .u8 0) 1 Try.underlying30 infoByte rfl .i64 .i64 N (by omega) (by omega) w
  clear hN
  go_enter Try.func9, Try.ntmps9
  go_wp2_with fail
  go_big_region
  all_goals
    go_wp2
    go_ret
    first
      | exact (new_two w hle).1
      | exact (new_two w hle).2

set_option maxHeartbeats 4000000 in
theorem c_stop {w : World} {P : Nat} {s : DS} {n : Nat} {F : Nat → Prop} (h : CD w P s n F) (m : Int) (m1 : -9223372036854775808 ≤ m) (m2 : m ≤ 9223372036854775807) : Calls Try.prog 13 #[.pointer (some ⟨P, 0, none⟩), .int .i64 m] w fun e w' => TellsCD P (s.stop m) n F (.tuple #[]) w e w' := by
  obtain ⟨vn, vl, vw, ws, l, k, e1, e2, hl, ho, hf⟩ := h
  have DD := hidd (k_dead k hl.1)
  have c4 := k.blk.cells.2.2.2.2
  have f4 := k.blk.frozen 4
  have HK := hidd k
  have HL := hidd hl
  have HR := hidd (And.intro e1 (And.intro e2 (And.intro (ho.stop m2) hf)))
  clear k hl e1 e2 ho hf
  cases hd : s.dead <;> rw [hd] at DD
  · have LR := hidd (leftR_stop (s := s) hd m1 m2)
    go_enter Try.func13, Try.ntmps13
    go_wp2_with fail
    refine DD.out.mono ?_
    rintro e w1 ⟨rfl, rfl⟩
    go_wp2
    go_end0
    exact ⟨rfl, F, ⟨vn, vl, vw, ws, m, HK.out.mark (HK.out.blk.set4 _) (set_far _ _ _ _) (set_size _ _ _), HR.out.1, HR.out.2.1, LR.out, HR.out.2.2⟩, Frm.set (p := ⟨P, 4, none⟩) HK.out.fp _, fun z hz => .inl hz⟩
  · have LR := hidd (leftR_stopped (k := m) HL.out hd)
    go_enter Try.func13, Try.ntmps13
    go_wp2_with fail
    refine DD.out.mono ?_
    rintro e w1 ⟨rfl, rfl⟩
    go_wp2
    go_end0
    exact ⟨rfl, F, ⟨vn, vl, vw, ws, l, HK.out, HR.out.1, HR.out.2.1, LR.out, HR.out.2.2⟩, Frm.refl _ _, fun z hz => .inl hz⟩

end Go.Proofs.Ytinplpcobmbekaa
