/-
  What New of the document's own disk makes, in whatever memory.
-/
import Derived.Test.YtinplpcobmbekaaBD
import Derived.Test.YtinplpcobmbekaaDskRel
import Derived.Laws.CopyOwn
import Derived.Below
import Derived.Test.YtinplpcobmbekaaProg
import Derived.Handy
import Derived.Deep.QuietTactic
import Derived.WalkSpells
import Derived.WalkLawsBesides
import Derived.BigQuiet
import Derived.PlainAid
import Derived.Deep.RegionWith
import Derived.Laws.BitsAllLaws
import Derived.OwnWalk
import Derived.Laws.OwnMore
import Derived.Deep.RegionHeld3
import Derived.WalkSmall
import Derived.Deep.CutRange
import Derived.BigRegion
import Derived.OneCell
import Derived.Sort.Row
import Derived.ChangeSlices
import Derived.OpenShut
import Derived.Deep.AppendLies
import Derived.Laws.BytesArg
import Derived.Laws.CopyRow
import Derived.Laws.IdiomCopy
import Derived.Deep.OwnRows
import Derived.Deep.RegionLaw
namespace Go.Proofs.Ytinplpcobmbekaa
open Go.RowKit

theorem three_new (w : World) (A B C : Obj) : (((w.alloc A).alloc B).alloc C).drew.heap[w.heap.size]? = some A ∧ (((w.alloc A).alloc B).alloc C).drew.heap[w.heap.size + 1]? = some B ∧ (((w.alloc A).alloc B).alloc C).drew.heap[w.heap.size + 1 + 1]? = some C ∧ Below w.heap.size w (((w.alloc A).alloc B).alloc C).drew := by
  refine ⟨?_, ?_, ?_, belowT (belowT (belowT (allocB _ _) (allocB _ _)) (allocB _ _)) (drewB _)⟩
  · show (((w.heap.push A).push B).push C)[w.heap.size]? = _
    rw [Array.getElem?_push, if_neg (by simp; omega), Array.getElem?_push, if_neg (by simp), Array.getElem?_push, if_pos rfl]
  · show (((w.heap.push A).push B).push C)[w.heap.size + 1]? = _
    rw [Array.getElem?_push, if_neg (by simp), Array.getElem?_push, if_pos (by simp)]
  · show (((w.heap.push A).push B).push C)[w.heap.size + 1 + 1]? = _
    rw [Array.getElem?_push, if_pos (by simp)]

theorem news_two (T W B : TypeId) (w : World) {N : Nat} (hle : N ≤ 1000000) :
    NewsD T W B (newD N) N w (.returned (.pointer (some ⟨w.heap.size + 1 + 1, 0, none⟩))) (((w.alloc (.cells (madeCells #[.int .u8 0] N) B)).alloc (.cells (madeCells #[.int .u8 0] N) B)).alloc (.cells #[.slice (some ⟨w.heap.size, 0, none⟩) N N, .slice (some ⟨w.heap.size + 1, 0, none⟩) N N, .slice none 0 0, .int .i64 (-1), .bool false] T)).drew ∧
    NewsD T W B (newD N) N w (.returned (.pointer (some ⟨w.heap.size + 1 + 1, 0, none⟩))) (((w.alloc (.cells (madeCells #[.int .u8 0] N) B)).alloc (.cells (madeCells #[.int .u8 0] N) B)).alloc (.cells #[.slice (some ⟨w.heap.size + 1, 0, none⟩) N N, .slice (some ⟨w.heap.size, 0, none⟩) N N, .slice none 0 0, .int .i64 (-1), .bool false] T)).drew := by
  constructor
  · obtain ⟨e1, e2, e3, hb⟩ := three_new w (.cells (madeCells #[.int .u8 0] N) B) (.cells (madeCells #[.int .u8 0] N) B) (.cells #[.slice (some ⟨w.heap.size, 0, none⟩) N N, .slice (some ⟨w.heap.size + 1, 0, none⟩) N N, .slice none 0 0, .int .i64 (-1), .bool false] T)
    have X := new_disk (T := T) (W := W) (w := w) hle e1 e2 e3 (by omega) (by omega) (by omega) (by omega) (by omega) (by omega)
    exact ⟨_, _, _, _, _, rfl, X.1, hb, X.2⟩
  · obtain ⟨e1, e2, e3, hb⟩ := three_new w (.cells (madeCells #[.int .u8 0] N) B) (.cells (madeCells #[.int .u8 0] N) B) (.cells #[.slice (some ⟨w.heap.size + 1, 0, none⟩) N N, .slice (some ⟨w.heap.size, 0, none⟩) N N, .slice none 0 0, .int .i64 (-1), .bool false] T)
    have X := new_disk (T := T) (W := W) (w := w) hle e2 e1 e3 (by omega) (by omega) (by omega) (by omega) (by omega) (by omega)
    exact ⟨_, _, _, _, _, rfl, X.1, hb, X.2⟩

set_option maxRecDepth 100000 in
set_option maxHeartbeats 4000000 in
theorem r_new (w : World) (k : Int) (k1 : -9223372036854775808 ≤ k) (k2 : k ≤ 9223372036854775807) :
    Calls Try.prog 20 #[.int .i64 k] w fun e w' => NewsD 48 74 5 (newD (clampN k)) (clampN k) w e w' := by
  obtain ⟨N, hN⟩ : ∃ N, clampN k = N := ⟨_, rfl⟩
  have hle := clamp_le k
  obtain ⟨K, hK⟩ : ∃ K : Int, (N : Int) = K := ⟨_, rfl⟩
  have hx : (k < 0 ∧ K = 0) ∨ (0 ≤ k ∧ k ≤ 1000000 ∧ K = k) ∨ (1000000 < k ∧ K = 1000000) := by unfold clampN at hN; omega
  rw [hN] at hle ⊢
  have hmk := fun w => run_make_row' (P := Try.prog) 30 5 (.int .u8 0) 1 Try.underlying30 infoByte rfl .i64 .i64 N (by omega) (by omega) w
  rw [hK] at hmk
  have HK := hidd hK
  clear hK hN
  rcases hx with ⟨h1, rfl⟩ | ⟨h1, h2, rfl⟩ | ⟨h1, rfl⟩
  all_goals
    go_enter Try.func20, Try.ntmps20
    go_wp2_with fail
    go_big_region
    all_goals
      go_wp2
      go_ret
      first
        | exact (news_two _ _ _ w hle).1
        | exact (news_two _ _ _ w hle).2

end Go.Proofs.Ytinplpcobmbekaa
