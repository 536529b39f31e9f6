/-
  Package disk's Crash; in whatever memory where the disk lies.
-/
import Derived.Test.YtinplpcobmbekaaKSync
import Derived.Laws.CopyOwn
import Derived.Below
import Derived.Test.YtinplpcobmbekaaProg
import Derived.Handy
import Derived.Deep.QuietTactic
import Derived.WalkSpells
import Derived.WalkLawsBesides
import Derived.BigQuiet
import Derived.PlainAid
import Derived.Deep.RegionWith
import Derived.Laws.BitsAllLaws
import Derived.OwnWalk
import Derived.Laws.OwnMore
import Derived.Deep.RegionHeld3
import Derived.WalkSmall
import Derived.Deep.CutRange
import Derived.BigRegion
import Derived.OneCell
import Derived.Sort.Row
import Derived.ChangeSlices
import Derived.OpenShut
import Derived.Deep.AppendLies
import Derived.Laws.BytesArg
import Derived.Laws.CopyRow
import Derived.Laws.IdiomCopy
import Derived.Deep.OwnRows
import Derived.Deep.RegionLaw
namespace Go.Proofs.Ytinplpcobmbekaa
open Go.RowKit

set_option maxHeartbeats 4000000 in
theorem c_crash {w : World} {P : Nat} {s : DS} {n : Nat} {F : Nat → Prop} (h : CD w P s n F) (k : Int) (k1 : -9223372036854775808 ≤ k) (k2 : k ≤ 9223372036854775807) : Calls Try.prog 14 #[.pointer (some ⟨P, 0, none⟩), .int .i64 k] w fun e w' => TellsCD P (s.crash k) n F (.tuple #[]) w e w' := by
  obtain ⟨vn, vl, vw, ws, l, kv, hfl, heq, hlr, hok, hfew⟩ := h
  have hws : ws.length ≤ 4000000000 := by have := kv.few; rw [← hfl] at this; omega
  obtain ⟨T, hT⟩ : ∃ T : Nat, k.toNat = T := ⟨_, rfl⟩
  have hmx : max k 0 = (T : Int) := by omega
  have hT2 : T ≤ 9223372036854775807 := by omega
  have al := allocB w (.cells #[.pointer (some ⟨P, 0, none⟩), .int .i64 (T : Int)] 67)
  have kv1 := kv.below al
  have kp1 : KP (w.alloc (.cells #[.pointer (some ⟨P, 0, none⟩), .int .i64 (T : Int)] 67)) w.heap.size P T := ⟨by go_simp, by go_simp, by go_simp⟩
  have hKF : ¬ F w.heap.size := fun e => by have := kv.lt _ e; omega
  have EA := hidd (k_all_keep kv1 kp1 hKF hT2 hws)
  have EU := hidd fun (w2 : World) (M : List Int) (q : KV w2 P s.now M ws (s.waits.length : Int) l n F vn vl vw) => k_all_undo q hws
  have UA := hidd (undo_all (M0 := s.last) (ws := ws) (by rw [kv.llen]; exact kv.room) T)
  rw [← hfl, ← heq] at UA
  have hcr : s.crash k = ⟨puts s.last (s.waits.take T), puts s.last (s.waits.take T), [], -1, false⟩ := by unfold DS.crash; rw [hT]
  have HC := hidd hcr
  have OKC := hidd (hok.crash k)
  rw [← hfl] at EA
  have AL := hidd al
  clear kv1 kp1 al hfl heq hlr hok hfew hT hcr kv
  go_enter Try.func14, Try.ntmps14
  go_wp2_with fail
  refine EA.out.mono ?_
  rintro e w2 ⟨rfl, q2, f2⟩
  have Q2 := hidd (EU.out _ _ q2)
  have F2 := hidd ((Frm.of_below (F := F) AL.out).trans f2 fun z hz => hz.imp id fun e => by omega)
  clear q2 f2 EA EU
  go_wp2_with fail
  refine Q2.out.mono ?_
  rintro e w3 ⟨rfl, q3, f3⟩
  rw [UA.out] at q3
  obtain ⟨-, -, c2, c3, c4⟩ := q3.blk.cells
  have r2 := q3.blk.frozen 2
  have r3 := q3.blk.frozen 3
  have r4 := q3.blk.frozen 4
  have K3 := hidd (q3.empty (((q3.blk.set2 (.slice none 0 0)).set3 0).set4 (-1)) (fun z hz => ((set_far _ _ _ _ z hz).trans (set_far _ _ _ _ z hz)).trans (set_far _ _ _ _ z hz)) (Nat.le_trans (Nat.le_trans (set_size _ _ _) (set_size _ _ _)) (set_size _ _ _)))
  have F3 := hidd ((((F2.out.trans f3 fun z hz => .inl hz).trans (Frm.set (F := F) (p := ⟨P, 2, none⟩) q3.fp (.slice none 0 0)) fun z hz => .inl hz).trans (Frm.set (F := F) (p := ⟨P, 3, none⟩) q3.fp (.int .i64 0)) fun z hz => .inl hz).trans (Frm.set (F := F) (p := ⟨P, 4, none⟩) q3.fp (.int .i64 (-1))) fun z hz => .inl hz)
  clear q3 f3 F2 Q2 UA
  go_wp2
  go_end0
  refine ⟨rfl, F, ⟨vn, vl, .slice none 0 0, [], -1, ?_, ?_, ?_, ?_, OKC.out, ?_⟩, F3.out, fun z hz => .inl hz⟩
  · rw [HC.out]
    exact K3.out
  · rw [HC.out]
    rfl
  · rw [HC.out]
    rfl
  · rw [HC.out]
    exact leftR_live
  · rw [HC.out]
    simp

end Go.Proofs.Ytinplpcobmbekaa
