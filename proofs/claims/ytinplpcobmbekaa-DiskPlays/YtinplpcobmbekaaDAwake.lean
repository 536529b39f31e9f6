/-
  What layer 12's statements ask besides holds of package disk, in whatever memory.
-/
import Derived.Test.YtinplpcobmbekaaDText
import Derived.Test.YtinplpcobmbekaaKMake
import Derived.Test.YtinplpcobmbekaaKCrash
import Derived.Laws.CopyOwn
import Derived.Below
import Derived.Test.YtinplpcobmbekaaProg
import Derived.Handy
import Derived.Deep.QuietTactic
import Derived.WalkSpells
import Derived.WalkLawsBesides
import Derived.BigQuiet
import Derived.PlainAid
import Derived.Deep.RegionWith
import Derived.Laws.BitsAllLaws
import Derived.OwnWalk
import Derived.Laws.OwnMore
import Derived.Deep.RegionHeld3
import Derived.WalkSmall
import Derived.Deep.CutRange
import Derived.BigRegion
import Derived.OneCell
import Derived.Sort.Row
import Derived.ChangeSlices
import Derived.OpenShut
import Derived.Deep.AppendLies
import Derived.Laws.BytesArg
import Derived.Laws.CopyRow
import Derived.Laws.IdiomCopy
import Derived.Deep.OwnRows
import Derived.Deep.RegionLaw
namespace Go.Proofs.Ytinplpcobmbekaa
open Go.RowKit

set_option maxRecDepth 100000 in
set_option maxHeartbeats 4000000 in
theorem awake12 (w : World) : Calls Try.prog 19 #[] w fun e w' => TellsQ (.bool true) w e w' := by
  have CN := hidd (c_new w 4 (by omega) (by omega))
  go_enter Try.func19, Try.ntmps19
  go_wp2_with fail
  refine CN.out.mono ?_
  rintro e w1 ⟨P, F, rfl, D, b, f⟩
  have D1 := hidd (LD.start D b f)
  clear CN D b f
  have e4 : clampN 4 = 4 := rfl
  rw [e4] at D1
  have CV : (convert 30 30 (.slice (some ⟨w1.heap.size, 0, none⟩) 2 2)).run Try.prog (w1.alloc (.cells #[.int .u8 97, .int .u8 98] 5)) = .ok (.slice (some ⟨w1.heap.size, 0, none⟩) 2 2) (w1.alloc (.cells #[.int .u8 97, .int .u8 98] 5 (2, 3))) := conv_mark w1 #[.int .u8 97, .int .u8 98] 5 2 2
  have LB := lst_litD w1 [97, 98] 2 5 (2, 3) #[]
  have D2 := D1.out.quiet (allocB w1 (.cells #[.int .u8 97, .int .u8 98] 5 (2, 3)))
  have C2 := hidd (c_write D2.cd 0 (by omega) (by omega) (.slice (some ⟨w1.heap.size, 0, none⟩) 2 2) [97, 98] (by simp) LB (fun _ z e => by
    have : w1.heap.size = z := by simpa [Value.ownBlock] using e
    intro hf
    have := D1.out.cd.lt z hf
    omega) (by simp) (by simp [newD]))
  have D2 := hidd D2
  clear D1 LB
  go_wp2_with fail
  refine C2.out.mono ?_
  rintro e w2 ⟨rfl, F2, d, f, k⟩
  have D3 := D2.out.step d f k
  have C3 := hidd (c_crash D3.cd 1 (by omega) (by omega))
  have D3 := hidd D3
  clear C2 D2 d f k CV
  go_wp2_with fail
  refine C3.out.mono ?_
  rintro e w3 ⟨rfl, F3, d, f, k⟩
  have D4 := D3.out.step d f k
  have C4 := hidd (c_read D4.cd 0 2 (by omega) (by omega) (by omega) (by omega))
  have D4 := hidd D4
  clear C3 D3 d f k
  go_wp2_with fail
  refine C4.out.mono ?_
  rintro e w4 ⟨v, rfl, o, b⟩
  have D5 := hidd (D4.out.quiet b)
  have O := hidd o
  clear C4 D4 o b
  have e5 : rdL ((wrS (newD 4) 4 0 [97, 98]).crash 1) 4 0 2 = [97, 0] := by decide
  have e6 : rdK ((wrS (newD 4) 4 0 [97, 98]).crash 1) 4 0 2 = 0 := by decide
  have e7 : rdK (newD 4) 4 0 2 = 0 := by decide
  have e8 : ((wrS (newD 4) 4 0 [97, 98]).crash 1).waits.length = 0 := by decide
  rw [e5] at O
  have CV2 : (convert 30 9 v).run Try.prog w4 = .ok (.string ⟨#[97, 0]⟩) w4 := str_of_own O.out
  have C6 := hidd (c_size D5.out.cd)
  clear e5
  go_wp2_with fail
  refine C6.out.mono ?_
  rintro e w5 ⟨rfl, b⟩
  have D6 := D5.out.quiet b
  have C7 := hidd (c_waits D6.cd)
  rw [e8] at C7
  have D6 := hidd D6
  clear C6 D5 b O CV2
  go_wp2_with fail
  refine C7.out.mono ?_
  rintro e w6 ⟨rfl, b⟩
  have D7 := hidd (D6.out.quiet b)
  clear C7 D6 b
  go_wp2
  go_ret
  exact ⟨rfl, D7.out.bel⟩

end Go.Proofs.Ytinplpcobmbekaa
