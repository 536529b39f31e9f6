/-
  As many Writes and Syncs are done as were let, and none more; behind a Crash a dead disk lives: for every number and every list, in whatever memory.
-/
import Derived.Test.YtinplpcobmbekaaDAwake
import Derived.Laws.CopyOwn
import Derived.Below
import Derived.Test.YtinplpcobmbekaaProg
import Derived.Handy
import Derived.Deep.QuietTactic
import Derived.WalkSpells
import Derived.WalkLawsBesides
import Derived.BigQuiet
import Derived.PlainAid
import Derived.Deep.RegionWith
import Derived.Laws.BitsAllLaws
import Derived.OwnWalk
import Derived.Laws.OwnMore
import Derived.Deep.RegionHeld3
import Derived.WalkSmall
import Derived.Deep.CutRange
import Derived.BigRegion
import Derived.OneCell
import Derived.Sort.Row
import Derived.ChangeSlices
import Derived.OpenShut
import Derived.Deep.AppendLies
import Derived.Laws.BytesArg
import Derived.Laws.CopyRow
import Derived.Laws.IdiomCopy
import Derived.Deep.OwnRows
import Derived.Deep.RegionLaw
namespace Go.Proofs.Ytinplpcobmbekaa
open Go.RowKit

set_option maxRecDepth 100000 in
set_option maxHeartbeats 8000000 in
theorem diskStops_walk (n : Int) (sX : Value) (X : List Int) (W : World) (_ : -9223372036854775808 ≤ n) (_ : n ≤ 9223372036854775807) (hX : LstK .i64 W sX X) (hx : ∀ x ∈ X, -9223372036854775808 ≤ x ∧ x ≤ 9223372036854775807) :
    Calls Try.prog 8 #[.int .i64 n, sX] W fun e w' => TellsQ (.bool true) W e w' := by
  have CN := hidd (c_new W 64 (by omega) (by omega))
  have AW := hidd fun w => awake12 w
  have hN : ∃ N : Nat, N ≤ 15 ∧ bits .and .i64 n 15 = (N : Int) := by
    have h := i64_mask n 4 (by omega)
    rw [show (((2 ^ 4 - 1 : Nat)) : Int) = 15 by decide, show (((2 ^ 4 : Nat)) : Int) = 16 by decide] at h
    exact ⟨(n % 16).toNat, by omega, by rw [h]; omega⟩
  obtain ⟨N, hN15, eN⟩ := hN
  obtain ⟨p, c, rfl, hc, hcell⟩ := hX
  obtain ⟨L, eL⟩ : ∃ L, X.length = L := ⟨_, rfl⟩
  have HC := hidd hcell
  have HX := hidd hx
  have EL := hidd eL
  rw [eL] at hc ⊢
  clear hcell hx eL
  go_enter Try.func8, Try.ntmps8
  go_wp2_with fail
  refine CN.out.mono ?_
  rintro e w1 ⟨P, F, rfl, D, b, f⟩
  have e64 : clampN 64 = 64 := rfl
  rw [e64] at D
  have D1 := LD.start D b f
  have C1 := hidd (c_stop D1.cd N (by omega) (by omega))
  have D1 := hidd D1
  clear CN D b f
  go_wp2_with fail
  refine C1.out.mono ?_
  rintro e w2 ⟨rfl, F2, d, f, k⟩
  have D2 := hidd (D1.out.step d f k)
  have S2 := hidd (stop_first 64 N)
  clear C1 D1 d f k
  go_wp2_with fail
  go_loopw [6] (fun v6 wr => ∃ (i : Nat) (s : DS) (G : Nat → Prop), i ≤ L ∧ i ≤ 30 ∧ v6 = .int .i64 (i : Int) ∧ Hid (LD W.heap.size W wr P s 64 G) ∧ Hid (StopAt N i s)) (fun v6 _ => 30 - (intOf v6).toNat)
  case atStart => exact ⟨0, _, F2, by omega, by omega, rfl, D2, S2⟩
  case round =>
    clear D2 S2
    obtain ⟨i, s, G, hi, hi30, rfl, D, S⟩ := hrel
    have hz : (i < L ∧ i < 30) ∨ ¬ i < L ∨ (i < L ∧ ¬ i < 30) := by omega
    rcases hz with ⟨h1, h2⟩ | h1 | ⟨h1, h2⟩
    · have hiX : i < X.length := by rw [EL.out]; exact h1
      obtain ⟨g, o, rfl, hcl⟩ := HC.out i hiX
      have hcl := D.out.bel.cell (World.block_lt_of_cell? _ _ hcl) |>.trans hcl
      obtain ⟨y1, y2⟩ := HX.out _ (List.getElem_mem hiX)
      generalize X[i] = y at *
      have h1' : (i : Int) < (L : Int) := by omega
      have h2' : (i : Int) < 30 := by omega
      have m1 := i64_mask y 1 (by omega)
      rw [show (((2 ^ 1 - 1 : Nat)) : Int) = 1 by decide, show (((2 ^ 1 : Nat)) : Int) = 2 by decide] at m1
      have T3 : ((N : Int) ≤ (i : Int) ∧ (N : Int) ≤ (i : Int) + 1 ∧ (if N ≤ i then (9 : Int) else 0) = 9 ∧ decide (N ≤ i + 1) = true) ∨ (¬ (N : Int) ≤ (i : Int) ∧ (N : Int) ≤ (i : Int) + 1 ∧ (if N ≤ i then (9 : Int) else 0) = 0 ∧ decide (N ≤ i + 1) = true) ∨ (¬ (N : Int) ≤ (i : Int) ∧ ¬ (N : Int) ≤ (i : Int) + 1 ∧ (if N ≤ i then (9 : Int) else 0) = 0 ∧ decide (N ≤ i + 1) = false) := by
        by_cases q1 : N ≤ i
        · exact .inl ⟨by omega, by omega, if_pos q1, decide_eq_true (by omega)⟩
        by_cases q2 : N ≤ i + 1
        · exact .inr (.inl ⟨by omega, by omega, if_neg q1, decide_eq_true q2⟩)
        · exact .inr (.inr ⟨by omega, by omega, if_neg q1, decide_eq_false q2⟩)
      rcases (show y % 2 = 1 ∨ y % 2 = 0 by omega) with ho | ho <;> rw [ho] at m1
      · obtain ⟨a, ea⟩ : ∃ a, bits .and .i64 (y / 2) 31 = a := ⟨_, rfl⟩
        have ha : 0 ≤ a ∧ a ≤ 31 := by
          have h := i64_mask (y / 2) 5 (by omega)
          rw [show (((2 ^ 5 - 1 : Nat)) : Int) = 31 by decide, show (((2 ^ 5 : Nat)) : Int) = 32 by decide] at h
          rw [← ea, h]
          omega
        obtain ⟨r1, r2⟩ := stop_wr S.out ha.1 ha.2 1
        have D0 := D.out.quiet (allocB wr (.cells #[.int .u8 1] 5))
        have C1 := hidd (c_write D0.cd a (by omega) (by omega) (.slice (some ⟨wr.heap.size, 0, none⟩) 1 1) [1] (by simp) (lst_litD wr [1] 1 5 (0, 0) #[]) (fun _ z e => by
          have : wr.heap.size = z := by simpa [Value.ownBlock] using e
          intro hf
          have := D.out.cd.lt z hf
          omega) (by simp) (by have := S.out.few; omega))
        rw [show ((([1] : List Int).length : Nat) : Int) = 1 from rfl, r1] at C1
        have D1 := hidd D0
        have S2 := hidd r2
        obtain ⟨s', es⟩ : ∃ s', wrS s 64 a [1] = s' := ⟨_, rfl⟩
        rw [es] at C1 S2
        clear D S r1 r2 es D0
        rcases T3 with ⟨hN1, hN2, hk, hb⟩ | ⟨hN1, hN2, hk, hb⟩ | ⟨hN1, hN2, hk, hb⟩ <;> rw [hk] at C1 <;> clear hk
        all_goals
          go_wp2_with fail
          refine C1.out.mono ?_
          rintro e w3 ⟨rfl, G', d, f, k⟩
          have D2 := hidd (D1.out.step d f k)
          clear C1 D1 d f k
          have hdd := S2.out.dead
          rw [hb] at hdd
          have CD2 := hidd (c_dead D2.out.cd)
          rw [hdd] at CD2
          have HDD := hidd hdd
          clear hdd hb
          go_wp2_with fail
          refine CD2.out.mono ?_
          rintro e w4 ⟨rfl, b4⟩
          have D3 := D2.out.quiet b4
          have hou := out_in (n := 64) (a := 0) (m := 1) (by omega) (by omega) (by omega)
          have CR := hidd (c_read D3.cd 0 1 (by omega) (by omega) (by omega) (by omega))
          first
            | rw [(rd_dead hou HDD.out).1] at CR
            | rw [(rd_ok hou HDD.out).1] at CR
          have D3 := hidd D3
          clear CD2 D2 b4 hou
          go_wp2_with fail
          refine CR.out.mono ?_
          rintro e w5 ⟨v, rfl, -, b5⟩
          have D4 := hidd (D3.out.quiet b5)
          clear CR D3 b5
          go_wp2_with fail
          go_roundw
          case rel => exact ⟨i + 1, s', G', by omega, by omega, by go_num, D4, S2⟩
          case measure => simp [intOf]; omega
      · obtain ⟨r1, r2⟩ := stop_sy S.out
        have C1 := hidd (c_sync D.out.cd)
        rw [r1] at C1
        have D1 := D
        have S2 := hidd r2
        obtain ⟨s', es⟩ : ∃ s', syS s = s' := ⟨_, rfl⟩
        rw [es] at C1 S2
        clear D S r1 r2 es
        rcases T3 with ⟨hN1, hN2, hk, hb⟩ | ⟨hN1, hN2, hk, hb⟩ | ⟨hN1, hN2, hk, hb⟩ <;> rw [hk] at C1 <;> clear hk
        all_goals
          go_wp2_with fail
          refine C1.out.mono ?_
          rintro e w3 ⟨rfl, G', d, f, k⟩
          have D2 := hidd (D1.out.step d f k)
          clear C1 D1 d f k
          have hdd := S2.out.dead
          rw [hb] at hdd
          have CD2 := hidd (c_dead D2.out.cd)
          rw [hdd] at CD2
          have HDD := hidd hdd
          clear hdd hb
          go_wp2_with fail
          refine CD2.out.mono ?_
          rintro e w4 ⟨rfl, b4⟩
          have D3 := D2.out.quiet b4
          have hou := out_in (n := 64) (a := 0) (m := 1) (by omega) (by omega) (by omega)
          have CR := hidd (c_read D3.cd 0 1 (by omega) (by omega) (by omega) (by omega))
          first
            | rw [(rd_dead hou HDD.out).1] at CR
            | rw [(rd_ok hou HDD.out).1] at CR
          have D3 := hidd D3
          clear CD2 D2 b4 hou
          go_wp2_with fail
          refine CR.out.mono ?_
          rintro e w5 ⟨v, rfl, -, b5⟩
          have D4 := hidd (D3.out.quiet b5)
          clear CR D3 b5
          go_wp2_with fail
          go_roundw
          case rel => exact ⟨i + 1, s', G', by omega, by omega, by go_num, D4, S2⟩
          case measure => simp [intOf]; omega
    all_goals
      have C1 := hidd (c_crash D.out.cd 9 (by omega) (by omega))
      have D1 := D
      clear D S
      go_wp2_with fail
      refine C1.out.mono ?_
      rintro e w3 ⟨rfl, G2, d, f, k⟩
      have D2 := D1.out.step d f k
      have C2 := hidd (c_dead D2.cd)
      rw [show (s.crash 9).dead = false from rfl] at C2
      have D2 := hidd D2
      clear C1 D1 d f k
      go_wp2_with fail
      refine C2.out.mono ?_
      rintro e w4 ⟨rfl, b4⟩
      have D3 := D2.out.quiet b4
      have C3 := hidd (c_sync D3.cd)
      rw [show syK (s.crash 9) = 0 from rfl] at C3
      have D3 := hidd D3
      clear C2 D2 b4
      go_wp2_with fail
      refine C3.out.mono ?_
      rintro e w5 ⟨rfl, G3, d, f, k⟩
      have D4 := hidd (D3.out.step d f k)
      clear C3 D3 d f k
      go_wp2_with fail
      refine (AW.out _).mono ?_
      rintro e w6 ⟨rfl, b6⟩
      have D5 := hidd (D4.out.quiet b6)
      clear D4 b6
      go_wp2
      go_ret
      exact ⟨rfl, D5.out.bel⟩

end Go.Proofs.Ytinplpcobmbekaa
