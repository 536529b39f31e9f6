/-
  The law CellsHas: it returns true for any two lists and words, in whatever memory.
-/
import Derived.Test.YtogkfmoediiieaaUAwake
import Derived.Laws.BitsAllLaws
import Derived.Handy
import Derived.Deep.QuietTactic
import Derived.Test.YtogkfmoediiieaaProg
import Derived.WalkSpells
import Derived.WalkLawsBesides
import Derived.BigQuiet
import Derived.PlainAid
import Derived.Deep.RegionWith
import Derived.Deep.RegionHeld3
import Derived.WalkSmall
import Derived.Deep.CutRange
import Derived.BigRegion
import Derived.OwnWalk
import Derived.Laws.OwnMore
import Derived.OneCell
import Derived.Laws.CopyOwn
import Derived.Sort.Row
import Derived.Deep.Cut
import Derived.Sort.LotD3
import Derived.Deep.LoopGhost
import Derived.Sort.WalkA6
import Derived.Sort.Walk13a
import Derived.Sort.LotA
import Derived.Sort.LotB
import Derived.Sort.LotD1
import Derived.Deep.Draws
import Derived.WalkKit
import Derived.BigGuard
import Derived.BigCall
import Derived.CellFam
import Derived.Sort.WalkB3
import Derived.Sort.WalkB12
import Derived.RangeFuncFrom
import Derived.RangeFuncCalls
import Derived.RangeFuncLeaves
import Derived.OwnWalkIn
import Derived.TacticsInMore
import Derived.LoopNIn
import Derived.LoopIn
import Derived.RegionIn
import Derived.Stop.RegionWithIn
import Derived.Deep.OwnRows
import Derived.Deep.RegionLaw
namespace Go.Proofs.Ytogkfmoediiieaa
open Go.RowKit

theorem tells_ok {K : List Int} {e : Ending} {w : World} (h : TellsChosen K e w) (hn : K.length ≤ 20000) : ∃ v, e = .returned (.tuple #[v, .int .i64 0]) ∧ Lst w v K := by
  rcases h with ⟨-, v, h1, h2⟩ | ⟨h1, -⟩
  · exact ⟨v, h1, h2⟩
  · omega

theorem has_or {A B K : List Int} (h : Chosen (fun a b => a || b) A B K) (x : Int) : decide (x ∈ K) = (decide (x ∈ A) || decide (x ∈ B)) := by
  have h2 := h.2 x
  by_cases h1 : x ∈ A <;> by_cases h3 : x ∈ B <;> simp [h1, h3] at h2 ⊢ <;> exact h2

theorem has_and {A B K : List Int} (h : Chosen (fun a b => a && b) A B K) (x : Int) : decide (x ∈ K) = (decide (x ∈ A) && decide (x ∈ B)) := by
  have h2 := h.2 x
  by_cases h1 : x ∈ A <;> by_cases h3 : x ∈ B <;> simp [h1, h3] at h2 ⊢ <;> exact h2

theorem has_not {A B K : List Int} (h : Chosen (fun a b => a && !b) A B K) (x : Int) : decide (x ∈ K) = (decide (x ∈ A) && !decide (x ∈ B)) := by
  have h2 := h.2 x
  by_cases h1 : x ∈ A <;> by_cases h3 : x ∈ B <;> simp [h1, h3] at h2 ⊢ <;> exact h2

/-- Two rising lists together are no longer than both. -/
theorem chosen_len {k : Bool → Bool → Bool} {A B K : List Int} (h : Chosen k A B K) : K.length ≤ A.length + B.length := by
  have h1 : K.Nodup := rising_nodup h.1
  have h2 : K ⊆ A ++ B := fun x hx => List.mem_append.2 ((h.2 x).1 hx).2
  have := List.Nodup.length_le_of_subset h1 h2
  simpa using this

set_option maxHeartbeats 8000000 in
set_option maxRecDepth 20000 in
theorem cellsHas_walk (sA : Value) (A : List Int) (sB : Value) (B : List Int) (x0 a0 : Int) (w : World) (hA : Lst w sA A) (uA : ∀ x ∈ A, U64 x) (hB : Lst w sB B) (uB : ∀ x ∈ B, U64 x) (_ : 0 ≤ x0) (_ : x0 < 18446744073709551616) (_ : -9223372036854775808 ≤ a0) (_ : a0 ≤ 9223372036854775807) :
    Calls Try.prog 4 #[sA, sB, .int .u64 x0, .int .i64 a0] w fun e w' => e = .returned (.bool true) ∧ Below w.heap.size w w' := by
  have AW := hidd fun w2 => cawake w2
  have hlA := hidd hA
  have hlB := hidd hB
  obtain ⟨pA, cA, rfl⟩ := hA.len
  obtain ⟨pB, cB, rfl⟩ := hB.len
  obtain ⟨nA, enA⟩ : ∃ n, A.length = n := ⟨_, rfl⟩
  obtain ⟨nB, enB⟩ : ∃ n, B.length = n := ⟨_, rfl⟩
  rw [enA] at hlA ⊢
  rw [enB] at hlB ⊢
  clear hA hB
  by_cases h1 : 100 < nA
  · have h1' : decide (100 < nA) = true := decide_eq_true h1
    go_enter Try.func4, Try.ntmps4
    go_wp2_with fail
    refine (AW.out _).mono ?_
    rintro e w1 ⟨rfl, b1⟩
    go_wp2
    go_ret
    exact ⟨rfl, b1⟩
  · have h1' : decide (100 < nA) = false := decide_eq_false h1
    by_cases h2 : 100 < nB
    · have h2' : decide (100 < nB) = true := decide_eq_true h2
      go_enter Try.func4, Try.ntmps4
      go_wp2_with fail
      refine (AW.out _).mono ?_
      rintro e w1 ⟨rfl, b1⟩
      go_wp2
      go_ret
      exact ⟨rfl, b1⟩
    · have h2' : decide (100 < nB) = false := decide_eq_false h2
      have UN := hidd fun w2 (hb : Below w.heap.size w w2) => cunion _ _ A B (by omega) (by omega) uA uB w2 (hlA.out.keep hb) (hlB.out.keep hb)
      have ME := hidd fun w2 (hb : Below w.heap.size w w2) => cmeet _ _ A B (by omega) (by omega) uA uB w2 (hlA.out.keep hb) (hlB.out.keep hb)
      have MI := hidd fun w2 (hb : Below w.heap.size w w2) => cminus _ _ A B (by omega) (by omega) uA uB w2 (hlA.out.keep hb) (hlB.out.keep hb)
      have EA := hidd enA
      have EB := hidd enB
      have UA := hidd uA
      clear uA uB enA enB
      go_enter Try.func4, Try.ntmps4
      go_wp2_with fail
      refine (UN.out _ (Below.refl _ _)).mono ?_
      rintro e w1 ⟨⟨K1, C1, T1⟩, b1⟩
      have n1 := chosen_len C1
      rw [EA.out, EB.out] at n1
      obtain ⟨v1, rfl, L1⟩ := tells_ok T1 (by omega)
      have D1 := hidd C1
      clear T1 C1 UN
      go_wp2_with fail
      refine (ME.out _ b1).mono ?_
      rintro e w2 ⟨⟨K2, C2, T2⟩, b2⟩
      have n2 := chosen_len C2
      rw [EA.out, EB.out] at n2
      obtain ⟨v2, rfl, L2⟩ := tells_ok T2 (by omega)
      have D2 := hidd C2
      replace L1 := L1.keep b2
      have B2 := belowT b1 b2
      clear T2 C2 ME b1 b2
      go_wp2_with fail
      refine (MI.out _ B2).mono ?_
      rintro e w3 ⟨⟨K3, C3, T3⟩, b3⟩
      have n3 := chosen_len C3
      rw [EA.out, EB.out] at n3
      obtain ⟨v3, rfl, L3⟩ := tells_ok T3 (by omega)
      have D3 := hidd C3
      replace L1 := hidd (L1.keep b3)
      replace L2 := hidd (L2.keep b3)
      replace L3 := hidd L3
      have B3 := belowT B2 b3
      have LA := hidd (hlA.out.keep B3)
      have LB := hidd (hlB.out.keep B3)
      clear T3 C3 MI B2 b3
      go_wp2_with fail
      go_loopw [2, 15] (fun v2' v15 wr => ∃ (x : Int) (i : Nat), i ≤ 2 ∧ v2' = .int .u64 x ∧ v15 = .int .i64 (i : Int) ∧ wr = w3) (fun _ v15 _ => 2 - (intOf v15).toNat)
      case atStart => exact ⟨x0, 0, by omega, rfl, rfl, rfl⟩
      case round =>
        obtain ⟨x, i, hi, rfl, rfl, rfl⟩ := hrel
        by_cases hlt : i < 2
        · have HA := hidd (chas _ A x (by rw [EA.out]; omega) wr LA.out)
          have HB := hidd (chas _ B x (by rw [EB.out]; omega) wr LB.out)
          have H1 := hidd (chas _ K1 x (by omega) wr L1.out)
          have H2 := hidd (chas _ K2 x (by omega) wr L2.out)
          have H3 := hidd (chas _ K3 x (by omega) wr L3.out)
          rw [has_or D1.out x] at H1
          rw [has_and D2.out x] at H2
          rw [has_not D3.out x] at H3
          generalize decide (x ∈ A) = p at *
          generalize decide (x ∈ B) = q at *
          -- the word that is asked next
          have hnext : decide (0 < nA) = false ∨ (0 < nA ∧ ∃ (g o j : Nat) (y : Int), pA = some ⟨g, o, none⟩ ∧ j < nA ∧ (bits .and .i64 a0 65535).tmod (nA : Int) = (j : Int) ∧ wr.cell? ⟨g, o + j, none⟩ = some (.int .u64 y)) := by
            by_cases h0 : nA = 0
            · exact .inl (decide_eq_false (by omega))
            · refine .inr ⟨by omega, ?_⟩
              have hb : 0 ≤ bits .and .i64 a0 65535 := by rw [mask16]; omega
              obtain ⟨j, hj⟩ := Int.eq_ofNat_of_zero_le (show 0 ≤ (bits .and .i64 a0 65535).tmod (nA : Int) from Int.tmod_nonneg _ hb)
              have hjl : j < nA := by
                have : (bits .and .i64 a0 65535).tmod (nA : Int) < (nA : Int) := Int.tmod_lt_of_pos _ (by omega)
                omega
              obtain ⟨p', c', e', -, hc'⟩ := LA.out
              simp only [Value.slice.injEq] at e'
              obtain ⟨rfl, -, -⟩ := e'
              obtain ⟨g, o, rfl, hcj⟩ := hc' j (by rw [EA.out]; exact hjl)
              exact ⟨g, o, j, _, rfl, hjl, hj, hcj⟩
          replace hnext := hidd hnext
          clear D1 D2 D3
          cases p <;> cases q
          all_goals
            go_wp2_with fail
            refine HA.out.mono ?_
            rintro e w5 ⟨rfl, rfl⟩
            go_wp2_with fail
            refine HB.out.mono ?_
            rintro e w6 ⟨rfl, rfl⟩
            go_wp2_with fail
            refine H1.out.mono ?_
            rintro e w7 ⟨rfl, rfl⟩
            go_wp2_with fail
            refine H2.out.mono ?_
            rintro e w8 ⟨rfl, rfl⟩
            go_wp2_with fail
            refine H3.out.mono ?_
            rintro e w9 ⟨rfl, rfl⟩
            clear HA HB H1 H2 H3
            rcases hnext.out with h0 | ⟨h0, g, o, j, y, rfl, hj, ej, cj⟩
            · go_wp2_with fail
              go_roundw
              case rel => exact ⟨x, i + 1, by omega, rfl, by go_num, by trivial⟩
              case measure => simp [intOf]; omega
            · have h0' : decide (0 < nA) = true := decide_eq_true h0
              have h0n : ¬ nA = 0 := by omega
              go_wp2_with fail
              go_roundw
              case rel => exact ⟨y, i + 1, by omega, rfl, by go_num, by trivial⟩
              case measure => simp [intOf]; omega
        · obtain rfl : i = 2 := by omega
          go_wp2_with fail
          refine (AW.out _).mono ?_
          rintro e w4 ⟨rfl, b4⟩
          go_wp2
          go_ret
          exact ⟨rfl, belowT B3 b4⟩

end Go.Proofs.Ytogkfmoediiieaa
