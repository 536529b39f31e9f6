/-
  How package cover's frontier is gone through, with what is put in meanwhile; in whatever memory.
-/
import Derived.Test.YtdklpgphmoaniaaGreatDoorHNext
import Derived.Test.YtdklpgphmoaniaaGreatDoorQRange
import Derived.Test.YtdklpgphmoaniaaGreatDoorProg
import Derived.Handy
import Derived.Deep.QuietTactic
import Derived.WalkSpells
import Derived.WalkLawsBesides
import Derived.BigQuiet
import Derived.PlainAid
import Derived.Deep.RegionWith
import Derived.Laws.BitsAllLaws
import Derived.Sort.LotA
import Derived.Sort.LotB
import Derived.Deep.RegionHeld3
import Derived.WalkSmall
import Derived.Deep.CutRange
import Derived.BigRegion
import Derived.OwnWalk
import Derived.Laws.OwnMore
import Derived.OneCell
import Derived.Laws.CopyOwn
import Derived.Sort.Row
import Derived.Sort.WalkB3
import Derived.Laws.StructEq
import Derived.Deep.AppendLies
import Derived.Deep.RegionLaw
import Derived.RangeFuncFrom
import Derived.RangeFuncCalls
import Derived.RangeFuncLeaves
import Derived.WalkKit
import Derived.OwnWalkIn
import Derived.TacticsInMore
import Derived.LoopNIn
import Derived.LoopIn
import Derived.RegionIn
import Derived.Stop.RegionWithIn
namespace Go.Proofs.YtdklpgphmoaniaaGreatDoor
open Go.RowKit Go
attribute [local go_sem] Oper.semAt_some

/-- What a spot hands on: its number of the lattice. -/
abbrev encQ (x : Int) : Array Value := #[.agg #[.int .i64 (sp1 x), .int .i64 (sp2 x)]]

def QHeap (base S : Nat) (v : Value) (H : List Int) (W : World) : Prop := HatQ W base S 7 v H ∧ Hp H.length H.toArray ∧ H.length ≤ 400000

def QNext (base S : Nat) (v : Value) (H : List Int) (x : Int) (A C : World) : Prop :=
  x ∈ H ∧ ∃ (L' : List Int) (v' : Value), (∀ y ∈ L', y ∈ H ∧ y < x) ∧ (∀ y ∈ H, y = x ∨ y ∈ L') ∧ L'.length + 1 ≤ H.length ∧ Hp L'.length L'.toArray ∧ HatQ C base S 7 v' L' ∧ v'.ownBlock = v.ownBlock ∧ ButQ S 7 v.ownBlock A C

theorem least_mu {σ : Type} (J : σ → World → Prop) (μ : σ → Nat) : ∃ m : World → Nat, ∀ W s, J s W → m W ≤ μ s ∧ ∃ s', J s' W ∧ μ s' = m W := by
  have key : ∀ W, ∃ k, ∀ s, J s W → k ≤ μ s ∧ ∃ s', J s' W ∧ μ s' = k := fun W => by
    by_cases h : ∃ s, J s W
    · have low : ∀ n, (∃ s, J s W ∧ μ s ≤ n) → ∃ k, (∀ s, J s W → k ≤ μ s) ∧ ∃ s', J s' W ∧ μ s' = k := by
        intro n
        induction n with
        | zero =>
          rintro ⟨s, hs, h0⟩
          exact ⟨0, fun _ _ => Nat.zero_le _, s, hs, by omega⟩
        | succ n ih =>
          rintro ⟨s, hs, h0⟩
          by_cases c : ∃ s, J s W ∧ μ s ≤ n
          · exact ih c
          · refine ⟨n + 1, fun t ht => ?_, s, hs, ?_⟩
            · by_cases k : μ t ≤ n
              · exact absurd ⟨t, ht, k⟩ c
              · omega
            · by_cases k : μ s ≤ n
              · exact absurd ⟨s, hs, k⟩ c
              · omega
      obtain ⟨s, hs⟩ := h
      obtain ⟨k, h1, h2⟩ := low (μ s) ⟨s, hs, Nat.le_refl _⟩
      exact ⟨k, fun t ht => ⟨h1 t ht, h2⟩⟩
    · exact ⟨0, fun s hs => absurd ⟨s, hs⟩ h⟩
  exact Classical.axiomOfChoice key

theorem spot_z (a b c : Int) (w : World) : (Instr.field 188 (.agg #[.int .i64 a, .int .i64 b, .int .i64 c]) 1).run Tryz.prog w = .ok (.agg #[.int .i64 b, .int .i64 c]) w := by kernel_rfl

set_option maxRecDepth 100000 in
set_option maxHeartbeats 8000000 in
theorem numbers_seq {σ : Type} (base S : Nat) (hd : σ → List Int) (val : σ → Value) (μ : σ → Nat) :
    SeqS Fence.wide 2 Tryz.prog 105 #[.pointer (some ⟨S, 7, none⟩)] #[] encQ (fun s W => QHeap base S (val s) (hd s) W) (fun s x A C => QNext base S (val s) (hd s) x A C) (fun s => hd s = []) μ := by
  intro l J Jx hQ hY s0 W hJ
  obtain ⟨m, hm⟩ := least_mu J μ
  have HM := hidd hm
  have HQ := hidd hQ
  have HY := hidd hY
  clear hm hQ hY
  refine callsIn_of_wp Tryz.func105 rfl trivial ?_ rfl
  simp only [Tryz.ntmps105, List.size_toArray, List.length_cons, List.length_nil, Nat.reduceAdd, Nat.reduceSub, Array.replicate_succ, Array.replicate_zero, List.push_toArray, List.append_toArray, List.nil_append, List.cons_append]
  gi_wp2
  gi_loopw [] (fun wr => ∃ s, Hid (J s wr)) (fun wr => m wr)
  case atStart => exact ⟨s0, hidd hJ⟩
  case round =>
    obtain ⟨s1, hs1⟩ := hrel
    obtain ⟨s, hJs, hμ⟩ := (HM.out _ _ hs1.out).2
    have hq := HQ.out _ _ hJs
    obtain ⟨hH, hp, hlen⟩ := hq
    obtain ⟨p, c, ev⟩ := hH.any
    have hc := hH.cell
    rw [ev] at hc
    have MU := hidd hμ
    have HJ := hidd hJs
    clear hs1 hJs hμ
    by_cases h0 : (hd s).length = 0
    · have hd0 : hd s = [] := List.length_eq_zero_iff.1 h0
      have HD := hidd hd0
      rw [h0] at hc
      clear hH hp hlen ev h0 hd0
      gi_wp2
      go_end0
      exact ⟨⟨_, rfl⟩, .inl ⟨s, HD.out, HJ.out⟩⟩
    · obtain ⟨k, hk⟩ : ∃ k, (hd s).length = k + 1 := ⟨(hd s).length - 1, by omega⟩
      have hk' : (0 : Int) < ((k + 1 : Nat) : Int) := by omega
      have hpk : Hp (k + 1) (hd s).toArray := by rw [← hk]; exact hp
      have NX := hidd (q_next base S 7 k (val s) (hd s) hk _ hH hpk (by omega))
      have HK := hidd hk
      rw [hk] at hc
      clear hH hp hlen ev h0 hk hpk
      gi_wp2_with (first
        | (refine ⟨trivial, ?_⟩
           gi_at_call 137
           refine (callsIn_wide.2 NX.out).mono ?_
           rintro e w2 ⟨x, L', v', rfl, hx, h1, h2, h3, h4, h5, h6, h7⟩
           have NN := hidd (show QNext base S (val s) (hd s) x _ w2 from ⟨hx, L', v', h1, h2, (by have := HK.out; omega), h4, h5, h6, h7⟩)
           clear hx h1 h2 h3 h4 h5 h6 h7 NX
           have FZ := spot_z (sp0 x) (sp1 x) (sp2 x) w2
           obtain ⟨fn, tmps, assign, body, hy, hRR⟩ := HY.out s x _ w2 HJ.out NN.out)
        | fail)
      refine hRR.mono ?_
      rintro e W' (⟨rfl, s', hlt, hJ'⟩ | ⟨rfl, hX⟩)
      · have M1 := (HM.out W' s' hJ').1
        have M2 : Hid (m W' < m wr) := hidd (by have := MU.out; omega)
        have HJ2 := hidd hJ'
        clear hJ' hlt MU NN hRR hy M1
        gi_wp2
        go_roundw
        case rel => exact ⟨s', HJ2⟩
        case measure => exact M2.out
      · have HX := hidd hX
        clear hX NN hRR hy
        gi_wp2
        refine bodyPost_ret (results_none rfl _ _ _) rfl ?_
        exact ⟨⟨_, rfl⟩, .inr HX.out⟩

end Go.Proofs.YtdklpgphmoaniaaGreatDoor
