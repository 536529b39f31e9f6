/-
  A spot is put into package cover's heap; in whatever memory.
-/
import Derived.Test.YtdklpgphmoaniaaGreatDoorHNext
import Derived.Test.YtdklpgphmoaniaaGreatDoorProg
import Derived.Handy
import Derived.Deep.QuietTactic
import Derived.WalkSpells
import Derived.WalkLawsBesides
import Derived.BigQuiet
import Derived.PlainAid
import Derived.Deep.RegionWith
import Derived.Laws.BitsAllLaws
import Derived.Sort.LotA
import Derived.Sort.LotB
import Derived.Deep.RegionHeld3
import Derived.WalkSmall
import Derived.Deep.CutRange
import Derived.BigRegion
import Derived.OwnWalk
import Derived.Laws.OwnMore
import Derived.OneCell
import Derived.Laws.CopyOwn
import Derived.Sort.Row
import Derived.Sort.WalkB3
import Derived.Laws.StructEq
import Derived.Deep.AppendLies
import Derived.Deep.RegionLaw
import Derived.RangeFuncFrom
import Derived.RangeFuncCalls
import Derived.RangeFuncLeaves
import Derived.WalkKit
import Derived.OwnWalkIn
import Derived.TacticsInMore
import Derived.LoopNIn
import Derived.LoopIn
import Derived.RegionIn
import Derived.Stop.RegionWithIn
namespace Go.Proofs.YtdklpgphmoaniaaGreatDoor
open Go.RowKit

theorem spot_lie (w : World) (B : Nat) (h : w.heap.size = B) (x y z : Int) (e : TypeId) : ∀ j u, ([.int .i64 x, .int .i64 y, .int .i64 z] : List Value)[j]? = some u → (w.alloc (.cells #[.int .i64 x, .int .i64 y, .int .i64 z] e)).cell? ((⟨B, 0, none⟩ : Addr).add j) = some u := by
  subst h
  intro j u hj
  match j, hj with
  | 0, hj => simp at hj; subst hj; simp [Addr.add]
  | 1, hj => simp at hj; subst hj; simp [Addr.add]
  | 2, hj => simp at hj; subst hj; simp [Addr.add]

theorem spot_one (x y z : Int) : ∀ u ∈ ([.int .i64 x, .int .i64 y, .int .i64 z] : List Value), u.oneCell' = true := by
  intro u hu
  simp at hu
  rcases hu with rfl | rfl | rfl <;> rfl

theorem infoSpot : (Tryz.prog.info? 188).map (fun i => (i.zero, i.size, i.bytes)) = some (some (.agg #[.int .i64 0, .int .i64 0, .int .i64 0]), 3, 24) := by kernel_rfl

theorem info_partsQ {i? : Option TypeInfo} {z : Value} {s b : Nat} (h : i?.map (fun i => (i.zero, i.size, i.bytes)) = some (some z, s, b)) : ∃ i, i? = some i ∧ i.zero = some z ∧ i.size = s ∧ i.bytes = b := by
  cases i? with
  | none => simp at h
  | some i => simp at h; exact ⟨i, rfl, h.1, h.2.1, h.2.2⟩

theorem far_keep {w w6 : World} {row : Option Nat} {p : Addr} {v : Value} (hg : w.grownBy w6 row) (hne : some p.block ≠ row) (h : w.cell? p = some v ∧ w.frozen? p = false) : w6.cell? p = some v ∧ w6.frozen? p = false :=
  ⟨hg.cell h.1 hne, by rw [World.frozen?_of_block (hg.block p.block (World.block_lt_of_cell? _ _ h.1) hne)]; exact h.2⟩

set_option maxHeartbeats 8000000 in
set_option maxRecDepth 100000 in
theorem q_push (base B o n c : Nat) (p : Option Addr) (L : List Int) (x : Int) (hn : L.length = n) (w : World) (h : HatQ w base B o (.slice p n c) L) (hbase : base ≤ w.heap.size) (hsz : n ≤ 200000) :
    Calls Tryz.prog 205 #[.pointer (some ⟨B, o, none⟩), .iface 188 (.agg #[.int .i64 (sp0 x), .int .i64 (sp1 x), .int .i64 (sp2 x)])] w fun e w' => e = .returned (.tuple #[]) ∧ ∃ g' c', HatQ w' base B o (.slice (some ⟨g', 0, none⟩) (n + 1) c') (L ++ [x]) ∧ ButQ B o (Value.slice p n c).ownBlock w w' ∧ ((Value.slice p n c).ownBlock = some g' ∨ w.heap.size ≤ g') := by
  have hB := h.cell
  have hF := h.frz
  have hlt := h.lt
  have hne := h.ne
  have hO := h.own
  rw [hn] at hO
  have HN := hidd hn
  have hA := fun w => as_spot (sp0 x) (sp1 x) (sp2 x) w
  have al := allocB w (.cells #[.int .i64 (sp0 x), .int .i64 (sp1 x), .int .i64 (sp2 x)] 188)
  have CS := hidd (And.intro (keepCell al hB) (keepFrozen al hB hF))
  have hOa := hidd (own_keep al hO)
  have AL := hidd al
  have hneQ : some (⟨B, o, none⟩ : Addr).block ≠ (Value.slice p n c).ownBlock := fun e => hne e.symm
  have HX := hidd (flat_one x)
  clear h hn hO al
  generalize sp0 x = s0 at *
  generalize sp1 x = s1 at *
  generalize sp2 x = s2 at *
  obtain ⟨i0, hi, hz0, hz1, hz2⟩ := info_partsQ infoSpot
  go_enter Tryz.func205, Tryz.ntmps205
  go_wp2_with fail
  go_region_law ((refine step_append_lies _ (by rfl) _ _ _ (by rfl) base 188 i0 (.agg #[.int .i64 0, .int .i64 0, .int .i64 0]) 3 24 Tryz.underlying152 hi hz0 hz1 hz2 rfl (by decide) _ n (flat L) (by rfl) hOa.out ⟨w.heap.size, 0, none⟩ 1 1 [.int .i64 s0, .int .i64 s1, .int .i64 s2] (by rfl) rfl (spot_lie w.drew w.heap.size rfl s0 s1 s2 188) (spot_one _ _ _) (by decide) (by unfold maxLen; omega) (by omega) (by simp; omega) (w.heap.size + 1) (by simp) ?_; intro g6 c6 w6 hown hgrow hat hlt6; obtain ⟨cs6, fs6⟩ := far_keep hgrow hneQ CS.out))
  all_goals
    have hg6 : B ≠ g6 ∧ ((Value.slice p n c).ownBlock = some g6 ∨ w.heap.size ≤ g6) := by
      rcases hat with h | h
      · exact ⟨fun e => hne (by rw [h, e]), .inl h⟩
      · exact ⟨by omega, .inr (by omega)⟩
    have hb6 : ButQ B o (Value.slice p n c).ownBlock w w6 := by
      have b1 : ButQ B o (Value.slice p n c).ownBlock w (w.alloc (.cells #[.int .i64 s0, .int .i64 s1, .int .i64 s2] 188)).drew := ButQ.of_below (belowT AL.out (drewB _)) hlt
      exact b1.trans (ButQ.grown hgrow (by simp; omega) hne) (.inl rfl)
    have FIN := hidd (And.intro hown (And.intro hg6 hb6))
    have CF := hidd (And.intro cs6 fs6)
    clear hown hgrow hat hg6 hb6
    go_wp2_with fail
    go_end0
    obtain ⟨ho, hg6, hb6⟩ := FIN.out
    have hl6 : (L ++ [x]).length = n + 1 := by simp [HN.out]
    have hv : flat (L ++ [x]) = flat L ++ [.int .i64 s0, .int .i64 s1, .int .i64 s2] := by rw [flat_app, HX.out]
    refine ⟨rfl, g6, c6, ⟨store_new CF.out.1, by rw [World.frozen?_setCell]; exact CF.out.2, fun e => hg6.1 (by simpa [Value.ownBlock, eq_comm] using e), ?_⟩, hb6.set _, hg6.2⟩
    rw [hl6, hv]
    exact (((ButQ.refl B o none _).set _).own ho (fun e => hg6.1 (by simpa [Value.ownBlock, eq_comm] using e)) (fun x e => by cases e))

set_option maxHeartbeats 8000000 in
set_option maxRecDepth 100000 in
theorem q_hpush (base B o n c : Nat) (p : Option Addr) (L : List Int) (x : Int) (hn : L.length = n) (w : World) (h : HatQ w base B o (.slice p n c) L) (hp : Hp n L.toArray) (hbase : base ≤ w.heap.size) (hsz : n ≤ 200000) :
    Calls Tryz.prog 136 #[.iface 186 (.pointer (some ⟨B, o, none⟩)), .iface 188 (.agg #[.int .i64 (sp0 x), .int .i64 (sp1 x), .int .i64 (sp2 x)])] w fun e w' => e = .returned (.tuple #[]) ∧ ∃ g' c' L', HatQ w' base B o (.slice (some ⟨g', 0, none⟩) (n + 1) c') L' ∧ L'.Perm (x :: L) ∧ Hp (n + 1) L'.toArray ∧ L'.length = n + 1 ∧ ButQ B o (Value.slice p n c).ownBlock w w' ∧ ((Value.slice p n c).ownBlock = some g' ∨ w.heap.size ≤ g') := by
  have hP := hidd (hp_push hp (by simp [hn]) x)
  have FP := hidd (q_push base B o n c p L x hn w h hbase hsz)
  have HN := hidd hn
  have mP := n_push B o w
  have hlt := h.lt
  clear h hp hn
  go_enter Tryz.func136, Tryz.ntmps136
  go_wp2_with fail
  refine FP.out.mono ?_
  rintro e w1 ⟨rfl, g1, c1, h1, hb1, hg1⟩
  have hl1 : (L ++ [x]).length = n + 1 := by simp [HN.out]
  have hB1 := h1.cell
  have mN := n_len B o w1 _ hB1
  have hsd : ((L ++ [x]).toArray).size = n + 1 := by simp [HN.out]
  have hne1 : B ≠ g1 := fun e => h1.ne (by rw [e]; rfl)
  have hR1 : RowS base g1 c1 (L ++ [x]).toArray w1 := by
    have := h1.own
    rw [hl1] at this
    unfold RowS
    rw [hsd]
    exact this
  have UP := hidd (n_up B o base g1 c1 (n + 1) n (L ++ [x]).toArray hsd w1 hB1 hne1 hR1 (by omega) (by omega))
  have H1 := hidd (And.intro h1 (And.intro hb1 hg1))
  have e1 : ((n + 1 : Nat) : Int) - 1 = (n : Int) := by omega
  clear FP mP h1 hb1 hg1 hR1
  go_wp2_with fail
  refine (q_len _ (n + 1) ⟨_, _, rfl⟩ _).mono ?_
  rintro e w2 ⟨rfl, rfl⟩
  go_wp2_with fail
  refine UP.out.mono ?_
  rintro e w3 ⟨rfl, h3, g3⟩
  have HS := hidd (And.intro h3 g3)
  clear UP h3 g3 mN
  go_wp2_with fail
  go_end0
  obtain ⟨h1, hb1, hg1⟩ := H1.out
  obtain ⟨h3, g3⟩ := HS.out
  have e2 : (L ++ [x]).toArray = L.toArray.push x := by simp
  have hp := hP.out
  rw [← e2] at hp
  refine ⟨rfl, g1, c1, (siftUp n (L ++ [x]).toArray).toList, ⟨g3.cell h1.cell (by simpa using hne1), by rw [World.frozen?_of_block (g3.block B h1.lt (by simpa using hne1))]; exact h1.frz, h1.ne, ?_⟩, by simpa using hp.2.1, by simpa using hp.1, by simpa using hp.2.2, hb1.trans (ButQ.grown g3 h1.lt (fun e => hne1 (Option.some.inj e).symm)) (hg1.imp (fun h => h.symm) fun h z hz => by rw [← Option.some.inj hz]; exact h), hg1⟩
  have h4 : RowS base g1 c1 (siftUp n (L ++ [x]).toArray) w3 := h3
  unfold RowS at h4
  rw [hp.2.2] at h4
  rw [show (siftUp n (L ++ [x]).toArray).toList.length = n + 1 by simpa using hp.2.2]
  exact h4

end Go.Proofs.YtdklpgphmoaniaaGreatDoor
