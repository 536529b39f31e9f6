/-
  The rings that the laws of package poly make of numbers: what Tame tells of any list of numbers; in whatever memory.
-/
import Derived.Test.YtmfpkphhjfgjbabOD
import Derived.Test.YtmfpkphhjfgjbabPRings
import Derived.Test.YtmfpkphhjfgjbabVRowsD
import Derived.Laws.BitsAllLaws
import Derived.Handy
import Derived.Deep.QuietTactic
import Derived.Test.YtmfpkphhjfgjbabProg
import Derived.WalkSpells
import Derived.WalkLawsBesides
import Derived.BigQuiet
import Derived.PlainAid
import Derived.Deep.RegionWith
import Derived.Deep.RegionHeld3
import Derived.WalkSmall
import Derived.Deep.CutRange
import Derived.BigRegion
import Derived.OwnWalk
import Derived.Laws.OwnMore
import Derived.OneCell
import Derived.Laws.CopyOwn
import Derived.Sort.Row
import Derived.ChangeSlices
import Derived.OpenShut
import Derived.Laws.AppendOwn
import Derived.Laws.AppendOwnNone
import Derived.BigFrame
import Derived.Deep.AppendLies
import Derived.Deep.RegionLaw
namespace Go.Proofs.Ytmfpkphhjfgjbab
open Go.RowKit

/-- The cells of a list of corners. -/
def flat : List (Int × Int) → List Value
  | [] => []
  | p :: L => .int .i64 p.1 :: .int .i64 p.2 :: flat L

theorem flat_snoc (a b : Int) : ∀ L : List (Int × Int), flat (L ++ [(a, b)]) = flat L ++ [.int .i64 a, .int .i64 b]
  | [] => rfl
  | p :: L => by show _ :: _ :: flat (L ++ [(a, b)]) = _; rw [flat_snoc a b L]; rfl

theorem flat_len : ∀ L : List (Int × Int), (flat L).length = L.length * 2
  | [] => rfl
  | p :: L => by show (flat L).length + 1 + 1 = (L.length + 1) * 2; rw [flat_len L]; omega

theorem flat_at : ∀ (L : List (Int × Int)) (j : Nat) (hj : j < L.length), (flat L)[j * 2]? = some (.int .i64 L[j].1) ∧ (flat L)[j * 2 + 1]? = some (.int .i64 L[j].2)
  | p :: L, 0, _ => ⟨rfl, rfl⟩
  | p :: L, j + 1, hj => by
    have ih := flat_at L j (by simpa using hj)
    rw [show (j + 1) * 2 = j * 2 + 1 + 1 by omega]
    exact ih

theorem flat_one : ∀ L : List (Int × Int), ∀ v ∈ flat L, v.oneCell' = true
  | [], v, h => by simp [flat] at h
  | p :: L, v, h => by
    unfold flat at h
    rcases List.mem_cons.1 h with rfl | h
    · rfl
    · rcases List.mem_cons.1 h with rfl | h
      · rfl
      · exact flat_one L v h

/-- A row of corners of the call's own. -/
theorem ring_own {w : World} {base n : Nat} {v : Value} {L : List (Int × Int)} (h : w.ownsRow base 22 2 v n (flat L)) (hn : L.length = n) : RingL w v L := by
  rcases h.2 with ⟨rfl, h0⟩ | ⟨g, cap, cur, rfl, hb, hg, hnc, _⟩
  · exact ⟨none, 0, by rw [hn, h0], by omega, fun j hj => by omega⟩
  · refine ⟨_, cap, by rw [hn], by omega, fun j hj => ⟨g, 0, rfl, ?_, ?_⟩⟩
    · rw [Nat.zero_add, h.cellAt (j * 2) (by omega), (flat_at L j hj).1]
    · rw [Nat.zero_add, h.cellAt (j * 2 + 1) (by omega), (flat_at L j hj).2]

theorem infoP : (Try.prog.info? 22).map (fun i => (i.zero, i.size, i.bytes)) = some (some (.agg #[.int .i64 0, .int .i64 0]), 2, 16) := by kernel_rfl

theorem infoR : (Try.prog.info? 23).map (fun i => (i.zero, i.size, i.bytes)) = some (some (.slice none 0 0), 1, 24) := by kernel_rfl

/-- A row of rows of corners of the call's own. -/
def RowsP (w : World) (base : Nat) (v : Value) (G : List (List (Int × Int))) (S : List Value) : Prop :=
  S.length = G.length ∧ w.ownsRow base 23 1 v G.length S ∧ ∀ (j : Nat) (hj : j < S.length) (hG : j < G.length), w.ownsRow base 22 2 S[j] G[j].length (flat G[j])

theorem RowsP.nil' (w : World) (base : Nat) : RowsP w base (.slice none 0 0) [] [] := ⟨rfl, World.ownsRow_nil _ _ _ _, fun _ hj => absurd hj (Nat.not_lt_zero _)⟩

theorem RowsP.keep {w w' : World} {base : Nat} {v : Value} {G : List (List (Int × Int))} {S : List Value} (h : RowsP w base v G S) (hb : Below w.heap.size w w') : RowsP w' base v G S :=
  ⟨h.1, own_keep hb h.2.1, fun j hj hG => own_keep hb (h.2.2 j hj hG)⟩

theorem pairs_unlike : (22 : TypeId) ≠ 23 := by decide

theorem RowsP.push {w w' : World} {base : Nat} {v v' x : Value} {G : List (List (Int × Int))} {S : List Value} {g : List (Int × Int)} (h : RowsP w base v G S) (hx : w.ownsRow base 22 2 x g.length (flat g))
    (ho : w'.ownsRow base 23 1 v' (G.length + 1) (S ++ [x])) (hg : w.grownBy w' v.ownBlock) : RowsP w' base v' (G ++ [g]) (S ++ [x]) := by
  refine ⟨by simp [h.1], by rw [List.length_append]; exact ho, fun j hj hG => ?_⟩
  have kx := hx.kept hg (own_unlike hx h.2.1 pairs_unlike).kept
  by_cases hj2 : j < S.length
  · have hj3 : j < G.length := by rw [← h.1]; exact hj2
    have := h.2.2 j hj2 hj3
    have k := this.kept hg (own_unlike this h.2.1 pairs_unlike).kept
    simpa [List.getElem_append_left, hj2, hj3] using k
  · have e : j = S.length := by simp at hj; omega
    subst e
    have e2 : S.length = G.length := h.1
    simpa [e2] using kx

theorem RowsP.rings {w : World} {base : Nat} {v : Value} {G : List (List (Int × Int))} {S : List Value} (h : RowsP w base v G S) : RingsL w v G := by
  obtain ⟨h1, h2, h3⟩ := h
  rcases h2.2 with ⟨rfl, h0⟩ | ⟨g, cap, cur, rfl, _, _, hnc, _⟩
  · exact ⟨none, 0, by rw [h0], by omega, fun j hj => by omega⟩
  · refine ⟨_, cap, rfl, hnc, fun j hj => ?_⟩
    have hj2 : j < S.length := by omega
    refine ⟨g, 0, S[j], rfl, ?_, ring_own (h3 j hj2 hj) rfl⟩
    rw [Nat.zero_add, h2.cellAt j (by omega), List.getElem?_eq_getElem hj2]

theorem two_lie9 (w : World) (x y : Int) (e : TypeId) : ∀ j u, ([.int .i64 x, .int .i64 y] : List Value)[j]? = some u → (w.alloc (.cells #[.int .i64 x, .int .i64 y] e)).cell? ((⟨w.heap.size, 0, none⟩ : Addr).add j) = some u := by
  intro j u hj
  match j, hj with
  | 0, hj => simp at hj; subst hj; go_simp
  | 1, hj => simp at hj; subst hj; go_simp

theorem two_one9 (x y : Int) : ∀ u ∈ ([.int .i64 x, .int .i64 y] : List Value), u.oneCell' = true := by
  intro u hu
  simp at hu
  rcases hu with rfl | rfl <;> rfl

/-- Corners near 500000. -/
def NearC (z : Int) (L : List (Int × Int)) : Prop := ∀ p ∈ L, 500000 ≤ p.1 ∧ p.1 < 500000 + z ∧ 500000 ≤ p.2 ∧ p.2 < 500000 + z

/-- What Tame tells. -/
def TellsTm (C : Nat) (z : Int) (e : Ending) (w' : World) : Prop :=
  ∃ (sl : Value) (G : List (List (Int × Int))) (S : List Value), e = .returned sl ∧ G.length ≤ 3 ∧ (∀ L ∈ G, 3 ≤ L.length ∧ L.length ≤ 6 ∧ NearC z L) ∧ RowsP w' C sl G S

theorem mask_num (x z : Int) (hz : 0 < z) : ∃ U u : Int, bits .and .i64 x 4294967295 = U ∧ 0 ≤ U ∧ U < 4294967296 ∧ U % z = u ∧ U.tmod z = u ∧ 0 ≤ u ∧ u < z := by
  have h := i64_mask x 32 (by omega)
  rw [show (((2 ^ 32 - 1 : Nat)) : Int) = 4294967295 by decide, show (((2 ^ 32 : Nat)) : Int) = 4294967296 by decide] at h
  rw [h]
  refine ⟨_, _, rfl, by omega, by omega, rfl, Int.tmod_eq_emod_of_nonneg (by omega), Int.emod_nonneg _ (by omega), Int.emod_lt_of_pos _ hz⟩

end Go.Proofs.Ytmfpkphhjfgjbab
