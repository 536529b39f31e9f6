/-
  Plain facts on the children of some words of one size, grouped by their parents: as many rows as there are words, each the seven of one.
-/
import Derived.Test.YtogkfmoediiieaaVRows
import Derived.Test.YtogkfmoediiieaaKidMath
import Derived.Test.YtogkfmoediiieaaProg
import Derived.Handy
import Derived.Deep.QuietTactic
import Derived.WalkSpells
import Derived.WalkLawsBesides
import Derived.BigQuiet
import Derived.PlainAid
import Derived.Deep.RegionWith
import Derived.Laws.BitsAllLaws
import Derived.Deep.RegionHeld3
import Derived.WalkSmall
import Derived.Deep.CutRange
import Derived.BigRegion
import Derived.OwnWalk
import Derived.Laws.OwnMore
import Derived.OneCell
import Derived.Laws.CopyOwn
import Derived.Sort.Row
import Derived.Laws.AppendOwn
import Derived.Laws.AppendOwnNone
import Derived.BigFrame
namespace Go.Proofs.Ytogkfmoediiieaa
open Go.RowKit

theorem whole_lo {v : Int} (h : Whole v) : 0 < v := by
  have := h.1
  omega

theorem gStep_add' {G : List (List Int)} {g : List Int} {x l : Int} (h : Whole x) (hr : 0 < wR x) (hl : upW x = l) : gStep (G ++ [g], l) x = (G ++ [g ++ [x]], l) := by subst hl; exact gStep_add h hr

theorem gStep_new' {G : List (List Int)} {l x u : Int} (h : Whole x) (hr : 0 < wR x) (hu : upW x = u) (hl : u ≠ l) : gStep (G, l) x = (G ++ [[x]], u) := by subst hu; exact gStep_new h hr hl

theorem gfold_kids {G : List (List Int)} {l v : Int} (h : Whole v) (hr : wR v < 12) (hl : v ≠ l) : (kidRow v).foldl gStep (G, l) = (G ++ [kidRow v], v) := by
  have hb := wR_box v
  have k : ∀ d : Nat, d ≤ 6 → Whole (chW v d) ∧ 0 < wR (chW v d) ∧ upW (chW v d) = v := fun d hd => ⟨(chW_whole h hr hd).1, by rw [(chW_whole h hr hd).2]; omega, up_kid h hr hd⟩
  have e : kidRow v = [chW v 0, chW v 1, chW v 2, chW v 3, chW v 4, chW v 5, chW v 6] := by simp [kidRow, List.range_succ]
  rw [e]
  simp only [List.foldl_cons, List.foldl_nil]
  rw [gStep_new' (k 0 (by omega)).1 (k 0 (by omega)).2.1 (k 0 (by omega)).2.2 hl, gStep_add' (k 1 (by omega)).1 (k 1 (by omega)).2.1 (k 1 (by omega)).2.2, gStep_add' (k 2 (by omega)).1 (k 2 (by omega)).2.1 (k 2 (by omega)).2.2, gStep_add' (k 3 (by omega)).1 (k 3 (by omega)).2.1 (k 3 (by omega)).2.2, gStep_add' (k 4 (by omega)).1 (k 4 (by omega)).2.1 (k 4 (by omega)).2.2, gStep_add' (k 5 (by omega)).1 (k 5 (by omega)).2.1 (k 5 (by omega)).2.2, gStep_add' (k 6 (by omega)).1 (k 6 (by omega)).2.1 (k 6 (by omega)).2.2]
  rfl

theorem gfold_all : ∀ (s : List Int) (G : List (List Int)) (l : Int), Rising s → (∀ v ∈ s, Whole v ∧ wR v < 12 ∧ v ≠ l) → ((s.flatMap kidRow).foldl gStep (G, l)).1 = G ++ s.map kidRow
  | [], G, l, _, _ => by simp
  | v :: s, G, l, hR, h => by
    have h1 := List.pairwise_cons.1 hR
    have hv := h v (List.mem_cons_self ..)
    rw [List.flatMap_cons, List.foldl_append, gfold_kids hv.1 hv.2.1 hv.2.2, gfold_all s _ _ h1.2 fun u hu => ?_]
    · simp
    · have := h u (List.mem_cons_of_mem _ hu)
      exact ⟨this.1, this.2.1, by have := h1.1 u hu; omega⟩

theorem flat_rising {s : List Int} {n : Nat} (hn : n < 12) (hR : Rising s) (h : ∀ v ∈ s, Whole v ∧ wR v = (n : Int)) : Rising (s.flatMap kidRow) := by
  unfold Rising
  rw [List.pairwise_flatMap]
  refine ⟨fun v _ => ?_, ?_⟩
  · unfold kidRow
    rw [List.pairwise_map]
    exact (List.pairwise_lt_range (n := 7)).imp_of_mem fun {a b} ha hb hab => kids_rise hab (by have := List.mem_range.1 hb; omega)
  · refine List.Pairwise.imp_of_mem (fun {a b} ha hb hab x hx y hy => ?_) hR
    obtain ⟨d, hd, rfl⟩ := kidRow_mem.1 hx
    obtain ⟨e, he, rfl⟩ := kidRow_mem.1 hy
    exact kids_apart (h a ha).1 (h b hb).1 (h a ha).2 (h b hb).2 hn hab hd he

/-- The families of some words. -/
theorem families {s L K : List Int} {n : Nat} (hn : n < 12) (hs : Rising s) (hsL : ∀ x, x ∈ s ↔ x ∈ L) (hL : ∀ v ∈ L, Whole v ∧ wR v = (n : Int)) (hK : Rising K) (hKm : ∀ x, x ∈ K ↔ x ∈ L.flatMap kidRow) : (gFold K).1 = s.map kidRow := by
  have h2 : ∀ v ∈ s, Whole v ∧ wR v = (n : Int) := fun v hv => hL v ((hsL v).1 hv)
  have e : K = s.flatMap kidRow := rising_ext hK (flat_rising hn hs h2) fun x => by
    rw [hKm x, List.mem_flatMap, List.mem_flatMap]
    constructor
    · rintro ⟨v, hv, hx⟩; exact ⟨v, (hsL v).2 hv, hx⟩
    · rintro ⟨v, hv, hx⟩; exact ⟨v, (hsL v).1 hv, hx⟩
  rw [e]
  unfold gFold
  rw [gfold_all s [] 0 hs fun v hv => ⟨(h2 v hv).1, by rw [(h2 v hv).2]; omega, by have := whole_lo (h2 v hv).1; omega⟩]
  rfl

theorem kidRow_snoc (L : List Int) (v : Int) (j : Nat) : L.flatMap kidRow ++ (List.range (j + 1)).map (chW v) = L.flatMap kidRow ++ (List.range j).map (chW v) ++ [chW v j] := by
  rw [List.range_succ, List.map_append, List.append_assoc]
  rfl

theorem kidRow_all (L : List Int) (v : Int) : L.flatMap kidRow ++ (List.range 7).map (chW v) = (L ++ [v]).flatMap kidRow := by
  rw [List.flatMap_append]
  simp [kidRow]

end Go.Proofs.Ytogkfmoediiieaa
