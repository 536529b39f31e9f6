/-
  Rows of rows of words, of a call's own: which they are, what an append to the outer row and to the last of the inner ones leaves; and how words are grouped by their parents. No condition beyond those written.
-/
import Derived.Test.YtogkfmoediiieaaMC
import Derived.Test.YtogkfmoediiieaaULst
import Derived.Laws.BitsAllLaws
import Derived.Handy
import Derived.Deep.QuietTactic
import Derived.Test.YtogkfmoediiieaaProg
import Derived.WalkSpells
import Derived.WalkLawsBesides
import Derived.BigQuiet
import Derived.PlainAid
import Derived.Deep.RegionWith
import Derived.Deep.RegionHeld3
import Derived.WalkSmall
import Derived.Deep.CutRange
import Derived.BigRegion
import Derived.OwnWalk
import Derived.Laws.OwnMore
import Derived.OneCell
import Derived.Laws.CopyOwn
import Derived.Sort.Row
import Derived.Laws.AppendOwn
import Derived.Laws.AppendOwnNone
import Derived.BigFrame
namespace Go.Proofs.Ytogkfmoediiieaa
open Go.RowKit

theorem infoSl : (Try.prog.info? 23).map (fun i => (i.zero, i.size, i.bytes)) = some (some (.slice none 0 0), 1, 24) := by kernel_rfl

theorem lst_len {w : World} {s : Value} {L : List Int} (h : Lst w s L) : ∃ p c, s = .slice p L.length c := by
  obtain ⟨p, c, e, -, -⟩ := h
  exact ⟨p, c, e⟩

/-- Two rows that lie in blocks of their own. -/
def Apart (a b : Value) : Prop := a.ownBlock = none ∨ b.ownBlock = none ∨ a.ownBlock ≠ b.ownBlock

theorem Apart.symm {a b : Value} (h : Apart a b) : Apart b a := by
  rcases h with h | h | h
  · exact .inr (.inl h)
  · exact .inl h
  · exact .inr (.inr fun e => h e.symm)

theorem Apart.kept {a b : Value} (h : Apart a b) : a.ownBlock = none ∨ a.ownBlock ≠ b.ownBlock := by
  rcases h with h | h | h
  · exact .inl h
  · by_cases h2 : a.ownBlock = none
    · exact .inl h2
    · exact .inr (by rw [h]; exact h2)
  · exact .inr h

/-- Rows of unlike types lie in blocks of their own. -/
theorem own_unlike {w : World} {B B' size size' n n' : Nat} {e e' : TypeId} {v v' : Value} {xs xs' : List Value} (h : w.ownsRow B e size v n xs) (h' : w.ownsRow B' e' size' v' n' xs') (hne : e ≠ e') : Apart v v' := by
  rcases h.2 with ⟨rfl, _⟩ | ⟨g, c, cur, rfl, _, hg, _⟩
  · exact .inl rfl
  · rcases h'.2 with ⟨rfl, _⟩ | ⟨g', c', cur', rfl, _, hg', _⟩
    · exact .inr (.inl rfl)
    · refine .inr (.inr fun e1 => hne ?_)
      simp only [Value.ownBlock, Option.some.injEq] at e1
      subst e1
      rw [hg] at hg'
      injection hg' with h1
      injection h1

/-- The value v is a row of rows of the call's own: its rows hold G. -/
def Rows2 (w : World) (base : Nat) (v : Value) (G : List (List Int)) (S : List Value) : Prop :=
  S.length = G.length ∧ w.ownsRow base 23 1 v G.length S ∧ (∀ (j : Nat) (hj : j < S.length) (hG : j < G.length), w.ownsRow base 24 1 S[j] G[j].length (vals G[j])) ∧ S.Pairwise Apart

theorem Rows2.nil' (w : World) (base : Nat) : Rows2 w base (.slice none 0 0) [] [] := ⟨rfl, World.ownsRow_nil _ _ _ _, fun _ hj => absurd hj (Nat.not_lt_zero _), List.Pairwise.nil⟩

theorem Rows2.keep {w w' : World} {base : Nat} {v : Value} {G : List (List Int)} {S : List Value} (h : Rows2 w base v G S) (hb : Below w.heap.size w w') : Rows2 w' base v G S :=
  ⟨h.1, own_keep hb h.2.1, fun j hj hG => own_keep hb (h.2.2.1 j hj hG), h.2.2.2⟩

theorem types_unlike : (24 : TypeId) ≠ 23 := by decide

/-- A row more. -/
theorem Rows2.push {w w' : World} {base : Nat} {v v' x : Value} {G : List (List Int)} {S : List Value} {g : List Int} (h : Rows2 w base v G S) (hx : w.ownsRow base 24 1 x g.length (vals g)) (ha : ∀ s ∈ S, Apart s x)
    (ho : w'.ownsRow base 23 1 v' (G.length + 1) (S ++ [x])) (hg : w.grownBy w' v.ownBlock) : Rows2 w' base v' (G ++ [g]) (S ++ [x]) := by
  refine ⟨by simp [h.1], by rw [List.length_append]; exact ho, fun j hj hG => ?_, List.pairwise_append.2 ⟨h.2.2.2, List.pairwise_singleton _ _, fun a hb b hc => by rw [List.mem_singleton] at hc; subst hc; exact ha a hb⟩⟩
  have kx := hx.kept hg (own_unlike hx h.2.1 types_unlike).kept
  by_cases hj2 : j < S.length
  · have hj3 : j < G.length := by rw [← h.1]; exact hj2
    have := h.2.2.1 j hj2 hj3
    have k := this.kept hg (own_unlike this h.2.1 types_unlike).kept
    simpa [List.getElem_append_left, hj2, hj3] using k
  · have e : j = S.length := by simp at hj; omega
    subst e
    have e2 : S.length = G.length := h.1
    simpa [e2] using kx

/-- A word more in the last row. -/
theorem Rows2.add {w w' : World} {base q c : Nat} {sl v' : Value} {G : List (List Int)} {S : List Value} {g : List Int} {x : Int} (h : Rows2 w base (.slice (some ⟨q, 0, none⟩) (G.length + 1) c) (G ++ [g]) (S ++ [sl]))
    (ho : w'.ownsRow base 24 1 v' (g.length + 1) (vals g ++ [.int .u64 x])) (hg : w.grownBy w' sl.ownBlock) (hb : v'.ownBlock = sl.ownBlock ∨ v'.ownBlock = some w.heap.size) :
    Rows2 (w'.setCell ⟨q, G.length, none⟩ v') base (.slice (some ⟨q, 0, none⟩) (G.length + 1) c) (G ++ [g ++ [x]]) (S ++ [v']) := by
  obtain ⟨h1, h2, h3, h4⟩ := h
  have hl : S.length = G.length := by simpa using h1
  have hsl := h3 S.length (by simp) (by simp [hl])
  have ol : w.ownsRow base 24 1 sl g.length (vals g) := by simpa [hl] using hsl
  have outer := h2.kept hg (own_unlike ol h2 types_unlike).symm.kept
  have e1 : (G ++ [g]).length = G.length + 1 := by simp
  rw [e1] at outer
  obtain ⟨s1, s2⟩ := outer.stored G.length v'
  have ap := List.pairwise_append.1 h4
  have hv : (vals (g ++ [x])) = vals g ++ [.int .u64 x] := by simp [vals]
  have keepIn : ∀ {u : Value} {L : List Int}, w'.ownsRow base 24 1 u L.length (vals L) → (w'.setCell ⟨q, G.length, none⟩ v').ownsRow base 24 1 u L.length (vals L) := fun hu => hu.kept s2 (own_unlike hu outer types_unlike).kept
  refine ⟨by simp [hl], ?_, fun j hj hG => ?_, List.pairwise_append.2 ⟨ap.1, List.pairwise_singleton _ _, fun a ha b hb2 => ?_⟩⟩
  · have e2 : (S ++ [sl]).set G.length v' = S ++ [v'] := by rw [← hl]; simp
    rw [e2] at s1
    rw [List.length_append]
    exact s1
  · by_cases hj2 : j < S.length
    · have hj3 : j < G.length := by rw [← hl]; exact hj2
      have k0 := h3 j (by simp; omega) (by simp; omega)
      have k1 : w.ownsRow base 24 1 S[j] G[j].length (vals G[j]) := by simpa [List.getElem_append_left, hj2, hj3] using k0
      have k2 := k1.kept hg (ap.2.2 S[j] (List.getElem_mem hj2) sl (by simp)).kept
      have k3 := keepIn k2
      simpa [List.getElem_append_left, hj2, hj3] using k3
    · have e : j = S.length := by simp at hj; omega
      subst e
      have k3 := keepIn (u := v') (L := g ++ [x]) (by rw [hv, List.length_append]; exact ho)
      simpa [hl] using k3
  · rw [List.mem_singleton] at hb2
    subst hb2
    have a1 := ap.2.2 a ha sl (by simp)
    rcases hb with e | e
    · unfold Apart at a1 ⊢
      rw [e]
      exact a1
    · obtain ⟨j, hj, rfl⟩ := List.mem_iff_getElem.1 ha
      have hj3 : j < G.length := by rw [← hl]; exact hj
      have k0 := h3 j (by simp; omega) (by simp; omega)
      have k1 : w.ownsRow base 24 1 S[j] G[j].length (vals G[j]) := by simpa [List.getElem_append_left, hj, hj3] using k0
      by_cases hn : S[j].ownBlock = none
      · exact .inl hn
      · refine .inr (.inr fun e2 => ?_)
        rw [e] at e2
        have := (own_lt k1 _ e2).2
        omega

/-- A row of rows, read: each row's value stands in the outer row, and holds its words. -/
def Lst2 (w : World) (v : Value) (G : List (List Int)) : Prop := ∃ p cap, v = .slice p G.length cap ∧ ∀ (j : Nat) (hj : j < G.length), ∃ g s, p = some ⟨g, 0, none⟩ ∧ w.cell? ⟨g, j, none⟩ = some s ∧ Lst w s G[j]

theorem Lst2.keep {w w' : World} {v : Value} {G : List (List Int)} (h : Lst2 w v G) (hb : Below w.heap.size w w') : Lst2 w' v G := by
  obtain ⟨p, cap, e, h⟩ := h
  refine ⟨p, cap, e, fun j hj => ?_⟩
  obtain ⟨g, s, h1, h2, h3⟩ := h j hj
  exact ⟨g, s, h1, keepCell hb h2, h3.keep hb⟩

theorem Rows2.read {w : World} {base : Nat} {v : Value} {G : List (List Int)} {S : List Value} (h : Rows2 w base v G S) : Lst2 w v G := by
  obtain ⟨h1, h2, h3, -⟩ := h
  rcases h2.2 with ⟨rfl, h0⟩ | ⟨g, cap, cur, rfl, _⟩
  · exact ⟨none, 0, by rw [h0], fun j hj => by omega⟩
  · refine ⟨_, cap, rfl, fun j hj => ?_⟩
    have hj2 : j < S.length := by omega
    refine ⟨g, S[j], rfl, ?_, Lst.own (h3 j hj2 hj)⟩
    rw [h2.cellAt j (by omega), List.getElem?_eq_getElem hj2]

/-- Is it a word? -/
def wholeB (w : Int) : Bool := decide (w / 1152921504606846976 = 1) && decide (wR w ≤ 12) && (List.range 12).all fun j => decide (dg w (j + 1) = 7) == decide (wR w < ((j + 1 : Nat) : Int))

theorem wholeB_iff (w : Int) : wholeB w = true ↔ Whole w := by
  unfold wholeB Whole
  simp only [Bool.and_eq_true, decide_eq_true_eq, List.all_eq_true, List.mem_range, beq_iff_eq, decide_eq_decide]
  constructor
  · rintro ⟨⟨h1, h2⟩, h3⟩
    refine ⟨h1, h2, fun j j1 j2 => ?_⟩
    have := h3 (j - 1) (by omega)
    rwa [show j - 1 + 1 = j by omega] at this
  · rintro ⟨h1, h2, h3⟩
    exact ⟨⟨h1, h2⟩, fun j hj => h3 (j + 1) (by omega) (by omega)⟩

/-- The last row with a word more. -/
def addLast (G : List (List Int)) (x : Int) : List (List Int) := G.dropLast ++ [G.getLastD [] ++ [x]]

theorem addLast_at (G : List (List Int)) (g : List Int) (x : Int) : addLast (G ++ [g]) x = G ++ [g ++ [x]] := by simp [addLast]

/-- One word more is grouped: by the rows so far, and the parent of the last one (0 if it has none). -/
def gStep (s : List (List Int) × Int) (x : Int) : List (List Int) × Int :=
  if wholeB x = true then (if 0 < wR x ∧ upW x = s.2 then (addLast s.1 x, upW x) else (s.1 ++ [[x]], if 0 < wR x then upW x else 0)) else s

def gFold (K : List Int) : List (List Int) × Int := K.foldl gStep ([], 0)

theorem gFold_next {K : List Int} {i : Nat} (h : i < K.length) : gFold (K.take (i + 1)) = gStep (gFold (K.take i)) K[i] := by
  unfold gFold
  rw [List.take_succ_eq_append_getElem h, List.foldl_append]
  rfl

theorem gStep_no {s : List (List Int) × Int} {x : Int} (h : ¬ Whole x) : gStep s x = s := by
  unfold gStep
  rw [if_neg (fun e => h ((wholeB_iff x).1 e))]

theorem gStep_add {G : List (List Int)} {g : List Int} {x : Int} (h : Whole x) (hr : 0 < wR x) : gStep (G ++ [g], upW x) x = (G ++ [g ++ [x]], upW x) := by
  unfold gStep
  rw [if_pos ((wholeB_iff x).2 h), if_pos ⟨hr, rfl⟩, addLast_at]

theorem gStep_new {G : List (List Int)} {l x : Int} (h : Whole x) (hr : 0 < wR x) (hl : upW x ≠ l) : gStep (G, l) x = (G ++ [[x]], upW x) := by
  unfold gStep
  rw [if_pos ((wholeB_iff x).2 h), if_neg (fun e => hl e.2), if_pos hr]

theorem gStep_top {G : List (List Int)} {l x : Int} (h : Whole x) (hr : wR x = 0) : gStep (G, l) x = (G ++ [[x]], 0) := by
  unfold gStep
  rw [if_pos ((wholeB_iff x).2 h), if_neg (fun e => by omega), if_neg (by omega)]

end Go.Proofs.Ytogkfmoediiieaa
