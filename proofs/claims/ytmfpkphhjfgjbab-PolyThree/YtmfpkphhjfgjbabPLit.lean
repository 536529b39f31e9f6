/-
  Rings that are laid as a text names them, and what layer 9's own look at what the document fixes tells; in whatever memory.
-/
import Derived.Test.YtmfpkphhjfgjbabTTame
import Derived.Test.YtmfpkphhjfgjbabPIns
import Derived.Test.YtmfpkphhjfgjbabPAr
import Derived.Laws.BitsAllLaws
import Derived.Handy
import Derived.Deep.QuietTactic
import Derived.Test.YtmfpkphhjfgjbabProg
import Derived.WalkSpells
import Derived.WalkLawsBesides
import Derived.BigQuiet
import Derived.PlainAid
import Derived.Deep.RegionWith
import Derived.Deep.RegionHeld3
import Derived.WalkSmall
import Derived.Deep.CutRange
import Derived.BigRegion
import Derived.OwnWalk
import Derived.Laws.OwnMore
import Derived.OneCell
import Derived.Laws.CopyOwn
import Derived.Sort.Row
import Derived.ChangeSlices
import Derived.OpenShut
import Derived.Laws.AppendOwn
import Derived.Laws.AppendOwnNone
import Derived.BigFrame
import Derived.Deep.AppendLies
import Derived.Deep.RegionLaw
import Derived.RangeFuncFrom
import Derived.RangeFuncCalls
import Derived.RangeFuncLeaves
import Derived.WalkKit
import Derived.OwnWalkIn
import Derived.TacticsInMore
import Derived.LoopNIn
import Derived.LoopIn
import Derived.RegionIn
import Derived.Stop.RegionWithIn
namespace Go.Proofs.Ytmfpkphhjfgjbab
open Go.RowKit

theorem cell_row9 (w : World) (j : Nat) (xs : Array Value) (e : TypeId) : (w.alloc (.cells xs e)).cell? ⟨w.heap.size, j, none⟩ = xs[j]? :=
  cell_of_row _ w.heap.size j xs e (0, 0) (by show (w.heap.push _)[w.heap.size]? = _; simp)

theorem lit_ring (w : World) (L : List (Int × Int)) (e : TypeId) : RingL (w.alloc (.cells (flat L).toArray e)) (.slice (some ⟨w.heap.size, 0, none⟩) L.length L.length) L := by
  refine ⟨_, _, rfl, Nat.le_refl _, fun j hj => ⟨w.heap.size, 0, rfl, ?_, ?_⟩⟩
  · rw [Nat.zero_add, cell_row9, List.getElem?_toArray, (flat_at L j hj).1]
  · rw [Nat.zero_add, cell_row9, List.getElem?_toArray, (flat_at L j hj).2]

/-- A list of rings that is laid as its text names it. -/
theorem lit_rings (w : World) (G : List (List (Int × Int))) (S : List Value) (e : TypeId) (hs : S.length = G.length) (h : ∀ (j : Nat) (hj : j < S.length) (hG : j < G.length), RingL w S[j] G[j]) : RingsL (w.alloc (.cells S.toArray e)) (.slice (some ⟨w.heap.size, 0, none⟩) G.length G.length) G := by
  refine ⟨_, _, rfl, Nat.le_refl _, fun j hj => ⟨w.heap.size, 0, S[j]'(by omega), rfl, ?_, ?_⟩⟩
  · rw [Nat.zero_add, cell_row9, List.getElem?_toArray, List.getElem?_eq_getElem (by omega)]
  · exact (h j (by omega) hj).keep (allocB w _)

theorem lit_rings1 (w : World) (L : List (Int × Int)) (s : Value) (e : TypeId) (h : RingL w s L) : RingsL (w.alloc (.cells #[s] e)) (.slice (some ⟨w.heap.size, 0, none⟩) 1 1) [L] :=
  lit_rings w [L] [s] e rfl fun j hj _ => by
    have : j = 0 := by simp at hj; exact hj
    subst this
    exact h

theorem lit_rings2 (w : World) (L M : List (Int × Int)) (s t : Value) (e : TypeId) (h : RingL w s L) (k : RingL w t M) : RingsL (w.alloc (.cells #[s, t] e)) (.slice (some ⟨w.heap.size, 0, none⟩) 2 2) [L, M] :=
  lit_rings w [L, M] [s, t] e rfl fun j hj _ => by
    have : j = 0 ∨ j = 1 := by simp at hj; omega
    rcases this with rfl | rfl
    · exact h
    · exact k

theorem size_one (w : World) (o : Obj) : (w.alloc o).heap.size = w.heap.size + 1 := by simp

theorem lit_rings1_next (w : World) (o : Obj) (L : List (Int × Int)) (s : Value) (e : TypeId) (h : RingL (w.alloc o) s L) : RingsL ((w.alloc o).alloc (.cells #[s] e)) (.slice (some ⟨w.heap.size + 1, 0, none⟩) 1 1) [L] := by
  have k := lit_rings1 (w.alloc o) L s e h
  rwa [size_one] at k

theorem rings_nil (w : World) : RingsL w (.slice none 0 0) [] := ⟨none, 0, rfl, Nat.le_refl _, fun _ hj => absurd hj (Nat.not_lt_zero _)⟩

theorem in_one {R : List (Int × Int)} {x y : Int} (h3 : 3 ≤ R.length) (h5 : R.length ≤ 500) (hw : ∀ p ∈ R, InWo p) (hf : ¬ Far x y) : InT [R] x y ↔ 0 < onN R x y ∨ crN R x y % 2 = 1 := by
  unfold InT
  rw [okay_one, onG_one, crG_one]
  exact ⟨fun h => h.2.2, fun h => ⟨⟨h3, h5, hw⟩, hf, h⟩⟩

theorem on_one {R : List (Int × Int)} {x y : Int} (h3 : 3 ≤ R.length) (h5 : R.length ≤ 500) (hw : ∀ p ∈ R, InWo p) (hf : ¬ Far x y) : OnT [R] x y ↔ 0 < onN R x y := by
  unfold OnT
  rw [okay_one, onG_one]
  exact ⟨fun h => h.2.2, fun h => ⟨⟨h3, h5, hw⟩, hf, h⟩⟩

/-- A point beside all corners is not inside. -/
theorem in_beside {x y : Int} : ∀ {G : List (List (Int × Int))}, ((∀ L ∈ G, ∀ p ∈ L, x < p.1) ∨ (∀ L ∈ G, ∀ p ∈ L, p.1 < x) ∨ (∀ L ∈ G, ∀ p ∈ L, p.2 < y) ∨ (∀ L ∈ G, ∀ p ∈ L, y < p.2)) → onG G x y = 0 ∧ crG G x y % 2 = 0
  | [], _ => ⟨rfl, rfl⟩
  | L :: G, h => by
    have hG : onG G x y = 0 ∧ crG G x y % 2 = 0 := in_beside (by
      rcases h with h | h | h | h
      · exact .inl fun M hM => h M (List.mem_cons_of_mem _ hM)
      · exact .inr (.inl fun M hM => h M (List.mem_cons_of_mem _ hM))
      · exact .inr (.inr (.inl fun M hM => h M (List.mem_cons_of_mem _ hM)))
      · exact .inr (.inr (.inr fun M hM => h M (List.mem_cons_of_mem _ hM))))
    have hL : onN L x y = 0 ∧ crN L x y % 2 = 0 := by
      have m : L ∈ L :: G := List.mem_cons_self ..
      rcases h with h | h | h | h
      · exact ⟨onN_beside (.inl (h L m)), crN_left (h L m)⟩
      · exact ⟨onN_beside (.inr (.inl (h L m))), by rw [crN_right (h L m)]; rfl⟩
      · exact ⟨onN_beside (.inr (.inr (.inl (h L m)))), by rw [crN_over fun p hp => by have := h L m p hp; omega]; rfl⟩
      · exact ⟨onN_beside (.inr (.inr (.inr (h L m)))), by rw [crN_under (h L m)]; rfl⟩
    show onN L x y + onG G x y = 0 ∧ (crN L x y + crG G x y) % 2 = 0
    omega

/-- Rings that Tame makes may be. -/
theorem tame_okay {z : Int} {G : List (List (Int × Int))} (hz : z ≤ 1000) (h0 : G ≠ []) (h3 : G.length ≤ 3) (h : ∀ L ∈ G, 3 ≤ L.length ∧ L.length ≤ 6 ∧ NearC z L) : Okay G := by
  have hc : ∀ K : List (List (Int × Int)), (∀ L ∈ K, L.length ≤ 6) → corners K ≤ 6 * K.length := fun K hK => by
    induction K with
    | nil => exact Nat.le_refl _
    | cons M K ih =>
      have h1 := hK M (List.mem_cons_self ..)
      have h2 := ih fun L hL => hK L (List.mem_cons_of_mem _ hL)
      show M.length + corners K ≤ 6 * (K.length + 1)
      omega
  have h1 := hc G fun L hL => (h L hL).2.1
  refine okay_iff.2 ⟨by omega, by omega, h0, fun L hL => (h L hL).1, fun L hL p hp => ?_⟩
  have := (h L hL).2.2 p hp
  exact ⟨by omega, by omega, by omega, by omega⟩

theorem not_far {x y : Int} (hx : -1000 ≤ x ∧ x ≤ 1073741824) (hy : -1000 ≤ y ∧ y ≤ 1073741824) : ¬ Far x y := by unfold Far; omega

theorem chk_nil {t : Int} (h : ChkT [] t) : t = 1 := h.one (.inr (.inl ⟨by simp [corners], .inl rfl, rfl⟩))

theorem wo_box {a b c d : Int} (ha : 0 ≤ a ∧ a < 1073741824) (hb : 0 ≤ b ∧ b < 1073741824) (hc : 0 ≤ c ∧ c < 1073741824) (hd : 0 ≤ d ∧ d < 1073741824) : ∀ p ∈ box4 a b c d, InWo p := fun p hp => by
  unfold box4 at hp
  simp only [List.mem_cons, List.not_mem_nil, or_false] at hp
  unfold InWo
  rcases hp with rfl | rfl | rfl | rfl <;> exact ⟨by omega, by omega, by omega, by omega⟩

set_option maxHeartbeats 4000000 in
set_option maxRecDepth 20000 in
theorem pawake9 (w : World) : Calls Try.prog 7 #[] w fun e w' => e = .returned (.bool true) ∧ Below w.heap.size w w' := by
  have W0 : ∀ p ∈ box4 0 0 2 2, InWo p := wo_box (by omega) (by omega) (by omega) (by omega)
  have L1 : Hid (RingL (w.alloc (.cells #[.int .i64 0, .int .i64 0, .int .i64 2, .int .i64 0, .int .i64 2, .int .i64 2, .int .i64 0, .int .i64 2] 22)) (.slice (some ⟨w.heap.size, 0, none⟩) 4 4) (box4 0 0 2 2)) := hidd (lit_ring w (box4 0 0 2 2) 22)
  have L2 := hidd (lit_rings1_next _ _ _ _ 23 L1.out)
  have FR : ∀ x y : Int, 0 ≤ x → x ≤ 3 → y = 1 → ¬ Far x y := fun x y _ _ _ => by unfold Far; omega
  have I1 := hidd fun s w h => p_inside s [box4 0 0 2 2] 1 1 true (by
    simp only [true_iff]
    exact (in_one (by decide) (by decide) W0 (FR _ _ (by omega) (by omega) rfl)).2 ((box_in (by omega) (by omega)).2 (by omega))) (by simp) (fun L hL => by rw [List.mem_singleton.1 hL]; decide) w h
  have I2 := hidd fun s w h => p_inside s [box4 0 0 2 2] 3 1 false (by
    simp only [Bool.false_eq_true, false_iff]
    exact fun k => by
      have := (box_in (by omega) (by omega)).1 ((in_one (by decide) (by decide) W0 (FR _ _ (by omega) (by omega) rfl)).1 k)
      omega) (by simp) (fun L hL => by rw [List.mem_singleton.1 hL]; decide) w h
  have I3 := hidd fun s w h => p_on s [box4 0 0 2 2] 2 1 true (by
    simp only [true_iff]
    exact (on_one (by decide) (by decide) W0 (FR _ _ (by omega) (by omega) rfl)).2 (box_on.2 (by omega))) (by simp) (fun L hL => by rw [List.mem_singleton.1 hL]; decide) w h
  have I4 : Hid (∀ s w, RingL w s (box4 0 0 2 2) → Calls Try.prog 4 #[s] w fun e w' => e = .returned (.int .i64 8) ∧ Below w.heap.size w w') := hidd fun s w h => (p_area2 s _ (by decide) w h).mono fun e w' ⟨⟨z, he, hz⟩, hb⟩ => ⟨by
    rcases hz with ⟨_, hz⟩ | ⟨hz, _⟩
    · rw [he, hz, show area (box4 0 0 2 2) = 8 by decide +kernel, show wrap64 8 = 8 by unfold wrap64; omega]
    · exact absurd (okay_one.2 ⟨by decide, by decide, W0⟩) hz, hb⟩
  have I5 : Hid (∀ w, Calls Try.prog 8 #[.slice none 0 0] w fun e w' => e = .returned (.int .i64 1) ∧ Below w.heap.size w w') := hidd fun w => (p_check _ [] (by simp) (fun L hL => by simp at hL) w (rings_nil w)).mono fun e w' ⟨⟨t, he, ht⟩, hb⟩ => ⟨by rw [he, chk_nil ht], hb⟩
  have hal := hidd (belowT (allocB w (.cells #[.int .i64 0, .int .i64 0, .int .i64 2, .int .i64 0, .int .i64 2, .int .i64 2, .int .i64 0, .int .i64 2] 22)) (allocB (w.alloc (.cells #[.int .i64 0, .int .i64 0, .int .i64 2, .int .i64 0, .int .i64 2, .int .i64 2, .int .i64 0, .int .i64 2] 22)) (.cells #[.slice (some ⟨w.heap.size, 0, none⟩) 4 4] 23)))
  have R1 := hidd (L1.out.keep (allocB (w.alloc (.cells #[.int .i64 0, .int .i64 0, .int .i64 2, .int .i64 0, .int .i64 2, .int .i64 2, .int .i64 0, .int .i64 2] 22)) (.cells #[.slice (some ⟨w.heap.size, 0, none⟩) 4 4] 23)))
  clear W0 FR L1
  go_enter Try.func7, Try.ntmps7
  go_wp2_with fail
  refine (I1.out _ _ L2.out).mono ?_
  rintro e w1 ⟨rfl, b1⟩
  have B1 := hidd (belowT hal.out b1)
  have L3 := hidd (L2.out.keep b1)
  have R3 := hidd (R1.out.keep b1)
  clear b1 hal L2 R1
  go_wp2_with fail
  refine (I2.out _ _ L3.out).mono ?_
  rintro e w2 ⟨rfl, b2⟩
  have B2 := hidd (belowT B1.out b2)
  have L4 := hidd (L3.out.keep b2)
  have R4 := hidd (R3.out.keep b2)
  clear b2 B1 L3 R3
  go_wp2_with fail
  refine (I3.out _ _ L4.out).mono ?_
  rintro e w3 ⟨rfl, b3⟩
  have B3 := hidd (belowT B2.out b3)
  have R5 := hidd (R4.out.keep b3)
  clear b3 B2 L4 R4
  go_wp2_with fail
  refine (I4.out _ _ R5.out).mono ?_
  rintro e w4 ⟨rfl, b4⟩
  have B4 := hidd (belowT B3.out b4)
  clear b4 B3 R5
  go_wp2_with fail
  refine (I5.out _).mono ?_
  rintro e w5 ⟨rfl, b5⟩
  go_wp2_with fail
  go_ret
  exact ⟨rfl, belowT B4.out b5⟩

end Go.Proofs.Ytmfpkphhjfgjbab
