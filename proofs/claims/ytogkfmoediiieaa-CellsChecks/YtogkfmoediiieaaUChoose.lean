/-
  What Union, Meet and Minus of package cells tell of two lists of words: the words that are kept for the sides they are on, rising; that there are too many; in whatever memory.
-/
import Derived.Test.YtogkfmoediiieaaUSet
import Derived.Test.YtogkfmoediiieaaUTake
import Derived.Test.YtogkfmoediiieaaUHas
import Derived.Laws.BitsAllLaws
import Derived.Handy
import Derived.Deep.QuietTactic
import Derived.Test.YtogkfmoediiieaaProg
import Derived.WalkSpells
import Derived.WalkLawsBesides
import Derived.BigQuiet
import Derived.PlainAid
import Derived.Deep.RegionWith
import Derived.Deep.RegionHeld3
import Derived.WalkSmall
import Derived.Deep.CutRange
import Derived.BigRegion
import Derived.OwnWalk
import Derived.Laws.OwnMore
import Derived.OneCell
import Derived.Laws.CopyOwn
import Derived.Sort.Row
import Derived.Deep.Cut
import Derived.Sort.LotD3
import Derived.Deep.LoopGhost
import Derived.Sort.WalkA6
import Derived.Sort.Walk13a
import Derived.Sort.LotA
import Derived.Sort.LotB
import Derived.Sort.LotD1
import Derived.Deep.Draws
import Derived.WalkKit
import Derived.BigGuard
import Derived.BigCall
import Derived.CellFam
import Derived.Sort.WalkB3
import Derived.Sort.WalkB12
import Derived.Deep.OwnRows
namespace Go.Proofs.Ytogkfmoediiieaa
open Go.RowKit

/-- What is told of the words K that are kept: they, or that they are too many. -/
def TellsChosen (K : List Int) (e : Ending) (w : World) : Prop := (K.length ≤ 20000 ∧ ∃ v, e = .returned (.tuple #[v, .int .i64 0]) ∧ Lst w v K) ∨ (20000 < K.length ∧ e = .returned (.tuple #[.slice none 0 0, .int .i64 7]))

theorem Lst.len {w : World} {s : Value} {L : List Int} (h : Lst w s L) : ∃ p c, s = .slice p L.length c := by
  obtain ⟨p, c, e, -, -⟩ := h
  exact ⟨p, c, e⟩

theorem cut_len {A B : List Int} (h : ¬ (A = [] ∧ B = [])) : (cutW (hdIs (lstW A B) A) A).length + (cutW (hdIs (lstW A B) B) B).length + 1 ≤ A.length + B.length := by
  have f := (lst_facts h).2.2
  have c : ∀ (p : Bool) (L : List Int), (cutW p L).length ≤ L.length := fun p L => by
    unfold cutW
    split <;> simp
  have d : ∀ (w : Int) (L : List Int), hdIs w L = true → (cutW (hdIs w L) L).length + 1 = L.length := fun w L hh => by
    rw [hh]
    cases L with
    | nil => cases hh
    | cons a L => simp [cutW]
  rcases f with f | f
  · have := d _ _ f; have := c (hdIs (lstW A B) B) B; omega
  · have := d _ _ f; have := c (hdIs (lstW A B) A) A; omega

theorem took_mem {k : Bool → Bool → Bool} {A B A1 B1 K : List Int} (h : Took k A B A1 B1 K) : (∀ x ∈ A1, x ∈ A) ∧ ∀ x ∈ B1, x ∈ B := by
  obtain ⟨A0, B0, e1, e2, _⟩ := h
  exact ⟨fun x hx => by rw [e1]; exact List.mem_append_right _ hx, fun x hx => by rw [e2]; exact List.mem_append_right _ hx⟩

theorem PairAt.keep {g : Nat} {s t : Value} {w w' : World} (h : PairAt g s t w) (hb : Below w.heap.size w w') : PairAt g s t w' := ⟨keepCell hb h.1, keepCell hb h.2.1, keepFrozen hb h.1 h.2.2.1, keepFrozen hb h.2.1 h.2.2.2⟩

theorem PairAt.low {g C : Nat} {s t : Value} {w w' : World} (h : PairAt g s t w) (hb : Below C w w') (hg : g < C) : PairAt g s t w' := ⟨keepLow hb h.1 hg, keepLow hb h.2.1 hg, (hb.frozen hg).trans h.2.2.1, (hb.frozen hg).trans h.2.2.2⟩

set_option maxHeartbeats 8000000 in
set_option maxRecDepth 20000 in
theorem choose_either (k : Bool → Bool → Bool)
    (hK : ∀ a b w, Calls Try.prog 39 #[.agg #[.bool a, .bool b]] w fun e w' => e = .returned (.bool (k a b)) ∧ w' = w.alloc (.cells #[.bool a, .bool b] 72))
    (s t : Value) (A B : List Int) (nA : A.length ≤ 20000) (nB : B.length ≤ 20000) (uA : ∀ x ∈ A, U64 x) (uB : ∀ x ∈ B, U64 x) (w : World) (hA : Lst w s A) (hB : Lst w t B) :
    Calls Try.prog 38 #[s, t, .func (.func 39) #[] #[]] w fun e w' => (∃ K, Chosen k A B K ∧ TellsChosen K e w') ∧ Below w.heap.size w w' := by
  have SA := hidd (cset s A (by omega) w hA)
  have SB := hidd fun w2 (hb : Below w.heap.size w w2) => cset t B (by omega) w2 (hB.keep hb)
  have HK := hidd hK
  have UA := hidd uA
  have UB := hidd uB
  obtain ⟨ps, cs, rfl⟩ := hA.len
  obtain ⟨pt, ct, rfl⟩ := hB.len
  have nA' : decide (20000 < A.length) = false := by simpa using nA
  have nB' : decide (20000 < B.length) = false := by simpa using nB
  clear hK uA uB hA hB
  obtain ⟨i0, hi, hz0, hz1, hz2⟩ := info_parts infoU64
  go_enter Try.func38, Try.ntmps38
  go_wp2_with fail
  refine SA.out.mono ?_
  rintro e w1 ⟨⟨gA, cA, LA, rfl, -, hA1, hA2, hA3, hA4, hA5⟩, b1⟩
  have rA := Lst.row (w := w1) hA1 hA5
  replace hA1 := hidd hA1
  clear hA5 SA
  go_wp2_with fail
  refine (SB.out _ b1).mono ?_
  rintro e w2 ⟨⟨gB, cB, LB, rfl, -, hB1, hB2, hB3, hB4, hB5⟩, b2⟩
  have rB := Lst.row (w := w2) hB1 hB5
  replace rA := rA.keep b2
  have hB' := belowT b1 b2
  clear hB5 SB b1 b2
  have RA := hidd rA
  have RB := hidd rB
  have vA : Hid (∀ x ∈ LA, U64 x) := hidd fun x hx => UA.out x ((hA3 x).1 hx)
  have vB : Hid (∀ x ∈ LB, U64 x) := hidd fun x hx => UB.out x ((hB3 x).1 hx)
  have rsA := hidd hA2
  have rsB := hidd hB2
  have nLA : LA.length ≤ 20000 := by omega
  have nLB : LB.length ≤ 20000 := by omega
  have CH : Hid (∀ K, Chosen k LA LB K → Chosen k A B K) := hidd fun K hc => ⟨hc.1, fun x => by rw [hc.2 x, decide_eq_decide.2 (hA3 x), decide_eq_decide.2 (hB3 x), hA3 x, hB3 x]⟩
  clear hA2 hA3 hB2 hB3 rA rB UA UB hA4 hB4
  go_wp2_with fail
  go_loopg [8] (LA.length + LB.length) (fun fu v8 wr => ∃ (s' t' : Value) (A1 B1 K : List Int), Hid (Lst w2 s' A1 ∧ Lst w2 t' B1 ∧ Took k LA LB A1 B1 K) ∧ Hid (PairAt w2.heap.size s' t' wr) ∧ A1.length + B1.length ≤ fu ∧ Hid (wr.ownsRow (w2.heap.size + 1) 24 1 v8 K.length (vals K)) ∧ Below w2.heap.size w2 wr)
  case atStart => exact ⟨_, _, LA, LB, [], hidd ⟨RA.out, RB.out, Took.start k LA LB⟩, hidd ⟨by go_simp, by go_simp, by go_simp, by go_simp⟩, Nat.le_refl _, World.ownsRow_nil _ _ _ _, allocB w2 _⟩
  case round =>
    obtain ⟨s', t', A1, B1, K, hT, hP, hfu, hO, hB2⟩ := hrel
    obtain ⟨ps', cs', rfl⟩ := hT.out.1.len
    obtain ⟨pt', ct', rfl⟩ := hT.out.2.1.len
    have EM := hidd (empty_any _ _ A1 B1 wr (hT.out.1.keep hB2) (hT.out.2.1.keep hB2))
    obtain ⟨p0, p1, f0, f1⟩ := hP.out
    have hKl := hT.out.2.2.len
    by_cases he : A1 = [] ∧ B1 = []
    · obtain ⟨rfl, rfl⟩ := he
      have TD := hidd (CH.out K hT.out.2.2.done)
      have hOv := hO.out
      obtain ⟨pv, cv, rfl, -⟩ := own_slice hOv
      replace hOv := hidd hOv
      clear hO
      simp only [List.isEmpty_nil, Bool.and_self] at EM
      clear hT hP CH RA RB vA vB rsA rsB hfu
      go_wp2_with fail
      refine EM.out.mono ?_
      rintro e w3 ⟨rfl, hw3⟩
      have b3 : Below wr.heap.size wr w3 := by rw [hw3]; exact allocB _ _
      have hOw := hidd (own_keep b3 hOv.out)
      have hB3 := hB'.trans ((belowT hB2 b3).mono hB'.size)
      clear hw3 EM hOv p0 p1 f0 f1 b3 hB2
      by_cases hm : K.length ≤ 20000
      · have hm2 : decide (20000 < K.length) = false := by simpa using hm
        go_wp2_with fail
        go_ret2
        exact ⟨⟨K, TD.out, .inl ⟨hm, _, rfl, Lst.own hOw.out⟩⟩, hB3⟩
      · have hm2 : decide (20000 < K.length) = true := by simpa using hm
        go_wp2_with fail
        go_ret2
        exact ⟨⟨K, TD.out, .inr ⟨by omega, rfl⟩⟩, hB3⟩
    · have hz : (A1.isEmpty && B1.isEmpty) = false := by
        cases A1 with
        | cons a A1 => rfl
        | nil =>
          cases B1 with
          | cons b B1 => rfl
          | nil => exact absurd ⟨rfl, rfl⟩ he
      rw [hz] at EM
      have TN := hidd (took_next hT.out.2.2 rsA.out rsB.out he)
      have hcl := cut_len he
      have tm := took_mem hT.out.2.2
      have NX := hidd fun w4 hb hP => next_any w2 w2.heap.size _ _ A1 B1 (Nat.le_refl _) (fun x hx => vA.out x (tm.1 x hx)) (fun x hx => vB.out x (tm.2 x hx)) hT.out.1 hT.out.2.1 w4 hb hP
      clear tm he hz
      generalize lstW A1 B1 = W at *
      generalize hdIs W A1 = x at *
      generalize hdIs W B1 = y at *
      generalize cutW x A1 = A2 at *
      generalize cutW y B1 = B2 at *
      go_wp2_with fail
      refine EM.out.mono ?_
      rintro e w3 ⟨rfl, hw3⟩
      have b3 : Below wr.heap.size wr w3 := by rw [hw3]; exact allocB _ _
      have hO3 := hidd (own_keep b3 hO.out)
      have hP3 := hP.out.keep b3
      have hB3 := belowT hB2 b3
      replace NX := hidd (NX.out w3 hB3 hP3)
      clear hw3 EM hO hP p0 p1 f0 f1 b3 hB2 hP3
      go_wp2_with fail
      refine NX.out.mono ?_
      rintro e w4 ⟨rfl, ⟨s2, t2, l1, l2, P4⟩, hB4, a4⟩
      have hO4 := hidd (a4.own hO3.out (Nat.lt_succ_self _))
      have q4 := World.block_lt_of_cell? _ _ P4.1
      have L4 := hidd (And.intro l1 l2)
      replace P4 := hidd P4
      clear NX hO3 a4 hB3 l1 l2 hT
      obtain ⟨z, ez⟩ : ∃ z, k x y = z := ⟨_, rfl⟩
      have KZ : Hid (∀ w, Calls Try.prog 39 #[.agg #[.bool x, .bool y]] w fun e w' => e = .returned (.bool z) ∧ w' = w.alloc (.cells #[.bool x, .bool y] 72)) := hidd fun w => by rw [← ez]; exact HK.out x y w
      rw [ez] at TN
      go_wp2_with fail
      refine (KZ.out _).mono ?_
      rintro e w5 ⟨rfl, hw5⟩
      have b5 : Below w4.heap.size w4 w5 := by rw [hw5]; exact belowT (allocB _ _) (allocB _ _)
      have hO5 := hidd (own_keep b5 hO4.out)
      have P5 := hidd (P4.out.keep b5)
      have hB5 := belowT hB4 b5
      have q5 := Nat.lt_of_lt_of_le q4 b5.size
      clear hw5 KZ hO4 P4 b5 hB4 q4
      have hOv := hO5.out
      obtain ⟨pv, cv, rfl, -⟩ := own_slice hOv
      clear hOv
      cases z with
      | false =>
        go_wp2_with fail
        go_roundg (A2.length + B2.length)
        case measure => omega
        case rel => exact ⟨s2, t2, A2, B2, K, hidd ⟨L4.out.1, L4.out.2, by simpa using TN.out⟩, P5, Nat.le_refl _, hO5, hB5⟩
      | true =>
        have TN2 : Hid (Took k LA LB A2 B2 (K ++ [W])) := hidd (by simpa using TN.out)
        go_wp2_with (at_builtin; refine wpList_append_own _ rfl (.tmp 35) (.tmp 37) 23 rfl (w2.heap.size + 1) 24 i0 (.int .u64 0) 1 8 Try.underlying23 hi hz0 hz1 hz2 rfl (by decide) _ _ _ rfl (own_keep (allocB _ _) hO5.out) ⟨w5.heap.size, 0, none⟩ 1 1 [.int .u64 W] rfl rfl (one_lies _ _ rfl _ _) (one_int _ _) (by unfold maxLen; omega) (by omega) (by simp; omega) ?_)
        intro v' w6 hown hgrow _
        have h6 : Below (w2.heap.size + 1) w5 w6 := ((allocB w5 (.cells #[.int .u64 W] 24)).mono (by omega)).grown hgrow (by simp; omega) (own_block hO5.out)
        have P6 := hidd (P5.out.low h6 (Nat.lt_succ_self _))
        have hB6 := hB5.trans (h6.mono (Nat.le_succ _))
        have hO6 : Hid (w6.ownsRow (w2.heap.size + 1) 24 1 v' (K ++ [W]).length (vals (K ++ [W]))) := hidd (by
          have e1 : (K ++ [W]).length = K.length + 1 := by simp
          have e2 : vals (K ++ [W]) = vals K ++ [.int .u64 W] := by simp [vals]
          rw [e1, e2]
          exact hown)
        clear hown hgrow h6 hO5 P5 hB5
        go_wp2_with fail
        go_roundg (A2.length + B2.length)
        case measure => omega
        case rel => exact ⟨s2, t2, A2, B2, K ++ [W], hidd ⟨L4.out.1, L4.out.2, TN2.out⟩, P6, Nat.le_refl _, hO6, hB6⟩

set_option maxHeartbeats 8000000 in
set_option maxRecDepth 20000 in
theorem choose_both (k : Bool → Bool → Bool)
    (hK : ∀ a b w, Calls Try.prog 40 #[.agg #[.bool a, .bool b]] w fun e w' => e = .returned (.bool (k a b)) ∧ w' = w.alloc (.cells #[.bool a, .bool b] 72))
    (s t : Value) (A B : List Int) (nA : A.length ≤ 20000) (nB : B.length ≤ 20000) (uA : ∀ x ∈ A, U64 x) (uB : ∀ x ∈ B, U64 x) (w : World) (hA : Lst w s A) (hB : Lst w t B) :
    Calls Try.prog 38 #[s, t, .func (.func 40) #[] #[]] w fun e w' => (∃ K, Chosen k A B K ∧ TellsChosen K e w') ∧ Below w.heap.size w w' := by
  have SA := hidd (cset s A (by omega) w hA)
  have SB := hidd fun w2 (hb : Below w.heap.size w w2) => cset t B (by omega) w2 (hB.keep hb)
  have HK := hidd hK
  have UA := hidd uA
  have UB := hidd uB
  obtain ⟨ps, cs, rfl⟩ := hA.len
  obtain ⟨pt, ct, rfl⟩ := hB.len
  have nA' : decide (20000 < A.length) = false := by simpa using nA
  have nB' : decide (20000 < B.length) = false := by simpa using nB
  clear hK uA uB hA hB
  obtain ⟨i0, hi, hz0, hz1, hz2⟩ := info_parts infoU64
  go_enter Try.func38, Try.ntmps38
  go_wp2_with fail
  refine SA.out.mono ?_
  rintro e w1 ⟨⟨gA, cA, LA, rfl, -, hA1, hA2, hA3, hA4, hA5⟩, b1⟩
  have rA := Lst.row (w := w1) hA1 hA5
  replace hA1 := hidd hA1
  clear hA5 SA
  go_wp2_with fail
  refine (SB.out _ b1).mono ?_
  rintro e w2 ⟨⟨gB, cB, LB, rfl, -, hB1, hB2, hB3, hB4, hB5⟩, b2⟩
  have rB := Lst.row (w := w2) hB1 hB5
  replace rA := rA.keep b2
  have hB' := belowT b1 b2
  clear hB5 SB b1 b2
  have RA := hidd rA
  have RB := hidd rB
  have vA : Hid (∀ x ∈ LA, U64 x) := hidd fun x hx => UA.out x ((hA3 x).1 hx)
  have vB : Hid (∀ x ∈ LB, U64 x) := hidd fun x hx => UB.out x ((hB3 x).1 hx)
  have rsA := hidd hA2
  have rsB := hidd hB2
  have nLA : LA.length ≤ 20000 := by omega
  have nLB : LB.length ≤ 20000 := by omega
  have CH : Hid (∀ K, Chosen k LA LB K → Chosen k A B K) := hidd fun K hc => ⟨hc.1, fun x => by rw [hc.2 x, decide_eq_decide.2 (hA3 x), decide_eq_decide.2 (hB3 x), hA3 x, hB3 x]⟩
  clear hA2 hA3 hB2 hB3 rA rB UA UB hA4 hB4
  go_wp2_with fail
  go_loopg [8] (LA.length + LB.length) (fun fu v8 wr => ∃ (s' t' : Value) (A1 B1 K : List Int), Hid (Lst w2 s' A1 ∧ Lst w2 t' B1 ∧ Took k LA LB A1 B1 K) ∧ Hid (PairAt w2.heap.size s' t' wr) ∧ A1.length + B1.length ≤ fu ∧ Hid (wr.ownsRow (w2.heap.size + 1) 24 1 v8 K.length (vals K)) ∧ Below w2.heap.size w2 wr)
  case atStart => exact ⟨_, _, LA, LB, [], hidd ⟨RA.out, RB.out, Took.start k LA LB⟩, hidd ⟨by go_simp, by go_simp, by go_simp, by go_simp⟩, Nat.le_refl _, World.ownsRow_nil _ _ _ _, allocB w2 _⟩
  case round =>
    obtain ⟨s', t', A1, B1, K, hT, hP, hfu, hO, hB2⟩ := hrel
    obtain ⟨ps', cs', rfl⟩ := hT.out.1.len
    obtain ⟨pt', ct', rfl⟩ := hT.out.2.1.len
    have EM := hidd (empty_any _ _ A1 B1 wr (hT.out.1.keep hB2) (hT.out.2.1.keep hB2))
    obtain ⟨p0, p1, f0, f1⟩ := hP.out
    have hKl := hT.out.2.2.len
    by_cases he : A1 = [] ∧ B1 = []
    · obtain ⟨rfl, rfl⟩ := he
      have TD := hidd (CH.out K hT.out.2.2.done)
      have hOv := hO.out
      obtain ⟨pv, cv, rfl, -⟩ := own_slice hOv
      replace hOv := hidd hOv
      clear hO
      simp only [List.isEmpty_nil, Bool.and_self] at EM
      clear hT hP CH RA RB vA vB rsA rsB hfu
      go_wp2_with fail
      refine EM.out.mono ?_
      rintro e w3 ⟨rfl, hw3⟩
      have b3 : Below wr.heap.size wr w3 := by rw [hw3]; exact allocB _ _
      have hOw := hidd (own_keep b3 hOv.out)
      have hB3 := hB'.trans ((belowT hB2 b3).mono hB'.size)
      clear hw3 EM hOv p0 p1 f0 f1 b3 hB2
      by_cases hm : K.length ≤ 20000
      · have hm2 : decide (20000 < K.length) = false := by simpa using hm
        go_wp2_with fail
        go_ret2
        exact ⟨⟨K, TD.out, .inl ⟨hm, _, rfl, Lst.own hOw.out⟩⟩, hB3⟩
      · have hm2 : decide (20000 < K.length) = true := by simpa using hm
        go_wp2_with fail
        go_ret2
        exact ⟨⟨K, TD.out, .inr ⟨by omega, rfl⟩⟩, hB3⟩
    · have hz : (A1.isEmpty && B1.isEmpty) = false := by
        cases A1 with
        | cons a A1 => rfl
        | nil =>
          cases B1 with
          | cons b B1 => rfl
          | nil => exact absurd ⟨rfl, rfl⟩ he
      rw [hz] at EM
      have TN := hidd (took_next hT.out.2.2 rsA.out rsB.out he)
      have hcl := cut_len he
      have tm := took_mem hT.out.2.2
      have NX := hidd fun w4 hb hP => next_any w2 w2.heap.size _ _ A1 B1 (Nat.le_refl _) (fun x hx => vA.out x (tm.1 x hx)) (fun x hx => vB.out x (tm.2 x hx)) hT.out.1 hT.out.2.1 w4 hb hP
      clear tm he hz
      generalize lstW A1 B1 = W at *
      generalize hdIs W A1 = x at *
      generalize hdIs W B1 = y at *
      generalize cutW x A1 = A2 at *
      generalize cutW y B1 = B2 at *
      go_wp2_with fail
      refine EM.out.mono ?_
      rintro e w3 ⟨rfl, hw3⟩
      have b3 : Below wr.heap.size wr w3 := by rw [hw3]; exact allocB _ _
      have hO3 := hidd (own_keep b3 hO.out)
      have hP3 := hP.out.keep b3
      have hB3 := belowT hB2 b3
      replace NX := hidd (NX.out w3 hB3 hP3)
      clear hw3 EM hO hP p0 p1 f0 f1 b3 hB2 hP3
      go_wp2_with fail
      refine NX.out.mono ?_
      rintro e w4 ⟨rfl, ⟨s2, t2, l1, l2, P4⟩, hB4, a4⟩
      have hO4 := hidd (a4.own hO3.out (Nat.lt_succ_self _))
      have q4 := World.block_lt_of_cell? _ _ P4.1
      have L4 := hidd (And.intro l1 l2)
      replace P4 := hidd P4
      clear NX hO3 a4 hB3 l1 l2 hT
      obtain ⟨z, ez⟩ : ∃ z, k x y = z := ⟨_, rfl⟩
      have KZ : Hid (∀ w, Calls Try.prog 40 #[.agg #[.bool x, .bool y]] w fun e w' => e = .returned (.bool z) ∧ w' = w.alloc (.cells #[.bool x, .bool y] 72)) := hidd fun w => by rw [← ez]; exact HK.out x y w
      rw [ez] at TN
      go_wp2_with fail
      refine (KZ.out _).mono ?_
      rintro e w5 ⟨rfl, hw5⟩
      have b5 : Below w4.heap.size w4 w5 := by rw [hw5]; exact belowT (allocB _ _) (allocB _ _)
      have hO5 := hidd (own_keep b5 hO4.out)
      have P5 := hidd (P4.out.keep b5)
      have hB5 := belowT hB4 b5
      have q5 := Nat.lt_of_lt_of_le q4 b5.size
      clear hw5 KZ hO4 P4 b5 hB4 q4
      have hOv := hO5.out
      obtain ⟨pv, cv, rfl, -⟩ := own_slice hOv
      clear hOv
      cases z with
      | false =>
        go_wp2_with fail
        go_roundg (A2.length + B2.length)
        case measure => omega
        case rel => exact ⟨s2, t2, A2, B2, K, hidd ⟨L4.out.1, L4.out.2, by simpa using TN.out⟩, P5, Nat.le_refl _, hO5, hB5⟩
      | true =>
        have TN2 : Hid (Took k LA LB A2 B2 (K ++ [W])) := hidd (by simpa using TN.out)
        go_wp2_with (at_builtin; refine wpList_append_own _ rfl (.tmp 35) (.tmp 37) 23 rfl (w2.heap.size + 1) 24 i0 (.int .u64 0) 1 8 Try.underlying23 hi hz0 hz1 hz2 rfl (by decide) _ _ _ rfl (own_keep (allocB _ _) hO5.out) ⟨w5.heap.size, 0, none⟩ 1 1 [.int .u64 W] rfl rfl (one_lies _ _ rfl _ _) (one_int _ _) (by unfold maxLen; omega) (by omega) (by simp; omega) ?_)
        intro v' w6 hown hgrow _
        have h6 : Below (w2.heap.size + 1) w5 w6 := ((allocB w5 (.cells #[.int .u64 W] 24)).mono (by omega)).grown hgrow (by simp; omega) (own_block hO5.out)
        have P6 := hidd (P5.out.low h6 (Nat.lt_succ_self _))
        have hB6 := hB5.trans (h6.mono (Nat.le_succ _))
        have hO6 : Hid (w6.ownsRow (w2.heap.size + 1) 24 1 v' (K ++ [W]).length (vals (K ++ [W]))) := hidd (by
          have e1 : (K ++ [W]).length = K.length + 1 := by simp
          have e2 : vals (K ++ [W]) = vals K ++ [.int .u64 W] := by simp [vals]
          rw [e1, e2]
          exact hown)
        clear hown hgrow h6 hO5 P5 hB5
        go_wp2_with fail
        go_roundg (A2.length + B2.length)
        case measure => omega
        case rel => exact ⟨s2, t2, A2, B2, K ++ [W], hidd ⟨L4.out.1, L4.out.2, TN2.out⟩, P6, Nat.le_refl _, hO6, hB6⟩

set_option maxHeartbeats 8000000 in
set_option maxRecDepth 20000 in
theorem choose_alone (k : Bool → Bool → Bool)
    (hK : ∀ a b w, Calls Try.prog 41 #[.agg #[.bool a, .bool b]] w fun e w' => e = .returned (.bool (k a b)) ∧ w' = w.alloc (.cells #[.bool a, .bool b] 72))
    (s t : Value) (A B : List Int) (nA : A.length ≤ 20000) (nB : B.length ≤ 20000) (uA : ∀ x ∈ A, U64 x) (uB : ∀ x ∈ B, U64 x) (w : World) (hA : Lst w s A) (hB : Lst w t B) :
    Calls Try.prog 38 #[s, t, .func (.func 41) #[] #[]] w fun e w' => (∃ K, Chosen k A B K ∧ TellsChosen K e w') ∧ Below w.heap.size w w' := by
  have SA := hidd (cset s A (by omega) w hA)
  have SB := hidd fun w2 (hb : Below w.heap.size w w2) => cset t B (by omega) w2 (hB.keep hb)
  have HK := hidd hK
  have UA := hidd uA
  have UB := hidd uB
  obtain ⟨ps, cs, rfl⟩ := hA.len
  obtain ⟨pt, ct, rfl⟩ := hB.len
  have nA' : decide (20000 < A.length) = false := by simpa using nA
  have nB' : decide (20000 < B.length) = false := by simpa using nB
  clear hK uA uB hA hB
  obtain ⟨i0, hi, hz0, hz1, hz2⟩ := info_parts infoU64
  go_enter Try.func38, Try.ntmps38
  go_wp2_with fail
  refine SA.out.mono ?_
  rintro e w1 ⟨⟨gA, cA, LA, rfl, -, hA1, hA2, hA3, hA4, hA5⟩, b1⟩
  have rA := Lst.row (w := w1) hA1 hA5
  replace hA1 := hidd hA1
  clear hA5 SA
  go_wp2_with fail
  refine (SB.out _ b1).mono ?_
  rintro e w2 ⟨⟨gB, cB, LB, rfl, -, hB1, hB2, hB3, hB4, hB5⟩, b2⟩
  have rB := Lst.row (w := w2) hB1 hB5
  replace rA := rA.keep b2
  have hB' := belowT b1 b2
  clear hB5 SB b1 b2
  have RA := hidd rA
  have RB := hidd rB
  have vA : Hid (∀ x ∈ LA, U64 x) := hidd fun x hx => UA.out x ((hA3 x).1 hx)
  have vB : Hid (∀ x ∈ LB, U64 x) := hidd fun x hx => UB.out x ((hB3 x).1 hx)
  have rsA := hidd hA2
  have rsB := hidd hB2
  have nLA : LA.length ≤ 20000 := by omega
  have nLB : LB.length ≤ 20000 := by omega
  have CH : Hid (∀ K, Chosen k LA LB K → Chosen k A B K) := hidd fun K hc => ⟨hc.1, fun x => by rw [hc.2 x, decide_eq_decide.2 (hA3 x), decide_eq_decide.2 (hB3 x), hA3 x, hB3 x]⟩
  clear hA2 hA3 hB2 hB3 rA rB UA UB hA4 hB4
  go_wp2_with fail
  go_loopg [8] (LA.length + LB.length) (fun fu v8 wr => ∃ (s' t' : Value) (A1 B1 K : List Int), Hid (Lst w2 s' A1 ∧ Lst w2 t' B1 ∧ Took k LA LB A1 B1 K) ∧ Hid (PairAt w2.heap.size s' t' wr) ∧ A1.length + B1.length ≤ fu ∧ Hid (wr.ownsRow (w2.heap.size + 1) 24 1 v8 K.length (vals K)) ∧ Below w2.heap.size w2 wr)
  case atStart => exact ⟨_, _, LA, LB, [], hidd ⟨RA.out, RB.out, Took.start k LA LB⟩, hidd ⟨by go_simp, by go_simp, by go_simp, by go_simp⟩, Nat.le_refl _, World.ownsRow_nil _ _ _ _, allocB w2 _⟩
  case round =>
    obtain ⟨s', t', A1, B1, K, hT, hP, hfu, hO, hB2⟩ := hrel
    obtain ⟨ps', cs', rfl⟩ := hT.out.1.len
    obtain ⟨pt', ct', rfl⟩ := hT.out.2.1.len
    have EM := hidd (empty_any _ _ A1 B1 wr (hT.out.1.keep hB2) (hT.out.2.1.keep hB2))
    obtain ⟨p0, p1, f0, f1⟩ := hP.out
    have hKl := hT.out.2.2.len
    by_cases he : A1 = [] ∧ B1 = []
    · obtain ⟨rfl, rfl⟩ := he
      have TD := hidd (CH.out K hT.out.2.2.done)
      have hOv := hO.out
      obtain ⟨pv, cv, rfl, -⟩ := own_slice hOv
      replace hOv := hidd hOv
      clear hO
      simp only [List.isEmpty_nil, Bool.and_self] at EM
      clear hT hP CH RA RB vA vB rsA rsB hfu
      go_wp2_with fail
      refine EM.out.mono ?_
      rintro e w3 ⟨rfl, hw3⟩
      have b3 : Below wr.heap.size wr w3 := by rw [hw3]; exact allocB _ _
      have hOw := hidd (own_keep b3 hOv.out)
      have hB3 := hB'.trans ((belowT hB2 b3).mono hB'.size)
      clear hw3 EM hOv p0 p1 f0 f1 b3 hB2
      by_cases hm : K.length ≤ 20000
      · have hm2 : decide (20000 < K.length) = false := by simpa using hm
        go_wp2_with fail
        go_ret2
        exact ⟨⟨K, TD.out, .inl ⟨hm, _, rfl, Lst.own hOw.out⟩⟩, hB3⟩
      · have hm2 : decide (20000 < K.length) = true := by simpa using hm
        go_wp2_with fail
        go_ret2
        exact ⟨⟨K, TD.out, .inr ⟨by omega, rfl⟩⟩, hB3⟩
    · have hz : (A1.isEmpty && B1.isEmpty) = false := by
        cases A1 with
        | cons a A1 => rfl
        | nil =>
          cases B1 with
          | cons b B1 => rfl
          | nil => exact absurd ⟨rfl, rfl⟩ he
      rw [hz] at EM
      have TN := hidd (took_next hT.out.2.2 rsA.out rsB.out he)
      have hcl := cut_len he
      have tm := took_mem hT.out.2.2
      have NX := hidd fun w4 hb hP => next_any w2 w2.heap.size _ _ A1 B1 (Nat.le_refl _) (fun x hx => vA.out x (tm.1 x hx)) (fun x hx => vB.out x (tm.2 x hx)) hT.out.1 hT.out.2.1 w4 hb hP
      clear tm he hz
      generalize lstW A1 B1 = W at *
      generalize hdIs W A1 = x at *
      generalize hdIs W B1 = y at *
      generalize cutW x A1 = A2 at *
      generalize cutW y B1 = B2 at *
      go_wp2_with fail
      refine EM.out.mono ?_
      rintro e w3 ⟨rfl, hw3⟩
      have b3 : Below wr.heap.size wr w3 := by rw [hw3]; exact allocB _ _
      have hO3 := hidd (own_keep b3 hO.out)
      have hP3 := hP.out.keep b3
      have hB3 := belowT hB2 b3
      replace NX := hidd (NX.out w3 hB3 hP3)
      clear hw3 EM hO hP p0 p1 f0 f1 b3 hB2 hP3
      go_wp2_with fail
      refine NX.out.mono ?_
      rintro e w4 ⟨rfl, ⟨s2, t2, l1, l2, P4⟩, hB4, a4⟩
      have hO4 := hidd (a4.own hO3.out (Nat.lt_succ_self _))
      have q4 := World.block_lt_of_cell? _ _ P4.1
      have L4 := hidd (And.intro l1 l2)
      replace P4 := hidd P4
      clear NX hO3 a4 hB3 l1 l2 hT
      obtain ⟨z, ez⟩ : ∃ z, k x y = z := ⟨_, rfl⟩
      have KZ : Hid (∀ w, Calls Try.prog 41 #[.agg #[.bool x, .bool y]] w fun e w' => e = .returned (.bool z) ∧ w' = w.alloc (.cells #[.bool x, .bool y] 72)) := hidd fun w => by rw [← ez]; exact HK.out x y w
      rw [ez] at TN
      go_wp2_with fail
      refine (KZ.out _).mono ?_
      rintro e w5 ⟨rfl, hw5⟩
      have b5 : Below w4.heap.size w4 w5 := by rw [hw5]; exact belowT (allocB _ _) (allocB _ _)
      have hO5 := hidd (own_keep b5 hO4.out)
      have P5 := hidd (P4.out.keep b5)
      have hB5 := belowT hB4 b5
      have q5 := Nat.lt_of_lt_of_le q4 b5.size
      clear hw5 KZ hO4 P4 b5 hB4 q4
      have hOv := hO5.out
      obtain ⟨pv, cv, rfl, -⟩ := own_slice hOv
      clear hOv
      cases z with
      | false =>
        go_wp2_with fail
        go_roundg (A2.length + B2.length)
        case measure => omega
        case rel => exact ⟨s2, t2, A2, B2, K, hidd ⟨L4.out.1, L4.out.2, by simpa using TN.out⟩, P5, Nat.le_refl _, hO5, hB5⟩
      | true =>
        have TN2 : Hid (Took k LA LB A2 B2 (K ++ [W])) := hidd (by simpa using TN.out)
        go_wp2_with (at_builtin; refine wpList_append_own _ rfl (.tmp 35) (.tmp 37) 23 rfl (w2.heap.size + 1) 24 i0 (.int .u64 0) 1 8 Try.underlying23 hi hz0 hz1 hz2 rfl (by decide) _ _ _ rfl (own_keep (allocB _ _) hO5.out) ⟨w5.heap.size, 0, none⟩ 1 1 [.int .u64 W] rfl rfl (one_lies _ _ rfl _ _) (one_int _ _) (by unfold maxLen; omega) (by omega) (by simp; omega) ?_)
        intro v' w6 hown hgrow _
        have h6 : Below (w2.heap.size + 1) w5 w6 := ((allocB w5 (.cells #[.int .u64 W] 24)).mono (by omega)).grown hgrow (by simp; omega) (own_block hO5.out)
        have P6 := hidd (P5.out.low h6 (Nat.lt_succ_self _))
        have hB6 := hB5.trans (h6.mono (Nat.le_succ _))
        have hO6 : Hid (w6.ownsRow (w2.heap.size + 1) 24 1 v' (K ++ [W]).length (vals (K ++ [W]))) := hidd (by
          have e1 : (K ++ [W]).length = K.length + 1 := by simp
          have e2 : vals (K ++ [W]) = vals K ++ [.int .u64 W] := by simp [vals]
          rw [e1, e2]
          exact hown)
        clear hown hgrow h6 hO5 P5 hB5
        go_wp2_with fail
        go_roundg (A2.length + B2.length)
        case measure => omega
        case rel => exact ⟨s2, t2, A2, B2, K ++ [W], hidd ⟨L4.out.1, L4.out.2, TN2.out⟩, P6, Nat.le_refl _, hO6, hB6⟩

set_option maxHeartbeats 2000000 in
theorem choose_many_either (s t : Value) (A B : List Int) (h : 20000 < A.length ∨ 20000 < B.length) (w : World) (hA : Lst w s A) (hB : Lst w t B) :
    Calls Try.prog 38 #[s, t, .func (.func 39) #[] #[]] w fun e w' => e = .returned (.tuple #[.slice none 0 0, .int .i64 7]) ∧ Below w.heap.size w w' := by
  obtain ⟨ps, cs, rfl⟩ := hA.len
  obtain ⟨pt, ct, rfl⟩ := hB.len
  clear hA hB
  by_cases h1 : 20000 < A.length
  · have h1' : decide (20000 < A.length) = true := decide_eq_true h1
    go_enter Try.func38, Try.ntmps38
    go_wp2_with fail
    go_ret2
    exact ⟨rfl, by go_grown⟩
  · have h1' : decide (20000 < A.length) = false := decide_eq_false h1
    have h2' : decide (20000 < B.length) = true := decide_eq_true (by omega)
    go_enter Try.func38, Try.ntmps38
    go_wp2_with fail
    go_ret2
    exact ⟨rfl, by go_grown⟩

set_option maxHeartbeats 2000000 in
/-- Union: of lists that may be. -/
theorem cunion (s t : Value) (A B : List Int) (nA : A.length ≤ 20000) (nB : B.length ≤ 20000) (uA : ∀ x ∈ A, U64 x) (uB : ∀ x ∈ B, U64 x) (w : World) (hA : Lst w s A) (hB : Lst w t B) :
    Calls Try.prog 18 #[s, t] w fun e w' => (∃ K, Chosen (fun a b => a || b) A B K ∧ TellsChosen K e w') ∧ Below w.heap.size w w' := by
  have CH := hidd (choose_either (fun a b => a || b) (fun a b w => side_either a b w) s t A B nA nB uA uB w hA hB)
  clear uA uB hA hB
  go_enter Try.func18, Try.ntmps18
  go_wp2_with fail
  refine CH.out.mono ?_
  rintro e w1 ⟨⟨K, hC, ⟨hn, v, rfl, hL⟩ | ⟨hn, rfl⟩⟩, hB⟩
  · have HC := hidd hC
    have HL := hidd hL
    clear hC hL CH
    go_wp2
    go_ret2
    exact ⟨⟨K, HC.out, .inl ⟨hn, v, rfl, HL.out⟩⟩, hB⟩
  · have HC := hidd hC
    clear hC CH
    go_wp2
    go_ret2
    exact ⟨⟨K, HC.out, .inr ⟨hn, rfl⟩⟩, hB⟩

set_option maxHeartbeats 2000000 in
/-- Union: of a list that is too long. -/
theorem cunion_many (s t : Value) (A B : List Int) (h : 20000 < A.length ∨ 20000 < B.length) (w : World) (hA : Lst w s A) (hB : Lst w t B) :
    Calls Try.prog 18 #[s, t] w fun e w' => e = .returned (.tuple #[.slice none 0 0, .int .i64 7]) ∧ Below w.heap.size w w' := by
  have CH := hidd (choose_many_either s t A B h w hA hB)
  clear hA hB
  go_enter Try.func18, Try.ntmps18
  go_wp2_with fail
  refine CH.out.mono ?_
  rintro e w1 ⟨rfl, hB⟩
  go_wp2
  go_ret2
  exact ⟨rfl, hB⟩

set_option maxHeartbeats 2000000 in
theorem choose_many_both (s t : Value) (A B : List Int) (h : 20000 < A.length ∨ 20000 < B.length) (w : World) (hA : Lst w s A) (hB : Lst w t B) :
    Calls Try.prog 38 #[s, t, .func (.func 40) #[] #[]] w fun e w' => e = .returned (.tuple #[.slice none 0 0, .int .i64 7]) ∧ Below w.heap.size w w' := by
  obtain ⟨ps, cs, rfl⟩ := hA.len
  obtain ⟨pt, ct, rfl⟩ := hB.len
  clear hA hB
  by_cases h1 : 20000 < A.length
  · have h1' : decide (20000 < A.length) = true := decide_eq_true h1
    go_enter Try.func38, Try.ntmps38
    go_wp2_with fail
    go_ret2
    exact ⟨rfl, by go_grown⟩
  · have h1' : decide (20000 < A.length) = false := decide_eq_false h1
    have h2' : decide (20000 < B.length) = true := decide_eq_true (by omega)
    go_enter Try.func38, Try.ntmps38
    go_wp2_with fail
    go_ret2
    exact ⟨rfl, by go_grown⟩

set_option maxHeartbeats 2000000 in
/-- Meet: of lists that may be. -/
theorem cmeet (s t : Value) (A B : List Int) (nA : A.length ≤ 20000) (nB : B.length ≤ 20000) (uA : ∀ x ∈ A, U64 x) (uB : ∀ x ∈ B, U64 x) (w : World) (hA : Lst w s A) (hB : Lst w t B) :
    Calls Try.prog 19 #[s, t] w fun e w' => (∃ K, Chosen (fun a b => a && b) A B K ∧ TellsChosen K e w') ∧ Below w.heap.size w w' := by
  have CH := hidd (choose_both (fun a b => a && b) (fun a b w => side_both a b w) s t A B nA nB uA uB w hA hB)
  clear uA uB hA hB
  go_enter Try.func19, Try.ntmps19
  go_wp2_with fail
  refine CH.out.mono ?_
  rintro e w1 ⟨⟨K, hC, ⟨hn, v, rfl, hL⟩ | ⟨hn, rfl⟩⟩, hB⟩
  · have HC := hidd hC
    have HL := hidd hL
    clear hC hL CH
    go_wp2
    go_ret2
    exact ⟨⟨K, HC.out, .inl ⟨hn, v, rfl, HL.out⟩⟩, hB⟩
  · have HC := hidd hC
    clear hC CH
    go_wp2
    go_ret2
    exact ⟨⟨K, HC.out, .inr ⟨hn, rfl⟩⟩, hB⟩

set_option maxHeartbeats 2000000 in
/-- Meet: of a list that is too long. -/
theorem cmeet_many (s t : Value) (A B : List Int) (h : 20000 < A.length ∨ 20000 < B.length) (w : World) (hA : Lst w s A) (hB : Lst w t B) :
    Calls Try.prog 19 #[s, t] w fun e w' => e = .returned (.tuple #[.slice none 0 0, .int .i64 7]) ∧ Below w.heap.size w w' := by
  have CH := hidd (choose_many_both s t A B h w hA hB)
  clear hA hB
  go_enter Try.func19, Try.ntmps19
  go_wp2_with fail
  refine CH.out.mono ?_
  rintro e w1 ⟨rfl, hB⟩
  go_wp2
  go_ret2
  exact ⟨rfl, hB⟩

set_option maxHeartbeats 2000000 in
theorem choose_many_alone (s t : Value) (A B : List Int) (h : 20000 < A.length ∨ 20000 < B.length) (w : World) (hA : Lst w s A) (hB : Lst w t B) :
    Calls Try.prog 38 #[s, t, .func (.func 41) #[] #[]] w fun e w' => e = .returned (.tuple #[.slice none 0 0, .int .i64 7]) ∧ Below w.heap.size w w' := by
  obtain ⟨ps, cs, rfl⟩ := hA.len
  obtain ⟨pt, ct, rfl⟩ := hB.len
  clear hA hB
  by_cases h1 : 20000 < A.length
  · have h1' : decide (20000 < A.length) = true := decide_eq_true h1
    go_enter Try.func38, Try.ntmps38
    go_wp2_with fail
    go_ret2
    exact ⟨rfl, by go_grown⟩
  · have h1' : decide (20000 < A.length) = false := decide_eq_false h1
    have h2' : decide (20000 < B.length) = true := decide_eq_true (by omega)
    go_enter Try.func38, Try.ntmps38
    go_wp2_with fail
    go_ret2
    exact ⟨rfl, by go_grown⟩

set_option maxHeartbeats 2000000 in
/-- Minus: of lists that may be. -/
theorem cminus (s t : Value) (A B : List Int) (nA : A.length ≤ 20000) (nB : B.length ≤ 20000) (uA : ∀ x ∈ A, U64 x) (uB : ∀ x ∈ B, U64 x) (w : World) (hA : Lst w s A) (hB : Lst w t B) :
    Calls Try.prog 20 #[s, t] w fun e w' => (∃ K, Chosen (fun a b => a && !b) A B K ∧ TellsChosen K e w') ∧ Below w.heap.size w w' := by
  have CH := hidd (choose_alone (fun a b => a && !b) (fun a b w => side_alone a b w) s t A B nA nB uA uB w hA hB)
  clear uA uB hA hB
  go_enter Try.func20, Try.ntmps20
  go_wp2_with fail
  refine CH.out.mono ?_
  rintro e w1 ⟨⟨K, hC, ⟨hn, v, rfl, hL⟩ | ⟨hn, rfl⟩⟩, hB⟩
  · have HC := hidd hC
    have HL := hidd hL
    clear hC hL CH
    go_wp2
    go_ret2
    exact ⟨⟨K, HC.out, .inl ⟨hn, v, rfl, HL.out⟩⟩, hB⟩
  · have HC := hidd hC
    clear hC CH
    go_wp2
    go_ret2
    exact ⟨⟨K, HC.out, .inr ⟨hn, rfl⟩⟩, hB⟩

set_option maxHeartbeats 2000000 in
/-- Minus: of a list that is too long. -/
theorem cminus_many (s t : Value) (A B : List Int) (h : 20000 < A.length ∨ 20000 < B.length) (w : World) (hA : Lst w s A) (hB : Lst w t B) :
    Calls Try.prog 20 #[s, t] w fun e w' => e = .returned (.tuple #[.slice none 0 0, .int .i64 7]) ∧ Below w.heap.size w w' := by
  have CH := hidd (choose_many_alone s t A B h w hA hB)
  clear hA hB
  go_enter Try.func20, Try.ntmps20
  go_wp2_with fail
  refine CH.out.mono ?_
  rintro e w1 ⟨rfl, hB⟩
  go_wp2
  go_ret2
  exact ⟨rfl, hB⟩

end Go.Proofs.Ytogkfmoediiieaa
