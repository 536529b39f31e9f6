/-
  What a pair of rows that are gone through side by side tells: whether it is empty, its least word, and what is left behind it; in whatever memory.
-/
import Derived.Test.YtogkfmoediiieaaW0C
import Derived.Test.YtogkfmoediiieaaSetMath
import Derived.Test.YtogkfmoediiieaaULst
import Derived.Laws.BitsAllLaws
import Derived.Handy
import Derived.Deep.QuietTactic
import Derived.Test.YtogkfmoediiieaaProg
import Derived.WalkSpells
import Derived.WalkLawsBesides
import Derived.BigQuiet
import Derived.PlainAid
import Derived.Deep.RegionWith
import Derived.Deep.RegionHeld3
import Derived.WalkSmall
import Derived.Deep.CutRange
import Derived.BigRegion
import Derived.OwnWalk
import Derived.Laws.OwnMore
import Derived.OneCell
import Derived.Laws.CopyOwn
import Derived.Sort.Row
import Derived.Deep.Cut
namespace Go.Proofs.Ytogkfmoediiieaa
open Go.RowKit

/-- The least word that is left. -/
def lstW : List Int → List Int → Int
  | [], [] => 18446744073709551615
  | a :: _, [] => a
  | [], b :: _ => b
  | a :: _, b :: _ => min a b

def hdIs (w : Int) : List Int → Bool
  | [] => false
  | a :: _ => a == w

def cutW (b : Bool) (L : List Int) : List Int := if b = true then L.tail else L

theorem hd_facts {w : Int} {L : List Int} (hR : Rising L) (hw : ∀ a ∈ L.head?, w ≤ a) : (hdIs w L = true ∧ L = w :: cutW (hdIs w L) L) ∨ (hdIs w L = false ∧ cutW (hdIs w L) L = L ∧ ∀ y ∈ L, w < y) := by
  cases L with
  | nil => exact .inr ⟨rfl, rfl, fun y hy => by simp at hy⟩
  | cons a L =>
    have h1 := List.pairwise_cons.1 hR
    have h2 := hw a (by simp)
    by_cases e : a = w
    · subst e
      have : hdIs a (a :: L) = true := by simp [hdIs]
      rw [this]
      exact .inl ⟨rfl, rfl⟩
    · have : hdIs w (a :: L) = false := by simp [hdIs, e]
      rw [this]
      refine .inr ⟨rfl, rfl, fun y hy => ?_⟩
      rcases List.mem_cons.1 hy with rfl | hy
      · omega
      · have := h1.1 y hy; omega

theorem lst_facts {A B : List Int} (h : ¬ (A = [] ∧ B = [])) : (∀ a ∈ A.head?, lstW A B ≤ a) ∧ (∀ b ∈ B.head?, lstW A B ≤ b) ∧ (hdIs (lstW A B) A = true ∨ hdIs (lstW A B) B = true) := by
  cases A with
  | nil =>
    cases B with
    | nil => exact absurd ⟨rfl, rfl⟩ h
    | cons b B => simp [lstW, hdIs]
  | cons a A =>
    cases B with
    | nil => simp [lstW, hdIs]
    | cons b B =>
      simp only [lstW, hdIs, List.head?_cons, Option.mem_def, Option.some.injEq, forall_eq', beq_iff_eq]
      omega

theorem took_next {k : Bool → Bool → Bool} {A B A1 B1 K : List Int} (h : Took k A B A1 B1 K) (hA : Rising A) (hB : Rising B) (hne : ¬ (A1 = [] ∧ B1 = [])) :
    Took k A B (cutW (hdIs (lstW A1 B1) A1) A1) (cutW (hdIs (lstW A1 B1) B1) B1) (if k (hdIs (lstW A1 B1) A1) (hdIs (lstW A1 B1) B1) = true then K ++ [lstW A1 B1] else K) := by
  have f := lst_facts hne
  have hRA : Rising A1 := by obtain ⟨A0, B0, e1, _⟩ := h; rw [e1] at hA; exact (List.pairwise_append.1 hA).2.1
  have hRB : Rising B1 := by obtain ⟨A0, B0, _, e2, _⟩ := h; rw [e2] at hB; exact (List.pairwise_append.1 hB).2.1
  exact h.step hA hB f.2.2 (hd_facts hRA f.1) (hd_facts hRB f.2.1)

/-- A slice without its first word. -/
theorem Lst.tail {w : World} {p : Option Addr} {n cap : Nat} {L : List Int} (h : Lst w (.slice p n cap) L) (h1 : 0 < n) : ∃ g o, p = some ⟨g, o, none⟩ ∧ n ≤ cap ∧ L.length = n ∧ w.cell? ⟨g, o + 0, none⟩ = some (.int .u64 (L.headD 0)) ∧
    Lst w (.slice (some ⟨g, o + 1, none⟩) (n - 1) (cap - 1)) L.tail ∧ (cap = 1 → Lst w (.slice (some ⟨g, o, none⟩) 0 0) L.tail) := by
  obtain ⟨q, c, e, h2, h3⟩ := h
  simp only [Value.slice.injEq] at e
  obtain ⟨rfl, e2, rfl⟩ := e
  obtain ⟨g, o, rfl, hc⟩ := h3 0 (by omega)
  cases L with
  | nil => simp at e2; omega
  | cons a L =>
    have hl : L.length = n - 1 := by simp at e2; omega
    refine ⟨g, o, rfl, by rw [e2]; exact h2, e2.symm, by simpa using hc, ?_, fun hcap => ?_⟩
    · rw [← hl]
      refine Lst.row (by rw [hl]; omega) fun j hj => ?_
      obtain ⟨g', o', e', hc'⟩ := h3 (j + 1) (by simpa using hj)
      simp only [Option.some.injEq, Addr.mk.injEq, and_true] at e'
      obtain ⟨rfl, rfl⟩ := e'
      rw [show o + 1 + j = o + (j + 1) by omega, hc']
      simp
    · have : L = [] := List.length_eq_zero_iff.1 (by omega)
      subst this
      exact Lst.none' w _ 0

set_option maxHeartbeats 1000000 in
theorem begins_any (s : Value) (w0 : Int) (L : List Int) (w : World) (h : Lst w s L) :
    Calls Try.prog 81 #[s, .int .u64 w0] w fun e w' => e = .returned (.bool (hdIs w0 L)) ∧ w' = w := by
  cases L with
  | nil =>
    obtain ⟨p, cap, rfl, -, -⟩ := h
    go_enter Try.func81, Try.ntmps81
    go_wp2
    go_ret
    exact ⟨rfl, rfl⟩
  | cons a L =>
    obtain ⟨p, cap, rfl, hcap, hc⟩ := h
    obtain ⟨g, o, rfl, c0⟩ := hc 0 (by simp)
    simp only [List.getElem_cons_zero, Nat.add_zero] at c0
    have hn : decide (0 < (a :: L).length) = true := by simp
    have hn2 : 0 < (a :: L).length := by simp
    clear hc
    generalize (a :: L).length = n at *
    go_enter Try.func81, Try.ntmps81
    go_wp2_with fail
    go_ret
    exact ⟨rfl, rfl⟩

set_option maxHeartbeats 1000000 in
theorem empty_any (s t : Value) (A B : List Int) (w : World) (hA : Lst w s A) (hB : Lst w t B) :
    Calls Try.prog 55 #[.agg #[s, t]] w fun e w' => e = .returned (.bool (A.isEmpty && B.isEmpty)) ∧ w' = w.alloc (.cells #[s, t] 90) := by
  obtain ⟨p, c, rfl, -, -⟩ := hA
  obtain ⟨q, d, rfl, -, -⟩ := hB
  go_enter Try.func55, Try.ntmps55
  have hE : ∀ L : List Int, ((L.length : Int) == 0) = L.isEmpty := fun L => by cases L <;> simp <;> omega
  have eA := hE A
  have eB := hE B
  generalize A.isEmpty = x at *
  generalize B.isEmpty = y at *
  generalize A.length = n at *
  generalize B.length = m at *
  clear hE
  cases x
  · go_wp2
    go_ret
    exact ⟨by simp, rfl⟩
  · go_wp2
    go_ret
    exact ⟨by simp, rfl⟩

theorem two_0 (p : Option Addr) (n c : Nat) (q : Option Addr) (m d : Nat) (w : World) : (Instr.index 131 (.agg #[.slice p n c, .slice q m d]) (.int .i64 0)).run Try.prog w = .ok (.slice p n c) w := by kernel_rfl

theorem two_1 (p : Option Addr) (n c : Nat) (q : Option Addr) (m d : Nat) (w : World) : (Instr.index 131 (.agg #[.slice p n c, .slice q m d]) (.int .i64 1)).run Try.prog w = .ok (.slice q m d) w := by kernel_rfl

set_option maxHeartbeats 2000000 in
set_option maxRecDepth 20000 in
theorem least_any (s t : Value) (A B : List Int) (w : World) (hA : Lst w s A) (hB : Lst w t B) (uA : ∀ x ∈ A, U64 x) (uB : ∀ x ∈ B, U64 x) :
    Calls Try.prog 80 #[.agg #[s, t]] w fun e w' => e = .returned (.int .u64 (lstW A B)) ∧ w' = w.alloc (.cells #[s, t] 90) := by
  obtain ⟨p, c, rfl, pc, hA⟩ := hA
  obtain ⟨q, d, rfl, qd, hB⟩ := hB
  go_enter Try.func80, Try.ntmps80
  go_wp2_with fail
  go_loopw [3, 11] (fun v3 v11 wr => wr = w.alloc (.cells #[.slice p A.length c, .slice q B.length d] 90) ∧ ((v11 = .int .i64 0 ∧ v3 = .int .u64 18446744073709551615) ∨ (v11 = .int .i64 1 ∧ v3 = .int .u64 (A.headD 18446744073709551615)) ∨ (v11 = .int .i64 2 ∧ v3 = .int .u64 (lstW A B)))) (fun _ v11 _ => 2 - (intOf v11).toNat)
  case atStart => exact ⟨rfl, .inl ⟨rfl, rfl⟩⟩
  case round =>
    obtain ⟨hw, ⟨rfl, rfl⟩ | ⟨rfl, rfl⟩ | ⟨rfl, rfl⟩⟩ := hrel
    all_goals have hb : Below w.heap.size w wr := by rw [hw]; exact allocB _ _
    all_goals replace hw : Hid _ := hw
    · cases A with
      | nil =>
        have ix := two_0 p 0 c q B.length d
        go_wp2_with fail
        go_roundw
        case rel => exact ⟨hw.out, .inr (.inl ⟨by go_num, rfl⟩)⟩
        case measure => simp [intOf]
      | cons a A =>
        obtain ⟨g, o, rfl, c0⟩ := hA 0 (by simp)
        simp only [List.getElem_cons_zero, Nat.add_zero] at c0
        replace c0 := keepCell hb c0
        obtain ⟨a0, a1⟩ := uA a (by simp)
        have hn : decide (0 < (a :: A).length) = true := by simp
        have hn2 : 0 < (a :: A).length := by simp
        clear hA
        generalize (a :: A).length = n at *
        have ix := two_0 (some ⟨g, o, none⟩) n c q B.length d
        go_wp2_with fail
        go_roundw
        case rel => exact ⟨hw.out, .inr (.inl ⟨by go_num, by simp; omega⟩)⟩
        case measure => simp [intOf]
    · cases B with
      | nil =>
        have ix := two_1 p A.length c q 0 d
        go_wp2_with fail
        go_roundw
        case rel => exact ⟨hw.out, .inr (.inr ⟨by go_num, by cases A <;> rfl⟩)⟩
        case measure => simp [intOf]
      | cons a B =>
        obtain ⟨g, o, rfl, c0⟩ := hB 0 (by simp)
        simp only [List.getElem_cons_zero, Nat.add_zero] at c0
        replace c0 := keepCell hb c0
        obtain ⟨a0, a1⟩ := uB a (by simp)
        have hn : decide (0 < (a :: B).length) = true := by simp
        have hn2 : 0 < (a :: B).length := by simp
        clear hB
        generalize (a :: B).length = n at *
        have ix := two_1 p A.length c (some ⟨g, o, none⟩) n d
        go_wp2_with fail
        go_roundw
        case rel => exact ⟨hw.out, .inr (.inr ⟨by go_num, by cases A <;> (simp [lstW]; omega)⟩)⟩
        case measure => simp [intOf]
    · go_wp2
      go_ret
      exact ⟨rfl, hw.out⟩

end Go.Proofs.Ytogkfmoediiieaa
