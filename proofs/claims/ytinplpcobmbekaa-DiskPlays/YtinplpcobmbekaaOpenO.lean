/-
  A list of calls that a law is handed, opened; bytes that it is handed; no condition beyond those written.
-/
import Derived.Test.YtinplpcobmbekaaBD
import Derived.Test.YtinplpcobmbekaaIdentMathD
import Derived.Laws.BitsAllLaws
import Derived.Handy
import Derived.Deep.QuietTactic
import Derived.Test.YtinplpcobmbekaaProg
import Derived.WalkSpells
import Derived.WalkLawsBesides
import Derived.BigQuiet
import Derived.PlainAid
import Derived.Deep.RegionWith
import Derived.Deep.RegionHeld3
import Derived.WalkSmall
import Derived.Deep.CutRange
import Derived.BigRegion
import Derived.OwnWalk
import Derived.Laws.OwnMore
import Derived.OneCell
import Derived.Laws.CopyOwn
import Derived.Sort.Row
import Derived.ChangeSlices
import Derived.OpenShut
import Derived.ChangeArms
namespace Go.Proofs.Ytinplpcobmbekaa
open Go.ChangeShapes Go.WideShapes Go.RowKit

theorem u8_wf {x : Int} (h : (Lit.int .u8 x).wf = true) : 0 ≤ x ∧ x < 256 := by
  have e1 : IntKind.u8.min = 0 := rfl
  have e2 : IntKind.u8.max = 255 := rfl
  simp [Lit.wf, e1, e2] at h
  omega

/-- A call that a script holds. -/
structure OpD where
  kind : Int
  at_ : Int
  n : Int
  keep : Int

def I64 (x : Int) : Prop := -9223372036854775808 ≤ x ∧ x ≤ 9223372036854775807

/-- The value v is a slice that holds the calls L. -/
def OpsL (w : World) (v : Value) (L : List OpD) : Prop :=
  ∃ p cap, v = .slice p L.length cap ∧ L.length ≤ cap ∧ ∀ (j : Nat) (hj : j < L.length), ∃ g o, p = some ⟨g, o, none⟩ ∧ w.cell? ⟨g, o + j * 4, none⟩ = some (.int .i64 L[j].kind) ∧ w.cell? ⟨g, o + j * 4 + 1, none⟩ = some (.int .i64 L[j].at_) ∧ w.cell? ⟨g, o + j * 4 + 2, none⟩ = some (.int .i64 L[j].n) ∧ w.cell? ⟨g, o + j * 4 + 3, none⟩ = some (.int .i64 L[j].keep) ∧ I64 L[j].kind ∧ I64 L[j].at_ ∧ I64 L[j].n ∧ I64 L[j].keep

theorem list_ofD {α : Type} {Q : Nat → α → Prop} : ∀ {n : Nat}, (∀ i, i < n → ∃ p, Q i p) → ∃ L : List α, L.length = n ∧ ∀ i (hi : i < L.length), Q i L[i]
  | 0, _ => ⟨[], rfl, fun i hi => absurd hi (Nat.not_lt_zero _)⟩
  | n + 1, h => by
    obtain ⟨L, hl, hL⟩ := list_ofD (n := n) fun i hi => h i (by omega)
    obtain ⟨p, hp⟩ := h n (by omega)
    refine ⟨L ++ [p], by simp [hl], fun i hi => ?_⟩
    by_cases c : i < L.length
    · rw [List.getElem_append_left c]; exact hL i c
    · have e : i = n := by simp at hi; omega
      subst e
      have e2 : (L ++ [p])[i] = p := by rw [List.getElem_append_right (by omega)]; simp
      rw [e2]; exact hp

section
variable {H : Type} {enc : TypeId × Value → H} {w : World} {base : Nat} {sp : Nat → Bool} {held : Bool} {fuel : Nat}
theorem cellsOpI : Try.prog.cellsOf 3 = 1 := by kernel_rfl
theorem cellsOp : Try.prog.cellsOf 26 = 4 := by kernel_rfl
theorem open_op {cs : List Value} {x : DataW H × List MemPlace} (h : DataW.trod enc Try.prog w base sp held fuel 26 cs = some x) : ∃ o : OpD, cs = [.int .i64 o.kind, .int .i64 o.at_, .int .i64 o.n, .int .i64 o.keep] ∧ I64 o.kind ∧ I64 o.at_ ∧ I64 o.n ∧ I64 o.keep := by
  obtain ⟨xs, m, _, _, hl, hlen, hf⟩ := DataW.trod_struct Try.underlying26 h
  rw [cellsOp] at hl
  have h0 := hf 0 _ rfl
  have h1 := hf 1 _ rfl
  have h2 := hf 2 _ rfl
  have h3 := hf 3 _ rfl
  match xs, hlen with
  | [y0, y1, y2, y3], _ =>
    obtain ⟨a, ea, -, wa⟩ := DataW.trod_int Try.underlying3 h0
    obtain ⟨b, eb, -, wb⟩ := DataW.trod_int Try.underlying3 h1
    obtain ⟨c, ec, -, wc⟩ := DataW.trod_int Try.underlying3 h2
    obtain ⟨d, ed, -, wd⟩ := DataW.trod_int Try.underlying3 h3
    match cs, hl with
    | [u, v, z, t], _ =>
      have ea : u = .int .i64 a := by simpa [cellsOpI] using ea
      have eb : v = .int .i64 b := by simpa [cellsOpI] using eb
      have ec : z = .int .i64 c := by simpa [cellsOpI] using ec
      have ed : t = .int .i64 d := by simpa [cellsOpI] using ed
      exact ⟨⟨a, b, c, d⟩, by rw [ea, eb, ec, ed], i64_wf wa, i64_wf wb, i64_wf wc, i64_wf wd⟩
theorem open_ops {v : Value} {d : DataW H} {ps : List MemPlace} {r0 : Reach} {b0 : Nat} (hval : Value.okWide Try.prog w r0 b0 22 v) (h : DataW.Trod enc Try.prog w base sp held 22 v d ps) : ∃ L, OpsL w v L := by
  obtain ⟨a0, l0, c0, rfl⟩ := okWide_slice Try.underlying22 hval
  obtain ⟨fuel, hf⟩ := h
  rcases DataW.trod_slice Try.underlying22 hf with ⟨hcs, -⟩ | ⟨a, len, cap, elems, rest, n, -, hcs, -, hb, hle, hm, hlen, hel, -, -⟩
  · simp [Value.cells] at hcs
    obtain ⟨rfl, rfl, rfl⟩ := hcs
    exact ⟨[], none, 0, rfl, Nat.le_refl _, fun j hj => absurd hj (Nat.not_lt_zero _)⟩
  · simp [Value.cells] at hcs
    obtain ⟨rfl, rfl, rfl⟩ := hcs
    have hq : ∀ i, i < l0 → ∃ q : OpD, (∀ j u, ([.int .i64 q.kind, .int .i64 q.at_, .int .i64 q.n, .int .i64 q.keep] : List Value)[j]? = some u → w.cell? ((a.add (i * 4)).add j) = some u) ∧ I64 q.kind ∧ I64 q.at_ ∧ I64 q.n ∧ I64 q.keep := fun i hi => by
      have h1 := hel i hi
      rw [cellsOp, List.getElem?_eq_getElem (by omega), Option.bind_eq_some_iff] at h1
      obtain ⟨cs', h2, h3⟩ := h1
      obtain ⟨o, e, hb⟩ := open_op h3
      have h4 := World.cells?_some h2
      refine ⟨o, fun j u hj => ?_, hb⟩
      have hj4 : j < 4 := by
        have := (List.getElem?_eq_some_iff.1 hj).1
        simpa using this
      rw [← hj, ← e]
      exact h4.2.2 j hj4
    obtain ⟨Q, hQ, hq⟩ := list_ofD hq
    refine ⟨Q, some a, c0, by rw [hQ], by omega, fun j hj => ?_⟩
    obtain ⟨h5, h6⟩ := hq j hj
    obtain ⟨b, off, spot⟩ := a
    have hspot : spot = none := by
      have := World.cell?_spot ((hq 0 (by omega)).1 0 _ rfl)
      simpa [Addr.add] using this
    subst hspot
    have e0 := h5 0 _ rfl
    have e1 := h5 1 _ rfl
    have e2 := h5 2 _ rfl
    have e3 := h5 3 _ rfl
    simp only [add_plain, Nat.add_zero] at e0 e1 e2 e3
    exact ⟨b, off, rfl, e0, e1, e2, e3, h6⟩
end

end Go.Proofs.Ytinplpcobmbekaa
