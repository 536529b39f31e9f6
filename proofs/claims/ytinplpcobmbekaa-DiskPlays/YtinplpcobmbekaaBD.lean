/-
  What the texts Plain, Halves, OwnKit, ERing, Mask, ESmall, URow, OpenL say, so far as this seat's proofs need it.
-/
import Derived.Handy
import Derived.Deep.QuietTactic
import Derived.Test.YtinplpcobmbekaaProg
import Derived.WalkSpells
import Derived.WalkLawsBesides
import Derived.BigQuiet
import Derived.PlainAid
import Derived.Deep.RegionWith
import Derived.Laws.BitsAllLaws
import Derived.OwnWalk
import Derived.Laws.OwnMore
import Derived.Deep.RegionHeld3
import Derived.WalkSmall
import Derived.Deep.CutRange
import Derived.BigRegion
import Derived.OneCell
import Derived.Laws.CopyOwn
import Derived.Sort.Row
import Derived.ChangeSlices
import Derived.OpenShut
namespace Go.Proofs.Ytinplpcobmbekaa
open Go.RowKit

theorem belowN {B : Nat} {w0 w : World} (h : Below B w0 w) (n : Nat) : Below B w0 (w.drewN n) := h.trans ⟨rfl, rfl, rfl, Nat.le_refl _, fun _ _ => rfl⟩

theorem belowT {a b c : World} (h : Below a.heap.size a b) (k : Below b.heap.size b c) : Below a.heap.size a c := h.trans (k.mono h.size)

theorem df {p : Prop} [Decidable p] (h : ¬ p) : decide p = false := decide_eq_false h

/-- A number of 64 bits with a sign. -/
def fits (n : Int) : Bool := decide (-9223372036854775808 ≤ n ∧ n ≤ 9223372036854775807)

theorem fits_mk {n : Int} (h : -9223372036854775808 ≤ n ∧ n ≤ 9223372036854775807) : fits n = true := decide_eq_true h

theorem wrap_fits {n : Int} (h : -9223372036854775808 ≤ n ∧ n ≤ 9223372036854775807) : wrap64 n = n := IntWalk.wrap64_in n h

end Go.Proofs.Ytinplpcobmbekaa
namespace Go.Proofs.Ytinplpcobmbekaa
open Go.RowKit

theorem keepCell {a b : World} {p : Addr} {v : Value} (hb : Below a.heap.size a b) (h : a.cell? p = some v) : b.cell? p = some v := (hb.cell (World.block_lt_of_cell? _ _ h)).trans h

theorem keepFrozen {a b : World} {p : Addr} {v : Value} (hb : Below a.heap.size a b) (h : a.cell? p = some v) (hf : a.frozen? p = false) : b.frozen? p = false := (hb.frozen (World.block_lt_of_cell? _ _ h)).trans hf

end Go.Proofs.Ytinplpcobmbekaa
namespace Go.Proofs.Ytinplpcobmbekaa
open Go.RowKit

theorem keepLow {B : Nat} {a b : World} {p : Addr} {v : Value} (h : Below B a b) (hc : a.cell? p = some v) (hl : p.block < B) : b.cell? p = some v := (h.cell hl).trans hc

theorem own_keep {a b : World} {base : Nat} {e : TypeId} {size : Nat} {v : Value} {n : Nat} {xs : List Value} (hb : Below a.heap.size a b) (h : a.ownsRow base e size v n xs) : b.ownsRow base e size v n xs :=
  h.kept (row := none) ⟨hb.os, hb.tape, hb.output, hb.size, fun k hk _ => hb.block k hk⟩ (by cases v.ownBlock <;> simp)

theorem own_shape {w : World} {base : Nat} {e : TypeId} {size : Nat} {v : Value} {n : Nat} {xs : List Value} (h : w.ownsRow base e size v n xs) (hn : 0 < n) : ∃ g cap, v = .slice (some ⟨g, 0, none⟩) n cap := by
  rcases h.2 with ⟨_, h0⟩ | ⟨g, cap, cur, hv, _⟩
  · omega
  · exact ⟨g, cap, hv⟩

theorem own_block {w : World} {base : Nat} {e : TypeId} {size : Nat} {v : Value} {n : Nat} {xs : List Value} (h : w.ownsRow base e size v n xs) : ∀ k, v.ownBlock = some k → base ≤ k := by
  intro k hk
  rcases h.2 with ⟨rfl, _⟩ | ⟨g, cap, cur, rfl, hb, _⟩
  · simp [Value.ownBlock] at hk
  · simp [Value.ownBlock] at hk; omega

end Go.Proofs.Ytinplpcobmbekaa
namespace Go.Proofs.Ytinplpcobmbekaa
open Go.RowKit

theorem drewB (w : World) : Below w.heap.size w w.drew := (Below.refl _ _).drew

end Go.Proofs.Ytinplpcobmbekaa
namespace Go.Proofs.Ytinplpcobmbekaa
open Go.RowKit

theorem i64_mask (n : Int) (j : Nat) (hj : j < 63) : bits .and .i64 n ((2 ^ j - 1 : Nat) : Int) = n % ((2 ^ j : Nat) : Int) := by
  have hp : (2 : Nat) ^ j ∣ 2 ^ 64 := Nat.pow_dvd_pow 2 (by omega)
  have hle : (2 : Nat) ^ j ≤ 2 ^ 62 := Nat.pow_le_pow_right (by omega) (by omega)
  have hpos : 0 < (2 : Nat) ^ j := Nat.pow_pos (by omega)
  have hm : (BitVec.ofInt 64 ((2 ^ j - 1 : Nat) : Int)).toNat = 2 ^ j - 1 := ofInt_u64 _ (by omega)
  have hn : ((BitVec.ofInt 64 n).toNat : Int) = n % 18446744073709551616 := by
    rw [BitVec.toNat_ofInt]
    have : 0 ≤ n % 18446744073709551616 := Int.emod_nonneg _ (by omega)
    show ((n % ((2 ^ 64 : Nat) : Int)).toNat : Int) = _
    have e : ((2 ^ 64 : Nat) : Int) = 18446744073709551616 := by decide
    rw [e]
    exact Int.toNat_of_nonneg this
  show IntKind.i64.wrap ((BitVec.ofInt 64 n &&& BitVec.ofInt 64 ((2 ^ j - 1 : Nat) : Int)).toNat : Int) = _
  rw [BitVec.toNat_and, hm, Nat.and_two_pow_sub_one_eq_mod]
  have e3 : (((BitVec.ofInt 64 n).toNat % 2 ^ j : Nat) : Int) = n % ((2 ^ j : Nat) : Int) := by
    rw [Int.natCast_emod, hn]
    obtain ⟨c, hc⟩ := hp
    have e : (18446744073709551616 : Int) = ((2 ^ j : Nat) : Int) * (c : Int) := by
      rw [← Int.natCast_mul, ← hc]; decide
    exact Int.emod_emod_of_dvd n ⟨_, e⟩
  rw [e3, IntWalk.i64_left]
  have h1 := Int.emod_nonneg n (b := ((2 ^ j : Nat) : Int)) (by omega)
  have h2 := Int.emod_lt_of_pos n (b := ((2 ^ j : Nat) : Int)) (by omega)
  exact wrap_fits ⟨by omega, by omega⟩

end Go.Proofs.Ytinplpcobmbekaa
namespace Go.Proofs.Ytinplpcobmbekaa
open Go.RowKit

theorem store_keep {w : World} {p q : Addr} {v u : Value} (h : w.cell? p = some v) (ne : q ≠ p) : (w.setCell q u).cell? p = some v := (World.cell?_setCell_other _ _ _ _ ne).trans h

theorem store_new {w : World} {p : Addr} {x u : Value} (h : w.cell? p = some x) : (w.setCell p u).cell? p = some u := World.cell?_setCell_same _ _ _ h

theorem allocB (w : World) (o : Obj) : Below w.heap.size w (w.alloc o) := (Below.refl _ _).alloc (Nat.le_refl _) _

end Go.Proofs.Ytinplpcobmbekaa
namespace Go.Proofs.Ytinplpcobmbekaa
open Go.RowKit

theorem hidd {p : Prop} (h : p) : Hid p := h

end Go.Proofs.Ytinplpcobmbekaa
namespace Go.Proofs.Ytinplpcobmbekaa
open Go.ChangeShapes Go.WideShapes Go.RowKit

/-- The value s is a slice that holds the numbers L, of the kind k. -/
def LstK (k : IntKind) (w : World) (s : Value) (L : List Int) : Prop :=
  ∃ p cap, s = .slice p L.length cap ∧ L.length ≤ cap ∧ ∀ (j : Nat) (hj : j < L.length), ∃ g o, p = some ⟨g, o, none⟩ ∧ w.cell? ⟨g, o + j, none⟩ = some (.int k L[j])

theorem LstK.keep {k : IntKind} {w w' : World} {s : Value} {L : List Int} (h : LstK k w s L) (hb : Below w.heap.size w w') : LstK k w' s L := by
  obtain ⟨p, cap, h1, h2, h3⟩ := h
  refine ⟨p, cap, h1, h2, fun j hj => ?_⟩
  obtain ⟨g, o, e, hc⟩ := h3 j hj
  exact ⟨g, o, e, keepCell hb hc⟩

theorem i64_wf {x : Int} (h : (Lit.int .i64 x).wf = true) : -9223372036854775808 ≤ x ∧ x ≤ 9223372036854775807 := by
  have e1 : IntKind.i64.min = -9223372036854775808 := rfl
  have e2 : IntKind.i64.max = 9223372036854775807 := rfl
  simp [Lit.wf, e1, e2] at h
  omega

set_option maxHeartbeats 1000000 in
theorem open_list {P : Program} {b0 : Nat} {H : Type} {enc : TypeId × Value → H} {W : World} {t e : TypeId} {k : IntKind} {v : Value} {d : DataW H} {p : List MemPlace} (ht : P.underlying t = some (.slice e)) (he : P.underlying e = some (.int k)) (hc : P.cellsOf e = 1)
    (hval : Value.okWide P W .any b0 t v) (h : DataW.Trod enc P W 0 (fun _ => true) true t v d p) :
    ∃ L : List Int, (LstK k W v L ∧ (v = .slice none 0 0 ∨ ∃ a m c, v = .slice (some a) m c)) ∧ (∀ x ∈ L, (Lit.int k x).wf = true) ∧ ∀ W', Below W.heap.size W W' → ∃ p', DataW.Trod enc P W' 0 (fun b => decide (b < W.heap.size)) true t v d p' := by
  obtain ⟨a0, len, cap, rfl⟩ := okWide_slice ht hval
  obtain ⟨fuel, hf⟩ := h
  rcases open_ints ht he hc hf with ⟨hcs, hx⟩ | ⟨a, len', cap', zs, hcs, hb, hl, hm, hz, hx, hcell, hwz⟩
  · simp [Value.cells] at hcs
    obtain ⟨rfl, rfl, rfl⟩ := hcs
    simp only [Prod.mk.injEq] at hx
    obtain ⟨rfl, rfl⟩ := hx
    refine ⟨[], ⟨⟨none, 0, rfl, Nat.le_refl _, fun j hj => absurd hj (Nat.not_lt_zero _)⟩, .inl rfl⟩, fun x hx => by simp at hx, fun W' _ => ⟨[], 1, ?_⟩⟩
    rw [DataW.trod_step]
    unfold DataW.trodStep
    simp [Value.cells, ht]
  · simp [Value.cells] at hcs
    obtain ⟨rfl, rfl, rfl⟩ := hcs
    simp only [Prod.mk.injEq] at hx
    obtain ⟨rfl, rfl⟩ := hx
    simp only [if_true] at hz
    have hlt : (zs.take len).length = len := by simp; omega
    refine ⟨zs.take len, ⟨?_, .inr ⟨a, len, cap, rfl⟩⟩, fun x hx => hwz x (List.mem_of_mem_take hx), fun W' hB => ⟨MemPlace.row a zs.length, 2, ?_⟩⟩
    · by_cases hl0 : len = 0
      · refine ⟨some a, cap, by rw [hlt], by omega, fun j hj => by omega⟩
      · obtain ⟨b, off, spot⟩ := a
        have hspot : spot = none := by simpa [Addr.add] using World.cell?_spot (hcell 0 (by omega))
        subst hspot
        refine ⟨_, cap, by rw [hlt], by omega, fun j hj => ⟨b, off, rfl, ?_⟩⟩
        rw [← add_plain, hcell j (by omega)]
        have hj2 : j < zs.length := by omega
        simp [List.getD, hj2]
    · have hz2 : zs.length = (if decide (a.block < W.heap.size) then cap else len) := by
        by_cases h0 : cap = 0
        · have : len = 0 := by omega
          rw [hz, h0, this]
          simp
        · have hlt2 := World.block_lt_of_cell? _ _ (hcell 0 (by omega))
          rw [block_add] at hlt2
          rw [decide_eq_true hlt2, hz]
          simp
      exact shut_ints 0 ht he hc (Nat.zero_le _) hl hm hz2 (fun i hi => keepCell hB (hcell i hi)) hwz

end Go.Proofs.Ytinplpcobmbekaa
