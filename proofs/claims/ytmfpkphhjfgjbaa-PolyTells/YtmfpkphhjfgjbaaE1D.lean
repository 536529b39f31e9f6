/-
  What the texts Mul64, ERing, ESmall say, so far as this seat's proofs need it.
-/
import Derived.Test.YtmfpkphhjfgjbaaPD
import Derived.Test.YtmfpkphhjfgjbaaProg
import Derived.Handy
import Derived.Deep.QuietTactic
import Derived.WalkSpells
import Derived.WalkLawsBesides
import Derived.BigQuiet
import Derived.PlainAid
import Derived.Deep.RegionWith
import Derived.Laws.BitsAllLaws
import Derived.Shelf.Bits.Mul64
import Derived.Deep.RegionHeld3
namespace Go.Proofs.Ytmfpkphhjfgjbaa
open Go.RowKit Go.Shelf

def Try.lays264_ren : Go.Shelf.Ren := ⟨fun | 264 => 37 | n => n, fun | 53 => 55 | 46 => 64 | n => n, fun | n => n⟩
theorem Try.lays264 : Go.Proofs.Lays.n264 Try.prog Try.lays264_ren := {
  mixed := by kernel_rfl,
  f264 := Try.func37.trans (congrArg some (by kernel_rfl)),
  t46 := Try.underlying64,
  a46 := Try.isAgg64,
  z46 := Try.sizeOf64,
  v46 := Try.zeroValue64,
  t53 := Try.underlying55,
  a53 := Try.isAgg55,
  z53 := Try.sizeOf55,
  v53 := Try.zeroValue55 }

theorem mul64_any (p q : Int) (p0 : 0 ≤ p) (p1 : p ≤ 18446744073709551615) (q0 : 0 ≤ q) (q1 : q ≤ 18446744073709551615) (w : World) :
    Calls Try.prog 37 #[.int .u64 p, .int .u64 q] w fun e w' => e = .returned (.tuple #[.int .u64 (high64 (p * q)), .int .u64 (low64 (p * q))]) ∧ w' = w := by
  obtain ⟨P, rfl⟩ := Int.eq_ofNat_of_zero_le p0
  obtain ⟨Q, rfl⟩ := Int.eq_ofNat_of_zero_le q0
  have h := Any.bits_Mul64 Try.lays264 P Q (by omega) (by omega) w
  have hlt : P * Q < 18446744073709551616 * 18446744073709551616 := Nat.mul_lt_mul'' (by omega) (by omega)
  have e1 : ((P * Q / 18446744073709551616 : Nat) : Int) = high64 ((P : Int) * (Q : Int)) := by
    rw [← Int.natCast_mul]; unfold high64; omega
  have e2 : ((P * Q % 18446744073709551616 : Nat) : Int) = low64 ((P : Int) * (Q : Int)) := by
    rw [← Int.natCast_mul]; unfold low64; omega
  rw [e1, e2] at h
  exact h

end Go.Proofs.Ytmfpkphhjfgjbaa
namespace Go.Proofs.Ytmfpkphhjfgjbaa
open Go.RowKit

theorem drewB (w : World) : Below w.heap.size w w.drew := (Below.refl _ _).drew

theorem keepTwo {w0 a b : World} {p0 p1 : Addr} {v0 v1 : Value} (hb : Below a.heap.size a b) (h : a.cell? p0 = some v0 ∧ a.cell? p1 = some v1 ∧ Below w0.heap.size w0 a) :
    b.cell? p0 = some v0 ∧ b.cell? p1 = some v1 ∧ Below w0.heap.size w0 b := ⟨keepCell hb h.1, keepCell hb h.2.1, belowT h.2.2 hb⟩

end Go.Proofs.Ytmfpkphhjfgjbaa
namespace Go.Proofs.Ytmfpkphhjfgjbaa
open Go.RowKit

theorem store_keep {w : World} {p q : Addr} {v u : Value} (h : w.cell? p = some v) (ne : q ≠ p) : (w.setCell q u).cell? p = some v := (World.cell?_setCell_other _ _ _ _ ne).trans h

theorem store_new {w : World} {p : Addr} {x u : Value} (h : w.cell? p = some x) : (w.setCell p u).cell? p = some u := World.cell?_setCell_same _ _ _ h

/-- A number of the lattice that was just made: nought, in a block that may be written. -/
def NewE (B : Nat) (w : World) : Prop := w.cell? ⟨B, 0, none⟩ = some (.int .i64 0) ∧ w.cell? ⟨B, 1, none⟩ = some (.int .i64 0) ∧ w.frozen? ⟨B, 0, none⟩ = false ∧ w.frozen? ⟨B, 1, none⟩ = false

theorem keepNew {B : Nat} {a b : World} (hb : Below a.heap.size a b) (h : NewE B a) : NewE B b := ⟨keepCell hb h.1, keepCell hb h.2.1, keepFrozen hb h.1 h.2.2.1, keepFrozen hb h.2.1 h.2.2.2⟩

theorem allocB (w : World) (o : Obj) : Below w.heap.size w (w.alloc o) := (Below.refl _ _).alloc (Nat.le_refl _) _

end Go.Proofs.Ytmfpkphhjfgjbaa
