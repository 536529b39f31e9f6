/-
  What the texts Plain, Halves, ERing, Mask, Lattice, ESmall say, so far as this seat's proofs need it.
-/
import Derived.Handy
import Derived.Deep.QuietTactic
import Derived.Test.YtogkfmoediiieaaProg
import Derived.WalkSpells
import Derived.WalkLawsBesides
import Derived.BigQuiet
import Derived.PlainAid
import Derived.Deep.RegionWith
import Derived.Laws.BitsAllLaws
import Derived.Deep.RegionHeld3
namespace Go.Proofs.Ytogkfmoediiieaa
open Go.RowKit

theorem belowN {B : Nat} {w0 w : World} (h : Below B w0 w) (n : Nat) : Below B w0 (w.drewN n) := h.trans ⟨rfl, rfl, rfl, Nat.le_refl _, fun _ _ => rfl⟩

theorem belowT {a b c : World} (h : Below a.heap.size a b) (k : Below b.heap.size b c) : Below a.heap.size a c := h.trans (k.mono h.size)

theorem df {p : Prop} [Decidable p] (h : ¬ p) : decide p = false := decide_eq_false h

/-- A number of 64 bits with a sign. -/
def fits (n : Int) : Bool := decide (-9223372036854775808 ≤ n ∧ n ≤ 9223372036854775807)

/-- The number, where it fits; else nought. -/
def kept (n : Int) : Int := if fits n = true then n else 0

theorem fits_mk {n : Int} (h : -9223372036854775808 ≤ n ∧ n ≤ 9223372036854775807) : fits n = true := decide_eq_true h

theorem fits_of {n : Int} (h : fits n = true) : -9223372036854775808 ≤ n ∧ n ≤ 9223372036854775807 := of_decide_eq_true h

theorem fits_no {n : Int} (h : ¬ (-9223372036854775808 ≤ n ∧ n ≤ 9223372036854775807)) : fits n = false := decide_eq_false h

theorem kept_mk {n : Int} (h : fits n = true) : kept n = n := if_pos h

theorem kept_no {n : Int} (h : fits n = false) : kept n = 0 := by unfold kept; rw [h]; rfl

theorem kept_bd (n : Int) : -9223372036854775808 ≤ kept n ∧ kept n ≤ 9223372036854775807 := by
  by_cases h : fits n = true
  · rw [kept_mk h]; exact fits_of h
  · rw [kept_no (by simpa using h)]; omega

theorem wrap_fits {n : Int} (h : -9223372036854775808 ≤ n ∧ n ≤ 9223372036854775807) : wrap64 n = n := IntWalk.wrap64_in n h

theorem wrap_bd (n : Int) : -9223372036854775808 ≤ wrap64 n ∧ wrap64 n ≤ 9223372036854775807 := by unfold wrap64; omega

theorem wrap_mod (n : Int) : ∃ k : Int, wrap64 n = n + 18446744073709551616 * k := ⟨-((n + 9223372036854775808) / 18446744073709551616), by unfold wrap64; omega⟩

/-- Dividing back tells whether a product wrapped. -/
theorem back_fits {a b : Int} (ha : a ≠ 0) : (a * b).tdiv a = b := Int.mul_tdiv_cancel_left b ha

theorem back_over {a b n : Int} (ha : a ≠ 0) (a1 : -9223372036854775808 ≤ a) (a2 : a ≤ 9223372036854775807) (hn : n = wrap64 (a * b)) (ho : ¬ (-9223372036854775808 ≤ a * b ∧ a * b ≤ 9223372036854775807)) : n.tdiv a ≠ b := by
  intro h
  obtain ⟨k, hk⟩ := wrap_mod (a * b)
  have hb := wrap_bd (a * b)
  rw [← hn] at hk hb
  have e := Int.mul_tdiv_add_tmod n a
  rw [h] at e
  have hr : (n.tmod a).natAbs < a.natAbs := by
    rw [Int.natAbs_tmod]; exact Nat.mod_lt _ (by omega)
  have : n.tmod a = 18446744073709551616 * k := by omega
  have hk0 : k = 0 := by omega
  subst hk0
  omega

theorem tdiv_bd {n a : Int} (h1 : -9223372036854775808 ≤ n) (h2 : n ≤ 9223372036854775807) (hm : a ≠ -1) : -9223372036854775808 ≤ n.tdiv a ∧ n.tdiv a ≤ 9223372036854775807 := by
  have h : (n.tdiv a).natAbs = n.natAbs / a.natAbs := Int.natAbs_tdiv n a
  by_cases h0 : a = 0
  · subst h0; simp
  · by_cases hp : a = 1
    · subst hp; simp; omega
    · have hd : n.natAbs / a.natAbs ≤ n.natAbs / 2 := Nat.div_le_div_left (by omega) (by omega)
      omega

end Go.Proofs.Ytogkfmoediiieaa
namespace Go.Proofs.Ytogkfmoediiieaa
open Go.RowKit

/-- The low and the high half of a whole number. -/
def low64 (z : Int) : Int := z % 18446744073709551616

def high64 (z : Int) : Int := z / 18446744073709551616 % 18446744073709551616

theorem low64_bd (z : Int) : 0 ≤ low64 z ∧ low64 z ≤ 18446744073709551615 := by unfold low64; omega

theorem high64_bd (z : Int) : 0 ≤ high64 z ∧ high64 z ≤ 18446744073709551615 := by unfold high64; omega

theorem agg_eq {a b c d : Int} (h1 : a = c) (h2 : b = d) : Ending.returned (.agg #[.int .u64 a, .int .u64 b]) = Ending.returned (.agg #[.int .u64 c, .int .u64 d]) := by rw [h1, h2]

/-- Two stores into two cells that are there read back. -/
theorem two_stores {w : World} {b : Nat} {x y u v : Value} (h0 : w.cell? ⟨b, 0, none⟩ = some x) (h1 : w.cell? ⟨b, 1, none⟩ = some y) :
    ((w.setCell ⟨b, 0, none⟩ u).setCell ⟨b, 1, none⟩ v).cell? ⟨b, 0, none⟩ = some u ∧ ((w.setCell ⟨b, 0, none⟩ u).setCell ⟨b, 1, none⟩ v).cell? ⟨b, 1, none⟩ = some v := by
  have e0 : (w.setCell ⟨b, 0, none⟩ u).cell? ⟨b, 0, none⟩ = some u := World.cell?_setCell_same _ _ _ h0
  have e1 : (w.setCell ⟨b, 0, none⟩ u).cell? ⟨b, 1, none⟩ = some y := (World.cell?_setCell_other _ _ _ _ (by simp)).trans h1
  exact ⟨(World.cell?_setCell_other _ _ _ _ (by simp)).trans e0, World.cell?_setCell_same _ _ _ e1⟩

theorem bcell {W w1 : World} (hb : Below W.heap.size W w1) : (∀ b o, b < W.heap.size → w1.cell? ⟨b, o, none⟩ = W.cell? ⟨b, o, none⟩) ∧ (∀ b o, b < W.heap.size → w1.frozen? ⟨b, o, none⟩ = W.frozen? ⟨b, o, none⟩) :=
  ⟨fun b o h => hb.cell (p := ⟨b, o, none⟩) h, fun b o h => hb.frozen (p := ⟨b, o, none⟩) h⟩

theorem keepCell {a b : World} {p : Addr} {v : Value} (hb : Below a.heap.size a b) (h : a.cell? p = some v) : b.cell? p = some v := (hb.cell (World.block_lt_of_cell? _ _ h)).trans h

theorem keepFrozen {a b : World} {p : Addr} {v : Value} (hb : Below a.heap.size a b) (h : a.cell? p = some v) (hf : a.frozen? p = false) : b.frozen? p = false := (hb.frozen (World.block_lt_of_cell? _ _ h)).trans hf

/-- The number in a cell. -/
def slotInt (w : World) (p : Addr) : Int := match w.cell? p with | some (.int .i64 n) => n | _ => 0

theorem slot_of {w : World} {p : Addr} {n : Int} (h : w.cell? p = some (.int .i64 n)) : w.cell? p = some (.int .i64 (slotInt w p)) := by
  have e : slotInt w p = n := by unfold slotInt; rw [h]
  rw [e]; exact h

theorem callAdd (x y c : Int) (hx : 0 ≤ x) (hy : 0 ≤ y) (hc0 : 0 ≤ c) (hc : c ≤ 1) (w : World) :
    (callFunc 63 #[.int .u64 x, .int .u64 y, .int .u64 c]).run Try.prog w = .ok (.value (.tuple #[.int .u64 ((x + y + c) % 18446744073709551616), .int .u64 ((x + y + c) / 18446744073709551616)])) w := by
  rw [run_callFunc_extern Try.func63 (by kernel_rfl) (by kernel_rfl) (by kernel_rfl) (e := add64Entry) (by kernel_rfl), run_add64 x y c hx hy hc0 hc]
  rfl

/-- What the model's table has for Sub64. -/
def sub64Entry : Array Value → Sem Value := (Extern.MathBitsCarry.rows[1]'(by decide)).2

theorem run_sub64 {P : Program} (x y c : Int) (hx : 0 ≤ x) (hy : 0 ≤ y) (hy1 : y < 18446744073709551616) (hc0 : 0 ≤ c) (hc : c ≤ 1) (w : World) :
    (sub64Entry #[.int .u64 x, .int .u64 y, .int .u64 c]).run P w = .ok (.tuple #[.int .u64 ((x - y - c) % 18446744073709551616), .int .u64 (if x < y + c then 1 else 0)]) w := by
  have key : ∀ k : Nat, k ≤ 1 → (sub64Entry #[.int .u64 x, .int .u64 y, .int .u64 (k : Int)]).run P w =
      .ok (Extern.MathBitsCarry.pair ((x.toNat + Extern.MathBitsCarry.m64 - y.toNat - k) % Extern.MathBitsCarry.m64) (if x.toNat < y.toNat + k then 1 else 0)) w := by
    intro k hk
    have : k = 0 ∨ k = 1 := by omega
    rcases this with rfl | rfl <;> rfl
  obtain ⟨k, rfl⟩ := Int.eq_ofNat_of_zero_le hc0
  rw [key k (by omega)]
  obtain ⟨X, rfl⟩ := Int.eq_ofNat_of_zero_le hx
  obtain ⟨Y, rfl⟩ := Int.eq_ofNat_of_zero_le hy
  simp only [Extern.MathBitsCarry.pair, Extern.MathBitsCarry.m64, Int.toNat_natCast]
  have e1 : (Int.ofNat ((X + 2 ^ 64 - Y - k) % 2 ^ 64) : Int) = ((X : Int) - Y - k) % 18446744073709551616 := by
    simp only [Int.ofNat_eq_natCast]; omega
  have e2 : (Int.ofNat (if X < Y + k then 1 else 0) : Int) = if (X : Int) < Y + k then 1 else 0 := by
    by_cases h : X < Y + k
    · rw [if_pos h, if_pos (by omega)]; rfl
    · rw [if_neg h, if_neg (by omega)]; rfl
  rw [e1, e2]

end Go.Proofs.Ytogkfmoediiieaa
namespace Go.Proofs.Ytogkfmoediiieaa
open Go.RowKit

theorem drewB (w : World) : Below w.heap.size w w.drew := (Below.refl _ _).drew

end Go.Proofs.Ytogkfmoediiieaa
namespace Go.Proofs.Ytogkfmoediiieaa
open Go.RowKit

theorem i64_mask (n : Int) (j : Nat) (hj : j < 63) : bits .and .i64 n ((2 ^ j - 1 : Nat) : Int) = n % ((2 ^ j : Nat) : Int) := by
  have hp : (2 : Nat) ^ j ∣ 2 ^ 64 := Nat.pow_dvd_pow 2 (by omega)
  have hle : (2 : Nat) ^ j ≤ 2 ^ 62 := Nat.pow_le_pow_right (by omega) (by omega)
  have hpos : 0 < (2 : Nat) ^ j := Nat.pow_pos (by omega)
  have hm : (BitVec.ofInt 64 ((2 ^ j - 1 : Nat) : Int)).toNat = 2 ^ j - 1 := ofInt_u64 _ (by omega)
  have hn : ((BitVec.ofInt 64 n).toNat : Int) = n % 18446744073709551616 := by
    rw [BitVec.toNat_ofInt]
    have : 0 ≤ n % 18446744073709551616 := Int.emod_nonneg _ (by omega)
    show ((n % ((2 ^ 64 : Nat) : Int)).toNat : Int) = _
    have e : ((2 ^ 64 : Nat) : Int) = 18446744073709551616 := by decide
    rw [e]
    exact Int.toNat_of_nonneg this
  show IntKind.i64.wrap ((BitVec.ofInt 64 n &&& BitVec.ofInt 64 ((2 ^ j - 1 : Nat) : Int)).toNat : Int) = _
  rw [BitVec.toNat_and, hm, Nat.and_two_pow_sub_one_eq_mod]
  have e3 : (((BitVec.ofInt 64 n).toNat % 2 ^ j : Nat) : Int) = n % ((2 ^ j : Nat) : Int) := by
    rw [Int.natCast_emod, hn]
    obtain ⟨c, hc⟩ := hp
    have e : (18446744073709551616 : Int) = ((2 ^ j : Nat) : Int) * (c : Int) := by
      rw [← Int.natCast_mul, ← hc]; decide
    exact Int.emod_emod_of_dvd n ⟨_, e⟩
  rw [e3, IntWalk.i64_left]
  have h1 := Int.emod_nonneg n (b := ((2 ^ j : Nat) : Int)) (by omega)
  have h2 := Int.emod_lt_of_pos n (b := ((2 ^ j : Nat) : Int)) (by omega)
  exact wrap_fits ⟨by omega, by omega⟩

theorem mask16 (n : Int) : bits .and .i64 n 65535 = n % 65536 := by
  have := i64_mask n 16 (by omega)
  simpa using this

theorem mask5 (n : Int) : bits .and .i64 n 31 = n % 32 := by
  have := i64_mask n 5 (by omega)
  simpa using this

theorem mask10 (n : Int) : bits .and .i64 n 1023 = n % 1024 := by
  have := i64_mask n 10 (by omega)
  simpa using this

theorem mask30 (n : Int) : bits .and .i64 n 1073741823 = n % 1073741824 := by
  have := i64_mask n 30 (by omega)
  simpa using this

theorem mask3 (n : Int) : bits .and .i64 n 7 = n % 8 := by
  have := i64_mask n 3 (by omega)
  simpa using this

/-- A remainder by truncation lies near nought. -/
theorem tmod_box (n m : Int) (hm : 0 < m) : -m < n.tmod m ∧ n.tmod m < m := by
  have h : (n.tmod m).natAbs = n.natAbs % m.natAbs := Int.natAbs_tmod n m
  have h2 := Nat.mod_lt n.natAbs (show 0 < m.natAbs by omega)
  omega

end Go.Proofs.Ytogkfmoediiieaa
namespace Go.Proofs.Ytogkfmoediiieaa
open Go.RowKit

/-- The Norm of a number of the lattice. -/
def normE (s t : Int) : Int := s * s + s * t + t * t

theorem mul_up {m p d : Int} (hm : 0 ≤ m) (h : p ≤ d) : m * p ≤ m * d := Int.mul_le_mul_of_nonneg_left h hm

theorem sq_ge (m : Int) : m ≤ m * m ∧ -m ≤ m * m := by
  by_cases h : m ≤ 0
  · have h1 : 0 ≤ m * m := by have := Int.mul_nonneg (show 0 ≤ -m by omega) (show 0 ≤ -m by omega); rw [Int.neg_mul_neg] at this; exact this
    by_cases h0 : m = 0
    · subst h0; omega
    · have h2 := mul_up (m := -m) (p := 1) (d := -m) (by omega) (by omega)
      rw [Int.neg_mul_neg, Int.mul_one] at h2
      omega
  · have h2 := mul_up (m := m) (p := 1) (d := m) (by omega) (by omega)
    rw [Int.mul_one] at h2
    omega

end Go.Proofs.Ytogkfmoediiieaa
namespace Go.Proofs.Ytogkfmoediiieaa
open Go.RowKit

theorem store_keep {w : World} {p q : Addr} {v u : Value} (h : w.cell? p = some v) (ne : q ≠ p) : (w.setCell q u).cell? p = some v := (World.cell?_setCell_other _ _ _ _ ne).trans h

theorem store_new {w : World} {p : Addr} {x u : Value} (h : w.cell? p = some x) : (w.setCell p u).cell? p = some u := World.cell?_setCell_same _ _ _ h

/-- A number of the lattice that was just made: nought, in a block that may be written. -/
def NewE (B : Nat) (w : World) : Prop := w.cell? ⟨B, 0, none⟩ = some (.int .i64 0) ∧ w.cell? ⟨B, 1, none⟩ = some (.int .i64 0) ∧ w.frozen? ⟨B, 0, none⟩ = false ∧ w.frozen? ⟨B, 1, none⟩ = false

theorem new_alloc (w : World) : NewE w.heap.size (w.alloc (.cells #[.int .i64 0, .int .i64 0] 27)) := ⟨by go_simp, by go_simp, by go_simp, by go_simp⟩

theorem keepNew {B : Nat} {a b : World} (hb : Below a.heap.size a b) (h : NewE B a) : NewE B b := ⟨keepCell hb h.1, keepCell hb h.2.1, keepFrozen hb h.1 h.2.2.1, keepFrozen hb h.2.1 h.2.2.2⟩

theorem allocB (w : World) (o : Obj) : Below w.heap.size w (w.alloc o) := (Below.refl _ _).alloc (Nat.le_refl _) _

theorem keepTwoStore {w0 a : World} {p0 p1 : Addr} {B : Nat} {v0 v1 x y : Value} (n0 : B ≠ p0.block) (n1 : B ≠ p1.block) (hB : w0.heap.size ≤ B) (h : a.cell? p0 = some v0 ∧ a.cell? p1 = some v1 ∧ Below w0.heap.size w0 a) :
    ((a.setCell ⟨B, 0, none⟩ x).setCell ⟨B, 1, none⟩ y).cell? p0 = some v0 ∧ ((a.setCell ⟨B, 0, none⟩ x).setCell ⟨B, 1, none⟩ y).cell? p1 = some v1 ∧ Below w0.heap.size w0 ((a.setCell ⟨B, 0, none⟩ x).setCell ⟨B, 1, none⟩ y) := by
  have f : ∀ (p : Addr) (o : Nat), B ≠ p.block → (⟨B, o, none⟩ : Addr) ≠ p := fun p o h e => h (by rw [← e])
  exact ⟨store_keep (store_keep h.1 (f _ _ n0)) (f _ _ n0), store_keep (store_keep h.2.1 (f _ _ n1)) (f _ _ n1), (h.2.2.setCell hB _).setCell hB _⟩

theorem swapB {w0 a : World} {o o' : Obj} (hs : w0.heap.size ≤ a.heap.size) (h : Below w0.heap.size w0 (a.alloc o)) : Below w0.heap.size w0 (a.alloc o') := by
  have h1 := allocB a o
  have h2 := allocB a o'
  obtain ⟨e1, e2, e3, e4, e5⟩ := h
  refine ⟨e1, e2, e3, by have := h2.size; omega, fun i hi => ?_⟩
  have k1 := h1.block i (by omega)
  have k2 := h2.block i (by omega)
  exact (k2.trans k1.symm).trans (e5 i hi)

theorem keepTwoSwap {w0 a : World} {o o' : Obj} {p0 p1 : Addr} {v0 v1 : Value} (q0 : p0.block < a.heap.size) (q1 : p1.block < a.heap.size) (hs : w0.heap.size ≤ a.heap.size) (h : (a.alloc o).cell? p0 = some v0 ∧ (a.alloc o).cell? p1 = some v1 ∧ Below w0.heap.size w0 (a.alloc o)) :
    (a.alloc o').cell? p0 = some v0 ∧ (a.alloc o').cell? p1 = some v1 ∧ Below w0.heap.size w0 (a.alloc o') :=
  ⟨((allocB a o').cell q0).trans (((allocB a o).cell q0).symm.trans h.1), ((allocB a o').cell q1).trans (((allocB a o).cell q1).symm.trans h.2.1), swapB hs h.2.2⟩

theorem norm_small {x y B : Int} (h : -B ≤ x ∧ x ≤ B ∧ -B ≤ y ∧ y ≤ B) : normE x y ≤ 3 * (B * B) := by
  have sq : ∀ x y : Int, -B ≤ x → x ≤ B → -B ≤ y → y ≤ B → x * y ≤ B * B := fun x y x1 x2 y1 y2 => by
    have h : (x * y).natAbs ≤ B.natAbs * B.natAbs := by rw [Int.natAbs_mul]; exact Nat.mul_le_mul (by omega) (by omega)
    have g2 : (B.natAbs * B.natAbs : Nat) = (B * B).natAbs := by rw [Int.natAbs_mul]
    have g3 : 0 ≤ B * B := by have := sq_ge B; omega
    omega
  have h1 := sq x x h.1 h.2.1 h.1 h.2.1
  have h2 := sq x y h.1 h.2.1 h.2.2.1 h.2.2.2
  have h3 := sq y y h.2.2.1 h.2.2.2 h.2.2.1 h.2.2.2
  unfold normE
  omega

theorem keepSix {w0 a b : World} {p0 p1 p2 p3 p4 p5 : Addr} {v0 v1 v2 v3 v4 v5 : Value} (hb : Below a.heap.size a b) (h : a.cell? p0 = some v0 ∧ a.cell? p1 = some v1 ∧ a.cell? p2 = some v2 ∧ a.cell? p3 = some v3 ∧ a.cell? p4 = some v4 ∧ a.cell? p5 = some v5 ∧ Below w0.heap.size w0 a) : b.cell? p0 = some v0 ∧ b.cell? p1 = some v1 ∧ b.cell? p2 = some v2 ∧ b.cell? p3 = some v3 ∧ b.cell? p4 = some v4 ∧ b.cell? p5 = some v5 ∧ Below w0.heap.size w0 b :=
  ⟨keepCell hb h.1, keepCell hb h.2.1, keepCell hb h.2.2.1, keepCell hb h.2.2.2.1, keepCell hb h.2.2.2.2.1, keepCell hb h.2.2.2.2.2.1, belowT h.2.2.2.2.2.2 hb⟩

/-- A part by truncation. -/
def tam (n : Int) : Int := n.tmod 16384

theorem tam_box (n : Int) : -16384 < tam n ∧ tam n < 16384 := tmod_box n 16384 (by omega)

end Go.Proofs.Ytogkfmoediiieaa
