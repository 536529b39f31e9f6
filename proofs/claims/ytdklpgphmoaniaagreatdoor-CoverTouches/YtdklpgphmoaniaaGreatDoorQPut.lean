/-
  Where a number's centre lies along a sweep's axis, and how its spot is put in; in whatever memory.
-/
import Derived.Test.YtdklpgphmoaniaaGreatDoorHPush
import Derived.Test.YtdklpgphmoaniaaGreatDoorQNear
import Derived.Test.YtdklpgphmoaniaaGreatDoorProg
import Derived.Handy
import Derived.Deep.QuietTactic
import Derived.WalkSpells
import Derived.WalkLawsBesides
import Derived.BigQuiet
import Derived.PlainAid
import Derived.Deep.RegionWith
import Derived.Laws.BitsAllLaws
import Derived.Sort.LotA
import Derived.Sort.LotB
import Derived.Deep.RegionHeld3
import Derived.WalkSmall
import Derived.Deep.CutRange
import Derived.BigRegion
import Derived.OwnWalk
import Derived.Laws.OwnMore
import Derived.OneCell
import Derived.Laws.CopyOwn
import Derived.Sort.Row
import Derived.Sort.WalkB3
import Derived.Laws.StructEq
import Derived.Deep.AppendLies
import Derived.Deep.RegionLaw
import Derived.RangeFuncFrom
import Derived.RangeFuncCalls
import Derived.RangeFuncLeaves
import Derived.WalkKit
import Derived.OwnWalkIn
import Derived.TacticsInMore
import Derived.LoopNIn
import Derived.LoopIn
import Derived.RegionIn
import Derived.Stop.RegionWithIn
namespace Go.Proofs.YtdklpgphmoaniaaGreatDoor
open Go.RowKit

/-- A sweep as memory holds it, at block S: its size and its axis. -/
def SizA (S : Nat) (r d : Int) (w : World) : Prop := w.cell? ⟨S, 4, none⟩ = some (.int .i64 r) ∧ w.cell? ⟨S, 5, none⟩ = some (.int .i64 d)

theorem SizA.keep {S : Nat} {r d : Int} {w w' : World} (h : SizA S r d w) (hb : Below w.heap.size w w') : SizA S r d w' := ⟨keepCell hb h.1, keepCell hb h.2⟩

theorem SizA.but {S : Nat} {r d : Int} {o : Nat} {row : Option Nat} {w w' : World} (h : SizA S r d w) (hb : ButQ S o row w w') (h1 : o ≠ 4) (h2 : o ≠ 5) : SizA S r d w' := ⟨hb.cellB h.1 (fun e => h1 e.symm), hb.cellB h.2 (fun e => h2 e.symm)⟩

theorem keepFourQ {w0 a b : World} {p0 p1 p2 p3 : Addr} {v0 v1 v2 v3 : Value} (hb : Below a.heap.size a b) (h : a.cell? p0 = some v0 ∧ a.cell? p1 = some v1 ∧ a.cell? p2 = some v2 ∧ a.cell? p3 = some v3 ∧ Below w0.heap.size w0 a) :
    b.cell? p0 = some v0 ∧ b.cell? p1 = some v1 ∧ b.cell? p2 = some v2 ∧ b.cell? p3 = some v3 ∧ Below w0.heap.size w0 b :=
  ⟨keepCell hb h.1, keepCell hb h.2.1, keepCell hb h.2.2.1, keepCell hb h.2.2.2.1, belowT h.2.2.2.2 hb⟩

theorem ix_0 (X Y : Int) (w : World) : (Instr.index 38 (.agg #[.int .i64 X, .int .i64 Y]) (.int .i64 0)).run Tryz.prog w = .ok (.int .i64 X) w := by kernel_rfl

theorem ix_1 (X Y : Int) (w : World) : (Instr.index 38 (.agg #[.int .i64 X, .int .i64 Y]) (.int .i64 1)).run Tryz.prog w = .ok (.int .i64 Y) w := by kernel_rfl

set_option maxHeartbeats 4000000 in
set_option maxRecDepth 20000 in
theorem q_place_core (S d : Nat) (a b r X Y P : Int) (hd : (d = 0 ∧ P = X) ∨ (d = 1 ∧ P = Y)) (CE : Hid (∀ w, Calls Tryz.prog 39 #[.agg #[.int .i64 a, .int .i64 b], .int .i64 r] w fun e w' => e = .returned (.agg #[.int .i64 X, .int .i64 Y]) ∧ Below w.heap.size w w')) (w : World) (h : SizA S r (d : Int) w) :
    Calls Tryz.prog 102 #[.pointer (some ⟨S, 0, none⟩), .agg #[.int .i64 a, .int .i64 b]] w fun e w' => e = .returned (.int .i64 P) ∧ Below w.heap.size w w' := by
  obtain ⟨c4, c5⟩ := h
  have al := allocB w (.cells #[.int .i64 a, .int .i64 b] 23)
  replace c4 := keepCell al c4
  replace c5 := keepCell al c5
  have z0 : (w.alloc (.cells #[.int .i64 a, .int .i64 b] 23)).cell? ⟨w.heap.size, 0, none⟩ = some (.int .i64 a) := by go_simp
  have z1 : (w.alloc (.cells #[.int .i64 a, .int .i64 b] 23)).cell? ⟨w.heap.size, 1, none⟩ = some (.int .i64 b) := by go_simp
  have I0 := ix_0 X Y
  have I1 := ix_1 X Y
  rcases hd with ⟨rfl, rfl⟩ | ⟨rfl, rfl⟩
  · have c5' : (w.alloc (.cells #[.int .i64 a, .int .i64 b] 23)).cell? ⟨S, 5, none⟩ = some (.int .i64 0) := c5
    clear c5
    go_enter Tryz.func102, Tryz.ntmps102
    go_wp2_with fail
    generalize w.alloc (.cells #[.int .i64 a, .int .i64 b] 23) = w1 at *
    have hS0 := keepFourQ (drewB w1) ⟨z0, z1, c4, c5', al⟩
    go_region_held3 (fun w' => w'.cell? ⟨w.heap.size, 0, none⟩ = some (.int .i64 a) ∧ w'.cell? ⟨w.heap.size, 1, none⟩ = some (.int .i64 b) ∧ w'.cell? ⟨S, 4, none⟩ = some (.int .i64 r) ∧ w'.cell? ⟨S, 5, none⟩ = some (.int .i64 0) ∧ Below w.heap.size w w') (first | exact hS0 | exact keepFourQ hb (by assumption))
      (first | (go_at_call 39; refine (CE.out _).mono ?_; rintro e w' ⟨rfl, hb⟩))
    go_wp2
    go_ret
    rename_i hS
    exact ⟨rfl, hS.2.2.2.2⟩
  · have c5' : (w.alloc (.cells #[.int .i64 a, .int .i64 b] 23)).cell? ⟨S, 5, none⟩ = some (.int .i64 1) := c5
    clear c5
    go_enter Tryz.func102, Tryz.ntmps102
    go_wp2_with fail
    generalize w.alloc (.cells #[.int .i64 a, .int .i64 b] 23) = w1 at *
    have hS0 := keepFourQ (drewB w1) ⟨z0, z1, c4, c5', al⟩
    go_region_held3 (fun w' => w'.cell? ⟨w.heap.size, 0, none⟩ = some (.int .i64 a) ∧ w'.cell? ⟨w.heap.size, 1, none⟩ = some (.int .i64 b) ∧ w'.cell? ⟨S, 4, none⟩ = some (.int .i64 r) ∧ w'.cell? ⟨S, 5, none⟩ = some (.int .i64 1) ∧ Below w.heap.size w w') (first | exact hS0 | exact keepFourQ hb (by assumption))
      (first | (go_at_call 39; refine (CE.out _).mono ?_; rintro e w' ⟨rfl, hb⟩))
    go_wp2
    go_ret
    rename_i hS
    exact ⟨rfl, hS.2.2.2.2⟩

theorem q_place (S d : Nat) (hd : d ≤ 1) (a b r : Int) (K : Nat) (hK : K ≤ 12) (hr : 12 - r = (K : Int)) (hn : Near9 a b) (w : World) (h : SizA S r (d : Int) w) :
    Calls Tryz.prog 102 #[.pointer (some ⟨S, 0, none⟩), .agg #[.int .i64 a, .int .i64 b]] w fun e w' => e = .returned (.int .i64 (plc K d a b)) ∧ Below w.heap.size w w' := by
  unfold Near9 at hn
  refine q_place_core S d a b r _ _ _ ?_ (hidd fun w => q_centre a b r K hK hr ⟨by omega, by omega⟩ ⟨by omega, by omega⟩ w) w h
  unfold plc
  obtain rfl | rfl : d = 0 ∨ d = 1 := by omega
  · exact .inl ⟨rfl, rfl⟩
  · exact .inr ⟨rfl, rfl⟩

set_option maxHeartbeats 4000000 in
set_option maxRecDepth 20000 in
theorem q_put_core (base S n c d : Nat) (r : Int) (p : Option Addr) (H : List Int) (x a b t : Int) (hn : H.length = n) (PL : Hid (∀ w, SizA S r (d : Int) w → Calls Tryz.prog 102 #[.pointer (some ⟨S, 0, none⟩), .agg #[.int .i64 a, .int .i64 b]] w fun e w' => e = .returned (.int .i64 t) ∧ Below w.heap.size w w'))
    (PU : Hid (∀ w, HatQ w base S 7 (.slice p n c) H → base ≤ w.heap.size → Calls Tryz.prog 136 #[.iface 186 (.pointer (some ⟨S, 7, none⟩)), .iface 188 (.agg #[.int .i64 t, .int .i64 a, .int .i64 b])] w fun e w' => e = .returned (.tuple #[]) ∧ ∃ g' c' H', HatQ w' base S 7 (.slice (some ⟨g', 0, none⟩) (n + 1) c') H' ∧ H'.Perm (x :: H) ∧ Hp (n + 1) H'.toArray ∧ H'.length = n + 1 ∧ ButQ S 7 (Value.slice p n c).ownBlock w w' ∧ ((Value.slice p n c).ownBlock = some g' ∨ w.heap.size ≤ g')))
    (w : World) (h : SizA S r (d : Int) w) (hH : HatQ w base S 7 (.slice p n c) H) (hbase : base ≤ w.heap.size) :
    Calls Tryz.prog 104 #[.pointer (some ⟨S, 0, none⟩), .agg #[.int .i64 a, .int .i64 b]] w fun e w' => e = .returned (.tuple #[]) ∧ ∃ g' c' H', HatQ w' base S 7 (.slice (some ⟨g', 0, none⟩) (n + 1) c') H' ∧ H'.Perm (x :: H) ∧ Hp (n + 1) H'.toArray ∧ H'.length = n + 1 ∧ ButQ S 7 (Value.slice p n c).ownBlock w w' ∧ ((Value.slice p n c).ownBlock = some g' ∨ w.heap.size ≤ g') := by
  have al := allocB w (.cells #[.int .i64 a, .int .i64 b] 23)
  have z0 : (w.alloc (.cells #[.int .i64 a, .int .i64 b] 23)).cell? ⟨w.heap.size, 0, none⟩ = some (.int .i64 a) := by go_simp
  have z1 : (w.alloc (.cells #[.int .i64 a, .int .i64 b] 23)).cell? ⟨w.heap.size, 1, none⟩ = some (.int .i64 b) := by go_simp
  have hlt := hH.lt
  have S1 := hidd (h.keep al)
  have H1 := hidd (hH.keep al)
  have AL := hidd al
  have hN := hidd hn
  clear h hH al hn
  go_enter Tryz.func104, Tryz.ntmps104
  go_wp2_with fail
  generalize w.alloc (.cells #[.int .i64 a, .int .i64 b] 23) = w1 at *
  have y0 := keepCell (drewB w1) z0
  have y1 := keepCell (drewB w1) z1
  have T1 := hidd (S1.out.keep (drewB w1))
  have BD := hidd (belowT AL.out (drewB w1))
  have HD := hidd (H1.out.keep (drewB w1))
  go_region_with (first | (go_at_call 102; refine (PL.out _ T1.out).mono ?_; rintro e w2 ⟨rfl, hb⟩; have u0 := keepCell hb y0; have u1 := keepCell hb y1; have B2 := hidd (belowT BD.out hb); have H2 := hidd (HD.out.keep hb); clear hb) | (go_at_call 136; refine (PU.out _ H2.out (Nat.le_trans hbase B2.out.size)).mono ?_; rintro e w3 ⟨rfl, k⟩; have K := hidd k; clear k))
  all_goals
    go_wp2_with fail
    go_end0
    obtain ⟨g', c', H', k1, k2, k3, k4, k5, k6⟩ := K.out
    exact ⟨rfl, g', c', H', k1, k2, k3, k4, (ButQ.of_below B2.out hlt).trans k5 (.inl rfl), k6.imp id fun h => Nat.le_trans B2.out.size h⟩

/-- A number's spot is put in. -/
theorem q_put (base S n c d : Nat) (hd : d ≤ 1) (r : Int) (K : Nat) (hK : K ≤ 12) (hr : 12 - r = (K : Int)) (p : Option Addr) (H : List Int) (a b : Int) (hab : Near9 a b) (hn : H.length = n) (hp : Hp n H.toArray) (hsz : n ≤ 200000) (w : World) (h : SizA S r (d : Int) w) (hH : HatQ w base S 7 (.slice p n c) H) (hbase : base ≤ w.heap.size) :
    Calls Tryz.prog 104 #[.pointer (some ⟨S, 0, none⟩), .agg #[.int .i64 a, .int .i64 b]] w fun e w' => e = .returned (.tuple #[]) ∧ ∃ g' c' H', HatQ w' base S 7 (.slice (some ⟨g', 0, none⟩) (n + 1) c') H' ∧ H'.Perm (spot K d a b :: H) ∧ Hp (n + 1) H'.toArray ∧ H'.length = n + 1 ∧ ButQ S 7 (Value.slice p n c).ownBlock w w' ∧ ((Value.slice p n c).ownBlock = some g' ∨ w.heap.size ≤ g') := by
  have e := spot_of (K := K) (d := d) hab
  refine q_put_core base S n c d r p H (spot K d a b) a b (plc K d a b) hn (hidd fun w h => q_place S d hd a b r K hK hr hab w h) (hidd fun w h hb => ?_) w h hH hbase
  have := q_hpush base S 7 n c p H (spot K d a b) hn w h hp hb hsz
  rwa [e.1, e.2.1, e.2.2] at this

end Go.Proofs.YtdklpgphmoaniaaGreatDoor
