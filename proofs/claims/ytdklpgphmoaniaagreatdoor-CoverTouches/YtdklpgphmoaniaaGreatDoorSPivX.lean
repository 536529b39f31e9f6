/-
  The library's choice of a pivot, at this program: it lies within the part asked about; nothing of the row is written; in whatever memory.
-/
import Derived.Test.YtdklpgphmoaniaaGreatDoorE1X
import Derived.Test.YtdklpgphmoaniaaGreatDoorSPartX
import Derived.Test.YtdklpgphmoaniaaGreatDoorProg
import Derived.Handy
import Derived.Deep.QuietTactic
import Derived.Sort.Walk13a
import Derived.Sort.LotA
import Derived.Sort.LotB
import Derived.Sort.LotD1
import Derived.Deep.Draws
import Derived.WalkKit
import Derived.BigGuard
import Derived.BigCall
import Derived.CellFam
import Derived.BigQuiet
import Derived.WalkSpells
import Derived.WalkLawsBesides
import Derived.PlainAid
import Derived.Deep.RegionWith
import Derived.Laws.BitsAllLaws
import Derived.Deep.RegionHeld3
namespace Go.Proofs.YtdklpgphmoaniaaGreatDoor
open Go.RowKit

/-- A counter of the call's own, whatever it holds. -/
def Sw (B : Nat) (w : World) : Prop := (∃ s, w.cell? ⟨B, 0, none⟩ = some (.int .i64 s)) ∧ w.frozen? ⟨B, 0, none⟩ = false

theorem hold_below {w w' : World} {g off B : Nat} {d : Array Int} (h : Sort.Holds (Value.int .u64) w g off d) (hb : Below B w w') (hgB : g < B) : Sort.Holds (Value.int .u64) w' g off d := fun t ht => by
  rw [hb.cell (by exact hgB), hb.frozen (by exact hgB)]; exact h t ht

theorem hold_fam {w : World} {g off : Nat} {d : Array Int} (h : Sort.Holds (Value.int .u64) w g off d) : ∃ G : Nat → Int, (∀ t, G t = d[t]!) ∧ (∀ t, t < d.size → w.cell? ⟨g, off + t, none⟩ = some (.int .u64 (G t))) ∧ ∀ t, t < d.size → w.frozen? ⟨g, off + t, none⟩ = false :=
  ⟨fun t => d[t]!, fun _ => rfl, fun t ht => (h t ht).1, fun t ht => (h t ht).2⟩

theorem sw_store {B : Nat} {w : World} {s : Int} (h : w.cell? ⟨B, 0, none⟩ = some (.int .i64 s)) (hf : w.frozen? ⟨B, 0, none⟩ = false) (x : Int) : Sw B (w.setCell ⟨B, 0, none⟩ (.int .i64 x)) :=
  ⟨⟨x, World.cell?_setCell_same _ _ _ h⟩, by simp [hf]⟩

set_option maxHeartbeats 2000000 in
theorem u_order2 (g off cap x y n B : Nat) (d : Array Int) (hn : d.size = n) (w : World) (hH : Sort.Holds (Value.int .u64) w g off d) (hS : Sw B w) (hx : x < n) (hy : y < n) :
    Calls Tryz.prog 179 #[.slice (some ⟨g, off, none⟩) n cap, .int .i64 x, .int .i64 y, .pointer (some ⟨B, 0, none⟩)] w fun e w' =>
      (∃ p q : Nat, e = .returned (.tuple #[.int .i64 p, .int .i64 q]) ∧ (p = x ∧ q = y ∨ p = y ∧ q = x)) ∧ Sw B w' ∧ Below B w w' := by
  obtain ⟨G, hG, hcw, hfw⟩ := hold_fam hH
  rw [hn] at hcw hfw
  obtain ⟨⟨s, hs⟩, hf⟩ := hS
  clear hG hH hn
  go_enter Tryz.func179, Tryz.ntmps179
  go_wp2_with fail
  go_big_quiet (first | (go_at_call 150; refine Calls.quiet_of_same (u_less _ _ _)))
  go_wp2
  · go_ret2
    exact ⟨⟨y, x, rfl, Or.inr ⟨rfl, rfl⟩⟩, sw_store (w := w.drewN nq) hs hf _, Below.setCell (p := ⟨B, 0, none⟩) (belowN (Below.refl B w) nq) (Nat.le_refl B) _⟩
  · go_ret2
    exact ⟨⟨x, y, rfl, Or.inl ⟨rfl, rfl⟩⟩, ⟨⟨s, hs⟩, hf⟩, belowN (Below.refl _ _) nq⟩

set_option maxHeartbeats 2000000 in
theorem u_median (g off cap x y z n B : Nat) (d : Array Int) (hn : d.size = n) (w : World) (hH : Sort.Holds (Value.int .u64) w g off d) (hgB : g < B) (hS : Sw B w) (hx : x < n) (hy : y < n) (hz : z < n) :
    Calls Tryz.prog 174 #[.slice (some ⟨g, off, none⟩) n cap, .int .i64 x, .int .i64 y, .int .i64 z, .pointer (some ⟨B, 0, none⟩)] w fun e w' =>
      (∃ p : Nat, e = .returned (.int .i64 p) ∧ (p = x ∨ p = y ∨ p = z)) ∧ Sw B w' ∧ Below B w w' := by
  have H0 : Hid (Sort.Holds (Value.int .u64) w g off d) := hH
  have S0 : Hid (Sw B w) := hS
  clear hH hS
  go_enter Tryz.func174, Tryz.ntmps174
  go_wp2_with fail
  refine (u_order2 g off cap x y n B d hn w H0.out S0.out hx hy).mono ?_
  rintro e w1 ⟨⟨p1, q1, rfl, h1⟩, s1, b1⟩
  have S1 : Hid (Sw B w1) := s1
  have H1 : Hid (Sort.Holds (Value.int .u64) w1 g off d) := hold_below H0.out b1 hgB
  have L1 : p1 < n ∧ q1 < n := by omega
  have C1 : Hid (p1 = x ∧ q1 = y ∨ p1 = y ∧ q1 = x) := h1
  clear s1 h1
  go_wp2_with fail
  refine (u_order2 g off cap q1 z n B d hn w1 H1.out S1.out L1.2 hz).mono ?_
  rintro e w2 ⟨⟨p2, q2, rfl, h2⟩, s2, b2⟩
  have S2 : Hid (Sw B w2) := s2
  have H2 : Hid (Sort.Holds (Value.int .u64) w2 g off d) := hold_below H1.out b2 hgB
  have L2 : p2 < n ∧ q2 < n := by omega
  have C2 : Hid (p2 = q1 ∧ q2 = z ∨ p2 = z ∧ q2 = q1) := h2
  clear s2 h2
  go_wp2_with fail
  refine (u_order2 g off cap p1 p2 n B d hn w2 H2.out S2.out L1.1 L2.1).mono ?_
  rintro e w3 ⟨⟨p3, q3, rfl, h3⟩, s3, b3⟩
  have S3 : Hid (Sw B w3) := s3
  have C3 : Hid (p3 = p1 ∧ q3 = p2 ∨ p3 = p2 ∧ q3 = p1) := h3
  clear s3 h3
  go_wp2_with fail
  go_ret
  exact ⟨⟨q3, rfl, by have := C1.out; have := C2.out; have := C3.out; omega⟩, S3.out, (b1.trans b2).trans b3⟩

set_option maxHeartbeats 2000000 in
theorem u_median3 (g off cap x n B : Nat) (d : Array Int) (hn : d.size = n) (w : World) (hH : Sort.Holds (Value.int .u64) w g off d) (hgB : g < B) (hS : Sw B w) (h1 : 1 ≤ x) (hx : x + 1 < n) (hsz : n < 4611686018427387904) :
    Calls Tryz.prog 173 #[.slice (some ⟨g, off, none⟩) n cap, .int .i64 x, .pointer (some ⟨B, 0, none⟩)] w fun e w' =>
      (∃ p : Nat, e = .returned (.int .i64 p) ∧ x ≤ p + 1 ∧ p ≤ x + 1) ∧ Sw B w' ∧ Below B w w' := by
  have H0 : Hid (Sort.Holds (Value.int .u64) w g off d) := hH
  have S0 : Hid (Sw B w) := hS
  clear hH hS
  go_enter Tryz.func173, Tryz.ntmps173
  go_wp2_with fail
  rw [show ((x : Int) - 1) = ((x - 1 : Nat) : Int) by omega, show ((x : Int) + 1) = ((x + 1 : Nat) : Int) by omega]
  refine (u_median g off cap (x - 1) x (x + 1) n B d hn w H0.out hgB S0.out (by omega) (by omega) (by omega)).mono ?_
  rintro e w1 ⟨⟨p1, rfl, C1⟩, s1, b1⟩
  have S1 : Hid (Sw B w1) := s1
  replace C1 : Hid _ := C1
  clear s1
  go_wp2_with fail
  go_ret
  exact ⟨⟨p1, rfl, by have := C1.out; omega, by have := C1.out; omega⟩, S1.out, b1⟩

/-- What the choice tells. -/
def PivSay (a b : Nat) (e : Ending) : Prop := ∃ (p : Nat) (h : Int), e = .returned (.tuple #[.int .i64 p, .int .i64 h]) ∧ a ≤ p ∧ p < b ∧ 0 ≤ h ∧ h ≤ 2

set_option maxHeartbeats 4000000 in
theorem u_pivot (g off cap a b n : Nat) (d : Array Int) (hn : d.size = n) (w : World) (hH : Sort.Holds (Value.int .u64) w g off d) (hg : g < w.heap.size) (hab : a < b) (hb : b ≤ n) (hsz : n < 4611686018427387904) :
    Calls Tryz.prog 147 #[.slice (some ⟨g, off, none⟩) n cap, .int .i64 a, .int .i64 b] w fun e w' => PivSay a b e ∧ Below w.heap.size w w' := by
  have H0 : Hid (Sort.Holds (Value.int .u64) w g off d) := hH
  clear hH
  obtain ⟨m, hm⟩ : ∃ m, b - a = m := ⟨_, rfl⟩
  have EB : (b : Int) - (a : Int) = (m : Int) := by omega
  obtain ⟨q, hq⟩ : ∃ q, m / 4 = q := ⟨_, rfl⟩
  have EQ : ((m : Int)).tdiv 4 = (q : Int) := by rw [← hq]; rfl
  have HA : Sort.Holds (Value.int .u64) (w.alloc (.cells #[.int .i64 0] 3)) g off d := hold_below H0.out (allocB w _) hg
  have SA : Sw w.heap.size (w.alloc (.cells #[.int .i64 0] 3)) := ⟨⟨0, by go_simp⟩, by go_simp⟩
  obtain ⟨I, hI⟩ : ∃ I, a + q = I := ⟨_, rfl⟩
  obtain ⟨J, hJ⟩ : ∃ J, a + q * 2 = J := ⟨_, rfl⟩
  obtain ⟨K, hK⟩ : ∃ K, a + q * 3 = K := ⟨_, rfl⟩
  have eI : Hid ((a : Int) + (q : Int) = (I : Int)) := hid_mk (by omega)
  have eJ : Hid ((a : Int) + (q : Int) * 2 = (J : Int)) := hid_mk (by omega)
  have eK : Hid ((a : Int) + (q : Int) * 3 = (K : Int)) := hid_mk (by omega)
  go_enter Tryz.func147, Tryz.ntmps147
  go_wp2_with fail
  · have hm50 : 50 ≤ m := by omega
    rw [eI.out, eJ.out, eK.out]
    refine (u_median3 g off cap I n w.heap.size d hn _ HA hg SA (by omega) (by omega) hsz).mono ?_
    rintro e w1 ⟨⟨p1, rfl, l1⟩, s1, b1⟩
    have S1 : Hid (Sw w.heap.size w1) := s1
    have H1 : Hid (Sort.Holds (Value.int .u64) w1 g off d) := hold_below HA b1 hg
    have L1 : Hid _ := l1
    have hB : Below w.heap.size w w1 := Below.trans (by go_grown) (b1.mono (by simp))
    clear s1 l1 b1
    go_wp2_with fail
    refine (u_median3 g off cap J n w.heap.size d hn _ H1.out hg S1.out (by omega) (by omega) hsz).mono ?_
    rintro e w2 ⟨⟨p2, rfl, l2⟩, s2, b2⟩
    have S2 : Hid (Sw w.heap.size w2) := s2
    have H2 : Hid (Sort.Holds (Value.int .u64) w2 g off d) := hold_below H1.out b2 hg
    have L2 : Hid _ := l2
    replace hB := hB.trans b2
    clear s2 l2 b2
    go_wp2_with fail
    refine (u_median3 g off cap K n w.heap.size d hn _ H2.out hg S2.out (by omega) (by omega) hsz).mono ?_
    rintro e w3 ⟨⟨p3, rfl, l3⟩, s3, b3⟩
    have S3 : Hid (Sw w.heap.size w3) := s3
    have H3 : Hid (Sort.Holds (Value.int .u64) w3 g off d) := hold_below H2.out b3 hg
    have L3 : Hid _ := l3
    replace hB := hB.trans b3
    clear s3 l3 b3
    go_wp2_with fail
    refine (u_median g off cap p1 p2 p3 n w.heap.size d hn _ H3.out hg S3.out (by have := L1.out; omega) (by have := L2.out; omega) (by have := L3.out; omega)).mono ?_
    rintro e w4 ⟨⟨p4, rfl, l4⟩, s4, b4⟩
    have S4 : Hid (Sw w.heap.size w4) := s4
    have H4 : Hid (Sort.Holds (Value.int .u64) w4 g off d) := hold_below H3.out b4 hg
    have L4 : Hid (a ≤ p4 ∧ p4 < b) := by have := L1.out; have := L2.out; have := L3.out; exact ⟨by omega, by omega⟩
    replace hB := hB.trans b4
    clear s4 l4 b4
    obtain ⟨⟨s, hs⟩, -⟩ := S4.out
    have hP : Hid (a ≤ p4 ∧ p4 < b) := by have := L4.out; exact ⟨by omega, by omega⟩
    clear L4
    go_wp2
    all_goals
      go_ret2
      exact ⟨⟨p4, _, rfl, hP.out.1, hP.out.2, by omega, by omega⟩, hB⟩
  · rw [eI.out, eJ.out, eK.out]
    refine (u_median g off cap I J K n w.heap.size d hn _ HA hg SA (by omega) (by omega) (by omega)).mono ?_
    rintro e w1 ⟨⟨p1, rfl, l1⟩, s1, b1⟩
    have S1 : Hid (Sw w.heap.size w1) := s1
    have H1 : Hid (Sort.Holds (Value.int .u64) w1 g off d) := hold_below HA b1 hg
    have L1 : Hid (a ≤ p1 ∧ p1 < b) := ⟨by omega, by omega⟩
    have hB : Below w.heap.size w w1 := Below.trans (by go_grown) (b1.mono (by simp))
    clear s1 l1 b1
    obtain ⟨⟨s, hs⟩, -⟩ := S1.out
    have hP : Hid (a ≤ p1 ∧ p1 < b) := by have := L1.out; exact ⟨by omega, by omega⟩
    clear L1
    go_wp2
    all_goals
      go_ret2
      exact ⟨⟨p1, _, rfl, hP.out.1, hP.out.2, by omega, by omega⟩, hB⟩
  · rw [eJ.out]
    go_ret2
    exact ⟨⟨J, _, rfl, by omega, by omega, by omega, by omega⟩, by go_grown⟩

end Go.Proofs.YtdklpgphmoaniaaGreatDoor
