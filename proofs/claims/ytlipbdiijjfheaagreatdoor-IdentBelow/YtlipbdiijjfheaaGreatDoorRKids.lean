/-
  What the document's own Children tells: the seven cells below one, one behind the other; for any cell, in whatever memory.
-/
import Derived.Test.YtlipbdiijjfheaaGreatDoorRCell
import Derived.Test.YtlipbdiijjfheaaGreatDoorCKids
import Derived.OwnWalk
import Derived.Laws.OwnMore
namespace Go.Proofs.YtlipbdiijjfheaaGreatDoor
open Go.RowKit

/-- The first k children, one behind the other. -/
def rowK (G : Nat → Int) : Nat → List Value
  | 0 => []
  | k + 1 => rowK G k ++ [.int .i64 (G (k * 3)), .int .i64 (G (k * 3 + 1)), .int .i64 (G (k * 3 + 2))]
theorem keepLow {B : Nat} {a b : World} {p : Addr} {v : Value} (h : Below B a b) (hc : a.cell? p = some v) (hl : p.block < B) : b.cell? p = some v := (h.cell hl).trans hc
theorem own_keep {a b : World} {base : Nat} {e : TypeId} {size : Nat} {v : Value} {n : Nat} {xs : List Value} (hb : Below a.heap.size a b) (h : a.ownsRow base e size v n xs) : b.ownsRow base e size v n xs :=
  h.kept (row := none) ⟨hb.os, hb.tape, hb.output, hb.size, fun k hk _ => hb.block k hk⟩ (by cases v.ownBlock <;> simp)
theorem three_lie (w : World) (B : Nat) (h : w.heap.size = B) (x y z : Int) (e : TypeId) : ∀ j u, ([.int .i64 x, .int .i64 y, .int .i64 z] : List Value)[j]? = some u → (w.alloc (.cells #[.int .i64 x, .int .i64 y, .int .i64 z] e)).cell? ((⟨B, 0, none⟩ : Addr).add j) = some u := by
  subst h
  intro j u hj
  match j, hj with
  | 0, hj => simp at hj; subst hj; simp [Addr.add]
  | 1, hj => simp at hj; subst hj; simp [Addr.add]
  | 2, hj => simp at hj; subst hj; simp [Addr.add]
theorem three_one (x y z : Int) : ∀ u ∈ ([.int .i64 x, .int .i64 y, .int .i64 z] : List Value), u.oneCell' = true := by
  intro u hu
  simp at hu
  rcases hu with rfl | rfl | rfl <;> rfl
theorem own_shape {w : World} {base : Nat} {e : TypeId} {size : Nat} {v : Value} {n : Nat} {xs : List Value} (h : w.ownsRow base e size v n xs) (hn : 0 < n) : ∃ g cap, v = .slice (some ⟨g, 0, none⟩) n cap := by
  rcases h.2 with ⟨_, h0⟩ | ⟨g, cap, cur, hv, _⟩
  · omega
  · exact ⟨g, cap, hv⟩
theorem own_block {w : World} {base : Nat} {e : TypeId} {size : Nat} {v : Value} {n : Nat} {xs : List Value} (h : w.ownsRow base e size v n xs) : ∀ k, v.ownBlock = some k → base ≤ k := by
  intro k hk
  rcases h.2 with ⟨rfl, _⟩ | ⟨g, cap, cur, rfl, hb, _⟩
  · simp [Value.ownBlock] at hk
  · simp [Value.ownBlock] at hk; omega
theorem rowK_at (G : Nat → Int) (o : Nat) (ho : o < 21) : (rowK G 7)[o]? = some (.int .i64 (G o)) := by
  have h : o = 0 ∨ o = 1 ∨ o = 2 ∨ o = 3 ∨ o = 4 ∨ o = 5 ∨ o = 6 ∨ o = 7 ∨ o = 8 ∨ o = 9 ∨ o = 10 ∨ o = 11 ∨ o = 12 ∨ o = 13 ∨ o = 14 ∨ o = 15 ∨ o = 16 ∨ o = 17 ∨ o = 18 ∨ o = 19 ∨ o = 20 := by omega
  rcases h with rfl | rfl | rfl | rfl | rfl | rfl | rfl | rfl | rfl | rfl | rfl | rfl | rfl | rfl | rfl | rfl | rfl | rfl | rfl | rfl | rfl <;> rfl
theorem infoCell : (Tryz.prog.info? 34).map (fun i => (i.zero, i.size, i.bytes)) = some (some (.agg #[.int .i64 0, .int .i64 0, .int .i64 0]), 3, 24) := by kernel_rfl

/-- The ending that tells seven cells, of whatever room. -/
def TellsC (G : Nat → Int) (e : Ending) (w' : World) : Prop := ∃ g cap, e = .returned (.tuple #[.slice (some ⟨g, 0, none⟩) 7 cap, .int .i64 0]) ∧ ∀ o < 21, w'.cell? ⟨g, o, none⟩ = some (.int .i64 (G o))

set_option maxHeartbeats 8000000 in
set_option maxRecDepth 20000 in
theorem rkids_core (r a b A B : Int) (G : Nat → Int) (r1 : 0 ≤ r) (r2 : r < 12) (hr : (r == 12) = false) (h : Ok4 r a b)
    (A1 : -9007199254740992 ≤ A) (A2 : A ≤ 9007199254740992) (B1 : -9007199254740992 ≤ B) (B2 : B ≤ 9007199254740992)
    (hG0 : G 0 = r + 1) (hG1 : G 1 = A) (hG2 : G 2 = B)
    (hG : ∀ k : Nat, k < 6 → G ((k + 1) * 3) = r + 1 ∧ G ((k + 1) * 3 + 1) = A + unitA (k : Int) ∧ G ((k + 1) * 3 + 2) = B + unitB (k : Int))
    (MU : ∀ w, Calls Tryz.prog 35 #[.agg #[.int .i64 a, .int .i64 b], .agg #[.int .i64 2, .int .i64 1]] w fun x w' => x = .returned (.tuple #[.agg #[.int .i64 A, .int .i64 B], .bool true]) ∧ Below w.heap.size w w') (w : World) :
    Calls Tryz.prog 17 #[.agg #[.int .i64 r, .int .i64 a, .int .i64 b]] w fun e w' => TellsC G e w' ∧ Below w.heap.size w w' := by
  have OK : Hid (∀ w, Calls Tryz.prog 34 #[.agg #[.int .i64 r, .int .i64 a, .int .i64 b]] w fun e w' => e = .returned (.bool true) ∧ Below w.heap.size w w') := fun w => by rw [← ok4_mk h]; exact rok_any r a b w
  have UN : Hid (∀ k : Nat, k < 6 → ∀ w, Calls Tryz.prog 36 #[.int .i64 (k : Int)] w fun e w' => e = .returned (.agg #[.int .i64 (unitA (k : Int)), .int .i64 (unitB (k : Int))]) ∧ Below w.heap.size w w') := by
    intro k hk w
    have := refunit_any (k : Int) w
    rwa [show (k : Int) % 6 = k by omega] at this
  have hrow1 : Hid (rowK G 1 = [.int .i64 (r + 1), .int .i64 A, .int .i64 B]) := by show rowK G 0 ++ [.int .i64 (G 0), .int .i64 (G 1), .int .i64 (G 2)] = _; rw [hG0, hG1, hG2]; rfl
  have hrowS : Hid (∀ k : Nat, k < 6 → rowK G (k + 1 + 1) = rowK G (k + 1) ++ [.int .i64 (r + 1), .int .i64 (A + unitA (k : Int)), .int .i64 (B + unitB (k : Int))]) := by
    intro k hk
    obtain ⟨e0, e1, e2⟩ := hG k hk
    show rowK G (k + 1) ++ [.int .i64 (G ((k + 1) * 3)), .int .i64 (G ((k + 1) * 3 + 1)), .int .i64 (G ((k + 1) * 3 + 2))] = _
    rw [e0, e1, e2]
  have UB : Hid (∀ k : Nat, k < 6 → (-1 ≤ unitA (k : Int) ∧ unitA (k : Int) ≤ 1) ∧ (-1 ≤ unitB (k : Int) ∧ unitB (k : Int) ≤ 1)) := by
    intro k hk
    have ck : k = 0 ∨ k = 1 ∨ k = 2 ∨ k = 3 ∨ k = 4 ∨ k = 5 := by omega
    rcases ck with rfl | rfl | rfl | rfl | rfl | rfl <;> decide
  replace MU : Hid _ := MU
  clear h hG hG0 hG1 hG2
  go_enter Tryz.func17, Tryz.ntmps17
  go_wp2_with fail
  refine (OK.out _).mono ?_
  rintro e w1 ⟨rfl, d1⟩
  have c1 : Below w.heap.size w w1 := Below.trans (by go_grown) (d1.mono (by simp; try omega))
  have z0 : w1.cell? ⟨w.heap.size, 0, none⟩ = some (.int .i64 r) := keepCell d1 (by go_simp)
  have qz0 := World.block_lt_of_cell? _ _ z0
  have z1 : w1.cell? ⟨w.heap.size, 1, none⟩ = some (.int .i64 a) := keepCell d1 (by go_simp)
  have z2 : w1.cell? ⟨w.heap.size, 2, none⟩ = some (.int .i64 b) := keepCell d1 (by go_simp)
  have hB := c1
  clear c1 d1
  go_wp2_with fail
  refine (MU.out _).mono ?_
  rintro e w2 ⟨rfl, d2⟩
  have c2 : Below w1.heap.size w1 w2 := Below.trans (by go_grown) (d2.mono (by simp; try omega))
  replace z0 := keepCell c2 z0
  replace qz0 := World.block_lt_of_cell? _ _ z0
  replace z1 := keepCell c2 z1
  replace z2 := keepCell c2 z2
  replace hB := belowT hB c2
  clear c2 d2
  go_wp2_with fail
  have h1 := allocB w2 (.cells #[.int .i64 A, .int .i64 B] 32)
  have m0 : (w2.alloc (.cells #[.int .i64 A, .int .i64 B] 32)).cell? ⟨w2.heap.size, 0, none⟩ = some (.int .i64 A) := by go_simp
  have m1 : (w2.alloc (.cells #[.int .i64 A, .int .i64 B] 32)).cell? ⟨w2.heap.size, 1, none⟩ = some (.int .i64 B) := by go_simp
  have lz : w.heap.size < w2.heap.size := qz0
  replace z0 := keepCell h1 z0
  replace hB := belowT hB h1
  have hsz : (w2.alloc (.cells #[.int .i64 A, .int .i64 B] 32)).heap.size = w2.heap.size + 1 := by simp
  clear h1 z1 z2 MU OK
  have hO0 : Hid (((w2.alloc (.cells #[.int .i64 A, .int .i64 B] 32)).alloc (.cells #[.int .i64 (r + 1), .int .i64 A, .int .i64 B] 34)).ownsRow (w2.alloc (.cells #[.int .i64 A, .int .i64 B] 32)).heap.size 34 3 (.slice (some ⟨(w2.alloc (.cells #[.int .i64 A, .int .i64 B] 32)).heap.size, 0, none⟩) 1 1) 1 (rowK G 1)) := by
    show World.ownsRow _ _ _ _ _ _ _
    rw [hrow1.out]
    exact World.ownsRow_lit _ #[.int .i64 (r + 1), .int .i64 A, .int .i64 B] 1 (Nat.le_refl _) (by unfold maxLen; omega) rfl
  rw [hsz] at hO0
  have hX0 : Below (w2.alloc (.cells #[.int .i64 A, .int .i64 B] 32)).heap.size (w2.alloc (.cells #[.int .i64 A, .int .i64 B] 32)) ((w2.alloc (.cells #[.int .i64 A, .int .i64 B] 32)).alloc (.cells #[.int .i64 (r + 1), .int .i64 A, .int .i64 B] 34)) := allocB _ _
  rw [hsz] at hX0
  obtain ⟨i0, hi, hz0, hz1, hz2⟩ := info_parts infoCell
  go_loopw [6, 7] (fun v6 v7 wr => ∃ k : Nat, k ≤ 6 ∧ v7 = .int .i64 (k : Int) ∧ Hid (wr.ownsRow (w2.heap.size + 1) 34 3 v6 (k + 1) (rowK G (k + 1))) ∧ Below (w2.heap.size + 1) (w2.alloc (.cells #[.int .i64 A, .int .i64 B] 32)) wr) (fun _ v7 _ => 6 - (intOf v7).toNat)
  case atStart => exact ⟨0, by omega, rfl, hO0, hX0⟩
  case round =>
    clear hO0 hX0
    obtain ⟨k, hk, rfl, hO, hX⟩ := hrel
    have s0 := keepLow hX z0 (by simp; omega)
    have s1 := keepLow hX m0 (by simp)
    have s2 := keepLow hX m1 (by simp)
    have hwz : w2.heap.size + 1 ≤ wr.heap.size := by have := hX.size; omega
    by_cases hlt : k < 6
    · have UK : Hid _ := UN.out k hlt
      obtain ⟨⟨u1, u2⟩, ⟨u3, u4⟩⟩ := UB.out k hlt
      have hrow : Hid _ := hrowS.out k hlt
      clear UN UB hrowS hrow1 z0 m0 m1
      generalize unitA (k : Int) = U at *
      generalize unitB (k : Int) = V at *
      have hB0 := hB
      clear hB
      have hB : Below wr.heap.size wr wr := Below.refl _ _
      have qs0 := World.block_lt_of_cell? _ _ s0
      have qs1 := World.block_lt_of_cell? _ _ s1
      go_wp2_with fail
      refine (UK.out _).mono ?_
      rintro e v1 ⟨rfl, d1⟩
      have c1 : Below wr.heap.size wr v1 := Below.trans (by go_grown) (d1.mono (by simp; try omega))
      replace s0 := keepCell c1 s0
      replace qs0 := World.block_lt_of_cell? _ _ s0
      replace s1 := keepCell c1 s1
      replace qs1 := World.block_lt_of_cell? _ _ s1
      replace s2 := keepCell c1 s2
      replace hB := belowT hB c1
      clear c1 d1
      have hO1 : Hid (v1.ownsRow (w2.heap.size + 1) 34 3 u6 (k + 1) (rowK G (k + 1))) := own_keep hB hO.out
      have hX1 := hX.trans (hB.mono hwz)
      have hwz1 : w2.heap.size + 1 ≤ v1.heap.size := by have := hB.size; omega
      have e1 : (v1.alloc (.cells #[.int .i64 U, .int .i64 V] 32)).heap.size = v1.heap.size + 1 := by simp
      clear hO hX hB UK
      go_wp2_with (at_builtin; refine wpList_append_own _ rfl (.tmp 36) (.tmp 52) 39 rfl (w2.heap.size + 1) 34 i0 (.agg #[.int .i64 0, .int .i64 0, .int .i64 0]) 3 24 Tryz.underlying39 hi hz0 hz1 hz2 rfl (by decide) _ _ _ rfl (own_keep (belowT (allocB _ _) (allocB _ _)) hO1.out) ⟨v1.heap.size + 1, 0, none⟩ 1 1 [.int .i64 (r + 1), .int .i64 (A + U), .int .i64 (B + V)] rfl rfl (three_lie _ _ e1 _ _ _ _) (three_one _ _ _) (by unfold maxLen; omega) (by omega) (by simp; omega) ?_)
      intro v' w5 hown hgrow _
      have hX5 := ((hX1.alloc hwz1 (.cells #[.int .i64 U, .int .i64 V] 32)).alloc (by simp; omega) (.cells #[.int .i64 (r + 1), .int .i64 (A + U), .int .i64 (B + V)] 34)).grown hgrow (by simp; omega) (own_block hO1.out)
      have hO5 : Hid (w5.ownsRow (w2.heap.size + 1) 34 3 v' (k + 1 + 1) (rowK G (k + 1 + 1))) := by rw [hrow.out]; exact hown
      clear hown hgrow hO1 hX1 hwz1 e1
      go_wp2
      go_roundw
      case rel => exact ⟨k + 1, by omega, by go_num, hO5, hX5⟩
      case measure => simp [intOf]; omega
    · obtain rfl : k = 6 := by omega
      obtain ⟨g, cap, rfl⟩ := own_shape hO.out (by omega)
      have hZ : Below w.heap.size w wr := hB.trans (hX.mono (by omega))
      clear UN UB hrowS hrow1 z0 m0 m1 s0 s1 s2
      go_wp2
      go_ret2
      refine ⟨⟨g, cap, rfl, fun o ho => ?_⟩, hZ⟩
      rw [hO.out.cellAt o (by omega)]
      exact rowK_at G o ho

/-- CHILDREN, as the document's own answer has it. -/
theorem rkids_yes (r a b : Int) (h : Ok4 r a b) (hr : r < 12) (w : World) :
    Calls Tryz.prog 17 #[.agg #[.int .i64 r, .int .i64 a, .int .i64 b]] w fun e w' => TellsC (kidG r a b) e w' ∧ Below w.heap.size w w' := by
  have hp := ok4_part h
  have e1 : mulA a b 2 1 = 2 * a - b := by unfold mulA; omega
  have e2 : mulB a b 2 1 = a + 3 * b := by unfold mulB; omega
  have MU := fun w => refmul_yes a b 2 1 (by omega) (by omega) (by omega) (by omega) (by omega) (by omega) (by omega) (by omega) (by rw [e1]; exact fits_mk (by omega)) (by rw [e2]; exact fits_mk (by omega)) w
  rw [e1, e2] at MU
  refine rkids_core r a b (2 * a - b) (a + 3 * b) (kidG r a b) h.1 hr (by simp; omega) h (by omega) (by omega) (by omega) (by omega) (kidG_0 r a b 0) ?_ ?_ (fun k hk => ⟨kidG_0 r a b (k + 1), ?_, ?_⟩) MU w
  · rw [show (1 : Nat) = 0 * 3 + 1 from rfl, kidG_1]; show 2 * a - b + 0 = _; omega
  · rw [show (2 : Nat) = 0 * 3 + 2 from rfl, kidG_2]; show a + 3 * b + 0 = _; omega
  · rw [kidG_1]
    have := (unit_part k (k + 1) hk (by omega)).2 rfl
    rw [this.1]; rfl
  · rw [kidG_2]
    have := (unit_part k (k + 1) hk (by omega)).2 rfl
    rw [this.2]; rfl
set_option maxHeartbeats 1000000 in
theorem rkids_bad (r a b : Int) (h : ¬ Ok4 r a b) (w : World) :
    Calls Tryz.prog 17 #[.agg #[.int .i64 r, .int .i64 a, .int .i64 b]] w fun e w' => e = .returned (.tuple #[.slice none 0 0, .int .i64 2]) ∧ Below w.heap.size w w' := by
  have OK : Hid (∀ w, Calls Tryz.prog 34 #[.agg #[.int .i64 r, .int .i64 a, .int .i64 b]] w fun e w' => e = .returned (.bool false) ∧ Below w.heap.size w w') := fun w => by rw [← ok4_no h]; exact rok_any r a b w
  clear h
  go_enter Tryz.func17, Tryz.ntmps17
  go_wp2_with fail
  refine (OK.out _).mono ?_
  rintro e w1 ⟨rfl, d1⟩
  have c1 : Below w.heap.size w w1 := Below.trans (by go_grown) (d1.mono (by simp; try omega))
  have hB := c1
  clear c1 d1
  go_wp2
  go_ret2
  exact ⟨rfl, hB⟩
set_option maxHeartbeats 1000000 in
theorem rkids_fine (r a b : Int) (h : Ok4 r a b) (hr : (r == 12) = true) (w : World) :
    Calls Tryz.prog 17 #[.agg #[.int .i64 r, .int .i64 a, .int .i64 b]] w fun e w' => e = .returned (.tuple #[.slice none 0 0, .int .i64 1]) ∧ Below w.heap.size w w' := by
  have OK : Hid (∀ w, Calls Tryz.prog 34 #[.agg #[.int .i64 r, .int .i64 a, .int .i64 b]] w fun e w' => e = .returned (.bool true) ∧ Below w.heap.size w w') := fun w => by rw [← ok4_mk h]; exact rok_any r a b w
  clear h
  go_enter Tryz.func17, Tryz.ntmps17
  go_wp2_with fail
  refine (OK.out _).mono ?_
  rintro e w1 ⟨rfl, d1⟩
  have c1 : Below w.heap.size w w1 := Below.trans (by go_grown) (d1.mono (by simp; try omega))
  have z0 : w1.cell? ⟨w.heap.size, 0, none⟩ = some (.int .i64 r) := keepCell d1 (by go_simp)
  have qz0 := World.block_lt_of_cell? _ _ z0
  have z1 : w1.cell? ⟨w.heap.size, 1, none⟩ = some (.int .i64 a) := keepCell d1 (by go_simp)
  have z2 : w1.cell? ⟨w.heap.size, 2, none⟩ = some (.int .i64 b) := keepCell d1 (by go_simp)
  have hB := c1
  clear c1 d1
  go_wp2
  go_ret2
  exact ⟨rfl, hB⟩
end Go.Proofs.YtlipbdiijjfheaaGreatDoor
