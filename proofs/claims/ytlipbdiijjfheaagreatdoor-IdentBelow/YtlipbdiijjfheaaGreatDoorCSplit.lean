/-
  What package cell's split tells: the parent's number and the digit, of any number with parts within the bounds, in whatever memory where the tables of digits and of Units hold what their texts lay.
-/
import Derived.Test.YtlipbdiijjfheaaGreatDoorCPart
namespace Go.Proofs.YtlipbdiijjfheaaGreatDoor
open Go.RowKit

def digCells : Array Value := #[.int .i64 0, .int .i64 1, .int .i64 5, .int .i64 6, .int .i64 3, .int .i64 2, .int .i64 4]
/-- The table of digits holds what its text lays. -/
def Digs (w : World) : Prop := w.var? Tryz.prog "apiary/cell.digits" = some digCells
theorem gDigs : Tryz.prog.globalNamed "apiary/cell.digits" = some 1 := by kernel_rfl
theorem Digs.cell {w : World} (h : Digs w) (i : Nat) : w.cell? ⟨1, i, none⟩ = digCells[i]? := World.var?_cell gDigs h i
theorem Digs.below {w w' : World} (h : Digs w) (hb : Below w.heap.size w w') : Digs w' :=
  var?_below hb gDigs (World.block_lt_of_cell? _ _ (show w.cell? ⟨1, 0, none⟩ = some (.int .i64 0) from h.cell 0)) h
/-- Both tables hold what their texts lay. -/
def Tabs (w : World) : Prop := Digs w ∧ Uni w
theorem Tabs.below {w w' : World} (h : Tabs w) (hb : Below w.heap.size w w') : Tabs w' := ⟨h.1.below hb, h.2.below hb⟩

set_option maxHeartbeats 4000000 in
theorem csplit_core (a b q m d X Y U V c e A B P Q : Int) (a1 : -1073741824 ≤ a) (a2 : a ≤ 1073741824) (b1 : -1073741824 ≤ b) (b2 : b ≤ 1073741824) (m1 : 0 ≤ m) (m2 : m < 7)
    (FL : ∀ w, Calls Tryz.prog 122 #[.int .i64 (a - 2 * b), .int .i64 7] w fun e w' => e = .returned (.tuple #[.int .i64 q, .int .i64 m, .bool true]) ∧ Below w.heap.size w w')
    (hd : digCells[m.toNat]? = some (.int .i64 d))
    (PA : ∀ w, Uni w → Calls Tryz.prog 82 #[.int .i64 d] w fun e w' => e = .returned (.agg #[.int .i64 X, .int .i64 Y]) ∧ Below w.heap.size w w')
    (SU : ∀ w, Calls Tryz.prog 123 #[.agg #[.int .i64 a, .int .i64 b], .agg #[.int .i64 X, .int .i64 Y]] w fun e w' => e = .returned (.tuple #[.agg #[.int .i64 U, .int .i64 V], .bool true]) ∧ Below w.heap.size w w')
    (BE : ∀ w, Calls Tryz.prog 79 #[.int .i64 1] w fun e w' => e = .returned (.tuple #[.agg #[.int .i64 2, .int .i64 1], .bool true]) ∧ Below w.heap.size w w')
    (CO : ∀ w, Calls Tryz.prog 124 #[.agg #[.int .i64 2, .int .i64 1]] w fun x w' => x = .returned (.tuple #[.agg #[.int .i64 c, .int .i64 e], .bool true]) ∧ Below w.heap.size w w')
    (MU : ∀ w, Calls Tryz.prog 80 #[.agg #[.int .i64 U, .int .i64 V], .agg #[.int .i64 c, .int .i64 e]] w fun x w' => x = .returned (.tuple #[.agg #[.int .i64 A, .int .i64 B], .bool true]) ∧ Below w.heap.size w w')
    (A1 : -9007199254740992 ≤ A) (A2 : A ≤ 9007199254740992) (B1 : -9007199254740992 ≤ B) (B2 : B ≤ 9007199254740992) (hP : A.tdiv 7 = P) (hQ : B.tdiv 7 = Q)
    (w : World) (hT : Tabs w) :
    Calls Tryz.prog 94 #[.agg #[.int .i64 a, .int .i64 b]] w fun e w' => e = .returned (.tuple #[.agg #[.int .i64 P, .int .i64 Q], .int .i64 d]) ∧ Below w.heap.size w w' := by
  replace FL : Hid _ := FL
  replace PA : Hid _ := PA
  replace SU : Hid _ := SU
  replace BE : Hid _ := BE
  replace CO : Hid _ := CO
  replace MU : Hid _ := MU
  have hT0 : Hid (Tabs w) := hT
  clear hT
  go_enter Tryz.func94, Tryz.ntmps94
  go_wp2_with fail
  refine (FL.out _).mono ?_
  rintro e w1 ⟨rfl, d1⟩
  have c1 : Below w.heap.size w w1 := Below.trans (by go_grown) (d1.mono (by simp; try omega))
  have z0 : w1.cell? ⟨w.heap.size, 0, none⟩ = some (.int .i64 a) := keepCell d1 (by go_simp)
  have qz0 := World.block_lt_of_cell? _ _ z0
  have z1 : w1.cell? ⟨w.heap.size, 1, none⟩ = some (.int .i64 b) := keepCell d1 (by go_simp)
  have r0 : w1.cell? ⟨w.heap.size + 1, 0, none⟩ = some (.int .i64 0) := keepCell d1 (by go_simp)
  have fr0 : w1.frozen? ⟨w.heap.size + 1, 0, none⟩ = false := keepFrozen (v := .int .i64 0) d1 (by go_simp) (by go_simp)
  have qr0 := World.block_lt_of_cell? _ _ r0
  have r1 : w1.cell? ⟨w.heap.size + 1, 1, none⟩ = some (.int .i64 0) := keepCell d1 (by go_simp)
  have fr1 : w1.frozen? ⟨w.heap.size + 1, 1, none⟩ = false := keepFrozen (v := .int .i64 0) d1 (by go_simp) (by go_simp)
  have hB := c1
  clear c1 d1
  have v0 : w1.cell? ⟨1, m.toNat, none⟩ = some (.int .i64 d) := ((hT0.out.below hB).1.cell m.toNat).trans hd
  have hT1 : Hid (∀ wx, (wx.cell? ⟨w.heap.size, 0, none⟩ = some (.int .i64 a) ∧ wx.cell? ⟨w.heap.size, 1, none⟩ = some (.int .i64 b) ∧ Below w1.heap.size w1 wx) → Uni wx) := fun wx h => (hT0.out.below (belowT hB h.2.2)).2
  go_wp2_with fail
  have hS0 := keepTwo (drewB w1) ⟨z0, z1, Below.refl _ _⟩
  go_cut [7] from 28 (fun v7 wx => ∃ p : Nat, v7 = .pointer (some ⟨p, 0, none⟩) ∧ w1.heap.size ≤ p ∧ wx.cell? ⟨p, 0, none⟩ = some (.int .i64 U) ∧ wx.cell? ⟨p, 1, none⟩ = some (.int .i64 V) ∧ wx.frozen? ⟨p, 0, none⟩ = false ∧ wx.frozen? ⟨p, 1, none⟩ = false ∧ Below w1.heap.size w1 wx)
  case first =>
    go_region_held3 (fun w' => w'.cell? ⟨w.heap.size, 0, none⟩ = some (.int .i64 a) ∧ w'.cell? ⟨w.heap.size, 1, none⟩ = some (.int .i64 b) ∧ Below w1.heap.size w1 w') (first | exact hS0 | exact keepTwo hb (by assumption) | exact keepTwo (allocB _ _) (by assumption) | exact keepTwoSwap (by first | omega | (simp; omega) | simp) (by first | omega | (simp; omega) | simp) (by first | omega | (simp; omega) | simp) (by assumption) | exact keepTwoStore (by first | omega | (simp; omega) | simp) (by first | omega | (simp; omega) | simp) (by first | omega | (simp; omega) | simp) (by assumption))
      (first | (go_at_call 82; refine (PA.out _ (hT1.out _ (by assumption))).mono ?_; rintro e w' ⟨rfl, hb⟩; (try (have nw := keepNew hb (by first | assumption | exact new_alloc _); have nw0 := nw.1; have nw1 := nw.2.1; have nw2 := nw.2.2.1; have nw3 := nw.2.2.2)); have hz := hb.size; (try simp at hz)) | (go_at_call 123; refine (SU.out _).mono ?_; rintro e w' ⟨rfl, hb⟩; (try (have nw := keepNew hb (by first | assumption | exact new_alloc _); have nw0 := nw.1; have nw1 := nw.2.1; have nw2 := nw.2.2.1; have nw3 := nw.2.2.2)); have hz := hb.size; (try simp at hz)))
    all_goals
      rename_i hS
      go_wp2_with fail
      go_meet
      exact ⟨_, rfl, (by first | omega | (simp; omega) | simp), (by first | exact store_keep (store_new nw0) (by simp) | go_simp), (by first | exact store_new (store_keep nw1 (by simp)) | go_simp), (by first | simp [nw2] | go_simp), (by first | simp [nw3] | go_simp), hS.2.2⟩
  case rest =>
    obtain ⟨p, rfl, hp, t0, t1, ft0, ft1, hw⟩ := hcut
    have l1 : w.heap.size + 1 < w1.heap.size := qr0
    have n1 : ¬ p = w.heap.size + 1 := by omega
    have n2 : ¬ w.heap.size + 1 = p := by omega
    replace fr0 := keepFrozen hw r0 fr0
    replace fr1 := keepFrozen hw r1 fr1
    replace r0 := keepCell hw r0
    replace r1 := keepCell hw r1
    replace hB := belowT hB hw
    have hp2 : w.heap.size ≤ p := by omega
    clear hw qr0 qz0 z0 z1 v0 hS0 hT0 hT1 FL PA SU hd
    have qr0 := World.block_lt_of_cell? _ _ r0
    have qt0 := World.block_lt_of_cell? _ _ t0
    go_wp2_with fail
    refine (BE.out _).mono ?_
    rintro e v1 ⟨rfl, d1⟩
    have c1 : Below wc.heap.size wc v1 := Below.trans (by go_grown) (d1.mono (by simp; try omega))
    replace fr0 := keepFrozen c1 r0 fr0
    replace r0 := keepCell c1 r0
    replace qr0 := World.block_lt_of_cell? _ _ r0
    replace fr1 := keepFrozen c1 r1 fr1
    replace r1 := keepCell c1 r1
    replace ft0 := keepFrozen c1 t0 ft0
    replace t0 := keepCell c1 t0
    replace qt0 := World.block_lt_of_cell? _ _ t0
    replace ft1 := keepFrozen c1 t1 ft1
    replace t1 := keepCell c1 t1
    replace hB := belowT hB c1
    clear c1 d1
    go_wp2_with fail
    refine (CO.out _).mono ?_
    rintro e v2 ⟨rfl, d2⟩
    have c2 : Below v1.heap.size v1 v2 := Below.trans (by go_grown) (d2.mono (by simp; try omega))
    replace fr0 := keepFrozen c2 r0 fr0
    replace r0 := keepCell c2 r0
    replace qr0 := World.block_lt_of_cell? _ _ r0
    replace fr1 := keepFrozen c2 r1 fr1
    replace r1 := keepCell c2 r1
    replace ft0 := keepFrozen c2 t0 ft0
    replace t0 := keepCell c2 t0
    replace qt0 := World.block_lt_of_cell? _ _ t0
    replace ft1 := keepFrozen c2 t1 ft1
    replace t1 := keepCell c2 t1
    have s0 : v2.cell? ⟨v1.heap.size, 0, none⟩ = some (.int .i64 2) := keepCell d2 (by go_simp)
    have qs0 := World.block_lt_of_cell? _ _ s0
    have s1 : v2.cell? ⟨v1.heap.size, 1, none⟩ = some (.int .i64 1) := keepCell d2 (by go_simp)
    replace hB := belowT hB c2
    clear c2 d2
    go_wp2_with fail
    refine (MU.out _).mono ?_
    rintro e v3 ⟨rfl, d3⟩
    have c3 : Below v2.heap.size v2 v3 := Below.trans (by go_grown) (d3.mono (by simp; try omega))
    replace fr0 := keepFrozen c3 r0 fr0
    replace r0 := keepCell c3 r0
    replace qr0 := World.block_lt_of_cell? _ _ r0
    replace fr1 := keepFrozen c3 r1 fr1
    replace r1 := keepCell c3 r1
    replace ft0 := keepFrozen c3 t0 ft0
    replace t0 := keepCell c3 t0
    replace qt0 := World.block_lt_of_cell? _ _ t0
    replace ft1 := keepFrozen c3 t1 ft1
    replace t1 := keepCell c3 t1
    replace s0 := keepCell c3 s0
    replace qs0 := World.block_lt_of_cell? _ _ s0
    replace s1 := keepCell c3 s1
    have y0 : v3.cell? ⟨v2.heap.size, 0, none⟩ = some (.int .i64 c) := keepCell d3 (by go_simp)
    have qy0 := World.block_lt_of_cell? _ _ y0
    have y1 : v3.cell? ⟨v2.heap.size, 1, none⟩ = some (.int .i64 e) := keepCell d3 (by go_simp)
    replace hB := belowT hB c3
    clear c3 d3
    have e0 := store_keep (u := .int .i64 B) (q := ⟨p, 1, none⟩) (store_new (u := .int .i64 A) t0) (by simp)
    have e1 := store_new (u := .int .i64 B) (store_keep (u := .int .i64 A) (q := ⟨p, 0, none⟩) t1 (by simp))
    have k0 := store_keep (u := .int .i64 B) (q := ⟨p, 1, none⟩) (store_keep (u := .int .i64 A) (q := ⟨p, 0, none⟩) r0 (by first | (simp; done) | (simp; exact n1))) (by first | (simp; done) | (simp; exact n1))
    have k1 := store_keep (u := .int .i64 B) (q := ⟨p, 1, none⟩) (store_keep (u := .int .i64 A) (q := ⟨p, 0, none⟩) r1 (by first | (simp; done) | (simp; exact n1))) (by first | (simp; done) | (simp; exact n1))
    obtain ⟨g0, g1⟩ := two_stores (u := .int .i64 P) (v := .int .i64 Q) k0 k1
    have d1 : (A.tdiv 7).natAbs ≤ A.natAbs := by rw [Int.natAbs_tdiv]; exact Nat.div_le_self _ _
    have d2 : (B.tdiv 7).natAbs ≤ B.natAbs := by rw [Int.natAbs_tdiv]; exact Nat.div_le_self _ _
    have p1 : -9007199254740992 ≤ P := by omega
    have p2 : P ≤ 9007199254740992 := by omega
    have p3 : -9007199254740992 ≤ Q := by omega
    have p4 : Q ≤ 9007199254740992 := by omega
    clear d1 d2
    go_wp2
    exact bodyPost_ret (v := .tuple #[.agg #[.int .i64 P, .int .i64 Q], .int .i64 d]) (by simp [results, Tryz.results94, go_sem, g0, g1]) rfl ⟨rfl, (((hB.setCell (by exact hp2) _).setCell (by exact hp2) _).setCell (by simp) _).setCell (by simp) _⟩

theorem dig_cell (a b : Int) : digCells[((a - 2 * b) % 7).toNat]? = some (.int .i64 (dig a b)) := by
  rcases dig_see a b with h | h | h | h | h | h | h <;> (obtain ⟨hd, hm, -, -⟩ := h; rw [hd, hm]; rfl)
/-- SPLIT: the parent's number and the digit. -/
theorem csplit_any (a b : Int) (ha : In30c a) (hb : In30c b) (w : World) (hT : Tabs w) :
    Calls Tryz.prog 94 #[.agg #[.int .i64 a, .int .i64 b]] w fun e w' => e = .returned (.tuple #[.agg #[.int .i64 (parA a b), .int .i64 (parB a b)], .int .i64 (dig a b)]) ∧ Below w.heap.size w w' := by
  obtain ⟨a1, a2⟩ := ha
  obtain ⟨b1, b2⟩ := hb
  have hs := par_spec a b
  have hp := pt_box (dig a b)
  have hd := dig_box a b
  have m1 := Int.emod_nonneg (a - 2 * b) (b := 7) (by omega)
  have m2 := Int.emod_lt_of_pos (a - 2 * b) (b := 7) (by omega)
  have hx := par_box (a := a) (b := b) (B := 1073741824) ⟨a1, a2⟩ ⟨b1, b2⟩ (by omega)
  exact csplit_core a b ((a - 2 * b) / 7) ((a - 2 * b) % 7) (dig a b) (ptA (dig a b)) (ptB (dig a b)) (a - ptA (dig a b)) (b - ptB (dig a b)) 3 (-1) (7 * parA a b) (7 * parB a b) _ _ a1 a2 b1 b2 m1 m2
    (floor_any _ 7 (by omega) (by omega) (by omega) (by omega)) (dig_cell a b) (cpart_any _ hd.1 hd.2)
    (esub_small _ _ _ _ _ _ rfl rfl (by omega) (by omega) (by omega) (by omega) (by omega) (by omega) (by omega) (by omega))
    (ebeta_yes 1 (by omega))
    (econj_small 2 1 3 (-1) (by omega) (by omega) (by omega) (by omega) (by omega) (by omega))
    (emul_small _ _ _ _ _ _ (by omega) (by omega) (by omega) (by omega) (by omega) (by omega) (by omega) (by omega) (by omega) (by omega) (by omega) (by omega) (by omega) (by omega))
    (by omega) (by omega) (by omega) (by omega) (Int.mul_tdiv_cancel_left _ (by omega)) (Int.mul_tdiv_cancel_left _ (by omega)) w hT
end Go.Proofs.YtlipbdiijjfheaaGreatDoor
