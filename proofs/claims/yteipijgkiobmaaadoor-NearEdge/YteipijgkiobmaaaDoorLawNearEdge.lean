/-
  The law NearEdge: it returns true for any base cell at an edge and any radius, in whatever memory where both tables hold what their texts lay.
-/
import Derived.Test.YteipijgkiobmaaaDoorNAwake
import Derived.Test.YteipijgkiobmaaaDoorNB6
namespace Go.Proofs.YteipijgkiobmaaaDoor
open Go.RowKit

theorem mask_of (n : Int) (j : Nat) (hj : j < 63) {K M : Int} (hK : ((2 ^ j - 1 : Nat) : Int) = K) (hM : ((2 ^ j : Nat) : Int) = M) : bits .and .i64 n K = n % M := by
  have := i64_mask n j hj
  rwa [hK, hM] at this
theorem ok_base (a b : Int) : Ok4 0 a b ↔ (-512 ≤ a ∧ a ≤ 511) ∧ (-512 ≤ b ∧ b ≤ 511) := by
  constructor
  · intro h; exact ⟨h.2.2.2.2.1, h.2.2.2.2.2⟩
  · intro h; exact ok4_of_base (r := 0) (by omega) h.1 h.2
theorem two_in : ∀ {L : List Int} {x y : Int}, x ∈ L → y ∈ L → x ≠ y → 2 ≤ L.length
  | [], _, _, hx, _, _ => by simp at hx
  | [z], x, y, hx, hy, h => by simp at hx hy; omega
  | _ :: _ :: _, _, _, _, _, _ => by simp
/-- A base cell at an edge: one neighbour may not be, two others may. -/
def AtEdge (a b : Int) : Prop := ((-512 ≤ a ∧ a ≤ 511) ∧ (-512 ≤ b ∧ b ≤ 511)) ∧ (a = -512 ∨ a = 511 ∨ b = -512 ∨ b = 511)
theorem edge_miss {a b : Int} (h : AtEdge a b) : ∃ p q, stp p q = 1 ∧ ¬ Ok4 ((0 : Nat) : Int) (a + p) (b + q) := by
  rcases h.2 with e | e | e | e
  · exact ⟨-1, 0, by decide, fun k => by have := (ok_base _ _).1 k; omega⟩
  · exact ⟨1, 0, by decide, fun k => by have := (ok_base _ _).1 k; omega⟩
  · exact ⟨0, -1, by decide, fun k => by have := (ok_base _ _).1 k; omega⟩
  · exact ⟨0, 1, by decide, fun k => by have := (ok_base _ _).1 k; omega⟩
theorem edge_row {a b : Int} (h : AtEdge a b) : ∃ p : Int, (p = 1 ∨ p = -1) ∧ Ok4 ((0 : Nat) : Int) (a + p) (b + 0) := by
  by_cases e : a < 511
  · exact ⟨1, .inl rfl, (ok_base _ _).2 (by have := h.1; omega)⟩
  · exact ⟨-1, .inr rfl, (ok_base _ _).2 (by have := h.1; omega)⟩
theorem edge_col {a b : Int} (h : AtEdge a b) : ∃ q : Int, (q = 1 ∨ q = -1) ∧ Ok4 ((0 : Nat) : Int) (a + 0) (b + q) := by
  by_cases e : b < 511
  · exact ⟨1, .inl rfl, (ok_base _ _).2 (by have := h.1; omega)⟩
  · exact ⟨-1, .inr rfl, (ok_base _ _).2 (by have := h.1; omega)⟩
theorem edge_neigh {a b : Int} (h : AtEdge a b) {L : List Int} (hL : Rows 0 a b (rngP 1) L) : 2 ≤ L.length ∧ L.length ≤ 5 := by
  constructor
  · obtain ⟨p, hp, h1⟩ := edge_row h
    obtain ⟨q, hq, h2⟩ := edge_col h
    have m1 : wordOf 0 (a + p) (b + 0) ∈ L := (hL.mem _).2 ⟨p, 0, mem_rngP.2 (by rcases hp with rfl | rfl <;> decide), h1, rfl⟩
    have m2 : wordOf 0 (a + 0) (b + q) ∈ L := (hL.mem _).2 ⟨0, q, mem_rngP.2 (by rcases hq with rfl | rfl <;> decide), h2, rfl⟩
    exact two_in m1 m2 fun e => by have := word_inj h1 h2 e; omega
  · obtain ⟨p, q, hs, hn⟩ := edge_miss h
    have := wordsAt_less (P := rngP 1) ((mem_rngP (x := (p, q))).2 hs) hn
    rw [rngP_len] at this
    rw [hL.len]
    omega
theorem edge_disk {a b : Int} (h : AtEdge a b) {k : Nat} (hk : 1 ≤ k) {D : List Int} (hD : Rows 0 a b (diskP (k + 1)) D) : D.length ≤ 3 * k * (k + 1) ∧ ∀ y ∈ D, Whole y := by
  refine ⟨?_, fun y hy => (hD.whole hy).1⟩
  obtain ⟨p, q, hs, hn⟩ := edge_miss h
  have := wordsAt_less (P := diskP (k + 1)) ((mem_diskP (x := (p, q))).2 (by show stp p q < _; omega)) hn
  rw [diskP_len] at this
  rw [hD.len]
  omega

set_option maxHeartbeats 8000000 in
set_option maxRecDepth 20000 in
theorem nearEdge_at (a0 e0 k0 a A B n : Int) (ha : bits .and .i64 a0 1023 - 512 = a) (a1 : -512 ≤ a) (a2 : a ≤ 511) (hn : bits .and .i64 e0 3 = n) (hc : (n = 0 ∧ A = a ∧ B = -512) ∨ (n = 1 ∧ A = a ∧ B = 511) ∨ (n = 2 ∧ A = -512 ∧ B = a) ∨ (n = 3 ∧ A = 511 ∧ B = a)) (w : World) (hT : Tabs w) :
    Calls Tryd.prog 3 #[.int .i64 a0, .int .i64 e0, .int .i64 k0] w fun e w' => e = .returned (.bool true) ∧ Below w.heap.size w w' := by
  have hE : AtEdge A B := by unfold AtEdge; omega
  have hO : Ok4 ((0 : Nat) : Int) A B := (ok_base A B).2 hE.1
  have hz := word_eq hO
  obtain ⟨c, hc0, c0, c1⟩ : ∃ c : Int, bits .and .i64 k0 255 = c ∧ 0 ≤ c ∧ c ≤ 255 := by
    have := mask_of k0 8 (by omega) (K := 255) (M := 256) (by decide) (by decide)
    exact ⟨k0 % 256, this, by omega, by omega⟩
  obtain ⟨k, hk, k1, k5⟩ : ∃ k : Nat, c.tmod 5 = (k : Int) - 1 ∧ 1 ≤ k ∧ k ≤ 5 := by
    refine ⟨(c % 5).toNat + 1, ?_, by omega, by omega⟩
    rw [Int.tmod_eq_emod_of_nonneg c0]
    omega
  have RW : Hid (∀ w, Calls Tryd.prog 4 #[.agg #[.int .i64 0, .int .i64 A, .int .i64 B]] w fun e w' => e = .returned (.tuple #[.int .u64 (wordOf 0 A B), .int .i64 0]) ∧ Below w.heap.size w w') := rword_yes 0 A B hO
  have NE := hidd (nneigh_yes _ hz.1)
  have DI := hidd (ndisk_yes _ k hz.1 (by omega))
  rw [hz.2.1, hz.2.2.1, hz.2.2.2.1, show (((0 : Nat) : Int)).toNat = 0 by omega] at NE DI
  have FN : Hid (∀ L, Rows 0 A B (rngP 1) L → 2 ≤ L.length ∧ L.length ≤ 5) := hidd fun L h => edge_neigh hE h
  have FD : Hid (∀ D, Rows 0 A B (diskP (k + 1)) D → D.length ≤ 3 * k * (k + 1) ∧ ∀ y ∈ D, Whole y) := hidd fun D h => edge_disk hE k1 h
  generalize wordOf 0 A B = Z at *
  obtain ⟨U, eU⟩ : ∃ U : Nat, 3 * k * (k + 1) = U := ⟨_, rfl⟩
  have hU : U ≤ 90 := by rw [← eU]; exact Nat.le_trans (Nat.mul_le_mul (Nat.mul_le_mul_left 3 k5) (by omega : k + 1 ≤ 6)) (by omega)
  have fU : 3 * (k : Int) * ((k : Int) + 1) = (U : Int) := by rw [← eU]; simp
  rw [eU] at FD
  have hT0 : Hid (Tabs w) := hT
  clear hT hE hO hz eU
  rcases hc with ⟨rfl, rfl, rfl⟩ | ⟨rfl, rfl, rfl⟩ | ⟨rfl, rfl, rfl⟩ | ⟨rfl, rfl, rfl⟩
  all_goals
    go_enter Tryd.func3, Tryd.ntmps3
    go_wp2_with fail
    refine (RW.out _).mono ?_
    rintro e w1 ⟨rfl, d1⟩
    have c1 : Below w.heap.size w w1 := Below.trans (by go_grown) (d1.mono (by simp; try omega))
    have hB := c1
    clear c1 d1
    have T1 := hidd (hT0.out.below hB)
    go_wp2_with fail
    refine (NE.out _ T1.out).mono ?_
    rintro e w2 ⟨⟨L, ⟨s2, rfl, r2⟩, h2⟩, b2⟩
    have B2 := belowT hB b2
    have T2 := hidd (hT0.out.below B2)
    have n2 := FN.out L h2
    obtain ⟨q2, cap2, rfl, -⟩ := r2.form
    obtain ⟨m2, e2⟩ : ∃ m, L.length = m := ⟨_, rfl⟩
    rw [e2] at n2 ⊢
    clear NE T1 hB b2 r2 h2 FN e2
    go_wp2_with fail
    refine (DI.out _ T2.out).mono ?_
    rintro e w3 ⟨⟨D, ⟨s3, rfl, r3⟩, h3⟩, b3⟩
    have B3 := belowT B2 b3
    obtain ⟨n3, n4⟩ := FD.out D h3
    obtain ⟨q3, cap3, rfl, hp3⟩ := r3.form
    have HP := hidd hp3
    obtain ⟨m, em⟩ : ∃ m, D.length = m := ⟨_, rfl⟩
    have EM := hidd em
    rw [em] at n3 ⊢
    have FY : Hid (∀ (j : Nat) (hj : j < D.length), Whole D[j]) := hidd fun j hj => n4 _ (List.getElem_mem hj)
    clear DI T2 B2 b3 r3 h3 FD em hp3 n4
    obtain ⟨n21, n22⟩ := n2
    go_wp2_with fail
    obtain ⟨wO, rfl⟩ : ∃ z, z = w3 := ⟨_, rfl⟩
    go_loopw [14] (fun v14 wr => ∃ j : Nat, j ≤ m ∧ v14 = .int .i64 (j : Int) ∧ Below wO.heap.size wO wr) (fun v14 _ => m - (intOf v14).toNat)
    case atStart => exact ⟨0, by omega, rfl, Below.refl _ _⟩
    case round =>
      obtain ⟨j, hj, rfl, hBj⟩ := hrel
      by_cases hjm : j < m
      · obtain ⟨g, rfl, x1⟩ := HP.out j (by rw [EM.out]; exact hjm)
        replace x1 := keepCell hBj x1
        have wy := FY.out j (by rw [EM.out]; exact hjm)
        have IW := hidd (risword_yes _ wy)
        generalize D[j]'_ = y at *
        clear HP FY wy
        go_wp2_with fail
        refine (IW.out _).mono ?_
        rintro e w5 ⟨rfl, b5⟩
        have B5 := belowT hBj b5
        clear IW hBj b5 x1
        go_wp2
        go_roundw
        case rel => exact ⟨j + 1, by omega, by go_num, B5⟩
        case measure => simp [intOf]; omega
      · obtain rfl : j = m := by omega
        have BJ := belowT B3 hBj
        have AW := hidd (nawake _ (hT0.out.below BJ))
        clear HP FY hBj B3
        go_wp2_with fail
        refine AW.out.mono ?_
        rintro e w10 ⟨rfl, b10⟩
        go_wp2
        go_ret
        exact ⟨rfl, belowT BJ b10⟩
theorem nearEdge_walk (a0 e0 k0 : Int) (w : World) (hT : Tabs w) :
    Calls Tryd.prog 3 #[.int .i64 a0, .int .i64 e0, .int .i64 k0] w fun e w' => e = .returned (.bool true) ∧ Below w.heap.size w w' := by
  have ha : bits .and .i64 a0 1023 = a0 % 1024 := mask_of a0 10 (by omega) (K := 1023) (M := 1024) (by decide) (by decide)
  have hn : bits .and .i64 e0 3 = e0 % 4 := mask_of e0 2 (by omega) (K := 3) (M := 4) (by decide) (by decide)
  obtain ⟨a, ea⟩ : ∃ a, a0 % 1024 - 512 = a := ⟨_, rfl⟩
  have h4 : e0 % 4 = 0 ∨ e0 % 4 = 1 ∨ e0 % 4 = 2 ∨ e0 % 4 = 3 := by omega
  rcases h4 with h | h | h | h
  · exact nearEdge_at a0 e0 k0 a a (-512) 0 (by rw [ha]; exact ea) (by omega) (by omega) (by rw [hn]; exact h) (.inl ⟨rfl, rfl, rfl⟩) w hT
  · exact nearEdge_at a0 e0 k0 a a 511 1 (by rw [ha]; exact ea) (by omega) (by omega) (by rw [hn]; exact h) (.inr (.inl ⟨rfl, rfl, rfl⟩)) w hT
  · exact nearEdge_at a0 e0 k0 a (-512) a 2 (by rw [ha]; exact ea) (by omega) (by omega) (by rw [hn]; exact h) (.inr (.inr (.inl ⟨rfl, rfl, rfl⟩))) w hT
  · exact nearEdge_at a0 e0 k0 a 511 a 3 (by rw [ha]; exact ea) (by omega) (by omega) (by rw [hn]; exact h) (.inr (.inr (.inr ⟨rfl, rfl, rfl⟩))) w hT
end Go.Proofs.YteipijgkiobmaaaDoor
