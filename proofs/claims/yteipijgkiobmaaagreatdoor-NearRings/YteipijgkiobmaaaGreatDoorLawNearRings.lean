/-
  The law NearRings: it returns true for any point's cell, any of its neighbours, any radius, in whatever memory where both tables hold what their texts lay.
-/
import Derived.Test.YteipijgkiobmaaaGreatDoorNAwake
import Derived.Test.YteipijgkiobmaaaGreatDoorNPoint
namespace Go.Proofs.YteipijgkiobmaaaGreatDoor
open Go.RowKit

theorem mask_of (n : Int) (j : Nat) (hj : j < 63) {K M : Int} (hK : ((2 ^ j - 1 : Nat) : Int) = K) (hM : ((2 ^ j : Nat) : Int) = M) : bits .and .i64 n K = n % M := by
  have := i64_mask n j hj
  rwa [hK, hM] at this
/-- A disk of a neighbour: how many; and that it is within the disk of one radius more. -/
theorem rings_facts {r k : Nat} {a b y : Int} (hM : Mid r a b) (hk : k ≤ 7) {L1 : List Int} (h1 : Rows r a b (rngP 1) L1) (hy : y ∈ L1) {L2 L3 : List Int} (h2 : Rows (wR y).toNat (cellA y) (cellB y) (diskP (k + 1)) L2) (h3 : Rows r a b (diskP (k + 2)) L3) :
    L2.length = 3 * k * (k + 1) + 1 ∧ L3.length = 3 * (k + 1) * (k + 2) + 1 ∧ ∀ x ∈ L2, x ∈ L3 := by
  obtain ⟨p, q, hp, hO, rfl⟩ := (h1.mem y).1 hy
  have e := word_eq hO
  have hs := mem_rngP.1 hp
  rw [e.2.1, e.2.2.1, e.2.2.2.1, show ((r : Int)).toNat = r by omega] at h2
  have far : ∀ x : Int × Int, x ∈ diskP (k + 1) → stp (p + x.1) (q + x.2) < k + 2 := fun x hx => by
    have h1 := mem_diskP.1 hx
    have h2 := stp_add p q x.1 x.2
    simp only at hs
    omega
  refine ⟨?_, ?_, fun x hx => ?_⟩
  · rw [h2.len, wordsAt_all, diskP_len]
    intro x hx
    have := hM.ok (p := p + x.1) (q := q + x.2) (by have := far x hx; omega)
    rwa [← Int.add_assoc, ← Int.add_assoc] at this
  · rw [rows_all h3 hM, diskP_len]
    intro x hx
    have := mem_diskP.1 hx
    omega
  · obtain ⟨s, t, hst, hO2, rfl⟩ := (h2.mem x).1 hx
    refine (h3.mem _).2 ⟨p + s, q + t, mem_diskP.2 ?_, ?_, ?_⟩
    · have := far _ hst
      exact this
    · rwa [← Int.add_assoc, ← Int.add_assoc]
    · rw [← Int.add_assoc, ← Int.add_assoc]

set_option maxHeartbeats 8000000 in
set_option maxRecDepth 20000 in
theorem nearRings_walk (x0 y0 r0 k0 i0 : Int) (w : World) (hT : Tabs w) : Calls Tryz.prog 5 #[.int .i64 x0, .int .i64 y0, .int .i64 r0, .int .i64 k0, .int .i64 i0] w fun e w' => e = .returned (.bool true) ∧ Below w.heap.size w w' := by
  obtain ⟨n, P, Q, hM, -, PW⟩ := pword x0 y0 r0
  have hO := hM.self
  have hz := word_eq hO
  obtain ⟨k, hk, k7⟩ : ∃ k : Nat, bits .and .i64 k0 7 = (k : Int) ∧ k ≤ 7 := by
    have := mask_of k0 3 (by omega) (K := 7) (M := 8) (by decide) (by decide)
    exact ⟨(k0 % 8).toNat, by rw [this]; omega, by omega⟩
  obtain ⟨c, hc, hc0⟩ : ∃ c : Int, bits .and .i64 i0 255 = c ∧ 0 ≤ c ∧ c ≤ 255 := by
    have := mask_of i0 8 (by omega) (K := 255) (M := 256) (by decide) (by decide)
    exact ⟨i0 % 256, this, by omega, by omega⟩
  obtain ⟨c0, c1⟩ := hc0
  obtain ⟨d, hd, d6⟩ : ∃ d : Nat, c.tmod 6 = (d : Int) ∧ d < 6 := by
    refine ⟨(c % 6).toNat, ?_, by omega⟩
    rw [Int.tmod_eq_emod_of_nonneg c0]
    omega
  have NE := hidd (nneigh_yes _ hz.1)
  have DI := hidd (ndisk_yes _ (k + 1) hz.1 (by omega))
  rw [hz.2.1, hz.2.2.1, hz.2.2.2.1, show ((n : Int)).toNat = n by omega] at NE DI
  have RF : Hid (∀ (L1 : List Int) (y : Int), Rows n P Q (rngP 1) L1 → y ∈ L1 → ∀ L2 L3, Rows (wR y).toNat (cellA y) (cellB y) (diskP (k + 1)) L2 → Rows n P Q (diskP (k + 2)) L3 → L2.length = 3 * k * (k + 1) + 1 ∧ L3.length = 3 * (k + 1) * (k + 2) + 1 ∧ ∀ x ∈ L2, x ∈ L3) := hidd fun L1 y h1 hy L2 L3 h2 h3 => rings_facts hM k7 h1 hy h2 h3
  have l6 : Hid (∀ L, Rows n P Q (rngP 1) L → L.length = 6) := hidd fun L h => rows_all h hM fun x hx => by have := mem_rngP.1 hx; omega
  replace PW := hidd PW
  have hT0 : Hid (Tabs w) := hT
  generalize wordOf n P Q = Z at *
  clear hT hM hO hz
  go_enter Tryz.func5, Tryz.ntmps5
  go_wp2_with fail
  refine (PW.out _).mono ?_
  rintro e w1 ⟨rfl, b1⟩
  have T1 := hidd (hT0.out.below b1)
  clear PW
  go_wp2_with fail
  refine (NE.out _ T1.out).mono ?_
  rintro e w2 ⟨⟨L1, ⟨s1, rfl, r1⟩, h1⟩, b2⟩
  have B2 := belowT b1 b2
  have T2 := hidd (hT0.out.below B2)
  have n1 := l6.out _ h1
  have H1 := hidd h1
  obtain ⟨q1, cap1, rfl, hp1⟩ := r1.form
  obtain ⟨g1, rfl, x1⟩ := hp1 d (by omega)
  have hy : L1[d]'(by omega) ∈ L1 := List.getElem_mem _
  have hwy := (h1.whole hy).1
  have DY := hidd (ndisk_yes _ k hwy (by omega))
  have RG := hidd (RF.out L1 _ h1 hy)
  rw [n1]
  generalize L1[d]'_ = y at *
  clear r1 hp1 NE T1 b1 b2 h1 H1 hy hwy RF l6
  go_wp2_with fail
  refine (DY.out _ T2.out).mono ?_
  rintro e w3 ⟨⟨L2, ⟨s2, rfl, r2⟩, h2⟩, b3⟩
  have B3 := belowT B2 b3
  have T3 := hidd (hT0.out.below B3)
  clear DY T2 B2 b3 x1
  have DI2 : Hid (∀ w, Tabs w → Calls Tryz.prog 18 #[.int .u64 Z, .int .i64 ((k : Int) + 1)] w fun e w' => (∃ L, RowSay w.heap.size L e w' ∧ Rows n P Q (diskP (k + 1 + 1)) L) ∧ Below w.heap.size w w') := DI
  clear DI
  go_wp2_with fail
  refine (DI2.out _ T3.out).mono ?_
  rintro e w4 ⟨⟨L3, ⟨s3, rfl, r3⟩, h3⟩, b4⟩
  have B4 := belowT B3 b4
  obtain ⟨e2, e3, hin⟩ := RG.out L2 L3 h2 h3
  have hk1 : 3 * k * (k + 1) ≤ 168 := Nat.le_trans (Nat.mul_le_mul (Nat.mul_le_mul_left 3 k7) (by omega : k + 1 ≤ 8)) (by omega)
  have hk2 : 3 * (k + 1) * (k + 2) ≤ 216 := Nat.le_trans (Nat.mul_le_mul (Nat.mul_le_mul_left 3 (by omega : k + 1 ≤ 8)) (by omega : k + 2 ≤ 9)) (by omega)
  have l3 : L3.length ≤ 300 := by omega
  have HA : Hid (∀ (j : Nat) (hj : j < L2.length) (wx : World), Below w4.heap.size w4 wx → Calls Tryz.prog 11 #[s3, .int .u64 L2[j]] wx fun e w' => e = .returned (.bool true) ∧ Below wx.heap.size wx w') := by
    refine hidd fun j hj wx hb => ?_
    have hm : L2[j] ∈ L2 := List.getElem_mem hj
    have := rhas _ s3 L3 L2[j] (rows_whole h2 _ hm) h3.2 (rows_whole h3) (by omega) wx (r3.keep hb)
    rwa [decide_eq_true (hin _ hm)] at this
  have R2 := r2.keep b4
  obtain ⟨q2, cap2, rfl, hp2⟩ := R2.form
  have HP := hidd hp2
  obtain ⟨q3, cap3, rfl, -⟩ := r3.form
  obtain ⟨m2, en2⟩ : ∃ m, L2.length = m := ⟨_, rfl⟩
  obtain ⟨m3, en3⟩ : ∃ m, L3.length = m := ⟨_, rfl⟩
  have EN := hidd en2
  rw [en2] at e2 ⊢
  rw [en3] at e3 HA ⊢
  obtain ⟨U, eU⟩ : ∃ U : Nat, 3 * k * (k + 1) = U := ⟨_, rfl⟩
  obtain ⟨V, eV⟩ : ∃ V : Nat, 3 * (k + 1) * (k + 2) = V := ⟨_, rfl⟩
  have fU : 3 * (k : Int) * ((k : Int) + 1) = (U : Int) := by rw [← eU]; simp
  have fV : 3 * ((k : Int) + 1) * ((k : Int) + 2) = (V : Int) := by rw [← eV]; simp
  rw [eU] at hk1 e2
  rw [eV] at hk2 e3
  have hm2 : m2 ≤ 300 := by omega
  have hm3 : m3 ≤ 300 := by omega
  replace e2 := hidd e2
  replace e3 := hidd e3
  clear r2 r3 R2 h2 h3 hin hp2 RG DI2 T3 B3 b4 en2 en3 eU eV l3
  go_wp2_with fail
  obtain ⟨wO, rfl⟩ : ∃ z, z = w4 := ⟨_, rfl⟩
  go_loopw [19] (fun v19 wr => ∃ j : Nat, j ≤ m2 ∧ v19 = .int .i64 (j : Int) ∧ Below wO.heap.size wO wr) (fun v19 _ => m2 - (intOf v19).toNat)
  case atStart => exact ⟨0, by omega, rfl, Below.refl _ _⟩
  case round =>
    obtain ⟨j, hj, rfl, hB⟩ := hrel
    by_cases hlt : j < m2
    · obtain ⟨g, rfl, x1⟩ := HP.out j (by rw [EN.out]; exact hlt)
      have AJ := hidd (HA.out j (by rw [EN.out]; exact hlt) wr hB)
      replace x1 := keepCell hB x1
      generalize L2[j]'_ = z at *
      clear HP EN HA fU fV
      go_wp2_with fail
      refine AJ.out.mono ?_
      rintro e w9 ⟨rfl, b9⟩
      have B9 := belowT hB b9
      clear hB b9 AJ x1
      go_wp2
      go_roundw
      case rel => exact ⟨j + 1, by omega, by go_num, B9⟩
      case measure => simp [intOf]; omega
    · obtain rfl : j = m2 := by omega
      have BW := belowT B4 hB
      have AW := hidd (nawake _ (hT0.out.below BW))
      have z1 : ((j : Int) == (U : Int) + 1) = true := by have := e2.out; simp; omega
      have z2 : ((m3 : Int) == (V : Int) + 1) = true := by have := e3.out; simp; omega
      clear HP EN HA e2 e3
      go_wp2_with fail
      refine AW.out.mono ?_
      rintro e w10 ⟨rfl, b10⟩
      go_wp2
      go_ret
      exact ⟨rfl, belowT BW b10⟩
end Go.Proofs.YteipijgkiobmaaaGreatDoor
