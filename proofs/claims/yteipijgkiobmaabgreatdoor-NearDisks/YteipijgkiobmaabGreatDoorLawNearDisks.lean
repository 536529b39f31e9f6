/-
  The law NearDisks: it returns true for any point's cell and any radius, in whatever memory where both tables hold what their texts lay.
-/
import Derived.Test.YteipijgkiobmaabGreatDoorNAwake
import Derived.Test.YteipijgkiobmaabGreatDoorNPoint
import Derived.Test.YteipijgkiobmaabGreatDoorNB6
namespace Go.Proofs.YteipijgkiobmaabGreatDoor
open Go.RowKit

theorem nine (n : Int) : ∃ c : Int, ∃ d : Nat, bits .and .i64 n 255 = c ∧ 0 ≤ c ∧ c ≤ 255 ∧ c.tmod 10 = (d : Int) ∧ d ≤ 9 := by
  have h := i64_mask n 8 (by omega)
  rw [show ((2 ^ 8 - 1 : Nat) : Int) = 255 by decide, show ((2 ^ 8 : Nat) : Int) = 256 by decide] at h
  refine ⟨n % 256, ((n % 256) % 10).toNat, h, by omega, by omega, ?_, by omega⟩
  rw [Int.tmod_eq_emod_of_nonneg (by omega)]
  omega
/-- A ring's words as the law asks of them: how many; each as near as it says, and in the disk. -/
theorem disk_ring {r i k : Nat} {a b : Int} (hM : Mid r a b) (hi : i ≤ k) (hk : k ≤ 9) {L D : List Int} (hL : Rows r a b (rngP i) L) (hD : Rows r a b (diskP (k + 1)) D) :
    L.length = max (6 * i) 1 ∧ ∀ y ∈ L, y ∈ D ∧ Whole y ∧ wR y = r ∧ stp (cellA y - a) (cellB y - b) = i := by
  refine ⟨by rw [rows_all hL hM (fun x hx => by have := mem_rngP.1 hx; omega), rngP_len], fun y hy => ?_⟩
  obtain ⟨p, q, hp, hO, rfl⟩ := (hL.mem y).1 hy
  have e := word_eq hO
  have hs : stp p q = i := mem_rngP.1 hp
  refine ⟨(hD.mem _).2 ⟨p, q, mem_diskP.2 (by show stp p q < _; omega), hO, rfl⟩, e.1, e.2.1, ?_⟩
  rw [e.2.2.1, e.2.2.2.1, show a + p - a = p by omega, show b + q - b = q by omega]
  exact hs
/-- How many words the rings below one have. -/
def below6 (i : Nat) : Nat := if i = 0 then 0 else 3 * (i - 1) * i + 1
theorem below6_fin : ∀ i : Fin 10, decide (below6 (i.val + 1) = below6 i.val + max (6 * i.val) 1 ∧ below6 i.val ≤ 300) = true := by decide +kernel
theorem disk_len {r k : Nat} {a b : Int} (hM : Mid r a b) (hk : k ≤ 9) {D : List Int} (hD : Rows r a b (diskP (k + 1)) D) : D.length = below6 (k + 1) := by
  rw [rows_all hD hM (fun x hx => by have := mem_diskP.1 hx; omega), diskP_len]
  rfl

set_option maxHeartbeats 4000000 in
set_option maxRecDepth 20000 in
theorem nearDisks_walk (x0 y0 r0 k0 : Int) (w : World) (hT : Tabs w) : Calls Tryz.prog 4 #[.int .i64 x0, .int .i64 y0, .int .i64 r0, .int .i64 k0] w fun e w' => e = .returned (.bool true) ∧ Below w.heap.size w w' := by
  obtain ⟨n, P, Q, hM, -, PW⟩ := pword x0 y0 r0
  have hz := word_eq hM.self
  obtain ⟨c, k, hc, c0, c1, hk, k9⟩ := nine k0
  have DI := hidd (ndisk_yes _ k hz.1 (by omega))
  have RI : Hid (∀ i : Nat, i ≤ k → ∀ w, Tabs w → Calls Tryz.prog 13 #[.int .u64 (wordOf n P Q), .int .i64 (i : Int)] w fun e w' => (∃ L, RowSay w.heap.size L e w' ∧ Rows (wR (wordOf n P Q)).toNat (cellA (wordOf n P Q)) (cellB (wordOf n P Q)) (rngP i) L) ∧ Below w.heap.size w w') := hidd fun i hi => nring_yes _ i hz.1 (by omega)
  have CE := hidd (rwcell_yes _ hz.1)
  have DS : Hid (∀ y : Int, Whole y → wR y = n → ∀ w, Tabs w → Calls Tryz.prog 7 #[.int .u64 (wordOf n P Q), .int .u64 y] w fun e w' => e = .returned (.tuple #[.int .i64 (stp (cellA y - P) (cellB y - Q)), .int .i64 0]) ∧ Below w.heap.size w w') := by
    refine hidd fun y hy hr => ?_
    have := ndist_yes _ y hz.1 hy (by rw [hr, hz.2.1])
    rwa [hz.2.2.1, hz.2.2.2.1] at this
  rw [hz.2.1, hz.2.2.1, hz.2.2.2.1, show ((n : Int)).toNat = n by omega] at DI RI
  rw [hz.2.1, hz.2.2.1, hz.2.2.2.1] at CE
  have FA : Hid (∀ (i : Nat) (L D : List Int), i ≤ k → Rows n P Q (rngP i) L → Rows n P Q (diskP (k + 1)) D → L.length = max (6 * i) 1 ∧ ∀ y ∈ L, y ∈ D ∧ Whole y ∧ wR y = n ∧ stp (cellA y - P) (cellB y - Q) = i) := hidd fun i L D hi hL hD => disk_ring hM hi k9 hL hD
  have DL : Hid (∀ D, Rows n P Q (diskP (k + 1)) D → D.length = below6 (k + 1)) := hidd fun D hD => disk_len hM k9 hD
  replace PW := hidd PW
  have hT0 : Hid (Tabs w) := hT
  have n12 : n ≤ 12 := hM.1
  generalize wordOf n P Q = Z at *
  clear hT hM hz
  go_enter Tryz.func4, Tryz.ntmps4
  go_wp2_with fail
  refine (PW.out _).mono ?_
  rintro e w1 ⟨rfl, b1⟩
  have T1 := hidd (hT0.out.below b1)
  clear PW
  go_wp2_with fail
  refine (DI.out _ T1.out).mono ?_
  rintro e w2 ⟨⟨D, ⟨s2, rfl, r2⟩, h2⟩, b2⟩
  have B2 := belowT b1 b2
  have hDl := DL.out D h2
  have HD := hidd h2
  clear DI T1 b1 b2 DL
  go_wp2_with fail
  refine (CE.out _).mono ?_
  rintro e w3 ⟨rfl, b3⟩
  have B3 := belowT B2 b3
  have R3 := hidd (r2.keep b3)
  obtain ⟨q2, cap2, rfl, hp2⟩ := (r2.keep b3).form
  have HP := hidd hp2
  obtain ⟨m, em⟩ : ∃ m, D.length = m := ⟨_, rfl⟩
  have EM := hidd em
  rw [em] at hDl ⊢
  have RD : Hid (RowAt 0 w3 (.slice q2 m cap2) D) := hidd (by have := R3.out.mono (Nat.zero_le _); rwa [em] at this)
  have hm : m ≤ 300 := by
    have := of_decide_eq_true (below6_fin ⟨k, by omega⟩)
    have h3 : max (6 * k) 1 ≤ 54 := by omega
    have h4 : below6 (k + 1) = below6 k + max (6 * k) 1 := this.1
    have : ∀ j : Fin 11, decide (below6 j.val ≤ 300) = true := by decide +kernel
    have := of_decide_eq_true (this ⟨k + 1, by omega⟩)
    rw [hDl]
    exact this
  have hRise := hidd h2.2
  have hWho := hidd (rows_whole h2)
  replace hDl := hidd hDl
  clear r2 h2 hp2 em CE R3 B2 b3
  have T3 := hidd (hT0.out.below B3)
  obtain ⟨inn, hinn⟩ : ∃ z : Bool, decide (1 < (n : Int)) = z := ⟨_, rfl⟩
  have hal := allocB w3 (.cells #[.int .i64 n, .int .i64 P, .int .i64 Q] 37)
  have RX := hidd (RD.out.keep hal)
  have BX := belowT B3 hal
  have HX : Hid (∀ (d : Nat) (hd : d < D.length), ∃ g, q2 = some ⟨g, 0, none⟩ ∧ (w3.alloc (.cells #[.int .i64 n, .int .i64 P, .int .i64 Q] 37)).cell? ⟨g, d, none⟩ = some (.int .u64 D[d])) := hidd fun d hd => by
    obtain ⟨g, hg, x⟩ := HP.out d hd
    exact ⟨g, hg, keepCell hal x⟩
  clear HP RD T3 B3 hal
  go_wp2_with fail
  generalize w3.alloc (.cells #[.int .i64 n, .int .i64 P, .int .i64 Q] 37) = wO at RX BX HX ⊢
  go_loopw [12, 16] (fun v12 v16 wr => ∃ i : Nat, i ≤ k + 1 ∧ v12 = .int .i64 ((below6 i : Nat) : Int) ∧ v16 = .int .i64 (i : Int) ∧ Below wO.heap.size wO wr) (fun _ v16 _ => k + 1 - (intOf v16).toNat)
  case atStart => exact ⟨0, by omega, rfl, rfl, Below.refl _ _⟩
  case round =>
    obtain ⟨i, hi, rfl, rfl, hB⟩ := hrel
    by_cases hlt : i < k + 1
    · have hb6 := of_decide_eq_true (below6_fin ⟨i, by omega⟩)
      obtain ⟨hb61, hb62⟩ : below6 (i + 1) = below6 i + max (6 * i) 1 ∧ below6 i ≤ 300 := hb6
      obtain ⟨u, hu⟩ : ∃ u, below6 i = u := ⟨_, rfl⟩
      obtain ⟨u', hu'⟩ : ∃ u, below6 (i + 1) = u := ⟨_, rfl⟩
      have HU := hidd hu'
      rw [hu, hu'] at hb61
      rw [hu] at hb62 ⊢
      have hlz : (i : Int) ≤ (k : Int) := by omega
      have BW := belowT BX hB
      have TW := hidd (hT0.out.below BW)
      have RQ := hidd (RI.out i (by omega))
      clear hu hu'
      go_wp2_with fail
      refine (RQ.out _ TW.out).mono ?_
      rintro e w4 ⟨⟨L, ⟨s4, rfl, r4⟩, h4⟩, b4⟩
      have B4 := belowT hB b4
      obtain ⟨fl, fy⟩ := FA.out i L D (by omega) h4 HD.out
      obtain ⟨q4, cap4, rfl, hp4⟩ := r4.form
      obtain ⟨mL, eL⟩ : ∃ z, L.length = z := ⟨_, rfl⟩
      have EL := hidd eL
      rw [eL] at fl ⊢
      have hmx : max (6 * (i : Int)) 1 = (mL : Int) := by omega
      have hmL : mL ≤ 54 := by omega
      have hsum : (u : Int) + (mL : Int) = (u' : Int) := by omega
      have H4 := hidd hp4
      have FY : Hid (∀ (j : Nat) (hj : j < L.length), L[j] ∈ D ∧ Whole L[j] ∧ wR L[j] = n ∧ stp (cellA L[j] - P) (cellB L[j] - Q) = i) := hidd fun j hj => fy _ (List.getElem_mem hj)
      clear r4 h4 hp4 fy eL RQ TW BW b4 hB
      have hin2 : inn = true ∨ inn = false := by cases inn <;> simp
      rcases hin2 with rfl | rfl
      all_goals
        go_wp2_with fail
        obtain ⟨wP, rfl⟩ : ∃ z, z = w4 := ⟨_, rfl⟩
        go_loopw [19] (fun v19 wr => ∃ j : Nat, j ≤ mL ∧ v19 = .int .i64 (j : Int) ∧ Below wP.heap.size wP wr) (fun v19 _ => mL - (intOf v19).toNat)
        case atStart => exact ⟨0, by omega, rfl, Below.refl _ _⟩
        case round =>
          obtain ⟨j, hj, rfl, hBj⟩ := hrel
          by_cases hjl : j < mL
          · obtain ⟨g, rfl, x1⟩ := H4.out j (by rw [EL.out]; exact hjl)
            obtain ⟨y1, y2, y3, y4⟩ := FY.out j (by rw [EL.out]; exact hjl)
            have uy := hidd (hWho.out _ y1)
            replace x1 := keepCell hBj x1
            generalize L[j]'_ = y at *
            have DY := hidd (DS.out y y2 y3)
            rw [y4] at DY
            have BJ := belowT B4 hBj
            have TJ := hidd (hT0.out.below (belowT BX BJ))
            have hAH : Hid (∀ wx, Below wr.heap.size wr wx → Calls Tryz.prog 9 #[.slice q2 m cap2, .int .u64 y] wx fun e w' => e = .returned (.bool true) ∧ Below wx.heap.size wx w') := by
              refine hidd fun wx hb => ?_
              have := rhas 0 (.slice q2 m cap2) D y uy.out hRise.out hWho.out (by rw [EM.out]; omega) wx ((RX.out.keep BJ).keep hb)
              rwa [decide_eq_true y1] at this
            clear H4 FY y1 y2 y3 y4 uy
            go_wp2_with fail
            refine (DY.out _ TJ.out).mono ?_
            rintro e w5 ⟨rfl, b5⟩
            have AH := hidd (hAH.out w5 b5)
            have B5 := belowT hBj b5
            have x2 := keepCell b5 x1
            clear DY TJ hAH BJ hBj x1 b5
            go_wp2_with fail
            refine AH.out.mono ?_
            rintro e w6 ⟨rfl, b6⟩
            have B6 := belowT B5 b6
            clear AH B5 b6 x2
            go_wp2
            go_roundw
            case rel => exact ⟨j + 1, by omega, by go_num, B6⟩
            case measure => simp [intOf]; omega
          · obtain rfl : j = mL := by omega
            have B5 := belowT B4 hBj
            clear H4 FY hBj B4 HX RX
            go_wp2
            go_roundw
            case rel => exact ⟨i + 1, by omega, by rw [HU.out]; exact congrArg (Value.int IntKind.i64) (by omega), by go_num, B5⟩
            case measure => simp [intOf]; omega
    · obtain rfl : i = k + 1 := by omega
      have hkz : decide (((k + 1 : Nat) : Int) ≤ (k : Int)) = false := decide_eq_false (by omega)
      have hm1 : 1 ≤ m := by
        have := hDl.out
        unfold below6 at this
        rw [if_neg (by omega)] at this
        omega
      rw [← hDl.out]
      have BW := belowT BX hB
      clear RI FA DS RX
      go_wp2_with fail
      obtain ⟨wP, rfl⟩ : ∃ z, z = wr := ⟨_, rfl⟩
      go_loopw [22] (fun v22 wr => ∃ j : Nat, 1 ≤ j ∧ j ≤ m ∧ v22 = .int .i64 (j : Int) ∧ Below wP.heap.size wP wr) (fun v22 _ => m - (intOf v22).toNat)
      case atStart => exact ⟨1, by omega, by omega, rfl, Below.refl _ _⟩
      case round =>
        obtain ⟨j, hj1, hj, rfl, hBj⟩ := hrel
        by_cases hjm : j < m
        · obtain ⟨t, et⟩ : ∃ t, j = t + 1 := ⟨j - 1, by omega⟩
          have htm : t < m := by omega
          obtain ⟨g, rfl, x1⟩ := HX.out t (by rw [EM.out]; omega)
          obtain ⟨g2, hg2, x2⟩ := HX.out j (by rw [EM.out]; omega)
          simp only [Option.some.injEq, Addr.mk.injEq, and_true] at hg2
          subst hg2
          have hlt2 := rise_at hRise.out (i := t) (j := j) (by rw [EM.out]; omega) (by rw [EM.out]; omega) (by omega)
          replace x1 := keepCell (belowT hB hBj) x1
          replace x2 := keepCell (belowT hB hBj) x2
          generalize D[t]'_ = z1 at *
          generalize D[j]'_ = z2 at *
          have hz : decide (z2 ≤ z1) = false := decide_eq_false (by omega)
          have hjt : IntKind.i64.wrap ((j : Int) - 1) = (t : Int) := by rw [IntKind.wrap_i64]; omega
          have htz : (t : Int) < (m : Int) := by omega
          have hjz : (j : Int) < (m : Int) := by omega
          clear HX et
          go_wp2_with fail
          go_quiet (fail)
          go_wp2
          go_roundw
          case rel => exact ⟨j + 1, by omega, by omega, by go_num, belowN hBj _⟩
          case measure => simp [intOf]; omega
        · obtain rfl : j = m := by omega
          have BJ := belowT BW hBj
          have AW := hidd (nawake _ (hT0.out.below BJ))
          clear HX hBj BW hB
          go_wp2_with fail
          refine AW.out.mono ?_
          rintro e w10 ⟨rfl, b10⟩
          go_wp2
          go_ret
          exact ⟨rfl, belowT BJ b10⟩
end Go.Proofs.YteipijgkiobmaabGreatDoor
