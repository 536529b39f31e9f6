/-
  The law NearBack: it returns true for any point's cell and any radius, in whatever memory where both tables hold what their texts lay.
-/
import Derived.Test.YteipijgkiobmaaaGreatDoorNAwake
import Derived.Test.YteipijgkiobmaaaGreatDoorNPoint
import Derived.Test.YteipijgkiobmaaaGreatDoorNLine
namespace Go.Proofs.YteipijgkiobmaaaGreatDoor
open Go.RowKit

theorem mask_of (n : Int) (j : Nat) (hj : j < 63) {K M : Int} (hK : ((2 ^ j - 1 : Nat) : Int) = K) (hM : ((2 ^ j : Nat) : Int) = M) : bits .and .i64 n K = n % M := by
  have := i64_mask n j hj
  rwa [hK, hM] at this
/-- What a line's words are: from the middle to a word of the ring, each beside the one ahead. -/
def LineOf (k : Nat) (v y : Int) (tf : Nat → Int) : Prop := tf 0 = v ∧ tf k = y ∧ ∀ j, j < k → Whole (tf j) ∧ Whole (tf (j + 1)) ∧ wR (tf (j + 1)) = wR (tf j) ∧ stp (cellA (tf (j + 1)) - cellA (tf j)) (cellB (tf (j + 1)) - cellB (tf j)) = 1
theorem back_line {r k : Nat} {a b y : Int} (hM : Mid r a b) (hk : k ≤ 7) {L1 : List Int} (h1 : Rows r a b (rngP k) L1) (hy : y ∈ L1) : ∃ tf : Nat → Int, LineOf k (wordOf r a b) y tf ∧
    ∀ w, Tabs w → Calls Tryz.prog 10 #[.int .u64 (wordOf r a b), .int .u64 y] w fun e w' => RowSay w.heap.size ((List.range (k + 1)).map tf) e w' ∧ Below w.heap.size w w' := by
  obtain ⟨p, q, hp, hO, rfl⟩ := (h1.mem y).1 hy
  have hs : stp p q = k := mem_rngP.1 hp
  have ev := word_eq hM.self
  have ey := word_eq hO
  rcases Nat.eq_zero_or_pos k with h0 | h0
  · subst h0
    have hz := stp_zero hs
    obtain ⟨rfl, rfl⟩ := hz
    rw [Int.add_zero, Int.add_zero]
    exact ⟨fun _ => wordOf r a b, ⟨rfl, rfl, fun j hj => by omega⟩, nline_zero _ ev.1⟩
  · obtain ⟨f, hf⟩ := line_some (n := (k : Int)) (by omega) hs
    have far : ∀ j : Nat, j ≤ k → Ok4 (r : Int) (a + (f j).1) (b + (f j).2) := fun j hj => hM.ok (by have := hf.near j; omega)
    have hl := nline_yes (wordOf r a b) (wordOf r (a + p) (b + q)) ev.1 ey.1 (by rw [ev.2.1, ey.2.1]) (n := (k : Int)) (f := f) (by rw [ev.2.2.1, ev.2.2.2.1, ey.2.2.1, ey.2.2.2.1, show a + p - a = p by omega, show b + q - b = q by omega]; exact hf) (by omega)
    rw [ev.2.1, ev.2.2.1, ev.2.2.2.1, show ((r : Int)).toNat = r by omega, show ((k : Int)).toNat = k by omega, wordsAt_map (fun x hx => by
      obtain ⟨j, hj, rfl⟩ := List.mem_map.1 hx
      exact far j (by have := List.mem_range.1 hj; omega)), lineP, List.map_map] at hl
    refine ⟨fun j => wordOf r (a + (f j).1) (b + (f j).2), ⟨?_, ?_, fun j hj => ?_⟩, hl⟩
    · show wordOf r (a + (f 0).1) (b + (f 0).2) = wordOf r a b
      rw [hf.first, Int.add_zero, Int.add_zero]
    · show wordOf r (a + (f k).1) (b + (f k).2) = wordOf r (a + p) (b + q)
      have := hf.last
      rw [show ((k : Int)).toNat = k by omega] at this
      rw [this]
    · have e1 := word_eq (far j (by omega))
      have e2 := word_eq (far (j + 1) (by omega))
      refine ⟨e1.1, e2.1, by rw [e1.2.1, e2.2.1], ?_⟩
      rw [e1.2.2.1, e1.2.2.2.1, e2.2.2.1, e2.2.2.2.1]
      have := hf.step j
      rw [show a + (f (j + 1)).1 - (a + (f j).1) = (f (j + 1)).1 - (f j).1 by omega, show b + (f (j + 1)).2 - (b + (f j).2) = (f (j + 1)).2 - (f j).2 by omega]
      exact this
theorem back_ring {r k : Nat} {a b y : Int} (hM : Mid r a b) {L1 : List Int} (h1 : Rows r a b (rngP k) L1) (hy : y ∈ L1) {M : List Int} (h2 : Rows (wR y).toNat (cellA y) (cellB y) (rngP k) M) : wordOf r a b ∈ M := by
  obtain ⟨p, q, hp, hO, rfl⟩ := (h1.mem y).1 hy
  have ey := word_eq hO
  rw [ey.2.1, ey.2.2.1, ey.2.2.2.1, show ((r : Int)).toNat = r by omega] at h2
  refine (h2.mem _).2 ⟨-p, -q, mem_rngP.2 ?_, ?_, ?_⟩
  · show stp (-p) (-q) = k
    rw [stp_neg]
    exact mem_rngP.1 hp
  · rw [show a + p + -p = a by omega, show b + q + -q = b by omega]
    exact hM.self
  · rw [show a + p + -p = a by omega, show b + q + -q = b by omega]

set_option maxHeartbeats 4000000 in
set_option maxRecDepth 20000 in
theorem nearBack_walk (x0 y0 r0 k0 : Int) (w : World) (hT : Tabs w) : Calls Tryz.prog 3 #[.int .i64 x0, .int .i64 y0, .int .i64 r0, .int .i64 k0] w fun e w' => e = .returned (.bool true) ∧ Below w.heap.size w w' := by
  obtain ⟨n, P, Q, hM, -, PW⟩ := pword x0 y0 r0
  have hz := word_eq hM.self
  obtain ⟨k, hk, k7⟩ : ∃ k : Nat, bits .and .i64 k0 7 = (k : Int) ∧ k ≤ 7 := by
    have := mask_of k0 3 (by omega) (K := 7) (M := 8) (by decide) (by decide)
    exact ⟨(k0 % 8).toNat, by rw [this]; omega, by omega⟩
  have RI := hidd (nring_yes _ k hz.1 (by omega))
  rw [hz.2.1, hz.2.2.1, hz.2.2.2.1, show ((n : Int)).toNat = n by omega] at RI
  have FA : Hid (∀ L1, Rows n P Q (rngP k) L1 → 1 ≤ L1.length ∧ L1.length ≤ 42 ∧ ∀ y ∈ L1, Whole y ∧ (∀ M, Rows (wR y).toNat (cellA y) (cellB y) (rngP k) M → wordOf n P Q ∈ M) ∧ ∃ tf : Nat → Int, LineOf k (wordOf n P Q) y tf ∧ ∀ w, Tabs w → Calls Tryz.prog 10 #[.int .u64 (wordOf n P Q), .int .u64 y] w fun e w' => RowSay w.heap.size ((List.range (k + 1)).map tf) e w' ∧ Below w.heap.size w w') := by
    refine hidd fun L1 h1 => ?_
    have hl : L1.length = max (6 * k) 1 := by rw [rows_all h1 hM (fun x hx => by have := mem_rngP.1 hx; omega), rngP_len]
    exact ⟨by omega, by omega, fun y hy => ⟨(h1.whole hy).1, fun M h2 => back_ring hM h1 hy h2, back_line hM k7 h1 hy⟩⟩
  replace PW := hidd PW
  have hT0 : Hid (Tabs w) := hT
  have UZ := hidd hz.2.2.2.2
  generalize wordOf n P Q = Z at *
  clear hT hM hz
  go_enter Tryz.func3, Tryz.ntmps3
  go_wp2_with fail
  refine (PW.out _).mono ?_
  rintro e w1 ⟨rfl, b1⟩
  have T1 := hidd (hT0.out.below b1)
  clear PW
  go_wp2_with fail
  refine (RI.out _ T1.out).mono ?_
  rintro e w2 ⟨⟨L1, ⟨s1, rfl, r1⟩, h1⟩, b2⟩
  have B2 := belowT b1 b2
  obtain ⟨f1, f2, f3⟩ := FA.out L1 h1
  obtain ⟨q1, cap1, rfl, hp1⟩ := r1.form
  have HP := hidd hp1
  have FY : Hid (∀ (d : Nat) (hd : d < L1.length), Whole L1[d] ∧ (∀ M, Rows (wR L1[d]).toNat (cellA L1[d]) (cellB L1[d]) (rngP k) M → Z ∈ M) ∧ ∃ tf : Nat → Int, LineOf k Z L1[d] tf ∧ ∀ w, Tabs w → Calls Tryz.prog 10 #[.int .u64 Z, .int .u64 L1[d]] w fun e w' => RowSay w.heap.size ((List.range (k + 1)).map tf) e w' ∧ Below w.heap.size w w') := hidd fun d hd => f3 _ (List.getElem_mem hd)
  obtain ⟨m, em⟩ : ∃ m, L1.length = m := ⟨_, rfl⟩
  have EM := hidd em
  rw [em] at f1 f2 ⊢
  clear r1 h1 f3 hp1 em FA RI T1 b1 b2
  go_wp2_with fail
  obtain ⟨wO, rfl⟩ : ∃ z, z = w2 := ⟨_, rfl⟩
  go_loopw [12] (fun v12 wr => ∃ i : Nat, i ≤ m ∧ i ≤ 12 ∧ v12 = .int .i64 (i : Int) ∧ Below wO.heap.size wO wr) (fun v12 _ => 12 - (intOf v12).toNat)
  case atStart => exact ⟨0, by omega, by omega, rfl, Below.refl _ _⟩
  case round =>
    obtain ⟨i, hi, h12, rfl, hB⟩ := hrel
    by_cases hlt : i < m ∧ i < 12
    · obtain ⟨hlt, hlt2⟩ := hlt
      have hdz : decide ((i : Int) < (m : Int)) = true := decide_eq_true (by omega)
      have hdz2 : decide ((i : Int) < 12) = true := decide_eq_true (by omega)
      obtain ⟨d, hd, dm⟩ : ∃ d : Nat, ((i : Int) * 7).tmod (m : Int) = (d : Int) ∧ d < m := by
        refine ⟨(((i : Int) * 7) % (m : Int)).toNat, ?_, ?_⟩
        all_goals
          have a1 := Int.emod_nonneg ((i : Int) * 7) (show (m : Int) ≠ 0 by omega)
          have a2 := Int.emod_lt_of_pos ((i : Int) * 7) (show (0 : Int) < (m : Int) by omega)
        · rw [Int.tmod_eq_emod_of_nonneg (by omega)]
          omega
        · omega
      have hm0 : ((m : Int) == 0) = false := by simp; omega
      obtain ⟨g, rfl, x1⟩ := HP.out d (by rw [EM.out]; exact dm)
      obtain ⟨y1, y2, tf, y3, y4⟩ := FY.out d (by rw [EM.out]; exact dm)
      replace x1 := keepCell hB x1
      have BW := belowT B2 hB
      have T0 := hidd (hT0.out.below BW)
      generalize L1[d]'_ = y at *
      have RY := hidd (nring_yes y k y1 (by omega))
      replace y2 := hidd y2
      replace y4 := hidd y4
      obtain ⟨l0, lk, ls⟩ := y3
      have LS := hidd ls
      clear HP FY ls
      go_wp2_with fail
      refine (RY.out _ T0.out).mono ?_
      rintro e w3 ⟨⟨M, ⟨s3, rfl, r3⟩, h3⟩, b3⟩
      have hZM := y2.out M h3
      have B3 := belowT hB b3
      have T3 := hidd (hT0.out.below (belowT B2 B3))
      have hm3 : M.length ≤ 42 := by have := rows_len h3; rw [rngP_len] at this; omega
      have HA : Hid (∀ wx, Below w3.heap.size w3 wx → Calls Tryz.prog 11 #[s3, .int .u64 Z] wx fun e w' => e = .returned (.bool true) ∧ Below wx.heap.size wx w') := by
        refine hidd fun wx hb => ?_
        have := rhas _ s3 M Z UZ.out h3.2 (rows_whole h3) (by omega) wx (r3.keep hb)
        rwa [decide_eq_true hZM] at this
      clear RY r3 h3 hZM hm3 T0 b3 y2 x1 hB
      go_wp2_with fail
      refine (y4.out _ T3.out).mono ?_
      rintro e w4 ⟨⟨s4, rfl, r4⟩, b4⟩
      have B4 := belowT B3 b4
      have AH := hidd (HA.out w4 b4)
      have TC : ∃ g4 cap4, s4 = .slice (some ⟨g4, 0, none⟩) (k + 1) cap4 ∧ ∀ j : Nat, j ≤ k → w4.cell? ⟨g4, j, none⟩ = some (.int .u64 (tf j)) := by
        obtain ⟨q4, cap4, rfl, hp4⟩ := r4.form
        obtain ⟨g4, rfl, -⟩ := hp4 0 (by simp)
        refine ⟨g4, cap4, by simp, fun j hj => ?_⟩
        obtain ⟨g5, e5, c5⟩ := hp4 j (by simp; omega)
        simp only [Option.some.injEq, Addr.mk.injEq, and_true] at e5
        rw [e5, c5]
        simp
      obtain ⟨g4, cap4, rfl, tc⟩ := TC
      have TCH := hidd tc
      clear r4 HA b4 tc y4 T3 B3
      go_wp2_with fail
      refine AH.out.mono ?_
      rintro e w5 ⟨rfl, b5⟩
      have t0 := keepCell b5 (TCH.out 0 (by omega))
      have tk := keepCell b5 (TCH.out k (Nat.le_refl _))
      rw [l0] at t0
      rw [lk] at tk
      have B5 := belowT B4 b5
      have TD : Hid (∀ j : Nat, j ≤ k → w5.cell? ⟨g4, j, none⟩ = some (.int .u64 (tf j))) := hidd fun j hj => keepCell b5 (TCH.out j hj)
      clear AH TCH b5 B4 l0 lk
      have hkk : ((k : Int) + 1 == (k : Int) + 1) = true := by simp
      go_wp2_with fail
      clear t0 tk
      obtain ⟨n1, en1⟩ : ∃ n1, k + 1 = n1 := ⟨_, rfl⟩
      rw [en1]
      obtain ⟨wP, rfl⟩ : ∃ z, z = w5 := ⟨_, rfl⟩
      go_loopw [18] (fun v18 wr => ∃ j : Nat, 1 ≤ j ∧ j ≤ n1 ∧ v18 = .int .i64 (j : Int) ∧ Below wP.heap.size wP wr) (fun v18 _ => 8 - (intOf v18).toNat)
      case atStart => exact ⟨1, by omega, by omega, rfl, Below.refl _ _⟩
      case round =>
        obtain ⟨j, hj1, hj2, rfl, hBj⟩ := hrel
        by_cases hjk : j < n1
        · obtain ⟨t, et⟩ : ∃ t, j = t + 1 := ⟨j - 1, by omega⟩
          obtain ⟨d1, d2, d3, d4⟩ := LS.out t (by omega)
          rw [← et] at d2 d3 d4
          have DK := hidd (ndist_yes _ _ d1 d2 d3)
          rw [d4] at DK
          have c1 := keepCell hBj (TD.out t (by omega))
          have c2 := keepCell hBj (TD.out j (by omega))
          have TB := hidd (hT0.out.below (belowT B2 (belowT B5 hBj)))
          have hjt : IntKind.i64.wrap ((j : Int) - 1) = (t : Int) := by rw [IntKind.wrap_i64]; omega
          have htz : (t : Int) < (n1 : Int) := by omega
          have hjz : (j : Int) < (n1 : Int) := by omega
          have htn : t < n1 := by omega
          have hn8 : n1 ≤ 8 := by omega
          generalize tf t = z1 at *
          generalize tf j = z2 at *
          clear d1 d2 d3 d4 LS TD et en1
          have hS0 : wr.drew.cell? ⟨g4, t, none⟩ = some (.int .u64 z1) ∧ wr.drew.cell? ⟨g4, j, none⟩ = some (.int .u64 z2) ∧ Below wr.heap.size wr wr.drew := ⟨c1, c2, (Below.refl _ _).drew⟩
          have TS : Hid (∀ wx, Below wr.heap.size wr wx → Tabs wx) := hidd fun wx h => TB.out.below h
          clear TB
          go_wp2_with fail
          go_region_held3 (fun w' => w'.cell? ⟨g4, t, none⟩ = some (.int .u64 z1) ∧ w'.cell? ⟨g4, j, none⟩ = some (.int .u64 z2) ∧ Below wr.heap.size wr w') (first | exact hS0 | exact keepTwo hb (by assumption)) (first | (go_at_call 12; refine (DK.out _ (TS.out _ (And.right (And.right (by assumption))))).mono ?_; rintro e w' ⟨rfl, hb⟩))
          all_goals
            rename_i hS
            have hW := belowT hBj hS.2.2
            clear hS hS0 hb c1 c2 DK TS hBj
            go_wp2
            go_roundw
            case rel => exact ⟨j + 1, by omega, by omega, by go_num, hW⟩
            case measure => simp [intOf]; omega
        · obtain rfl : j = n1 := by omega
          have B6 := belowT B5 hBj
          clear LS TD hBj B5 UZ
          go_wp2
          go_roundw
          case rel => exact ⟨i + 1, by omega, by omega, by go_num, B6⟩
          case measure => simp [intOf]; omega
    · have BW := belowT B2 hB
      have AW := hidd (nawake _ (hT0.out.below BW))
      have hm1 : decide (0 < (m : Int)) = true := decide_eq_true (by omega)
      have hend : ((m : Int) ≤ (i : Int)) ∨ ((i : Int) < (m : Int) ∧ (12 : Int) ≤ (i : Int)) := by
        by_cases h : i < m
        · exact .inr ⟨by omega, by omega⟩
        · exact .inl (by omega)
      clear HP FY hlt
      rcases hend with h0 | ⟨h0, h00⟩
      all_goals
        go_wp2_with fail
        refine AW.out.mono ?_
        rintro e w10 ⟨rfl, b10⟩
        go_wp2
        go_ret
        exact ⟨rfl, belowT BW b10⟩
end Go.Proofs.YteipijgkiobmaaaGreatDoor
