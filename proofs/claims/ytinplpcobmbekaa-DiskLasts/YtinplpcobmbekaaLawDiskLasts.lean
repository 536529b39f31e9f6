/-
  Behind a Crash stands what lasted, and a beginning, byte by byte, of what was Written since; what was Synced is there: for all lists and numbers, in whatever memory.
-/
import Derived.Test.YtinplpcobmbekaaDAwake
import Derived.Test.YtinplpcobmbekaaLRow
import Derived.Laws.CopyOwn
import Derived.Below
import Derived.Test.YtinplpcobmbekaaProg
import Derived.Handy
import Derived.Deep.QuietTactic
import Derived.WalkSpells
import Derived.WalkLawsBesides
import Derived.BigQuiet
import Derived.PlainAid
import Derived.Deep.RegionWith
import Derived.Laws.BitsAllLaws
import Derived.OwnWalk
import Derived.Laws.OwnMore
import Derived.Deep.RegionHeld3
import Derived.WalkSmall
import Derived.Deep.CutRange
import Derived.BigRegion
import Derived.OneCell
import Derived.Sort.Row
import Derived.ChangeSlices
import Derived.OpenShut
import Derived.Deep.AppendLies
import Derived.Laws.BytesArg
import Derived.Laws.CopyRow
import Derived.Laws.IdiomCopy
import Derived.Deep.OwnRows
import Derived.Deep.RegionLaw
import Derived.Lib.MinMax
namespace Go.Proofs.Ytinplpcobmbekaa
open Go.RowKit

/-- A living disk without a Stop. -/
def Live (s : DS) : Prop := s.left = -1 ∧ s.dead = false

theorem live_wr {s : DS} (h : Live s) (a : Nat) (b : List Int) : Live (s.wr a b) ∧ (s.wr a b).now = splice s.now a b ∧ (s.wr a b).last = s.last ∧ (s.wr a b).waits = s.waits ++ zipAt a b := by
  obtain ⟨h1, h2, h3, h4, h5⟩ := wr_live h.1 a b
  exact ⟨⟨h1, h2.trans h.2⟩, h4, h5, h3⟩

theorem live_sy {s : DS} (h : Live s) : syK s = 0 ∧ Live (syS s) ∧ (syS s).now = s.now ∧ (syS s).last = s.now ∧ (syS s).waits = [] := by
  have e : syS s = s.sy := by unfold syS; rw [h.2]; rfl
  have e2 : s.sy = ⟨s.now, s.now, [], s.left, s.dead⟩ := DS.cnt_live h.1
  refine ⟨by unfold syK; rw [h.2]; rfl, ?_⟩
  rw [e, e2]
  exact ⟨h, rfl, rfl, rfl⟩

theorem mask_nat (y : Int) (k : Nat) (hk : k ≤ 62) : ∃ T : Nat, T < 2 ^ k ∧ bits .and .i64 y ((2 ^ k - 1 : Nat) : Int) = (T : Int) := by
  have h := i64_mask y k (by omega)
  have h2 : (0 : Int) < ((2 ^ k : Nat) : Int) := by have := Nat.two_pow_pos k; omega
  have h3 := Int.emod_nonneg y (b := ((2 ^ k : Nat) : Int)) (by omega)
  have h4 := Int.emod_lt_of_pos y h2
  exact ⟨(y % ((2 ^ k : Nat) : Int)).toNat, by omega, by rw [h]; omega⟩

/-- What a round writes: a text of so many bytes. -/
theorem text_byt (n : Int) (T : Nat) : ∀ x ∈ textL n T, 0 ≤ x ∧ x < 256 := textL_mem n T

set_option maxRecDepth 100000 in
set_option maxHeartbeats 8000000 in
theorem diskLasts_walk (sX : Value) (X : List Int) (sY : Value) (Y : List Int) (k0 : Int) (W : World) (hX : LstK .i64 W sX X) (hx : ∀ x ∈ X, -9223372036854775808 ≤ x ∧ x ≤ 9223372036854775807) (hY : LstK .i64 W sY Y) (hy : ∀ x ∈ Y, -9223372036854775808 ≤ x ∧ x ≤ 9223372036854775807) (_ : -9223372036854775808 ≤ k0) (_ : k0 ≤ 9223372036854775807) :
    Calls Try.prog 7 #[sX, sY, .int .i64 k0] W fun e w' => TellsQ (.bool true) W e w' := by
  have CN := hidd (c_new W 100 (by omega) (by omega))
  have AW := hidd fun w => awake12 w
  have TX := hidd fun (n : Int) (T : Nat) (hT : T ≤ 64) w => a_text n T hT w
  have hmk := fun w => run_make_row' (P := Try.prog) 30 5 (.int .u8 0) 1 Try.underlying30 infoByte rfl .i64 .i64 100 (by omega) (by omega) w
  rw [show ((100 : Nat) : Int) = 100 from rfl] at hmk
  obtain ⟨p, c, rfl, hc, hcell⟩ := hX
  obtain ⟨q, d, rfl, hd, hcellY⟩ := hY
  have HC := hidd hcell
  have HX := hidd hx
  have HCY := hidd hcellY
  have HY := hidd hy
  obtain ⟨LX, eL⟩ : ∃ L, X.length = L := ⟨_, rfl⟩
  have EX := hidd eL
  rw [eL] at hc ⊢
  obtain ⟨LY, eL2⟩ : ∃ L, Y.length = L := ⟨_, rfl⟩
  have EY := hidd eL2
  rw [eL2] at hd ⊢
  clear hcell hx hcellY hy eL eL2
  go_enter Try.func7, Try.ntmps7
  go_wp2_with fail
  refine CN.out.mono ?_
  rintro e w1 ⟨P, F, rfl, D, b, f⟩
  have e100 : clampN 100 = 100 := rfl
  rw [e100] at D
  have D1 := LD.start D b f
  have R0 : Hid (LDR W.heap.size W (w1.alloc (.cells (madeCells #[.int .u8 0] 100) 5)) P (newD 100) 100 F w1.heap.size 100 (newD 100).now) := hidd
    ⟨D1.quiet (allocB _ _), ⟨by simp [bV, newD], .inr ⟨w1.heap.size, 100, _, rfl, Nat.zero_le _, heap_alloc_new w1 _, Nat.le_refl _, by unfold maxLen; omega, by rw [size_madeCells], by rw [toList_madeCells_one, Nat.mul_one]; simp [bV, newD]⟩⟩, fun z hz e => by have := D.lt z hz; omega, D1.size⟩
  have S0 : Hid (Live (newD 100) ∧ (newD 100).waits.length ≤ 0) := hidd ⟨⟨rfl, rfl⟩, Nat.le_refl _⟩
  clear CN D b f e100 D1
  go_wp2_with fail
  clear hmk
  go_loopw [9] (fun v9 wr => ∃ (i : Nat) (s : DS) (G : Nat → Prop), i ≤ LX ∧ i ≤ 20 ∧ v9 = .int .i64 (i : Int) ∧ Hid (LDR W.heap.size W wr P s 100 G w1.heap.size 100 s.now) ∧ Hid (Live s ∧ s.waits.length ≤ 7 * i)) (fun v9 _ => 20 - (intOf v9).toNat)
  case atStart => exact ⟨0, _, F, by omega, by omega, rfl, R0, S0⟩
  case round =>
    clear R0 S0
    obtain ⟨i, s, G, hi, hi20, rfl, D, S⟩ := hrel
    have hz : (i < LX ∧ i < 20) ∨ ¬ i < LX ∨ (i < LX ∧ ¬ i < 20) := by omega
    rcases hz with ⟨h1, h2⟩ | h1 | ⟨h1, h2⟩
    · have hiX : i < X.length := by rw [EX.out]; exact h1
      obtain ⟨g, o, rfl, hcl⟩ := HC.out i hiX
      have hcl := D.out.ld.bel.cell (World.block_lt_of_cell? _ _ hcl) |>.trans hcl
      generalize X[i] = y at *
      have h1' : (i : Int) < (LX : Int) := by omega
      have h2' : (i : Int) < 20 := by omega
      obtain ⟨T, hT, eT⟩ := mask_nat y 3 (by omega)
      rw [show (((2 ^ 3 - 1 : Nat)) : Int) = 7 by decide] at eT
      obtain ⟨A, hA, eA⟩ := mask_nat (y / 8) 6 (by omega)
      rw [show (((2 ^ 6 - 1 : Nat)) : Int) = 63 by decide] at eA
      have TI := hidd fun w => TX.out (i : Int) T (by omega) w
      obtain ⟨bs, ebs⟩ : ∃ bs, textL (i : Int) T = bs := ⟨_, rfl⟩
      have hbl : bs.length = T := by rw [← ebs, textL_len]
      have HB : Hid (∀ x ∈ bs, 0 ≤ x ∧ x < 256) := hidd (by rw [← ebs]; exact textL_mem _ _)
      rw [ebs] at TI
      have HBL := hidd hbl
      have hlen := str_len bs
      rw [hbl] at hlen
      obtain ⟨t, et⟩ : ∃ t, strOfNums bs = t := ⟨_, rfl⟩
      have ET := hidd et
      rw [et] at TI hlen
      clear ebs hbl et
      go_wp2_with fail
      refine (TI.out _).mono ?_
      rintro e w2 ⟨rfl, b2⟩
      have D2 := hidd (D.out.quiet b2)
      have hcl2 := keepCell b2 hcl
      obtain ⟨cb, w3, hcv, lb, b3⟩ := run_bytes_text w2 bs HB.out
      rw [ET.out, HBL.out] at hcv
      rw [HBL.out] at lb
      have D3 := D2.out.quiet b3
      have C1 := hidd (c_write D3.ld.cd A (by omega) (by omega) _ bs HB.out lb (fun _ z e hf => by
        have : w2.heap.size = z := by simpa [Value.ownBlock] using e
        have := D2.out.ld.cd.lt z hf
        omega) (by rw [HBL.out]; omega) (by have := S.out.2; omega))
      obtain ⟨k1, k2⟩ := wrS_ok (s := s) (n := 100) (a := (A : Int)) (b := bs) (by omega) (by rw [HBL.out]; omega) S.out.1.2
      rw [k1, k2, Int.toNat_natCast] at C1
      have D3 := hidd D3
      obtain ⟨l1, l2, l3, l4⟩ := live_wr S.out.1 A bs
      have S2 : Hid (Live (s.wr A bs) ∧ (s.wr A bs).waits.length ≤ 7 * (i + 1)) := hidd ⟨l1, by rw [l4, List.length_append, zipAt_len, HBL.out]; have := S.out.2; omega⟩
      have HN := hidd l2
      obtain ⟨s2, es⟩ : ∃ s2, s.wr A bs = s2 := ⟨_, rfl⟩
      rw [es] at C1 S2 HN
      clear D2 D lb b2 b3 k1 k2 l1 l2 l3 l4 S hcl TI es
      go_wp2_with fail
      refine C1.out.mono ?_
      rintro e w4 ⟨rfl, G2, d4, f4, k4⟩
      have D4 := hidd (D3.out.step d4 f4 k4)
      clear D3 C1 d4 f4 k4 hcv hcl2 eT eA
      have hA1 : (0 : Int) ≤ (A : Int) := by omega
      have hA2 : (A : Int) ≤ 100 := by omega
      obtain ⟨w5, hcp, hr5, hg5⟩ := run_copy_text D4.out.row HB.out A (100 - A) (100 - A) (by rw [HBL.out]; omega) (by rw [HBL.out]; omega) 3
      rw [ET.out, HBL.out] at hcp
      rw [← HN.out] at hr5
      have D5 := hidd (D4.out.paint hr5 hg5)
      clear hr5 hg5 D4
      go_wp2_with fail
      go_roundw
      case rel => exact ⟨i + 1, s2, G2, by omega, by omega, by go_num, D5, S2⟩
      case measure => simp [intOf]; omega
    all_goals
      obtain ⟨k1, k2, k3, k4, k5⟩ := live_sy S.out.1
      have C1 := hidd (c_sync D.out.ld.cd)
      rw [k1] at C1
      have hlen0 : s.now.length = 100 := by have := D.out.row.1; rw [bV_len] at this; omega
      obtain ⟨L0, eL0⟩ : ∃ L0, s.now = L0 := ⟨_, rfl⟩
      rw [eL0] at D k4 hlen0
      obtain ⟨s3, es3⟩ : ∃ s3, syS s = s3 := ⟨_, rfl⟩
      rw [es3] at k2 k4 k5 C1
      have K5 := hidd k5
      have S3 : Hid (Live s3 ∧ s3.last = L0 ∧ s3.waits.length ≤ 7 * 0) := hidd ⟨k2, k4, by rw [k5]; exact Nat.le_refl _⟩
      have HL0 := hidd hlen0
      have D1 := D
      clear D k1 k2 k3 k4 k5 es3 eL0 S hlen0
      go_wp2_with fail
      refine C1.out.mono ?_
      rintro e w2 ⟨rfl, G2, d2, f2, q2⟩
      have D2 := D1.out.step d2 f2 q2
      have C2 := hidd (c_waits D2.ld.cd)
      rw [K5.out] at C2
      have D2 := hidd D2
      clear C1 D1 d2 f2 q2
      go_wp2_with fail
      refine C2.out.mono ?_
      rintro e w3 ⟨rfl, b3⟩
      have D3 := D2.out.quiet b3
      have D3' : Hid (LDR W.heap.size W w3 P s3 100 G2 w1.heap.size 100 (puts L0 (s3.waits.take 0))) := hidd (by rw [List.take_zero]; exact D3)
      clear C2 D2 b3 D3
      obtain ⟨K, hK, eK⟩ := mask_nat k0 7 (by omega)
      rw [show (((2 ^ 7 - 1 : Nat)) : Int) = 127 by decide] at eK
      have D4 : Hid (LDR W.heap.size W w3 P s3 100 G2 w1.heap.size 100 (puts L0 (s3.waits.take K))) := hidd (by have h := D3'.out; rw [K5.out] at h ⊢; simpa using h)
      have KM : Hid (s3.waits.length = 0 ∧ K - 0 = K) := hidd ⟨by rw [K5.out]; rfl, by omega⟩
      clear D3' K5
      go_wp2_with fail
      clear eK
      go_loopw [12, 13, 14] (fun v12 v13 v14 wr => ∃ (i : Nat) (s : DS) (G : Nat → Prop) (m u : Nat), i ≤ LY ∧ i ≤ 20 ∧ m ≤ 140 ∧ u ≤ 127 ∧ v14 = .int .i64 (i : Int) ∧ v12 = .int .i64 (u : Int) ∧ v13 = .int .i64 (m : Int) ∧ Hid (LDR W.heap.size W wr P s 100 G w1.heap.size 100 (puts L0 (s.waits.take K))) ∧ Hid (Live s ∧ s.last = L0 ∧ s.waits.length ≤ 7 * i) ∧ Hid (s.waits.length = m ∧ K - m = u)) (fun _ _ v14 _ => 20 - (intOf v14).toNat)
      case atStart => exact ⟨0, s3, G2, 0, K, by omega, by omega, by omega, by omega, rfl, rfl, rfl, D4, S3, KM⟩
      case round =>
        clear D4 S3 KM
        obtain ⟨j, s, G, m, u, hj, hj20, hm, hu, rfl, rfl, rfl, D, S, M⟩ := hrel
        have hz : (j < LY ∧ j < 20) ∨ ¬ j < LY ∨ (j < LY ∧ ¬ j < 20) := by omega
        rcases hz with ⟨h1, h2⟩ | h1 | ⟨h1, h2⟩
        · have hiY : j < Y.length := by rw [EY.out]; exact h1
          obtain ⟨g, o, rfl, hcl⟩ := HCY.out j hiY
          have hcl := D.out.ld.bel.cell (World.block_lt_of_cell? _ _ hcl) |>.trans hcl
          generalize Y[j] = y at *
          have h1' : (j : Int) < (LY : Int) := by omega
          have h2' : (j : Int) < 20 := by omega
          obtain ⟨T, hT, eT⟩ := mask_nat y 3 (by omega)
          rw [show (((2 ^ 3 - 1 : Nat)) : Int) = 7 by decide] at eT
          obtain ⟨A, hA, eA⟩ := mask_nat (y / 8) 6 (by omega)
          rw [show (((2 ^ 6 - 1 : Nat)) : Int) = 63 by decide] at eA
          have TI := hidd fun w => TX.out (100 + (j : Int)) T (by omega) w
          obtain ⟨bs, ebs⟩ : ∃ bs, textL (100 + (j : Int)) T = bs := ⟨_, rfl⟩
          have hbl : bs.length = T := by rw [← ebs, textL_len]
          have HB : Hid (∀ x ∈ bs, 0 ≤ x ∧ x < 256) := hidd (by rw [← ebs]; exact textL_mem _ _)
          rw [ebs] at TI
          have HBL := hidd hbl
          have hlen := str_len bs
          rw [hbl] at hlen
          obtain ⟨V, hV⟩ : ∃ V, min u T = V := ⟨_, rfl⟩
          have hmin : min (u : Int) (T : Int) = (V : Int) := by omega
          have hcut := str_cut bs V
          have HVL : Hid ((bs.take V).length = V) := hidd (by rw [List.length_take]; omega)
          have HVB : Hid (∀ x ∈ bs.take V, 0 ≤ x ∧ x < 256) := hidd fun x hx => HB.out x (List.mem_of_mem_take hx)
          have hVT : V ≤ T := by omega
          have hVu : V ≤ u := by omega
          have HVK : Hid (bs.take V = bs.take u) := hidd (by
            by_cases h : u ≤ T
            · rw [show V = u by omega]
            · rw [show V = T by omega, List.take_of_length_le (by omega), List.take_of_length_le (by omega)])
          obtain ⟨t, et⟩ : ∃ t, strOfNums bs = t := ⟨_, rfl⟩
          have ET := hidd et
          rw [et] at TI hlen hcut
          obtain ⟨t2, et2⟩ : ∃ t2, strOfNums (bs.take V) = t2 := ⟨_, rfl⟩
          have ET2 := hidd et2
          rw [et2] at hcut
          clear ebs hbl et et2 hV
          go_wp2_with fail
          refine (TI.out _).mono ?_
          rintro e w4 ⟨rfl, b2⟩
          have D2 := hidd (D.out.quiet b2)
          have hcl2 := keepCell b2 hcl
          obtain ⟨cb, w5, hcv, lb, b3⟩ := run_bytes_text w4 bs HB.out
          rw [ET.out, HBL.out] at hcv
          rw [HBL.out] at lb
          have D3 := D2.out.quiet b3
          have C1 := hidd (c_write D3.ld.cd A (by omega) (by omega) _ bs HB.out lb (fun _ z e hf => by
            have : w4.heap.size = z := by simpa [Value.ownBlock] using e
            have := D2.out.ld.cd.lt z hf
            omega) (by rw [HBL.out]; omega) (by have := S.out.2.2; omega))
          obtain ⟨k1, k2⟩ := wrS_ok (s := s) (n := 100) (a := (A : Int)) (b := bs) (by omega) (by rw [HBL.out]; omega) S.out.1.2
          rw [k1, k2, Int.toNat_natCast] at C1
          have D3 := hidd D3
          obtain ⟨l1, l2, l3, l4⟩ := live_wr S.out.1 A bs
          have hml : m ≤ 7 * j := by have h := S.out.2.2; rw [M.out.1] at h; exact h
          have S2 : Hid (Live (s.wr A bs) ∧ (s.wr A bs).last = L0 ∧ (s.wr A bs).waits.length ≤ 7 * (j + 1)) := hidd ⟨l1, by rw [l3]; exact S.out.2.1, by rw [l4, List.length_append, zipAt_len, HBL.out, M.out.1]; omega⟩
          have M2 : Hid ((s.wr A bs).waits.length = m + T ∧ K - (m + T) = u - V) := hidd ⟨by rw [l4, List.length_append, zipAt_len, HBL.out, M.out.1], by have := M.out.2; omega⟩
          have HN : Hid (splice (puts L0 (s.waits.take K)) A (bs.take V) = puts L0 ((s.wr A bs).waits.take K)) := hidd (by
            rw [l4, kept_next (by rw [HL0.out, HBL.out]; omega), M.out.1, M.out.2, HVK.out])
          obtain ⟨s2, es⟩ : ∃ s2, s.wr A bs = s2 := ⟨_, rfl⟩
          rw [es] at C1 S2 HN M2
          clear D2 D lb b2 b3 k1 k2 l1 l2 l3 l4 S hcl TI es M HVK
          go_wp2_with fail
          refine C1.out.mono ?_
          rintro e w6 ⟨rfl, G3, d4, f4, k4⟩
          have D4 := hidd (D3.out.step d4 f4 k4)
          have D4d := hidd (D4.out.quiet (drewB _))
          clear D3 C1 d4 f4 k4 hcv hcl2 eT eA
          have hA1 : (0 : Int) ≤ (A : Int) := by omega
          have hA2 : (A : Int) ≤ 100 := by omega
          have hV1 : (0 : Int) ≤ (V : Int) := by omega
          have hA3 : ¬ 100 = A := by omega
          have hV2 : (V : Int) ≤ (t.size : Int) := by omega
          go_wp2_with fail
          go_region_held3 (fun _ => True) (first | trivial) (first | (refine step_copy_text (by rfl) _ _ (by rfl) D4d.out.row HVB.out A (100 - A) (100 - A) (by rw [HVL.out]; omega) (by rw [HVL.out]; omega) (by rfl) (by rw [ET2.out]; rfl) ?_; intro w7 hr7 hg7))
          all_goals
            rw [HN.out] at hr7
            have D5 := hidd (D4d.out.paint hr7 hg7)
            clear hr7 hg7 D4 D4d
            go_wp2_with fail
            go_roundw
            case rel => exact ⟨j + 1, s2, G3, m + T, u - V, by omega, by omega, by omega, by omega, by go_num, by congr 1; omega, by go_num, D5, S2, M2⟩
            case measure => simp [intOf]; omega
        all_goals
          have C1 := hidd (c_waits D.out.ld.cd)
          rw [M.out.1] at C1
          obtain ⟨R, eR⟩ : ∃ R, puts L0 (s.waits.take K) = R := ⟨_, rfl⟩
          have hcn : (s.crash (K : Int)).now = R := by
            show puts s.last (s.waits.take (K : Int).toNat) = R
            rw [S.out.2.1, Int.toNat_natCast, eR]
          rw [eR] at D
          have HCN := hidd hcn
          have D1 := D
          clear D S M eR hcn
          go_wp2_with fail
          refine C1.out.mono ?_
          rintro e w4 ⟨rfl, b4⟩
          have D2 := D1.out.quiet b4
          have C2 := hidd (c_crash D2.ld.cd K (by omega) (by omega))
          have D2 := hidd D2
          clear C1 D1 b4
          go_wp2_with fail
          refine C2.out.mono ?_
          rintro e w5 ⟨rfl, G5, d5, f5, k5⟩
          have D3 := D2.out.step d5 f5 k5
          have C3 := hidd (c_read D3.ld.cd 0 100 (by omega) (by omega) (by omega) (by omega))
          have hRl : R.length = 100 := by have := D3.row.1; rw [bV_len] at this; omega
          obtain ⟨r1, r2⟩ := rd_ok (s := s.crash (K : Int)) (n := 100) (a := 0) (m := 100) (out_in (by omega) (by omega) (by omega)) rfl
          have r3 : rdL (s.crash (K : Int)) 100 0 100 = R := by
            rw [r2, HCN.out]
            show (R.drop 0).take 100 = R
            rw [List.drop_zero, List.take_of_length_le (by omega)]
          rw [r1, r3] at C3
          have HRL := hidd hRl
          have D3 := hidd D3
          clear C2 D2 d5 f5 k5 r1 r2 r3 hRl
          go_wp2_with fail
          refine C3.out.mono ?_
          rintro e w6 ⟨v, rfl, o6, b6⟩
          have D4 := D3.out.quiet b6
          have CV1 := str_of_own o6
          have CV2 := str_of_row D4.row 0 100 100 (by omega)
          rw [List.drop_zero, List.take_of_length_le (by rw [HRL.out]; omega)] at CV2
          obtain ⟨t, et⟩ : ∃ t, strOfNums R = t := ⟨_, rfl⟩
          rw [et] at CV1 CV2
          have D4 := hidd D4
          clear C3 D3 o6 b6 et
          go_wp2_with fail
          refine (AW.out _).mono ?_
          rintro e w7 ⟨rfl, b7⟩
          have D5 := hidd (D4.out.quiet b7)
          clear D4 b7 CV1 CV2
          go_wp2
          go_ret
          exact ⟨rfl, D5.out.ld.bel⟩

end Go.Proofs.Ytinplpcobmbekaa
