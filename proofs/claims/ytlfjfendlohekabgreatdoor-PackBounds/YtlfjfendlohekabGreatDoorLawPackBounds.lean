/-
  The law PackBounds answers true for every two numbers and sizes, in whatever memory where the two tables hold what their texts lay.
-/
import Derived.Test.YtlfjfendlohekabGreatDoorPWords
import Derived.Test.YtlfjfendlohekabGreatDoorPAwake
import Derived.Test.YtlfjfendlohekabGreatDoorProg
import Derived.Handy
import Derived.Deep.QuietTactic
import Derived.WalkSpells
import Derived.WalkLawsBesides
import Derived.BigQuiet
import Derived.PlainAid
import Derived.Deep.RegionWith
import Derived.Laws.BitsAllLaws
import Derived.Sort.Walk13a
import Derived.Sort.LotA
import Derived.Sort.LotB
import Derived.Sort.LotD1
import Derived.Deep.Draws
import Derived.WalkKit
import Derived.BigGuard
import Derived.BigCall
import Derived.CellFam
import Derived.Sort.WalkB3
import Derived.BigRegion
import Derived.Sort.WalkA6
import Derived.Deep.RegionHeld3
import Derived.WalkSmall
import Derived.Deep.CutRange
import Derived.OwnWalk
import Derived.Laws.OwnMore
import Derived.OneCell
import Derived.Laws.CopyOwn
import Derived.Sort.Row
import Derived.Laws.AppendOwn
import Derived.Laws.AppendOwnNone
import Derived.BigFrame
import Derived.Deep.AppendLies
import Derived.Deep.RegionLaw
import Derived.RangeFuncFrom
import Derived.RangeFuncCalls
import Derived.RangeFuncLeaves
import Derived.OwnWalkIn
import Derived.TacticsInMore
import Derived.LoopNIn
import Derived.LoopIn
import Derived.RegionIn
import Derived.Stop.RegionWithIn
import Derived.Sort.LotD3
import Derived.Deep.Cut
import Derived.Deep.LoopGhost
import Derived.Sort.WalkB12
import Derived.Deep.OwnRows
import Derived.ChangeSlices
import Derived.OpenShut
namespace Go.Proofs.YtlfjfendlohekabGreatDoor
open Go.RowKit

theorem fill_set (v : Int) {T i : Nat} (h : i < T) : (vals (List.replicate i v ++ List.replicate (T - i) 0)).set i (.int .u64 v) = vals (List.replicate (i + 1) v ++ List.replicate (T - (i + 1)) 0) := by
  obtain ⟨k, rfl⟩ : ∃ k, T = i + 1 + k := ⟨T - i - 1, by omega⟩
  rw [show i + 1 + k - i = k + 1 by omega, show i + 1 + k - (i + 1) = k by omega]
  unfold vals
  rw [← List.map_set (f := fun x => Value.int .u64 x) (a := v)]
  congr 1
  rw [List.set_append, List.length_replicate, if_neg (by omega), Nat.sub_self, List.replicate_succ, List.set_cons_zero, List.replicate_succ', List.append_assoc]
  rfl

theorem cnt_rep (m : Nat) (v : Int) (hv : wR v = 0) : ∀ T : Nat, cntR m (List.replicate T v) = (T : Int) * 7 ^ m
  | 0 => by show (0 : Int) = ((0 : Nat) : Int) * _; simp
  | T + 1 => by
    show 7 ^ (m - (wR v).toNat) + cntR m (List.replicate T v) = _
    rw [cnt_rep m v hv T, hv, show m - (0 : Int).toNat = m by simp]
    push_cast
    rw [Int.add_mul, Int.one_mul, Int.add_comm]

theorem rep_all {T : Nat} {v x : Int} (h : x ∈ List.replicate T v) : x = v := List.eq_of_mem_replicate h

theorem cov_rep {T : Nat} (hT : 0 < T) {v x : Int} : Cov (List.replicate T v) x ↔ Above v x := by
  unfold Cov
  constructor
  · rintro ⟨p, hp, ha⟩; exact rep_all hp ▸ ha
  · exact fun h => ⟨v, List.mem_replicate.2 ⟨by omega, rfl⟩, h⟩

/-- Too many are not spread. -/
theorem spr_many {L : List Int} {m : Nat} (hm : m ≤ 12) (hL : WithinR m L) (hc : 20000 < cntR m L) (hc2 : cntR m L ≤ 1099511627776) {e : Ending} {w' : World} (h : TellsSpr L (m : Int) e w') : e = .returned (.tuple #[.slice none 0 0, .int .i64 7]) := by
  obtain ⟨z, t, hz, h⟩ := h
  obtain ⟨rfl, rfl⟩ := size_yes hm hL hc2 hz
  rcases h with ⟨h, _⟩ | ⟨_, _, e⟩ | ⟨_, h, _⟩
  · exact absurd rfl h
  · exact e
  · omega

/-- As many as there are below one. -/
theorem spr_rep {v : Int} {T m : Nat} (h : Whole v) (hv : wR v = 0) (hT : 0 < T) (hm : m ≤ 12) (hc : (T : Int) * 7 ^ m ≤ 20000) {e : Ending} {w' : World} (hs : TellsSpr (List.replicate T v) (m : Int) e w') :
    ∃ (sl : Value) (K : List Int), e = .returned (.tuple #[sl, .int .i64 0]) ∧ (K.length : Int) = 7 ^ m ∧ Lst w' sl K ∧ Addressed sl := by
  have hW : WithinR m (List.replicate T v) := fun x hx => by rw [rep_all hx]; exact ⟨h, by omega⟩
  obtain ⟨sl, K, h1, h2, h3, -, h5, h6⟩ := spr_yes hm hW (by rw [cnt_rep m v hv]; exact hc) hs
  refine ⟨sl, K, h1, ?_, h5, h6⟩
  rw [nodup_ext_len (rising_nodup h2) (kin_nodup m h (by omega)) fun x => by rw [h3 x, cov_rep hT, mem_kin m h (by omega), hv, Int.zero_add], kin_len]
  push_cast
  rfl

theorem size_res {L : List Int} (h : ∀ x ∈ L, Whole x) {r z t : Int} (hx : ∃ x ∈ L, r < wR x) (hz : SizeT L r z t) : z = 0 ∧ t = 8 := hz.one (.inr (.inl ⟨h, hx, rfl, rfl⟩))

theorem size_none {z t : Int} (hz : SizeT [] 13 z t) : z = 0 ∧ t = 1 := hz.one (.inr (.inr (.inl ⟨fun x hx => by simp at hx, fun x hx => by simp at hx, by omega, rfl, rfl⟩)))

set_option maxHeartbeats 8000000 in
set_option maxRecDepth 20000 in
theorem packBounds_walk (x y tt times : Int) (w : World) (hT : Tabs w) (_ : -9223372036854775808 ≤ x) (_ : x ≤ 9223372036854775807) (_ : -9223372036854775808 ≤ y) (_ : y ≤ 9223372036854775807) (_ : -9223372036854775808 ≤ tt) (_ : tt ≤ 9223372036854775807) (_ : -9223372036854775808 ≤ times) (_ : times ≤ 9223372036854775807) :
    Calls Tryz.prog 5 #[.int .i64 x, .int .i64 y, .int .i64 tt, .int .i64 times] w fun e w' => e = .returned (.bool true) ∧ Below w.heap.size w w' := by
  have AW := hidd fun w h => pawake w h
  have HT := hidd hT
  have WD : Hid (∀ w, Calls Tryz.prog 10 #[.int .i64 x, .int .i64 y, .int .i64 0] w fun e w' => (∃ v, e = .returned (.int .u64 v) ∧ Whole v ∧ wR v = 0) ∧ Below w.heap.size w w') := hidd fun w => aword_of 0 (by omega) x y w
  have hm : ∃ m : Nat, m ≤ 12 ∧ (bits .and .i64 tt 255).tmod 13 = (m : Int) := by
    have h := i64_mask tt 8 (by omega)
    rw [show (((2 ^ 8 - 1 : Nat)) : Int) = 255 by decide, show (((2 ^ 8 : Nat)) : Int) = 256 by decide] at h
    rw [h, Int.tmod_eq_emod_of_nonneg (by omega)]
    exact ⟨((tt % 256) % 13).toNat, by omega, by omega⟩
  obtain ⟨m, hm12, em⟩ := hm
  have ht : ∃ t : Nat, t ≤ 63 ∧ bits .and .i64 times 63 = (t : Int) := by
    have h := i64_mask times 6 (by omega)
    rw [show (((2 ^ 6 - 1 : Nat)) : Int) = 63 by decide, show (((2 ^ 6 : Nat)) : Int) = 64 by decide] at h
    rw [h]
    exact ⟨(times % 64).toNat, by omega, by omega⟩
  obtain ⟨t, ht63, et⟩ := ht
  obtain ⟨T, hTt⟩ : ∃ T : Nat, t + 1 = T := ⟨_, rfl⟩
  have eT : (t : Int) + 1 = (T : Int) := by omega
  have T1 : 1 ≤ T := by omega
  have T2 : T ≤ 64 := by omega
  have SV := hidd fun w => r_seven m hm12 w
  have hZ := hidd (seven_box hm12)
  clear hT hTt
  go_enter Tryz.func5, Tryz.ntmps5
  go_wp2_with fail
  refine (WD.out _).mono ?_
  rintro e w1 ⟨⟨v, rfl, hv, hvr⟩, b1⟩
  have HV := hidd (And.intro hv hvr)
  have uv := whole_box hv
  obtain ⟨w2, MK, hown, hgrow⟩ := make_zeros w1 T (by omega)
  have hs1 := b1.size
  have B2 := hidd (b1.grown hgrow hs1 (fun _ h => by cases h))
  have O2 : Hid (w2.ownsRow w1.heap.size 26 1 (.slice (some ⟨w1.heap.size, 0, none⟩) T T) T (vals (List.replicate 0 v ++ List.replicate (T - 0) 0))) := hidd (by simpa using hown)
  clear hv hvr b1 hown hgrow WD
  go_wp2_with fail
  clear MK
  go_loopw [35] (fun v35 wr => ∃ i : Nat, i ≤ T ∧ v35 = .int .i64 (i : Int) ∧ Hid (wr.ownsRow w1.heap.size 26 1 (.slice (some ⟨w1.heap.size, 0, none⟩) T T) T (vals (List.replicate i v ++ List.replicate (T - i) 0))) ∧ Hid (Below w.heap.size w wr)) (fun v35 _ => T - (intOf v35).toNat)
  case atStart => exact ⟨0, by omega, rfl, O2, B2⟩
  case round =>
    clear O2 B2
    obtain ⟨i, hi, rfl, hO, hB⟩ := hrel
    by_cases hlt : i < T
    · have hlt' : (i : Int) < (T : Int) := by omega
      have hlen : (List.replicate i v ++ List.replicate (T - i) 0).length = T := by simp; omega
      have c0 := (own_cells hO.out).2.1 i (by rw [hlen]; exact hlt)
      have f0 := hO.out.frozenAt i
      have ST := (hO.out.stored i (.int .u64 v)).1
      rw [fill_set v hlt] at ST
      have ST2 := hidd ST
      have B3 := hidd (hB.out.setCell (p := ⟨w1.heap.size, i, none⟩) hs1 (.int .u64 v))
      generalize (List.replicate i v ++ List.replicate (T - i) 0)[i]'_ = z at c0
      clear hO hB ST hlen
      go_wp2_with fail
      go_roundw
      case rel => exact ⟨i + 1, by omega, by go_num, ST2, B3⟩
      case measure => simp [intOf]; omega
    · obtain rfl : i = T := by omega
      have hlt' : decide ((i : Int) < (i : Int)) = false := by simp
      have e0 : List.replicate i v ++ List.replicate (i - i) 0 = List.replicate i v := by simp
      rw [e0] at hO
      have L1 := hidd (Lst.own hO.out)
      have hlen := hidd (List.length_replicate (n := i) (a := v))
      have B1 := hB
      have UL : Hid (∀ x ∈ List.replicate i v, U64 x) := hidd fun x hx => by rw [rep_all hx]; exact ⟨by omega, by omega⟩
      have HW : Hid (∀ x ∈ List.replicate i v, Whole x) := hidd fun x hx => by rw [rep_all hx]; exact HV.out.1
      have HWR : Hid (WithinR m (List.replicate i v)) := hidd fun x hx => by rw [rep_all hx]; exact ⟨HV.out.1, by rw [HV.out.2]; omega⟩
      have CN := hidd (cnt_rep m v HV.out.2 i)
      clear hO hB hlt e0
      obtain ⟨Z, eZ⟩ : ∃ Z, (7 : Int) ^ m = Z := ⟨_, rfl⟩
      have EZ := hidd eZ
      rw [eZ] at SV hZ CN
      clear eZ
      obtain ⟨z1, z2⟩ := hZ.out
      obtain ⟨q, eq⟩ : ∃ q, (i : Int) * Z = q := ⟨_, rfl⟩
      have hq1 : 0 ≤ q := by rw [← eq]; exact Int.mul_nonneg (by omega) (by omega)
      have hq2 : q ≤ 885842380864 := by
        rw [← eq]
        have := Int.mul_le_mul (show (i : Int) ≤ 64 by omega) z2 (by omega) (by omega)
        omega
      have CNT := hidd CN.out
      rw [eq] at CNT
      have EQ := hidd eq
      clear CN
      go_wp2_with fail
      refine (SV.out _).mono ?_
      rintro e w3 ⟨rfl, b3⟩
      have L3 := hidd (L1.out.keep b3)
      have B3 := hidd (belowT B1.out b3)
      have SZ := hidd (p_size _ (List.replicate i v) (m : Int) (by omega) (by rw [hlen.out]; omega) UL.out w3 L3.out)
      clear b3 L1 B1
      go_wp2_with fail
      refine SZ.out.mono ?_
      rintro e w4 ⟨⟨z, t', rfl, hz⟩, b4⟩
      obtain ⟨rfl, rfl⟩ := size_yes hm12 HWR.out (by rw [CNT.out]; omega) hz
      rw [CNT.out]
      have L4 := hidd (L3.out.keep b4)
      have B4 := hidd (belowT B3.out b4)
      have SP := hidd (p_spread _ (List.replicate i v) (m : Int) (by omega) (by rw [hlen.out]; omega) UL.out w4 L4.out (HT.out.below B4.out))
      clear hz b4 L3 B3 SZ
      go_wp2_with fail
      refine SP.out.mono ?_
      rintro e w5 ⟨hs, b5⟩
      have L5 := hidd (L4.out.keep b5)
      have B5 := hidd (belowT B4.out b5)
      have SN := hidd (p_size _ (List.replicate i v) (-1) (by omega) (by rw [hlen.out]; omega) UL.out w5 L5.out)
      have S0 := hidd fun w => p_size _ [] 13 (by omega) (by simp) (fun x hx => by simp at hx) w (nil_lst w)
      have hbig : decide ((1099511627776 : Int) < q) = false := df (by omega)
      by_cases hmany : 20000 < q
      · obtain rfl := spr_many hm12 HWR.out (by rw [CNT.out]; exact hmany) (by rw [CNT.out]; omega) hs
        clear hs b5 L4 B4 SP
        go_wp2_with fail
        refine SN.out.mono ?_
        rintro e w6 ⟨⟨z, t', rfl, hz⟩, b6⟩
        obtain ⟨rfl, rfl⟩ := size_res HW.out ⟨v, List.mem_replicate.2 ⟨by omega, rfl⟩, by rw [HV.out.2]; omega⟩ hz
        have B6 := hidd (belowT B5.out b6)
        clear hz b6 SN B5 L5
        go_wp2_with fail
        refine (S0.out _).mono ?_
        rintro e w7 ⟨⟨z, t', rfl, hz⟩, b7⟩
        obtain ⟨rfl, rfl⟩ := size_none hz
        have B7 := hidd (belowT B6.out b7)
        have A9 := hidd (AW.out w7 (HT.out.below B7.out))
        clear hz b7 S0 B6
        go_wp2_with fail
        refine A9.out.mono ?_
        rintro e w8 ⟨rfl, b8⟩
        go_wp2_with fail
        go_ret
        exact ⟨rfl, belowT B7.out b8⟩
      · have hmany' : decide ((20000 : Int) < q) = false := df hmany
        obtain ⟨sl, K, rfl, hK, hKl, -⟩ := spr_rep HV.out.1 HV.out.2 (by omega) hm12 (by rw [EZ.out, EQ.out]; omega) hs
        rw [EZ.out] at hK
        have HK := hidd hK
        obtain ⟨pk, ck, rfl, -, -⟩ := hKl
        clear hs b5 L4 B4 SP hK
        obtain ⟨kl, ekl⟩ : ∃ kl, K.length = kl := ⟨_, rfl⟩
        rw [ekl] at HK ⊢
        clear ekl
        go_wp2_with fail
        refine SN.out.mono ?_
        rintro e w6 ⟨⟨z, t', rfl, hz⟩, b6⟩
        obtain ⟨rfl, rfl⟩ := size_res HW.out ⟨v, List.mem_replicate.2 ⟨by omega, rfl⟩, by rw [HV.out.2]; omega⟩ hz
        have B6 := hidd (belowT B5.out b6)
        clear hz b6 SN B5 L5
        go_wp2_with fail
        refine (S0.out _).mono ?_
        rintro e w7 ⟨⟨z, t', rfl, hz⟩, b7⟩
        obtain ⟨rfl, rfl⟩ := size_none hz
        have B7 := hidd (belowT B6.out b7)
        clear hz b7 S0 B6
        have SV2 : Hid (∀ w, Calls Tryz.prog 14 #[.int .i64 (m : Int)] w fun e w' => e = .returned (.int .i64 (kl : Int)) ∧ Below w.heap.size w w') := hidd fun w => by rw [HK.out]; exact SV.out w
        go_wp2_with fail
        refine (SV2.out _).mono ?_
        rintro e w8 ⟨rfl, b8⟩
        have B8 := hidd (belowT B7.out b8)
        have A9 := hidd (AW.out w8 (HT.out.below B8.out))
        clear b8 B7
        go_wp2_with fail
        refine A9.out.mono ?_
        rintro e w9 ⟨rfl, b9⟩
        go_wp2_with fail
        go_ret
        exact ⟨rfl, belowT B8.out b9⟩

end Go.Proofs.YtlfjfendlohekabGreatDoor
