/-
  The law PolyBoxes answers true for every six numbers and every list of numbers, in whatever memory.
-/
import Derived.Test.YtmfpkphhjfgjbaaPBx
import Derived.Test.YtmfpkphhjfgjbaaPLit
import Derived.Laws.BitsAllLaws
import Derived.Handy
import Derived.Deep.QuietTactic
import Derived.Test.YtmfpkphhjfgjbaaProg
import Derived.WalkSpells
import Derived.WalkLawsBesides
import Derived.BigQuiet
import Derived.PlainAid
import Derived.Deep.RegionWith
import Derived.Deep.RegionHeld3
import Derived.WalkSmall
import Derived.Deep.CutRange
import Derived.BigRegion
import Derived.OwnWalk
import Derived.Laws.OwnMore
import Derived.OneCell
import Derived.Laws.CopyOwn
import Derived.Sort.Row
import Derived.ChangeSlices
import Derived.OpenShut
import Derived.Laws.AppendOwn
import Derived.Laws.AppendOwnNone
import Derived.BigFrame
import Derived.Deep.AppendLies
import Derived.Deep.RegionLaw
import Derived.RangeFuncFrom
import Derived.RangeFuncCalls
import Derived.RangeFuncLeaves
import Derived.WalkKit
import Derived.OwnWalkIn
import Derived.TacticsInMore
import Derived.LoopNIn
import Derived.LoopIn
import Derived.RegionIn
import Derived.Stop.RegionWithIn
import Derived.Deep.LoopGhost
import Derived.Lib.MinMax
namespace Go.Proofs.Ytmfpkphhjfgjbaa
open Go.RowKit

theorem lim_ways (x y l0 l1 h0 h1 : Int) :
    (decide (l0 ≤ x) = false) ∨ (l0 ≤ x ∧ decide (x ≤ h0) = false) ∨ (l0 ≤ x ∧ x ≤ h0 ∧ decide (l1 ≤ y) = false) ∨
    (l0 ≤ x ∧ x ≤ h0 ∧ l1 ≤ y ∧ decide (y ≤ h1) = false) ∨ (l0 ≤ x ∧ x ≤ h0 ∧ l1 ≤ y ∧ y ≤ h1 ∧ True) := by
  simp only [decide_eq_false_iff_not, and_true]
  omega

theorem mask_bits (z : Int) (k : Nat) (hk : k ≤ 32) (m n : Int) (hm : (((2 ^ k - 1 : Nat)) : Int) = m) (hn : (((2 ^ k : Nat)) : Int) = n) (h0 : 0 < n) : ∃ A : Int, bits .and .i64 z m = A ∧ 0 ≤ A ∧ A < n := by
  have h := i64_mask z k (by omega)
  rw [hm, hn] at h
  exact ⟨_, h, Int.emod_nonneg _ (by omega), Int.emod_lt_of_pos _ h0⟩

set_option maxHeartbeats 16000000 in
set_option maxRecDepth 20000 in
theorem polyBoxes_walk (a b c d x y : Int) (sX : Value) (X : List Int) (w : World) (_ : -9223372036854775808 ≤ a) (_ : a ≤ 9223372036854775807) (_ : -9223372036854775808 ≤ b) (_ : b ≤ 9223372036854775807) (_ : -9223372036854775808 ≤ c) (_ : c ≤ 9223372036854775807) (_ : -9223372036854775808 ≤ d) (_ : d ≤ 9223372036854775807) (_ : -9223372036854775808 ≤ x) (_ : x ≤ 9223372036854775807) (_ : -9223372036854775808 ≤ y) (_ : y ≤ 9223372036854775807) (hX : LstK .i64 w sX X) (_ : ∀ x ∈ X, -9223372036854775808 ≤ x ∧ x ≤ 9223372036854775807) :
    Calls Try.prog 8 #[.int .i64 a, .int .i64 b, .int .i64 c, .int .i64 d, .int .i64 x, .int .i64 y, sX] w fun e w' => e = .returned (.bool true) ∧ Below w.heap.size w w' := by
  have AW := hidd fun w => pawake9 w
  obtain ⟨A, eA, A0, A1⟩ := mask_bits a 6 (by omega) 63 64 (by decide) (by decide) (by omega)
  obtain ⟨B, eB, B0, B1⟩ := mask_bits b 6 (by omega) 63 64 (by decide) (by decide) (by omega)
  obtain ⟨C, eC, C0, C1⟩ := mask_bits c 6 (by omega) 63 64 (by decide) (by decide) (by omega)
  obtain ⟨D, eD, D0, D1⟩ := mask_bits d 6 (by omega) 63 64 (by decide) (by decide) (by omega)
  obtain ⟨M, eM, M0, M1⟩ := mask_bits x 7 (by omega) 127 128 (by decide) (by decide) (by omega)
  obtain ⟨N, eN, N0, N1⟩ := mask_bits y 7 (by omega) 127 128 (by decide) (by decide) (by omega)
  obtain ⟨U, eU⟩ : ∃ U, M - 20 = U := ⟨_, rfl⟩
  obtain ⟨V, eV⟩ : ∃ V, N - 20 = V := ⟨_, rfl⟩
  have U0 : -20 ≤ U := by omega
  have U1 : U ≤ 107 := by omega
  have V0 : -20 ≤ V := by omega
  have V1 : V ≤ 107 := by omega
  have WO : Hid (∀ p ∈ box4 A B C D, InWo p) := hidd (wo_box (by omega) (by omega) (by omega) (by omega))
  have FR : Hid (¬ Far U V) := hidd (not_far (by omega) (by omega))
  have L1 : Hid (RingL (w.alloc (.cells #[.int .i64 A, .int .i64 B, .int .i64 C, .int .i64 B, .int .i64 C, .int .i64 D, .int .i64 A, .int .i64 D] 27)) (.slice (some ⟨w.heap.size, 0, none⟩) 4 4) (box4 A B C D)) := hidd (lit_ring w (box4 A B C D) 27)
  have HB1 := hidd (allocB w (.cells #[.int .i64 A, .int .i64 B, .int .i64 C, .int .i64 B, .int .i64 C, .int .i64 D, .int .i64 A, .int .i64 D] 27))
  obtain ⟨m1, em1⟩ : ∃ m1, min A C = m1 := ⟨_, rfl⟩
  obtain ⟨m2, em2⟩ : ∃ m2, max A C = m2 := ⟨_, rfl⟩
  obtain ⟨m3, em3⟩ : ∃ m3, min B D = m3 := ⟨_, rfl⟩
  obtain ⟨m4, em4⟩ : ∃ m4, max B D = m4 := ⟨_, rfl⟩
  have BW := lim_ways U V m1 m3 m2 m4
  obtain ⟨inb, hinb⟩ : ∃ b : Bool, b = true ↔ (min A C ≤ U ∧ U ≤ max A C ∧ min B D ≤ V ∧ V ≤ max B D) := by
    by_cases h : min A C ≤ U ∧ U ≤ max A C ∧ min B D ≤ V ∧ V ≤ max B D
    · exact ⟨true, by simp only [true_iff]; exact h⟩
    · exact ⟨false, by simp only [Bool.false_eq_true, false_iff]; exact h⟩
  obtain ⟨fin, hfin⟩ : ∃ b : Bool, b = true ↔ InT [box4 A B C D] U V := by
    by_cases h : InT [box4 A B C D] U V
    · exact ⟨true, by simp only [true_iff]; exact h⟩
    · exact ⟨false, by simp only [Bool.false_eq_true, false_iff]; exact h⟩
  obtain ⟨ob, hob⟩ : ∃ b : Bool, b = true ↔ OnT [box4 A B C D] U V := by
    by_cases h : OnT [box4 A B C D] U V
    · exact ⟨true, by simp only [true_iff]; exact h⟩
    · exact ⟨false, by simp only [Bool.false_eq_true, false_iff]; exact h⟩
  have IN := hidd fun s w h => p_inside s [box4 A B C D] U V fin hfin (by simp) (fun L hL => by rw [List.mem_singleton.1 hL]; show 4 ≤ 1000000; omega) w h
  have ON := hidd fun s w h => p_on s [box4 A B C D] U V ob hob (by simp) (fun L hL => by rw [List.mem_singleton.1 hL]; show 4 ≤ 1000000; omega) w h
  rw [in_one (R := box4 A B C D) (show 3 ≤ 4 by omega) (show 4 ≤ 500 by omega) WO.out FR.out] at hfin
  rw [on_one (R := box4 A B C D) (show 3 ≤ 4 by omega) (show 4 ≤ 500 by omega) WO.out FR.out] at hob
  rw [em1, em2, em3, em4] at hinb
  have HI := hidd hinb
  have HF := hidd hfin
  have HO := hidd hob
  have TM := hidd fun w h => tame sX X 50 (by omega) (by omega) w h
  have LX := hidd hX
  obtain ⟨pX, cX, rfl, -, -⟩ := hX
  clear hinb hfin hob WO FR
  go_enter Try.func8, Try.ntmps8
  go_upto_region 4 with fail
  go_cut [16] from 22 (fun v16 wx => v16 = .bool inb ∧ wx = w.alloc (.cells #[.int .i64 A, .int .i64 B, .int .i64 C, .int .i64 B, .int .i64 C, .int .i64 D, .int .i64 A, .int .i64 D] 27))
  case first =>
    rcases BW with h1 | ⟨h1, h2⟩ | ⟨h1, h2, h3⟩ | ⟨h1, h2, h3, h4⟩ | ⟨h1, h2, h3, h4, -⟩
    · obtain rfl : inb = false := Bool.eq_false_iff.2 fun k => by have := HI.out.1 k; have := of_decide_eq_false h1; omega
      go_wp2_with fail
      go_meet
      exact ⟨rfl, rfl⟩
    · obtain rfl : inb = false := Bool.eq_false_iff.2 fun k => by have := HI.out.1 k; have := of_decide_eq_false h2; omega
      go_wp2_with fail
      go_meet
      exact ⟨rfl, rfl⟩
    · obtain rfl : inb = false := Bool.eq_false_iff.2 fun k => by have := HI.out.1 k; have := of_decide_eq_false h3; omega
      go_wp2_with fail
      go_meet
      exact ⟨rfl, rfl⟩
    · obtain rfl : inb = false := Bool.eq_false_iff.2 fun k => by have := HI.out.1 k; have := of_decide_eq_false h4; omega
      go_wp2_with fail
      go_meet
      exact ⟨rfl, rfl⟩
    · obtain rfl : inb = true := HI.out.2 ⟨h1, h2, h3, h4⟩
      go_wp2_with fail
      go_meet
      exact ⟨rfl, rfl⟩
  case rest =>
    obtain ⟨rfl, rfl⟩ := hcut
    clear BW eA eB eC eD eM eN eU eV
    have W5 : ((A == C) = true ∧ inb = false ∧ fin = false) ∨ ((A == C) = false ∧ (B == D) = true ∧ inb = false ∧ fin = false) ∨ ((A == C) = true ∧ inb = true ∧ fin = ob ∧ True) ∨ ((A == C) = false ∧ (B == D) = true ∧ inb = true ∧ fin = ob ∧ True) ∨ ((A == C) = false ∧ (B == D) = false ∧ inb = fin) := by
      have FLAT : ((A == C) = true ∨ ((A == C) = false ∧ (B == D) = true)) ∨ ((A == C) = false ∧ (B == D) = false) := by
        cases (A == C) <;> cases (B == D) <;> simp
      rcases FLAT with hf | ⟨hf1, hf2⟩
      · have hflat : A = C ∨ B = D := by
          rcases hf with h | ⟨_, h⟩
          · exact .inl (by simpa using h)
          · exact .inr (by simpa using h)
        have HF2 : fin = true ↔ inb = true ∧ ob = true := by
          rw [HF.out, HI.out, HO.out, ← em1, ← em2, ← em3, ← em4]
          exact box_flat hflat
        cases hb : inb with
        | false =>
          have e : fin = false := Bool.eq_false_iff.2 fun k => by have := (HF2.1 k).1; rw [hb] at this; cases this
          rcases hf with h | ⟨h, h2⟩
          · exact .inl ⟨h, rfl, e⟩
          · exact .inr (.inl ⟨h, h2, rfl, e⟩)
        | true =>
          have e : fin = ob := bool_iff (HF2.trans ⟨fun h => h.2, fun h => ⟨hb, h⟩⟩)
          rcases hf with h | ⟨h, h2⟩
          · exact .inr (.inr (.inl ⟨h, rfl, e, trivial⟩))
          · exact .inr (.inr (.inr (.inl ⟨h, h2, rfl, e, trivial⟩)))
      · refine .inr (.inr (.inr (.inr ⟨hf1, hf2, ?_⟩)))
        refine (bool_iff ?_).symm
        rw [HF.out, HI.out, ← em1, ← em2, ← em3, ← em4]
        exact box_in (by simpa using hf1) (by simpa using hf2)
    clear HI HF HO em1 em2 em3 em4
    rcases W5 with ⟨k1, rfl, rfl⟩ | ⟨k1, k2, rfl, rfl⟩ | ⟨k1, rfl, rfl, mk⟩ | ⟨k1, k2, rfl, rfl, mk⟩ | ⟨k1, k2, rfl⟩
    all_goals first
      | (have _t := mk
         go_wp2_with fail
         refine (ON.out _ _ (lit_rings1_next _ _ _ _ _ L1.out)).mono ?_
         rintro e w2 ⟨rfl, b2⟩
         have b3 := belowT (allocB _ (.cells #[.slice (some ⟨w.heap.size, 0, none⟩) 4 4] 26)) b2
         have B2 := hidd (belowT HB1.out b3)
         have L2 := hidd (L1.out.keep b3)
         clear b2 b3 HB1 L1 ON mk)
      | (generalize w.alloc (.cells #[.int .i64 A, .int .i64 B, .int .i64 C, .int .i64 B, .int .i64 C, .int .i64 D, .int .i64 A, .int .i64 D] 27) = w2 at *
         have B2 := HB1
         have L2 := L1
         clear HB1 L1 ON)
    all_goals
      have R2 := hidd (lit_rings1 _ _ _ 26 L2.out)
      have B2 := hidd (belowT B2.out (allocB w2 (.cells #[.slice (some ⟨w.heap.size, 0, none⟩) 4 4] 26)))
      clear L2
      go_wp2_with fail
      refine (IN.out _ _ R2.out).mono ?_
      rintro e w3 ⟨rfl, b2⟩
      have B3 := hidd (belowT B2.out b2)
      have LX3 := hidd (LX.out.keep B3.out)
      clear b2 B2 R2 IN LX
      go_wp2_with fail
      refine (TM.out _ LX3.out).mono ?_
      rintro e w4 ⟨⟨sl, G, S, rfl, hG3, hGood, hRows⟩, b3⟩
      have B4 := hidd (belowT B3.out b3)
      have RG := hidd hRows.rings
      have hRo := hRows.2.1
      obtain ⟨n, hn⟩ : ∃ n, G.length = n := ⟨_, rfl⟩
      rw [hn] at hRo hG3
      have HN := hidd hn
      obtain ⟨pg, cg, rfl, -⟩ := own_slice hRo
      clear b3 B3 LX3 TM hRows hRo hn
      by_cases h0' : n = 0 ∨ 60 < X.length
      · have A9 := hidd (AW.out w4)
        have hc : (((n : Int) == 0) = true) ∨ (((n : Int) == 0) = false ∧ (60 : Int) < (X.length : Int)) := by
          by_cases h : n = 0
          · exact .inl (by simp [h])
          · exact .inr ⟨by simp; omega, by omega⟩
        rcases hc with hc | ⟨hc, hd⟩
        all_goals
          go_wp2_with fail
          refine A9.out.mono ?_
          rintro e w5 ⟨rfl, b4⟩
          go_wp2_with fail
          go_ret
          exact ⟨rfl, belowT B4.out b4⟩
      · have hn0 : ((n : Int) == 0) = false := by simp; omega
        have hx60 : decide ((60 : Int) < (X.length : Int)) = false := df (by omega)
        have hne : G ≠ [] := fun h => by
          have := HN.out
          rw [h] at this
          simp at this
          omega
        have OK := hidd (tame_okay (by omega) hne (by rw [HN.out]; exact hG3) hGood)
        have GD := hidd hGood
        have PB := hidd (p_box _ G (by rw [HN.out]; omega) (fun L hL => by have := (hGood L hL).2.1; omega) w4 RG.out)
        clear h0' hne hGood
        go_wp2_with fail
        refine PB.out.mono ?_
        rintro e w5 ⟨⟨lo, hi, rfl, hbox⟩, b4⟩
        obtain ⟨hok, hbx, -⟩ : Okay G ∧ Bx G.flatten lo hi ∧ True := by
          rcases hbox with ⟨h1, h2⟩ | ⟨h1, _⟩
          · exact ⟨h1, h2, trivial⟩
          · exact absurd OK.out h1
        have BX := hidd hbx.1
        have LIM : -10000000 ≤ lo.1 ∧ lo.1 ≤ 10000000 := by
          obtain ⟨p, hp, e⟩ := hbx.2.1
          obtain ⟨L, hL, hp2⟩ := List.mem_flatten.1 hp
          have := (GD.out L hL).2.2 p hp2
          omega
        obtain ⟨l0, el0⟩ : ∃ l0, lo.1 = l0 := ⟨_, rfl⟩
        obtain ⟨l1, el1⟩ : ∃ l1, lo.2 = l1 := ⟨_, rfl⟩
        obtain ⟨h0, eh0⟩ : ∃ h0, hi.1 = h0 := ⟨_, rfl⟩
        obtain ⟨h1, eh1⟩ : ∃ h1, hi.2 = h1 := ⟨_, rfl⟩
        have B5 := hidd (belowT B4.out b4)
        have RG2 := hidd (RG.out.keep b4)
        have NIN : Hid (¬ (l0 ≤ 500000 + U ∧ 500000 + U ≤ h0 ∧ l1 ≤ 500000 + V ∧ 500000 + V ≤ h1) → ¬ InT G (500000 + U) (500000 + V)) := hidd fun hno ⟨_, _, h⟩ => by
          have hb := in_beside (G := G) (x := 500000 + U) (y := 500000 + V) (by
            have all : ∀ L ∈ G, ∀ p ∈ L, l0 ≤ p.1 ∧ p.1 ≤ h0 ∧ l1 ≤ p.2 ∧ p.2 ≤ h1 := fun L hL p hp => by
              have := BX.out p (List.mem_flatten.2 ⟨L, hL, hp⟩)
              omega
            rcases (show 500000 + U < l0 ∨ h0 < 500000 + U ∨ h1 < 500000 + V ∨ 500000 + V < l1 by omega) with k | k | k | k
            · exact .inl fun L hL p hp => by have := all L hL p hp; omega
            · exact .inr (.inl fun L hL p hp => by have := all L hL p hp; omega)
            · exact .inr (.inr (.inl fun L hL p hp => by have := all L hL p hp; omega))
            · exact .inr (.inr (.inr fun L hL p hp => by have := all L hL p hp; omega)))
          omega
        have LW := lim_ways (500000 + U) (500000 + V) l0 l1 h0 h1
        have eU5 : IntKind.i64.wrap (500000 + U) = 500000 + U := by rw [IntKind.wrap_i64]; omega
        have eV5 : IntKind.i64.wrap (500000 + V) = 500000 + V := by rw [IntKind.wrap_i64]; omega
        obtain ⟨P, eP⟩ : ∃ P, 500000 + U = P := ⟨_, rfl⟩
        obtain ⟨Q, eQ⟩ : ∃ Q, 500000 + V = Q := ⟨_, rfl⟩
        have IN2 : Hid (¬ (l0 ≤ P ∧ P ≤ h0 ∧ l1 ≤ Q ∧ Q ≤ h1) → ∀ w, RingsL w (.slice pg n cg) G → Calls Try.prog 11 #[.slice pg n cg, .int .i64 P, .int .i64 Q] w fun e w' => e = .returned (.bool false) ∧ Below w.heap.size w w') := hidd fun hno w h => p_inside _ G P Q false (by
          simp only [Bool.false_eq_true, false_iff]
          rw [← eP, ← eQ] at *
          exact NIN.out hno) (by rw [HN.out]; omega) (fun L hL => by have := (GD.out L hL).2.1; omega) w h
        rw [eP, eQ] at LW
        rw [el0, el1, eh0, eh1]
        clear PB hbox hok hbx LIM el0 el1 eh0 eh1 b4 RG B4 NIN BX eU5 eV5
        have RG3 : Hid (∀ w', Below w5.heap.size w5 w' → RingsL w' (.slice pg n cg) G) := hidd fun w' h => RG2.out.keep h
        have AW2 := hidd fun w => AW.out w
        rcases LW with k1 | ⟨k1, k2⟩ | ⟨k1, k2, k3⟩ | ⟨k1, k2, k3, k4⟩ | ⟨k1, k2, k3, k4, mk5⟩
        all_goals first
          | (have _t := mk5
             have A9 := hidd (AW.out (w5.alloc (.cells #[.int .i64 l0, .int .i64 l1] 27)))
             clear IN2 mk5
             go_wp2_with fail
             refine (AW2.out _).mono ?_
             rintro e w6 ⟨rfl, b6⟩
             go_wp2_with fail
             go_ret
             exact ⟨rfl, belowT B5.out (belowT (by go_grown) b6)⟩)
          | (have hno : ¬ (l0 ≤ P ∧ P ≤ h0 ∧ l1 ≤ Q ∧ Q ≤ h1) := fun h => by
               first
                 | exact of_decide_eq_false k1 h.1
                 | exact of_decide_eq_false k2 h.2.1
                 | exact of_decide_eq_false k3 h.2.2.1
                 | exact of_decide_eq_false k4 h.2.2.2
             have IN3 := hidd (IN2.out hno)
             clear IN2 hno
             go_wp2_with fail
             refine (IN3.out _ (RG3.out _ (by go_grown))).mono ?_
             rintro e w6 ⟨rfl, b6⟩
             have B6 := hidd (belowT B5.out (belowT (by go_grown) b6))
             clear b6
             go_wp2_with fail
             refine (AW2.out _).mono ?_
             rintro e w7 ⟨rfl, b7⟩
             go_wp2_with fail
             go_ret
             exact ⟨rfl, belowT B6.out b7⟩)

end Go.Proofs.Ytmfpkphhjfgjbaa
