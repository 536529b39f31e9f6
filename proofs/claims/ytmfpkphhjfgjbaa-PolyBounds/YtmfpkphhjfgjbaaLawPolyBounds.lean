/-
  The law PolyBounds answers true for every three numbers, in whatever memory.
-/
import Derived.Test.YtmfpkphhjfgjbaaPMoved
import Derived.Laws.BitsAllLaws
import Derived.Handy
import Derived.Deep.QuietTactic
import Derived.Test.YtmfpkphhjfgjbaaProg
import Derived.WalkSpells
import Derived.WalkLawsBesides
import Derived.BigQuiet
import Derived.PlainAid
import Derived.Deep.RegionWith
import Derived.Deep.RegionHeld3
import Derived.WalkSmall
import Derived.Deep.CutRange
import Derived.BigRegion
import Derived.OwnWalk
import Derived.Laws.OwnMore
import Derived.OneCell
import Derived.Laws.CopyOwn
import Derived.Sort.Row
import Derived.ChangeSlices
import Derived.OpenShut
import Derived.Laws.AppendOwn
import Derived.Laws.AppendOwnNone
import Derived.BigFrame
import Derived.Deep.AppendLies
import Derived.Deep.RegionLaw
import Derived.RangeFuncFrom
import Derived.RangeFuncCalls
import Derived.RangeFuncLeaves
import Derived.WalkKit
import Derived.OwnWalkIn
import Derived.TacticsInMore
import Derived.LoopNIn
import Derived.LoopIn
import Derived.RegionIn
import Derived.Stop.RegionWithIn
import Derived.Deep.LoopGhost
import Derived.Laws.MakeOwn
namespace Go.Proofs.Ytmfpkphhjfgjbaa
open Go.RowKit

theorem flat_zeros : ∀ N : Nat, flat (List.replicate N (0, 0)) = List.replicate (N * 2) (.int .i64 0)
  | 0 => rfl
  | N + 1 => by
    rw [List.replicate_succ, Nat.add_mul, Nat.one_mul, List.replicate_succ, List.replicate_succ, ← flat_zeros N]
    rfl

theorem made_zeros (N : Nat) : (madeCells (Value.agg #[.int .i64 0, .int .i64 0]).cells (N * 2)).toList = flat (List.replicate N (0, 0)) := by
  rw [flat_zeros, show (Value.agg #[.int .i64 0, .int .i64 0]).cells = #[.int .i64 0, .int .i64 0] from rfl]
  refine List.ext_getElem (by simp [madeCells]) fun i h1 h2 => ?_
  simp only [madeCells, Array.toList_map, List.getElem_map, List.getElem_replicate]
  generalize (Array.range (N * 2)).toList[i]'_ = q
  rcases (show q % 2 = 0 ∨ q % 2 = 1 by omega) with h | h
  · show #[Value.int .i64 0, .int .i64 0][q % 2]! = _
    rw [h]; rfl
  · show #[Value.int .i64 0, .int .i64 0][q % 2]! = _
    rw [h]; rfl

/-- A new ring of zeros. -/
theorem make_ring (w : World) (N : Nat) (hN : N ≤ 100000) : ∃ w', (Instr.makeSlice 26 (.int .i64 (N : Int)) (.int .i64 (N : Int))).run Try.prog w = .ok (.slice (some ⟨w.heap.size, 0, none⟩) N N) w' ∧
    RingL w' (.slice (some ⟨w.heap.size, 0, none⟩) N N) (List.replicate N (0, 0)) ∧ Below w.heap.size w w' := by
  obtain ⟨i0, hi, hz0, hz1, hz2⟩ := info_parts infoP
  obtain ⟨w', h1, h2, h3⟩ := run_make_full (P := Try.prog) w w.heap.size 26 27 i0 (.agg #[.int .i64 0, .int .i64 0]) 2 Try.underlying26 hi hz0 hz1 .i64 .i64 N (by rw [hz2]; omega) (by unfold maxLen; omega) (Nat.le_refl _)
  rw [made_zeros] at h2
  exact ⟨w', h1, ring_own h2 (by simp), (Below.refl _ _).grown h3 (Nat.le_refl _) (fun _ h => by cases h)⟩

def triB : List (Int × Int) := [(0, 0), (1, 0), (0, 1)]

theorem own_tri (w : World) : (w.alloc (.cells #[.int .i64 0, .int .i64 0, .int .i64 1, .int .i64 0, .int .i64 0, .int .i64 1] 27)).ownsRow w.heap.size 27 2 (.slice (some ⟨w.heap.size, 0, none⟩) 3 3) 3 (flat triB) :=
  ⟨rfl, .inr ⟨w.heap.size, 3, #[.int .i64 0, .int .i64 0, .int .i64 1, .int .i64 0, .int .i64 0, .int .i64 1], rfl, Nat.le_refl _, by show (w.heap.push _)[w.heap.size]? = _; simp, by simp, by unfold maxLen; omega, rfl, rfl⟩⟩

theorem corners_rep (L : List (Int × Int)) : ∀ n : Nat, corners (List.replicate n L) = n * L.length
  | 0 => by simp [corners]
  | n + 1 => by
    show L.length + corners (List.replicate n L) = (n + 1) * L.length
    rw [corners_rep L n, Nat.add_mul]
    omega

theorem chk_tris {n : Nat} {T : Int} (h0 : 0 < n) (h : n ≤ 24) (hT : (20 < n ∧ T = 7) ∨ (n ≤ 20 ∧ T = 0)) : ChkT (List.replicate n triB) T := by
  have hc := corners_rep triB n
  have e : triB.length = 3 := rfl
  rw [e] at hc
  rcases hT with ⟨h1, rfl⟩ | ⟨h1, rfl⟩
  · exact .inl ⟨.inl (by simpa using h1), rfl⟩
  · refine .inr (.inr (.inr ⟨by rw [hc, List.length_replicate]; omega, fun k => ?_, fun L hL => ?_, fun L hL p hp => ?_, rfl⟩))
    · have := congrArg List.length k
      simp at this
      omega
    · rw [(List.mem_replicate.1 hL).2, e]; omega
    · rw [(List.mem_replicate.1 hL).2] at hp
      unfold triB at hp
      simp only [List.mem_cons, List.not_mem_nil, or_false] at hp
      unfold InWo
      rcases hp with rfl | rfl | rfl <;> omega

theorem chk_zeros {n : Nat} {T : Int} (hT : (500 < n ∧ T = 7) ∨ (3 ≤ n ∧ n ≤ 500 ∧ T = 0) ∨ (n = 2 ∧ T = 1)) : ChkT [List.replicate n (0, 0)] T := by
  have hc : corners [List.replicate n ((0, 0) : Int × Int)] = n := by show (List.replicate n ((0, 0) : Int × Int)).length + 0 = n; simp
  rcases hT with ⟨h1, rfl⟩ | ⟨h1, h2, rfl⟩ | ⟨rfl, rfl⟩
  · exact .inl ⟨.inr (by rw [hc]; exact h1), rfl⟩
  · refine .inr (.inr (.inr ⟨by rw [hc]; simp; omega, by simp, fun L hL => ?_, fun L hL p hp => ?_, rfl⟩))
    · rw [List.mem_singleton.1 hL, List.length_replicate]; exact h1
    · rw [List.mem_singleton.1 hL] at hp
      rw [(List.mem_replicate.1 hp).2]
      unfold InWo
      omega
  · exact .inr (.inl ⟨by rw [hc]; simp, .inr ⟨_, List.mem_singleton.2 rfl, by simp⟩, rfl⟩)

theorem chk_world {C T Z : Int} (hZ : 1073741823 + C = Z) (h : -3 ≤ C ∧ C ≤ 4) (hT : (0 < C ∧ T = 4) ∨ (C ≤ 0 ∧ T = 0)) : ChkT [[(0, 0), (1, 1), (Z, 0)]] T := by
  have hc : ¬ (20 < [[((0, 0) : Int × Int), (1, 1), (Z, 0)]].length ∨ 500 < corners [[((0, 0) : Int × Int), (1, 1), (Z, 0)]]) := by
    show ¬ (20 < 1 ∨ 500 < 3 + 0)
    omega
  have h3 : ∀ L ∈ [[((0, 0) : Int × Int), (1, 1), (Z, 0)]], 3 ≤ L.length := fun L hL => by rw [List.mem_singleton.1 hL]; exact Nat.le_refl 3
  rcases hT with ⟨h1, rfl⟩ | ⟨h1, rfl⟩
  · exact .inr (.inr (.inl ⟨hc, by simp, h3, ⟨_, List.mem_singleton.2 rfl, (Z, 0), by simp, by unfold InWo; omega⟩, rfl⟩))
  · refine .inr (.inr (.inr ⟨hc, by simp, h3, fun L hL p hp => ?_, rfl⟩))
    rw [List.mem_singleton.1 hL] at hp
    simp only [List.mem_cons, List.not_mem_nil, or_false] at hp
    unfold InWo
    rcases hp with rfl | rfl | rfl
    all_goals
      dsimp only
      omega

theorem chk_call (s : Value) (G : List (List (Int × Int))) (T : Int) (hT : ChkT G T) (hn : G.length ≤ 1000000) (hl : ∀ L ∈ G, L.length ≤ 1000000) (w : World) (hG : RingsL w s G) :
    Calls Try.prog 13 #[s] w fun e w' => e = .returned (.int .i64 T) ∧ Below w.heap.size w w' :=
  (p_check s G hn hl w hG).mono fun _ _ ⟨⟨_, he, ht⟩, hb⟩ => ⟨by rw [he, ht.one hT], hb⟩

set_option maxHeartbeats 16000000 in
set_option maxRecDepth 20000 in
theorem polyBounds_walk (n k c : Int) (w : World) (_ : -9223372036854775808 ≤ n) (_ : n ≤ 9223372036854775807) (_ : -9223372036854775808 ≤ k) (_ : k ≤ 9223372036854775807) (_ : -9223372036854775808 ≤ c) (_ : c ≤ 9223372036854775807) :
    Calls Try.prog 4 #[.int .i64 n, .int .i64 k, .int .i64 c] w fun e w' => e = .returned (.bool true) ∧ Below w.heap.size w w' := by
  have AW := hidd fun w => pawake9 w
  obtain ⟨i1, hj, hr0, hr1, hr2⟩ := info_parts infoR
  obtain ⟨N0, -, a1, a2, a3, -⟩ := mask_mod n 3 (by omega) 7 8 62 (by decide) (by decide) (by omega) (by omega)
  obtain ⟨K0, -, b1, b2, b3, -⟩ := mask_mod k 3 (by omega) 7 8 62 (by decide) (by decide) (by omega) (by omega)
  obtain ⟨C0, -, c1', c2', c3', -⟩ := mask_mod c 3 (by omega) 7 8 62 (by decide) (by decide) (by omega) (by omega)
  obtain ⟨N, eN⟩ : ∃ N : Nat, N0 + 17 = (N : Int) := ⟨(N0 + 17).toNat, by omega⟩
  obtain ⟨K, eK⟩ : ∃ K, K0 + 2 = K := ⟨_, rfl⟩
  obtain ⟨C, eC⟩ : ∃ C, C0 - 3 = C := ⟨_, rfl⟩
  obtain ⟨M, eM⟩ : ∃ M : Nat, 495 + K = (M : Int) := ⟨(495 + K).toNat, by omega⟩
  obtain ⟨Z, eZ⟩ : ∃ Z, 1073741823 + C = Z := ⟨_, rfl⟩
  have hN1 : 17 ≤ N := by omega
  have hN2 : N ≤ 24 := by omega
  have hM1 : 497 ≤ M := by omega
  have hM2 : M ≤ 504 := by omega
  have hK1 : 2 ≤ K := by omega
  have hK2 : K ≤ 9 := by omega
  have hC1 : -3 ≤ C := by omega
  have hC2 : C ≤ 4 := by omega
  obtain ⟨T1, W1⟩ : ∃ T : Int, ((20 : Int) < (N : Int) ∧ T = 7) ∨ (decide ((20 : Int) < (N : Int)) = false ∧ T = 0) := by
    by_cases h : 20 < N
    · exact ⟨7, .inl ⟨by omega, rfl⟩⟩
    · exact ⟨0, .inr ⟨df (by omega), rfl⟩⟩
  obtain ⟨T2, W2⟩ : ∃ T : Int, ((500 : Int) < (M : Int) ∧ T = 7) ∨ (decide ((500 : Int) < (M : Int)) = false ∧ T = 0) := by
    by_cases h : 500 < M
    · exact ⟨7, .inl ⟨by omega, rfl⟩⟩
    · exact ⟨0, .inr ⟨df (by omega), rfl⟩⟩
  obtain ⟨T3, W3⟩ : ∃ T : Int, (0 < C ∧ T = 4) ∨ (decide (0 < C) = false ∧ T = 0) := by
    by_cases h : 0 < C
    · exact ⟨4, .inl ⟨h, rfl⟩⟩
    · exact ⟨0, .inr ⟨df h, rfl⟩⟩
  have H1 := hidd (chk_tris (n := N) (T := T1) (by omega) hN2 (by
    rcases W1 with ⟨h, e⟩ | ⟨h, e⟩
    · exact .inl ⟨by omega, e⟩
    · exact .inr ⟨by have := of_decide_eq_false h; omega, e⟩))
  have H2 := hidd (chk_zeros (n := M) (T := T2) (by
    rcases W2 with ⟨h, e⟩ | ⟨h, e⟩
    · exact .inl ⟨by omega, e⟩
    · exact .inr (.inl ⟨by omega, by have := of_decide_eq_false h; omega, e⟩)))
  have H3 := hidd (chk_world eZ ⟨hC1, hC2⟩ (T := T3) (by
    rcases W3 with ⟨h, e⟩ | ⟨h, e⟩
    · exact .inl ⟨h, e⟩
    · exact .inr ⟨by have := of_decide_eq_false h; omega, e⟩))
  have HW1 := hidd W1
  have HW2 := hidd W2
  have HW3 := hidd W3
  clear W1 W2 W3
  go_enter Try.func4, Try.ntmps4
  go_wp2_with fail
  go_loopw [7, 8] (fun v7 v8 wr => ∃ (i : Nat) (S : List Value), i ≤ N ∧ v8 = .int .i64 (i : Int) ∧ Hid (RowsP wr w.heap.size v7 (List.replicate i triB) S) ∧ Hid (Below w.heap.size w wr)) (fun _ v8 _ => N - (intOf v8).toNat)
  case atStart => exact ⟨0, [], by omega, rfl, hidd (RowsP.nil' _ _), hidd (Below.refl _ _)⟩
  case round =>
    obtain ⟨i, S, hi, rfl, hR, hB⟩ := hrel
    by_cases hlt : i < N
    · have hlt' : (i : Int) < (N : Int) := by omega
      have hR3 := hR.out.2.1
      rw [List.length_replicate] at hR3
      have O3 := hidd hR3
      have hsW := hB.out.size
      clear hR3
      go_wp2_with (at_builtin; refine wpList_append_own _ rfl (.tmp 31) (.tmp 36) 23 rfl w.heap.size 26 i1 (.slice none 0 0) 1 24 Try.underlying23 hj hr0 hr1 hr2 rfl (by decide) _ _ _ rfl (own_keep (belowT (allocB _ _) (allocB _ _)) O3.out) ⟨wr.heap.size + 1, 0, none⟩ 1 1 [.slice (some ⟨wr.heap.size, 0, none⟩) 3 3] rfl rfl (one_lies _ (wr.heap.size + 1) (by simp) _ _) (fun u hu => by simp at hu; subst hu; rfl) (by unfold maxLen; omega) (by omega) (by simp; omega) ?_)
      intro v7 w7 hown hgrow _
      have al := belowT (allocB wr (.cells #[.int .i64 0, .int .i64 0, .int .i64 1, .int .i64 0, .int .i64 0, .int .i64 1] 27)) (allocB _ (.cells #[.slice (some ⟨wr.heap.size, 0, none⟩) 3 3] 26))
      have OT := own_mono (own_keep (allocB _ (.cells #[.slice (some ⟨wr.heap.size, 0, none⟩) 3 3] 26)) (own_tri wr)) hsW
      have R7 : Hid (RowsP w7 w.heap.size v7 (List.replicate (i + 1) triB) (S ++ [.slice (some ⟨wr.heap.size, 0, none⟩) 3 3])) := hidd (by
        rw [List.replicate_succ']
        exact (hR.out.keep al).push OT (by rw [List.length_replicate]; exact hown) hgrow)
      have B7 := hidd ((belowT hB.out al).grown hgrow (by simp; omega) (own_block O3.out))
      clear hown hgrow al OT hR hB O3
      go_wp2_with fail
      go_roundw
      case rel => exact ⟨i + 1, _, by omega, by go_num, R7, B7⟩
      case measure => simp [intOf]; omega
    · obtain rfl : i = N := by omega
      have hlt' : decide ((i : Int) < (i : Int)) = false := by simp
      have R1 := hidd hR.out.rings
      have LN : Hid ((List.replicate i triB).length ≤ 1000000 ∧ ∀ L ∈ List.replicate i triB, L.length ≤ 1000000) := hidd ⟨by rw [List.length_replicate]; omega, fun L hL => by rw [(List.mem_replicate.1 hL).2]; show 3 ≤ 1000000; omega⟩
      clear hR
      go_wp2_with fail
      refine (chk_call _ _ T1 H1.out LN.out.1 LN.out.2 _ R1.out).mono ?_
      rintro e w1 ⟨rfl, b⟩
      have B1 := hidd (belowT hB.out b)
      clear b hB R1 LN H1
      obtain ⟨w2, MK, hring, hbw⟩ := make_ring w1 M (by omega)
      have B2 := hidd (belowT B1.out hbw)
      have R2 := hidd (lit_rings1 _ _ _ 26 hring)
      have B3 := hidd (belowT B2.out (allocB w2 (.cells #[.slice (some ⟨w1.heap.size, 0, none⟩) M M] 26)))
      clear hring hbw B1 B2
      rcases HW1.out with ⟨h1, rfl⟩ | ⟨h1, rfl⟩
      all_goals
        clear HW1
        go_wp2_with fail
        refine (chk_call _ _ T2 H2.out (by simp) (fun L hL => by rw [List.mem_singleton.1 hL, List.length_replicate]; omega) _ R2.out).mono ?_
        rintro e w3 ⟨rfl, b⟩
        have B4 := hidd (belowT B3.out b)
        clear b B3 R2 H2 MK h1
        have L3 := hidd (lit_ring w3 [(0, 0), (1, 1), (Z, 0)] 27)
        have R3 := hidd (lit_rings1_next _ _ _ _ 26 L3.out)
        have B5 := hidd (belowT B4.out (belowT (allocB w3 (.cells #[.int .i64 0, .int .i64 0, .int .i64 1, .int .i64 1, .int .i64 Z, .int .i64 0] 27)) (allocB _ (.cells #[.slice (some ⟨w3.heap.size, 0, none⟩) 3 3] 26))))
        clear L3 B4
        rcases HW2.out with ⟨h2, rfl⟩ | ⟨h2, rfl⟩
        all_goals
          clear HW2
          go_wp2_with fail
          refine (chk_call _ _ T3 H3.out (by simp) (fun L hL => by rw [List.mem_singleton.1 hL]; show 3 ≤ 1000000; omega) _ R3.out).mono ?_
          rintro e w4 ⟨rfl, b⟩
          have B6 := hidd (belowT B5.out b)
          clear b B5 R3 H3 h2
          obtain ⟨w5, MK, hring, hbw⟩ := make_ring w4 2 (by omega)
          replace MK : (Instr.makeSlice 26 (.int .i64 2) (.int .i64 2)).run Try.prog w4 = .ok (.slice (some ⟨w4.heap.size, 0, none⟩) 2 2) w5 := MK
          have R5 := hidd (lit_rings1 _ _ _ 26 hring)
          have B7 := hidd (belowT (belowT B6.out hbw) (allocB w5 (.cells #[.slice (some ⟨w4.heap.size, 0, none⟩) 2 2] 26)))
          clear hring hbw B6
          rcases HW3.out with ⟨h3, rfl⟩ | ⟨h3, rfl⟩
          all_goals
            clear HW3
            go_wp2_with fail
            refine (chk_call _ _ 1 (chk_zeros (n := 2) (.inr (.inr ⟨rfl, rfl⟩))) (by simp) (fun L hL => by rw [List.mem_singleton.1 hL, List.length_replicate]; omega) _ R5.out).mono ?_
            rintro e w6 ⟨rfl, b⟩
            have B8 := hidd (belowT B7.out b)
            clear b B7 R5 MK h3
            obtain ⟨w7, MK, hring, hbw⟩ := make_ring w6 2 (by omega)
            replace MK : (Instr.makeSlice 26 (.int .i64 2) (.int .i64 2)).run Try.prog w6 = .ok (.slice (some ⟨w6.heap.size, 0, none⟩) 2 2) w7 := MK
            have B9 := hidd (belowT B8.out hbw)
            have R7 := hidd hring
            clear hring hbw B8
            go_wp2_with fail
            refine (p_area2 _ _ (by simp) _ R7.out).mono ?_
            rintro e w8 ⟨⟨z, rfl, hz⟩, b⟩
            obtain rfl : z = 0 := by
              rcases hz with ⟨h, -⟩ | ⟨-, h⟩
              · have := (okay_one.1 h).1
                simp at this
              · exact h
            have Ba := hidd (belowT B9.out b)
            clear b B9 R7 MK hz
            go_wp2_with fail
            refine (AW.out _).mono ?_
            rintro e w9 ⟨rfl, b9⟩
            go_wp2_with fail
            go_ret
            exact ⟨rfl, belowT Ba.out b9⟩

end Go.Proofs.Ytmfpkphhjfgjbaa
