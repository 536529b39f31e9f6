/-
  What the document's own PolyCheck tells of any rings; in whatever memory.
-/
import Derived.Test.YtmfpkphhjfgjbaaR1D
import Derived.Test.YtmfpkphhjfgjbaaUD
import Derived.Test.YtmfpkphhjfgjbaaPRings
import Derived.Laws.BitsAllLaws
import Derived.Handy
import Derived.Deep.QuietTactic
import Derived.Test.YtmfpkphhjfgjbaaProg
import Derived.WalkSpells
import Derived.WalkLawsBesides
import Derived.BigQuiet
import Derived.PlainAid
import Derived.Deep.RegionWith
import Derived.Deep.RegionHeld3
import Derived.WalkSmall
import Derived.Deep.CutRange
import Derived.BigRegion
import Derived.OwnWalk
import Derived.Laws.OwnMore
import Derived.OneCell
import Derived.Laws.CopyOwn
import Derived.Sort.Row
import Derived.Deep.LoopGhost
namespace Go.Proofs.Ytmfpkphhjfgjbaa
open Go.RowKit

def capS : List (List (Int × Int)) → Nat
  | [] => 0
  | L :: G => min L.length 1000 + capS G

theorem capS_snoc (L : List (Int × Int)) : ∀ G : List (List (Int × Int)), capS (G ++ [L]) = capS G + min L.length 1000
  | [] => by show min L.length 1000 + 0 = 0 + min L.length 1000; omega
  | M :: G => by show min M.length 1000 + capS (G ++ [L]) = min M.length 1000 + capS G + min L.length 1000; rw [capS_snoc L G]; omega

theorem capS_next {G : List (List (Int × Int))} {i : Nat} (h : i < G.length) : capS (G.take (i + 1)) = capS (G.take i) + min G[i].length 1000 := by
  rw [List.take_succ_eq_append_getElem h, capS_snoc]

theorem capS_iff : ∀ G : List (List (Int × Int)), 500 < capS G ↔ 500 < corners G
  | [] => Iff.rfl
  | L :: G => by
    have ih := capS_iff G
    have h1 : ∀ K : List (List (Int × Int)), capS K ≤ corners K ∧ (capS K = corners K ∨ 1000 ≤ capS K) := fun K => by
      induction K with
      | nil => exact ⟨Nat.le_refl _, .inl rfl⟩
      | cons M K ih =>
        show min M.length 1000 + capS K ≤ M.length + corners K ∧ (min M.length 1000 + capS K = M.length + corners K ∨ 1000 ≤ min M.length 1000 + capS K)
        omega
    have h2 := h1 (L :: G)
    omega

set_option maxHeartbeats 8000000 in
set_option maxRecDepth 20000 in
theorem r_pcheck (s : Value) (G : List (List (Int × Int))) (hn : G.length ≤ 1000000) (hl : ∀ L ∈ G, L.length ≤ 1000000) (w : World) (hG : RingsL w s G) :
    Calls Try.prog 17 #[s] w fun e w' => (∃ t, e = .returned (.int .i64 t) ∧ ChkT G t) ∧ Below w.heap.size w w' := by
  obtain ⟨p, cap, hs, -, hc⟩ := hG
  obtain ⟨m, em⟩ : ∃ m, G.length = m := ⟨_, rfl⟩
  have EM := hidd em
  rw [em] at hs hn
  subst hs
  have HC := hidd hc
  have HL := hidd hl
  clear em hc hl
  go_enter Try.func17, Try.ntmps17
  go_wp2_with fail
  go_loopw [3, 4] (fun v3 v4 wr => ∃ i c : Nat, i ≤ m ∧ i ≤ 30 ∧ c ≤ 1000 * i ∧ v4 = .int .i64 (i : Int) ∧ v3 = .int .i64 (c : Int) ∧ Hid (c = capS (G.take i)) ∧ Below w.heap.size w wr) (fun _ v4 _ => 30 - (intOf v4).toNat)
  case atStart => exact ⟨0, 0, by omega, by omega, by omega, rfl, rfl, hidd rfl, Below.refl _ _⟩
  case round =>
    obtain ⟨i, c, hi, hi30, hc1, rfl, rfl, hS, hB⟩ := hrel
    by_cases hgo : i < m ∧ i < 30
    · obtain ⟨h1, h2⟩ := hgo
      have h1' : (i : Int) < (m : Int) := by omega
      have h2' : (i : Int) < 30 := by omega
      have hiG : i < G.length := by rw [EM.out]; exact h1
      obtain ⟨g, o, s, rfl, x1, hR⟩ := HC.out i hiG
      replace x1 := keepCell hB x1
      obtain ⟨p', c', rfl, -, -⟩ := hR
      have hll := HL.out _ (List.getElem_mem hiG)
      have NX := hidd (capS_next hiG)
      obtain ⟨l, el⟩ : ∃ l, G[i].length = l := ⟨_, rfl⟩
      rw [el] at x1 NX hll
      obtain ⟨b, eb⟩ : ∃ b : Nat, min l 1000 = b := ⟨_, rfl⟩
      have eb2 : min (l : Int) 1000 = (b : Int) := by omega
      have hb2 : b ≤ 1000 := by omega
      have hS2 : Hid (c + b = capS (G.take (i + 1))) := hidd (by rw [NX.out, ← hS.out, eb])
      clear el NX hS eb
      go_wp2_with fail
      go_roundw
      case rel => exact ⟨i + 1, c + b, by omega, by omega, by omega, by go_num, by go_num, hS2, hB⟩
      case measure => simp [intOf]; omega
    · have hend : i = m ∨ (i = 30 ∧ 30 < m) := by omega
      by_cases h20 : 20 < m
      · have h20' : (20 : Int) < (m : Int) := by omega
        have hT : Hid (ChkT G 7) := hidd (.inl ⟨.inl (by rw [EM.out]; exact h20), rfl⟩)
        clear hS
        rcases hend with rfl | ⟨rfl, h30⟩
        · have h1' : decide ((i : Int) < (i : Int)) = false := by simp
          go_wp2_with fail
          go_ret
          exact ⟨⟨7, rfl, hT.out⟩, hB⟩
        · have h1' : (30 : Int) < (m : Int) := by omega
          have h2' : decide (((30 : Nat) : Int) < 30) = false := by decide
          go_wp2_with fail
          go_ret
          exact ⟨⟨7, rfl, hT.out⟩, hB⟩
      · obtain rfl : i = m := by omega
        have h1' : decide ((i : Int) < (i : Int)) = false := by simp
        have h20' : decide ((20 : Int) < (i : Int)) = false := df (by omega)
        have e : G.take i = G := List.take_of_length_le (by rw [EM.out]; omega)
        rw [e] at hS
        clear hend hgo e
        by_cases h5 : 500 < c
        · have h5' : (500 : Int) < (c : Int) := by omega
          have hT : Hid (ChkT G 7) := hidd (.inl ⟨.inr ((capS_iff G).1 (by rw [← hS.out]; exact h5)), rfl⟩)
          go_wp2_with fail
          go_ret
          exact ⟨⟨7, rfl, hT.out⟩, hB⟩
        have h5' : decide ((500 : Int) < (c : Int)) = false := df (by omega)
        have NB : Hid (¬ (20 < G.length ∨ 500 < corners G)) := hidd (by
          rw [← capS_iff, EM.out, ← hS.out]; omega)
        clear hS
        by_cases h0 : i = 0
        · have hT : Hid (ChkT G 1) := hidd (.inr (.inl ⟨NB.out, .inl (List.length_eq_zero_iff.1 (by rw [EM.out]; exact h0)), rfl⟩))
          subst h0
          go_wp2_with fail
          go_ret
          exact ⟨⟨1, rfl, hT.out⟩, hB⟩
        have h0' : ((i : Int) == 0) = false := by simp; omega
        have NE : Hid (G ≠ []) := hidd fun h => h0 (by rw [← EM.out, h]; rfl)
        go_wp2_with fail
        go_loopw [5] (fun v5 wr => ∃ k : Nat, k ≤ i ∧ v5 = .int .i64 (k : Int) ∧ Hid (∀ (j : Nat) (hj : j < G.length), j < k → 3 ≤ G[j].length) ∧ Below w.heap.size w wr) (fun v5 _ => i - (intOf v5).toNat)
        case atStart => exact ⟨0, by omega, rfl, hidd fun j _ h => absurd h (Nat.not_lt_zero _), hB⟩
        case round =>
          clear hB
          obtain ⟨k, hk, rfl, hI, hB⟩ := hrel
          by_cases hki : k < i
          · have hki' : (k : Int) < (i : Int) := by omega
            have hkG : k < G.length := by rw [EM.out]; exact hki
            obtain ⟨g, o, s, rfl, x1, hR⟩ := HC.out k hkG
            replace x1 := keepCell hB x1
            obtain ⟨p', c', rfl, -, -⟩ := hR
            by_cases h3 : G[k].length < 3
            · have hT : Hid (ChkT G 1) := hidd (.inr (.inl ⟨NB.out, .inr ⟨_, List.getElem_mem hkG, h3⟩, rfl⟩))
              have h3' : (G[k].length : Int) < 3 := by omega
              clear hI
              go_wp2_with fail
              go_ret
              exact ⟨⟨1, rfl, hT.out⟩, hB⟩
            · have h3' : decide ((G[k].length : Int) < 3) = false := df (by omega)
              have hI2 : Hid (∀ (j : Nat) (hj : j < G.length), j < k + 1 → 3 ≤ G[j].length) := hidd fun j hj h => by
                rcases Nat.lt_or_ge j k with q | q
                · exact hI.out j hj q
                · obtain rfl : j = k := by omega
                  omega
              clear hI
              generalize G[k].length = l at *
              go_wp2_with fail
              go_roundw
              case rel => exact ⟨k + 1, by omega, by go_num, hI2, hB⟩
              case measure => simp [intOf]; omega
          · obtain rfl : k = i := by omega
            have hki' : decide ((k : Int) < (k : Int)) = false := by simp
            have L3 : Hid (∀ L ∈ G, 3 ≤ L.length) := hidd fun L hL => by
              obtain ⟨j, hj, rfl⟩ := List.mem_iff_getElem.1 hL
              exact hI.out j hj (by rw [← EM.out]; exact hj)
            clear hI hki
            go_wp2_with fail
            go_loopw [6] (fun v6 wr => ∃ q : Nat, q ≤ k ∧ v6 = .int .i64 (q : Int) ∧ Hid (∀ (j : Nat) (hj : j < G.length), j < q → ∀ x ∈ G[j], InWo x) ∧ Below w.heap.size w wr) (fun v6 _ => k - (intOf v6).toNat)
            case atStart => exact ⟨0, by omega, rfl, hidd fun j _ h => absurd h (Nat.not_lt_zero _), hB⟩
            case round =>
              clear hB
              obtain ⟨q, hq, rfl, hI, hB⟩ := hrel
              by_cases hqk : q < k
              · have hqk' : (q : Int) < (k : Int) := by omega
                have hqG : q < G.length := by rw [EM.out]; exact hqk
                obtain ⟨g, o, s, rfl, x1, hR⟩ := HC.out q hqG
                have X1 := hidd x1
                obtain ⟨p', c', rfl, -, hcc⟩ := hR
                have HCC := hidd hcc
                have hmem := hidd (List.getElem_mem hqG)
                have hll := HL.out _ hmem.out
                obtain ⟨R, eR⟩ : ∃ R, G[q] = R := ⟨_, rfl⟩
                have ER := hidd eR
                rw [eR] at X1 HCC hmem hll
                clear x1 hcc eR
                obtain ⟨l, el⟩ : ∃ l, R.length = l := ⟨_, rfl⟩
                have EL := hidd el
                rw [el] at X1 hll
                clear el
                go_wp2_with fail
                go_loopw [7] (fun v7 wr => ∃ t : Nat, t ≤ l ∧ v7 = .int .i64 (t : Int) ∧ Hid (∀ (j : Nat) (hj : j < R.length), j < t → InWo R[j]) ∧ Below w.heap.size w wr) (fun v7 _ => l - (intOf v7).toNat)
                case atStart => exact ⟨0, by omega, rfl, hidd fun j _ h => absurd h (Nat.not_lt_zero _), hB⟩
                case round =>
                  clear hB
                  obtain ⟨t, ht, rfl, hJ, hB⟩ := hrel
                  have x1 := keepCell hB X1.out
                  by_cases htl : t < l
                  · have htl' : (t : Int) < (l : Int) := by omega
                    have htR : t < R.length := by rw [EL.out]; exact htl
                    obtain ⟨g', o', rfl, y0, y1⟩ := HCC.out t htR
                    replace y0 := keepCell hB y0
                    replace y1 := keepCell hB y1
                    have WO := hidd fun w => rworld_any R[t].1 R[t].2 w
                    cases hv : inWB R[t].1 R[t].2 with
                    | true =>
                      have hI2 : Hid (∀ (j : Nat) (hj : j < R.length), j < t + 1 → InWo R[j]) := hidd fun j hj h => by
                        rcases Nat.lt_or_ge j t with c | c
                        · exact hJ.out j hj c
                        · obtain rfl : j = t := by omega
                          exact inWB_yes hv
                      rw [hv] at WO
                      clear hJ hv
                      generalize R[t].1 = a at *
                      generalize R[t].2 = b at *
                      go_wp2_with fail
                      go_quiet ((go_at_call 30; exact Calls.quiet_of_same (WO.out _)))
                      go_wp2_with fail
                      go_roundw
                      case rel => exact ⟨t + 1, by omega, by go_num, hI2, by first | exact hB | exact belowN hB _⟩
                      case measure => simp [intOf]; omega
                    | false =>
                      have hT : Hid (ChkT G 4) := hidd (.inr (.inr (.inl ⟨NB.out, NE.out, L3.out, ⟨R, hmem.out, _, List.getElem_mem htR, fun h => inWB_no hv h⟩, rfl⟩)))
                      rw [hv] at WO
                      clear hJ hv
                      generalize R[t].1 = a at *
                      generalize R[t].2 = b at *
                      go_wp2_with fail
                      go_quiet ((go_at_call 30; exact Calls.quiet_of_same (WO.out _)))
                      go_wp2_with fail
                      go_ret
                      exact ⟨⟨4, rfl, hT.out⟩, by first | exact hB | exact belowN hB _⟩
                  · obtain rfl : t = l := by omega
                    have htl' : decide ((t : Int) < (t : Int)) = false := by simp
                    have hI2 : Hid (∀ (j : Nat) (hj : j < G.length), j < q + 1 → ∀ x ∈ G[j], InWo x) := hidd fun j hj h => by
                      rcases Nat.lt_or_ge j q with c | c
                      · exact hI.out j hj c
                      · obtain rfl : j = q := by omega
                        rw [ER.out]
                        intro x hx
                        obtain ⟨a, ha, rfl⟩ := List.mem_iff_getElem.1 hx
                        exact hJ.out a ha (by rw [← EL.out]; exact ha)
                    clear hI hJ htl
                    go_wp2_with fail
                    go_roundw
                    case rel => exact ⟨q + 1, by omega, by go_num, hI2, hB⟩
                    case measure => simp [intOf]; omega
              · obtain rfl : q = k := by omega
                have hqk' : decide ((q : Int) < (q : Int)) = false := by simp
                have hT : Hid (ChkT G 0) := hidd (.inr (.inr (.inr ⟨NB.out, NE.out, L3.out, fun L hL => by
                  obtain ⟨j, hj, rfl⟩ := List.mem_iff_getElem.1 hL
                  exact hI.out j hj (by rw [← EM.out]; exact hj), rfl⟩)))
                clear hI hqk
                go_wp2_with fail
                go_ret
                exact ⟨⟨0, rfl, hT.out⟩, hB⟩

end Go.Proofs.Ytmfpkphhjfgjbaa
