/-
  The law PolyMoved answers true for every list of numbers and every four numbers, in whatever memory.
-/
import Derived.Test.YtmfpkphhjfgjbaaLawPolyTells
import Derived.Laws.BitsAllLaws
import Derived.Handy
import Derived.Deep.QuietTactic
import Derived.Test.YtmfpkphhjfgjbaaProg
import Derived.WalkSpells
import Derived.WalkLawsBesides
import Derived.BigQuiet
import Derived.PlainAid
import Derived.Deep.RegionWith
import Derived.Deep.RegionHeld3
import Derived.WalkSmall
import Derived.Deep.CutRange
import Derived.BigRegion
import Derived.OwnWalk
import Derived.Laws.OwnMore
import Derived.OneCell
import Derived.Laws.CopyOwn
import Derived.Sort.Row
import Derived.ChangeSlices
import Derived.OpenShut
import Derived.Laws.AppendOwn
import Derived.Laws.AppendOwnNone
import Derived.BigFrame
import Derived.Deep.AppendLies
import Derived.Deep.RegionLaw
import Derived.RangeFuncFrom
import Derived.RangeFuncCalls
import Derived.RangeFuncLeaves
import Derived.WalkKit
import Derived.OwnWalkIn
import Derived.TacticsInMore
import Derived.LoopNIn
import Derived.LoopIn
import Derived.RegionIn
import Derived.Stop.RegionWithIn
import Derived.Deep.LoopGhost
import Derived.Laws.StructEq
namespace Go.Proofs.Ytmfpkphhjfgjbaa
open Go.RowKit

theorem onG_sh (x y dx dy : Int) : ∀ G : List (List (Int × Int)), onG (G.map (List.map (sh dx dy))) (x + dx) (y + dy) = onG G x y
  | [] => rfl
  | L :: G => by
    show onN (L.map (sh dx dy)) (x + dx) (y + dy) + onG (G.map (List.map (sh dx dy))) (x + dx) (y + dy) = onN L x y + onG G x y
    rw [onN_sh, onG_sh x y dx dy G]

theorem crG_sh (x y dx dy : Int) : ∀ G : List (List (Int × Int)), crG (G.map (List.map (sh dx dy))) (x + dx) (y + dy) = crG G x y
  | [] => rfl
  | L :: G => by
    show crN (L.map (sh dx dy)) (x + dx) (y + dy) + crG (G.map (List.map (sh dx dy))) (x + dx) (y + dy) = crN L x y + crG G x y
    rw [crN_sh, crG_sh x y dx dy G]

theorem corners_sh (f : Int × Int → Int × Int) : ∀ G : List (List (Int × Int)), corners (G.map (List.map f)) = corners G
  | [] => rfl
  | L :: G => by
    show (L.map f).length + corners (G.map (List.map f)) = L.length + corners G
    rw [List.length_map, corners_sh f G]

theorem okay_sh {G : List (List (Int × Int))} {dx dy : Int} (h : Okay G) (hw : ∀ L ∈ G, ∀ p ∈ L, InWo (sh dx dy p)) : Okay (G.map (List.map (sh dx dy))) := by
  obtain ⟨a, b, c, d, -⟩ := okay_iff.1 h
  refine okay_iff.2 ⟨by rw [List.length_map]; exact a, by rw [corners_sh]; exact b, by simpa using c, fun L hL => ?_, fun L hL p hp => ?_⟩
  · obtain ⟨M, hM, rfl⟩ := List.mem_map.1 hL
    rw [List.length_map]
    exact d M hM
  · obtain ⟨M, hM, rfl⟩ := List.mem_map.1 hL
    obtain ⟨q, hq, rfl⟩ := List.mem_map.1 hp
    exact hw M hM q hq

theorem bx_sh {C : List (Int × Int)} {lo hi : Int × Int} (dx dy : Int) (h : Bx C lo hi) : Bx (C.map (sh dx dy)) (lo.1 + dx, lo.2 + dy) (hi.1 + dx, hi.2 + dy) := by
  obtain ⟨h0, ⟨q1, m1, e1⟩, ⟨q2, m2, e2⟩, ⟨q3, m3, e3⟩, q4, m4, e4⟩ := h
  refine ⟨fun p hp => ?_, ⟨_, List.mem_map.2 ⟨q1, m1, rfl⟩, ?_⟩, ⟨_, List.mem_map.2 ⟨q2, m2, rfl⟩, ?_⟩, ⟨_, List.mem_map.2 ⟨q3, m3, rfl⟩, ?_⟩, _, List.mem_map.2 ⟨q4, m4, rfl⟩, ?_⟩
  · obtain ⟨q, hq, rfl⟩ := List.mem_map.1 hp
    have := h0 q hq
    unfold sh
    dsimp only
    omega
  all_goals
    unfold sh
    dsimp only
    omega

theorem moved_all {G : List (List (Int × Int))} {x y dx dy : Int} (h : Okay G) (h' : Okay (G.map (List.map (sh dx dy)))) (hf : ¬ Far x y) (hf' : ¬ Far (x + dx) (y + dy)) :
    (InT (G.map (List.map (sh dx dy))) (x + dx) (y + dy) ↔ InT G x y) ∧ (OnT (G.map (List.map (sh dx dy))) (x + dx) (y + dy) ↔ OnT G x y) ∧
    (∀ lo hi, BoxT G lo hi → BoxT (G.map (List.map (sh dx dy))) (lo.1 + dx, lo.2 + dy) (hi.1 + dx, hi.2 + dy)) := by
  unfold InT OnT
  rw [onG_sh, crG_sh]
  refine ⟨⟨fun k => ⟨h, hf, k.2.2⟩, fun k => ⟨h', hf', k.2.2⟩⟩, ⟨fun k => ⟨h, hf, k.2.2⟩, fun k => ⟨h', hf', k.2.2⟩⟩, fun lo hi k => ?_⟩
  rcases k with ⟨-, k⟩ | ⟨k, -⟩
  · refine .inl ⟨h', ?_⟩
    rw [← List.map_flatten]
    exact bx_sh dx dy k
  · exact absurd h k

theorem moved_area {L : List (Int × Int)} {dx dy z : Int} (h' : Okay [L.map (sh dx dy)]) (hz : AreaT (L.map (sh dx dy)) z) : z = wrap64 (area L) := by
  rcases hz with ⟨-, k⟩ | ⟨k, -⟩
  · rw [k, area_sh]
  · exact absurd h' k

theorem plain_area {L : List (Int × Int)} {z : Int} (h : Okay [L]) (hz : AreaT L z) : z = wrap64 (area L) := by
  rcases hz with ⟨-, k⟩ | ⟨k, -⟩
  · exact k
  · exact absurd h k

theorem RowsP.last {w : World} {base : Nat} {v s : Value} {G : List (List (Int × Int))} {S : List Value} {g : List (Int × Int)} (h : RowsP w base v (G ++ [g]) (S ++ [s])) : RingL w s g := by
  have hS : S.length = G.length := by have := h.1; simpa using this
  have := h.2.2 S.length (by simp) (by simp [hS])
  have e1 : ∀ (k : Nat) (hk : k < (S ++ [s]).length), k = S.length → (S ++ [s])[k] = s := fun k hk e => by subst e; simp
  have e2 : ∀ (k : Nat) (hk : k < (G ++ [g]).length), k = G.length → (G ++ [g])[k] = g := fun k hk e => by subst e; simp
  rw [e1 _ _ rfl, e2 _ _ hS] at this
  exact ring_own this rfl

set_option maxHeartbeats 16000000 in
set_option maxRecDepth 20000 in
theorem polyMoved_walk (sX : Value) (X : List Int) (x y dx dy : Int) (w : World) (hX : LstK .i64 w sX X) (_ : ∀ x ∈ X, -9223372036854775808 ≤ x ∧ x ≤ 9223372036854775807) (_ : -9223372036854775808 ≤ x) (_ : x ≤ 9223372036854775807) (_ : -9223372036854775808 ≤ y) (_ : y ≤ 9223372036854775807) (_ : -9223372036854775808 ≤ dx) (_ : dx ≤ 9223372036854775807) (_ : -9223372036854775808 ≤ dy) (_ : dy ≤ 9223372036854775807) :
    Calls Try.prog 5 #[sX, .int .i64 x, .int .i64 y, .int .i64 dx, .int .i64 dy] w fun e w' => e = .returned (.bool true) ∧ Below w.heap.size w w' := by
  have AW := hidd fun w => pawake9 w
  have TM := hidd (tame sX X 60 (by omega) (by omega) w hX)
  obtain ⟨pX, cX, rfl, -, -⟩ := hX
  obtain ⟨i0, hi, hp0, hp1, hp2⟩ := info_parts infoP
  obtain ⟨i1, hj, hr0, hr1, hr2⟩ := info_parts infoR
  obtain ⟨U1, u, m1, m2, m3, m4, m5, m6, m7⟩ := mask_mod x 16 (by omega) 65535 65536 62 (by decide) (by decide) (by omega) (by omega)
  obtain ⟨U2, v, k1, k2, k3, k4, k5, k6, k7⟩ := mask_mod y 16 (by omega) 65535 65536 62 (by decide) (by decide) (by omega) (by omega)
  obtain ⟨D, -, d1, d2, d3, -⟩ := mask_mod dx 28 (by omega) 268435455 268435456 62 (by decide) (by decide) (by omega) (by omega)
  obtain ⟨E, -, e1, e2, e3, -⟩ := mask_mod dy 28 (by omega) 268435455 268435456 62 (by decide) (by decide) (by omega) (by omega)
  obtain ⟨P, eP⟩ : ∃ P, 500000 + u - 1 = P := ⟨_, rfl⟩
  obtain ⟨Q, eQ⟩ : ∃ Q, 500000 + v - 1 = Q := ⟨_, rfl⟩
  have P1 : 499999 ≤ P := by omega
  have P2 : P ≤ 500060 := by omega
  have Q1 : 499999 ≤ Q := by omega
  have Q2 : Q ≤ 500060 := by omega
  go_enter Try.func5, Try.ntmps5
  go_wp2_with fail
  refine TM.out.mono ?_
  rintro e w3 ⟨⟨sl, G, S, rfl, hG3, hGood, hRows⟩, b3⟩
  have B4 := hidd b3
  have RG := hidd hRows.rings
  have hRo := hRows.2.1
  obtain ⟨n, hn⟩ : ∃ n, G.length = n := ⟨_, rfl⟩
  rw [hn] at hRo hG3
  have HN := hidd hn
  obtain ⟨pg, cg, rfl, -⟩ := own_slice hRo
  clear b3 TM hRows hRo hn
  by_cases h0 : n = 0 ∨ 60 < X.length
  · have A9 := hidd (AW.out w3)
    have hc : (((n : Int) == 0) = true) ∨ (((n : Int) == 0) = false ∧ (60 : Int) < (X.length : Int)) := by
      by_cases h : n = 0
      · exact .inl (by simp [h])
      · exact .inr ⟨by simp; omega, by omega⟩
    rcases hc with hc | ⟨hc, hd⟩
    all_goals
      go_wp2_with fail
      refine A9.out.mono ?_
      rintro e w4 ⟨rfl, b4⟩
      go_wp2_with fail
      go_ret
      exact ⟨rfl, belowT B4.out b4⟩
  · have hn0 : ((n : Int) == 0) = false := by simp; omega
    have hx60 : decide ((60 : Int) < (X.length : Int)) = false := df (by omega)
    have hne : G ≠ [] := fun h => by
      have := HN.out
      rw [h] at this
      simp at this
      omega
    have OK := hidd (tame_okay (by omega) hne (by rw [HN.out]; exact hG3) hGood)
    have GD := hidd hGood
    have WO := hidd (show ∀ L ∈ G, ∀ p ∈ L, InWo (sh D E p) from fun L hL p hp => by
      have := (hGood L hL).2.2 p hp
      unfold sh InWo
      dsimp only
      omega)
    have OK2 := hidd (okay_sh OK.out WO.out)
    have MV := hidd (moved_all (x := P) (y := Q) OK.out OK2.out (not_far (by omega) (by omega)) (not_far (by omega) (by omega)))
    obtain ⟨pg', cg', eg', -, hcg⟩ := RG.out
    simp only [Value.slice.injEq] at eg'
    obtain ⟨rfl, -, rfl⟩ := eg'
    have HCG := hidd hcg
    clear hcg h0 hGood hne
    go_wp2_with fail
    obtain ⟨wq, rfl⟩ : ∃ z, z = w3 := ⟨_, rfl⟩
    go_loopw [14, 15] (fun v14 v15 wr => ∃ (i : Nat) (Z : List Value), i ≤ n ∧ v15 = .int .i64 (i : Int) ∧ Hid (RowsP wr wq.heap.size v14 ((G.take i).map (List.map (sh D E))) Z) ∧ Hid (Below wq.heap.size wq wr)) (fun _ v15 _ => n - (intOf v15).toNat)
    case atStart => exact ⟨0, [], by omega, rfl, hidd (RowsP.nil' _ _), hidd (Below.refl _ _)⟩
    case round =>
      obtain ⟨i, Z, hin, rfl, hR, hB⟩ := hrel
      by_cases hil : i < n
      · have hil' : (i : Int) < (n : Int) := by omega
        have hiG : i < G.length := by rw [HN.out]; exact hil
        obtain ⟨g, o, s, rfl, z0, hL0⟩ := HCG.out i hiG
        have GL := hidd (GD.out _ (List.getElem_mem hiG))
        have OL1 := hidd (okay_iff.1 OK.out)
        have NXT : Hid ((G.take (i + 1)).map (List.map (sh D E)) = (G.take i).map (List.map (sh D E)) ++ [G[i].map (sh D E)]) := hidd (by rw [map_take _ _ hiG])
        have WL := hidd (WO.out _ (List.getElem_mem hiG))
        obtain ⟨L, eL⟩ : ∃ L, G[i] = L := ⟨_, rfl⟩
        rw [eL] at hL0 GL NXT WL
        have HL := hidd hL0
        obtain ⟨pL, cL, rfl, -, hcL⟩ := hL0
        have HCL := hidd hcL
        obtain ⟨l, el⟩ : ∃ l, L.length = l := ⟨_, rfl⟩
        have EL := hidd el
        rw [el] at z0 HL
        have Z0 := hidd z0
        have l3 : 3 ≤ l := by have := GL.out.1; omega
        have l6 : l ≤ 6 := by have := GL.out.2.1; omega
        clear z0 hcL eL el OL1
        go_wp2_with fail
        obtain ⟨wi, rfl⟩ : ∃ z, z = wr := ⟨_, rfl⟩
        go_loopw [16, 17] (fun v16 v17 wr => ∃ k : Nat, k ≤ l ∧ v17 = .int .i64 (k : Int) ∧ Hid (wr.ownsRow wi.heap.size 27 2 v16 k (flat ((L.take k).map (sh D E)))) ∧ Hid (Below wi.heap.size wi wr)) (fun _ v17 _ => l - (intOf v17).toNat)
        case atStart => exact ⟨0, by omega, rfl, hidd (by simpa [flat] using World.ownsRow_nil _ _ _ _), hidd (Below.refl _ _)⟩
        case round =>
          obtain ⟨k, hkl, rfl, hO, hX2⟩ := hrel
          obtain ⟨p9, c9, rfl, -⟩ := own_slice hO.out
          have hsX := hX2.out.size
          have z0 := keepCell (belowT hB.out hX2.out) Z0.out
          have hgq := World.block_lt_of_cell? _ _ z0
          by_cases hlt : k < l
          · have hlt' : (k : Int) < (l : Int) := by omega
            have hkL : k < L.length := by rw [EL.out]; exact hlt
            obtain ⟨g2, o2, rfl, x0, x1⟩ := HCL.out k hkL
            replace x0 := keepCell (belowT hB.out hX2.out) x0
            replace x1 := keepCell (belowT hB.out hX2.out) x1
            have nr := GL.out.2.2 _ (List.getElem_mem hkL)
            have NX : Hid (flat ((L.take (k + 1)).map (sh D E)) = flat ((L.take k).map (sh D E)) ++ [.int .i64 (L[k].1 + D), .int .i64 (L[k].2 + E)]) := hidd (by
              rw [map_take _ _ hkL]
              exact flat_snoc _ _ _)
            generalize L[k].1 = a at *
            generalize L[k].2 = b at *
            obtain ⟨n1, n2, n3, n4⟩ := nr
            have wa : IntKind.i64.wrap (a + D) = a + D := by rw [IntKind.wrap_i64]; omega
            have wb : IntKind.i64.wrap (b + E) = b + E := by rw [IntKind.wrap_i64]; omega
            have XX := hidd hX2.out
            clear hX2
            go_wp2_with fail
            go_region_law ((refine step_append_lies _ (by rfl) _ _ _ (by rfl) wi.heap.size 27 i0 (.agg #[.int .i64 0, .int .i64 0]) 2 16 Try.underlying26 hi hp0 hp1 hp2 rfl (by decide) _ k (flat ((L.take k).map (sh D E))) (by rfl) (own_keep (belowT (allocB wr _) (drewB _)) hO.out) ⟨wr.heap.size, 0, none⟩ 1 1 [.int .i64 (a + D), .int .i64 (b + E)] (by rfl) rfl (two_lie9 wr (a + D) (b + E) 27) (two_one9 _ _) (by decide) (by unfold maxLen; omega) (by omega) (by simp; omega) (wr.heap.size + 1) (by simp) ?_; intro g6 c6 w6 hown hgrow hat hlt6))
            all_goals
              have B6 := hidd (XX.out.trans (((allocB wr (.cells #[.int .i64 (a + D), .int .i64 (b + E)] 27)).mono hsX)) |>.drew |>.grown hgrow (by simp; omega) (own_block hO.out))
              have O6 : Hid (w6.ownsRow wi.heap.size 27 2 (.slice (some ⟨g6, 0, none⟩) (k + 1) c6) (k + 1) (flat ((L.take (k + 1)).map (sh D E)))) := hidd (by rw [NX.out]; exact hown)
              clear hown hgrow hat hlt6 hO XX x0 x1
              go_wp2_with fail
              go_roundw
              case rel => exact ⟨k + 1, by omega, by go_num, O6, B6⟩
              case measure => simp [intOf]; omega
          · obtain rfl : k = l := by omega
            have hlt' : decide ((k : Int) < (k : Int)) = false := by simp
            have et : L.take k = L := List.take_of_length_le (by rw [EL.out]; omega)
            rw [et] at hO
            have hR2 := hidd (hR.out.keep hX2.out)
            have hR3 := hR2.out.2.1
            rw [List.length_map, List.length_take, show min i G.length = i by omega] at hR3
            have O3 := hidd hR3
            have Bw := hidd (belowT hB.out hX2.out)
            have hsW := Bw.out.size
            have OL : Hid (wr.ownsRow wq.heap.size 27 2 (.slice p9 k c9) (L.map (sh D E)).length (flat (L.map (sh D E)))) := hidd (by rw [List.length_map, EL.out]; exact own_mono hO.out hB.out.size)
            have K1 : Okay [L] := okay_one.2 ⟨by rw [EL.out]; omega, by rw [EL.out]; omega, fun p hp => by
              have := GL.out.2.2 p hp
              unfold InWo
              omega⟩
            have K2 : Okay [L.map (sh D E)] := okay_one.2 ⟨by rw [List.length_map, EL.out]; omega, by rw [List.length_map, EL.out]; omega, fun p hp => by
              obtain ⟨q, hq, rfl⟩ := List.mem_map.1 hp
              exact WL.out q hq⟩
            have KK := hidd (And.intro K1 K2)
            have HL2 := hidd (HL.out.keep Bw.out)
            clear hR hB hO hX2 hR3 K1 K2 et hlt HCL
            go_wp2_with (at_builtin; refine wpList_append_own _ rfl (.tmp 86) (.tmp 88) 23 rfl wq.heap.size 26 i1 (.slice none 0 0) 1 24 Try.underlying23 hj hr0 hr1 hr2 rfl (by decide) _ _ _ rfl (own_keep (allocB _ _) O3.out) ⟨wr.heap.size, 0, none⟩ 1 1 [.slice p9 k c9] rfl rfl (one_lies _ _ rfl _ _) (fun u hu => by simp at hu; subst hu; rfl) (by unfold maxLen; omega) (by omega) (by simp; omega) ?_)
            intro v7 w7 hown hgrow _
            have al := allocB wr (.cells #[.slice p9 k c9] 26)
            have R7 : Hid (RowsP w7 wq.heap.size v7 ((G.take (i + 1)).map (List.map (sh D E))) (Z ++ [.slice p9 k c9])) := hidd (by
              rw [NXT.out]
              exact (hR2.out.keep al).push (own_keep al OL.out) (by rw [List.length_map, List.length_take, show min i G.length = i by omega]; exact hown) hgrow)
            have B7 := hidd ((Bw.out.alloc hsW (.cells #[.slice p9 k c9] 26)).grown hgrow (by simp; omega) (own_block O3.out))
            have M1 := hidd (show RingL w7 (.slice p9 k c9) (L.map (sh D E)) by
              have h := R7.out
              rw [NXT.out] at h
              exact h.last)
            have M2 := hidd (HL.out.keep B7.out)
            clear z0
            have y0 := keepCell B7.out Z0.out
            obtain ⟨T, eT⟩ : ∃ T, wrap64 (area L) = T := ⟨_, rfl⟩
            have CA1 : Hid (∀ w', Below w7.heap.size w7 w' → Calls Try.prog 14 #[.slice p9 k c9] w' fun e w'' => e = .returned (.int .i64 T) ∧ Below w'.heap.size w' w'') := hidd fun w' h =>
              (p_area2 (.slice p9 k c9) (L.map (sh D E)) (by rw [List.length_map, EL.out]; omega) w' (M1.out.keep h)).mono fun e w'' ⟨⟨z, he, hz⟩, hb⟩ => ⟨by rw [he, moved_area KK.out.2 hz, eT], hb⟩
            have CA2 : Hid (∀ w', Below w7.heap.size w7 w' → Calls Try.prog 14 #[.slice pL k cL] w' fun e w'' => e = .returned (.int .i64 T) ∧ Below w'.heap.size w' w'') := hidd fun w' h =>
              (p_area2 (.slice pL k cL) L (by rw [EL.out]; omega) w' (M2.out.keep h)).mono fun e w'' ⟨⟨z, he, hz⟩, hb⟩ => ⟨by rw [he, plain_area KK.out.1 hz, eT], hb⟩
            have tt : (T != T) = false := by simp
            have hS0 : w7.drew.cell? ⟨g, o + i, none⟩ = some (.slice pL k cL) ∧ Below w7.heap.size w7 w7.drew := ⟨keepCell (Below.refl _ _).drew y0, (Below.refl _ _).drew⟩
            clear hown hgrow al hR2 O3 OL Bw M1 M2 KK HL2 eT y0
            go_wp2_with fail
            go_region_held3 (fun w' => w'.cell? ⟨g, o + i, none⟩ = some (.slice pL k cL) ∧ Below w7.heap.size w7 w') (first | exact hS0 | exact ⟨keepCell hb (And.left (by assumption)), belowT (And.right (by assumption)) hb⟩) (first | (go_at_call 14; with_reducible refine (CA1.out _ (And.right (by assumption))).mono ?_; rintro e w' ⟨rfl, hb⟩) | (go_at_call 14; with_reducible refine (CA2.out _ (And.right (by assumption))).mono ?_; rintro e w' ⟨rfl, hb⟩))
            all_goals
              rename_i hS
              have hW3 := hidd (belowT B7.out hS.2)
              have R8 := hidd (R7.out.keep hS.2)
              clear hS hS0 CA1 CA2 R7 B7
              go_wp2_with fail
              go_roundw
              case rel => exact ⟨i + 1, _, by omega, by go_num, R8, hW3⟩
              case measure => simp [intOf]; omega
      · obtain rfl : i = n := by omega
        have hil' : decide ((i : Int) < (i : Int)) = false := by simp
        have et : G.take i = G := List.take_of_length_le (by rw [HN.out]; omega)
        rw [et] at hR
        have R2 := hidd hR.out.rings
        obtain ⟨pM, cM, eM, -, -⟩ := hR.out.rings
        rw [List.length_map, HN.out] at eM
        subst eM
        obtain ⟨G2, eG2⟩ : ∃ G2, G.map (List.map (sh D E)) = G2 := ⟨_, rfl⟩
        have LL : Hid (G2.length ≤ 1000000 ∧ ∀ L ∈ G2, L.length ≤ 1000000) := hidd (by
          rw [← eG2]
          refine ⟨by rw [List.length_map, HN.out]; omega, fun K hK => ?_⟩
          obtain ⟨M, hM, rfl⟩ := List.mem_map.1 hK
          have := (GD.out M hM).2.1
          rw [List.length_map]
          omega)
        rw [eG2] at R2 MV OK2
        obtain ⟨ob, hob⟩ := prop_bool9 (OnT G P Q)
        obtain ⟨nb, hnb⟩ := prop_bool9 (InT G P Q)
        have ln : G.length ≤ 1000000 := by rw [HN.out]; omega
        have ll : ∀ L ∈ G, L.length ≤ 1000000 := fun L hL => by have := (GD.out L hL).2.1; omega
        have CB := hidd fun w h => p_box (.slice pg i cg) G ln ll w h
        have CB2 := hidd fun w h => p_box (.slice pM i cM) G2 LL.out.1 LL.out.2 w h
        have CO := hidd fun w h => p_on (.slice pg i cg) G P Q ob hob ln ll w h
        have CO2 := hidd fun w h => p_on (.slice pM i cM) G2 (P + D) (Q + E) ob (hob.trans MV.out.2.1.symm) LL.out.1 LL.out.2 w h
        have CI := hidd fun w h => p_inside (.slice pg i cg) G P Q nb hnb ln ll w h
        have CI2 := hidd fun w h => p_inside (.slice pM i cM) G2 (P + D) (Q + E) nb (hnb.trans MV.out.1.symm) LL.out.1 LL.out.2 w h
        have BX := hidd MV.out.2.2
        have wP : IntKind.i64.wrap (P + D) = P + D := by rw [IntKind.wrap_i64]; omega
        have wQ : IntKind.i64.wrap (Q + E) = Q + E := by rw [IntKind.wrap_i64]; omega
        have R1 := hidd (RG.out.keep hB.out)
        have B5 := hidd (belowT B4.out hB.out)
        clear hR MV LL hob hnb ln ll hB B4 RG HCG OK2 eG2 et hil WO
        go_wp2_with fail
        refine (CB.out _ R1.out).mono ?_
        rintro e wa ⟨⟨lo, hi, rfl, hbx⟩, ba⟩
        have BA := hidd ba
        have BD : 500000 ≤ lo.1 ∧ lo.1 ≤ 501000 ∧ 500000 ≤ lo.2 ∧ lo.2 ≤ 501000 ∧ 500000 ≤ hi.1 ∧ hi.1 ≤ 501000 ∧ 500000 ≤ hi.2 ∧ hi.2 ≤ 501000 := by
          have near : ∀ p ∈ G.flatten, 500000 ≤ p.1 ∧ p.1 ≤ 501000 ∧ 500000 ≤ p.2 ∧ p.2 ≤ 501000 := fun p hp => by
            obtain ⟨L, hL, hp⟩ := List.mem_flatten.1 hp
            have := (GD.out L hL).2.2 p hp
            omega
          rcases hbx with ⟨-, -, ⟨q1, m1, e1⟩, ⟨q2, m2, e2⟩, ⟨q3, m3, e3⟩, q4, m4, e4⟩ | ⟨h, -⟩
          · have h1 := near q1 m1
            have h2 := near q2 m2
            have h3 := near q3 m3
            have h4 := near q4 m4
            omega
          · exact absurd OK.out h
        have HBX := hidd (BX.out _ _ hbx)
        obtain ⟨lo0, lo1⟩ := lo
        obtain ⟨hi0, hi1⟩ := hi
        dsimp only at BD
        obtain ⟨z1, z2, z3, z4, z5, z6, z7, z8⟩ := BD
        have w1 : IntKind.i64.wrap (lo0 + D) = lo0 + D := by rw [IntKind.wrap_i64]; omega
        have w2 : IntKind.i64.wrap (lo1 + E) = lo1 + E := by rw [IntKind.wrap_i64]; omega
        have w3' : IntKind.i64.wrap (hi0 + D) = hi0 + D := by rw [IntKind.wrap_i64]; omega
        have w4' : IntKind.i64.wrap (hi1 + E) = hi1 + E := by rw [IntKind.wrap_i64]; omega
        clear ba hbx CB BX GD OK
        dsimp only
        go_wp2_with fail
        have BA2 := hidd (belowT (allocB wa (.cells #[.int .i64 lo0, .int .i64 lo1] 27)) (allocB _ (.cells #[.int .i64 hi0, .int .i64 hi1] 27)))
        refine (CB2.out _ (R2.out.keep (belowT BA.out BA2.out))).mono ?_
        rintro e wb ⟨⟨lo', hi', rfl, hbx⟩, bb⟩
        obtain ⟨rfl, rfl⟩ := HBX.out.one hbx
        dsimp only
        have y0 := keepCell bb (show ((wa.alloc (.cells #[.int .i64 lo0, .int .i64 lo1] 27)).alloc (.cells #[.int .i64 hi0, .int .i64 hi1] 27)).cell? ⟨wa.heap.size, 0, none⟩ = some (.int .i64 lo0) by go_simp)
        have y1 := keepCell bb (show ((wa.alloc (.cells #[.int .i64 lo0, .int .i64 lo1] 27)).alloc (.cells #[.int .i64 hi0, .int .i64 hi1] 27)).cell? ⟨wa.heap.size, 1, none⟩ = some (.int .i64 lo1) by go_simp)
        have y2 := keepCell bb (show ((wa.alloc (.cells #[.int .i64 lo0, .int .i64 lo1] 27)).alloc (.cells #[.int .i64 hi0, .int .i64 hi1] 27)).cell? ⟨wa.heap.size + 1, 0, none⟩ = some (.int .i64 hi0) by go_simp)
        have y3 := keepCell bb (show ((wa.alloc (.cells #[.int .i64 lo0, .int .i64 lo1] 27)).alloc (.cells #[.int .i64 hi0, .int .i64 hi1] 27)).cell? ⟨wa.heap.size + 1, 1, none⟩ = some (.int .i64 hi1) by go_simp)
        have BBl := hidd (belowT (belowT BA.out BA2.out) bb)
        clear bb hbx HBX BA2 BA CB2
        obtain ⟨A0, eA0⟩ : ∃ z, wa.heap.size = z := ⟨_, rfl⟩
        obtain ⟨A1, eA1⟩ : ∃ z, wa.heap.size + 1 = z := ⟨_, rfl⟩
        rw [eA0] at y0 y1
        rw [eA1] at y2 y3
        rw [eA0] at eA1
        rw [eA0, eA1]
        clear eA0 eA1
        go_wp2_with fail
        have q0 := keepCell (belowT (allocB wb (.cells #[.int .i64 (lo0 + D), .int .i64 (lo1 + E)] 27)) (allocB _ (.cells #[.int .i64 (hi0 + D), .int .i64 (hi1 + E)] 27))) y0
        have q1 := keepCell (belowT (allocB wb (.cells #[.int .i64 (lo0 + D), .int .i64 (lo1 + E)] 27)) (allocB _ (.cells #[.int .i64 (hi0 + D), .int .i64 (hi1 + E)] 27))) y1
        have q2 := keepCell (belowT (allocB wb (.cells #[.int .i64 (lo0 + D), .int .i64 (lo1 + E)] 27)) (allocB _ (.cells #[.int .i64 (hi0 + D), .int .i64 (hi1 + E)] 27))) y2
        have q3 := keepCell (belowT (allocB wb (.cells #[.int .i64 (lo0 + D), .int .i64 (lo1 + E)] 27)) (allocB _ (.cells #[.int .i64 (hi0 + D), .int .i64 (hi1 + E)] 27))) y3
        have q4 : ((wb.alloc (.cells #[.int .i64 (lo0 + D), .int .i64 (lo1 + E)] 27)).alloc (.cells #[.int .i64 (hi0 + D), .int .i64 (hi1 + E)] 27)).cell? ⟨wb.heap.size, 0, none⟩ = some (.int .i64 (lo0 + D)) := by go_simp
        have q5 : ((wb.alloc (.cells #[.int .i64 (lo0 + D), .int .i64 (lo1 + E)] 27)).alloc (.cells #[.int .i64 (hi0 + D), .int .i64 (hi1 + E)] 27)).cell? ⟨wb.heap.size, 1, none⟩ = some (.int .i64 (lo1 + E)) := by go_simp
        have q6 : ((wb.alloc (.cells #[.int .i64 (lo0 + D), .int .i64 (lo1 + E)] 27)).alloc (.cells #[.int .i64 (hi0 + D), .int .i64 (hi1 + E)] 27)).cell? ⟨wb.heap.size + 1, 0, none⟩ = some (.int .i64 (hi0 + D)) := by go_simp
        have q7 : ((wb.alloc (.cells #[.int .i64 (lo0 + D), .int .i64 (lo1 + E)] 27)).alloc (.cells #[.int .i64 (hi0 + D), .int .i64 (hi1 + E)] 27)).cell? ⟨wb.heap.size + 1, 1, none⟩ = some (.int .i64 (hi1 + E)) := by go_simp
        have BC := hidd (belowT BBl.out (belowT (allocB wb (.cells #[.int .i64 (lo0 + D), .int .i64 (lo1 + E)] 27)) (allocB _ (.cells #[.int .i64 (hi0 + D), .int .i64 (hi1 + E)] 27))))
        generalize (wb.alloc (.cells #[.int .i64 (lo0 + D), .int .i64 (lo1 + E)] 27)).alloc (.cells #[.int .i64 (hi0 + D), .int .i64 (hi1 + E)] 27) = wc at *
        obtain ⟨A2, eA2⟩ : ∃ z, wb.heap.size = z := ⟨_, rfl⟩
        obtain ⟨A3, eA3⟩ : ∃ z, wb.heap.size + 1 = z := ⟨_, rfl⟩
        rw [eA2] at q4 q5
        rw [eA3] at q6 q7
        rw [eA2] at eA3
        rw [eA2, eA3]
        clear eA2 eA3 y0 y1 y2 y3 BBl
        have QQ : Hid (∀ w', Below wc.heap.size wc w' → w'.cell? ⟨A0, 0, none⟩ = some (.int .i64 lo0) ∧ w'.cell? ⟨A0, 1, none⟩ = some (.int .i64 lo1) ∧ w'.cell? ⟨A1, 0, none⟩ = some (.int .i64 hi0) ∧ w'.cell? ⟨A1, 1, none⟩ = some (.int .i64 hi1) ∧ w'.cell? ⟨A2, 0, none⟩ = some (.int .i64 (lo0 + D)) ∧ w'.cell? ⟨A2, 1, none⟩ = some (.int .i64 (lo1 + E)) ∧ w'.cell? ⟨A3, 0, none⟩ = some (.int .i64 (hi0 + D)) ∧ w'.cell? ⟨A3, 1, none⟩ = some (.int .i64 (hi1 + E))) := hidd fun w' h => ⟨keepCell h q0, keepCell h q1, keepCell h q2, keepCell h q3, keepCell h q4, keepCell h q5, keepCell h q6, keepCell h q7⟩
        clear q0 q1 q2 q3 q4 q5 q6 q7
        refine (CI2.out _ (R2.out.keep BC.out)).mono ?_
        rintro e x1 ⟨rfl, b⟩
        have Y1 := hidd b
        clear b CI2
        go_wp2_with fail
        refine (CI.out _ (R1.out.keep (belowT BC.out Y1.out))).mono ?_
        rintro e x2 ⟨rfl, b⟩
        have Y2 := hidd (belowT Y1.out b)
        clear b CI Y1
        go_wp2_with fail
        refine (CO2.out _ (R2.out.keep (belowT BC.out Y2.out))).mono ?_
        rintro e x3 ⟨rfl, b⟩
        have Y3 := hidd (belowT Y2.out b)
        clear b CO2 Y2
        go_wp2_with fail
        refine (CO.out _ (R1.out.keep (belowT BC.out Y3.out))).mono ?_
        rintro e x4 ⟨rfl, b⟩
        have Y4 := hidd (belowT Y3.out b)
        clear b CO Y3
        obtain ⟨q0, q1, q2, q3, q4, q5, q6, q7⟩ := QQ.out x4 Y4.out
        have HE := eq_same9
        have A9 := hidd (AW.out x4)
        have B6 := hidd (belowT B5.out (belowT BC.out Y4.out))
        clear BC QQ Y4 AW B5 R1 R2
        go_wp2_with fail
        refine A9.out.mono ?_
        rintro e w9 ⟨rfl, b9⟩
        go_wp2_with fail
        go_ret
        exact ⟨rfl, belowT B6.out b9⟩

end Go.Proofs.Ytmfpkphhjfgjbaa
