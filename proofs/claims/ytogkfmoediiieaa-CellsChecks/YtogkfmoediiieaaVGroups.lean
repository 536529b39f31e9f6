/-
  What Groups of package cells tells of a list of words: those that are words, by their parents; in whatever memory.
-/
import Derived.Test.YtogkfmoediiieaaUApart
import Derived.Test.YtogkfmoediiieaaVRows
import Derived.Test.YtogkfmoediiieaaW1C
import Derived.Test.YtogkfmoediiieaaUEasyC
import Derived.Laws.BitsAllLaws
import Derived.Handy
import Derived.Deep.QuietTactic
import Derived.Test.YtogkfmoediiieaaProg
import Derived.WalkSpells
import Derived.WalkLawsBesides
import Derived.BigQuiet
import Derived.PlainAid
import Derived.Deep.RegionWith
import Derived.Deep.RegionHeld3
import Derived.WalkSmall
import Derived.Deep.CutRange
import Derived.BigRegion
import Derived.OwnWalk
import Derived.Laws.OwnMore
import Derived.OneCell
import Derived.Laws.CopyOwn
import Derived.Sort.Row
import Derived.Laws.AppendOwn
import Derived.Laws.AppendOwnNone
import Derived.BigFrame
import Derived.RangeFuncFrom
import Derived.RangeFuncCalls
import Derived.RangeFuncLeaves
import Derived.WalkKit
import Derived.OwnWalkIn
import Derived.TacticsInMore
import Derived.LoopNIn
import Derived.LoopIn
import Derived.RegionIn
import Derived.Stop.RegionWithIn
import Derived.Deep.Cut
import Derived.Sort.LotD3
import Derived.Deep.LoopGhost
import Derived.Sort.WalkA6
import Derived.Sort.Walk13a
import Derived.Sort.LotA
import Derived.Sort.LotB
import Derived.Sort.LotD1
import Derived.Deep.Draws
import Derived.BigGuard
import Derived.BigCall
import Derived.CellFam
import Derived.Sort.WalkB3
import Derived.Sort.WalkB12
import Derived.Deep.OwnRows
import Derived.Deep.RegionLaw
namespace Go.Proofs.Ytogkfmoediiieaa
open Go.RowKit

theorem up_pos {v : Int} (hv : Whole v) (hr : 0 < wR v) : 0 < upW v := by
  have h1 := whole_box hv
  have h12 := hv.2.1
  have hp := pow8_box (r := (wR v).toNat) (by omega) (by omega)
  have hd := dg_box v (wR v).toNat
  unfold upW setD
  have hm := mul_in (a := dg v (wR v).toNat) (b := 8 ^ (12 - (wR v).toNat)) (A := 7) (B := 8589934592) (by omega) (by omega)
  omega

set_option maxHeartbeats 16000000 in
set_option maxRecDepth 20000 in
theorem cgroups (s : Value) (X : List Int) (hn : X.length ≤ 10000) (uX : ∀ x ∈ X, U64 x) (w : World) (hl : Lst w s X) :
    Calls Try.prog 14 #[s] w fun e w' => (∃ (K : List Int) (v : Value), Rising K ∧ (∀ x, x ∈ K ↔ x ∈ X) ∧ e = .returned v ∧ Lst2 w' v (gFold K).1) ∧ Below w.heap.size w w' := by
  have SE := hidd (eset s X (by omega) uX w hl)
  obtain ⟨ps, cps, rfl⟩ := lst_len hl
  clear hl uX
  obtain ⟨i0, hi, hz0, hz1, hz2⟩ := info_parts infoU64
  obtain ⟨i1, hj, hy0, hy1, hy2⟩ := info_parts infoSl
  go_enter Try.func14, Try.ntmps14
  go_wp2_with fail
  refine SE.out.mono ?_
  rintro e w1 ⟨⟨K, vK, rfl, lK, rK, mK, nK, uK⟩, b1⟩
  have LK := hidd lK
  have RK := hidd rK
  have MK := hidd mK
  have UK := hidd uK
  have B0 := hidd b1
  obtain ⟨pK, cK, rfl⟩ := lst_len lK
  clear lK rK mK uK b1 SE
  go_wp2_with fail
  go_loopw [3, 4, 13] (fun v3 v4 v13 wr => ∃ (i : Nat) (G : List (List Int)) (S : List Value) (l : Int), i ≤ K.length ∧ v13 = .int .i64 (i : Int) ∧ v4 = .int .u64 l ∧ Hid (Rows2 wr w1.heap.size v3 G S) ∧ Hid (gFold (K.take i) = (G, l)) ∧ Hid (l = 0 ∨ G ≠ []) ∧ Hid (∀ k ∈ G, k.length ≤ i) ∧ G.length ≤ i ∧ Below w1.heap.size w1 wr) (fun _ _ v13 _ => K.length - (intOf v13).toNat)
  case atStart => exact ⟨0, [], [], 0, by omega, rfl, rfl, Rows2.nil' _ _, hidd (by simp [gFold]), .inl rfl, hidd (fun k hk => by simp at hk), Nat.le_refl _, Below.refl _ _⟩
  case round =>
    obtain ⟨i, G, S, l, hi2, rfl, rfl, hR, hF, hE, hgl, hGi, hB⟩ := hrel
    by_cases hlt : i < K.length
    · obtain ⟨pK', cK', e', -, hcK⟩ := LK.out
      simp only [Value.slice.injEq] at e'
      obtain ⟨rfl, -, -⟩ := e'
      obtain ⟨gK, oK, rfl, cX⟩ := hcK i hlt
      replace cX := keepCell hB cX
      have hxu := UK.out _ (List.getElem_mem hlt)
      have hnx := gFold_next hlt
      rw [hF.out] at hnx
      obtain ⟨pv, cv, rfl, -⟩ := own_slice hR.out.2.1
      clear hcK hF
      generalize K[i]'_ = x at *
      by_cases hW : Whole x
      · by_cases h0 : wR x = 0
        · have PA := hidd fun w => iparent_top x hW h0 w
          have hF2 : Hid (gFold (K.take (i + 1)) = (G ++ [[x]], 0)) := hidd (by rw [hnx, gStep_top hW h0])
          clear hnx hW h0
          go_wp2_with fail
          refine (PA.out _).mono ?_
          rintro e w2 ⟨rfl, b2⟩
          have B2 := belowT hB b2
          have hR2 := hidd (hR.out.keep b2)
          clear hB b2 hR PA
          go_wp2_with (at_builtin; refine wpList_append_apart rfl (.tmp 31) (.tmp 32) 38 rfl w1.heap.size 23 i1 (.slice none 0 0) 1 24 Try.underlying38 hj hy0 hy1 hy2 rfl (by decide) _ _ _ rfl (own_keep (allocB _ _) hR2.out.2.1) ⟨w2.heap.size, 0, none⟩ 1 1 (by decide) [.slice none 0 0] rfl rfl (one_lies _ _ rfl _ _) (fun u hu => by simp at hu; subst hu; rfl) (by unfold maxLen; omega) (by omega) (by have := B2.size; simp; omega) ?_)
          intro v4 w4 hown hgrow _
          have B4 : Below w1.heap.size w1 w4 := (B2.alloc B2.size (.cells #[.slice none 0 0] 23)).grown hgrow (by have := B2.size; simp; omega) (own_block hR2.out.2.1)
          have R4 := hidd (Rows2.push (hR2.out.keep (allocB w2 (.cells #[.slice none 0 0] 23))) (World.ownsRow_nil _ _ _ _ : _) (g := []) (fun s _ => .inr (.inl rfl)) hown hgrow)
          clear hown hgrow hR2 B2
          obtain ⟨q, cq, hvq⟩ := own_shape R4.out.2.1 (by simp)
          have eGl : (G ++ [([] : List Int)]).length = G.length + 1 := by simp
          rw [eGl] at hvq
          have hSl : S.length = G.length := by have := R4.out.1; simp at this; omega
          have cs : w4.cell? ⟨q, G.length, none⟩ = some (Value.slice none 0 0) := by
            have h2 := R4.out.2.1
            rw [eGl] at h2
            rw [hvq] at h2
            rw [h2.cellAt G.length (by omega), ← hSl]
            simp
          have fs : w4.frozen? ⟨q, G.length, none⟩ = false := by
            have h2 := R4.out.2.1
            rw [eGl] at h2
            rw [hvq] at h2
            exact h2.frozenAt G.length
          have osl : Hid (w4.ownsRow w1.heap.size 24 1 (Value.slice none 0 0) 0 (vals ([] : List Int))) := hidd (by
            have h3 := R4.out.2.2.1 S.length (by simp) (by simp [hSl])
            simpa [hSl] using h3)
          have ew : IntKind.i64.wrap (((G.length + 1 : Nat) : Int) - 1) = (G.length : Int) := by rw [IntKind.wrap_i64]; omega
          have ew2 : ((G.length : Int) + 1 - 1) = (G.length : Int) := by omega
          first | subst hvq | (simp only [Value.slice.injEq] at hvq; obtain ⟨rfl, -, rfl⟩ := hvq)
          obtain ⟨psl, csl, hsl, -⟩ := own_slice osl.out
          rw [hsl] at cs osl
          have RR := hidd R4.out
          rw [hsl] at RR
          clear hsl
          go_wp2_with (at_builtin; refine wpList_append_apart rfl (.tmp 42) (.tmp 44) 23 rfl w1.heap.size 24 i0 (.int .u64 0) 1 8 Try.underlying23 hi hz0 hz1 hz2 rfl (by decide) _ _ _ rfl (own_keep (allocB _ _) osl.out) ⟨w4.heap.size, 0, none⟩ 1 1 (by decide) [.int .u64 x] rfl rfl (one_lies _ _ rfl _ _) (one_int _ _) (by unfold maxLen; omega) (by omega) (by have := B4.size; simp; omega) ?_)
          intro v6 w6 hown hgrow hblk
          obtain ⟨p6, c6, rfl, -⟩ := own_slice hown
          have B6 : Below w1.heap.size w1 w6 := (B4.alloc B4.size (.cells #[.int .u64 x] 24)).grown hgrow (by have := B4.size; simp; omega) (own_block osl.out)
          have R6 := hidd (Rows2.add (RR.out.keep (allocB w4 (.cells #[.int .u64 x] 24))) hown hgrow (hblk.imp_right fun h => h.trans (by simp)))
          have cs6 : w6.cell? ⟨q, G.length, none⟩ = some (.slice psl 0 csl) ∧ w6.frozen? ⟨q, G.length, none⟩ = false := by
            have ho := (own_keep (allocB w4 (.cells #[.int .u64 x] 24)) RR.out.2.1).kept hgrow (own_unlike (own_keep (allocB w4 (.cells #[.int .u64 x] 24)) osl.out) (own_keep (allocB w4 (.cells #[.int .u64 x] 24)) RR.out.2.1) types_unlike).symm.kept
            rw [eGl] at ho
            refine ⟨?_, ho.frozenAt G.length⟩
            rw [ho.cellAt G.length (by omega), ← hSl]
            simp
          obtain ⟨cs7, fs7⟩ := cs6
          have hqb : w1.heap.size ≤ q := own_block RR.out.2.1 q rfl
          have B7 := B6.setCell (p := ⟨q, G.length, none⟩) hqb (.slice p6 (0 + 1) c6)
          clear hown hgrow hblk osl cs fs RR R4 B4
          go_wp2_with fail
          go_roundw
          case rel => exact ⟨i + 1, G ++ [[x]], S ++ [Value.slice p6 (0 + 1) c6], 0, by omega, by go_num, rfl, R6, hF2, hidd (.inr (by simp)), hidd (fun k hk => (List.mem_append.1 hk).elim (fun h => by have := hgl.out k (by simp [h]); omega) (fun h => by rw [List.mem_singleton] at h; subst h; have := (Nat.zero_le i); simp; try omega)), by simp; omega, B7⟩
          case measure => simp [intOf]; omega
        · have hpos : 0 < wR x := by have := wR_box x; omega
          have PA := hidd fun w => iparent_yes x hW hpos w
          by_cases hlast : upW x = l
          · obtain ⟨G', g, rfl⟩ : ∃ G' g, G = G' ++ [g] := by
              have hne : G ≠ [] := by
                rcases hE.out with h | h
                · exfalso
                  have := up_pos hW hpos
                  omega
                · exact h
              exact ⟨G.dropLast, G.getLast hne, (List.dropLast_concat_getLast hne).symm⟩
            obtain ⟨S', sl, rfl⟩ : ∃ S' sl, S = S' ++ [sl] := by
              have hne : S ≠ [] := by
                have := hR.out.1
                intro h; rw [h] at this; simp at this
              exact ⟨S.dropLast, S.getLast hne, (List.dropLast_concat_getLast hne).symm⟩
            have eGl0 : (G' ++ [g]).length = G'.length + 1 := by simp
            rw [eGl0] at hR ⊢
            have hF2 : Hid (gFold (K.take (i + 1)) = (G' ++ [g ++ [x]], upW x)) := hidd (by rw [hnx, ← hlast, gStep_add hW hpos])
            have hgg : g.length ≤ i := hgl.out g (by simp)
            have hbn : (upW x != l) = false := by simp [hlast]
            simp only [List.length_append, List.length_cons, List.length_nil, Nat.zero_add] at hGi
            clear hnx hW hpos h0 hlast
            generalize upW x = u at *
            go_wp2_with fail
            refine (PA.out _).mono ?_
            rintro e w2 ⟨rfl, b2⟩
            have B2 := belowT hB b2
            have hR2 := hidd (hR.out.keep b2)
            clear hB b2 hR PA
            obtain ⟨q, cq, hvq⟩ := own_shape hR2.out.2.1 (by simp)
            have eGl : (G' ++ [g]).length = G'.length + 1 := by simp
            rw [eGl] at hvq
            have hSl : S'.length = G'.length := by have := hR2.out.1; simp at this; omega
            have cs : w2.cell? ⟨q, G'.length, none⟩ = some sl := by
              have h2 := hR2.out.2.1
              rw [eGl] at h2
              rw [hvq] at h2
              rw [h2.cellAt G'.length (by omega), ← hSl]
              simp
            have fs : w2.frozen? ⟨q, G'.length, none⟩ = false := by
              have h2 := hR2.out.2.1
              rw [eGl] at h2
              rw [hvq] at h2
              exact h2.frozenAt G'.length
            have osl : Hid (w2.ownsRow w1.heap.size 24 1 sl g.length (vals g)) := hidd (by
              have h3 := hR2.out.2.2.1 S'.length (by simp) (by simp [hSl])
              simpa [hSl] using h3)
            have ew : IntKind.i64.wrap (((G'.length + 1 : Nat) : Int) - 1) = (G'.length : Int) := by rw [IntKind.wrap_i64]; omega
            have ew2 : ((G'.length : Int) + 1 - 1) = (G'.length : Int) := by omega
            first | subst hvq | (simp only [Value.slice.injEq] at hvq; obtain ⟨rfl, -, rfl⟩ := hvq)
            obtain ⟨psl, csl, hsl, -⟩ := own_slice osl.out
            rw [hsl] at cs osl
            have RR := hidd hR2.out
            rw [hsl] at RR
            clear hsl
            go_wp2_with (at_builtin; refine wpList_append_apart rfl (.tmp 42) (.tmp 44) 23 rfl w1.heap.size 24 i0 (.int .u64 0) 1 8 Try.underlying23 hi hz0 hz1 hz2 rfl (by decide) _ _ _ rfl (own_keep (allocB _ _) osl.out) ⟨w2.heap.size, 0, none⟩ 1 1 (by decide) [.int .u64 x] rfl rfl (one_lies _ _ rfl _ _) (one_int _ _) (by unfold maxLen; omega) (by omega) (by have := B2.size; simp; omega) ?_)
            intro v6 w6 hown hgrow hblk
            obtain ⟨p6, c6, rfl, -⟩ := own_slice hown
            have B6 : Below w1.heap.size w1 w6 := (B2.alloc B2.size (.cells #[.int .u64 x] 24)).grown hgrow (by have := B2.size; simp; omega) (own_block osl.out)
            have R6 := hidd (Rows2.add (RR.out.keep (allocB w2 (.cells #[.int .u64 x] 24))) hown hgrow (hblk.imp_right fun h => h.trans (by simp)))
            have cs6 : w6.cell? ⟨q, G'.length, none⟩ = some (.slice psl g.length csl) ∧ w6.frozen? ⟨q, G'.length, none⟩ = false := by
              have ho := (own_keep (allocB w2 (.cells #[.int .u64 x] 24)) RR.out.2.1).kept hgrow (own_unlike (own_keep (allocB w2 (.cells #[.int .u64 x] 24)) osl.out) (own_keep (allocB w2 (.cells #[.int .u64 x] 24)) RR.out.2.1) types_unlike).symm.kept
              rw [eGl] at ho
              refine ⟨?_, ho.frozenAt G'.length⟩
              rw [ho.cellAt G'.length (by omega), ← hSl]
              simp
            obtain ⟨cs7, fs7⟩ := cs6
            have hqb : w1.heap.size ≤ q := own_block RR.out.2.1 q rfl
            have B7 := B6.setCell (p := ⟨q, G'.length, none⟩) hqb (.slice p6 (g.length + 1) c6)
            clear hown hgrow hblk osl cs fs RR hR2 B2
            go_wp2_with fail
            go_roundw
            case rel => exact ⟨i + 1, G' ++ [g ++ [x]], S' ++ [Value.slice p6 (g.length + 1) c6], u, by omega, by go_num, rfl, R6, hF2, hidd (.inr (by simp)), hidd (fun k hk => (List.mem_append.1 hk).elim (fun h => by have := hgl.out k (by simp [h]); omega) (fun h => by rw [List.mem_singleton] at h; subst h; have := hgg; simp; try omega)), by simp; omega, B7⟩
            case measure => simp [intOf]; omega
          · have hF2 : Hid (gFold (K.take (i + 1)) = (G ++ [[x]], upW x)) := hidd (by rw [hnx, gStep_new hW hpos hlast])
            have hbn : (upW x != l) = true := by simp [hlast]
            clear hnx hW hpos h0 hlast
            generalize upW x = u at *
            go_wp2_with fail
            refine (PA.out _).mono ?_
            rintro e w2 ⟨rfl, b2⟩
            have B2 := belowT hB b2
            have hR2 := hidd (hR.out.keep b2)
            clear hB b2 hR PA
            go_wp2_with (at_builtin; refine wpList_append_apart rfl (.tmp 31) (.tmp 32) 38 rfl w1.heap.size 23 i1 (.slice none 0 0) 1 24 Try.underlying38 hj hy0 hy1 hy2 rfl (by decide) _ _ _ rfl (own_keep (allocB _ _) hR2.out.2.1) ⟨w2.heap.size, 0, none⟩ 1 1 (by decide) [.slice none 0 0] rfl rfl (one_lies _ _ rfl _ _) (fun u hu => by simp at hu; subst hu; rfl) (by unfold maxLen; omega) (by omega) (by have := B2.size; simp; omega) ?_)
            intro v4 w4 hown hgrow _
            have B4 : Below w1.heap.size w1 w4 := (B2.alloc B2.size (.cells #[.slice none 0 0] 23)).grown hgrow (by have := B2.size; simp; omega) (own_block hR2.out.2.1)
            have R4 := hidd (Rows2.push (hR2.out.keep (allocB w2 (.cells #[.slice none 0 0] 23))) (World.ownsRow_nil _ _ _ _ : _) (g := []) (fun s _ => .inr (.inl rfl)) hown hgrow)
            clear hown hgrow hR2 B2
            obtain ⟨q, cq, hvq⟩ := own_shape R4.out.2.1 (by simp)
            have eGl : (G ++ [([] : List Int)]).length = G.length + 1 := by simp
            rw [eGl] at hvq
            have hSl : S.length = G.length := by have := R4.out.1; simp at this; omega
            have cs : w4.cell? ⟨q, G.length, none⟩ = some (Value.slice none 0 0) := by
              have h2 := R4.out.2.1
              rw [eGl] at h2
              rw [hvq] at h2
              rw [h2.cellAt G.length (by omega), ← hSl]
              simp
            have fs : w4.frozen? ⟨q, G.length, none⟩ = false := by
              have h2 := R4.out.2.1
              rw [eGl] at h2
              rw [hvq] at h2
              exact h2.frozenAt G.length
            have osl : Hid (w4.ownsRow w1.heap.size 24 1 (Value.slice none 0 0) 0 (vals ([] : List Int))) := hidd (by
              have h3 := R4.out.2.2.1 S.length (by simp) (by simp [hSl])
              simpa [hSl] using h3)
            have ew : IntKind.i64.wrap (((G.length + 1 : Nat) : Int) - 1) = (G.length : Int) := by rw [IntKind.wrap_i64]; omega
            have ew2 : ((G.length : Int) + 1 - 1) = (G.length : Int) := by omega
            first | subst hvq | (simp only [Value.slice.injEq] at hvq; obtain ⟨rfl, -, rfl⟩ := hvq)
            obtain ⟨psl, csl, hsl, -⟩ := own_slice osl.out
            rw [hsl] at cs osl
            have RR := hidd R4.out
            rw [hsl] at RR
            clear hsl
            go_wp2_with (at_builtin; refine wpList_append_apart rfl (.tmp 42) (.tmp 44) 23 rfl w1.heap.size 24 i0 (.int .u64 0) 1 8 Try.underlying23 hi hz0 hz1 hz2 rfl (by decide) _ _ _ rfl (own_keep (allocB _ _) osl.out) ⟨w4.heap.size, 0, none⟩ 1 1 (by decide) [.int .u64 x] rfl rfl (one_lies _ _ rfl _ _) (one_int _ _) (by unfold maxLen; omega) (by omega) (by have := B4.size; simp; omega) ?_)
            intro v6 w6 hown hgrow hblk
            obtain ⟨p6, c6, rfl, -⟩ := own_slice hown
            have B6 : Below w1.heap.size w1 w6 := (B4.alloc B4.size (.cells #[.int .u64 x] 24)).grown hgrow (by have := B4.size; simp; omega) (own_block osl.out)
            have R6 := hidd (Rows2.add (RR.out.keep (allocB w4 (.cells #[.int .u64 x] 24))) hown hgrow (hblk.imp_right fun h => h.trans (by simp)))
            have cs6 : w6.cell? ⟨q, G.length, none⟩ = some (.slice psl 0 csl) ∧ w6.frozen? ⟨q, G.length, none⟩ = false := by
              have ho := (own_keep (allocB w4 (.cells #[.int .u64 x] 24)) RR.out.2.1).kept hgrow (own_unlike (own_keep (allocB w4 (.cells #[.int .u64 x] 24)) osl.out) (own_keep (allocB w4 (.cells #[.int .u64 x] 24)) RR.out.2.1) types_unlike).symm.kept
              rw [eGl] at ho
              refine ⟨?_, ho.frozenAt G.length⟩
              rw [ho.cellAt G.length (by omega), ← hSl]
              simp
            obtain ⟨cs7, fs7⟩ := cs6
            have hqb : w1.heap.size ≤ q := own_block RR.out.2.1 q rfl
            have B7 := B6.setCell (p := ⟨q, G.length, none⟩) hqb (.slice p6 (0 + 1) c6)
            clear hown hgrow hblk osl cs fs RR R4 B4
            go_wp2_with fail
            go_roundw
            case rel => exact ⟨i + 1, G ++ [[x]], S ++ [Value.slice p6 (0 + 1) c6], u, by omega, by go_num, rfl, R6, hF2, hidd (.inr (by simp)), hidd (fun k hk => (List.mem_append.1 hk).elim (fun h => by have := hgl.out k (by simp [h]); omega) (fun h => by rw [List.mem_singleton] at h; subst h; have := (Nat.zero_le i); simp; try omega)), by simp; omega, B7⟩
            case measure => simp [intOf]; omega
      · have PA := hidd fun w => iparent_no x hxu hW w
        have hF2 : Hid (gFold (K.take (i + 1)) = (G, l)) := hidd (by rw [hnx, gStep_no hW])
        clear hnx hW
        go_wp2_with fail
        refine (PA.out _).mono ?_
        rintro e w2 ⟨rfl, b2⟩
        have B2 := belowT hB b2
        have hR2 := hidd (hR.out.keep b2)
        clear hB b2 hR PA
        go_wp2_with fail
        go_roundw
        case rel => exact ⟨i + 1, G, S, l, by omega, by go_num, rfl, hR2, hF2, hE, hidd (fun k hk => by have := hgl.out k hk; omega), by omega, B2⟩
        case measure => simp [intOf]; omega
    · obtain rfl : i = K.length := by omega
      have e2 : gFold K = (G, l) := by rw [← hF.out, List.take_length]
      have L2 := hidd hR.out.read
      obtain ⟨pv, cv, rfl, -⟩ := own_slice hR.out.2.1
      replace e2 := hidd e2
      clear hF hR
      go_wp2_with fail
      go_ret
      exact ⟨⟨K, _, RK.out, MK.out, rfl, by rw [e2.out]; exact L2.out⟩, belowT B0.out hB⟩

end Go.Proofs.Ytogkfmoediiieaa
