/-
  The law CellsFamilies: it returns true for any list of numbers and any size, in whatever memory: the children of some cells are as many groups as there are cells, each of seven.
-/
import Derived.Test.YtogkfmoediiieaaOpenL
import Derived.Test.YtogkfmoediiieaaUAwake
import Derived.Test.YtogkfmoediiieaaVCheck
import Derived.Test.YtogkfmoediiieaaVGroups
import Derived.Test.YtogkfmoediiieaaFamMath
import Derived.Laws.BitsAllLaws
import Derived.Handy
import Derived.Deep.QuietTactic
import Derived.Test.YtogkfmoediiieaaProg
import Derived.WalkSpells
import Derived.WalkLawsBesides
import Derived.BigQuiet
import Derived.PlainAid
import Derived.Deep.RegionWith
import Derived.Deep.RegionHeld3
import Derived.WalkSmall
import Derived.Deep.CutRange
import Derived.BigRegion
import Derived.OwnWalk
import Derived.Laws.OwnMore
import Derived.OneCell
import Derived.Laws.CopyOwn
import Derived.Sort.Row
import Derived.Laws.AppendOwn
import Derived.Laws.AppendOwnNone
import Derived.BigFrame
import Derived.RangeFuncFrom
import Derived.RangeFuncCalls
import Derived.RangeFuncLeaves
import Derived.WalkKit
import Derived.OwnWalkIn
import Derived.TacticsInMore
import Derived.LoopNIn
import Derived.LoopIn
import Derived.RegionIn
import Derived.Stop.RegionWithIn
import Derived.Deep.Cut
import Derived.Sort.LotD3
import Derived.Deep.LoopGhost
import Derived.Sort.WalkA6
import Derived.Sort.Walk13a
import Derived.Sort.LotA
import Derived.Sort.LotB
import Derived.Sort.LotD1
import Derived.Deep.Draws
import Derived.BigGuard
import Derived.BigCall
import Derived.CellFam
import Derived.Sort.WalkB3
import Derived.Sort.WalkB12
import Derived.Deep.OwnRows
import Derived.Deep.RegionLaw
import Derived.ChangeSlices
import Derived.OpenShut
import Derived.Deep.AppendLies
namespace Go.Proofs.Ytogkfmoediiieaa
open Go.RowKit

theorem below_size (r : Int) : ∃ (t : Int) (n : Nat), r.tmod 12 = t ∧ (t + 12).tmod 12 = (n : Int) ∧ -12 < t ∧ t < 12 ∧ n < 12 := by
  have h1 := Int.tmod_lt_of_pos r (show (0 : Int) < 12 by omega)
  have h2 := Int.lt_tmod_of_pos r (show (0 : Int) < 12 by omega)
  have h3 := Int.tmod_eq_emod_of_nonneg (b := 12) (show 0 ≤ r.tmod 12 + 12 by omega)
  have h4 : 0 ≤ (r.tmod 12 + 12).tmod 12 ∧ (r.tmod 12 + 12).tmod 12 < 12 := by rw [h3]; omega
  refine ⟨_, ((r.tmod 12 + 12).tmod 12).toNat, rfl, by omega, h2, h1, by omega⟩

theorem aword_sz (x0 y0 : Int) (n : Nat) (hn : n < 12) (w : World) :
    Calls Try.prog 9 #[.int .i64 x0, .int .i64 y0, .int .i64 (n : Int)] w fun e w' => TellsW n e ∧ Below w.heap.size w w' := by
  refine aword_at x0 y0 n n (fun w => ?_) w
  obtain ⟨t, s, K, ht, hs, t1, t2, hK, hr⟩ := size13 (n : Int)
  have e1 : t = (n : Int) := by rw [← ht, Int.tmod_eq_emod_of_nonneg (by omega)]; omega
  have e2 : s = (n : Int) := by rw [← hs, e1, Int.tmod_eq_emod_of_nonneg (by omega)]; omega
  rw [← e2]
  cases h0 : (bits .and .i64 y0 1 == 0) with
  | true =>
    obtain ⟨u, v, hw, PT⟩ := point_any x0 y0
    obtain ⟨a, b, hn⟩ := nearest_some (dvK_box (K := K) hK).1 (nuA K u v) (nuB K u v)
    rw [e2] at hs hr ⊢
    exact (csome_point x0 y0 n t n _ u v a b ht hs t1 t2 rfl h0 PT (rnear_at u v n K hK hr hw a b hn) w).mono fun e w' ⟨he, hb⟩ => ⟨⟨a, b, he, near_ok hK hr hw hn⟩, hb⟩
  | false =>
    rw [e2] at hs ⊢
    exact csome_down x0 y0 n t n (by omega) _ ht hs t1 t2 rfl h0 w

/-- The word of a word's child, as the document's own answer has it. -/
theorem kid_word {v : Int} (h : Whole v) (hr : wR v < 12) (k : Nat) (hk : k < 7) (w : World) :
    Calls Try.prog 12 #[.agg #[.int .i64 (kidG (wR v) (cellA v) (cellB v) (k * 3)), .int .i64 (kidG (wR v) (cellA v) (cellB v) (k * 3 + 1)), .int .i64 (kidG (wR v) (cellA v) (cellB v) (k * 3 + 2))]] w fun e w' => e = .returned (.tuple #[.int .u64 (chW v k), .int .i64 0]) ∧ Below w.heap.size w w' := by
  have hb := wR_box v
  have hc := child_word h hr (show k ≤ 6 by omega)
  have := rword_yes _ _ _ hc.1 w
  rw [hc.2] at this
  rw [kidG_0, kidG_1, kidG_2, show wR v + 1 = (((wR v).toNat + 1 : Nat) : Int) by omega]
  exact this

/-- A list of words of one size has no fault. -/
theorem ccheck_ok (s : Value) (L : List Int) (r : Int) (hn : L.length ≤ 50000) (hf : ∀ x ∈ L, Whole x ∧ wR x = r) (w : World) (hl : Lst w s L) :
    Calls Try.prog 15 #[s, .int .i64 r] w fun e w' => e = .returned (.int .i64 0) ∧ Below w.heap.size w w' := by
  refine (ccheck s L r hn (fun x hx => by have := whole_box (hf x hx).1; constructor <;> omega) w hl).mono ?_
  rintro e w' ⟨⟨t, rfl, ht⟩, hb⟩
  have h0 : ChkT L r 0 := .inl ⟨rfl, fun j hj => hf _ (List.getElem_mem hj)⟩
  obtain rfl := chk_one ht h0
  exact ⟨rfl, hb⟩

theorem apart_grown {w : World} {base n : Nat} {xs : List Value} {a a' b : Value} (hab : Apart a b) (hb : w.ownsRow base 24 1 b n xs) (e : a'.ownBlock = a.ownBlock ∨ a'.ownBlock = some w.heap.size) : Apart a' b := by
  rcases e with e | e
  · unfold Apart at hab ⊢
    rw [e]
    exact hab
  · by_cases hn : b.ownBlock = none
    · exact .inr (.inl hn)
    · refine .inr (.inr fun e2 => ?_)
      rw [e] at e2
      have := (own_lt hb _ e2.symm).2
      omega

/-- A row of words lies elsewhere than a number of another kind. -/
theorem own_other {w : World} {base n g : Nat} {v : Value} {L : List Int} {z : Int} (h : w.ownsRow base 24 1 v n (vals L)) (h0 : n = 0 → v.ownBlock = none) (hc : w.cell? ⟨g, 0, none⟩ = some (.int .i64 z)) : v.ownBlock ≠ some g := by
  intro e
  by_cases hn : n = 0
  · rw [h0 hn] at e
    cases e
  · obtain ⟨q, c, rfl⟩ := own_shape h (by omega)
    simp only [Value.ownBlock, Option.some.injEq] at e
    subst e
    have hl : 0 < L.length := by have := h.1; rw [vals_len] at this; omega
    rw [h.cellAt 0 (by omega), vals_at L 0 hl] at hc
    simp at hc

theorem grown_cell {w w' : World} {row : Option Nat} {p : Addr} {z : Value} (hg : w.grownBy w' row) (hc : w.cell? p = some z) (hne : row ≠ some p.block) : w'.cell? p = some z :=
  (hg.cell_far p (World.block_lt_of_cell? _ _ hc) (fun e => hne e.symm)).trans hc

theorem kids_len (L : List Int) : (L.flatMap kidRow).length = 7 * L.length := by
  induction L with
  | nil => rfl
  | cons v L ih => rw [List.flatMap_cons, List.length_append, ih, kidRow_len, List.length_cons]; omega

theorem kids_fine {L : List Int} {n : Nat} (hn : n < 12) (h : ∀ x ∈ L, Whole x ∧ wR x = (n : Int)) : ∀ x ∈ L.flatMap kidRow, Whole x ∧ wR x = (n : Int) + 1 := by
  intro x hx
  obtain ⟨v, hv, hx⟩ := List.mem_flatMap.1 hx
  obtain ⟨d, hd, rfl⟩ := kidRow_mem.1 hx
  have := chW_whole (h v hv).1 (by rw [(h v hv).2]; omega) hd
  exact ⟨this.1, by rw [this.2, (h v hv).2]⟩

set_option maxHeartbeats 32000000 in
set_option maxRecDepth 20000 in
theorem cellsFamilies_walk (sX : Value) (X : List Int) (r0 : Int) (w : World) (hX : LstK .i64 w sX X) (_ : ∀ x ∈ X, -9223372036854775808 ≤ x ∧ x ≤ 9223372036854775807) (_ : -9223372036854775808 ≤ r0) (_ : r0 ≤ 9223372036854775807) :
    Calls Try.prog 3 #[sX, .int .i64 r0] w fun e w' => e = .returned (.bool true) ∧ Below w.heap.size w w' := by
  obtain ⟨t0, n, et, en, t1, t2, hn⟩ := below_size r0
  have AW := hidd fun w2 => cawake w2
  have WD := hidd fun x y w => aword_sz x y n hn w
  obtain ⟨pX, cX, rfl, -, cX0⟩ := hX
  have HX := hidd cX0
  obtain ⟨i0, hi, hz0, hz1, hz2⟩ := info_parts infoU64
  clear cX0
  go_enter Try.func3, Try.ntmps3
  go_wp2_with fail
  go_loopw [5, 6, 7] (fun v5 v6 v7 wr => ∃ (i m : Nat) (L : List Int), Hid (i = 2 * m ∧ L.length = m) ∧ i ≤ 30 ∧ v7 = .int .i64 (i : Int) ∧ Hid (∀ x ∈ L, Whole x ∧ wR x = (n : Int)) ∧ Hid (wr.ownsRow w.heap.size 24 1 v5 m (vals L)) ∧ Hid (wr.ownsRow w.heap.size 24 1 v6 (7 * m) (vals (L.flatMap kidRow))) ∧ Hid (7 * m = 0 → v6.ownBlock = none) ∧ Hid (Apart v5 v6) ∧ Below w.heap.size w wr) (fun _ _ v7 _ => 30 - (intOf v7).toNat)
  case atStart => exact ⟨0, 0, [], hidd ⟨rfl, rfl⟩, by omega, rfl, hidd (fun x hx => by simp at hx), World.ownsRow_nil _ _ _ _, World.ownsRow_nil _ _ _ _, hidd (fun _ => rfl), .inl rfl, Below.refl _ _⟩
  case round =>
    obtain ⟨i, m, L, hE, hi30, rfl, hW, O5, O6, hN, hA, hB⟩ := hrel
    by_cases hlt : i + 1 < X.length ∧ i < 30
    · obtain ⟨b1, b2⟩ := hlt
      have b3 : (i : Int) + 1 < (X.length : Int) := by omega
      have b4 : (i : Int) < 30 := by omega
      have ew : IntKind.i64.wrap ((i : Int) + 1) = (i : Int) + 1 := by rw [IntKind.wrap_i64]; omega
      have en1 : ((i : Int) + 1).toNat = i + 1 := by omega
      have hm15 : m < 15 := by have := hE.out; omega
      obtain ⟨g0, o0, rfl, x0⟩ := HX.out i (by omega)
      obtain ⟨g1, o1, e1, x1⟩ := HX.out (i + 1) (by omega)
      simp only [Option.some.injEq, Addr.mk.injEq, and_true] at e1
      obtain ⟨rfl, rfl⟩ := e1
      replace x0 := keepCell hB x0
      replace x1 := keepCell hB x1
      generalize X[i]'_ = z0 at *
      generalize X[i + 1]'_ = z1 at *
      have W1 := hidd fun w => WD.out z0 z1 w
      go_wp2_with fail
      go_cut [8] from 25 to 78 (fun v8 wx => ∃ v, v8 = .int .u64 v ∧ Hid (Whole v ∧ wR v = (n : Int)) ∧ Below wr.heap.size wr wx)
      case first =>
        go_region_with (go_at_call 9; refine (W1.out _).mono ?_; rintro e w1 ⟨⟨P, Q, rfl, hO⟩, d1⟩; have hp := word_parts hO; have hv : Hid (Whole (wordOf n P Q) ∧ wR (wordOf n P Q) = (n : Int)) := hidd ⟨hp.1, hp.2.1⟩; clear hp hO; generalize wordOf n P Q = v at *)
        all_goals
          go_wp2_with fail
          go_meet
          exact ⟨v, rfl, hv, by first | exact d1 | exact belowT (drewB _) d1⟩
      case rest =>
        obtain ⟨v, rfl, hv, d1⟩ := hcut
        have B1 := belowT hB d1
        have O5a := hidd (own_keep d1 O5.out)
        have O6a := hidd (own_keep d1 O6.out)
        clear x0 x1 d1 hB O5 O6 W1
        go_wp2_with (at_builtin; refine wpList_append_apart rfl (.tmp 47) (.tmp 49) 23 rfl w.heap.size 24 i0 (.int .u64 0) 1 8 Try.underlying23 hi hz0 hz1 hz2 rfl (by decide) _ _ _ rfl (own_keep (allocB _ _) O5a.out) ⟨wc.heap.size, 0, none⟩ 1 1 (by decide) [.int .u64 v] rfl rfl (one_lies _ _ rfl _ _) (one_int _ _) (by unfold maxLen; omega) (by omega) (by have := B1.size; simp; omega) ?_)
        intro y5 w5 hown hgrow hblk
        have B5 : Below w.heap.size w w5 := (B1.alloc B1.size (.cells #[.int .u64 v] 24)).grown hgrow (by have := B1.size; simp; omega) (own_block O5a.out)
        have O5b : Hid (w5.ownsRow w.heap.size 24 1 y5 (m + 1) (vals (L ++ [v]))) := hidd (by rw [show vals (L ++ [v]) = vals L ++ [.int .u64 v] by simp [vals]]; exact hown)
        have O6b := hidd ((own_keep (allocB wc (.cells #[.int .u64 v] 24)) O6a.out).kept hgrow hA.out.symm.kept)
        have A5 := hidd (apart_grown hA.out (own_keep (allocB wc (.cells #[.int .u64 v] 24)) O6a.out) (hblk.imp_right fun h => h.trans (by simp)))
        clear hown hgrow hblk O5a O6a B1 hA
        have hv1 := hv.out.1
        have hv2 := hv.out.2
        have CE := hidd fun w => rwcell_yes v hv1 w
        have KE := hidd fun w => rkids_yes (wR v) (cellA v) (cellB v) (cell_ok hv1) (by omega) w
        have WE := hidd fun k hk w => kid_word hv1 (by omega) k hk w
        have W2 : Hid (∀ x ∈ L ++ [v], Whole x ∧ wR x = (n : Int)) := hidd fun x hx => by
          rcases List.mem_append.1 hx with h | h
          · exact hW.out x h
          · rw [List.mem_singleton] at h; subst h; exact hv.out
        clear hv1 hv2
        generalize wR v = R at *
        generalize cellA v = A at *
        generalize cellB v = B at *
        generalize kidG R A B = G at *
        go_wp2_with fail
        refine (CE.out _).mono ?_
        rintro e w6 ⟨rfl, d6⟩
        have B6 := belowT B5 d6
        have O5c := hidd (own_keep d6 O5b.out)
        have O6c := hidd (own_keep d6 O6b.out)
        clear d6 O5b O6b B5 CE
        go_wp2_with fail
        refine (KE.out _).mono ?_
        rintro e w7 ⟨⟨g, cap, rfl, hG⟩, d7⟩
        have c7 : Below w6.heap.size w6 w7 := Below.trans (by go_grown) (d7.mono (by simp; try omega))
        have B7 := belowT B6 c7
        have O5d := hidd (own_keep c7 O5c.out)
        have O6d := hidd (own_keep c7 O6c.out)
        replace hG := hidd hG
        clear d7 c7 O5c O6c B6 KE
        go_wp2_with fail
        go_loopw [6, 13] (fun v6 v13 wr => ∃ j : Nat, j ≤ 7 ∧ v13 = .int .i64 (j : Int) ∧ Hid (wr.ownsRow w.heap.size 24 1 y5 (m + 1) (vals (L ++ [v]))) ∧ Hid (wr.ownsRow w.heap.size 24 1 v6 (7 * m + j) (vals (L.flatMap kidRow ++ (List.range j).map (chW v)))) ∧ Hid (7 * m + j = 0 → v6.ownBlock = none) ∧ Hid (Apart y5 v6) ∧ Hid (∀ o < 21, wr.cell? ⟨g, o, none⟩ = some (.int .i64 (G o))) ∧ Below w.heap.size w wr) (fun _ v13 _ => 7 - (intOf v13).toNat)
        case atStart => exact ⟨0, by omega, rfl, O5d, hidd (by simpa using O6d.out), hN, A5, hG, B7⟩
        case round =>
          clear O5d O6d A5 hG B7
          obtain ⟨j, hj, rfl, O5, O6, hN, hA, hG, hB⟩ := hrel
          by_cases hlt : j < 7
          · have s0 := hG.out (j * 3) (by omega)
            have s1 := hG.out (j * 3 + 1) (by omega)
            have s2 := hG.out (j * 3 + 2) (by omega)
            have WK := hidd fun w => WE.out j hlt w
            have hrow := hidd (kidRow_snoc L v j)
            generalize G (j * 3) = g0' at *
            generalize G (j * 3 + 1) = g1' at *
            generalize G (j * 3 + 2) = g2' at *
            generalize chW v j = x at *
            go_wp2_with fail
            refine (WK.out _).mono ?_
            rintro e w8 ⟨rfl, d8⟩
            have B8 := belowT hB d8
            have O5a := hidd (own_keep d8 O5.out)
            have O6a := hidd (own_keep d8 O6.out)
            have hG8 : Hid (∀ o < 21, w8.cell? ⟨g, o, none⟩ = some (.int .i64 (G o))) := hidd fun o ho => keepCell d8 (hG.out o ho)
            clear d8 hB O5 O6 hG s0 s1 s2 WK
            go_wp2_with (at_builtin; refine wpList_append_apart rfl (.tmp 75) (.tmp 77) 23 rfl w.heap.size 24 i0 (.int .u64 0) 1 8 Try.underlying23 hi hz0 hz1 hz2 rfl (by decide) _ _ _ rfl (own_keep (allocB _ _) O6a.out) ⟨w8.heap.size, 0, none⟩ 1 1 (by decide) [.int .u64 x] rfl rfl (one_lies _ _ rfl _ _) (one_int _ _) (by unfold maxLen; omega) (by omega) (by have := B8.size; simp; omega) ?_)
            intro y6 w9 hown hgrow hblk
            have kA := allocB w8 (.cells #[.int .u64 x] 24)
            have B9 : Below w.heap.size w w9 := (B8.alloc B8.size (.cells #[.int .u64 x] 24)).grown hgrow (by have := B8.size; simp; omega) (own_block O6a.out)
            have O6b : Hid (w9.ownsRow w.heap.size 24 1 y6 (7 * m + (j + 1)) (vals (L.flatMap kidRow ++ (List.range (j + 1)).map (chW v)))) := hidd (by rw [hrow.out, show ∀ Y : List Int, vals (Y ++ [x]) = vals Y ++ [.int .u64 x] from fun Y => by simp [vals]]; exact hown)
            have O5b := hidd ((own_keep kA O5a.out).kept hgrow hA.out.kept)
            have A6 := hidd (apart_grown hA.out.symm (own_keep kA O5a.out) (hblk.imp_right fun h => h.trans (by simp))).symm
            have hne := own_other O6a.out hN.out (hG8.out 0 (by omega))
            have hG9 : Hid (∀ o < 21, w9.cell? ⟨g, o, none⟩ = some (.int .i64 (G o))) := hidd fun o ho => by
              have h1 := keepCell kA (hG8.out o ho)
              exact grown_cell hgrow h1 hne
            clear hown hgrow hblk O5a O6a B8 hA kA hne hG8
            go_wp2_with fail
            go_roundw
            case rel => exact ⟨j + 1, by omega, by go_num, O5b, O6b, hidd (fun h => by omega), A6, hG9, B9⟩
            case measure => simp [intOf]; omega
          · obtain rfl : j = 7 := by omega
            have hall := kidRow_all L v
            rw [hall] at O6
            have E2 : Hid (i + 2 = 2 * (m + 1) ∧ (L ++ [v]).length = m + 1) := hidd ⟨by have := hE.out; omega, by simp [hE.out.2]⟩
            have i28 : i + 2 ≤ 30 := by have := hE.out; omega
            clear hall WE hv hG
            go_wp2_with fail
            go_roundw
            case rel => exact ⟨i + 2, m + 1, L ++ [v], E2, i28, by go_num, W2, O5, O6, hidd (fun h => by omega), hA, hB⟩
            case measure => simp [intOf]; omega
    · have hm15 : m ≤ 15 := by have := hE.out; omega
      have hLm := hE.out.2
      have hKl := kids_len L
      rw [hLm] at hKl
      have L5 := Lst.own O5.out
      have L6 := Lst.own O6.out
      have uL : ∀ x ∈ L, U64 x := fun x hx => by have := whole_box (hW.out x hx).1; constructor <;> omega
      have KF := hidd (kids_fine hn hW.out)
      have uK : ∀ x ∈ L.flatMap kidRow, U64 x := fun x hx => by have := whole_box (KF.out x hx).1; constructor <;> omega
      obtain ⟨p5, c5, rfl, -⟩ := own_slice O5.out
      obtain ⟨p6, c6, rfl, -⟩ := own_slice O6.out
      have SE := hidd (eset _ L (by omega) uL wr L5)
      have GE := hidd fun w h => cgroups (.slice p6 (7 * m) c6) (L.flatMap kidRow) (by omega) uK w h
      have C5 := hidd fun w h => ccheck_ok (.slice p5 m c5) L n (by omega) hW.out w h
      have C6 := hidd fun w h => ccheck_ok (.slice p6 (7 * m) c6) (L.flatMap kidRow) ((n : Int) + 1) (by omega) KF.out w h
      have FM := hidd fun s K hs hm hK hKm => families hn (s := s) (L := L) (K := K) hs hm hW.out hK hKm
      replace L5 := hidd L5
      replace L6 := hidd L6
      have FW := hidd hW.out
      have hL15 : L.length ≤ 15 := by omega
      clear uL uK KF O5 O6 hA hN hKl hW hE hLm
      have hex : (¬ (i : Int) + 1 < (X.length : Int)) ∨ ((i : Int) + 1 < (X.length : Int) ∧ ¬ (i : Int) < 30) := by omega
      clear hlt
      rcases hex with b1 | ⟨b1, b2⟩
      all_goals
        go_wp2_with fail
        refine SE.out.mono ?_
        rintro e w1 ⟨⟨S, vS, rfl, lS, rS, mS, nS, uS⟩, d1⟩
        have B1 := belowT hB d1
        have LS := hidd lS
        have RS := hidd rS
        have MS := hidd mS
        obtain ⟨pS, cS, rfl⟩ := lS.len
        have G1 := hidd (GE.out w1 (L6.out.keep d1))
        have M5 := hidd (L5.out.keep d1)
        have M6 := hidd (L6.out.keep d1)
        clear lS rS mS uS d1 GE SE L5 L6
        go_wp2_with fail
        refine G1.out.mono ?_
        rintro e w2 ⟨⟨K, vG, rK, mK, rfl, lG⟩, d2⟩
        have B2 := belowT B1 d2
        rw [FM.out S K RS.out MS.out rK mK] at lG
        obtain ⟨pG, cG, rfl, hG⟩ := lG
        rw [List.length_map]
        have LG := hidd hG
        replace LS := hidd (LS.out.keep d2)
        have C6a := hidd (C6.out w2 (M6.out.keep d2))
        replace M5 := hidd (M5.out.keep d2)
        clear d2 hG rK mK C6 M6 G1 B1
        go_wp2_with fail
        refine C6a.out.mono ?_
        rintro e w3 ⟨rfl, d3⟩
        have B3 := belowT B2 d3
        have C5a := hidd (C5.out w3 (M5.out.keep d3))
        clear C6a C5 M5 B2
        go_wp2_with fail
        refine C5a.out.mono ?_
        rintro e w4 ⟨rfl, d4⟩
        have B4 := belowT B3 d4
        have d24 := belowT d3 d4
        have LS4 := hidd (LS.out.keep d24)
        have LG4 : Hid (∀ (j : Nat) (hj : j < S.length), ∃ g s, pG = some ⟨g, 0, none⟩ ∧ w4.cell? ⟨g, j, none⟩ = some s ∧ Lst w4 s (kidRow S[j])) := hidd fun j hj => by
          obtain ⟨g, s, h1, h2, h3⟩ := LG.out j (by simpa using hj)
          rw [List.getElem_map] at h3
          exact ⟨g, s, h1, keepCell d24 h2, h3.keep d24⟩
        have SF : Hid (∀ x ∈ S, Whole x ∧ wR x < 12) := hidd fun x hx => by
          have := FW.out x ((MS.out x).1 hx)
          exact ⟨this.1, by rw [this.2]; omega⟩
        clear d3 d4 d24 C5a LS LG B3
        go_wp2_with fail
        go_loopw [18] (fun v18 wr => ∃ k : Nat, k ≤ S.length ∧ v18 = .int .i64 (k : Int) ∧ Below w4.heap.size w4 wr) (fun v18 _ => S.length - (intOf v18).toNat)
        case atStart => exact ⟨0, by omega, rfl, Below.refl _ _⟩
        case round =>
          obtain ⟨k, hk, rfl, hD⟩ := hrel
          by_cases hlt : k < S.length
          · obtain ⟨g, s, rfl, y1, y2⟩ := LG4.out k hlt
            have sf := SF.out _ (List.getElem_mem hlt)
            obtain ⟨p7, c7, rfl, -, y3⟩ := y2
            obtain ⟨g7, o7, rfl, y4⟩ := y3 0 (by rw [kidRow_len]; omega)
            obtain ⟨pS', cS', e', -, y5⟩ := LS4.out
            simp only [Value.slice.injEq] at e'
            obtain ⟨rfl, -, rfl⟩ := e'
            obtain ⟨gs, os, rfl, y6⟩ := y5 k hlt
            replace y1 := keepCell hD y1
            replace y4 := keepCell hD y4
            replace y6 := keepCell hD y6
            have ek : (kidRow S[k])[0]'(by rw [kidRow_len]; omega) = chW S[k] 0 := by simp [kidRow]
            rw [ek, Nat.add_zero] at y4
            rw [kidRow_len] at y1
            have cw := chW_whole sf.1 sf.2 (show 0 ≤ 6 by omega)
            have RU := hidd fun w => rup_yes2 (chW S[k] 0) cw.1 (by rw [cw.2]; have := wR_box S[k]; omega) w
            rw [up_kid sf.1 sf.2 (show 0 ≤ 6 by omega)] at RU
            clear y3 y5 ek cw sf
            generalize S[k]'_ = q at *
            generalize chW q 0 = x at *
            go_wp2_with fail
            refine (RU.out _).mono ?_
            rintro e w5 ⟨rfl, d5⟩
            have D5 := belowT hD d5
            replace y6 := keepCell d5 y6
            clear d5 hD RU y1 y4
            go_wp2_with fail
            go_roundw
            case rel => exact ⟨k + 1, by omega, by go_num, D5⟩
            case measure => simp [intOf]; omega
          · obtain rfl : k = S.length := by omega
            have B5 := belowT B4 hD
            clear LG4 LS4 SF hD
            go_wp2_with fail
            refine (AW.out _).mono ?_
            rintro e w6 ⟨rfl, d6⟩
            go_wp2
            go_ret
            exact ⟨rfl, belowT B5 d6⟩

end Go.Proofs.Ytogkfmoediiieaa
