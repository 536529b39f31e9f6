/-
  What the document's own BoxMay and Centres tell; in whatever memory.
-/
import Derived.Test.YtdklpgphmoaniaaGreatDoorRLook
import Derived.Test.YtdklpgphmoaniaaGreatDoorRTouch
import Derived.Test.YtdklpgphmoaniaaGreatDoorProg
import Derived.Handy
import Derived.Deep.QuietTactic
import Derived.WalkSpells
import Derived.WalkLawsBesides
import Derived.BigQuiet
import Derived.PlainAid
import Derived.Deep.RegionWith
import Derived.Laws.BitsAllLaws
import Derived.Deep.RegionHeld3
import Derived.WalkSmall
import Derived.WalkKit
import Derived.OwnWalk
import Derived.Laws.OwnMore
import Derived.Deep.CutRange
import Derived.BigRegion
import Derived.OneCell
import Derived.Laws.CopyOwn
import Derived.Sort.Row
import Derived.Deep.LoopGhost
import Derived.RangeFuncFrom
import Derived.RangeFuncCalls
import Derived.RangeFuncLeaves
import Derived.OwnWalkIn
import Derived.TacticsInMore
import Derived.LoopNIn
import Derived.LoopIn
import Derived.RegionIn
import Derived.Stop.RegionWithIn
import Derived.Sort.LotD3
import Derived.Deep.Cut
import Derived.Sort.WalkA6
import Derived.Sort.Walk13a
import Derived.Sort.LotA
import Derived.Sort.LotB
import Derived.Sort.LotD1
import Derived.Deep.Draws
import Derived.BigGuard
import Derived.BigCall
import Derived.CellFam
import Derived.Sort.WalkB3
namespace Go.Proofs.YtdklpgphmoaniaaGreatDoor
open Go.RowKit

/-- The error of a box: t. -/
def MayT (l1 l2 u1 u2 r t : Int) : Prop :=
  ((r < 0 ∨ 12 < r) ∧ t = 1) ∨ ((0 ≤ r ∧ r ≤ 12) ∧ ¬ (InW l1 l2 ∧ InW u1 u2) ∧ t = 4) ∨ ((0 ≤ r ∧ r ≤ 12) ∧ (InW l1 l2 ∧ InW u1 u2) ∧ (u1 < l1 ∨ u2 < l2) ∧ t = 1) ∨ ((0 ≤ r ∧ r ≤ 12) ∧ (InW l1 l2 ∧ InW u1 u2) ∧ (l1 ≤ u1 ∧ l2 ≤ u2) ∧ t = 0)

set_option maxHeartbeats 8000000 in
set_option maxRecDepth 20000 in
theorem rmay_core (l1 l2 u1 u2 r t : Int) (p q : Bool)
    (h : (r < 0 ∧ t = 1) ∨ (decide (r < 0) = false ∧ 12 < r ∧ t = 1) ∨ (decide (r < 0) = false ∧ decide (12 < r) = false ∧ ((p = false ∧ t = 4) ∨ (p = true ∧ q = false ∧ t = 4) ∨ (p = true ∧ q = true ∧ u1 < l1 ∧ t = 1) ∨ (p = true ∧ q = true ∧ decide (u1 < l1) = false ∧ u2 < l2 ∧ t = 1) ∨ (p = true ∧ q = true ∧ decide (u1 < l1) = false ∧ decide (u2 < l2) = false ∧ t = 0))))
    (W1 : ∀ w, Calls Tryz.prog 11 #[.int .i64 l1, .int .i64 l2] w fun e w' => e = .returned (.bool p) ∧ w' = w)
    (W2 : ∀ w, Calls Tryz.prog 11 #[.int .i64 u1, .int .i64 u2] w fun e w' => e = .returned (.bool q) ∧ w' = w) (w : World) :
    Calls Tryz.prog 24 #[.agg #[.int .i64 l1, .int .i64 l2], .agg #[.int .i64 u1, .int .i64 u2], .int .i64 r] w fun e w' => e = .returned (.int .i64 t) ∧ Below w.heap.size w w' := by
  replace W1 : Hid _ := W1
  replace W2 : Hid _ := W2
  rcases h with ⟨h1, rfl⟩ | ⟨h1, h2, rfl⟩ | ⟨h1, h2, (⟨rfl, rfl⟩ | ⟨rfl, rfl, rfl⟩ | ⟨rfl, rfl, h3, rfl⟩ | ⟨rfl, rfl, h3, h4, rfl⟩ | ⟨rfl, rfl, h3, h4, rfl⟩)⟩
  · go_enter Tryz.func24, Tryz.ntmps24
    go_wp2_with fail
    go_ret
    exact ⟨rfl, by go_grown⟩
  · go_enter Tryz.func24, Tryz.ntmps24
    go_wp2_with fail
    go_ret
    exact ⟨rfl, by go_grown⟩
  · go_enter Tryz.func24, Tryz.ntmps24
    go_wp2_with fail
    refine (W1.out _).mono ?_
    rintro e w' ⟨rfl, rfl⟩
    go_wp2_with fail
    go_ret
    exact ⟨rfl, by go_grown⟩
  all_goals
    go_enter Tryz.func24, Tryz.ntmps24
    go_wp2_with fail
    refine (W1.out _).mono ?_
    rintro e w' ⟨rfl, rfl⟩
    go_wp2_with fail
    refine (W2.out _).mono ?_
    rintro e w'' ⟨rfl, rfl⟩
    go_wp2_with fail
    go_ret
    exact ⟨rfl, by go_grown⟩

/-- BOXMAY, as the document's own answer has it. -/
theorem r_may (l1 l2 u1 u2 r t : Int) (h : MayT l1 l2 u1 u2 r t) (w : World) :
    Calls Tryz.prog 24 #[.agg #[.int .i64 l1, .int .i64 l2], .agg #[.int .i64 u1, .int .i64 u2], .int .i64 r] w fun e w' => e = .returned (.int .i64 t) ∧ Below w.heap.size w w' := by
  refine rmay_core l1 l2 u1 u2 r t (inWB l1 l2) (inWB u1 u2) ?_ (fun w => rworld_any l1 l2 w) (fun w => rworld_any u1 u2 w) w
  unfold MayT at h
  have e1 : inWB l1 l2 = true ↔ InW l1 l2 := ⟨inWB_yes, inWB_mk⟩
  have e2 : inWB u1 u2 = true ↔ InW u1 u2 := ⟨inWB_yes, inWB_mk⟩
  cases p : inWB l1 l2 <;> cases q : inWB u1 u2 <;> rw [p] at e1 <;> rw [q] at e2 <;> simp only [Bool.false_eq_true, false_iff, true_iff] at e1 e2
  all_goals
    simp only [decide_eq_false_iff_not, true_and, false_and, or_false, false_or, Bool.false_eq_true, Bool.true_eq_false]
    simp only [e1, e2, and_self, and_true, true_and, and_false, false_and, not_false_eq_true, not_true_eq_false, or_false, false_or] at h
    omega

/-- Whether a word's cell's centre lies in a box. -/
def inCB (K : Nat) (l1 l2 u1 u2 x : Int) : Bool := decide (l1 ≤ poX K (cellA x) (cellB x) ∧ poX K (cellA x) (cellB x) ≤ u1 ∧ l2 ≤ poY K (cellA x) (cellB x) ∧ poY K (cellA x) (cellB x) ≤ u2)

theorem inCB_ways (X Y l1 l2 u1 u2 : Int) : (decide (l1 ≤ X) = false ∧ ¬ (l1 ≤ X ∧ X ≤ u1 ∧ l2 ≤ Y ∧ Y ≤ u2)) ∨ (l1 ≤ X ∧ decide (X ≤ u1) = false ∧ ¬ (l1 ≤ X ∧ X ≤ u1 ∧ l2 ≤ Y ∧ Y ≤ u2)) ∨ (l1 ≤ X ∧ X ≤ u1 ∧ decide (l2 ≤ Y) = false ∧ ¬ (l1 ≤ X ∧ X ≤ u1 ∧ l2 ≤ Y ∧ Y ≤ u2)) ∨ (l1 ≤ X ∧ X ≤ u1 ∧ l2 ≤ Y ∧ decide (Y ≤ u2) = false ∧ ¬ (l1 ≤ X ∧ X ≤ u1 ∧ l2 ≤ Y ∧ Y ≤ u2)) ∨ (l1 ≤ X ∧ X ≤ u1 ∧ l2 ≤ Y ∧ Y ≤ u2) := by
  simp only [decide_eq_false_iff_not]
  omega

set_option maxHeartbeats 8000000 in
set_option maxRecDepth 20000 in
theorem r_centres (s : Value) (L : List Int) (r K : Nat) (hK : K ≤ 12) (hr : 12 - (r : Int) = (K : Int)) (hL : ∀ x ∈ L, Whole x ∧ wR x = (r : Int)) (hn : L.length ≤ 40000) (l1 l2 u1 u2 : Int) (w : World) (h : RowAt 0 w s L) :
    Calls Tryz.prog 27 #[s, .agg #[.int .i64 l1, .int .i64 l2], .agg #[.int .i64 u1, .int .i64 u2]] w fun e w' => (∃ v, e = .returned v ∧ w'.ownsRow w.heap.size 31 1 v (L.filter (inCB K l1 l2 u1 u2)).length (vals (L.filter (inCB K l1 l2 u1 u2)))) ∧ Below w.heap.size w w' := by
  obtain ⟨p, cap, rfl, hp⟩ := h.form
  obtain ⟨n, en⟩ : ∃ n, L.length = n := ⟨_, rfl⟩
  have EN := hidd en
  have HP := hidd hp
  have HL := hidd hL
  obtain ⟨i0, hi, hz0, hz1, hz2⟩ := info_parts infoU64
  have S0 : Hid (Row12 w.heap.size 2 (prT l1 l2) ((w.alloc (.cells #[.int .i64 l1, .int .i64 l2] 38)).alloc (.cells #[.int .i64 u1, .int .i64 u2] 38)) ∧ Row12 (w.heap.size + 1) 2 (prT u1 u2) ((w.alloc (.cells #[.int .i64 l1, .int .i64 l2] 38)).alloc (.cells #[.int .i64 u1, .int .i64 u2] 38))) := hidd ⟨fun o ho => by
      obtain rfl | rfl : o = 0 ∨ o = 1 := by omega
      · unfold prT; go_simp
      · unfold prT; go_simp, fun o ho => by
      obtain rfl | rfl : o = 0 ∨ o = 1 := by omega
      · unfold prT; go_simp
      · unfold prT; go_simp⟩
  have B0 := hidd (belowT (allocB w (.cells #[.int .i64 l1, .int .i64 l2] 38)) (allocB _ (.cells #[.int .i64 u1, .int .i64 u2] 38)))
  have H0 : w.heap.size + 2 ≤ ((w.alloc (.cells #[.int .i64 l1, .int .i64 l2] 38)).alloc (.cells #[.int .i64 u1, .int .i64 u2] 38)).heap.size := by simp
  rw [en] at hn ⊢
  clear hp hL h en
  go_enter Tryz.func27, Tryz.ntmps27
  go_wp2_with fail
  generalize (w.alloc (.cells #[.int .i64 l1, .int .i64 l2] 38)).alloc (.cells #[.int .i64 u1, .int .i64 u2] 38) = w0 at *
  go_loopw [7, 8] (fun v7 v8 wr => ∃ (i : Nat) (M : List Int), i ≤ n ∧ v8 = .int .i64 (i : Int) ∧ Hid (M = (L.take i).filter (inCB K l1 l2 u1 u2)) ∧ M.length ≤ i ∧ Hid (wr.ownsRow w0.heap.size 31 1 v7 M.length (vals M)) ∧ Hid (Below w0.heap.size w0 wr)) (fun _ v8 _ => n - (intOf v8).toNat)
  case atStart => exact ⟨0, [], by omega, rfl, hidd rfl, by simp, hidd (World.ownsRow_nil _ _ _ _), hidd (Below.refl _ _)⟩
  case round =>
    obtain ⟨i, M, hin, rfl, hM, hMl, hO, hB⟩ := hrel
    obtain ⟨p7, c7, rfl, -⟩ := own_slice hO.out
    by_cases hlt : i < n
    · have hlt' : (i : Int) < (n : Int) := by omega
      obtain ⟨g, rfl, x1⟩ := HP.out i (by rw [EN.out]; exact hlt)
      have hiL : i < L.length := by rw [EN.out]; exact hlt
      replace x1 := keepCell (belowT B0.out hB.out) x1
      obtain ⟨hwx, hRx⟩ := HL.out _ (List.getElem_mem hiL)
      have CE := hidd fun w => rwcell_yes L[i] hwx w
      have ok := cell_ok hwx
      have pt4 := ok4_part ok
      have PO := hidd fun w => rcentre_yes (cellA L[i]) (cellB L[i]) (wR L[i]) K hK (by rw [hRx]; exact hr) ⟨by omega, by omega⟩ ⟨by omega, by omega⟩ w
      have SN : Hid ((L.take (i + 1)).filter (inCB K l1 l2 u1 u2) = M ++ (if inCB K l1 l2 u1 u2 L[i] then [L[i]] else [])) := hidd (by
        rw [List.take_succ_eq_append_getElem hiL, List.filter_append, ← hM.out]
        congr 1
        rw [List.filter_cons]
        split <;> simp)
      have hc : Hid (inCB K l1 l2 u1 u2 L[i] = decide (l1 ≤ poX K (cellA L[i]) (cellB L[i]) ∧ poX K (cellA L[i]) (cellB L[i]) ≤ u1 ∧ l2 ≤ poY K (cellA L[i]) (cellB L[i]) ∧ poY K (cellA L[i]) (cellB L[i]) ≤ u2)) := hidd rfl
      generalize poX K (cellA L[i]) (cellB L[i]) = X at *
      generalize poY K (cellA L[i]) (cellB L[i]) = Y at *
      have hw := inCB_ways X Y l1 l2 u1 u2
      clear hwx hRx ok pt4 hM
      generalize cellA L[i] = a at *
      generalize cellB L[i] = b at *
      generalize wR L[i] = rr at *
      generalize inCB K l1 l2 u1 u2 L[i] = cb at *
      generalize L[i] = x at *
      go_wp2_with fail
      refine (CE.out _).mono ?_
      rintro e w1 ⟨rfl, b1⟩
      have O1 := hidd (own_keep b1 hO.out)
      have B1 := hidd (hB.out.trans (b1.mono hB.out.size))
      replace x1 := keepCell b1 x1
      have hal := allocB w1 (.cells #[.int .i64 rr, .int .i64 a, .int .i64 b] 25)
      have O2 := hidd (own_keep hal O1.out)
      have B2 := hidd (B1.out.trans (hal.mono B1.out.size))
      replace x1 := keepCell hal x1
      clear CE b1 O1 B1 hO hB hal
      go_wp2_with fail
      generalize w1.alloc (.cells #[.int .i64 rr, .int .i64 a, .int .i64 b] 25) = w2 at *
      refine (PO.out _).mono ?_
      rintro e w3 ⟨rfl, b3⟩
      have O3 := hidd (own_keep b3 O2.out)
      have B3 := hidd (B2.out.trans (b3.mono B2.out.size))
      replace x1 := keepCell b3 x1
      obtain ⟨hL3, hU3⟩ := S0.out
      have y0 := keepCell B3.out (hL3 0 (by omega))
      have y1 := keepCell B3.out (hL3 1 (by omega))
      have z0 := keepCell B3.out (hU3 0 (by omega))
      have z1 := keepCell B3.out (hU3 1 (by omega))
      simp only [prT] at y0 y1 z0 z1
      clear PO b3 O2 B2 hL3 hU3
      rcases hw with ⟨h1, hno⟩ | ⟨h1, h2, hno⟩ | ⟨h1, h2, h3, hno⟩ | ⟨h1, h2, h3, h4, hno⟩ | ⟨h1, h2, h3, h4⟩
      rotate_left 4
      · have hcT : cb = true := by rw [hc.out]; exact decide_eq_true ⟨h1, h2, h3, h4⟩
        have SN2 : Hid (M ++ [x] = (L.take (i + 1)).filter (inCB K l1 l2 u1 u2)) := hidd (by rw [SN.out, hcT]; rfl)
        have hs3 := B3.out.size
        clear hc SN hcT
        go_wp2_with (at_builtin; refine wpList_append_own _ rfl (.tmp 59) (.tmp 64) 34 rfl w0.heap.size 31 i0 (.int .u64 0) 1 8 Tryz.underlying34 hi hz0 hz1 hz2 rfl (by decide) _ _ _ rfl (own_keep (allocB _ _) O3.out) ⟨w3.heap.size, 0, none⟩ 1 1 [.int .u64 x] rfl rfl (one_lies _ _ rfl _ _) (one_int _ _) (by unfold maxLen; omega) (by omega) (by simp; omega) ?_)
        intro v' w5 hown hgrow _
        have O5 : Hid (w5.ownsRow w0.heap.size 31 1 v' (M ++ [x]).length (vals (M ++ [x]))) := hidd (by
          have e1 : (M ++ [x]).length = M.length + 1 := by simp
          have e2 : vals (M ++ [x]) = vals M ++ [.int .u64 x] := by simp [vals]
          rw [e1, e2]; exact hown)
        have B5 := hidd ((B3.out.trans ((allocB w3 (.cells #[.int .u64 x] 31)).mono hs3)).grown hgrow (by simp; omega) (fun k hk => own_block O3.out k hk))
        clear hown hgrow
        go_wp2
        go_roundw
        case rel => exact ⟨i + 1, M ++ [x], by omega, by go_num, SN2, by simp; omega, O5, B5⟩
        case measure => simp [intOf]; omega
      all_goals
        have hcF : cb = false := by rw [hc.out]; exact decide_eq_false hno
        have SN2 : Hid (M = (L.take (i + 1)).filter (inCB K l1 l2 u1 u2)) := hidd (by rw [SN.out, hcF]; simp)
        clear hc SN hcF hno
        go_wp2_with fail
        go_roundw
        case rel => exact ⟨i + 1, M, by omega, by go_num, SN2, by omega, O3, B3⟩
        case measure => simp [intOf]; omega
    · obtain rfl : i = n := by omega
      have hlt' : decide ((i : Int) < (i : Int)) = false := by simp
      have e : M = L.filter (inCB K l1 l2 u1 u2) := by rw [hM.out, List.take_of_length_le (by rw [EN.out]; omega)]
      subst e
      have hO2 := hidd (own_mono hO.out (show w.heap.size ≤ w0.heap.size by omega))
      clear hM hlt
      go_wp2_with fail
      go_ret
      exact ⟨⟨_, rfl, hO2.out⟩, B0.out.trans (hB.out.mono (by omega))⟩

end Go.Proofs.YtdklpgphmoaniaaGreatDoor
