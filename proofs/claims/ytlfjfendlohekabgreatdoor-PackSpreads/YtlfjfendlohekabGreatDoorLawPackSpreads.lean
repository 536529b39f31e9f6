/-
  The law PackSpreads answers true for every two numbers and sizes, in whatever memory where the two tables hold what their texts lay.
-/
import Derived.Test.YtlfjfendlohekabGreatDoorVLook
import Derived.Test.YtlfjfendlohekabGreatDoorRIn
import Derived.Test.YtlfjfendlohekabGreatDoorRSize8
import Derived.Test.YtlfjfendlohekabGreatDoorKCov
import Derived.Test.YtlfjfendlohekabGreatDoorLitL
import Derived.Test.YtlfjfendlohekabGreatDoorPAwake
import Derived.Test.YtlfjfendlohekabGreatDoorProg
import Derived.Handy
import Derived.Deep.QuietTactic
import Derived.WalkSpells
import Derived.WalkLawsBesides
import Derived.BigQuiet
import Derived.PlainAid
import Derived.Deep.RegionWith
import Derived.Laws.BitsAllLaws
import Derived.Sort.Walk13a
import Derived.Sort.LotA
import Derived.Sort.LotB
import Derived.Sort.LotD1
import Derived.Deep.Draws
import Derived.WalkKit
import Derived.BigGuard
import Derived.BigCall
import Derived.CellFam
import Derived.Sort.WalkB3
import Derived.BigRegion
import Derived.Sort.WalkA6
import Derived.Deep.RegionHeld3
import Derived.WalkSmall
import Derived.Deep.CutRange
import Derived.OwnWalk
import Derived.Laws.OwnMore
import Derived.OneCell
import Derived.Laws.CopyOwn
import Derived.Sort.Row
import Derived.Laws.AppendOwn
import Derived.Laws.AppendOwnNone
import Derived.BigFrame
import Derived.Deep.AppendLies
import Derived.Deep.RegionLaw
import Derived.RangeFuncFrom
import Derived.RangeFuncCalls
import Derived.RangeFuncLeaves
import Derived.OwnWalkIn
import Derived.TacticsInMore
import Derived.LoopNIn
import Derived.LoopIn
import Derived.RegionIn
import Derived.Stop.RegionWithIn
import Derived.Sort.LotD3
import Derived.Deep.Cut
import Derived.Deep.LoopGhost
import Derived.Sort.WalkB12
import Derived.Deep.OwnRows
import Derived.ChangeSlices
import Derived.OpenShut
namespace Go.Proofs.YtlfjfendlohekabGreatDoor
open Go.RowKit Go

theorem keepTwoP {w0 a b : World} {p0 p1 : Addr} {v0 v1 : Value} (hb : Below a.heap.size a b) (h : a.cell? p0 = some v0 ∧ a.cell? p1 = some v1 ∧ Below w0.heap.size w0 a) :
    b.cell? p0 = some v0 ∧ b.cell? p1 = some v1 ∧ Below w0.heap.size w0 b := ⟨keepCell hb h.1, keepCell hb h.2.1, belowT h.2.2 hb⟩

theorem keepOneP {w0 a b : World} {p0 : Addr} {v0 : Value} (hb : Below a.heap.size a b) (h : a.cell? p0 = some v0 ∧ Below w0.heap.size w0 a) :
    b.cell? p0 = some v0 ∧ Below w0.heap.size w0 b := ⟨keepCell hb h.1, belowT h.2 hb⟩

theorem lit1_next (w : World) (o : Obj) (x : Int) (e : TypeId) : Lst ((w.alloc o).alloc (.cells #[.int .u64 x] e)) (.slice (some ⟨w.heap.size + 1, 0, none⟩) 1 1) [x] := by
  have h := lit1 (w.alloc o) x e
  have e1 : (w.alloc o).heap.size = w.heap.size + 1 := by simp
  rwa [e1] at h

section
variable {P : Program} {md : Region.Mode} {Q : Exit → Act → World → Prop} {S : World → Prop}
/-- An operation of a region that is taken first, by its place in the list. -/
theorem take_at (i : Nat) {l rest : List Oper} {oi : Oper} {v : Value} {fuel : Nat} {listed : Array Bool} {a : Act} {w : World} (hd : l.drop i = oi :: rest)
    (hs : Region.noSelect l.toArray = true) (hf : Region.free md l.toArray listed i = true) (hr : (Region.ready md l.toArray listed).contains i = true)
    (hQ : ∀ c a w, Q (.panic c) (a.put oi.dst v) w → Q (.panic c) a w) (hy : YieldsIf P l.toArray S oi v a) (hS : S w)
    (h : wpAnyH P md l.toArray Q S fuel (listed.setIfInBounds i true) (a.put oi.dst v) w) : wpAnyH P md l.toArray Q S (fuel + 1) listed a w := by
  have e : l.toArray[i]? = some oi := by
    rw [List.getElem?_toArray, ← List.head?_drop, hd]
    rfl
  exact wpAnyH_take e hs hf hr hQ hy hS h
/-- The one operation that may come up. -/
theorem ready_at {i : Nat} {l rest : List Oper} {o : Oper} {fuel : Nat} {listed : Array Bool} {a : Act} {w : World} (hd : l.drop i = o :: rest)
    (h : ∀ K' : Act → World → Prop, Shut (∀ a w, S w → (S w → wpAnyH P md l.toArray Q S fuel (listed.setIfInBounds i true) a w) → K' a w) → if Region.wanted o (yielded l.toArray a.tmps) = true then Oper.wp P o a w K' Q else K' (a.put o.dst undef) w) :
    AllReadyH P md l.toArray Q S fuel listed a w [i] := by
  have e : l.toArray[i]? = some o := by
    rw [List.getElem?_toArray, ← List.head?_drop, hd]
    rfl
  exact AllReadyH.cons e h AllReadyH.nil
end

set_option maxHeartbeats 16000000 in
set_option maxRecDepth 20000 in
theorem packSpreads_walk (x y r down : Int) (w : World) (hT : Tabs w) (_ : -9223372036854775808 ≤ x) (_ : x ≤ 9223372036854775807) (_ : -9223372036854775808 ≤ y) (_ : y ≤ 9223372036854775807) (_ : -9223372036854775808 ≤ r) (_ : r ≤ 9223372036854775807) (_ : -9223372036854775808 ≤ down) (_ : down ≤ 9223372036854775807) :
    Calls Tryz.prog 4 #[.int .i64 x, .int .i64 y, .int .i64 r, .int .i64 down] w fun e w' => e = .returned (.bool true) ∧ Below w.heap.size w w' := by
  have AW := hidd fun w h => pawake w h
  have HT := hidd hT
  obtain ⟨n, hn, n12, WD⟩ := aword_sz x y r
  replace WD := hidd WD
  have hD : ∃ D : Nat, bits .and .i64 down 3 = (D : Int) ∧ D ≤ 3 := by
    have h := i64_mask down 2 (by omega)
    rw [show (((2 ^ 2 - 1 : Nat)) : Int) = 3 by decide, show (((2 ^ 2 : Nat)) : Int) = 4 by decide] at h
    rw [h]
    exact ⟨(down % 4).toNat, by omega, by omega⟩
  obtain ⟨D, eD, hD3⟩ := hD
  obtain ⟨m, em⟩ : ∃ m : Nat, min ((n : Int) + (D : Int)) 12 = (m : Int) := ⟨(min ((n : Int) + (D : Int)) 12).toNat, by omega⟩
  have hnm : n ≤ m := by omega
  have hm12 : m ≤ 12 := by omega
  have hm3 : m - n ≤ 3 := by omega
  obtain ⟨q, hq⟩ : ∃ q : Nat, m - n = q := ⟨_, rfl⟩
  have emn : (m : Int) - (n : Int) = (q : Int) := by omega
  have hc : (7 : Int) ^ q ≤ 20000 := by
    rcases (show q = 0 ∨ q = 1 ∨ q = 2 ∨ q = 3 by omega) with rfl | rfl | rfl | rfl <;> decide
  have HQ := hidd hq
  have HC := hidd hc
  have SV := hidd fun w => r_seven q (by omega) w
  clear hT hn hq hc
  go_enter Tryz.func4, Tryz.ntmps4
  go_wp2_with fail
  refine (WD.out _).mono ?_
  rintro e w1 ⟨⟨v, rfl, hv, hvr, uv⟩, d1⟩
  have c1 : Below w.heap.size w w1 := Below.trans (by go_grown) (d1.mono (by simp; try omega))
  have hB := c1
  clear c1 d1
  have CE : Hid (∀ w, Calls Tryz.prog 11 #[.int .u64 v] w fun e w' => e = .returned (.tuple #[.agg #[.int .i64 (n : Int), .int .i64 (cellA v), .int .i64 (cellB v)], .int .i64 0]) ∧ Below w.heap.size w w') := hidd fun w => by
    have := rwcell_yes v hv w
    rwa [hvr] at this
  have HV := hidd (And.intro hv hvr)
  have U1 : Hid (∀ x ∈ [v], U64 x) := hidd fun x hx => by rw [List.mem_singleton] at hx; subst hx; exact uv
  have SP : Hid (∀ W, Below w.heap.size w W → ∀ s, Lst W s [v] → Calls Tryz.prog 12 #[s, .int .i64 (m : Int)] W fun e w' => TellsSpr [v] (m : Int) e w' ∧ Below W.heap.size W w') := hidd fun W hW s hl => p_spread s [v] (m : Int) (by omega) (by simp) U1.out W hl (HT.out.below hW)
  have SZ : Hid (∀ W s, Lst W s [v] → Calls Tryz.prog 13 #[s, .int .i64 (m : Int)] W fun e w' => (∃ z t, e = .returned (.tuple #[.int .i64 z, .int .i64 t]) ∧ SizeT [v] (m : Int) z t) ∧ Below W.heap.size W w') := hidd fun W s hl => p_size s [v] (m : Int) (by omega) (by simp) U1.out W hl
  have UV := hidd uv
  clear hv hvr uv WD
  generalize cellA v = A at CE
  generalize cellB v = B at CE
  go_wp2_with fail
  refine (CE.out _).mono ?_
  rintro e w2 ⟨rfl, d2⟩
  have c2 : Below w1.heap.size w1 w2 := Below.trans (by go_grown) (d2.mono (by simp; try omega))
  replace hB := belowT hB c2
  clear c2 d2
  go_wp2_with fail
  refine (SP.out _ (belowT hB (by go_grown)) _ (lit1_next _ _ _ _)).mono ?_
  rintro e w3 ⟨hs, d3⟩
  have c3 : Below w2.heap.size w2 w3 := Below.trans (by go_grown) (d3.mono (by simp; try omega))
  have x0 : w3.cell? ⟨w2.heap.size, 0, none⟩ = some (.int .i64 (n : Int)) := keepCell d3 (by go_simp)
  have qx0 := World.block_lt_of_cell? _ _ x0
  replace hB := belowT hB c3
  clear c3 d3
  obtain ⟨s3, K, rfl, hKr, hKm, hKl, hKL, -⟩ := spr_one (m := m) HV.out.1 HV.out.2 hnm hm12 (by rw [HQ.out]; exact HC.out) hs
  rw [HQ.out] at hKl
  obtain ⟨kl, ekl⟩ : ∃ kl, K.length = kl := ⟨_, rfl⟩
  have EK := hidd ekl
  rw [ekl] at hKl
  have HKL := hidd hKl
  have KR := hidd hKr
  have KM := hidd hKm
  have K3 := hidd hKL
  have KN : Hid (K.length ≤ 343) := hidd (by
    rw [ekl]
    have : (7 : Int) ^ q ≤ 343 := by
      rcases (show q = 0 ∨ q = 1 ∨ q = 2 ∨ q = 3 by omega) with rfl | rfl | rfl | rfl <;> decide
    omega)
  have X3 := Below.refl w3.heap.size w3
  obtain ⟨p3, c3, rfl, -, -⟩ := hKL
  rw [ekl]
  clear hs hKr hKm hKl ekl SP CE
  go_wp2_with fail
  refine (SZ.out _ _ (lit1 _ _ _)).mono ?_
  rintro e w4 ⟨⟨z, t, rfl, hz⟩, d4⟩
  have c4 : Below w3.heap.size w3 w4 := Below.trans (by go_grown) (d4.mono (by simp; try omega))
  replace x0 := keepCell c4 x0
  replace qx0 := World.block_lt_of_cell? _ _ x0
  replace hB := belowT hB c4
  replace X3 := belowT X3 c4
  clear c4 d4
  obtain ⟨rfl, rfl⟩ := size_yes (m := m) hm12 (within_one HV.out.1 (by rw [HV.out.2]; omega)) (by rw [cnt_one m HV.out.2, HQ.out]; have := HC.out; omega) hz
  rw [cnt_one m HV.out.2, HQ.out, ← HKL.out]
  have SV2 : Hid (∀ w, Calls Tryz.prog 14 #[.int .i64 (q : Int)] w fun e w' => e = .returned (.int .i64 (kl : Int)) ∧ Below w.heap.size w w') := hidd fun w => by rw [HKL.out]; exact SV.out w
  clear hz SZ SV
  go_wp2_with fail
  refine (SV2.out _).mono ?_
  rintro e w5 ⟨rfl, d5⟩
  have c5 : Below w4.heap.size w4 w5 := Below.trans (by go_grown) (d5.mono (by simp; try omega))
  replace x0 := keepCell c5 x0
  replace qx0 := World.block_lt_of_cell? _ _ x0
  replace hB := belowT hB c5
  replace X3 := belowT X3 c5
  clear c5 d5
  have K5 := hidd (K3.out.keep X3)
  have B5 := hidd hB
  obtain ⟨pk', ck', ek', -, hck⟩ := K5.out
  simp only [Value.slice.injEq] at ek'
  obtain ⟨rfl, -, rfl⟩ := ek'
  have HCK := hidd hck
  clear hck hB X3 K3 x0 qx0 SV2
  have hk343 : kl ≤ 343 := by have := KN.out; have := EK.out; omega
  obtain ⟨wq, rfl⟩ : ∃ z, z = w5 := ⟨_, rfl⟩
  go_wp2_with fail
  go_loopw [17] (fun v17 wr => ∃ i : Nat, i ≤ kl ∧ v17 = .int .i64 (i : Int) ∧ Hid (Below wq.heap.size wq wr)) (fun v17 _ => kl - (intOf v17).toNat)
  case atStart => exact ⟨0, by omega, rfl, hidd (Below.refl _ _)⟩
  case round =>
    obtain ⟨i, hi, rfl, hX⟩ := hrel
    by_cases hlt : i < kl
    · have hlt' : (i : Int) < (kl : Int) := by omega
      have hiK : i < K.length := by rw [EK.out]; exact hlt
      obtain ⟨g, o, rfl, x1⟩ := HCK.out i hiK
      replace x1 := keepCell hX.out x1
      have hm1 := (KM.out _).1 (List.getElem_mem hiK)
      have ux := whole_box hm1.1
      have WI := hidd fun w => r_wordin K[i] v ⟨by omega, by omega⟩ UV.out true (by simp only [true_iff]; exact ⟨hm1.1, hm1.2.2⟩) w
      have CV : Hid (∀ W s, Lst W s [v] → Calls Tryz.prog 16 #[s, .int .u64 K[i]] W fun e w' => e = .returned (.bool true) ∧ Below W.heap.size W w') := hidd fun W s hl => p_covers s [v] K[i] ⟨by omega, by omega⟩ (by simp) true (by simp only [true_iff]; exact ⟨hm1.1, v, by simp, hm1.2.2⟩) W hl
      clear hm1
      by_cases hi0 : 0 < i
      · obtain ⟨j, hj⟩ : ∃ j, i = j + 1 := ⟨i - 1, by omega⟩
        have hjK : j < K.length := by omega
        obtain ⟨g', o', e', x2⟩ := HCK.out j hjK
        simp only [Option.some.injEq, Addr.mk.injEq, and_true] at e'
        obtain ⟨rfl, rfl⟩ := e'
        replace x2 := keepCell hX.out x2
        have hris : decide (K[i] ≤ K[j]) = false := df (by
          have := rise_at KR.out (i := j) (j := i) hjK hiK (by omega)
          omega)
        have hi0' : decide ((0 : Int) < (i : Int)) = true := by simp; omega
        have ejw : IntKind.i64.wrap ((i : Int) - 1) = (j : Int) := by rw [IntKind.wrap_i64]; omega
        have hj00 : (0 : Int) ≤ (j : Int) := by omega
        have hj0 : (j : Int) < (kl : Int) := by omega
        have hjk : j < kl := by omega
        have UU := hidd ux
        clear ux hj
        generalize K[i]'_ = z at *
        generalize K[j]'_ = z2 at *
        have hS0 : wr.drew.cell? ⟨g, o + i, none⟩ = some (.int .u64 z) ∧ wr.drew.cell? ⟨g, o + j, none⟩ = some (.int .u64 z2) ∧ Below wr.heap.size wr wr.drew := ⟨x1, x2, (Below.refl _ _).drew⟩
        go_wp2_with fail
        go_cut [108] from 76 to 108 (fun v108 wx => v108 = .bool false ∧ Below wr.heap.size wr wx)
        case first =>
          go_region_held3 (fun w' => w'.cell? ⟨g, o + i, none⟩ = some (.int .u64 z) ∧ w'.cell? ⟨g, o + j, none⟩ = some (.int .u64 z2) ∧ Below wr.heap.size wr w') (first | exact hS0 | exact keepTwoP hb (by assumption) | exact keepTwoP (allocB _ _) (by assumption))
            (first | (go_at_call 15; with_reducible refine (WI.out _).mono ?_; rintro e w' ⟨rfl, hb⟩) | (go_at_call 16; with_reducible refine (CV.out _ _ (lit1 _ _ _)).mono ?_; rintro e w' ⟨rfl, hb⟩))
          all_goals
            rename_i hS
            go_wp2_with fail
            go_meet
            exact ⟨rfl, hS.2.2⟩
        case rest =>
          obtain ⟨rfl, hW⟩ := hcut
          have hX2 := hidd (belowT hX.out hW)
          clear x1 x2 hS0 WI CV hX
          go_wp2_with fail
          go_roundw
          case rel => exact ⟨i + 1, by omega, by go_num, hX2⟩
          case measure => simp [intOf]; omega
      · obtain rfl : i = 0 := by omega
        have hi0' : decide ((0 : Int) < 0) = false := by decide
        have hk0 : 0 < kl := hlt
        have UU := hidd ux
        clear ux
        generalize K[0]'_ = z at *
        rw [Nat.add_zero] at x1
        have hS0 : wr.drew.cell? ⟨g, o, none⟩ = some (.int .u64 z) ∧ Below wr.heap.size wr wr.drew := ⟨x1, (Below.refl _ _).drew⟩
        go_wp2_with fail
        go_cut [108] from 76 to 108 (fun v108 wx => v108 = .bool false ∧ Below wr.heap.size wr wx)
        case first =>
          refine wp_region_held_drew (S := (fun w' => w'.cell? ⟨g, o, none⟩ = some (.int .u64 z) ∧ Below wr.heap.size wr w')) (by kernel_rfl) ?hS0 (fun hHeld => ?_)
          case hS0 => (try dsimp only); exact hS0
          refine take_at (v := ?v0) 0 rfl (by kernel_rfl) (by kernel_rfl) (by kernel_rfl) (fun _ _ _ h => h) (Or.inl ⟨by rfl, ?hy0⟩) (by assumption) ?rest0
          case hy0 => (intro w' hSw; (try dsimp only at hSw); go_simp; try with_reducible rfl)
          (try simp only [Act.put, List.setIfInBounds_toArray, List.set_cons_zero, List.set_cons_succ])
          refine take_at (v := ?v1) 1 rfl (by kernel_rfl) (by kernel_rfl) (by kernel_rfl) (fun _ _ _ h => h) (Or.inl ⟨by rfl, ?hy1⟩) (by assumption) ?rest1
          case hy1 => (intro w' hSw; (try dsimp only at hSw); go_simp; try with_reducible rfl)
          (try simp only [Act.put, List.setIfInBounds_toArray, List.set_cons_zero, List.set_cons_succ])
          refine take_at (v := ?v2) 2 rfl (by kernel_rfl) (by kernel_rfl) (by kernel_rfl) (fun _ _ _ h => h) (Or.inl ⟨by rfl, ?hy2⟩) (by assumption) ?rest2
          case hy2 => (intro w' hSw; (try dsimp only at hSw); go_simp; try with_reducible rfl)
          (try simp only [Act.put, List.setIfInBounds_toArray, List.set_cons_zero, List.set_cons_succ])
          refine take_at (v := ?v3) 3 rfl (by kernel_rfl) (by kernel_rfl) (by kernel_rfl) (fun _ _ _ h => h) (Or.inl ⟨by rfl, ?hy3⟩) (by assumption) ?rest3
          case hy3 => (intro w' hSw; (try dsimp only at hSw); go_simp; try with_reducible rfl)
          (try simp only [Act.put, List.setIfInBounds_toArray, List.set_cons_zero, List.set_cons_succ])
          refine take_at (v := ?v4) 4 rfl (by kernel_rfl) (by kernel_rfl) (by kernel_rfl) (fun _ _ _ h => h) (Or.inl ⟨by rfl, ?hy4⟩) (by assumption) ?rest4
          case hy4 => (intro w' hSw; (try dsimp only at hSw); go_simp; try with_reducible rfl)
          (try simp only [Act.put, List.setIfInBounds_toArray, List.set_cons_zero, List.set_cons_succ])
          refine wpAnyH_ready (rs := [5]) (by kernel_rfl) (by simp) ?_
          refine ready_at rfl (fun K hK => ?_)
          go_simp
          with_reducible refine (WI.out _).mono ?_
          rintro e w' ⟨rfl, hb⟩
          go_wp2_with fail
          refine hK.out _ _ ?hS5 (fun hHeld => ?_)
          case hS5 => (try dsimp only); (first | exact keepOneP hb (by assumption) | exact keepOneP (allocB _ _) (by assumption))
          clear hK K
          (try simp only [Act.put, List.setIfInBounds_toArray, List.set_cons_zero, List.set_cons_succ])
          refine take_at (v := ?v6) 6 rfl (by kernel_rfl) (by kernel_rfl) (by kernel_rfl) (fun _ _ _ h => h) (Or.inl ⟨by rfl, ?hy6⟩) (by assumption) ?rest6
          case hy6 => (intro w' hSw; (try dsimp only at hSw); go_simp; try with_reducible rfl)
          (try simp only [Act.put, List.setIfInBounds_toArray, List.set_cons_zero, List.set_cons_succ])
          refine take_at (v := ?v7) 7 rfl (by kernel_rfl) (by kernel_rfl) (by kernel_rfl) (fun _ _ _ h => h) (Or.inl ⟨by rfl, ?hy7⟩) (by assumption) ?rest7
          case hy7 => (intro w' hSw; (try dsimp only at hSw); go_simp; try with_reducible rfl)
          (try simp only [Act.put, List.setIfInBounds_toArray, List.set_cons_zero, List.set_cons_succ])
          refine take_at (v := ?v8) 8 rfl (by kernel_rfl) (by kernel_rfl) (by kernel_rfl) (fun _ _ _ h => h) (Or.inl ⟨by rfl, ?hy8⟩) (by assumption) ?rest8
          case hy8 => (intro w' hSw; (try dsimp only at hSw); go_simp; try with_reducible rfl)
          (try simp only [Act.put, List.setIfInBounds_toArray, List.set_cons_zero, List.set_cons_succ])
          refine take_at (v := ?v9) 9 rfl (by kernel_rfl) (by kernel_rfl) (by kernel_rfl) (fun _ _ _ h => h) (Or.inl ⟨by rfl, ?hy9⟩) (by assumption) ?rest9
          case hy9 => (intro w' hSw; (try dsimp only at hSw); go_simp; try with_reducible rfl)
          (try simp only [Act.put, List.setIfInBounds_toArray, List.set_cons_zero, List.set_cons_succ])
          refine take_at (v := ?v10) 10 rfl (by kernel_rfl) (by kernel_rfl) (by kernel_rfl) (fun _ _ _ h => h) (Or.inl ⟨by rfl, ?hy10⟩) (by assumption) ?rest10
          case hy10 => (intro w' hSw; (try dsimp only at hSw); go_simp; try with_reducible rfl)
          (try simp only [Act.put, List.setIfInBounds_toArray, List.set_cons_zero, List.set_cons_succ])
          refine take_at (v := undef) 11 rfl (by kernel_rfl) (by kernel_rfl) (by kernel_rfl) (fun _ _ _ h => h) (Or.inr ⟨by rfl, rfl⟩) (by assumption) ?rest11
          (try simp only [Act.put, List.setIfInBounds_toArray, List.set_cons_zero, List.set_cons_succ])
          refine take_at (v := undef) 12 rfl (by kernel_rfl) (by kernel_rfl) (by kernel_rfl) (fun _ _ _ h => h) (Or.inr ⟨by rfl, rfl⟩) (by assumption) ?rest12
          (try simp only [Act.put, List.setIfInBounds_toArray, List.set_cons_zero, List.set_cons_succ])
          refine take_at (v := undef) 13 rfl (by kernel_rfl) (by kernel_rfl) (by kernel_rfl) (fun _ _ _ h => h) (Or.inr ⟨by rfl, rfl⟩) (by assumption) ?rest13
          (try simp only [Act.put, List.setIfInBounds_toArray, List.set_cons_zero, List.set_cons_succ])
          refine take_at (v := undef) 14 rfl (by kernel_rfl) (by kernel_rfl) (by kernel_rfl) (fun _ _ _ h => h) (Or.inr ⟨by rfl, rfl⟩) (by assumption) ?rest14
          (try simp only [Act.put, List.setIfInBounds_toArray, List.set_cons_zero, List.set_cons_succ])
          refine take_at (v := undef) 15 rfl (by kernel_rfl) (by kernel_rfl) (by kernel_rfl) (fun _ _ _ h => h) (Or.inr ⟨by rfl, rfl⟩) (by assumption) ?rest15
          (try simp only [Act.put, List.setIfInBounds_toArray, List.set_cons_zero, List.set_cons_succ])
          refine take_at (v := undef) 16 rfl (by kernel_rfl) (by kernel_rfl) (by kernel_rfl) (fun _ _ _ h => h) (Or.inr ⟨by rfl, rfl⟩) (by assumption) ?rest16
          (try simp only [Act.put, List.setIfInBounds_toArray, List.set_cons_zero, List.set_cons_succ])
          refine take_at (v := undef) 17 rfl (by kernel_rfl) (by kernel_rfl) (by kernel_rfl) (fun _ _ _ h => h) (Or.inr ⟨by rfl, rfl⟩) (by assumption) ?rest17
          (try simp only [Act.put, List.setIfInBounds_toArray, List.set_cons_zero, List.set_cons_succ])
          refine take_at (v := undef) 18 rfl (by kernel_rfl) (by kernel_rfl) (by kernel_rfl) (fun _ _ _ h => h) (Or.inr ⟨by rfl, rfl⟩) (by assumption) ?rest18
          (try simp only [Act.put, List.setIfInBounds_toArray, List.set_cons_zero, List.set_cons_succ])
          refine take_at (v := undef) 19 rfl (by kernel_rfl) (by kernel_rfl) (by kernel_rfl) (fun _ _ _ h => h) (Or.inr ⟨by rfl, rfl⟩) (by assumption) ?rest19
          (try simp only [Act.put, List.setIfInBounds_toArray, List.set_cons_zero, List.set_cons_succ])
          refine take_at (v := undef) 20 rfl (by kernel_rfl) (by kernel_rfl) (by kernel_rfl) (fun _ _ _ h => h) (Or.inr ⟨by rfl, rfl⟩) (by assumption) ?rest20
          (try simp only [Act.put, List.setIfInBounds_toArray, List.set_cons_zero, List.set_cons_succ])
          refine take_at (v := ?v21) 21 rfl (by kernel_rfl) (by kernel_rfl) (by kernel_rfl) (fun _ _ _ h => h) (Or.inl ⟨by rfl, ?hy21⟩) (by assumption) ?rest21
          case hy21 => (intro w' hSw; (try dsimp only at hSw); go_simp; try with_reducible rfl)
          (try simp only [Act.put, List.setIfInBounds_toArray, List.set_cons_zero, List.set_cons_succ])
          refine take_at (v := ?v22) 22 rfl (by kernel_rfl) (by kernel_rfl) (by kernel_rfl) (fun _ _ _ h => h) (Or.inl ⟨by rfl, ?hy22⟩) (by assumption) ?rest22
          case hy22 => (intro w' hSw; (try dsimp only at hSw); go_simp; try with_reducible rfl)
          (try simp only [Act.put, List.setIfInBounds_toArray, List.set_cons_zero, List.set_cons_succ])
          refine take_at (v := ?v23) 23 rfl (by kernel_rfl) (by kernel_rfl) (by kernel_rfl) (fun _ _ _ h => h) (Or.inl ⟨by rfl, ?hy23⟩) (by assumption) ?rest23
          case hy23 => (intro w' hSw; (try dsimp only at hSw); go_simp; try with_reducible rfl)
          (try simp only [Act.put, List.setIfInBounds_toArray, List.set_cons_zero, List.set_cons_succ])
          refine take_at (v := ?v24) 24 rfl (by kernel_rfl) (by kernel_rfl) (by kernel_rfl) (fun _ _ _ h => h) (Or.inl ⟨by rfl, ?hy24⟩) (by assumption) ?rest24
          case hy24 => (intro w' hSw; (try dsimp only at hSw); go_simp; try with_reducible rfl)
          (try simp only [Act.put, List.setIfInBounds_toArray, List.set_cons_zero, List.set_cons_succ])
          refine take_at (v := ?v26) 26 rfl (by kernel_rfl) (by kernel_rfl) (by kernel_rfl) (fun _ _ _ h => h) (Or.inl ⟨by rfl, ?hy26⟩) (by assumption) ?rest26
          case hy26 => (intro w' hSw; (try dsimp only at hSw); go_simp; try with_reducible rfl)
          (try simp only [Act.put, List.setIfInBounds_toArray, List.set_cons_zero, List.set_cons_succ])
          refine take_at (v := ?v27) 27 rfl (by kernel_rfl) (by kernel_rfl) (by kernel_rfl) (fun _ _ _ h => h) (Or.inl ⟨by rfl, ?hy27⟩) (by assumption) ?rest27
          case hy27 => (intro w' hSw; (try dsimp only at hSw); go_simp; try with_reducible rfl)
          (try simp only [Act.put, List.setIfInBounds_toArray, List.set_cons_zero, List.set_cons_succ])
          refine take_at (v := ?v28) 28 rfl (by kernel_rfl) (by kernel_rfl) (by kernel_rfl) (fun _ _ _ h => h) (Or.inl ⟨by rfl, ?hy28⟩) (by assumption) ?rest28
          case hy28 => (intro w' hSw; (try dsimp only at hSw); go_simp; try with_reducible rfl)
          (try simp only [Act.put, List.setIfInBounds_toArray, List.set_cons_zero, List.set_cons_succ])
          refine take_at (v := ?v29) 29 rfl (by kernel_rfl) (by kernel_rfl) (by kernel_rfl) (fun _ _ _ h => h) (Or.inl ⟨by rfl, ?hy29⟩) (by assumption) ?rest29
          case hy29 => (intro w' hSw; (try dsimp only at hSw); go_simp; try with_reducible rfl)
          (try simp only [Act.put, List.setIfInBounds_toArray, List.set_cons_zero, List.set_cons_succ])
          refine wpAnyH_ready (rs := [25]) (by kernel_rfl) (by simp) ?_
          refine ready_at rfl (fun K hK => ?_)
          go_simp
          refine hK.out _ _ ?hS25 (fun hHeld => ?_)
          case hS25 => (try dsimp only); (first | exact keepOneP hb (by assumption) | exact keepOneP (allocB _ _) (by assumption))
          clear hK K
          (try simp only [Act.put, List.setIfInBounds_toArray, List.set_cons_zero, List.set_cons_succ])
          refine wpAnyH_ready (rs := [30]) (by kernel_rfl) (by simp) ?_
          refine ready_at rfl (fun K hK => ?_)
          go_simp
          with_reducible refine (CV.out _ _ (lit1 _ _ _)).mono ?_
          rintro e w' ⟨rfl, hb⟩
          go_wp2_with fail
          refine hK.out _ _ ?hS30 (fun hHeld => ?_)
          case hS30 => (try dsimp only); (first | exact keepOneP hb (by assumption) | exact keepOneP (allocB _ _) (by assumption))
          clear hK K
          (try simp only [Act.put, List.setIfInBounds_toArray, List.set_cons_zero, List.set_cons_succ])
          refine take_at (v := ?v31) 31 rfl (by kernel_rfl) (by kernel_rfl) (by kernel_rfl) (fun _ _ _ h => h) (Or.inl ⟨by rfl, ?hy31⟩) (by assumption) ?rest31
          case hy31 => (intro w' hSw; (try dsimp only at hSw); go_simp; try with_reducible rfl)
          (try simp only [Act.put, List.setIfInBounds_toArray, List.set_cons_zero, List.set_cons_succ])
          refine take_at (v := ?v32) 32 rfl (by kernel_rfl) (by kernel_rfl) (by kernel_rfl) (fun _ _ _ h => h) (Or.inl ⟨by rfl, ?hy32⟩) (by assumption) ?rest32
          case hy32 => (intro w' hSw; (try dsimp only at hSw); go_simp; try with_reducible rfl)
          (try simp only [Act.put, List.setIfInBounds_toArray, List.set_cons_zero, List.set_cons_succ])
          refine wpAnyH_done (by kernel_rfl) ?_ _
          go_wp2_with fail
          go_meet
          exact ⟨rfl, hHeld.2⟩
        case rest =>
          obtain ⟨rfl, hW⟩ := hcut
          have hX2 := hidd (belowT hX.out hW)
          clear x1 hS0 WI CV hX
          go_wp2_with fail
          go_roundw
          case rel => exact ⟨0 + 1, by omega, by go_num, hX2⟩
          case measure => simp [intOf]; omega
    · obtain rfl : i = kl := by omega
      have hlt' : decide ((i : Int) < (i : Int)) = false := by simp
      have K6 := hidd (K5.out.keep hX.out)
      have B6 := hidd (belowT B5.out hX.out)
      have CM := hidd (p_compact _ K (by have := KN.out; omega) (fun x hx => by
        have := whole_box ((KM.out x).1 hx).1
        exact ⟨by omega, by omega⟩) wr K6.out)
      rw [EK.out] at CM
      clear hX hlt K5 B5 HCK
      go_wp2_with fail
      refine CM.out.mono ?_
      rintro e w6 ⟨hc, b6⟩
      obtain ⟨s6, P, rfl, hP, -, hPl, -, -⟩ := cmp_yes (r := m) (fun x hx => ⟨((KM.out x).1 hx).1, ((KM.out x).1 hx).2.1⟩) (by have := KN.out; omega) hc
      obtain rfl := packed_is hm12 hP (packed_single HV.out.1 (by rw [HV.out.2]; omega) KM.out)
      have P6 := hidd hPl
      have B7 := hidd (belowT B6.out b6)
      obtain ⟨p6, c6, rfl, -, -⟩ := hPl
      have SB := hidd (lsame _ _ [v] (by simp) _ (P6.out.keep (allocB w6 (.cells #[.int .u64 v] 26))) (lit1 w6 v 26))
      clear hc hP b6 CM K6 B6
      go_wp2_with fail
      refine SB.out.mono ?_
      rintro e w7 ⟨rfl, b7⟩
      have B8 := hidd (belowT B7.out (belowT (allocB w6 (.cells #[.int .u64 v] 26)) b7))
      have A9 := hidd (AW.out w7 (HT.out.below B8.out))
      clear b7 B7 SB
      go_wp2_with fail
      refine A9.out.mono ?_
      rintro e w8 ⟨rfl, b8⟩
      go_wp2_with fail
      go_ret
      exact ⟨rfl, belowT B8.out b8⟩

end Go.Proofs.YtlfjfendlohekabGreatDoor
