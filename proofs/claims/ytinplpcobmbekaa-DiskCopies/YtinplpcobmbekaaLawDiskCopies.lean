/-
  A Copy goes on by itself: with what waits, and what is set; what is done to the one is not done to the other: for all scripts and numbers, in whatever memory.
-/
import Derived.Test.YtinplpcobmbekaaCDisk
import Derived.Test.YtinplpcobmbekaaDAwake
import Derived.Test.YtinplpcobmbekaaRHand
import Derived.Test.YtinplpcobmbekaaLScr
import Derived.Laws.CopyOwn
import Derived.Below
import Derived.Test.YtinplpcobmbekaaProg
import Derived.Handy
import Derived.Deep.QuietTactic
import Derived.WalkSpells
import Derived.WalkLawsBesides
import Derived.BigQuiet
import Derived.PlainAid
import Derived.Deep.RegionWith
import Derived.Laws.BitsAllLaws
import Derived.OwnWalk
import Derived.Laws.OwnMore
import Derived.Deep.RegionHeld3
import Derived.WalkSmall
import Derived.Deep.CutRange
import Derived.BigRegion
import Derived.OneCell
import Derived.Sort.Row
import Derived.ChangeSlices
import Derived.OpenShut
import Derived.Deep.AppendLies
import Derived.Laws.BytesArg
import Derived.Laws.CopyRow
import Derived.Laws.IdiomCopy
import Derived.Deep.OwnRows
import Derived.Deep.RegionLaw
import Derived.ChangeArms
namespace Go.Proofs.Ytinplpcobmbekaa
open Go.RowKit

set_option maxRecDepth 100000 in
set_option maxHeartbeats 8000000 in
theorem diskCopies_walk (sX : Value) (X : List OpD) (k0 : Int) (W : World) (hX : OpsL W sX X) (k1 : -9223372036854775808 ≤ k0) (k2 : k0 ≤ 9223372036854775807) :
    Calls Try.prog 3 #[sX, .int .i64 k0] W fun e w' => TellsQ (.bool true) W e w' := by
  have CN := hidd (c_new W 200 (by omega) (by omega))
  have AW := hidd fun w => awake12 w
  have TX := hidd fun (n : Int) (T : Nat) (hT : T ≤ 64) w => a_text n T hT w
  obtain ⟨p, c, rfl, hc, hcell⟩ := hX
  have HC := hidd hcell
  have K12 := hidd (And.intro k1 k2)
  obtain ⟨L, eL⟩ : ∃ L, X.length = L := ⟨_, rfl⟩
  have EL := hidd eL
  rw [eL] at hc ⊢
  clear hcell eL k1 k2
  go_enter Try.func3, Try.ntmps3
  go_wp2_with fail
  refine CN.out.mono ?_
  rintro e w1 ⟨P, F, rfl, D, b, f⟩
  have e200 : clampN 200 = 200 := rfl
  rw [e200] at D
  have D1 := hidd (LD.start D b f)
  have CN2 := hidd (c_new w1 200 (by omega) (by omega))
  clear CN D b f
  go_wp2_with fail
  refine CN2.out.mono ?_
  rintro e w2 ⟨Q, G, rfl, D, b, f⟩
  rw [e200] at D
  have D2 := hidd (D1.out.two D b f)
  have S2 : Hid ((newD 200).waits.length ≤ 63 * 0) := hidd (Nat.le_refl _)
  clear CN2 D1 D b f e200
  go_wp2_with fail
  go_loopw [7] (fun v7 wr => ∃ (i : Nat) (s : DS) (F G : Nat → Prop), i ≤ L ∧ i ≤ 30 ∧ v7 = .int .i64 (i : Int) ∧ Hid (LD2 W.heap.size W wr P s 200 F Q s 200 G) ∧ Hid (s.waits.length ≤ 63 * i)) (fun v7 _ => 30 - (intOf v7).toNat)
  case atStart => exact ⟨0, _, F, G, by omega, by omega, rfl, D2, S2⟩
  case round =>
    clear D2 S2
    obtain ⟨i, s, F, G, hi, hi30, rfl, D, S⟩ := hrel
    have hz : (i < L ∧ i < 30) ∨ ¬ i < L ∨ (i < L ∧ ¬ i < 30) := by omega
    rcases hz with ⟨h1, h2⟩ | h1 | ⟨h1, h2⟩
    · have hiX : i < X.length := by rw [EL.out]; exact h1
      obtain ⟨g, off, rfl, q0, q1, q2, q3, B0, B1, B2, B3⟩ := ops_at HC.out D.out.d.bel i hiX
      have h1' : (i : Int) < (L : Int) := by omega
      have h2' : (i : Int) < 30 := by omega
      generalize X[i] = o at *
      have HB := hidd (And.intro B0 (And.intro B1 (And.intro B2 B3)))
      have O1 : Hid (LDO W.heap.size W (wr.alloc (.cells #[.int .i64 o.kind, .int .i64 o.at_, .int .i64 o.n, .int .i64 o.keep] 26)) P s 200 F Q s 200 G wr.heap.size o) := hidd
        ⟨D.out.quiet (allocB _ _), ⟨by go_simp, by go_simp, by go_simp, by go_simp⟩, fun e => by have := D.out.d.cd.lt _ e; omega, fun e => by have := D.out.e.cd.lt _ e; omega⟩
      have HKD : Hid (o.kind = 0 ∨ o.kind = 1 ∨ o.kind = 3 ∨ o.kind = 4 ∨ (¬ o.kind = 0 ∧ ¬ o.kind = 1 ∧ ¬ o.kind = 3 ∧ ¬ o.kind = 4)) := hidd (by omega)
      have SF := hidd (stepD_few 200 s o)
      obtain ⟨s', es⟩ : ∃ s', stepD 200 s o = s' := ⟨_, rfl⟩
      have ES := hidd es
      rw [es] at SF
      obtain ⟨bo, ebo⟩ : ∃ bo, wr.heap.size = bo := ⟨_, rfl⟩
      rw [ebo] at O1
      clear D B0 B1 B2 B3 es
      go_wp2_with fail
      go_loopw [9] (fun v9 wr => ∃ (F G : Nat → Prop), (v9 = .int .i64 0 ∧ Hid (LDO W.heap.size W wr P s 200 F Q s 200 G bo o)) ∨ (v9 = .int .i64 1 ∧ Hid (LDO W.heap.size W wr P s' 200 F Q s 200 G bo o)) ∨ (v9 = .int .i64 2 ∧ Hid (LDO W.heap.size W wr P s' 200 F Q s' 200 G bo o))) (fun v9 _ => 2 - (intOf v9).toNat)
      case atStart => exact ⟨F, G, .inl ⟨rfl, O1⟩⟩
      case round =>
        clear O1
        obtain ⟨F, G, hrel⟩ := hrel
        rcases hrel with ⟨rfl, D⟩ | ⟨rfl, D⟩ | ⟨rfl, D⟩
        · skip
          rcases HKD.out with hk | hk | hk | hk | ⟨n0, n1, n3, n4⟩
          · skip
            have DA := hidd (D.out.quiet (allocB wr (.cells #[.pointer (some ⟨P, 0, none⟩), .pointer (some ⟨Q, 0, none⟩)] 23)))
            have y0 := DA.out.op.c0
            have y1 := DA.out.op.c1
            have y2 := DA.out.op.c2
            have y3 := DA.out.op.c3
            rw [hk] at y0
            replace hk := hidd hk
            clear D
            go_wp2_with fail
            generalize wr.alloc (.cells #[.pointer (some ⟨P, 0, none⟩), .pointer (some ⟨Q, 0, none⟩)] 23) = wb at *
            have DW := hidd (DA.out.quiet (drewB wb))
            have x1 := DW.out.op.c1
            have x2 := DW.out.op.c2
            have eS : s' = wrS s 200 o.at_ (opBs o) := ES.out.symm.trans (stepD_0 hk)
            have HES := hidd eS
            have HBN := HB.out
            obtain ⟨T, hT⟩ : ∃ T : Nat, (o.n / 256 % 64).toNat = T := ⟨_, rfl⟩
            have eT : bits .and .i64 (o.n / 256) 63 = (T : Int) := by
              have h := i64_mask (o.n / 256) 6 (by omega)
              rw [show (((2 ^ 6 - 1 : Nat)) : Int) = 63 by decide, show (((2 ^ 6 : Nat)) : Int) = 64 by decide] at h
              rw [h]
              omega
            have hT64 : T ≤ 63 := by omega
            have hbl : (opBs o).length = T := (opBs_len o).2.trans hT
            have HBL := hidd hbl
            have TI := hidd fun w => TX.out o.n T (by omega) w
            have HOB : Hid (textL o.n T = opBs o) := hidd (by unfold opBs; rw [hT])
            have HBB : Hid (∀ x ∈ opBs o, 0 ≤ x ∧ x < 256) := hidd (textL_mem _ _)
            have AT := hidd HB.out.2.1
            rw [HOB.out] at TI
            obtain ⟨t, et⟩ : ∃ t, strOfNums (opBs o) = t := ⟨_, rfl⟩
            rw [et] at TI
            have ET := hidd et
            obtain ⟨oa, eoa⟩ : ∃ x, o.at_ = x := ⟨_, rfl⟩
            obtain ⟨on, eon⟩ : ∃ x, o.n = x := ⟨_, rfl⟩
            rw [eoa] at x1 AT HES
            rw [eon] at x2 eT TI
            have NEW : Hid (∀ w2 w3 : World, LDO W.heap.size W w2 P s 200 F Q s 200 G bo o → Below w2.heap.size w2 w3 → ∀ cb, LstB w3 (.slice (some ⟨w2.heap.size, 0, none⟩) T cb) (opBs o) → Calls Try.prog 10 #[.pointer (some ⟨P, 0, none⟩), .int .i64 oa, .slice (some ⟨w2.heap.size, 0, none⟩) T cb] w3 fun e w' => TellsCD P s' 200 F (.int .i64 (rdK s 200 oa (opBs o).length)) w3 e w') := hidd fun w2 w3 h2 b3 cb lb => by
              have h3 := h2.quiet b3
              have C := c_write h3.ds.d.cd oa AT.out.1 AT.out.2 _ (opBs o) HBB.out lb (fun _ z e hf => by
                have : w2.heap.size = z := by simpa [Value.ownBlock] using e
                have := h2.ds.d.cd.lt z hf
                omega) (by rw [HBL.out]; omega) (by have := S.out; omega)
              rw [← HES.out] at C
              exact C
            clear hT eS HBN hbl et eoa eon HB
            go_wp2_with fail
            refine wp_region_held_drew (S := (fun w' => w'.cell? ⟨bo, 1, none⟩ = some (.int .i64 oa) ∧ w'.cell? ⟨bo, 2, none⟩ = some (.int .i64 on))) (by kernel_rfl) ?vS0 (fun hHeld => ?_)
            case vS0 => (try dsimp only); exact ⟨x1, x2⟩
            refine take_atD (v := ?va0) 0 rfl (by kernel_rfl) (by kernel_rfl) (by kernel_rfl) (fun _ _ _ h => h) (Or.inl ⟨by rfl, ?vy0⟩) (by assumption) ?vr0
            case vy0 => (intro w' hSw; (try dsimp only at hSw); go_simp; try with_reducible rfl)
            (try simp only [Act.put, List.setIfInBounds_toArray, List.set_cons_zero, List.set_cons_succ])
            refine take_atD (v := ?va1) 1 rfl (by kernel_rfl) (by kernel_rfl) (by kernel_rfl) (fun _ _ _ h => h) (Or.inl ⟨by rfl, ?vy1⟩) (by assumption) ?vr1
            case vy1 => (intro w' hSw; (try dsimp only at hSw); go_simp; try with_reducible rfl)
            (try simp only [Act.put, List.setIfInBounds_toArray, List.set_cons_zero, List.set_cons_succ])
            refine take_atD (v := ?va2) 2 rfl (by kernel_rfl) (by kernel_rfl) (by kernel_rfl) (fun _ _ _ h => h) (Or.inl ⟨by rfl, ?vy2⟩) (by assumption) ?vr2
            case vy2 => (intro w' hSw; (try dsimp only at hSw); go_simp; try with_reducible rfl)
            (try simp only [Act.put, List.setIfInBounds_toArray, List.set_cons_zero, List.set_cons_succ])
            refine take_atD (v := ?va3) 3 rfl (by kernel_rfl) (by kernel_rfl) (by kernel_rfl) (fun _ _ _ h => h) (Or.inl ⟨by rfl, ?vy3⟩) (by assumption) ?vr3
            case vy3 => (intro w' hSw; (try dsimp only at hSw); go_simp; try with_reducible rfl)
            (try simp only [Act.put, List.setIfInBounds_toArray, List.set_cons_zero, List.set_cons_succ])
            refine take_atD (v := ?va4) 4 rfl (by kernel_rfl) (by kernel_rfl) (by kernel_rfl) (fun _ _ _ h => h) (Or.inl ⟨by rfl, ?vy4⟩) (by assumption) ?vr4
            case vy4 => (intro w' hSw; (try dsimp only at hSw); go_simp; try with_reducible rfl)
            (try simp only [Act.put, List.setIfInBounds_toArray, List.set_cons_zero, List.set_cons_succ])
            refine take_atD (v := ?va5) 5 rfl (by kernel_rfl) (by kernel_rfl) (by kernel_rfl) (fun _ _ _ h => h) (Or.inl ⟨by rfl, ?vy5⟩) (by assumption) ?vr5
            case vy5 => (intro w' hSw; (try dsimp only at hSw); go_simp; try with_reducible rfl)
            (try simp only [Act.put, List.setIfInBounds_toArray, List.set_cons_zero, List.set_cons_succ])
            refine take_atD (v := ?va6) 6 rfl (by kernel_rfl) (by kernel_rfl) (by kernel_rfl) (fun _ _ _ h => h) (Or.inl ⟨by rfl, ?vy6⟩) (by assumption) ?vr6
            case vy6 => (intro w' hSw; (try dsimp only at hSw); go_simp; try with_reducible rfl)
            (try simp only [Act.put, List.setIfInBounds_toArray, List.set_cons_zero, List.set_cons_succ])
            refine take_atD (v := ?va7) 7 rfl (by kernel_rfl) (by kernel_rfl) (by kernel_rfl) (fun _ _ _ h => h) (Or.inl ⟨by rfl, ?vy7⟩) (by assumption) ?vr7
            case vy7 => (intro w' hSw; (try dsimp only at hSw); go_simp; try with_reducible rfl)
            (try simp only [Act.put, List.setIfInBounds_toArray, List.set_cons_zero, List.set_cons_succ])
            refine take_atD (v := ?va8) 8 rfl (by kernel_rfl) (by kernel_rfl) (by kernel_rfl) (fun _ _ _ h => h) (Or.inl ⟨by rfl, ?vy8⟩) (by assumption) ?vr8
            case vy8 => (intro w' hSw; (try dsimp only at hSw); go_simp; try with_reducible rfl)
            (try simp only [Act.put, List.setIfInBounds_toArray, List.set_cons_zero, List.set_cons_succ])
            refine wpAnyH_ready (rs := [9]) (by kernel_rfl) (by simp) ?_
            refine ready_atD rfl (fun K hK => ?_)
            go_simp
            refine (TI.out _).mono ?_
            rintro e w2 ⟨rfl, b2⟩
            have D2 := hidd (DW.out.quiet b2)
            have hs2 : w2.cell? ⟨bo, 1, none⟩ = some (.int .i64 oa) ∧ w2.cell? ⟨bo, 2, none⟩ = some (.int .i64 on) := ⟨keepCell b2 x1, keepCell b2 x2⟩
            obtain ⟨cb, w3, hcv, lb, b3⟩ := run_bytes_text w2 (opBs o) HBB.out
            rw [ET.out, HBL.out] at hcv
            rw [HBL.out] at lb
            have C1 := hidd (NEW.out w2 w3 D2.out b3 cb lb)
            have D3 := hidd (D2.out.quiet b3)
            have hs3 : w3.cell? ⟨bo, 1, none⟩ = some (.int .i64 oa) ∧ w3.cell? ⟨bo, 2, none⟩ = some (.int .i64 on) := ⟨keepCell b3 hs2.1, keepCell b3 hs2.2⟩
            go_wp2_with fail
            refine hK.out _ _ ?vS9 (fun hHeld => ?_)
            case vS9 => (try dsimp only); exact hs2
            clear hK K
            (try simp only [Act.put, List.setIfInBounds_toArray, List.set_cons_zero, List.set_cons_succ])
            refine wpAnyH_ready (rs := [10]) (by kernel_rfl) (by simp) ?_
            refine ready_atD rfl (fun K hK => ?_)
            go_simp
            refine hK.out _ _ ?vS10 (fun hHeld => ?_)
            case vS10 => (try dsimp only); exact hs3
            clear hK K
            (try simp only [Act.put, List.setIfInBounds_toArray, List.set_cons_zero, List.set_cons_succ])
            refine wpAnyH_ready (rs := [11]) (by kernel_rfl) (by simp) ?_
            refine ready_atD rfl (fun K hK => ?_)
            go_simp
            refine C1.out.mono ?_
            rintro e w4 ⟨rfl, F4, d4, f4, k4⟩
            have D4 := hidd (D3.out.fst d4 f4 k4)
            have hs4 : w4.cell? ⟨bo, 1, none⟩ = some (.int .i64 oa) ∧ w4.cell? ⟨bo, 2, none⟩ = some (.int .i64 on) := ⟨cellF f4 hs3.1 D3.out.fb, cellF f4 hs3.2 D3.out.fb⟩
            go_wp2_with fail
            refine hK.out _ _ ?vS11 (fun hHeld => ?_)
            case vS11 => (try dsimp only); exact hs4
            clear hK K
            (try simp only [Act.put, List.setIfInBounds_toArray, List.set_cons_zero, List.set_cons_succ])
            refine wpAnyH_done (by kernel_rfl) ?_ _
            go_wp2_with fail
            go_roundw
            case rel => exact ⟨_, _, .inr (.inl ⟨by go_num, D4⟩)⟩
            case measure => simp [intOf]
          · skip
            have DA := hidd (D.out.quiet (allocB wr (.cells #[.pointer (some ⟨P, 0, none⟩), .pointer (some ⟨Q, 0, none⟩)] 23)))
            have y0 := DA.out.op.c0
            have y1 := DA.out.op.c1
            have y2 := DA.out.op.c2
            have y3 := DA.out.op.c3
            rw [hk] at y0
            replace hk := hidd hk
            clear D
            go_wp2_with fail
            generalize wr.alloc (.cells #[.pointer (some ⟨P, 0, none⟩), .pointer (some ⟨Q, 0, none⟩)] 23) = wb at *
            have eS : s' = syS s := ES.out.symm.trans (stepD_1 hk)
            have C1 := hidd (c_sync DA.out.ds.d.cd)
            rw [← eS] at C1
            clear eS
            go_wp2_with fail
            refine C1.out.mono ?_
            rintro e w4 ⟨rfl, F4, d4, f4, k4⟩
            have D4 := hidd (DA.out.fst d4 f4 k4)
            clear C1 DA d4 f4 k4
            go_wp2_with fail
            go_roundw
            case rel => exact ⟨_, _, .inr (.inl ⟨by go_num, D4⟩)⟩
            case measure => simp [intOf]
          · skip
            have DA := hidd (D.out.quiet (allocB wr (.cells #[.pointer (some ⟨P, 0, none⟩), .pointer (some ⟨Q, 0, none⟩)] 23)))
            have y0 := DA.out.op.c0
            have y1 := DA.out.op.c1
            have y2 := DA.out.op.c2
            have y3 := DA.out.op.c3
            rw [hk] at y0
            replace hk := hidd hk
            clear D
            go_wp2_with fail
            generalize wr.alloc (.cells #[.pointer (some ⟨P, 0, none⟩), .pointer (some ⟨Q, 0, none⟩)] 23) = wb at *
            have eS : s' = s.stop o.n := ES.out.symm.trans (stepD_3 hk)
            have C1 := hidd (c_stop DA.out.ds.d.cd o.n HB.out.2.2.1.1 HB.out.2.2.1.2)
            rw [← eS] at C1
            clear eS
            go_wp2_with fail
            refine C1.out.mono ?_
            rintro e w4 ⟨rfl, F4, d4, f4, k4⟩
            have D4 := hidd (DA.out.fst d4 f4 k4)
            clear C1 DA d4 f4 k4
            go_wp2_with fail
            go_roundw
            case rel => exact ⟨_, _, .inr (.inl ⟨by go_num, D4⟩)⟩
            case measure => simp [intOf]
          · skip
            have DA := hidd (D.out.quiet (allocB wr (.cells #[.pointer (some ⟨P, 0, none⟩), .pointer (some ⟨Q, 0, none⟩)] 23)))
            have y0 := DA.out.op.c0
            have y1 := DA.out.op.c1
            have y2 := DA.out.op.c2
            have y3 := DA.out.op.c3
            rw [hk] at y0
            replace hk := hidd hk
            clear D
            go_wp2_with fail
            generalize wr.alloc (.cells #[.pointer (some ⟨P, 0, none⟩), .pointer (some ⟨Q, 0, none⟩)] 23) = wb at *
            have eS : s' = s.crash o.keep := ES.out.symm.trans (stepD_4 hk)
            have C1 := hidd (c_crash DA.out.ds.d.cd o.keep HB.out.2.2.2.1 HB.out.2.2.2.2)
            rw [← eS] at C1
            clear eS
            go_wp2_with fail
            refine C1.out.mono ?_
            rintro e w4 ⟨rfl, F4, d4, f4, k4⟩
            have D4 := hidd (DA.out.fst d4 f4 k4)
            clear C1 DA d4 f4 k4
            go_wp2_with fail
            go_roundw
            case rel => exact ⟨_, _, .inr (.inl ⟨by go_num, D4⟩)⟩
            case measure => simp [intOf]
          · skip
            have DA := hidd (D.out.quiet (allocB wr (.cells #[.pointer (some ⟨P, 0, none⟩), .pointer (some ⟨Q, 0, none⟩)] 23)))
            have y0 := DA.out.op.c0
            have y1 := DA.out.op.c1
            have y2 := DA.out.op.c2
            have y3 := DA.out.op.c3
            skip
            skip
            clear D
            go_wp2_with fail
            generalize wr.alloc (.cells #[.pointer (some ⟨P, 0, none⟩), .pointer (some ⟨Q, 0, none⟩)] 23) = wb at *
            have eS : s' = s := ES.out.symm.trans (stepD_n n0 n1 n3 n4)
            have D4 := hidd (DA.out.as eS)
            clear eS DA
            go_wp2_with fail
            go_roundw
            case rel => exact ⟨_, _, .inr (.inl ⟨by go_num, D4⟩)⟩
            case measure => simp [intOf]
        · skip
          rcases HKD.out with hk | hk | hk | hk | ⟨n0, n1, n3, n4⟩
          · skip
            have DA := hidd (D.out.swap.quiet (allocB wr (.cells #[.pointer (some ⟨P, 0, none⟩), .pointer (some ⟨Q, 0, none⟩)] 23)))
            have y0 := DA.out.op.c0
            have y1 := DA.out.op.c1
            have y2 := DA.out.op.c2
            have y3 := DA.out.op.c3
            rw [hk] at y0
            replace hk := hidd hk
            clear D
            go_wp2_with fail
            generalize wr.alloc (.cells #[.pointer (some ⟨P, 0, none⟩), .pointer (some ⟨Q, 0, none⟩)] 23) = wb at *
            have DW := hidd (DA.out.quiet (drewB wb))
            have x1 := DW.out.op.c1
            have x2 := DW.out.op.c2
            have eS : s' = wrS s 200 o.at_ (opBs o) := ES.out.symm.trans (stepD_0 hk)
            have HES := hidd eS
            have HBN := HB.out
            obtain ⟨T, hT⟩ : ∃ T : Nat, (o.n / 256 % 64).toNat = T := ⟨_, rfl⟩
            have eT : bits .and .i64 (o.n / 256) 63 = (T : Int) := by
              have h := i64_mask (o.n / 256) 6 (by omega)
              rw [show (((2 ^ 6 - 1 : Nat)) : Int) = 63 by decide, show (((2 ^ 6 : Nat)) : Int) = 64 by decide] at h
              rw [h]
              omega
            have hT64 : T ≤ 63 := by omega
            have hbl : (opBs o).length = T := (opBs_len o).2.trans hT
            have HBL := hidd hbl
            have TI := hidd fun w => TX.out o.n T (by omega) w
            have HOB : Hid (textL o.n T = opBs o) := hidd (by unfold opBs; rw [hT])
            have HBB : Hid (∀ x ∈ opBs o, 0 ≤ x ∧ x < 256) := hidd (textL_mem _ _)
            have AT := hidd HB.out.2.1
            rw [HOB.out] at TI
            obtain ⟨t, et⟩ : ∃ t, strOfNums (opBs o) = t := ⟨_, rfl⟩
            rw [et] at TI
            have ET := hidd et
            obtain ⟨oa, eoa⟩ : ∃ x, o.at_ = x := ⟨_, rfl⟩
            obtain ⟨on, eon⟩ : ∃ x, o.n = x := ⟨_, rfl⟩
            rw [eoa] at x1 AT HES
            rw [eon] at x2 eT TI
            have NEW : Hid (∀ w2 w3 : World, LDO W.heap.size W w2 Q s 200 G P s' 200 F bo o → Below w2.heap.size w2 w3 → ∀ cb, LstB w3 (.slice (some ⟨w2.heap.size, 0, none⟩) T cb) (opBs o) → Calls Try.prog 10 #[.pointer (some ⟨Q, 0, none⟩), .int .i64 oa, .slice (some ⟨w2.heap.size, 0, none⟩) T cb] w3 fun e w' => TellsCD Q s' 200 G (.int .i64 (rdK s 200 oa (opBs o).length)) w3 e w') := hidd fun w2 w3 h2 b3 cb lb => by
              have h3 := h2.quiet b3
              have C := c_write h3.ds.d.cd oa AT.out.1 AT.out.2 _ (opBs o) HBB.out lb (fun _ z e hf => by
                have : w2.heap.size = z := by simpa [Value.ownBlock] using e
                have := h2.ds.d.cd.lt z hf
                omega) (by rw [HBL.out]; omega) (by have := S.out; omega)
              rw [← HES.out] at C
              exact C
            clear hT eS HBN hbl et eoa eon HB
            go_wp2_with fail
            refine wp_region_held_drew (S := (fun w' => w'.cell? ⟨bo, 1, none⟩ = some (.int .i64 oa) ∧ w'.cell? ⟨bo, 2, none⟩ = some (.int .i64 on))) (by kernel_rfl) ?zS0 (fun hHeld => ?_)
            case zS0 => (try dsimp only); exact ⟨x1, x2⟩
            refine take_atD (v := ?za0) 0 rfl (by kernel_rfl) (by kernel_rfl) (by kernel_rfl) (fun _ _ _ h => h) (Or.inl ⟨by rfl, ?zy0⟩) (by assumption) ?zr0
            case zy0 => (intro w' hSw; (try dsimp only at hSw); go_simp; try with_reducible rfl)
            (try simp only [Act.put, List.setIfInBounds_toArray, List.set_cons_zero, List.set_cons_succ])
            refine take_atD (v := ?za1) 1 rfl (by kernel_rfl) (by kernel_rfl) (by kernel_rfl) (fun _ _ _ h => h) (Or.inl ⟨by rfl, ?zy1⟩) (by assumption) ?zr1
            case zy1 => (intro w' hSw; (try dsimp only at hSw); go_simp; try with_reducible rfl)
            (try simp only [Act.put, List.setIfInBounds_toArray, List.set_cons_zero, List.set_cons_succ])
            refine take_atD (v := ?za2) 2 rfl (by kernel_rfl) (by kernel_rfl) (by kernel_rfl) (fun _ _ _ h => h) (Or.inl ⟨by rfl, ?zy2⟩) (by assumption) ?zr2
            case zy2 => (intro w' hSw; (try dsimp only at hSw); go_simp; try with_reducible rfl)
            (try simp only [Act.put, List.setIfInBounds_toArray, List.set_cons_zero, List.set_cons_succ])
            refine take_atD (v := ?za3) 3 rfl (by kernel_rfl) (by kernel_rfl) (by kernel_rfl) (fun _ _ _ h => h) (Or.inl ⟨by rfl, ?zy3⟩) (by assumption) ?zr3
            case zy3 => (intro w' hSw; (try dsimp only at hSw); go_simp; try with_reducible rfl)
            (try simp only [Act.put, List.setIfInBounds_toArray, List.set_cons_zero, List.set_cons_succ])
            refine take_atD (v := ?za4) 4 rfl (by kernel_rfl) (by kernel_rfl) (by kernel_rfl) (fun _ _ _ h => h) (Or.inl ⟨by rfl, ?zy4⟩) (by assumption) ?zr4
            case zy4 => (intro w' hSw; (try dsimp only at hSw); go_simp; try with_reducible rfl)
            (try simp only [Act.put, List.setIfInBounds_toArray, List.set_cons_zero, List.set_cons_succ])
            refine take_atD (v := ?za5) 5 rfl (by kernel_rfl) (by kernel_rfl) (by kernel_rfl) (fun _ _ _ h => h) (Or.inl ⟨by rfl, ?zy5⟩) (by assumption) ?zr5
            case zy5 => (intro w' hSw; (try dsimp only at hSw); go_simp; try with_reducible rfl)
            (try simp only [Act.put, List.setIfInBounds_toArray, List.set_cons_zero, List.set_cons_succ])
            refine take_atD (v := ?za6) 6 rfl (by kernel_rfl) (by kernel_rfl) (by kernel_rfl) (fun _ _ _ h => h) (Or.inl ⟨by rfl, ?zy6⟩) (by assumption) ?zr6
            case zy6 => (intro w' hSw; (try dsimp only at hSw); go_simp; try with_reducible rfl)
            (try simp only [Act.put, List.setIfInBounds_toArray, List.set_cons_zero, List.set_cons_succ])
            refine take_atD (v := ?za7) 7 rfl (by kernel_rfl) (by kernel_rfl) (by kernel_rfl) (fun _ _ _ h => h) (Or.inl ⟨by rfl, ?zy7⟩) (by assumption) ?zr7
            case zy7 => (intro w' hSw; (try dsimp only at hSw); go_simp; try with_reducible rfl)
            (try simp only [Act.put, List.setIfInBounds_toArray, List.set_cons_zero, List.set_cons_succ])
            refine take_atD (v := ?za8) 8 rfl (by kernel_rfl) (by kernel_rfl) (by kernel_rfl) (fun _ _ _ h => h) (Or.inl ⟨by rfl, ?zy8⟩) (by assumption) ?zr8
            case zy8 => (intro w' hSw; (try dsimp only at hSw); go_simp; try with_reducible rfl)
            (try simp only [Act.put, List.setIfInBounds_toArray, List.set_cons_zero, List.set_cons_succ])
            refine wpAnyH_ready (rs := [9]) (by kernel_rfl) (by simp) ?_
            refine ready_atD rfl (fun K hK => ?_)
            go_simp
            refine (TI.out _).mono ?_
            rintro e w2 ⟨rfl, b2⟩
            have D2 := hidd (DW.out.quiet b2)
            have hs2 : w2.cell? ⟨bo, 1, none⟩ = some (.int .i64 oa) ∧ w2.cell? ⟨bo, 2, none⟩ = some (.int .i64 on) := ⟨keepCell b2 x1, keepCell b2 x2⟩
            obtain ⟨cb, w3, hcv, lb, b3⟩ := run_bytes_text w2 (opBs o) HBB.out
            rw [ET.out, HBL.out] at hcv
            rw [HBL.out] at lb
            have C1 := hidd (NEW.out w2 w3 D2.out b3 cb lb)
            have D3 := hidd (D2.out.quiet b3)
            have hs3 : w3.cell? ⟨bo, 1, none⟩ = some (.int .i64 oa) ∧ w3.cell? ⟨bo, 2, none⟩ = some (.int .i64 on) := ⟨keepCell b3 hs2.1, keepCell b3 hs2.2⟩
            go_wp2_with fail
            refine hK.out _ _ ?zS9 (fun hHeld => ?_)
            case zS9 => (try dsimp only); exact hs2
            clear hK K
            (try simp only [Act.put, List.setIfInBounds_toArray, List.set_cons_zero, List.set_cons_succ])
            refine wpAnyH_ready (rs := [10]) (by kernel_rfl) (by simp) ?_
            refine ready_atD rfl (fun K hK => ?_)
            go_simp
            refine hK.out _ _ ?zS10 (fun hHeld => ?_)
            case zS10 => (try dsimp only); exact hs3
            clear hK K
            (try simp only [Act.put, List.setIfInBounds_toArray, List.set_cons_zero, List.set_cons_succ])
            refine wpAnyH_ready (rs := [11]) (by kernel_rfl) (by simp) ?_
            refine ready_atD rfl (fun K hK => ?_)
            go_simp
            refine C1.out.mono ?_
            rintro e w4 ⟨rfl, F4, d4, f4, k4⟩
            have D4 := hidd (D3.out.fst d4 f4 k4)
            have hs4 : w4.cell? ⟨bo, 1, none⟩ = some (.int .i64 oa) ∧ w4.cell? ⟨bo, 2, none⟩ = some (.int .i64 on) := ⟨cellF f4 hs3.1 D3.out.fb, cellF f4 hs3.2 D3.out.fb⟩
            go_wp2_with fail
            refine hK.out _ _ ?zS11 (fun hHeld => ?_)
            case zS11 => (try dsimp only); exact hs4
            clear hK K
            (try simp only [Act.put, List.setIfInBounds_toArray, List.set_cons_zero, List.set_cons_succ])
            refine wpAnyH_done (by kernel_rfl) ?_ _
            go_wp2_with fail
            go_roundw
            case rel => exact ⟨_, _, .inr (.inr ⟨by go_num, hidd D4.out.swap⟩)⟩
            case measure => simp [intOf]
          · skip
            have DA := hidd (D.out.swap.quiet (allocB wr (.cells #[.pointer (some ⟨P, 0, none⟩), .pointer (some ⟨Q, 0, none⟩)] 23)))
            have y0 := DA.out.op.c0
            have y1 := DA.out.op.c1
            have y2 := DA.out.op.c2
            have y3 := DA.out.op.c3
            rw [hk] at y0
            replace hk := hidd hk
            clear D
            go_wp2_with fail
            generalize wr.alloc (.cells #[.pointer (some ⟨P, 0, none⟩), .pointer (some ⟨Q, 0, none⟩)] 23) = wb at *
            have eS : s' = syS s := ES.out.symm.trans (stepD_1 hk)
            have C1 := hidd (c_sync DA.out.ds.d.cd)
            rw [← eS] at C1
            clear eS
            go_wp2_with fail
            refine C1.out.mono ?_
            rintro e w4 ⟨rfl, F4, d4, f4, k4⟩
            have D4 := hidd (DA.out.fst d4 f4 k4)
            clear C1 DA d4 f4 k4
            go_wp2_with fail
            go_roundw
            case rel => exact ⟨_, _, .inr (.inr ⟨by go_num, hidd D4.out.swap⟩)⟩
            case measure => simp [intOf]
          · skip
            have DA := hidd (D.out.swap.quiet (allocB wr (.cells #[.pointer (some ⟨P, 0, none⟩), .pointer (some ⟨Q, 0, none⟩)] 23)))
            have y0 := DA.out.op.c0
            have y1 := DA.out.op.c1
            have y2 := DA.out.op.c2
            have y3 := DA.out.op.c3
            rw [hk] at y0
            replace hk := hidd hk
            clear D
            go_wp2_with fail
            generalize wr.alloc (.cells #[.pointer (some ⟨P, 0, none⟩), .pointer (some ⟨Q, 0, none⟩)] 23) = wb at *
            have eS : s' = s.stop o.n := ES.out.symm.trans (stepD_3 hk)
            have C1 := hidd (c_stop DA.out.ds.d.cd o.n HB.out.2.2.1.1 HB.out.2.2.1.2)
            rw [← eS] at C1
            clear eS
            go_wp2_with fail
            refine C1.out.mono ?_
            rintro e w4 ⟨rfl, F4, d4, f4, k4⟩
            have D4 := hidd (DA.out.fst d4 f4 k4)
            clear C1 DA d4 f4 k4
            go_wp2_with fail
            go_roundw
            case rel => exact ⟨_, _, .inr (.inr ⟨by go_num, hidd D4.out.swap⟩)⟩
            case measure => simp [intOf]
          · skip
            have DA := hidd (D.out.swap.quiet (allocB wr (.cells #[.pointer (some ⟨P, 0, none⟩), .pointer (some ⟨Q, 0, none⟩)] 23)))
            have y0 := DA.out.op.c0
            have y1 := DA.out.op.c1
            have y2 := DA.out.op.c2
            have y3 := DA.out.op.c3
            rw [hk] at y0
            replace hk := hidd hk
            clear D
            go_wp2_with fail
            generalize wr.alloc (.cells #[.pointer (some ⟨P, 0, none⟩), .pointer (some ⟨Q, 0, none⟩)] 23) = wb at *
            have eS : s' = s.crash o.keep := ES.out.symm.trans (stepD_4 hk)
            have C1 := hidd (c_crash DA.out.ds.d.cd o.keep HB.out.2.2.2.1 HB.out.2.2.2.2)
            rw [← eS] at C1
            clear eS
            go_wp2_with fail
            refine C1.out.mono ?_
            rintro e w4 ⟨rfl, F4, d4, f4, k4⟩
            have D4 := hidd (DA.out.fst d4 f4 k4)
            clear C1 DA d4 f4 k4
            go_wp2_with fail
            go_roundw
            case rel => exact ⟨_, _, .inr (.inr ⟨by go_num, hidd D4.out.swap⟩)⟩
            case measure => simp [intOf]
          · skip
            have DA := hidd (D.out.swap.quiet (allocB wr (.cells #[.pointer (some ⟨P, 0, none⟩), .pointer (some ⟨Q, 0, none⟩)] 23)))
            have y0 := DA.out.op.c0
            have y1 := DA.out.op.c1
            have y2 := DA.out.op.c2
            have y3 := DA.out.op.c3
            skip
            skip
            clear D
            go_wp2_with fail
            generalize wr.alloc (.cells #[.pointer (some ⟨P, 0, none⟩), .pointer (some ⟨Q, 0, none⟩)] 23) = wb at *
            have eS : s' = s := ES.out.symm.trans (stepD_n n0 n1 n3 n4)
            have D4 := hidd (DA.out.as eS)
            clear eS DA
            go_wp2_with fail
            go_roundw
            case rel => exact ⟨_, _, .inr (.inr ⟨by go_num, hidd D4.out.swap⟩)⟩
            case measure => simp [intOf]
        · have SN : Hid (s'.waits.length ≤ 63 * (i + 1)) := hidd (by have := SF.out; have := S.out; omega)
          go_wp2_with fail
          go_roundw
          case rel => exact ⟨i + 1, s', F, G, by omega, by omega, by go_num, hidd D.out.ds, SN⟩
          case measure => simp [intOf]; omega
    all_goals
      have CC := hidd (c_copy D.out.d.cd)
      have D1 := D
      clear D
      go_wp2_with fail
      refine CC.out.mono ?_
      rintro e w3 ⟨R, H, rfl, DC, b3, f3⟩
      have Dd := hidd (D1.out.d.quiet b3)
      have De := hidd (D1.out.e.two DC b3 f3)
      have AG : Hid (∀ z, F z → ¬ G z) := hidd D1.out.apart
      have AH : Hid (∀ z, F z → ¬ H z) := hidd fun z hz hz' => by have := D1.out.d.cd.lt z hz; have := f3 z hz'; omega
      have C1 := hidd (c_crash Dd.out.cd k0 K12.out.1 K12.out.2)
      have HB3 := hidd b3.size
      clear CC D1 DC b3 f3
      go_wp2_with fail
      refine C1.out.mono ?_
      rintro e w4 ⟨rfl, F2, d4, f4, k4⟩
      have Dd2 := hidd (Dd.out.step d4 f4 k4)
      have De2 := hidd (De.out.aside f4 (fun z hz hz' => AG.out z hz' hz) (fun z hz hz' => AH.out z hz' hz) Dd.out.fresh)
      have AG2 : Hid (∀ z, F2 z → ¬ G z) := hidd fun z hz hz' => (k4 z hz).elim (fun h => AG.out z h hz') fun h => by have := De.out.d.cd.lt z hz'; omega
      have AH2 : Hid (∀ z, F2 z → ¬ H z) := hidd fun z hz hz' => (k4 z hz).elim (fun h => AH.out z h hz') fun h => by have := De.out.e.cd.lt z hz'; omega
      clear C1 d4 f4 k4 Dd De AG AH
      have CV : (convert 30 30 (.slice (some ⟨w4.heap.size, 0, none⟩) 4 4)).run Try.prog (w4.alloc (.cells #[.int .u8 103, .int .u8 111, .int .u8 110, .int .u8 101] 5)) = .ok (.slice (some ⟨w4.heap.size, 0, none⟩) 4 4) (w4.alloc (.cells #[.int .u8 103, .int .u8 111, .int .u8 110, .int .u8 101] 5 (4, 5))) := conv_mark w4 #[.int .u8 103, .int .u8 111, .int .u8 110, .int .u8 101] 5 4 4
      have LB := lst_litD w4 [103, 111, 110, 101] 4 5 (4, 5) #[]
      have Dd3 := Dd2.out.quiet (allocB w4 (.cells #[.int .u8 103, .int .u8 111, .int .u8 110, .int .u8 101] 5 (4, 5)))
      have De3 := hidd (De2.out.quiet (allocB w4 (.cells #[.int .u8 103, .int .u8 111, .int .u8 110, .int .u8 101] 5 (4, 5))))
      have C2 := hidd (c_write Dd3.cd 0 (by omega) (by omega) (.slice (some ⟨w4.heap.size, 0, none⟩) 4 4) [103, 111, 110, 101] (by simp) LB (fun _ z e => by
        have : w4.heap.size = z := by simpa [Value.ownBlock] using e
        intro hf
        have := Dd2.out.cd.lt z hf
        omega) (by simp) (by simp [DS.crash]))
      have Dd3 := hidd Dd3
      clear LB Dd2 De2
      go_wp2_with fail
      refine C2.out.mono ?_
      rintro e w5 ⟨rfl, F5, d5, f5, k5⟩
      have De4 := De3.out.aside f5 (fun z hz hz' => AG2.out z hz' hz) (fun z hz hz' => AH2.out z hz' hz) Dd3.out.fresh
      have C3 := hidd (c_waits De4.e.cd)
      have De4 := hidd De4
      obtain ⟨n, en⟩ : ∃ n, s.waits.length = n := ⟨_, rfl⟩
      rw [en] at C3
      have EN := hidd en
      clear C2 d5 f5 k5 Dd3 De3 AG2 AH2 CV en
      go_wp2_with fail
      refine C3.out.mono ?_
      rintro e w6 ⟨rfl, b6⟩
      have De5 := De4.out.quiet b6
      have C4 := hidd (c_waits De5.d.cd)
      rw [EN.out] at C4
      have De5 := hidd De5
      clear C3 De4 b6
      go_wp2_with fail
      refine C4.out.mono ?_
      rintro e w7 ⟨rfl, b7⟩
      have De6 := De5.out.quiet b7
      obtain ⟨bd, ebd⟩ : ∃ bd, s.dead = bd := ⟨_, rfl⟩
      have C5 := hidd (c_dead De6.e.cd)
      rw [ebd] at C5
      have EBD := hidd ebd
      have De6 := hidd De6
      clear C4 De5 b7 ebd
      go_wp2_with fail
      refine C5.out.mono ?_
      rintro e w8 ⟨rfl, b8⟩
      have De7 := De6.out.quiet b8
      have C6 := hidd (c_dead De7.d.cd)
      rw [EBD.out] at C6
      have De7 := hidd De7
      clear C5 De6 b8
      go_wp2_with fail
      refine C6.out.mono ?_
      rintro e w9 ⟨rfl, b9⟩
      have De8 := De7.out.quiet b9
      have C7 := hidd (c_crash De8.e.cd k0 K12.out.1 K12.out.2)
      have De8 := hidd De8
      clear C6 De7 b9
      go_wp2_with fail
      refine C7.out.mono ?_
      rintro e w10 ⟨rfl, H2, d10, f10, k10⟩
      have De9 := De8.out.snd d10 f10 k10
      have C8 := hidd (c_crash De9.d.cd k0 K12.out.1 K12.out.2)
      have De9 := hidd De9
      clear C7 De8 d10 f10 k10
      go_wp2_with fail
      refine C8.out.mono ?_
      rintro e w11 ⟨rfl, G2, d11, f11, k11⟩
      have De10 := De9.out.fst d11 f11 k11
      have hk0 : rdK (s.crash k0) 200 0 200 = 0 := (rd_ok (out_in (by omega) (by omega) (by omega)) rfl).1
      have C9 := hidd (c_read De10.e.cd 0 200 (by omega) (by omega) (by omega) (by omega))
      rw [hk0] at C9
      have HK0 := hidd hk0
      have De10 := hidd De10
      clear C8 De9 d11 f11 k11 hk0
      go_wp2_with fail
      refine C9.out.mono ?_
      rintro e w12 ⟨v, rfl, o1, b12⟩
      have De11 := De10.out.quiet b12
      have C10 := hidd (c_read De11.d.cd 0 200 (by omega) (by omega) (by omega) (by omega))
      rw [HK0.out] at C10
      have De11 := hidd De11
      have O1 := hidd o1
      clear C9 De10 b12 o1
      go_wp2_with fail
      refine C10.out.mono ?_
      rintro e w13 ⟨u, rfl, o2, b13⟩
      have De12 := hidd (De11.out.quiet b13)
      obtain ⟨t, et⟩ : ∃ t, strOfNums (rdL (s.crash k0) 200 0 200) = t := ⟨_, rfl⟩
      have CV1 := str_of_own (own_keep b13 O1.out)
      have CV2 := str_of_own o2
      rw [et] at CV1 CV2
      clear C10 De11 b13 o2 O1 et
      go_wp2_with fail
      refine (AW.out _).mono ?_
      rintro e w14 ⟨rfl, b14⟩
      have De13 := hidd (De12.out.quiet b14)
      clear De12 b14
      go_wp2
      go_ret
      exact ⟨rfl, De13.out.d.bel⟩

end Go.Proofs.Ytinplpcobmbekaa
