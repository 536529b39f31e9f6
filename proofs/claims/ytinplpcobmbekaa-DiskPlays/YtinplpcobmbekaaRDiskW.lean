/-
  What Write of the document's own disk does, in whatever memory where the disk lies.
-/
import Derived.Test.YtinplpcobmbekaaRDisk
import Derived.Laws.CopyOwn
import Derived.Below
import Derived.Test.YtinplpcobmbekaaProg
import Derived.Handy
import Derived.Deep.QuietTactic
import Derived.WalkSpells
import Derived.WalkLawsBesides
import Derived.BigQuiet
import Derived.PlainAid
import Derived.Deep.RegionWith
import Derived.Laws.BitsAllLaws
import Derived.OwnWalk
import Derived.Laws.OwnMore
import Derived.Deep.RegionHeld3
import Derived.WalkSmall
import Derived.Deep.CutRange
import Derived.BigRegion
import Derived.OneCell
import Derived.Sort.Row
import Derived.ChangeSlices
import Derived.OpenShut
import Derived.Deep.AppendLies
import Derived.Laws.BytesArg
import Derived.Laws.CopyRow
import Derived.Laws.IdiomCopy
import Derived.Deep.OwnRows
import Derived.Deep.RegionLaw
namespace Go.Proofs.Ytinplpcobmbekaa
open Go.RowKit

theorem infoWaitR : (Try.prog.info? 74).map (fun i => (i.zero, i.size, i.bytes)) = some (some (.agg #[.int .i64 0, .int .u8 0]), 2, 16) := by kernel_rfl

set_option maxRecDepth 100000 in
set_option maxHeartbeats 4000000 in
/-- Write. -/
theorem r_write {w : World} {P : Nat} {s : DS} {n : Nat} {F : Nat → Prop} {vn vl vw : Value} (h : RDV w P s n F vn vl vw) (a : Int) (a1 : -9223372036854775808 ≤ a) (a2 : a ≤ 9223372036854775807) (bs : List Int) (hb : ∀ x ∈ bs, 0 ≤ x ∧ x < 256) (hl : bs.length ≤ 1000000000) (hw : s.waits.length ≤ 1000000000) :
    Calls Try.prog 33 #[.pointer (some ⟨P, 0, none⟩), .int .i64 a, .string (strOfNums bs)] w fun e w' => RTells P (wrS s n a bs) n F (.int .i64 (rdK s n a bs.length)) w e w' := by
  have OU := hidd (r_outside h a bs.length a1 a2 (by omega) (by omega))
  have c4 := h.blk.cells.2.2.2.2
  have hsz := strOfNums_size bs
  have IX := hidd (str_index bs hb)
  have HB := hidd hb
  have BV := hidd (fun j => bV_len (bs.take j))
  obtain ⟨L, eL⟩ : ∃ L, bs.length = L := ⟨_, rfl⟩
  rw [eL] at hsz OU hl
  have EL := hidd eL
  obtain ⟨t, et⟩ : ∃ t, strOfNums bs = t := ⟨_, rfl⟩
  rw [et] at hsz IX ⊢
  obtain ⟨p, c, rfl⟩ := row_any h.now
  have hH := hidd h
  clear h eL et hb
  go_enter Try.func33, Try.ntmps33
  go_wp2_with fail
  refine OU.out.mono ?_
  rintro e w' ⟨rfl, rfl⟩
  cases ho : outD n a L
  · cases hd : s.dead
    · rw [hd] at c4
      have E12 := hidd (rd_ok ho hd)
      obtain ⟨i0, j0, rfl, e0, hij⟩ := out_no ho
      obtain rfl : L = j0 := by omega
      clear e0 OU ho a1 a2
      have HD := hidd hd
      clear hd
      have H0 : Hid (RDV w' P ⟨splice s.now i0 (bs.take 0), s.last, s.waits ++ zipAt i0 (bs.take 0), s.left, s.dead⟩ n F (.slice p n c) vl vw) := hidd (by simpa [zipAt, splice_nil] using hH.out)
      have HN := hidd hH.out.ok.now
      clear hH
      go_wp2_with fail
      clear c4
      go_loopw [7] (fun v7 wr => ∃ (i : Nat) (F' : Nat → Prop) (vw' : Value), i ≤ L ∧ v7 = .int .i64 (i : Int) ∧ Hid (RDV wr P ⟨splice s.now i0 (bs.take i), s.last, s.waits ++ zipAt i0 (bs.take i), s.left, s.dead⟩ n F' (.slice p n c) vl vw') ∧ Hid (Frm F w' wr) ∧ Hid (∀ k, F' k → F k ∨ w'.heap.size ≤ k)) (fun v7 _ => L - (intOf v7).toNat)
      case atStart => exact ⟨0, F, vw, by omega, rfl, H0, hidd (Frm.refl _ _), hidd fun k hk => .inl hk⟩
      case round =>
        clear H0
        obtain ⟨i, F', vw', hi, rfl, H, FR, FK⟩ := hrel
        by_cases h1 : i < L
        · have h1' : (i : Int) < (L : Int) := by omega
          have hiB : i < bs.length := by rw [EL.out]; exact h1
          obtain ⟨g, rfl⟩ := row_some H.out.now (by omega)
          have hadd : wrap64 ((i0 : Int) + (i : Int)) = ((i0 + i : Nat) : Int) := by rw [wrap_fits (by have := H.out.ok.size; omega)]; omega
          have c0 := H.out.blk.cells.1
          have c2 := H.out.blk.cells.2.2.1
          have hlt : i0 + i < (splice s.now i0 (bs.take i)).length := by have := H.out.ok.now; simp only at this; omega
          have e0 := bytes_at H.out.now (i0 + i) hlt
          generalize (splice s.now i0 (bs.take i))[i0 + i] = z at e0
          clear hlt
          have e1 := H.out.now.frozenAt (i0 + i)
          have hin : i0 + i < n := by omega
          obtain ⟨hs1, hs2⟩ := H.out.now.stored (i0 + i) (.int .u8 bs[i])
          have hbx := HB.out _ (List.getElem_mem hiB)
          have X := H.out.nows (L := (splice s.now i0 (bs.take i)).set (i0 + i) bs[i]) (by rw [← bV_set]; exact hs1) hs2 (fun z hz => by
            rcases List.mem_or_eq_of_mem_set hz with hz | rfl
            · exact H.out.ok.nb z hz
            · exact hbx)
          rw [← splice_next hiB i0 (by rw [HN.out, EL.out]; exact hij)] at X
          have H1 := hidd X.1.drew
          have F1 := hidd (FR.out.trans X.2 FK.out).drewR
          have TN := hidd (take_next hiB i0)
          have IXi := IX.out i hiB
          obtain ⟨q, hq⟩ : ∃ q, i0 + i = q := ⟨_, rfl⟩
          rw [hq] at hadd e0 e1 hin H1 F1 TN
          have HQ := hidd hq
          clear hq
          generalize bs[i] = x at *
          clear X hs1 hs2 H FR
          go_wp2_with fail
          go_big_region
          all_goals
            have c0' := H1.out.blk.cells.1
            have c2' := H1.out.blk.cells.2.2.1
            have r2 := H1.out.blk.frozen 2
            clear c0 c2 e0 e1
            generalize (wr.setCell ⟨g, q, none⟩ (.int .u8 x)).drew = w1 at *
            have HW := H1.out.wait
            obtain ⟨m, em⟩ : ∃ m, (s.waits ++ zipAt i0 (bs.take i)).length = m := ⟨_, rfl⟩
            simp only [em] at HW
            obtain ⟨o, cw, rfl⟩ := row_any HW
            have hm : m ≤ 2000000000 := by rw [← em, List.length_append, zipAt_len, List.length_take]; omega
            have al := allocB w1 (.cells #[.int .i64 (q : Int), .int .u8 x] 74)
            have hOa := hidd (own_keep al HW)
            have CS := hidd (And.intro (keepCell al c2') (keepFrozen al c2' r2))
            have hneQ : some (⟨P, 2, none⟩ : Addr).block ≠ (Value.slice o m cw).ownBlock := fun e => (H1.out.fw P e.symm).2 rfl
            obtain ⟨i9, hi9, hz0, hz1, hz2⟩ := info_partsD infoWaitR
            have EM := hidd em
            have ca2 := keepCell al c2'
            have fa2 := keepFrozen al c2' r2
            have hadd2 : IntKind.i64.wrap ((i0 : Int) + (i : Int)) = (q : Int) := by have h := hadd; unfold wrap64 at h; rw [IntKind.wrap_i64]; omega
            clear HW em al
            go_wp2_with fail
            go_region_law ((refine step_append_lies _ (by rfl) _ _ _ (by rfl) 0 74 i9 (.agg #[.int .i64 0, .int .u8 0]) 2 16 Try.underlying46 hi9 hz0 hz1 hz2 rfl (by decide) _ m (wV (s.waits ++ zipAt i0 (bs.take i))) (by rfl) hOa.out ⟨w1.heap.size, 0, none⟩ 1 1 [.int .i64 (q : Int), .int .u8 x] (by rfl) rfl (wait_lie w1.drew w1.heap.size rfl (q : Int) x 74) (wait_one _ _) (by decide) (by unfold maxLen; omega) (by omega) (Nat.zero_le _) (w1.heap.size + 1) (by simp) ?_; intro g6 c6 w6 hown hgrow hat hlt6; obtain ⟨cs6, fs6⟩ := far_keepD hgrow hneQ CS.out))
            all_goals
              obtain ⟨X1, X2, X3⟩ := H1.out.pushed EM.out hgrow hown hat ⟨by omega, by omega, hbx.1, hbx.2⟩
              simp only [List.append_assoc] at X1
              rw [← TN.out] at X1
              have Y1 := hidd X1
              have Y2 := hidd (F1.out.trans X2 FK.out)
              have Y3 : Hid (∀ k, (F' k ∨ k = g6) → F k ∨ w'.heap.size ≤ k) := hidd fun k hk => (X3 k hk).elim (FK.out k) fun h => .inr (Nat.le_trans F1.out.size h)
              clear X1 X2 X3 hgrow hown hat
              go_wp2_with fail
              go_roundw
              case rel => exact ⟨i + 1, _, _, by omega, by go_num, Y1, Y2, Y3⟩
              case measure => simp [intOf]; omega
        · obtain rfl : i = L := by omega
          have h1' : decide ((i : Int) < (i : Int)) = false := by simp
          have H1 := H
          have F1 := FR
          have K1 := FK
          clear H FR FK
          go_wp2_with fail
          refine (r_count H1.out).mono ?_
          rintro e w4 ⟨rfl, h4, f4⟩
          have H4 := hidd h4
          have F4 := hidd (F1.out.trans f4 K1.out)
          clear h4 f4 H1 F1
          go_wp2
          go_ret
          refine ⟨by rw [EL.out, E12.out.1]; rfl, F', .slice p n c, vl, vw', ?_, F4.out, K1.out⟩
          have e : wrS s n i0 bs = s.wr i0 bs := by unfold wrS; rw [EL.out, E12.out.1]; rfl
          rw [e]
          have e2 : bs.take i = bs := List.take_of_length_le (by rw [EL.out]; omega)
          have X := H4.out
          rw [e2] at X
          exact X
    · rw [hd] at c4
      have E12 := hidd (rd_dead ho hd)
      go_wp2
      go_ret
      refine ⟨by rw [EL.out, E12.out.1]; rfl, F, .slice p n c, vl, vw, ?_, Frm.refl _ _, fun k hk => .inl hk⟩
      have e : wrS s n a bs = s := by unfold wrS; rw [EL.out, E12.out.1]; rfl
      rw [e]
      exact hH.out
  · have E12 := hidd (rd_arg (s := s) ho)
    go_wp2
    go_ret
    refine ⟨by rw [EL.out, E12.out.1]; rfl, F, .slice p n c, vl, vw, ?_, Frm.refl _ _, fun k hk => .inl hk⟩
    have e : wrS s n a bs = s := by unfold wrS; rw [EL.out, E12.out.1]; rfl
    rw [e]
    exact hH.out

end Go.Proofs.Ytinplpcobmbekaa
