/-
  What the document's own disk does at each call, in whatever memory where it lies: the state behind it is that of DiskMath; it writes its own blocks alone.
-/
import Derived.Test.YtinplpcobmbekaaBD
import Derived.Test.YtinplpcobmbekaaDskRel
import Derived.Laws.CopyOwn
import Derived.Below
import Derived.Test.YtinplpcobmbekaaProg
import Derived.Handy
import Derived.Deep.QuietTactic
import Derived.WalkSpells
import Derived.WalkLawsBesides
import Derived.BigQuiet
import Derived.PlainAid
import Derived.Deep.RegionWith
import Derived.Laws.BitsAllLaws
import Derived.OwnWalk
import Derived.Laws.OwnMore
import Derived.Deep.RegionHeld3
import Derived.WalkSmall
import Derived.Deep.CutRange
import Derived.BigRegion
import Derived.OneCell
import Derived.Sort.Row
import Derived.ChangeSlices
import Derived.OpenShut
import Derived.Deep.AppendLies
import Derived.Laws.BytesArg
import Derived.Laws.CopyRow
import Derived.Laws.IdiomCopy
import Derived.Deep.OwnRows
import Derived.Deep.RegionLaw
namespace Go.Proofs.Ytinplpcobmbekaa
open Go.RowKit

/-- The document's own disk. -/
abbrev RDV := DskV 48 74 5

set_option maxHeartbeats 4000000 in
theorem r_count {w : World} {P : Nat} {s : DS} {n : Nat} {F : Nat → Prop} {vn vl vw : Value} (h : RDV w P s n F vn vl vw) :
    Calls Try.prog 38 #[.pointer (some ⟨P, 0, none⟩)] w fun e w' => e = .returned (.tuple #[]) ∧ RDV w' P s.cnt n F vn vl vw ∧ Frm F w w' := by
  obtain ⟨-, -, -, c3, c4⟩ := h.blk.cells
  have f3 := h.blk.frozen 3
  have f4 := h.blk.frozen 4
  have hl := h.ok.left
  have hH := hidd h
  by_cases h0 : 0 < s.left
  · have e : s.cnt = ⟨s.now, s.last, s.waits, s.left - 1, decide (s.left - 1 = 0)⟩ := if_pos h0
    have hE := hidd e
    clear h e
    go_enter Try.func38, Try.ntmps38
    go_wp2
    go_end0
    rw [hE.out]
    have D1 := hH.out.blk.set3 (s.left - 1)
    have D2 := D1.set4 (decide (s.left - 1 = 0))
    exact ⟨rfl, hH.out.mark (by omega) D2 (fun z hz => (set_far _ _ _ _ z hz).trans (set_far _ _ _ _ z hz)) (Nat.le_trans (set_size _ _ _) (set_size _ _ _)), (Frm.set (p := ⟨P, 3, none⟩) hH.out.fp _).trans (Frm.set (p := ⟨P, 4, none⟩) hH.out.fp _) fun j hj => .inl hj⟩
  · have e : s.cnt = s := if_neg h0
    rw [e]
    clear h e
    go_enter Try.func38, Try.ntmps38
    go_wp2
    go_end0
    exact ⟨rfl, hH.out, Frm.refl _ _⟩

set_option maxHeartbeats 4000000 in
theorem r_outside {w : World} {P : Nat} {s : DS} {n : Nat} {F : Nat → Prop} {vn vl vw : Value} (h : RDV w P s n F vn vl vw) (a m : Int) (a1 : -9223372036854775808 ≤ a) (a2 : a ≤ 9223372036854775807) (m1 : -9223372036854775808 ≤ m) (m2 : m ≤ 9223372036854775807) :
    Calls Try.prog 37 #[.pointer (some ⟨P, 0, none⟩), .int .i64 a, .int .i64 m] w fun e w' => e = .returned (.bool (outD n a m)) ∧ w' = w := by
  obtain ⟨c0, -⟩ := h.blk.cells
  obtain ⟨p, c, rfl⟩ := row_any h.now
  have hn := h.ok.size
  clear h
  unfold outD
  by_cases h1 : a < 0
  · go_enter Try.func37, Try.ntmps37
    go_wp2
    go_ret
    simp [h1]
  by_cases h2 : m < 0
  · go_enter Try.func37, Try.ntmps37
    go_wp2
    go_ret
    simp
  by_cases h3 : (n : Int) < a
  · go_enter Try.func37, Try.ntmps37
    go_wp2
    go_ret
    simp
  by_cases h4 : (n : Int) - a < m
  · go_enter Try.func37, Try.ntmps37
    go_wp2
    go_ret
    simp
  · go_enter Try.func37, Try.ntmps37
    go_wp2
    go_ret
    simp [h1, h2, h3, h4]

set_option maxHeartbeats 4000000 in
/-- Stop. -/
theorem r_stop {w : World} {P : Nat} {s : DS} {n : Nat} {F : Nat → Prop} {vn vl vw : Value} (h : RDV w P s n F vn vl vw) (m : Int) (m1 : -9223372036854775808 ≤ m) (m2 : m ≤ 9223372036854775807) :
    Calls Try.prog 35 #[.pointer (some ⟨P, 0, none⟩), .int .i64 m] w fun e w' => e = .returned (.tuple #[]) ∧ RDV w' P (s.stop m) n F vn vl vw ∧ Frm F w w' := by
  obtain ⟨-, -, -, c3, c4⟩ := h.blk.cells
  have f3 := h.blk.frozen 3
  have f4 := h.blk.frozen 4
  have hH := hidd h
  clear h
  have fin : ∀ w' M d, w' = (w.setCell ⟨P, 3, none⟩ (.int .i64 M)).setCell ⟨P, 4, none⟩ (.bool d) → M = max m (-1) → d = (s.dead || decide (m = 0)) → RDV w' P (s.stop m) n F vn vl vw ∧ Frm F w w' := fun w' M d e1 e2 e3 => by
    subst e1 e2 e3
    have D2 := (hH.out.blk.set3 (max m (-1))).set4 (s.dead || decide (m = 0))
    exact ⟨hH.out.mark (by omega) D2 (fun z hz => (set_far _ _ _ _ z hz).trans (set_far _ _ _ _ z hz)) (Nat.le_trans (set_size _ _ _) (set_size _ _ _)), (Frm.set (p := ⟨P, 3, none⟩) hH.out.fp _).trans (Frm.set (p := ⟨P, 4, none⟩) hH.out.fp _) fun j hj => .inl hj⟩
  have FIN := hidd fin
  clear fin
  have h3 : (m = 0 ∧ ¬ m < -1) ∨ (¬ m = 0 ∧ ¬ m < -1) ∨ (¬ m = 0 ∧ m < -1) := by omega
  cases hd : s.dead <;> rw [hd] at c4 FIN <;> rcases h3 with ⟨h0, h1⟩ | ⟨h0, h1⟩ | ⟨h0, h1⟩
  all_goals
    first | subst h0 | skip
    go_enter Try.func35, Try.ntmps35
    go_wp2
    go_end0
    exact ⟨rfl, FIN.out _ _ _ rfl (by omega) (by first | rfl | simp [h0])⟩

set_option maxHeartbeats 4000000 in
/-- Read. -/
theorem r_read {w : World} {P : Nat} {s : DS} {n : Nat} {F : Nat → Prop} {vn vl vw : Value} (h : RDV w P s n F vn vl vw) (a m : Int) (a1 : -9223372036854775808 ≤ a) (a2 : a ≤ 9223372036854775807) (m1 : -9223372036854775808 ≤ m) (m2 : m ≤ 9223372036854775807) :
    Calls Try.prog 23 #[.pointer (some ⟨P, 0, none⟩), .int .i64 a, .int .i64 m] w fun e w' => e = .returned (.tuple #[.string (strOfNums (rdL s n a m)), .int .i64 (rdK s n a m)]) ∧ w' = w := by
  have OU := hidd (r_outside h a m a1 a2 m1 m2)
  obtain ⟨c0, -, -, -, c4⟩ := h.blk.cells
  have hnow := hidd h.now
  obtain ⟨p, c, rfl⟩ := row_any h.now
  have hn := h.ok.size
  clear h
  go_enter Try.func23, Try.ntmps23
  go_wp2_with fail
  refine OU.out.mono ?_
  rintro e w' ⟨rfl, rfl⟩
  cases ho : outD n a m
  · cases hd : s.dead
    · rw [hd] at c4
      have E12 := hidd (rd_ok ho hd)
      obtain ⟨i, j, rfl, rfl, hij⟩ := out_no ho
      have hw : wrap64 ((i : Int) + (j : Int)) = ((i + j : Nat) : Int) := by rw [wrap_fits (by omega)]; omega
      rw [Int.toNat_natCast, Int.toNat_natCast] at E12
      clear a1 a2 m1 m2 OU ho
      rcases hnow.out.2 with ⟨e, e0⟩ | ⟨g, cap, cur, e, -, -, hnc, -⟩
      · simp only [Value.slice.injEq] at e
        obtain ⟨rfl, -, rfl⟩ := e
        have hi : i = 0 := by omega
        have hj : j = 0 := by omega
        have CV := str_of_none w' 0 0
        have ES : strOfNums ((s.now.drop 0).take 0) = ByteArray.empty := rfl
        rw [← ES] at CV
        subst hi hj
        go_wp2
        go_ret2
        exact ⟨by first | (rw [E12.out.1, E12.out.2]; done) | (rw [E12.out.1, E12.out.2]; rfl), rfl⟩
      · simp only [Value.slice.injEq] at e
        obtain ⟨rfl, -, rfl⟩ := e
        by_cases hc : i = c
        · have hj : j = 0 := by omega
          have CV := str_of_row hnow.out 0 0 0 (by omega)
          have ES : (s.now.drop 0).take 0 = (s.now.drop i).take j := by rw [hj]; simp
          rw [ES] at CV
          subst hj hc
          go_wp2
          go_ret2
          exact ⟨by first | (rw [E12.out.1, E12.out.2]; done) | (rw [E12.out.1, E12.out.2]; rfl), rfl⟩
        · have hci : i < c := by omega
          have CV := str_of_row hnow.out i j (c - i) hij
          obtain ⟨t, et⟩ : ∃ t, strOfNums ((s.now.drop i).take j) = t := ⟨_, rfl⟩
          rw [et] at CV
          have ET := hidd et
          clear et
          go_wp2
          go_ret2
          exact ⟨by rw [E12.out.1, E12.out.2, ET.out]; rfl, rfl⟩
    · have E12 := hidd (rd_dead ho hd)
      rw [hd] at c4
      go_wp2
      go_ret2
      exact ⟨by first | (rw [E12.out.1, E12.out.2]; done) | (rw [E12.out.1, E12.out.2]; rfl), rfl⟩
  · have E12 := hidd (rd_arg (s := s) ho)
    go_wp2
    go_ret2
    exact ⟨by first | (rw [E12.out.1, E12.out.2]; done) | (rw [E12.out.1, E12.out.2]; rfl), rfl⟩

abbrev RTells := TellsD 48 74 5

set_option maxHeartbeats 4000000 in
/-- Sync. -/
theorem r_sync {w : World} {P : Nat} {s : DS} {n : Nat} {F : Nat → Prop} {vn vl vw : Value} (h : RDV w P s n F vn vl vw) :
    Calls Try.prog 34 #[.pointer (some ⟨P, 0, none⟩)] w fun e w' => RTells P (syS s) n F (.int .i64 (syK s)) w e w' := by
  obtain ⟨c0, c1, -, -, c4⟩ := h.blk.cells
  cases hd : s.dead
  · rw [hd] at c4
    obtain ⟨p, c, rfl⟩ := row_any h.now
    obtain ⟨q, c', rfl⟩ := row_any h.last
    have hH := hidd h
    have HD := hidd hd
    clear h hd
    go_enter Try.func34, Try.ntmps34
    go_wp2_with fail
    go_region_law ((refine step_copy_all (by rfl) _ _ _ _ (by rfl) 5 Try.underlying30 infoU8 0 0 n c' c q p _ _ (by rfl) (by rfl) hH.out.drew.last hH.out.drew.now (bV_one _) ?_; intro w2 hr2 hg2))
    all_goals
      obtain ⟨H2, f2⟩ := hH.out.drew.lasts hr2 hg2 hH.out.ok.nb
      have c2 := H2.blk.cells.2.2.1
      have q2 := H2.blk.frozen 2
      have H3 := hidd (H2.empty (s := ⟨s.now, s.now, s.waits, s.left, s.dead⟩) (w' := w2.setCell ⟨P, 2, none⟩ (.slice none 0 0)) H2.ok.left (H2.blk.set2 _) (set_far _ _ _ _) (set_size _ _ _))
      have F3 := hidd (f2.drew.trans (Frm.set (p := ⟨P, 2, none⟩) H2.fp (.slice none 0 0)) fun j hj => .inl hj)
      clear c0 c1 c4 hH hr2 hg2 H2 f2
      go_wp2_with fail
      refine (r_count H3.out).mono ?_
      rintro e w4 ⟨rfl, h4, f4⟩
      have H4 := hidd h4
      have F4 := hidd (F3.out.trans f4 fun j hj => .inl hj)
      clear H3 F3 h4 f4 c2 q2
      go_wp2
      go_ret
      refine ⟨by unfold syK; rw [HD.out]; rfl, F, .slice p n c, .slice q n c', .slice none 0 0, ?_, F4.out, fun k hk => .inl hk⟩
      have e : syS s = s.sy := by unfold syS; rw [HD.out]; rfl
      rw [e]
      exact H4.out
  · rw [hd] at c4
    have hH := hidd h
    have HD := hidd hd
    clear h hd
    go_enter Try.func34, Try.ntmps34
    go_wp2
    go_ret
    refine ⟨by unfold syK; rw [HD.out]; rfl, F, vn, vl, vw, ?_, Frm.refl _ _, fun k hk => .inl hk⟩
    have e : syS s = s := by unfold syS; rw [HD.out]; rfl
    rw [e]
    exact hH.out

set_option maxHeartbeats 4000000 in
/-- Crash. -/
theorem r_crash {w : World} {P : Nat} {s : DS} {n : Nat} {F : Nat → Prop} {vn vl vw : Value} (h : RDV w P s n F vn vl vw) (k : Int) (k1 : -9223372036854775808 ≤ k) (k2 : k ≤ 9223372036854775807) :
    Calls Try.prog 36 #[.pointer (some ⟨P, 0, none⟩), .int .i64 k] w fun e w' => RTells P (s.crash k) n F (.tuple #[]) w e w' := by
  obtain ⟨p, c, rfl⟩ := row_any h.now
  obtain ⟨q, c', rfl⟩ := row_any h.last
  obtain ⟨m, em⟩ : ∃ m, s.waits.length = m := ⟨_, rfl⟩
  have EM := hidd em
  obtain ⟨o, c'', rfl⟩ := row_any h.wait
  rw [em] at h
  have hH := hidd h
  clear h em
  go_enter Try.func36, Try.ntmps36
  go_wp2_with fail
  go_loopw [4] (fun v4 wr => ∃ i : Nat, i ≤ m ∧ (i : Int) ≤ max k 0 ∧ v4 = .int .i64 (i : Int) ∧ Hid (RDV wr P ⟨s.now, puts s.last (s.waits.take i), s.waits, s.left, s.dead⟩ n F (.slice p n c) (.slice q n c') (.slice o m c'')) ∧ Hid (Frm F w wr)) (fun v4 _ => m - (intOf v4).toNat)
  case atStart => exact ⟨0, by omega, by omega, rfl, hH, hidd (Frm.refl _ _)⟩
  case round =>
    clear hH
    obtain ⟨i, hi, hik, rfl, H, FR⟩ := hrel
    obtain ⟨c0, c1, c2, c3, c4⟩ := H.out.blk.cells
    have hx : (¬ i < m) ∨ (i < m ∧ ¬ (i : Int) < k) ∨ (i < m ∧ (i : Int) < k) := by omega
    rcases hx with h1 | ⟨h1, h2⟩ | ⟨h1, h2⟩
    rotate_left 2
    · have h1' : (i : Int) < (m : Int) := by omega
      have hl : i < s.waits.length := by rw [EM.out]; exact h1
      have HW := H.out.wait
      simp only [EM.out] at HW
      obtain ⟨g, rfl⟩ := row_some HW (by omega)
      obtain ⟨d0, d1⟩ := waits_at HW i hl
      have NX := hidd (puts_next hl s.last)
      obtain ⟨b1, b2, b3, b4⟩ := H.out.ok.wb _ (List.getElem_mem hl)
      generalize s.waits[i] = pr at *
      obtain ⟨x, y⟩ := pr
      try simp only at b1 b2 b3 b4 d0 d1 NX
      obtain ⟨t, rfl⟩ := Int.eq_ofNat_of_zero_le b1
      obtain ⟨gl, rfl⟩ := row_some H.out.last (by omega)
      have htl : t < (puts s.last (s.waits.take i)).length := by have := H.out.ok.last; simp only at this; omega
      have e0 := bytes_at H.out.last t htl
      have e1 := H.out.last.frozenAt t
      obtain ⟨hs1, hs2⟩ := H.out.last.stored t (.int .u8 y)
      have X := H.out.lasts (L := (puts s.last (s.waits.take i)).set t y) (by rw [← bV_set]; exact hs1) hs2 (fun z hz => by
        rcases List.mem_or_eq_of_mem_set hz with hz | rfl
        · exact H.out.ok.lb z hz
        · exact ⟨b3, b4⟩)
      simp only [Int.toNat_natCast] at NX
      rw [← NX.out] at X
      have H2 := hidd X.1
      have F2 := hidd (FR.out.trans X.2 fun j hj => .inl hj)
      have htn : t < n := by omega
      generalize (puts s.last (s.waits.take i))[t] = z at e0
      clear X hs1 hs2 htl H FR HW NX
      go_wp2_with fail
      go_big_region
      all_goals
        go_wp2_with fail
        go_roundw
        case rel => exact ⟨i + 1, by omega, by omega, by go_num, hidd (H2.out.keep (fun _ _ => rfl) (Nat.le_refl _)), hidd ⟨F2.out.os, F2.out.tape, F2.out.output, F2.out.size, F2.out.block⟩⟩
        case measure => simp [intOf]; omega
    all_goals
      have EQ : puts s.last (s.waits.take i) = puts s.last (s.waits.take k.toNat) := by
        first
          | (rw [List.take_of_length_le (by rw [EM.out]; omega), List.take_of_length_le (by rw [EM.out]; omega)])
          | (rw [show i = k.toNat by omega])
      rw [EQ] at H
      have EI : decide ((i : Int) < (m : Int)) = decide (i < m) := by simp
      have q2 := H.out.blk.frozen 2
      have q3 := H.out.blk.frozen 3
      have q4 := H.out.blk.frozen 4
      clear EQ
      go_wp2_with fail
      go_region_law ((refine step_copy_all (by rfl) _ _ _ _ (by rfl) 5 Try.underlying30 infoU8 0 0 n c c' p q _ _ (by rfl) (by rfl) H.out.drew.now H.out.drew.last (bV_one _) ?_; intro w2 hr2 hg2))
      all_goals
        obtain ⟨H2, f2⟩ := H.out.drew.nows hr2 hg2 H.out.ok.lb
        obtain ⟨d0, d1, d2, d3, d4⟩ := H2.blk.cells
        have r2 := H2.blk.frozen 2
        have r3 := H2.blk.frozen 3
        have r4 := H2.blk.frozen 4
        have D3 := ((H2.blk.set2 (.slice none 0 0)).set3 (-1)).set4 false
        have hX := hidd (H2.empty (s := ⟨puts s.last (s.waits.take k.toNat), puts s.last (s.waits.take k.toNat), s.waits, s.left, s.dead⟩) (by omega) D3 (fun z hz => ((set_far _ _ _ _ z hz).trans (set_far _ _ _ _ z hz)).trans (set_far _ _ _ _ z hz)) (by simp))
        have fX := hidd ((FR.out.trans f2.drew fun j hj => .inl hj).trans (((Frm.set (p := ⟨P, 2, none⟩) H2.fp (.slice none 0 0)).trans (Frm.set (p := ⟨P, 3, none⟩) H2.fp (.int .i64 (-1))) fun j hj => .inl hj).trans (Frm.set (p := ⟨P, 4, none⟩) H2.fp (.bool false)) fun j hj => .inl hj) fun j hj => .inl hj)
        clear c0 c1 c2 c3 c4 q2 q3 q4 H FR hr2 hg2 H2 f2 D3
        go_wp2_with fail
        go_end0
        exact ⟨rfl, F, _, _, _, hX.out, fX.out, fun k hk => .inl hk⟩

end Go.Proofs.Ytinplpcobmbekaa
