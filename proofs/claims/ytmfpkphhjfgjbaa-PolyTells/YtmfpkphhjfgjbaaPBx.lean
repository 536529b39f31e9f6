/-
  What Box of package poly tells of any rings; in whatever memory.
-/
import Derived.Test.YtmfpkphhjfgjbaaRPBox
import Derived.Test.YtmfpkphhjfgjbaaPPCheck
import Derived.Laws.BitsAllLaws
import Derived.Handy
import Derived.Deep.QuietTactic
import Derived.Test.YtmfpkphhjfgjbaaProg
import Derived.WalkSpells
import Derived.WalkLawsBesides
import Derived.BigQuiet
import Derived.PlainAid
import Derived.Deep.RegionWith
import Derived.Deep.RegionHeld3
import Derived.WalkSmall
import Derived.Deep.CutRange
import Derived.BigRegion
import Derived.OwnWalk
import Derived.Laws.OwnMore
import Derived.OneCell
import Derived.Laws.CopyOwn
import Derived.Sort.Row
import Derived.Deep.LoopGhost
import Derived.Lib.MinMax
namespace Go.Proofs.Ytmfpkphhjfgjbaa
open Go.RowKit

/-- What Box's two results hold. -/
def BoxS (r : Nat) (a1 a2 b1 b2 : Int) (X : World) : Prop :=
  X.cell? ⟨r, 0, none⟩ = some (.int .i64 a1) ∧ X.cell? ⟨r, 1, none⟩ = some (.int .i64 a2) ∧ X.cell? ⟨r + 1, 0, none⟩ = some (.int .i64 b1) ∧ X.cell? ⟨r + 1, 1, none⟩ = some (.int .i64 b2) ∧
  X.frozen? ⟨r, 0, none⟩ = false ∧ X.frozen? ⟨r, 1, none⟩ = false ∧ X.frozen? ⟨r + 1, 0, none⟩ = false ∧ X.frozen? ⟨r + 1, 1, none⟩ = false

theorem BoxS.keep {r : Nat} {a1 a2 b1 b2 : Int} {X Y : World} (h : BoxS r a1 a2 b1 b2 X) (hb : Below X.heap.size X Y) : BoxS r a1 a2 b1 b2 Y :=
  ⟨keepCell hb h.1, keepCell hb h.2.1, keepCell hb h.2.2.1, keepCell hb h.2.2.2.1, keepFrozen hb h.1 h.2.2.2.2.1, keepFrozen hb h.2.1 h.2.2.2.2.2.1, keepFrozen hb h.2.2.1 h.2.2.2.2.2.2.1, keepFrozen hb h.2.2.2.1 h.2.2.2.2.2.2.2⟩

set_option maxHeartbeats 16000000 in
set_option maxRecDepth 20000 in
theorem p_box (s : Value) (G : List (List (Int × Int))) (hn : G.length ≤ 1000000) (hl : ∀ L ∈ G, L.length ≤ 1000000) (w : World) (hG : RingsL w s G) :
    Calls Try.prog 15 #[s] w fun e w' => (∃ lo hi : Int × Int, e = .returned (.tuple #[.agg #[.int .i64 lo.1, .int .i64 lo.2], .agg #[.int .i64 hi.1, .int .i64 hi.2]]) ∧ BoxT G lo hi) ∧ Below w.heap.size w w' := by
  have PC := hidd fun w h => p_check s G hn hl w h
  have HG := hidd hG
  obtain ⟨p, cap, hs, -, hc⟩ := hG
  obtain ⟨m, em⟩ : ∃ m, G.length = m := ⟨_, rfl⟩
  have EM := hidd em
  rw [em] at hs
  subst hs
  have HC := hidd hc
  clear em hc
  have B2 := hidd (belowT (allocB w (.cells #[.int .i64 0, .int .i64 0] 27)) (allocB _ (.cells #[.int .i64 0, .int .i64 0] 27)))
  have S2 : Hid (BoxS w.heap.size 0 0 0 0 ((w.alloc (.cells #[.int .i64 0, .int .i64 0] 27)).alloc (.cells #[.int .i64 0, .int .i64 0] 27))) := hidd ⟨by go_simp, by go_simp, by go_simp, by go_simp, by go_simp, by go_simp, by go_simp, by go_simp⟩
  have PC2 := hidd (PC.out _ (HG.out.keep B2.out))
  clear PC HG
  by_cases hok : Okay G
  · have OK := hidd (okay_iff.1 hok)
    have PC3 := hidd (PC2.out.mono fun e w' ⟨⟨t, he, ht⟩, hb⟩ => (⟨by rw [he, (chk_zero ht).2 hok], hb⟩ : e = Ending.returned (.int .i64 0) ∧ _))
    have hm0 : 0 < m := by
      have := OK.out.2.2.1
      rw [← EM.out]
      exact List.length_pos_iff.2 this
    have h0G : 0 < G.length := by rw [EM.out]; exact hm0
    have h3 := OK.out.2.2.2.1 _ (List.getElem_mem h0G)
    have HOK := hidd hok
    clear PC2 hok
    go_enter Try.func15, Try.ntmps15
    go_wp2_with fail
    refine PC3.out.mono ?_
    rintro e w1 ⟨rfl, b1⟩
    have B3 := hidd (belowT B2.out b1)
    obtain ⟨m0, m1, n0, n1, f0, f1, f2, f3⟩ := S2.out.keep b1
    clear B2 PC3 b1 S2
    obtain ⟨g, o, s0, rfl, x0, hR⟩ := HC.out 0 h0G
    obtain ⟨p0, c0, rfl, -, hc0⟩ := hR
    obtain ⟨g0, o0, rfl, y0, y1⟩ := hc0 0 (by omega)
    have hb1 : w.heap.size + 1 < w1.heap.size := World.block_lt_of_cell? _ _ n0
    have hgb : g < w.heap.size := World.block_lt_of_cell? _ _ x0
    have hg0b : g0 < w.heap.size := World.block_lt_of_cell? _ _ y0
    have kP : w.heap.size ≠ g ∧ w.heap.size + 1 ≠ g ∧ w.heap.size ≠ g0 ∧ w.heap.size + 1 ≠ g0 := by omega
    obtain ⟨k1, k2, k3, k4⟩ := kP
    replace x0 := keepCell B3.out x0
    replace y0 := keepCell B3.out y0
    replace y1 := keepCell B3.out y1
    simp only [Nat.zero_mul, Nat.add_zero] at x0 y0 y1
    obtain ⟨l0, el0⟩ : ∃ l0, G[0].length = l0 := ⟨_, rfl⟩
    have hg1 : g < w1.heap.size := by omega
    have hg2 : g0 < w1.heap.size := by omega
    have I0 := hidd (Bx.one' G[0][0])
    have M0 : Hid (G[0][0] ∈ G.flatten) := hidd (List.mem_flatten.2 ⟨_, List.getElem_mem h0G, List.getElem_mem _⟩)
    obtain ⟨P0, eP0⟩ : ∃ q, G[0][0] = q := ⟨_, rfl⟩
    rw [eP0] at y0 y1 I0 M0
    rw [el0] at x0 h3
    have hl0 : 0 < (l0 : Int) := by omega
    clear hc0 el0 eP0
    go_wp2_with fail
    go_cut [19, 24] from 15 (fun _ _ wx => BoxS w.heap.size P0.1 P0.2 P0.1 P0.2 wx ∧ Below w.heap.size w wx)
    case first =>
      go_big_region
      all_goals
        go_wp2
        go_meet
        exact ⟨⟨by go_simp, by go_simp, by go_simp, by go_simp, by go_simp, by go_simp, by go_simp, by go_simp⟩, by have := B3.out; go_grown⟩
    case rest =>
      clear x0 y0 y1 m0 m1 n0 n1 f0 f1 f2 f3
      obtain ⟨hS, hB0⟩ := hcut
      have HS := hidd hS
      have HB := hidd hB0
      clear hS hB0 B3 hg1 hg2 hgb hg0b hb1 hl0 h3 k1 k2 k3 k4
      go_wp2_with fail
      go_loopw [27] (fun v27 wr => ∃ (i : Nat) (a1 a2 b1 b2 : Int), i ≤ m ∧ v27 = .int .i64 (i : Int) ∧ Hid (BoxS w.heap.size a1 a2 b1 b2 wr) ∧ Hid (Bx (P0 :: (G.take i).flatten) (a1, a2) (b1, b2)) ∧ Hid (Below w.heap.size w wr)) (fun v27 _ => m - (intOf v27).toNat)
      case atStart => exact ⟨0, P0.1, P0.2, P0.1, P0.2, by omega, rfl, HS, hidd I0.out, HB⟩
      case round =>
        clear HS HB I0
        obtain ⟨i, a1, a2, b1, b2, hi, rfl, hS, hI, hB⟩ := hrel
        by_cases him : i < m
        · have him' : (i : Int) < (m : Int) := by omega
          have hiG : i < G.length := by rw [EM.out]; exact him
          obtain ⟨g', o', s', e', z0, hR⟩ := HC.out i hiG
          simp only [Option.some.injEq, Addr.mk.injEq, and_true] at e'
          obtain ⟨rfl, rfl⟩ := e'
          obtain ⟨pR, cR, rfl, -, hcR⟩ := hR
          have HCR := hidd hcR
          have hlen := hl _ (List.getElem_mem hiG)
          have NXT : Hid ((G.take (i + 1)).flatten = (G.take i).flatten ++ G[i]) := hidd (by rw [List.take_succ_eq_append_getElem hiG, List.flatten_append, List.flatten_cons, List.flatten_nil, List.append_nil])
          obtain ⟨R, eR⟩ : ∃ R, G[i] = R := ⟨_, rfl⟩
          rw [eR] at z0 HCR hlen NXT
          obtain ⟨l, el⟩ : ∃ l, R.length = l := ⟨_, rfl⟩
          have EL := hidd el
          rw [el] at z0 hlen
          replace z0 := keepCell hB.out z0
          clear hcR eR el
          go_wp2_with fail
          clear z0
          go_loopw [33] (fun v33 wr => ∃ (k : Nat) (a1 a2 b1 b2 : Int), k ≤ l ∧ v33 = .int .i64 (k : Int) ∧ Hid (BoxS w.heap.size a1 a2 b1 b2 wr) ∧ Hid (Bx (P0 :: ((G.take i).flatten ++ R.take k)) (a1, a2) (b1, b2)) ∧ Hid (Below w.heap.size w wr)) (fun v33 _ => l - (intOf v33).toNat)
          case atStart => exact ⟨0, a1, a2, b1, b2, by omega, rfl, hS, hidd (by rw [List.take_zero, List.append_nil]; exact hI.out), hB⟩
          case round =>
            clear hS hI hB a1 a2 b1 b2
            obtain ⟨k, a1, a2, b1, b2, hk, rfl, hS, hI, hB⟩ := hrel
            by_cases hkl : k < l
            · have hkl' : (k : Int) < (l : Int) := by omega
              have hkR : k < R.length := by rw [EL.out]; exact hkl
              obtain ⟨g', o', rfl, x0, x1⟩ := HCR.out k hkR
              have hI2 : Hid (Bx (P0 :: ((G.take i).flatten ++ R.take (k + 1))) (min a1 R[k].1, min a2 R[k].2) (max b1 R[k].1, max b2 R[k].2)) := hidd (by
                rw [List.take_succ_eq_append_getElem hkR, ← List.append_assoc, ← List.cons_append]
                exact hI.out.snoc)
              clear hI
              generalize R[k].1 = p1 at *
              generalize R[k].2 = p2 at *
              replace x0 := keepCell hB.out x0
              replace x1 := keepCell hB.out x1
              have hal := allocB wr (.cells #[.int .i64 p1, .int .i64 p2] 27)
              have ix0 := pair_ix0 (.int .i64 p1) (.int .i64 p2)
              have ix1 := pair_ix1 (.int .i64 p1) (.int .i64 p2)
              have hS2 := hidd (hS.out.keep hal)
              have hB2 := hidd (hB.out.trans (hal.mono hB.out.size))
              clear hal hS
              go_wp2_with fail
              clear x0 x1
              generalize wr.alloc (.cells #[.int .i64 p1, .int .i64 p2] 27) = wa at *
              go_loopw [38] (fun v38 wr => ∃ (a : Nat) (c1 c2 d1 d2 : Int), a ≤ 2 ∧ v38 = .int .i64 (a : Int) ∧ Hid (BoxS w.heap.size c1 c2 d1 d2 wr) ∧ Hid ((a = 0 ∧ c1 = a1 ∧ c2 = a2 ∧ d1 = b1 ∧ d2 = b2) ∨ (a = 1 ∧ c1 = min a1 p1 ∧ c2 = a2 ∧ d1 = max b1 p1 ∧ d2 = b2) ∨ (a = 2 ∧ c1 = min a1 p1 ∧ c2 = min a2 p2 ∧ d1 = max b1 p1 ∧ d2 = max b2 p2)) ∧ Hid (Below w.heap.size w wr)) (fun v38 _ => 2 - (intOf v38).toNat)
              case atStart => exact ⟨0, a1, a2, b1, b2, by omega, rfl, hS2, hidd (.inl ⟨rfl, rfl, rfl, rfl, rfl⟩), hB2⟩
              case round =>
                clear hS2 hB hB2
                obtain ⟨a, c1, c2, d1, d2, ha, rfl, hS, hC, hB⟩ := hrel
                rcases hC.out with ⟨rfl, rfl, rfl, rfl, rfl⟩ | ⟨rfl, rfl, rfl, rfl, rfl⟩ | ⟨rfl, rfl, rfl, rfl, rfl⟩
                · clear hC
                  obtain ⟨m0, m1, n0, n1, f0, f1, f2, f3⟩ := hS.out
                  clear hS
                  go_wp2_with fail
                  go_roundw
                  case rel => exact ⟨1, _, _, _, _, by omega, by go_num, hidd ⟨by go_simp, by go_simp, by go_simp, by go_simp, by go_simp, by go_simp, by go_simp, by go_simp⟩, hidd (.inr (.inl ⟨rfl, rfl, rfl, rfl, rfl⟩)), hidd (by have := hB.out; go_grown)⟩
                  case measure => simp [intOf]
                · clear hC
                  obtain ⟨m0, m1, n0, n1, f0, f1, f2, f3⟩ := hS.out
                  clear hS
                  go_wp2_with fail
                  go_roundw
                  case rel => exact ⟨2, _, _, _, _, by omega, by go_num, hidd ⟨by go_simp, by go_simp, by go_simp, by go_simp, by go_simp, by go_simp, by go_simp, by go_simp⟩, hidd (.inr (.inr ⟨rfl, rfl, rfl, rfl, rfl⟩)), hidd (by have := hB.out; go_grown)⟩
                  case measure => simp [intOf]
                · have h22 : decide (((2 : Nat) : Int) < 2) = false := by decide
                  clear hC
                  go_wp2_with fail
                  go_roundw
                  case rel => exact ⟨k + 1, _, _, _, _, by omega, by go_num, hS, hI2, hB⟩
                  case measure => simp [intOf]; omega
            · obtain rfl : k = l := by omega
              have hkl' : decide ((k : Int) < (k : Int)) = false := by simp
              have hI2 : Hid (Bx (P0 :: (G.take (i + 1)).flatten) (a1, a2) (b1, b2)) := hidd (by
                rw [NXT.out]
                have := hI.out
                rw [← EL.out, List.take_length] at this
                exact this)
              clear hI hkl
              go_wp2_with fail
              go_roundw
              case rel => exact ⟨i + 1, a1, a2, b1, b2, by omega, by go_num, hS, hI2, hB⟩
              case measure => simp [intOf]; omega
        · obtain rfl : i = m := by omega
          have him' : decide ((i : Int) < (i : Int)) = false := by simp
          have hT : Hid (BoxT G (a1, a2) (b1, b2)) := hidd (.inl ⟨HOK.out, by
            have := hI.out
            rw [← EM.out, List.take_length] at this
            refine this.same fun p => ⟨fun h => ?_, fun h => List.mem_cons_of_mem _ h⟩
            rcases List.mem_cons.1 h with rfl | h
            · exact M0.out
            · exact h⟩)
          obtain ⟨r0, r1, r2, r3, f0, f1, f2, f3⟩ := hS.out
          clear hI him HOK M0 hS
          go_wp2_with fail
          go_big_region
          all_goals
            go_wp2_with fail
            exact bodyPost_ret (v := .tuple #[.agg #[.int .i64 a1, .int .i64 a2], .agg #[.int .i64 b1, .int .i64 b2]]) (by simp [results, Try.results15, go_sem, r0, r1, r2, r3]) rfl ⟨⟨(a1, a2), (b1, b2), rfl, hT.out⟩, by have := hB.out; go_grown⟩
  · have HN : Hid (BoxT G (0, 0) (0, 0)) := hidd (.inr ⟨hok, rfl, rfl⟩)
    have PC3 := hidd (PC2.out.mono fun e w' ⟨⟨t, he, ht⟩, hb⟩ => (⟨⟨t, he, by simp only [bne_iff_ne, ne_eq]; rw [chk_zero ht]; exact hok⟩, hb⟩ : (∃ t : Int, e = Ending.returned (.int .i64 t) ∧ (t != 0) = true) ∧ _))
    clear PC2 HC EM hn hl hok
    go_enter Try.func15, Try.ntmps15
    go_wp2_with fail
    refine PC3.out.mono ?_
    rintro e w1 ⟨⟨t, rfl, ht⟩, b1⟩
    have B3 := hidd (belowT B2.out b1)
    obtain ⟨r0, r1, r2, r3, s0', s1', s2', s3'⟩ := S2.out.keep b1
    clear B2 PC3 b1 S2
    go_wp2_with fail
    exact bodyPost_ret (v := .tuple #[.agg #[.int .i64 0, .int .i64 0], .agg #[.int .i64 0, .int .i64 0]]) (by simp [results, Try.results15, go_sem, r0, r1, r2, r3]) rfl ⟨⟨(0, 0), (0, 0), rfl, HN.out⟩, by have := B3.out; go_grown⟩

end Go.Proofs.Ytmfpkphhjfgjbaa
