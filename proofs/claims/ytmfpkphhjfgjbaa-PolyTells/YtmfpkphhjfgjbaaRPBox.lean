/-
  What the document's own Box tells of any rings; in whatever memory.
-/
import Derived.Test.YtmfpkphhjfgjbaaRPCheck
import Derived.Laws.BitsAllLaws
import Derived.Handy
import Derived.Deep.QuietTactic
import Derived.Test.YtmfpkphhjfgjbaaProg
import Derived.WalkSpells
import Derived.WalkLawsBesides
import Derived.BigQuiet
import Derived.PlainAid
import Derived.Deep.RegionWith
import Derived.Deep.RegionHeld3
import Derived.WalkSmall
import Derived.Deep.CutRange
import Derived.BigRegion
import Derived.OwnWalk
import Derived.Laws.OwnMore
import Derived.OneCell
import Derived.Laws.CopyOwn
import Derived.Sort.Row
import Derived.Deep.LoopGhost
import Derived.Lib.MinMax
namespace Go.Proofs.Ytmfpkphhjfgjbaa
open Go.RowKit

theorem Bx.snoc {C : List (Int × Int)} {a1 a2 b1 b2 : Int} {p : Int × Int} (h : Bx C (a1, a2) (b1, b2)) : Bx (C ++ [p]) (min a1 p.1, min a2 p.2) (max b1 p.1, max b2 p.2) := by
  obtain ⟨h0, ⟨q1, m1, e1⟩, ⟨q2, m2, e2⟩, ⟨q3, m3, e3⟩, q4, m4, e4⟩ := h
  have hp : p ∈ C ++ [p] := List.mem_append.2 (.inr (List.mem_singleton.2 rfl))
  have hm : ∀ {q}, q ∈ C → q ∈ C ++ [p] := fun h => List.mem_append.2 (.inl h)
  dsimp only at *
  refine ⟨fun q hq => ?_, ?_, ?_, ?_, ?_⟩
  · rcases List.mem_append.1 hq with h | h
    · have := h0 q h
      dsimp only
      omega
    · rw [List.mem_singleton.1 h]
      dsimp only
      omega
  · by_cases h : a1 ≤ p.1
    · exact ⟨q1, hm m1, by dsimp only; omega⟩
    · exact ⟨p, hp, by dsimp only; omega⟩
  · by_cases h : a2 ≤ p.2
    · exact ⟨q2, hm m2, by dsimp only; omega⟩
    · exact ⟨p, hp, by dsimp only; omega⟩
  · by_cases h : p.1 ≤ b1
    · exact ⟨q3, hm m3, by dsimp only; omega⟩
    · exact ⟨p, hp, by dsimp only; omega⟩
  · by_cases h : p.2 ≤ b2
    · exact ⟨q4, hm m4, by dsimp only; omega⟩
    · exact ⟨p, hp, by dsimp only; omega⟩

theorem Bx.same {C D : List (Int × Int)} {lo hi : Int × Int} (h : Bx C lo hi) (e : ∀ p, p ∈ C ↔ p ∈ D) : Bx D lo hi := by
  obtain ⟨h0, ⟨q1, m1, e1⟩, ⟨q2, m2, e2⟩, ⟨q3, m3, e3⟩, q4, m4, e4⟩ := h
  exact ⟨fun p hp => h0 p ((e p).2 hp), ⟨q1, (e _).1 m1, e1⟩, ⟨q2, (e _).1 m2, e2⟩, ⟨q3, (e _).1 m3, e3⟩, q4, (e _).1 m4, e4⟩

theorem Bx.one' (p : Int × Int) : Bx [p] (p.1, p.2) (p.1, p.2) :=
  ⟨fun q hq => by rw [List.mem_singleton.1 hq]; exact ⟨Int.le_refl _, Int.le_refl _, Int.le_refl _, Int.le_refl _⟩, ⟨p, List.mem_singleton.2 rfl, rfl⟩, ⟨p, List.mem_singleton.2 rfl, rfl⟩, ⟨p, List.mem_singleton.2 rfl, rfl⟩, p, List.mem_singleton.2 rfl, rfl⟩

set_option maxHeartbeats 16000000 in
set_option maxRecDepth 20000 in
theorem r_pbox (s : Value) (G : List (List (Int × Int))) (hn : G.length ≤ 1000000) (hl : ∀ L ∈ G, L.length ≤ 1000000) (w : World) (hG : RingsL w s G) :
    Calls Try.prog 16 #[s] w fun e w' => (∃ lo hi : Int × Int, e = .returned (.tuple #[.agg #[.int .i64 lo.1, .int .i64 lo.2], .agg #[.int .i64 hi.1, .int .i64 hi.2]]) ∧ BoxT G lo hi) ∧ Below w.heap.size w w' := by
  have PC := hidd fun w h => r_pcheck s G hn hl w h
  have HG := hidd hG
  obtain ⟨p, cap, hs, -, hc⟩ := hG
  obtain ⟨m, em⟩ : ∃ m, G.length = m := ⟨_, rfl⟩
  have EM := hidd em
  rw [em] at hs
  subst hs
  have HC := hidd hc
  clear em hc
  have B2 := hidd (belowT (allocB w (.cells #[.int .i64 0, .int .i64 0] 27)) (allocB _ (.cells #[.int .i64 0, .int .i64 0] 27)))
  have PC2 := hidd (PC.out _ (HG.out.keep B2.out))
  clear PC HG
  by_cases hok : Okay G
  · have OK := hidd (okay_iff.1 hok)
    have PC3 := hidd (PC2.out.mono fun e w' ⟨⟨t, he, ht⟩, hb⟩ => (⟨by rw [he, (chk_zero ht).2 hok], hb⟩ : e = Ending.returned (.int .i64 0) ∧ _))
    have hm0 : 0 < m := by
      have := OK.out.2.2.1
      rw [← EM.out]
      exact List.length_pos_iff.2 this
    have h0G : 0 < G.length := by rw [EM.out]; exact hm0
    have h3 := OK.out.2.2.2.1 _ (List.getElem_mem h0G)
    have HOK := hidd hok
    clear PC2 hok
    go_enter Try.func16, Try.ntmps16
    go_wp2_with fail
    refine PC3.out.mono ?_
    rintro e w1 ⟨rfl, b1⟩
    have B3 := hidd (belowT B2.out b1)
    have rc : w1.cell? ⟨w.heap.size, 0, none⟩ = some (.int .i64 0) ∧ w1.cell? ⟨w.heap.size, 1, none⟩ = some (.int .i64 0) ∧ w1.cell? ⟨w.heap.size + 1, 0, none⟩ = some (.int .i64 0) ∧ w1.cell? ⟨w.heap.size + 1, 1, none⟩ = some (.int .i64 0) ∧ w1.frozen? ⟨w.heap.size, 0, none⟩ = false ∧ w1.frozen? ⟨w.heap.size, 1, none⟩ = false ∧ w1.frozen? ⟨w.heap.size + 1, 0, none⟩ = false ∧ w1.frozen? ⟨w.heap.size + 1, 1, none⟩ = false := ⟨keepCell b1 (by go_simp), keepCell b1 (by go_simp), keepCell b1 (by go_simp), keepCell b1 (by go_simp), keepFrozen b1 (v := .int .i64 0) (by go_simp) (by go_simp), keepFrozen b1 (v := .int .i64 0) (by go_simp) (by go_simp), keepFrozen b1 (v := .int .i64 0) (by go_simp) (by go_simp), keepFrozen b1 (v := .int .i64 0) (by go_simp) (by go_simp)⟩
    obtain ⟨r0, r1, r2, r3, s0', s1', s2', s3'⟩ := rc
    clear B2 PC3 b1
    obtain ⟨g, o, s0, rfl, x0, hR⟩ := HC.out 0 h0G
    obtain ⟨p0, c0, rfl, -, hc0⟩ := hR
    obtain ⟨g0, o0, rfl, y0, y1⟩ := hc0 0 (by omega)
    have hb1 : w.heap.size + 1 < w1.heap.size := World.block_lt_of_cell? _ _ r2
    have hgb : g < w.heap.size := World.block_lt_of_cell? _ _ x0
    have hg0b : g0 < w.heap.size := World.block_lt_of_cell? _ _ y0
    replace x0 := keepCell B3.out x0
    replace y0 := keepCell B3.out y0
    replace y1 := keepCell B3.out y1
    simp only [Nat.zero_mul, Nat.add_zero] at x0 y0 y1
    obtain ⟨l0, el0⟩ : ∃ l0, G[0].length = l0 := ⟨_, rfl⟩
    have hg1 : g < w1.heap.size := by omega
    have hg2 : g0 < w1.heap.size := by omega
    have I0 := hidd (Bx.one' G[0][0])
    have M0 : Hid (G[0][0] ∈ G.flatten) := hidd (List.mem_flatten.2 ⟨_, List.getElem_mem h0G, List.getElem_mem _⟩)
    obtain ⟨P0, eP0⟩ : ∃ q, G[0][0] = q := ⟨_, rfl⟩
    rw [eP0] at y0 y1 I0 M0
    rw [el0] at x0 h3
    have hl0 : 0 < (l0 : Int) := by omega
    clear hc0 el0 eP0
    go_wp2_with fail
    go_cut [4, 5] from 9 (fun v4 v5 wx => ∃ P Q : Nat, v4 = .pointer (some ⟨P, 0, none⟩) ∧ v5 = .pointer (some ⟨Q, 0, none⟩) ∧ P ≠ Q ∧ w1.heap.size ≤ P ∧ w1.heap.size ≤ Q ∧ wx.cell? ⟨P, 0, none⟩ = some (.int .i64 P0.1) ∧ wx.cell? ⟨P, 1, none⟩ = some (.int .i64 P0.2) ∧ wx.cell? ⟨Q, 0, none⟩ = some (.int .i64 P0.1) ∧ wx.cell? ⟨Q, 1, none⟩ = some (.int .i64 P0.2) ∧ wx.frozen? ⟨P, 0, none⟩ = false ∧ wx.frozen? ⟨P, 1, none⟩ = false ∧ wx.frozen? ⟨Q, 0, none⟩ = false ∧ wx.frozen? ⟨Q, 1, none⟩ = false ∧ Below w1.heap.size w1 wx)
    case first =>
      go_big_region
      all_goals
        go_wp2
        go_meet
        first
          | exact ⟨w1.heap.size, w1.heap.size + 1, rfl, rfl, by omega, by omega, by omega, by go_simp, by go_simp, by go_simp, by go_simp, by go_simp, by go_simp, by go_simp, by go_simp, by go_grown⟩
          | exact ⟨w1.heap.size + 1, w1.heap.size, rfl, rfl, by omega, by omega, by omega, by go_simp, by go_simp, by go_simp, by go_simp, by go_simp, by go_simp, by go_simp, by go_simp, by go_grown⟩
    case rest =>
      clear x0 y0 y1
      obtain ⟨P, Q, rfl, rfl, hPQ, hP, hQ, m0, m1, n0, n1, f0, f1, f2, f3, hX⟩ := hcut
      have hB4 := hidd (belowT B3.out hX)
      replace s0' := keepFrozen hX r0 s0'
      replace s1' := keepFrozen hX r1 s1'
      replace s2' := keepFrozen hX r2 s2'
      replace s3' := keepFrozen hX r3 s3'
      replace r0 := keepCell hX r0
      replace r1 := keepCell hX r1
      replace r2 := keepCell hX r2
      replace r3 := keepCell hX r3
      have kP : w.heap.size ≠ P ∧ w.heap.size + 1 ≠ P ∧ w.heap.size ≠ Q ∧ w.heap.size + 1 ≠ Q ∧ w.heap.size ≤ P ∧ w.heap.size ≤ Q := by omega
      obtain ⟨k1, k2, k3, k4, k5, k6⟩ := kP
      clear hX B3 hP hQ hg1 hg2 hgb hg0b hb1 hl0 h3
      go_wp2_with fail
      go_loopw [6] (fun v6 wr => ∃ (i : Nat) (a1 a2 b1 b2 : Int), i ≤ m ∧ v6 = .int .i64 (i : Int) ∧ wr.cell? ⟨P, 0, none⟩ = some (.int .i64 a1) ∧ wr.cell? ⟨P, 1, none⟩ = some (.int .i64 a2) ∧ wr.cell? ⟨Q, 0, none⟩ = some (.int .i64 b1) ∧ wr.cell? ⟨Q, 1, none⟩ = some (.int .i64 b2) ∧ wr.cell? ⟨w.heap.size, 0, none⟩ = some (.int .i64 0) ∧ wr.cell? ⟨w.heap.size, 1, none⟩ = some (.int .i64 0) ∧ wr.cell? ⟨w.heap.size + 1, 0, none⟩ = some (.int .i64 0) ∧ wr.cell? ⟨w.heap.size + 1, 1, none⟩ = some (.int .i64 0) ∧ wr.frozen? ⟨P, 0, none⟩ = false ∧ wr.frozen? ⟨P, 1, none⟩ = false ∧ wr.frozen? ⟨Q, 0, none⟩ = false ∧ wr.frozen? ⟨Q, 1, none⟩ = false ∧ wr.frozen? ⟨w.heap.size, 0, none⟩ = false ∧ wr.frozen? ⟨w.heap.size, 1, none⟩ = false ∧ wr.frozen? ⟨w.heap.size + 1, 0, none⟩ = false ∧ wr.frozen? ⟨w.heap.size + 1, 1, none⟩ = false ∧ Hid (Bx (P0 :: (G.take i).flatten) (a1, a2) (b1, b2)) ∧ Hid (Below w.heap.size w wr)) (fun v6 _ => m - (intOf v6).toNat)
      case atStart => exact ⟨0, P0.1, P0.2, P0.1, P0.2, by omega, rfl, m0, m1, n0, n1, r0, r1, r2, r3, f0, f1, f2, f3, s0', s1', s2', s3', hidd I0.out, hB4⟩
      case round =>
        clear m0 m1 n0 n1 r0 r1 r2 r3 f0 f1 f2 f3 s0' s1' s2' s3' hB4 I0
        obtain ⟨i, a1, a2, b1, b2, hi, rfl, m0, m1, n0, n1, r0, r1, r2, r3, f0, f1, f2, f3, s0', s1', s2', s3', hI, hB⟩ := hrel
        by_cases him : i < m
        · have him' : (i : Int) < (m : Int) := by omega
          have hiG : i < G.length := by rw [EM.out]; exact him
          obtain ⟨g', o', s', e', z0, hR⟩ := HC.out i hiG
          simp only [Option.some.injEq, Addr.mk.injEq, and_true] at e'
          obtain ⟨rfl, rfl⟩ := e'
          have hgB : g < w.heap.size := World.block_lt_of_cell? _ _ z0
          have gP : P ≠ g ∧ Q ≠ g := by omega
          obtain ⟨gP, gQ⟩ := gP
          obtain ⟨pR, cR, rfl, -, hcR⟩ := hR
          have HCR := hidd hcR
          have hlen := hl _ (List.getElem_mem hiG)
          have NXT : Hid ((G.take (i + 1)).flatten = (G.take i).flatten ++ G[i]) := hidd (by rw [List.take_succ_eq_append_getElem hiG, List.flatten_append, List.flatten_cons, List.flatten_nil, List.append_nil])
          obtain ⟨R, eR⟩ : ∃ R, G[i] = R := ⟨_, rfl⟩
          rw [eR] at z0 HCR hlen NXT
          obtain ⟨l, el⟩ : ∃ l, R.length = l := ⟨_, rfl⟩
          have EL := hidd el
          rw [el] at z0 hlen
          have Z0 := hidd z0
          obtain ⟨wi, ewi⟩ : ∃ z, z = wr := ⟨_, rfl⟩
          replace z0 := keepCell hB.out z0
          clear hcR eR el
          go_wp2_with fail
          clear z0
          go_loopw [7] (fun v7 wr => ∃ (k : Nat) (a1 a2 b1 b2 : Int), k ≤ l ∧ v7 = .int .i64 (k : Int) ∧ wr.cell? ⟨P, 0, none⟩ = some (.int .i64 a1) ∧ wr.cell? ⟨P, 1, none⟩ = some (.int .i64 a2) ∧ wr.cell? ⟨Q, 0, none⟩ = some (.int .i64 b1) ∧ wr.cell? ⟨Q, 1, none⟩ = some (.int .i64 b2) ∧ wr.cell? ⟨w.heap.size, 0, none⟩ = some (.int .i64 0) ∧ wr.cell? ⟨w.heap.size, 1, none⟩ = some (.int .i64 0) ∧ wr.cell? ⟨w.heap.size + 1, 0, none⟩ = some (.int .i64 0) ∧ wr.cell? ⟨w.heap.size + 1, 1, none⟩ = some (.int .i64 0) ∧ wr.frozen? ⟨P, 0, none⟩ = false ∧ wr.frozen? ⟨P, 1, none⟩ = false ∧ wr.frozen? ⟨Q, 0, none⟩ = false ∧ wr.frozen? ⟨Q, 1, none⟩ = false ∧ wr.frozen? ⟨w.heap.size, 0, none⟩ = false ∧ wr.frozen? ⟨w.heap.size, 1, none⟩ = false ∧ wr.frozen? ⟨w.heap.size + 1, 0, none⟩ = false ∧ wr.frozen? ⟨w.heap.size + 1, 1, none⟩ = false ∧ Hid (Bx (P0 :: ((G.take i).flatten ++ R.take k)) (a1, a2) (b1, b2)) ∧ Hid (Below w.heap.size w wr)) (fun v7 _ => l - (intOf v7).toNat)
          case atStart => exact ⟨0, a1, a2, b1, b2, by omega, rfl, m0, m1, n0, n1, r0, r1, r2, r3, f0, f1, f2, f3, s0', s1', s2', s3', hidd (by rw [List.take_zero, List.append_nil]; exact hI.out), hB⟩
          case round =>
            clear m0 m1 n0 n1 r0 r1 r2 r3 f0 f1 f2 f3 s0' s1' s2' s3' hI hB ewi wi a1 a2 b1 b2
            obtain ⟨k, a1, a2, b1, b2, hk, rfl, m0, m1, n0, n1, r0, r1, r2, r3, f0, f1, f2, f3, s0', s1', s2', s3', hI, hB⟩ := hrel
            have z0 := keepCell hB.out Z0.out
            by_cases hkl : k < l
            · have hkl' : (k : Int) < (l : Int) := by omega
              have hkR : k < R.length := by rw [EL.out]; exact hkl
              obtain ⟨g', o', rfl, x0, x1⟩ := HCR.out k hkR
              have hg'B : g' < w.heap.size := World.block_lt_of_cell? _ _ x0
              have gP' : P ≠ g' ∧ Q ≠ g' := by omega
              obtain ⟨gP', gQ'⟩ := gP'
              have hI2 : Hid (Bx (P0 :: ((G.take i).flatten ++ R.take (k + 1))) (min a1 R[k].1, min a2 R[k].2) (max b1 R[k].1, max b2 R[k].2)) := hidd (by
                rw [List.take_succ_eq_append_getElem hkR, ← List.append_assoc, ← List.cons_append]
                exact hI.out.snoc)
              clear hI
              generalize R[k].1 = p1 at *
              generalize R[k].2 = p2 at *
              have X0 := hidd x0
              have X1 := hidd x1
              clear x0 x1
              go_wp2_with fail
              clear z0
              go_loopw [8] (fun v8 wr => ∃ (a : Nat) (c1 c2 d1 d2 : Int), a ≤ 2 ∧ v8 = .int .i64 (a : Int) ∧ wr.cell? ⟨P, 0, none⟩ = some (.int .i64 c1) ∧ wr.cell? ⟨P, 1, none⟩ = some (.int .i64 c2) ∧ wr.cell? ⟨Q, 0, none⟩ = some (.int .i64 d1) ∧ wr.cell? ⟨Q, 1, none⟩ = some (.int .i64 d2) ∧ wr.cell? ⟨w.heap.size, 0, none⟩ = some (.int .i64 0) ∧ wr.cell? ⟨w.heap.size, 1, none⟩ = some (.int .i64 0) ∧ wr.cell? ⟨w.heap.size + 1, 0, none⟩ = some (.int .i64 0) ∧ wr.cell? ⟨w.heap.size + 1, 1, none⟩ = some (.int .i64 0) ∧ wr.frozen? ⟨P, 0, none⟩ = false ∧ wr.frozen? ⟨P, 1, none⟩ = false ∧ wr.frozen? ⟨Q, 0, none⟩ = false ∧ wr.frozen? ⟨Q, 1, none⟩ = false ∧ wr.frozen? ⟨w.heap.size, 0, none⟩ = false ∧ wr.frozen? ⟨w.heap.size, 1, none⟩ = false ∧ wr.frozen? ⟨w.heap.size + 1, 0, none⟩ = false ∧ wr.frozen? ⟨w.heap.size + 1, 1, none⟩ = false ∧ Hid ((a = 0 ∧ c1 = a1 ∧ c2 = a2 ∧ d1 = b1 ∧ d2 = b2) ∨ (a = 1 ∧ c1 = min a1 p1 ∧ c2 = a2 ∧ d1 = max b1 p1 ∧ d2 = b2) ∨ (a = 2 ∧ c1 = min a1 p1 ∧ c2 = min a2 p2 ∧ d1 = max b1 p1 ∧ d2 = max b2 p2)) ∧ Hid (Below w.heap.size w wr)) (fun v8 _ => 2 - (intOf v8).toNat)
              case atStart => exact ⟨0, a1, a2, b1, b2, by omega, rfl, m0, m1, n0, n1, r0, r1, r2, r3, f0, f1, f2, f3, s0', s1', s2', s3', hidd (.inl ⟨rfl, rfl, rfl, rfl, rfl⟩), hB⟩
              case round =>
                clear m0 m1 n0 n1 r0 r1 r2 r3 f0 f1 f2 f3 s0' s1' s2' s3' hB
                obtain ⟨a, c1, c2, d1, d2, ha, rfl, m0, m1, n0, n1, r0, r1, r2, r3, f0, f1, f2, f3, s0', s1', s2', s3', hC, hB⟩ := hrel
                rcases hC.out with ⟨rfl, rfl, rfl, rfl, rfl⟩ | ⟨rfl, rfl, rfl, rfl, rfl⟩ | ⟨rfl, rfl, rfl, rfl, rfl⟩
                · clear hC
                  have z0 := keepCell hB.out Z0.out
                  have x0 := keepCell hB.out X0.out
                  go_wp2_with fail
                  go_big_region
                  all_goals
                    go_wp2_with fail
                    go_big_region
                    all_goals
                      go_wp2_with fail
                      go_roundw
                      case rel => exact ⟨1, _, _, _, _, by omega, by go_num, by go_simp, by go_simp, by go_simp, by go_simp, by go_simp, by go_simp, by go_simp, by go_simp, by go_simp, by go_simp, by go_simp, by go_simp, by go_simp, by go_simp, by go_simp, by go_simp, hidd (.inr (.inl ⟨rfl, rfl, rfl, rfl, rfl⟩)), hidd (by have := hB.out; go_grown)⟩
                      case measure => simp [intOf]
                · clear hC
                  have z0 := keepCell hB.out Z0.out
                  have x1 := keepCell hB.out X1.out
                  go_wp2_with fail
                  go_big_region
                  all_goals
                    go_wp2_with fail
                    go_big_region
                    all_goals
                      go_wp2_with fail
                      go_roundw
                      case rel => exact ⟨2, _, _, _, _, by omega, by go_num, by go_simp, by go_simp, by go_simp, by go_simp, by go_simp, by go_simp, by go_simp, by go_simp, by go_simp, by go_simp, by go_simp, by go_simp, by go_simp, by go_simp, by go_simp, by go_simp, hidd (.inr (.inr ⟨rfl, rfl, rfl, rfl, rfl⟩)), hidd (by have := hB.out; go_grown)⟩
                      case measure => simp [intOf]
                · have h22 : decide (((2 : Nat) : Int) < 2) = false := by decide
                  clear hC
                  go_wp2_with fail
                  go_roundw
                  case rel => exact ⟨k + 1, _, _, _, _, by omega, by go_num, m0, m1, n0, n1, r0, r1, r2, r3, f0, f1, f2, f3, s0', s1', s2', s3', hI2, hB⟩
                  case measure => simp [intOf]; omega
            · obtain rfl : k = l := by omega
              have hkl' : decide ((k : Int) < (k : Int)) = false := by simp
              have hI2 : Hid (Bx (P0 :: (G.take (i + 1)).flatten) (a1, a2) (b1, b2)) := hidd (by
                rw [NXT.out]
                have := hI.out
                rw [← EL.out, List.take_length] at this
                exact this)
              clear hI hkl
              go_wp2_with fail
              go_roundw
              case rel => exact ⟨i + 1, a1, a2, b1, b2, by omega, by go_num, m0, m1, n0, n1, r0, r1, r2, r3, f0, f1, f2, f3, s0', s1', s2', s3', hI2, hB⟩
              case measure => simp [intOf]; omega
        · obtain rfl : i = m := by omega
          have him' : decide ((i : Int) < (i : Int)) = false := by simp
          have hT : Hid (BoxT G (a1, a2) (b1, b2)) := hidd (.inl ⟨HOK.out, by
            have := hI.out
            rw [← EM.out, List.take_length] at this
            refine this.same fun p => ⟨fun h => ?_, fun h => List.mem_cons_of_mem _ h⟩
            rcases List.mem_cons.1 h with rfl | h
            · exact M0.out
            · exact h⟩)
          clear hI him HOK M0
          go_wp2_with fail
          go_big_region
          all_goals
            go_wp2_with fail
            exact bodyPost_ret (v := .tuple #[.agg #[.int .i64 a1, .int .i64 a2], .agg #[.int .i64 b1, .int .i64 b2]]) (by simp [results, Try.results16, go_sem, r0, r1, r2, r3]) rfl ⟨⟨(a1, a2), (b1, b2), rfl, hT.out⟩, by have := hB.out; go_grown⟩
  · have HN : Hid (BoxT G (0, 0) (0, 0)) := hidd (.inr ⟨hok, rfl, rfl⟩)
    have PC3 := hidd (PC2.out.mono fun e w' ⟨⟨t, he, ht⟩, hb⟩ => (⟨⟨t, he, by simp only [bne_iff_ne, ne_eq]; rw [chk_zero ht]; exact hok⟩, hb⟩ : (∃ t : Int, e = Ending.returned (.int .i64 t) ∧ (t != 0) = true) ∧ _))
    clear PC2 HC EM hn hl hok
    go_enter Try.func16, Try.ntmps16
    go_wp2_with fail
    refine PC3.out.mono ?_
    rintro e w1 ⟨⟨t, rfl, ht⟩, b1⟩
    have B3 := hidd (belowT B2.out b1)
    have rc : w1.cell? ⟨w.heap.size, 0, none⟩ = some (.int .i64 0) ∧ w1.cell? ⟨w.heap.size, 1, none⟩ = some (.int .i64 0) ∧ w1.cell? ⟨w.heap.size + 1, 0, none⟩ = some (.int .i64 0) ∧ w1.cell? ⟨w.heap.size + 1, 1, none⟩ = some (.int .i64 0) ∧ w1.frozen? ⟨w.heap.size, 0, none⟩ = false ∧ w1.frozen? ⟨w.heap.size, 1, none⟩ = false ∧ w1.frozen? ⟨w.heap.size + 1, 0, none⟩ = false ∧ w1.frozen? ⟨w.heap.size + 1, 1, none⟩ = false := ⟨keepCell b1 (by go_simp), keepCell b1 (by go_simp), keepCell b1 (by go_simp), keepCell b1 (by go_simp), keepFrozen b1 (v := .int .i64 0) (by go_simp) (by go_simp), keepFrozen b1 (v := .int .i64 0) (by go_simp) (by go_simp), keepFrozen b1 (v := .int .i64 0) (by go_simp) (by go_simp), keepFrozen b1 (v := .int .i64 0) (by go_simp) (by go_simp)⟩
    obtain ⟨r0, r1, r2, r3, s0', s1', s2', s3'⟩ := rc
    clear B2 PC3 b1
    go_wp2_with fail
    exact bodyPost_ret (v := .tuple #[.agg #[.int .i64 0, .int .i64 0], .agg #[.int .i64 0, .int .i64 0]]) (by simp [results, Try.results16, go_sem, r0, r1, r2, r3]) rfl ⟨⟨(0, 0), (0, 0), rfl, HN.out⟩, by have := B3.out; go_grown⟩

end Go.Proofs.Ytmfpkphhjfgjbaa
