/-
  The digits of all on a cell's line, handed on one by one, the finest first: what package ident's digits of a line tells a loop over it, for any cell that may be.
-/
import Derived.Test.YtlipbdiijjfheabDoorRFLaw
import Derived.Test.YtlipbdiijjfheabDoorIWord
import Derived.Test.YtlipbdiijjfheabDoorCCell
import Derived.Shelf.RegionOpen
import Derived.WalkKit
import Derived.OwnWalkIn
import Derived.TacticsInMore
import Derived.LoopNIn
import Derived.LoopIn
import Derived.RegionIn
import Derived.Stop.RegionWithIn
namespace Go.Proofs.YtlipbdiijjfheabDoor
open Go.RowKit Go
attribute [local go_sem] Oper.semAt_some

/-- What a round is handed: a size from 1 to 12, a digit from 0 to 7. -/
abbrev Dig := Fin 12 × Fin 8
def szD (x : Dig) : Int := ((x.1.val + 1 : Nat) : Int)
def dgD (x : Dig) : Int := ((x.2.val : Nat) : Int)
abbrev encD (x : Dig) : Array Value := #[.int .i64 (szD x), .int .i64 (dgD x)]
theorem szD_box (x : Dig) : 1 ≤ szD x ∧ szD x ≤ 12 ∧ (szD x).toNat = x.1.val + 1 := by unfold szD; have := x.1.isLt; omega
theorem dgD_box (x : Dig) : 0 ≤ dgD x ∧ dgD x ≤ 7 := by unfold dgD; have := x.2.isLt; omega
def mkD (j : Nat) (d : Int) : Dig := (⟨(j - 1) % 12, by omega⟩, ⟨d.toNat % 8, by omega⟩)
theorem encD_mk {j : Nat} {d : Int} (j1 : 1 ≤ j) (j2 : j ≤ 12) (d0 : 0 ≤ d) (d7 : d ≤ 7) : encD (mkD j d) = #[.int .i64 (j : Int), .int .i64 d] := by
  unfold encD szD dgD mkD
  simp only
  rw [show (((j - 1) % 12 + 1 : Nat) : Int) = (j : Int) by omega, show ((d.toNat % 8 : Nat) : Int) = d by omega]
/-- The first k digits, from the finest on. -/
def digL (r : Nat) (a b : Int) (k : Nat) : List Dig := (List.range k).map fun (i : Nat) => mkD (r - i) (dig (ups i a b).1 (ups i a b).2)
theorem digL_step (r : Nat) (a b : Int) (k : Nat) : digL r a b (k + 1) = digL r a b k ++ [mkD (r - k) (dig (ups k a b).1 (ups k a b).2)] := by unfold digL; rw [List.range_succ, List.map_append]; rfl
theorem digL_len (r : Nat) (a b : Int) (k : Nat) : (digL r a b k).length = k := by unfold digL; simp
theorem slotI_of {w : World} {p : Addr} {n : Int} (h : w.cell? p = some (.int .i64 n)) : slotInt w p = n := by unfold slotInt; rw [h]

set_option maxRecDepth 100000 in
set_option maxHeartbeats 4000000 in
theorem ldig_seq (r : Nat) (a b : Int) (h : Ok4 (r : Int) a b) (n₀ : Nat) (w : World) (hn : n₀ ≤ w.heap.size) (g0 : 0 < n₀) (g1 : 1 < n₀) (hT : Tabs w) :
    SeqF Fence.wide 2 Tryd.prog 14 #[.agg #[.int .i64 (r : Int), .int .i64 a, .int .i64 b]] #[] encD n₀ (fun xs => xs = digL r a b r) (fun _ => True) r w := by
  intro l J Jx W hW hJ hJx hY h0
  have hT0 : Hid (Tabs W) := hT.below hW
  have hW0 : n₀ ≤ W.heap.size := Nat.le_trans hn hW.size
  clear hT
  refine callsIn_of_wp Tryd.func14 rfl trivial ?_ rfl
  simp only [Tryd.ntmps14, List.size_toArray, List.length_cons, List.length_nil, Nat.reduceAdd, Nat.reduceSub, Array.replicate_succ, Array.replicate_zero, List.push_toArray, List.append_toArray, List.nil_append, List.cons_append]
  gi_wp2
  have hz0 : (((W.alloc (.cells #[.int .i64 (r : Int), .int .i64 a, .int .i64 b] 48)).alloc (.cells #[.int .i64 (r : Int), .int .i64 a, .int .i64 b] 25))).heap.size = W.heap.size + 2 := by simp
  gi_loopw [4] (fun v4 wr => ∃ k B : Nat, k ≤ r ∧ v4 = .pointer (some ⟨B, 0, none⟩) ∧ W.heap.size ≤ B ∧ wr.cell? ⟨B, 0, none⟩ = some (.int .i64 ((r : Int) - (k : Int))) ∧ wr.cell? ⟨B, 1, none⟩ = some (.int .i64 (ups k a b).1) ∧ wr.cell? ⟨B, 2, none⟩ = some (.int .i64 (ups k a b).2) ∧ wr.frozen? ⟨B, 0, none⟩ = false ∧ wr.frozen? ⟨B, 1, none⟩ = false ∧ wr.frozen? ⟨B, 2, none⟩ = false ∧ Below n₀ W wr ∧ W.heap.size ≤ wr.heap.size ∧ J (digL r a b k) wr) (fun v4 wr => match v4 with | .pointer (some p) => (slotInt wr p).toNat | _ => 0)
  case atStart =>
    exact ⟨0, W.heap.size + 1, by omega, rfl, by omega, by go_simp, by go_simp; rfl, by go_simp; rfl, by go_simp, by go_simp, by go_simp, by go_grown, by simp; omega, hJ _ _ _ h0 (by go_grown)⟩
  case round =>
    obtain ⟨k, B, hk, rfl, hB, z0, z1, z2, fz0, fz1, fz2, hb, hsz, hJr⟩ := hrel
    by_cases hlt : k < r
    · have hO := ok4_ups h k (by omega)
      have hdr : Below wr.heap.size wr wr.drew := (Below.refl _ _).drew
      have hT1 : Tabs wr.drew := (hT0.out.low (B := n₀) g0 g1 hb).below hdr
      have hDG : Calls Tryd.prog 7 #[.agg #[.int .i64 ((r : Int) - (k : Int)), .int .i64 (ups k a b).1, .int .i64 (ups k a b).2]] wr.drew fun e w' => e = .returned (.int .i64 (dig (ups k a b).1 (ups k a b).2)) ∧ Below wr.drew.heap.size wr.drew w' := cdigit_yes _ _ _ hO (by omega) _ hT1
      have hYY : ∀ w1, Below wr.drew.heap.size wr.drew w1 → YieldAt Fence.wide 1 Tryd.prog l #[.int .i64 ((r : Int) - (k : Int)), .int .i64 (dig (ups k a b).1 (ups k a b).2)] w1 fun e W' => ∃ v : Bool, e = .returned (.bool v) ∧ ((v = true ∧ J (digL r a b (k + 1)) W' ∧ Below n₀ w1 W' ∧ High W.heap.size w1 W') ∨ (v = false ∧ ∃ pre, Jx pre W')) := by
        intro w1 hb1
        have hJ1 : J (digL r a b k) w1 := hJ _ _ _ hJr ((hdr.trans hb1).mono hsz)
        have hd := dig_box (ups k a b).1 (ups k a b).2
        have h12 := h.2.1
        obtain ⟨fn, tmps, assign, body, hy, hR⟩ := hY _ (mkD (r - k) (dig (ups k a b).1 (ups k a b).2)) w1 hJ1 (by rw [digL_len]; exact hlt) (by have := hb1.size; have := hdr.size; omega)
        rw [encD_mk (by omega) (by omega) hd.1 (by omega), show ((r - k : Nat) : Int) = (r : Int) - (k : Int) by omega] at hy
        refine ⟨fn, tmps, assign, body, hy, hR.mono ?_⟩
        rintro e W' (⟨rfl, h1, h2, h3⟩ | ⟨rfl, h1⟩)
        · exact ⟨true, rfl, .inl ⟨rfl, by rw [digL_step]; exact h1, h2, h3⟩⟩
        · exact ⟨false, rfl, .inr ⟨rfl, _, h1⟩⟩
      generalize dig (ups k a b).1 (ups k a b).2 = D at *
      have d0 : wr.drew.cell? ⟨B, 0, none⟩ = some (.int .i64 ((r : Int) - (k : Int))) := z0
      gi_wp2
      gi_region_with (first | (refine ⟨trivial, ?_⟩; gi_at_call 7; refine (callsIn_wide.2 hDG).mono ?_; rintro e w1 ⟨rfl, hb1⟩; have y0 := keepCell hb1 d0; obtain ⟨fn, tmps, assign, body, hy, hR⟩ := hYY w1 hb1) | (refine hR.mono ?_; rintro e W3 ⟨v, rfl, hv⟩))
      all_goals
        rcases hv with ⟨rfl, h1, h2, h3⟩ | ⟨rfl, pre, h1⟩
        · have c0 := h3.cell (p := ⟨B, 0, none⟩) hB y0
          have c1 := h3.cell (p := ⟨B, 1, none⟩) hB (keepCell hb1 (show wr.drew.cell? ⟨B, 1, none⟩ = _ from z1))
          have c2 := h3.cell (p := ⟨B, 2, none⟩) hB (keepCell hb1 (show wr.drew.cell? ⟨B, 2, none⟩ = _ from z2))
          have hb3 : Below n₀ W W3 := ((hb.trans (hdr.mono (by omega))).trans (hb1.mono (by have := hdr.size; omega))).trans h2
          have hs3 : W.heap.size ≤ W3.heap.size := by have := h3.size; have := hb1.size; have := hdr.size; omega
          have hT3 : Tabs W3 := hT0.out.low (B := n₀) g0 g1 hb3
          have PA : Hid (∀ w, Tabs w → Calls Tryd.prog 28 #[.agg #[.int .i64 ((r : Int) - (k : Int)), .int .i64 (ups k a b).1, .int .i64 (ups k a b).2]] w fun e w' => e = .returned (.tuple #[.agg #[.int .i64 ((r : Int) - (k : Int) - 1), .int .i64 (ups (k + 1) a b).1, .int .i64 (ups (k + 1) a b).2], .int .i64 0]) ∧ Below w.heap.size w w') := by
            intro w hT
            rw [ups_last]
            exact cparent_yes _ _ _ hO (by omega) w hT
          generalize (ups k a b).1 = P at *
          generalize (ups k a b).2 = Q at *
          clear hDG hYY hy hR
          have a0 : (W3.alloc (.cells #[.int .i64 ((r : Int) - (k : Int)), .int .i64 P, .int .i64 Q] 25)).cell? ⟨W3.heap.size, 0, none⟩ = some (.int .i64 ((r : Int) - (k : Int))) := by go_simp
          have a1 : (W3.alloc (.cells #[.int .i64 ((r : Int) - (k : Int)), .int .i64 P, .int .i64 Q] 25)).cell? ⟨W3.heap.size, 1, none⟩ = some (.int .i64 P) := by go_simp
          have a2 : (W3.alloc (.cells #[.int .i64 ((r : Int) - (k : Int)), .int .i64 P, .int .i64 Q] 25)).cell? ⟨W3.heap.size, 2, none⟩ = some (.int .i64 Q) := by go_simp
          have f0 : (W3.alloc (.cells #[.int .i64 ((r : Int) - (k : Int)), .int .i64 P, .int .i64 Q] 25)).frozen? ⟨W3.heap.size, 0, none⟩ = false := by go_simp
          have f1 : (W3.alloc (.cells #[.int .i64 ((r : Int) - (k : Int)), .int .i64 P, .int .i64 Q] 25)).frozen? ⟨W3.heap.size, 1, none⟩ = false := by go_simp
          have f2 : (W3.alloc (.cells #[.int .i64 ((r : Int) - (k : Int)), .int .i64 P, .int .i64 Q] 25)).frozen? ⟨W3.heap.size, 2, none⟩ = false := by go_simp
          have hal := allocB W3 (.cells #[.int .i64 ((r : Int) - (k : Int)), .int .i64 P, .int .i64 Q] 25)
          have hT4 := hT3.below hal
          gi_wp2_with (refine ⟨trivial, ?_⟩; gi_at_call 28; refine (callsIn_wide.2 (PA.out _ hT4)).mono ?_; rintro e w4 ⟨rfl, hb4⟩; have q0 := keepCell hb4 a0; have q1 := keepCell hb4 a1; have q2 := keepCell hb4 a2; have fq0 := keepFrozen hb4 a0 f0; have fq1 := keepFrozen hb4 a1 f1; have fq2 := keepFrozen hb4 a2 f2)
          obtain ⟨e0, e1, e2⟩ := three_stores (u0 := .int .i64 ((r : Int) - (k : Int) - 1)) (u1 := .int .i64 (ups (k + 1) a b).1) (u2 := .int .i64 (ups (k + 1) a b).2) q0 q1 q2
          have hb5 := belowT hal hb4
          have hb6 := (((hb5.mono (show W.heap.size ≤ W3.heap.size by omega)).setCell (p := ⟨W3.heap.size, 0, none⟩) hs3 (.int .i64 ((r : Int) - (k : Int) - 1))).setCell (p := ⟨W3.heap.size, 1, none⟩) hs3 (.int .i64 (ups (k + 1) a b).1)).setCell (p := ⟨W3.heap.size, 2, none⟩) hs3 (.int .i64 (ups (k + 1) a b).2)
          go_roundw
          case rel => exact ⟨k + 1, W3.heap.size, by omega, rfl, hs3, by rw [e0, show ((r : Int) - ((k + 1 : Nat) : Int)) = (r : Int) - (k : Int) - 1 by omega], e1, e2, by simp [fq0], by simp [fq1], by simp [fq2], hb3.trans (hb6.mono (by omega)), by have := hb6.size; omega, hJ _ _ _ h1 hb6⟩
          case measure =>
            show (slotInt _ _).toNat < (slotInt _ _).toNat
            rw [slotI_of e0, slotI_of z0]
            omega
        · gi_wp2
          refine bodyPost_ret (results_none rfl _ _ _) rfl ?_
          exact ⟨⟨_, rfl⟩, .inr ⟨pre, trivial, h1⟩⟩
    · obtain rfl : k = r := by omega
      gi_wp2
      go_end0
      exact ⟨⟨_, rfl⟩, .inl ⟨_, rfl, hJr⟩⟩
end Go.Proofs.YtlipbdiijjfheabDoor
