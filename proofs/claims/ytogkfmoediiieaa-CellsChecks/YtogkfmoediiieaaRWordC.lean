/-
  What the document's own Word of a cell tells, for any numbers; and the word of a cell that the laws make of numbers; in whatever memory.
-/
import Derived.Test.YtogkfmoediiieaaR2C
import Derived.Test.YtogkfmoediiieaaW0C
import Derived.Test.YtogkfmoediiieaaIOfC
import Derived.Test.YtogkfmoediiieaaProg
import Derived.Handy
import Derived.Deep.QuietTactic
import Derived.WalkSpells
import Derived.WalkLawsBesides
import Derived.BigQuiet
import Derived.PlainAid
import Derived.Deep.RegionWith
import Derived.Laws.BitsAllLaws
import Derived.Deep.RegionHeld3
import Derived.WalkSmall
import Derived.Deep.CutRange
import Derived.BigRegion
import Derived.OwnWalk
import Derived.Laws.OwnMore
import Derived.Deep.LoopGhost
import Derived.RangeFuncFrom
import Derived.RangeFuncCalls
import Derived.RangeFuncLeaves
import Derived.WalkKit
import Derived.OwnWalkIn
import Derived.TacticsInMore
import Derived.LoopNIn
import Derived.LoopIn
import Derived.RegionIn
import Derived.Stop.RegionWithIn
namespace Go.Proofs.Ytogkfmoediiieaa
open Go.RowKit

/-- The digits alone. -/
def lowW (n : Nat) (a b : Int) (j : Nat) : Int := wd (-16) (-512) (-512) (fromD n a b (n - j))

theorem lowW_box (n : Nat) (a b : Int) (j : Nat) : 0 ≤ lowW n a b j ∧ lowW n a b j < 68719476736 := by
  have h := lowD_box (d := fromD n a b (n - j)) (fun i _ _ => fromD_box n a b (n - j) i)
  unfold lowW wd headD
  omega

theorem lowW_start (n : Nat) (a b : Int) : lowW n a b n = 68719476735 := by
  have e : ∀ j, 1 ≤ j → j ≤ 12 → fromD n a b (n - n) j = (fun _ => (7 : Int)) j := by
    intro j _ _
    unfold fromD
    split
    · exact (dgs_seven n a b j).2 (by omega)
    · rfl
  unfold lowW
  rw [wd_congr e]
  decide

theorem lowW_step {n : Nat} {a b : Int} (hn : n ≤ 12) {j : Nat} (j1 : 1 ≤ j) (j2 : j ≤ n) : setD (lowW n a b j) j (dig (ups (n - j) a b).1 (ups (n - j) a b).2) = lowW n a b (j - 1) := by
  unfold lowW
  rw [setD_wd (fun i _ _ => fromD_box n a b (n - j) i) _ j1 (by omega)]
  apply wd_congr
  intro i i1 i2
  by_cases hi : i = j
  · subst hi
    rw [putD_at]
    unfold fromD dgs
    rw [if_pos (by omega), if_pos (by omega)]
  · rw [putD_other _ _ hi]
    unfold fromD
    by_cases h1 : n < i + (n - j)
    · rw [if_pos h1, if_pos (by omega)]
    · rw [if_neg h1, if_neg (by omega)]

theorem lowW_end (n : Nat) (a b : Int) : headD n (ups n a b).1 (ups n a b).2 + lowW n a b 0 = wordOf n a b := by
  have e : ∀ j, 1 ≤ j → j ≤ 12 → fromD n a b (n - 0) j = dgs n a b j := by
    intro j _ _
    unfold fromD
    rw [if_pos (by omega)]
  unfold lowW wordOf
  rw [wd_congr e]
  unfold wd
  have : headD (-16) (-512) (-512) = 0 := by decide
  omega

theorem head_math {L R A B : Int} (hL : 0 ≤ L ∧ L < 68719476736) (hR : 0 ≤ R ∧ R ≤ 12) (hA : InBase A) (hB : InBase B) :
    bits .or .u64 (bits .or .u64 (bits .or .u64 (bits .or .u64 L 1152921504606846976) (IntKind.u64.wrap (R * 72057594037927936))) (IntKind.u64.wrap ((A + 512) * 70368744177664))) (IntKind.u64.wrap ((B + 512) * 68719476736)) = headD R A B + L := by
  unfold InBase at hA hB
  obtain ⟨r0, r1⟩ := hR
  obtain ⟨a0, a1⟩ := hA
  obtain ⟨b0, b1⟩ := hB
  obtain ⟨l0, l1⟩ := hL
  rw [u64_wrap (n := R * 72057594037927936) ⟨by omega, by omega⟩, u64_wrap (n := (A + 512) * 70368744177664) ⟨by omega, by omega⟩, u64_wrap (n := (B + 512) * 68719476736) ⟨by omega, by omega⟩]
  have uL : U64 L := ⟨by omega, by omega⟩
  have uM : U64 1152921504606846976 := ⟨by omega, by omega⟩
  have uR : U64 (R * 72057594037927936) := ⟨by omega, by omega⟩
  have uA : U64 ((A + 512) * 70368744177664) := ⟨by omega, by omega⟩
  have uB : U64 ((B + 512) * 68719476736) := ⟨by omega, by omega⟩
  rw [u64_ora uL uM uR]
  have e1 : bits .or .u64 1152921504606846976 (R * 72057594037927936) = 1152921504606846976 + R * 72057594037927936 := u64_join (i := 60) (p := 1152921504606846976) uM rfl (by omega) (by omega) (by omega) (by omega)
  have u1 : U64 (1152921504606846976 + R * 72057594037927936) := ⟨by omega, by omega⟩
  rw [e1, u64_ora uL u1 uA]
  have e2 : bits .or .u64 (1152921504606846976 + R * 72057594037927936) ((A + 512) * 70368744177664) = 1152921504606846976 + R * 72057594037927936 + (A + 512) * 70368744177664 := u64_join (i := 56) (p := 72057594037927936) u1 rfl (by omega) (by omega) (by omega) (by omega)
  have u2 : U64 (1152921504606846976 + R * 72057594037927936 + (A + 512) * 70368744177664) := ⟨by omega, by omega⟩
  rw [e2, u64_ora uL u2 uB]
  have e3 : bits .or .u64 (1152921504606846976 + R * 72057594037927936 + (A + 512) * 70368744177664) ((B + 512) * 68719476736) = headD R A B := by
    unfold headD
    exact u64_join (i := 46) (p := 70368744177664) u2 rfl (by omega) (by omega) (by omega) (by omega)
  have u3 : U64 (headD R A B) := by unfold headD; exact ⟨by omega, by omega⟩
  rw [e3, u64_orc uL u3]
  exact u64_join (i := 36) (p := 68719476736) u3 rfl (by unfold headD; omega) (by omega) (by omega) (by omega)

set_option maxHeartbeats 8000000 in
set_option maxRecDepth 20000 in
/-- WORD, as the document's own answer has it. -/
theorem rword_yes (n : Nat) (a b : Int) (h : Ok4 (n : Int) a b) (w : World) :
    Calls Try.prog 12 #[.agg #[.int .i64 (n : Int), .int .i64 a, .int .i64 b]] w fun e w' => e = .returned (.tuple #[.int .u64 (wordOf n a b), .int .i64 0]) ∧ Below w.heap.size w w' := by
  have hn : n ≤ 12 := by have := h.2.1; omega
  have OK : Hid (∀ w, Calls Try.prog 30 #[.agg #[.int .i64 (n : Int), .int .i64 a, .int .i64 b]] w fun e w' => e = .returned (.bool true) ∧ Below w.heap.size w w') := fun w => by rw [← ok4_mk h]; exact rok_any (n : Int) a b w
  have PA : Hid (∀ k : Nat, k ≤ n → ∀ w, Calls Try.prog 31 #[.agg #[.int .i64 (ups k a b).1, .int .i64 (ups k a b).2]] w fun e w' => e = .returned (.tuple #[.agg #[.int .i64 (ups (k + 1) a b).1, .int .i64 (ups (k + 1) a b).2], .int .i64 (dig (ups k a b).1 (ups k a b).2)]) ∧ Below w.heap.size w w') := by
    intro k hk w
    have hx := ups_box (B := 1073741824) (by omega) k (a := a) (b := b) h.2.2.1 h.2.2.2.1
    rw [ups_last]
    exact rparent_any _ _ hx.1 hx.2 w
  have hst := lowW_start n a b
  have hen : Hid (bits .or .u64 (bits .or .u64 (bits .or .u64 (bits .or .u64 (lowW n a b 0) 1152921504606846976) (IntKind.u64.wrap ((n : Int) * 72057594037927936))) (IntKind.u64.wrap (((ups n a b).1 + 512) * 70368744177664))) (IntKind.u64.wrap (((ups n a b).2 + 512) * 68719476736)) = wordOf n a b) := by
    have hA := h.2.2.2.2.1
    have hB := h.2.2.2.2.2
    rw [show ((n : Int)).toNat = n by omega] at hA hB
    show _ = _
    rw [head_math (lowW_box n a b 0) (by omega) hA hB, lowW_end]
  have hbb : Hid (InBase (ups n a b).1 ∧ InBase (ups n a b).2) := by
    have hA := h.2.2.2.2.1
    have hB := h.2.2.2.2.2
    rw [show ((n : Int)).toNat = n by omega] at hA hB
    exact ⟨hA, hB⟩
  generalize hW : wordOf n a b = WW at *
  clear hW h
  go_enter Try.func12, Try.ntmps12
  go_wp2_with fail
  refine (OK.out _).mono ?_
  rintro e w1 ⟨rfl, d1⟩
  have c1 : Below w.heap.size w w1 := Below.trans (by go_grown) (d1.mono (by simp; try omega))
  have z0 : w1.cell? ⟨w.heap.size, 0, none⟩ = some (.int .i64 (n : Int)) := keepCell d1 (by go_simp)
  have qz0 := World.block_lt_of_cell? _ _ z0
  have z1 : w1.cell? ⟨w.heap.size, 1, none⟩ = some (.int .i64 a) := keepCell d1 (by go_simp)
  have z2 : w1.cell? ⟨w.heap.size, 2, none⟩ = some (.int .i64 b) := keepCell d1 (by go_simp)
  have hB := c1
  clear c1 d1
  go_wp2_with fail
  have hal := allocB w1 (.cells #[.int .i64 a, .int .i64 b] 27)
  have y0 : (w1.alloc (.cells #[.int .i64 a, .int .i64 b] 27)).cell? ⟨w1.heap.size, 0, none⟩ = some (.int .i64 a) := by go_simp
  have y1 : (w1.alloc (.cells #[.int .i64 a, .int .i64 b] 27)).cell? ⟨w1.heap.size, 1, none⟩ = some (.int .i64 b) := by go_simp
  have fy0 : (w1.alloc (.cells #[.int .i64 a, .int .i64 b] 27)).frozen? ⟨w1.heap.size, 0, none⟩ = false := by go_simp
  have fy1 : (w1.alloc (.cells #[.int .i64 a, .int .i64 b] 27)).frozen? ⟨w1.heap.size, 1, none⟩ = false := by go_simp
  have x0 := keepCell hal z0
  have hB0 := belowT hB hal
  generalize w1.alloc (.cells #[.int .i64 a, .int .i64 b] 27) = wl at *
  go_loopw [5, 6] (fun v5 v6 wr => ∃ j : Nat, j ≤ n ∧ v5 = .int .u64 (lowW n a b j) ∧ v6 = .int .i64 (j : Int) ∧ wr.cell? ⟨w1.heap.size, 0, none⟩ = some (.int .i64 (ups (n - j) a b).1) ∧ wr.cell? ⟨w1.heap.size, 1, none⟩ = some (.int .i64 (ups (n - j) a b).2) ∧ wr.frozen? ⟨w1.heap.size, 0, none⟩ = false ∧ wr.frozen? ⟨w1.heap.size, 1, none⟩ = false ∧ wr.cell? ⟨w.heap.size, 0, none⟩ = some (.int .i64 (n : Int)) ∧ Below w.heap.size w wr) (fun _ v6 _ => (intOf v6).toNat)
  case atStart => exact ⟨n, by omega, by rw [hst], rfl, by rw [Nat.sub_self]; exact y0, by rw [Nat.sub_self]; exact y1, fy0, fy1, x0, hB0⟩
  case round =>
    clear hal y0 y1 fy0 fy1 x0 hB0 hB z0 z1 z2
    obtain ⟨j, hj, rfl, rfl, y0, y1, fy0, fy1, x0, hB⟩ := hrel
    by_cases hlt : 0 < j
    · have hbx := lowW_box n a b j
      have hdd := dig_box (ups (n - j) a b).1 (ups (n - j) a b).2
      have hstep := lowW_step (a := a) (b := b) hn hlt hj
      have hmath := with_math (v := lowW n a b j) (r := j) ⟨by omega, by omega⟩ hdd.1 (by omega) hlt (by omega)
      rw [hstep] at hmath
      have PJ := PA.out (n - j) (by omega)
      rw [show n - j + 1 = n - (j - 1) by omega] at PJ
      replace PJ : Hid _ := PJ
      obtain ⟨U, hU⟩ : ∃ U, (ups (n - (j - 1)) a b).1 = U := ⟨_, rfl⟩
      obtain ⟨V, hV⟩ : ∃ V, (ups (n - (j - 1)) a b).2 = V := ⟨_, rfl⟩
      rw [hU, hV] at PJ
      generalize dig (ups (n - j) a b).1 (ups (n - j) a b).2 = d at *
      generalize (ups (n - j) a b).1 = X at *
      generalize (ups (n - j) a b).2 = Y at *
      obtain ⟨D, eD⟩ : ∃ D, 36 - 3 * (j : Int) = D := ⟨_, rfl⟩
      have D0 : ¬ D < 0 := by omega
      have eDn : D.toNat = 3 * (12 - j) := by omega
      obtain ⟨p, hp⟩ : ∃ p : Int, 8 ^ (12 - j) = p := ⟨_, rfl⟩
      have ep : (2 : Int) ^ D.toNat = p := by rw [eDn, Int.pow_mul]; exact hp
      have ep' : (2 : Int) ^ min D.toNat 64 = p := by rw [show min D.toNat 64 = D.toNat by omega]; exact ep
      rw [hp] at hmath
      obtain ⟨s, hs⟩ : ∃ s, IntKind.u64.wrap (7 * p) = s := ⟨_, rfl⟩
      obtain ⟨t, ht⟩ : ∃ t, IntKind.u64.wrap (d * p) = t := ⟨_, rfl⟩
      rw [hs, ht] at hmath
      obtain ⟨q, hq⟩ : ∃ q, bits .andNot .u64 (lowW n a b j) s = q := ⟨_, rfl⟩
      rw [hq] at hmath
      obtain ⟨d0, d6⟩ := hdd
      have jb : (1 : Int) ≤ (j : Int) ∧ (j : Int) ≤ 12 := by omega
      replace hU : Hid _ := hU
      replace hV : Hid _ := hV
      clear hstep PA hst hen hbb eDn hp
      obtain ⟨L', eL⟩ : ∃ L', lowW n a b (j - 1) = L' := ⟨_, rfl⟩
      rw [eL] at hmath
      replace eL : Hid _ := eL
      generalize hLj : lowW n a b j = Lj at *
      clear hLj
      have qy0 := World.block_lt_of_cell? _ _ y0
      have qx0 := World.block_lt_of_cell? _ _ x0
      go_wp2_with fail
      refine (PJ.out _).mono ?_
      rintro e v1 ⟨rfl, d1⟩
      have c1 : Below wr.heap.size wr v1 := Below.trans (by go_grown) (d1.mono (by simp; try omega))
      replace fy0 := keepFrozen c1 y0 fy0
      replace y0 := keepCell c1 y0
      replace qy0 := World.block_lt_of_cell? _ _ y0
      replace fy1 := keepFrozen c1 y1 fy1
      replace y1 := keepCell c1 y1
      replace x0 := keepCell c1 x0
      replace qx0 := World.block_lt_of_cell? _ _ x0
      replace hB := belowT hB c1
      clear c1 d1
      go_wp2_with fail
      go_quiet (fail)
      have hdw : Below v1.heap.size v1 ((v1.alloc (.cells #[.int .i64 U, .int .i64 V] 27)).drewN nq) := belowN (allocB _ _) _
      have g0 : ((v1.alloc (.cells #[.int .i64 U, .int .i64 V] 27)).drewN nq).cell? ⟨v1.heap.size, 0, none⟩ = some (.int .i64 U) := by go_simp
      have g1 : ((v1.alloc (.cells #[.int .i64 U, .int .i64 V] 27)).drewN nq).cell? ⟨v1.heap.size, 1, none⟩ = some (.int .i64 V) := by go_simp
      replace fy0 := keepFrozen hdw y0 fy0
      replace fy1 := keepFrozen hdw y1 fy1
      replace y0 := keepCell hdw y0
      replace y1 := keepCell hdw y1
      replace x0 := keepCell hdw x0
      replace hB := belowT hB hdw
      clear hdw
      generalize (v1.alloc (.cells #[.int .i64 U, .int .i64 V] 27)).drewN nq = wq at *
      obtain ⟨h0, h1⟩ := two_stores (u := .int .i64 U) (v := .int .i64 V) y0 y1
      go_wp2
      go_roundw
      case rel => exact ⟨j - 1, by omega, by rw [eL.out], by go_num, by rw [hU.out]; exact h0, by rw [hV.out]; exact h1, by simp [fy0], by simp [fy1], store_keep (store_keep x0 (by first | (simp; done) | (simp; omega))) (by first | (simp; done) | (simp; omega)), (hB.setCell (by simp; omega) _).setCell (by simp; omega) _⟩
      case measure => simp [intOf]; omega
    · obtain rfl : j = 0 := by omega
      rw [Nat.sub_zero] at y0 y1
      have hh := hen.out
      obtain ⟨⟨a1, a2⟩, b1, b2⟩ := hbb.out
      clear PA hst hen hbb
      generalize (ups n a b).1 = A at *
      generalize (ups n a b).2 = B at *
      obtain ⟨t1, e1⟩ : ∃ t1, IntKind.u64.wrap ((n : Int) * 72057594037927936) = t1 := ⟨_, rfl⟩
      obtain ⟨t2, e2⟩ : ∃ t2, IntKind.u64.wrap ((A + 512) * 70368744177664) = t2 := ⟨_, rfl⟩
      obtain ⟨t3, e3⟩ : ∃ t3, IntKind.u64.wrap ((B + 512) * 68719476736) = t3 := ⟨_, rfl⟩
      rw [e1, e2, e3] at hh
      have nb : (n : Int) ≤ 12 := by omega
      go_wp2
      go_ret2
      exact ⟨rfl, hB⟩

/-- The ending that tells a cell's word. -/
def TellsW (s : Nat) (e : Ending) : Prop := ∃ P Q, e = .returned (.int .u64 (wordOf s P Q)) ∧ Ok4 (s : Int) P Q

set_option maxHeartbeats 1000000 in
/-- WORD, of a cell made of numbers. -/
theorem aword_at (x0 y0 r0 : Int) (s : Nat) (SO : ∀ w, Calls Try.prog 27 #[.int .i64 x0, .int .i64 y0, .int .i64 r0] w fun e w' => TellsS (s : Int) e ∧ Below w.heap.size w w') (w : World) :
    Calls Try.prog 9 #[.int .i64 x0, .int .i64 y0, .int .i64 r0] w fun e w' => TellsW s e ∧ Below w.heap.size w w' := by
  replace SO : Hid _ := SO
  go_enter Try.func9, Try.ntmps9
  go_wp2_with fail
  refine (SO.out _).mono ?_
  rintro e w1 ⟨⟨P, Q, rfl, hO⟩, d1⟩
  have c1 : Below w.heap.size w w1 := Below.trans (by go_grown) (d1.mono (by simp; try omega))
  have hB := c1
  clear c1 d1
  have WO : Hid _ := rword_yes s P Q hO
  go_wp2_with fail
  refine (WO.out _).mono ?_
  rintro e w2 ⟨rfl, d2⟩
  have c2 : Below w1.heap.size w1 w2 := Below.trans (by go_grown) (d2.mono (by simp; try omega))
  replace hB := belowT hB c2
  clear c2 d2
  go_wp2
  go_ret
  exact ⟨⟨P, Q, rfl, hO⟩, hB⟩

theorem aword_any (x0 y0 r0 : Int) : ∃ s : Nat, s ≤ 12 ∧ ∀ w, Calls Try.prog 9 #[.int .i64 x0, .int .i64 y0, .int .i64 r0] w fun e w' => TellsW s e ∧ Below w.heap.size w w' := by
  obtain ⟨s, s0, s12, SO⟩ := csome_any x0 y0 r0
  obtain ⟨n, rfl⟩ := Int.eq_ofNat_of_zero_le s0
  exact ⟨n, by omega, aword_at x0 y0 r0 n SO⟩

end Go.Proofs.Ytogkfmoediiieaa
