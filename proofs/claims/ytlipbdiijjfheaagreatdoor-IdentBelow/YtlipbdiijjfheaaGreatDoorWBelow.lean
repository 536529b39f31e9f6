/-
  The words below a word: the words of a word's children, one behind the other; what the document's own kids, Set, Size and Spread tell; between which two words those below a word lie; in whatever memory.
-/
import Derived.Test.YtlipbdiijjfheaaGreatDoorRWord
import Derived.Test.YtlipbdiijjfheaaGreatDoorRWCell
import Derived.Test.YtlipbdiijjfheaaGreatDoorRKids
import Derived.Laws.CopyOwn
import Derived.BigQuiet
import Derived.Deep.QuietTactic
import Derived.Deep.RegionLaw
import Derived.WalkSmall
import Derived.BigRegion
import Derived.Test.YtlipbdiijjfheaaGreatDoorRefPow
namespace Go.Proofs.YtlipbdiijjfheaaGreatDoor
open Go.RowKit

/-- The word of a word's child. -/
def chW (v : Int) (d : Nat) : Int := v + 72057594037927936 - (7 - (d : Int)) * 8 ^ (11 - (wR v).toNat)
theorem child_word {v : Int} (h : Whole v) (hr : wR v < 12) {d : Nat} (hd : d ≤ 6) :
    Ok4 (((wR v).toNat + 1 : Nat) : Int) (chA (d : Int) (cellA v) (cellB v)) (chB (d : Int) (cellA v) (cellB v)) ∧ wordOf ((wR v).toNat + 1) (chA (d : Int) (cellA v) (cellB v)) (chB (d : Int) (cellA v) (cellB v)) = chW v d := by
  have hb := wR_box v
  have hc := ok4_child (cell_ok h) hr (show 0 ≤ (d : Int) by omega) (show (d : Int) ≤ 6 by omega)
  rw [show wR v + 1 = (((wR v).toNat + 1 : Nat) : Int) by omega] at hc
  refine ⟨hc, ?_⟩
  have hp := par_one (P := cellA v) (Q := cellB v) (show 0 ≤ (d : Int) by omega) (show (d : Int) ≤ 6 by omega)
  have hu := raised_word hc (by omega)
  rw [hp.2.1, hp.2.2, Nat.add_sub_cancel, word_cell h] at hu
  have hw := word_parts hc
  have hdg := hw.2.2.2.2.1 ((wR v).toNat + 1) (by omega) (by omega)
  unfold dgs at hdg
  rw [if_pos (Nat.le_refl _), Nat.sub_self] at hdg
  unfold upW setD at hu
  rw [hw.2.1] at hu
  rw [show (((wR v).toNat + 1 : Nat) : Int).toNat = (wR v).toNat + 1 by omega, hdg] at hu
  rw [show ups 0 (chA (d : Int) (cellA v) (cellB v)) (chB (d : Int) (cellA v) (cellB v)) = (chA (d : Int) (cellA v) (cellB v), chB (d : Int) (cellA v) (cellB v)) from rfl] at hu
  simp only at hu
  rw [hp.1, show 12 - ((wR v).toNat + 1) = 11 - (wR v).toNat by omega] at hu
  unfold chW
  rw [Int.sub_mul]
  omega
theorem chW_whole {v : Int} (h : Whole v) (hr : wR v < 12) {d : Nat} (hd : d ≤ 6) : Whole (chW v d) ∧ wR (chW v d) = wR v + 1 := by
  have hb := wR_box v
  have hc := child_word h hr hd
  have hp := word_parts hc.1
  rw [hc.2] at hp
  exact ⟨hp.1, by rw [hp.2.1]; omega⟩

theorem infoU64 : (Tryz.prog.info? 22).map (fun i => (i.zero, i.size, i.bytes)) = some (some (.int .u64 0), 1, 8) := by kernel_rfl
/-- The words of the first k children. -/
def kidL (v : Int) (k : Nat) : List Value := (List.range k).map fun d => Value.int .u64 (chW v d)
theorem kidL_step (v : Int) (k : Nat) : kidL v (k + 1) = kidL v k ++ [.int .u64 (chW v k)] := by unfold kidL; rw [List.range_succ, List.map_append]; rfl
theorem kidL_at (v : Int) (d : Nat) (h : d < 7) : (kidL v 7)[d]? = some (.int .u64 (chW v d)) := by unfold kidL; simp [h]
theorem one_lies (w : World) (B : Nat) (h : w.heap.size = B) (x : Value) (e : TypeId) : ∀ j u, ([x] : List Value)[j]? = some u → (w.alloc (.cells #[x] e)).cell? ((⟨B, 0, none⟩ : Addr).add j) = some u := by
  subst h
  intro j u hj
  match j, hj with
  | 0, hj => simp at hj; subst hj; simp [Addr.add]
theorem one_int (k : IntKind) (x : Int) : ∀ u ∈ ([.int k x] : List Value), u.oneCell' = true := by
  intro u hu; simp at hu; subst hu; rfl

/-- The ending that tells a word's seven children. -/
def TellsKW (v : Int) (e : Ending) (w' : World) : Prop := ∃ g cap, e = .returned (.slice (some ⟨g, 0, none⟩) 7 cap) ∧ ∀ d < 7, w'.cell? ⟨g, d, none⟩ = some (.int .u64 (chW v d))

set_option maxHeartbeats 8000000 in
set_option maxRecDepth 20000 in
theorem rkidsW (v : Int) (h : Whole v) (hr : wR v < 12) (w : World) :
    Calls Tryz.prog 42 #[.int .u64 v] w fun e w' => TellsKW v e w' ∧ Below w.heap.size w w' := by
  have hb := wR_box v
  have CE : Hid _ := rwcell_yes v h
  have KE : Hid _ := rkids_yes (wR v) (cellA v) (cellB v) (cell_ok h) hr
  have WE : Hid (∀ k : Nat, k < 7 → ∀ w, Calls Tryz.prog 20 #[.agg #[.int .i64 (kidG (wR v) (cellA v) (cellB v) (k * 3)), .int .i64 (kidG (wR v) (cellA v) (cellB v) (k * 3 + 1)), .int .i64 (kidG (wR v) (cellA v) (cellB v) (k * 3 + 2))]] w fun e w' => e = .returned (.tuple #[.int .u64 (chW v k), .int .i64 0]) ∧ Below w.heap.size w w') := by
    intro k hk w
    have hc := child_word h hr (show k ≤ 6 by omega)
    have := rword_yes _ _ _ hc.1 w
    rw [hc.2] at this
    rw [kidG_0, kidG_1, kidG_2, show wR v + 1 = (((wR v).toNat + 1 : Nat) : Int) by omega]
    exact this
  clear h
  generalize hR : wR v = R at *
  generalize cellA v = A at *
  generalize cellB v = B at *
  generalize kidG R A B = G at *
  clear hR
  go_enter Tryz.func42, Tryz.ntmps42
  go_wp2_with fail
  refine (CE.out _).mono ?_
  rintro e w1 ⟨rfl, d1⟩
  have c1 : Below w.heap.size w w1 := Below.trans (by go_grown) (d1.mono (by simp; try omega))
  have hB := c1
  clear c1 d1
  go_wp2_with fail
  refine (KE.out _).mono ?_
  rintro e w2 ⟨⟨g, cap, rfl, hG⟩, d2⟩
  have c2 : Below w1.heap.size w1 w2 := Below.trans (by go_grown) (d2.mono (by simp; try omega))
  replace hB := belowT hB c2
  clear c2 d2 CE KE
  replace hG : Hid _ := hG
  have hgl : g < w2.heap.size := World.block_lt_of_cell? _ _ (hG.out 0 (by omega))
  obtain ⟨i0, hi, hz0, hz1, hz2⟩ := info_parts infoU64
  go_wp2_with fail
  go_loopw [7, 8] (fun v7 v8 wr => ∃ k : Nat, k ≤ 7 ∧ v8 = .int .i64 (k : Int) ∧ Hid (wr.ownsRow w2.heap.size 22 1 v7 k (kidL v k)) ∧ Below w2.heap.size w2 wr) (fun _ v8 _ => 7 - (intOf v8).toNat)
  case atStart => exact ⟨0, by omega, rfl, World.ownsRow_nil _ _ _ _, Below.refl _ _⟩
  case round =>
    obtain ⟨k, hk, rfl, hO, hX⟩ := hrel
    by_cases hlt : k < 7
    · have s0 := keepLow hX (hG.out (k * 3) (by omega)) (by simp; omega)
      have s1 := keepLow hX (hG.out (k * 3 + 1) (by omega)) (by simp; omega)
      have s2 := keepLow hX (hG.out (k * 3 + 2) (by omega)) (by simp; omega)
      have WK : Hid _ := WE.out k hlt
      have hrow : Hid _ := kidL_step v k
      generalize G (k * 3) = g0 at *
      generalize G (k * 3 + 1) = g1 at *
      generalize G (k * 3 + 2) = g2 at *
      generalize chW v k = x at *
      clear WE hgl
      go_wp2_with fail
      refine (WK.out _).mono ?_
      rintro e w3 ⟨rfl, d3⟩
      have hX3 := hX.trans (d3.mono hX.size)
      have hwz3 : w2.heap.size ≤ w3.heap.size := hX3.size
      have hO3 : Hid (w3.ownsRow w2.heap.size 22 1 u7 k (kidL v k)) := own_keep d3 hO.out
      clear d3 hO hX s0 s1 s2 WK
      go_wp2_with (at_builtin; refine wpList_append_own _ rfl (.tmp 39) (.tmp 41) 43 rfl w2.heap.size 22 i0 (.int .u64 0) 1 8 Tryz.underlying43 hi hz0 hz1 hz2 rfl (by decide) _ _ _ rfl (own_keep (allocB _ _) hO3.out) ⟨w3.heap.size, 0, none⟩ 1 1 [.int .u64 x] rfl rfl (one_lies _ _ rfl _ _) (one_int _ _) (by unfold maxLen; omega) (by omega) (by simp; omega) ?_)
      intro v' w5 hown hgrow _
      have hX5 := (hX3.alloc hwz3 (.cells #[.int .u64 x] 22)).grown hgrow (by simp; omega) (own_block hO3.out)
      have hO5 : Hid (w5.ownsRow w2.heap.size 22 1 v' (k + 1) (kidL v (k + 1))) := by rw [hrow.out]; exact hown
      clear hown hgrow hO3 hX3 hwz3
      go_wp2
      go_roundw
      case rel => exact ⟨k + 1, by omega, by go_num, hO5, hX5⟩
      case measure => simp [intOf]; omega
    · obtain rfl : k = 7 := by omega
      obtain ⟨g', cap', rfl⟩ := own_shape hO.out (by omega)
      have hZ : Below w.heap.size w wr := hB.trans (hX.mono (by have := hB.size; omega))
      clear WE hgl
      go_wp2
      go_ret
      refine ⟨⟨g', cap', rfl, fun d hd => ?_⟩, hZ⟩
      rw [hO.out.cellAt d (by omega)]
      exact kidL_at v d hd


/-- Words as values. -/
def vals (L : List Int) : List Value := L.map (Value.int .u64)
theorem vals_len (L : List Int) : (vals L).length = L.length := by simp [vals]
theorem vals_at (L : List Int) (j : Nat) (h : j < L.length) : (vals L)[j]? = some (.int .u64 L[j]) := by simp [vals, h]
theorem own_slice {w : World} {base : Nat} {e : TypeId} {size : Nat} {v : Value} {n : Nat} {xs : List Value} (h : w.ownsRow base e size v n xs) : ∃ p c, v = .slice p n c ∧ (p = none ∧ n = 0 ∨ ∃ g, p = some ⟨g, 0, none⟩) := by
  rcases h.2 with ⟨rfl, rfl⟩ | ⟨g, c, cur, rfl, _⟩
  · exact ⟨none, 0, rfl, .inl ⟨rfl, rfl⟩⟩
  · exact ⟨_, c, rfl, .inr ⟨g, rfl⟩⟩

theorem hidd {p : Prop} (h : p) : Hid p := h
theorem own_some {p : Option Addr} {m : Nat} (h : p = none ∧ m = 0 ∨ ∃ g, p = some ⟨g, 0, none⟩) (hm : 0 < m) : ∃ g, p = some ⟨g, 0, none⟩ := by
  rcases h with ⟨_, h⟩ | h
  · omega
  · exact h
theorem set_row {cur : List Value} {L : List Int} {m lo : Nat} (hL : L.length = m) (hlo : lo ≤ m) (htake : cur.take (m + 1) = vals L ++ [.int .u64 0]) (x : Int) :
    ((splice cur (lo + 1) ((vals L).drop lo)).take (m + 1)).set lo (.int .u64 x) = vals (L.take lo ++ (x :: L.drop lo)) := by
  have h1 : cur.take (lo + 1) = (vals L).take lo ++ [(vals L ++ [Value.int .u64 0])[lo]'(by simp [vals_len]; omega)] := by
    rw [show cur.take (lo + 1) = (vals L ++ [Value.int .u64 0]).take (lo + 1) by rw [← htake, List.take_take, Nat.min_eq_left (by omega)]]
    rw [List.take_succ_eq_append_getElem (by simp [vals_len]; omega), List.take_append_of_le_length (by rw [vals_len]; omega)]
  unfold splice
  rw [h1, ← List.append_assoc]
  generalize (vals L ++ [Value.int .u64 0])[lo]'_ = z
  have hl1 : ((vals L).take lo).length = lo := by rw [List.length_take, vals_len]; omega
  rw [List.take_left' (by simp [vals_len]; omega), List.append_assoc, List.set_append_right _ _ (by omega), hl1, Nat.sub_self]
  simp [vals, List.map_take, List.map_drop]

set_option maxHeartbeats 8000000 in
set_option maxRecDepth 20000 in
theorem rset (D : Int → Prop) (hD : ∀ x, D x → U64 x) (X : List Int) (n : Nat) (hX : X.length = n) (h0 : 0 < n) (hn : n ≤ 20000) (hDX : ∀ x ∈ X, D x) (gl cap : Nat) (w : World)
    (hl : ∀ (j : Nat) (hj : j < X.length), w.cell? ⟨gl, j, none⟩ = some (.int .u64 X[j])) :
    Calls Tryz.prog 43 #[.slice (some ⟨gl, 0, none⟩) n cap] w fun e w' => (∃ (g m c : Nat) (L : List Int), e = .returned (.slice (some ⟨g, 0, none⟩) m c) ∧ 0 < m ∧ m ≤ n ∧ L.length = m ∧ (∀ x ∈ L, D x) ∧ w'.ownsRow w.heap.size 22 1 (.slice (some ⟨g, 0, none⟩) m c) m (vals L)) ∧ Below w.heap.size w w' := by
  replace hl : Hid _ := hl
  replace hDX : Hid _ := hDX
  replace hD : Hid _ := hD
  have hX0 : Hid _ := hX
  have h00 : Hid _ := h0
  clear h0 hX
  obtain ⟨i0, hi, hz0, hz1, hz2⟩ := info_parts infoU64
  go_enter Tryz.func43, Tryz.ntmps43
  go_wp2_with fail
  go_loopw [3, 4] (fun v3 v4 wr => ∃ (k m : Nat) (L : List Int), k ≤ n ∧ v4 = .int .i64 (k : Int) ∧ Hid (m ≤ k ∧ (0 < k → 0 < m) ∧ L.length = m ∧ (∀ x ∈ L, D x)) ∧ Hid (wr.ownsRow w.heap.size 22 1 v3 m (vals L)) ∧ Below w.heap.size w wr) (fun _ v4 _ => n - (intOf v4).toNat)
  case atStart => exact ⟨0, 0, [], by omega, rfl, ⟨by omega, by omega, rfl, by simp⟩, World.ownsRow_nil _ _ _ _, by go_grown⟩
  case round =>
    obtain ⟨k, m, L, hk, rfl, hM, hO, hB⟩ := hrel
    obtain ⟨wO, rfl⟩ : ∃ z, z = wr := ⟨_, rfl⟩
    obtain ⟨p, c, rfl, hp⟩ := own_slice hO.out
    replace hp : Hid _ := hp
    have hmk := hM.out.1
    have hm2 : m ≤ 20000 := by omega
    by_cases hlt : k < n
    · have hxk : k < X.length := by rw [hX0.out]; exact hlt
      have hDx : Hid (D X[k]) := hDX.out _ (List.getElem_mem hxk)
      have hgl : gl < w.heap.size := World.block_lt_of_cell? _ _ (hl.out k hxk)
      have c0 := keepLow hB (hl.out k hxk) hgl
      have hlk : Hid (w.cell? ⟨gl, k, none⟩ = some (.int .u64 X[k])) := hl.out k hxk
      have hxu := hD.out _ hDx.out
      generalize X[k] = x at *
      obtain ⟨x0, x1⟩ := hxu
      have hO2 := hO
      have hB2 := hB
      go_wp2_with fail
      go_loopw [5, 6] (fun v5 v6 w2 => ∃ lo hi : Nat, lo ≤ hi ∧ hi ≤ m ∧ v5 = .int .i64 (lo : Int) ∧ v6 = .int .i64 (hi : Int) ∧ Below wO.heap.size wO w2) (fun v5 v6 _ => (intOf v6 - intOf v5).toNat)
      case atStart => exact ⟨0, m, by omega, by omega, rfl, rfl, Below.refl _ _⟩
      case round =>
        obtain ⟨lo, hi', h1, h2, rfl, rfl, hb2⟩ := hrel
        by_cases hlh : lo < hi'
        · obtain ⟨mid, hmid⟩ : ∃ mid, (lo + hi') / 2 = mid := ⟨_, rfl⟩
          have m1 : lo ≤ mid := by omega
          have m2 : mid < hi' := by omega
          have m3 : mid < m := by omega
          have em : ((lo : Int) + (hi' : Int)).tdiv 2 = (mid : Int) := by rw [Int.tdiv_eq_ediv_of_nonneg (by omega)]; omega
          clear hmid
          obtain ⟨g, rfl⟩ := own_some hp.out (by omega)
          have hmL : mid < L.length := by rw [hM.out.2.2.1]; exact m3
          have cy := (own_keep hb2 hO.out).cellAt mid (by omega)
          rw [vals_at L mid hmL] at cy
          have cx := keepCell hb2 c0
          have hyu := hD.out _ (hM.out.2.2.2 _ (List.getElem_mem hmL))
          generalize L[mid] = y at *
          obtain ⟨y0, y1⟩ := hyu
          have hlh' : (lo : Int) < (hi' : Int) := by omega
          clear hxk hmL
          have hq : y < x ∨ decide (y < x) = false := by simp only [decide_eq_false_iff_not]; omega
          rcases hq with hq | hq
          · go_wp2_with fail
            go_quiet (fail)
            go_wp2
            go_roundw
            case rel => exact ⟨mid + 1, hi', by omega, by omega, by go_num, rfl, hb2.trans ⟨rfl, rfl, rfl, Nat.le_refl _, fun _ _ => rfl⟩⟩
            case measure => simp [intOf]; omega
          · go_wp2_with fail
            go_quiet (fail)
            go_wp2
            go_roundw
            case rel => exact ⟨lo, mid, by omega, by omega, rfl, rfl, hb2.trans ⟨rfl, rfl, rfl, Nat.le_refl _, fun _ _ => rfl⟩⟩
            case measure => simp [intOf]; omega
        · obtain rfl : lo = hi' := by omega
          have hlh' : decide ((lo : Int) < (lo : Int)) = false := by simp
          have cx := keepCell hb2 c0
          have hOc : Hid (wr.ownsRow w.heap.size 22 1 (.slice p m c) m (vals L)) := own_keep hb2 hO.out
          have hBc := hB.trans (hb2.mono hB.size)
          have hcase : ((lo : Int) < (m : Int) ∧ ∃ g, p = some ⟨g, 0, none⟩ ∧ wr.cell? ⟨g, lo, none⟩ = some (.int .u64 x)) ∨ ((lo : Int) < (m : Int) ∧ ∃ g, p = some ⟨g, 0, none⟩ ∧ ∃ y, wr.cell? ⟨g, lo, none⟩ = some (.int .u64 y) ∧ (y == x) = false) ∨ decide (lo < m) = false := by
            by_cases h : lo < m
            · obtain ⟨g, rfl⟩ := own_some hp.out (by omega)
              have hmL : lo < L.length := by rw [hM.out.2.2.1]; exact h
              have cy := hOc.out.cellAt lo (by omega)
              rw [vals_at L lo hmL] at cy
              by_cases hxy : L[lo] = x
              · exact .inl ⟨by omega, g, rfl, by rw [cy, hxy]⟩
              · exact .inr (.inl ⟨by omega, g, rfl, _, cy, by simpa using hxy⟩)
            · exact .inr (.inr (decide_eq_false h))
          clear hO2 hB2 hxk
          rcases hcase with ⟨hlm, g, rfl, cy⟩ | ⟨hlm, g, rfl, y, cy, hxy⟩ | hlm
          · have hm0 : 0 < m := by omega
            go_wp2_with fail
            go_quiet (fail)
            have dq : Below wr.heap.size wr (wr.drewN nq) := ⟨rfl, rfl, rfl, Nat.le_refl _, fun _ _ => rfl⟩
            generalize wr.drewN nq = wq at *
            have hOq : Hid (wq.ownsRow w.heap.size 22 1 (.slice (some ⟨g, 0, none⟩) m c) m (vals L)) := own_keep dq hOc.out
            have hBq := hBc.trans (dq.mono hBc.size)
            go_wp2
            go_roundw
            case rel => exact ⟨k + 1, m, L, by omega, by go_num, ⟨by omega, by omega, hM.out.2.2⟩, hOq, hBq⟩
            case measure => simp [intOf]; omega
          all_goals
            go_wp2_with fail
            go_quiet (fail)
            have dq : Below wr.heap.size wr (wr.drewN nq) := ⟨rfl, rfl, rfl, Nat.le_refl _, fun _ _ => rfl⟩
            generalize wr.drewN nq = wq at *
            have hOq := hidd (own_keep dq hOc.out)
            have hBq := hBc.trans (dq.mono hBc.size)
            have cxq := keepCell dq cx
            have hBqs := hBq.size
            have hqs := dq.size
            have hBcs := hBc.size
            go_wp2_with (at_builtin; refine wpList_append_own _ rfl (.tmp 50) (.tmp 51) 43 rfl w.heap.size 22 i0 (.int .u64 0) 1 8 Tryz.underlying43 hi hz0 hz1 hz2 rfl (by decide) _ _ _ rfl (own_keep (allocB _ _) hOq.out) ⟨wq.heap.size, 0, none⟩ 1 1 [.int .u64 0] rfl rfl (one_lies _ _ rfl _ _) (one_int _ _) (by unfold maxLen; omega) (by omega) (by simp; omega) ?_)
            intro v' w5 hown hgrow _
            have hB5 := (hBq.alloc hBqs (.cells #[.int .u64 0] 22)).grown hgrow (by simp; omega) (own_block hOq.out)
            have cx5 := hidd (keepLow hB5 hlk.out hgl)
            clear hOq hBq cxq dq hgrow cx hOc hBc hb2 c0 hB hO hp hBqs hqs hBcs
            obtain ⟨g', c', rfl⟩ := own_shape hown (by omega)
            obtain ⟨hlen, hown2⟩ := hown
            rcases hown2 with ⟨h, _⟩ | ⟨g2, c2, cur, h, hbg, hg2, hnc, hcm, hcs, htake⟩
            · cases h
            simp only [Value.slice.injEq, Option.some.injEq, Addr.mk.injEq, and_true, true_and] at h
            obtain ⟨rfl, rfl⟩ := h
            have hloL : lo ≤ L.length := by rw [hM.out.2.2.1]; exact h2
            have hcl : cur.toList.length = c' := by simpa using hcs
            have htk : cur.toList.take (m + 1) = vals L ++ [.int .u64 0] := by simpa using htake
            have hcsl : ((vals L).drop lo).length = m - lo := by rw [List.length_drop, vals_len, hM.out.2.2.1]
            replace hM : Hid _ := hM
            obtain ⟨CS, eCS⟩ : ∃ CS, (vals L).drop lo = CS := ⟨_, rfl⟩
            have hsrc : ∀ j v, CS[j]? = some v → w5.cell? ((⟨g', lo, none⟩ : Addr).add j) = some v := by
              intro j v hj
              have hjl : j < CS.length := by rw [List.getElem?_eq_some_iff] at hj; exact hj.1
              rw [← eCS, hcsl] at hjl
              rw [show (⟨g', lo, none⟩ : Addr).add j = ⟨g', lo + j, none⟩ by simp [Addr.add], cell_of_row w5 g' (lo + j) cur 22 (0, 0) hg2, ← Array.getElem?_toList]
              have e1 : (cur.toList.take (m + 1))[lo + j]? = cur.toList[lo + j]? := by rw [List.getElem?_take, if_pos (by omega)]
              rw [← e1, htk, List.getElem?_append_left (by rw [vals_len, hM.out.2.2.1]; omega), ← hj, ← eCS, List.getElem?_drop]
            rw [eCS] at hcsl
            have hone : ∀ v ∈ CS, v.oneCell' = true := by
              intro v hv
              rw [← eCS] at hv
              have := List.mem_of_mem_drop hv
              unfold vals at this
              obtain ⟨y, _, rfl⟩ := List.mem_map.1 this
              rfl
            replace hsrc : Hid _ := hsrc
            replace hone : Hid _ := hone
            replace htk : Hid _ := htk
            have eCS' : Hid _ := eCS
            have hg5 : w5.heap[g']? = some (.cells cur.toList.toArray 22 (0, 0)) := by simpa using hg2
            replace hg5 : Hid _ := hg5
            generalize cur.toList = CL at *
            have hmc : m + 1 ≤ c' := hnc
            clear htake hg2 eCS hlen hcs
            have hw1 : IntKind.i64.wrap ((lo : Int) + 1) = (lo : Int) + 1 := by rw [IntKind.wrap_i64]; omega
            have hw2 : (0 : Int) ≤ (lo : Int) + 1 := by omega
            have hw3 : (lo : Int) + 1 ≤ (m : Int) + 1 := by omega
            have hw4 : (lo : Int) ≤ (m : Int) + 1 := by omega
            have hw5 : lo ≤ m + 1 := by omega
            have hw6 : ¬ c' = lo := by omega
            have hw7 : ((lo : Int) + 1).toNat = lo + 1 := by omega
            have hinf : Hid ((Tryz.prog.info? 22).map (·.size) = some 1) := by show _ = _; kernel_rfl
            have hn1 : Hid (CS.length = Nat.min (m + 1 - lo) (m - lo)) := by show _ = min _ _; omega
            have hfit : Hid (lo + 1 + CS.length ≤ CL.length) := by show _ ≤ _; omega
            by_cases hc1 : c' = lo + 1
            · first
                | (exfalso; omega)
                | (obtain rfl := hc1
                   obtain rfl : m = lo := by omega
                   have hn2 : Hid (CS.length = Nat.min 1 0) := by show _ = min _ _; omega
                   have hw8 : (m : Int) ≤ (m : Int) + 1 := by omega
                   go_wp2_with fail
                   go_region_law (refine step_copy_splice rfl (.tmp 56) (.tmp 59) 43 43 rfl 22 Tryz.underlying43 hinf.out (some ⟨g', 0, none⟩) (some ⟨g', m, none⟩) 0 0 1 1 (by simp [Act.eval, Act.put]) (by simp [Act.eval, Act.put]) g' (m + 1) CL 22 hg5.out CS hn2.out (fun hp0 => by exfalso; omega) hfit.out hone.out w.heap.size w hB5.drew hbg ?_; intro w6 hg6 hB6)
                   have hspl : (splice CL (m + 1) CS).length = (m + 1) := by rw [length_splice _ _ _ hfit.out]; exact hcl
                   have own6 : w6.ownsRow w.heap.size 22 1 (.slice (some ⟨g', 0, none⟩) (m + 1) (m + 1)) (m + 1) ((splice CL (m + 1) CS).take (m + 1)) :=
                     ⟨by rw [List.length_take, hspl]; omega, .inr ⟨g', (m + 1), (splice CL (m + 1) CS).toArray, rfl, hbg, hg6.out, hnc, hcm, by simp [hspl], by simp⟩⟩
                   have own7 := (own6.stored m (.int .u64 x)).1
                   rw [← eCS'.out, set_row hM.out.2.2.1 h2 htk.out] at own7
                   obtain ⟨z, hz⟩ : ∃ z, w6.cell? ⟨g', m, none⟩ = some z := by
                     rw [own6.cellAt m (by omega), List.getElem?_eq_getElem (by rw [List.length_take, hspl]; omega)]
                     exact ⟨_, rfl⟩
                   have hfz := own6.frozenAt m
                   have cx6 : w6.cell? ⟨gl, k, none⟩ = some (.int .u64 x) := keepLow hB6 hlk.out hgl
                   have hL' : (L.take m ++ (x :: L.drop m)).length = m + 1 ∧ ∀ y ∈ L.take m ++ (x :: L.drop m), D y := by
                     refine ⟨by simp [hM.out.2.2.1] <;> omega, fun y hy => ?_⟩
                     rcases List.mem_append.1 hy with h | h
                     · exact hM.out.2.2.2 _ (List.mem_of_mem_take h)
                     · rcases List.mem_cons.1 h with rfl | h
                       · exact hDx.out
                       · exact hM.out.2.2.2 _ (List.mem_of_mem_drop h)
                   have hB7 := hB6.setCell (p := ⟨g', m, none⟩) (by simpa using hbg) (.int .u64 x)
                   replace own7 := hidd own7
                   replace hL' := hidd hL'
                   replace hB7 := hidd hB7
                   clear own6 hspl hg6 hsrc hone htk eCS' hg5 cx5 hl hlk hfit hn1 hinf hcsl
                   go_wp2
                   go_roundw
                   case rel => exact ⟨k + 1, m + 1, _, by omega, by go_num, ⟨by omega, by omega, hL'.out⟩, own7, hB7.out⟩
                   case measure => simp [intOf]; omega)
            · go_wp2_with fail
              go_region_law (refine step_copy_splice rfl (.tmp 56) (.tmp 59) 43 43 rfl 22 Tryz.underlying43 hinf.out (some ⟨g', lo + 1, none⟩) (some ⟨g', lo, none⟩) (m - lo) (c' - (lo + 1)) (m + 1 - lo) (c' - lo) (by simp [Act.eval, Act.put]) (by simp [Act.eval, Act.put]) g' (lo + 1) CL 22 hg5.out CS hn1.out (fun _ => ⟨rfl, _, rfl, hsrc.out⟩) hfit.out hone.out w.heap.size w hB5.drew hbg ?_; intro w6 hg6 hB6)
              have hspl : (splice CL (lo + 1) CS).length = c' := by rw [length_splice _ _ _ hfit.out]; exact hcl
              have own6 : w6.ownsRow w.heap.size 22 1 (.slice (some ⟨g', 0, none⟩) (m + 1) c') (m + 1) ((splice CL (lo + 1) CS).take (m + 1)) :=
                ⟨by rw [List.length_take, hspl]; omega, .inr ⟨g', c', (splice CL (lo + 1) CS).toArray, rfl, hbg, hg6.out, hnc, hcm, by simp [hspl], by simp⟩⟩
              have own7 := (own6.stored lo (.int .u64 x)).1
              rw [← eCS'.out, set_row hM.out.2.2.1 h2 htk.out] at own7
              obtain ⟨z, hz⟩ : ∃ z, w6.cell? ⟨g', lo, none⟩ = some z := by
                rw [own6.cellAt lo (by omega), List.getElem?_eq_getElem (by rw [List.length_take, hspl]; omega)]
                exact ⟨_, rfl⟩
              have hfz := own6.frozenAt lo
              have cx6 : w6.cell? ⟨gl, k, none⟩ = some (.int .u64 x) := keepLow hB6 hlk.out hgl
              have hL' : (L.take lo ++ (x :: L.drop lo)).length = m + 1 ∧ ∀ y ∈ L.take lo ++ (x :: L.drop lo), D y := by
                refine ⟨by simp [hM.out.2.2.1] <;> omega, fun y hy => ?_⟩
                rcases List.mem_append.1 hy with h | h
                · exact hM.out.2.2.2 _ (List.mem_of_mem_take h)
                · rcases List.mem_cons.1 h with rfl | h
                  · exact hDx.out
                  · exact hM.out.2.2.2 _ (List.mem_of_mem_drop h)
              have hB7 := hB6.setCell (p := ⟨g', lo, none⟩) (by simpa using hbg) (.int .u64 x)
              replace own7 := hidd own7
              replace hL' := hidd hL'
              replace hB7 := hidd hB7
              clear own6 hspl hg6 hsrc hone htk eCS' hg5 cx5 hl hlk hfit hn1 hinf hcsl
              go_wp2
              go_roundw
              case rel => exact ⟨k + 1, m + 1, _, by omega, by go_num, ⟨by omega, by omega, hL'.out⟩, own7, hB7.out⟩
              case measure => simp [intOf]; omega
    · obtain rfl : k = n := by omega
      have hmm := hM.out.2.1 h00.out
      obtain ⟨g, rfl⟩ := own_some hp.out hmm
      clear hl
      go_wp2
      go_ret
      exact ⟨⟨g, m, c, L, rfl, hmm, hmk, hM.out.2.2.1, hM.out.2.2.2, hO.out⟩, hB⟩


/-- How far the last word below lies from where it would lie with no digits changed; the first one: seven times as far. -/
def farW (n : Nat) : Nat → Int
  | 0 => 0
  | t + 1 => farW n t + 8 ^ (11 - (n + t))
theorem farW_all (n : Nat) : ∀ t, n + t ≤ 12 → 7 * farW n t = 8 ^ (12 - n) - 8 ^ (12 - (n + t)) ∧ 0 ≤ farW n t
  | 0, _ => by simp [farW]
  | t + 1, h => by
    obtain ⟨h1, h2⟩ := farW_all n t (by omega)
    have e : (8 : Int) ^ (12 - (n + t)) = 8 ^ (11 - (n + t)) * 8 := by rw [← Int.pow_succ]; congr 1; omega
    have hp : (0 : Int) < 8 ^ (11 - (n + t)) := Int.pow_pos (by omega)
    rw [e] at h1
    rw [show 12 - (n + (t + 1)) = 11 - (n + t) by omega]
    show 7 * (farW n t + 8 ^ (11 - (n + t))) = _ ∧ 0 ≤ farW n t + 8 ^ (11 - (n + t))
    omega
/-- A word below b, t sizes finer. -/
def Desc (b : Int) (n t : Nat) (x : Int) : Prop := Whole x ∧ wR x = ((n + t : Nat) : Int) ∧ b + (t : Int) * 72057594037927936 - 7 * farW n t ≤ x ∧ x ≤ b + (t : Int) * 72057594037927936 - farW n t
theorem desc_self {b : Int} {n : Nat} (h : Whole b) (hn : wR b = (n : Int)) : Desc b n 0 b := ⟨h, by simpa using hn, by simp [farW], by simp [farW]⟩
theorem desc_step {b x : Int} {n t : Nat} (h : Desc b n t x) (ht : n + t < 12) {d : Nat} (hd : d ≤ 6) : Desc b n (t + 1) (chW x d) := by
  obtain ⟨hw, hr, h1, h2⟩ := h
  have hc := chW_whole hw (by omega) hd
  refine ⟨hc.1, by rw [hc.2, hr]; omega, ?_⟩
  unfold chW
  rw [hr, show (((n + t : Nat) : Int)).toNat = n + t by omega]
  have hp : (0 : Int) < 8 ^ (11 - (n + t)) := Int.pow_pos (by omega)
  show b + ((t + 1 : Nat) : Int) * 72057594037927936 - 7 * (farW n t + 8 ^ (11 - (n + t))) ≤ _ ∧ _ ≤ b + ((t + 1 : Nat) : Int) * 72057594037927936 - (farW n t + 8 ^ (11 - (n + t)))
  generalize (8 : Int) ^ (11 - (n + t)) = p at *
  have e1 : (7 - (d : Int)) * p ≤ 7 * p := Int.mul_le_mul_of_nonneg_right (by omega) (by omega)
  have e2 : 1 * p ≤ (7 - (d : Int)) * p := Int.mul_le_mul_of_nonneg_right (by omega) (by omega)
  generalize (7 - (d : Int)) * p = q at *
  omega
/-- The first and the last. -/
def firstW (a : Int) (n t : Nat) : Int := a + (t : Int) * 72057594037927936 - 7 * farW n t
def lastW (a : Int) (n t : Nat) : Int := a + (t : Int) * 72057594037927936 - farW n t
theorem first_step {a : Int} {n t : Nat} (hr : wR (firstW a n t) = ((n + t : Nat) : Int)) : chW (firstW a n t) 0 = firstW a n (t + 1) := by
  unfold chW
  rw [hr, show (((n + t : Nat) : Int)).toNat = n + t by omega]
  unfold firstW
  show _ = a + ((t + 1 : Nat) : Int) * 72057594037927936 - 7 * (farW n t + 8 ^ (11 - (n + t)))
  generalize (8 : Int) ^ (11 - (n + t)) = p at *
  omega
theorem last_step {a : Int} {n t : Nat} (hr : wR (lastW a n t) = ((n + t : Nat) : Int)) : chW (lastW a n t) 6 = lastW a n (t + 1) := by
  unfold chW
  rw [hr, show (((n + t : Nat) : Int)).toNat = n + t by omega]
  unfold lastW
  show _ = a + ((t + 1 : Nat) : Int) * 72057594037927936 - (farW n t + 8 ^ (11 - (n + t)))
  generalize (8 : Int) ^ (11 - (n + t)) = p at *
  omega
/-- Words of one size are alike below their digits. -/
theorem word_foot {a : Int} {n : Nat} (h : Whole a) (hn : wR a = (n : Int)) : ∀ k, k ≤ 12 - n → a % 8 ^ k = 8 ^ k - 1
  | 0, _ => by simp
  | k + 1, hk => by
    have ih := word_foot h hn k (by omega)
    have hd : dg a (12 - k) = 7 := (h.2.2 (12 - k) (by omega) (by omega)).2 (by rw [hn]; omega)
    unfold dg at hd
    rw [show 12 - (12 - k) = k by omega] at hd
    have hp : (0 : Int) < 8 ^ k := Int.pow_pos (by omega)
    rw [Int.pow_succ]
    generalize (8 : Int) ^ k = p at *
    have e1 := Int.mul_ediv_add_emod a p
    have e2 := Int.mul_ediv_add_emod (a / p) 8
    rw [hd] at e2
    rw [ih] at e1
    generalize a / p = q at *
    generalize q / 8 = s at *
    have e3 : a = (p * 8 - 1) + p * 8 * s := by rw [← e1, ← e2, Int.mul_add, Int.mul_assoc]; omega
    rw [e3, Int.add_mul_emod_self_left]
    exact Int.emod_eq_of_lt (by omega) (by omega)
theorem word_apart {a b : Int} {n : Nat} (ha : Whole a) (hb : Whole b) (na : wR a = (n : Int)) (nb : wR b = (n : Int)) (hne : a ≠ b) : a + 8 ^ (12 - n) ≤ b ∨ b + 8 ^ (12 - n) ≤ a := by
  have e1 := word_foot ha na (12 - n) (Nat.le_refl _)
  have e2 := word_foot hb nb (12 - n) (Nat.le_refl _)
  have hp : (0 : Int) < 8 ^ (12 - n) := Int.pow_pos (by omega)
  generalize (8 : Int) ^ (12 - n) = p at *
  have f1 := Int.mul_ediv_add_emod a p
  have f2 := Int.mul_ediv_add_emod b p
  rw [e1] at f1
  rw [e2] at f2
  generalize a / p = q at *
  generalize b / p = s at *
  rcases (show q = s ∨ q + 1 ≤ s ∨ s + 1 ≤ q by omega) with rfl | h | h
  · exact absurd (by omega) hne
  · have := Int.mul_le_mul_of_nonneg_left h (show 0 ≤ p by omega)
    rw [Int.mul_add] at this
    omega
  · have := Int.mul_le_mul_of_nonneg_left h (show 0 ≤ p by omega)
    rw [Int.mul_add] at this
    omega
/-- Of the words below b just those of a lie between a's first and last. -/
theorem between {a b x : Int} {n t : Nat} (ha : Whole a) (hb : Whole b) (na : wR a = (n : Int)) (nb : wR b = (n : Int)) (hnt : n + t ≤ 12) (h : Desc b n t x) :
    (a = b ∧ firstW a n t ≤ x ∧ x ≤ lastW a n t) ∨ (a ≠ b ∧ (x < firstW a n t ∨ lastW a n t < x)) := by
  obtain ⟨_, _, h1, h2⟩ := h
  obtain ⟨e1, e2⟩ := farW_all n t hnt
  by_cases hab : a = b
  · subst hab; exact .inl ⟨rfl, h1, h2⟩
  · refine .inr ⟨hab, ?_⟩
    have hp : (0 : Int) < 8 ^ (12 - (n + t)) := Int.pow_pos (by omega)
    rcases word_apart ha hb na nb hab with h | h
    · right; unfold lastW; omega
    · left; unfold firstW; omega
theorem first_last {a : Int} {n t : Nat} (hn : n + t ≤ 12) (ht : 0 < t) : firstW a n t < lastW a n t := by
  obtain ⟨s, rfl⟩ : ∃ s, t = s + 1 := ⟨t - 1, by omega⟩
  have h2 := (farW_all n s (by omega)).2
  have hp : (0 : Int) < 8 ^ (11 - (n + s)) := Int.pow_pos (by omega)
  show a + ((s + 1 : Nat) : Int) * 72057594037927936 - 7 * (farW n s + 8 ^ (11 - (n + s))) < a + ((s + 1 : Nat) : Int) * 72057594037927936 - (farW n s + 8 ^ (11 - (n + s)))
  omega


theorem pow7_box {t : Nat} (h : t ≤ 4) : (1 : Int) ≤ 7 ^ t ∧ (7 : Int) ^ t ≤ 2401 := by
  rcases (show t = 0 ∨ t = 1 ∨ t = 2 ∨ t = 3 ∨ t = 4 by omega) with rfl | rfl | rfl | rfl | rfl <;> decide
set_option maxHeartbeats 1000000 in
theorem rseven (t : Nat) (ht : t ≤ 4) (w : World) :
    Calls Tryz.prog 69 #[.int .i64 (t : Int)] w fun e w' => e = .returned (.int .i64 (7 ^ t)) ∧ Below w.heap.size w w' := by
  have hb := pow7_box ht
  have P : Hid (∀ w, Calls Tryz.prog 95 #[.int .i64 7, .int .i64 (t : Int)] w fun e w' => e = .returned (.tuple #[.int .i64 (7 ^ t), .bool true]) ∧ Below w.heap.size w w') := fun w => by
    have := refpow_any 7 t (by omega) (by omega) (by omega) w
    have hf : fits ((7 : Int) ^ t) = true := fits_mk ⟨by omega, by omega⟩
    rwa [kept_mk hf, hf] at this
  generalize (7 : Int) ^ t = S at *
  clear hb ht
  go_enter Tryz.func69, Tryz.ntmps69
  go_wp2_with fail
  refine (P.out _).mono ?_
  rintro e w1 ⟨rfl, d1⟩
  have c1 : Below w.heap.size w w1 := Below.trans (by go_grown) (d1.mono (by simp; try omega))
  have hB := c1
  clear c1 d1
  go_wp2
  go_ret
  exact ⟨rfl, hB⟩

set_option maxHeartbeats 4000000 in
theorem rsize_one (b : Int) (n t : Nat) (hb : Whole b) (hn : wR b = (n : Int)) (ht : t ≤ 4) (hnt : n + t ≤ 12) (gl c : Nat) (w : World) (hl : w.cell? ⟨gl, 0, none⟩ = some (.int .u64 b)) :
    Calls Tryz.prog 41 #[.slice (some ⟨gl, 0, none⟩) 1 c, .int .i64 ((n + t : Nat) : Int)] w fun e w' => e = .returned (.tuple #[.int .i64 (7 ^ t), .int .i64 0]) ∧ Below w.heap.size w w' := by
  have hbx := whole_box hb
  have IW : Hid _ := risword_yes b hb
  have SV : Hid _ := rseven t ht
  have hS := pow7_box ht
  have X1 : bits .and .u64 (b / 72057594037927936) 15 = (n : Int) := by
    rw [umask4 _ ⟨by omega, by omega⟩, ← hn]; rfl
  generalize (7 : Int) ^ t = S at *
  obtain ⟨X, eX⟩ : ∃ X, b / 72057594037927936 = X := ⟨_, rfl⟩
  rw [eX] at X1
  obtain ⟨at', eat⟩ : ∃ a : Nat, n + t = a := ⟨_, rfl⟩
  rw [eat]
  have ea1 : decide ((at' : Int) < (n : Int)) = false := df (by omega)
  have ea2 : (at' : Int) - (n : Int) = (t : Int) := by omega
  have ea3 : at' ≤ 12 := by omega
  have ea4 : n ≤ 12 := by omega
  have ea5 : decide (at' < n) = false := decide_eq_false (by omega)
  clear hb hn eat hnt
  go_enter Tryz.func41, Tryz.ntmps41
  go_wp2_with fail
  go_loopw [6] (fun v6 wr => ∃ k : Nat, k ≤ 1 ∧ v6 = .int .i64 (k : Int) ∧ Below w.heap.size w wr) (fun v6 _ => 1 - (intOf v6).toNat)
  case atStart => exact ⟨0, by omega, rfl, by go_grown⟩
  case round =>
    obtain ⟨k, hk, rfl, hB⟩ := hrel
    have c0 := keepCell hB hl
    rcases (show k = 0 ∨ k = 1 by omega) with rfl | rfl
    · go_wp2_with (go_at_call 50; refine (IW.out _).mono ?_; rintro e w1 ⟨rfl, d1⟩)
      have hB1 := hB.trans (d1.mono hB.size)
      go_roundw
      case rel => exact ⟨1, by omega, by go_num, hB1⟩
      case measure => simp [intOf]
    · go_wp2_with fail
      go_loopw [7] (fun v7 w2 => ∃ k : Nat, k ≤ 1 ∧ v7 = .int .i64 (k : Int) ∧ Below w.heap.size w w2) (fun v7 _ => 1 - (intOf v7).toNat)
      case atStart => exact ⟨0, by omega, rfl, hB⟩
      case round =>
        clear c0 hB
        obtain ⟨k, hk, rfl, hB⟩ := hrel
        have c0 := keepCell hB hl
        rcases (show k = 0 ∨ k = 1 by omega) with rfl | rfl
        · go_wp2
          go_roundw
          case rel => exact ⟨1, by omega, by go_num, hB⟩
          case measure => simp [intOf]
        · go_wp2_with fail
          go_loopw [8, 9] (fun v8 v9 w2 => ∃ (k : Nat) (s : Int), k ≤ 1 ∧ v9 = .int .i64 (k : Int) ∧ v8 = .int .i64 s ∧ Hid (k = 0 ∧ s = 0 ∨ k = 1 ∧ s = S) ∧ Below w.heap.size w w2) (fun _ v9 _ => 1 - (intOf v9).toNat)
          case atStart => exact ⟨0, 0, by omega, rfl, rfl, .inl ⟨rfl, rfl⟩, hB⟩
          case round =>
            obtain ⟨k, s, hk, rfl, rfl, hs, hB3⟩ := hrel
            have c3 := keepCell hB3 hl
            rcases hs.out with ⟨rfl, rfl⟩ | ⟨rfl, rfl⟩
            · clear hs c0
              go_wp2_with (go_at_call 69; refine (SV.out _).mono ?_; rintro e w1 ⟨rfl, d1⟩)
              have hB1 := hB3.trans (d1.mono hB3.size)
              go_roundw
              case rel => exact ⟨1, _, by omega, by go_num, rfl, .inr ⟨rfl, by simp⟩, hB1⟩
              case measure => simp [intOf]
            · clear hs c0
              go_wp2
              go_ret2
              exact ⟨rfl, hB3⟩

theorem desc_u64 {b : Int} {n t : Nat} {x : Int} (h : Desc b n t x) : U64 x := by have := whole_box h.1; exact ⟨by omega, by omega⟩
theorem vals_kids (L : List Int) (y : Int) : vals (L ++ (List.range 7).map (chW y)) = vals L ++ kidL y 7 := by unfold vals kidL; rw [List.map_append, List.map_map]; rfl
theorem vals_one (L : List Int) : ∀ v ∈ vals L, v.oneCell' = true := by
  intro v hv
  obtain ⟨y, _, rfl⟩ := List.mem_map.1 hv
  rfl
theorem kidL_one (y : Int) : ∀ v ∈ kidL y 7, v.oneCell' = true := by
  intro v hv
  obtain ⟨d, _, rfl⟩ := List.mem_map.1 hv
  rfl
theorem kidL_len (y : Int) (k : Nat) : (kidL y k).length = k := by simp [kidL]
theorem kidL_lies {w : World} {g : Nat} {y : Int} (h : ∀ d < 7, w.cell? ⟨g, d, none⟩ = some (.int .u64 (chW y d))) : ∀ j u, (kidL y 7)[j]? = some u → w.cell? ((⟨g, 0, none⟩ : Addr).add j) = some u := by
  intro j u hj
  have hl : j < 7 := by rw [List.getElem?_eq_some_iff] at hj; have := hj.1; rwa [kidL_len] at this
  rw [show (⟨g, 0, none⟩ : Addr).add j = ⟨g, j, none⟩ by simp [Addr.add] <;> (intro h; omega), h j hl, ← hj, kidL_at y j hl]
theorem own_mono {w : World} {base base' : Nat} {e : TypeId} {size : Nat} {v : Value} {n : Nat} {xs : List Value} (h : w.ownsRow base e size v n xs) (hb : base' ≤ base) : w.ownsRow base' e size v n xs :=
  ⟨h.1, h.2.imp id fun ⟨g, c, cur, e1, e2, r⟩ => ⟨g, c, cur, e1, Nat.le_trans hb e2, r⟩⟩
theorem own_lies {w : World} {base g c m : Nat} {e : TypeId} {xs : List Value} (h : w.ownsRow base e 1 (.slice (some ⟨g, 0, none⟩) m c) m xs) : ∀ j u, xs[j]? = some u → w.cell? ((⟨g, 0, none⟩ : Addr).add j) = some u := by
  intro j u hj
  have hl : j < m := by rw [List.getElem?_eq_some_iff] at hj; have := hj.1; rw [h.1] at this; omega
  rw [show (⟨g, 0, none⟩ : Addr).add j = ⟨g, j, none⟩ by simp [Addr.add] <;> (intro h; omega), h.cellAt j (by omega), hj]

set_option maxHeartbeats 16000000 in
set_option maxRecDepth 20000 in
theorem rspread (b : Int) (n t : Nat) (hb : Whole b) (hn : wR b = (n : Int)) (ht : t ≤ 4) (hnt : n + t ≤ 12) (gl c : Nat) (w : World) (hl : w.cell? ⟨gl, 0, none⟩ = some (.int .u64 b)) :
    Calls Tryz.prog 19 #[.slice (some ⟨gl, 0, none⟩) 1 c, .int .i64 ((n + t : Nat) : Int)] w fun e w' => (∃ (g m cc : Nat) (L : List Int), e = .returned (.tuple #[.slice (some ⟨g, 0, none⟩) m cc, .int .i64 0]) ∧ 0 < m ∧ m ≤ 20000 ∧ L.length = m ∧ (∀ x ∈ L, Desc b n t x) ∧ ∀ (j : Nat) (hj : j < L.length), w'.cell? ⟨g, j, none⟩ = some (.int .u64 L[j])) ∧ Below w.heap.size w w' := by
  have hbx := whole_box hb
  have SZ : Hid _ := rsize_one b n t hb hn ht hnt gl c
  have hS := pow7_box ht
  have hD0 : Hid _ := desc_self hb hn
  have hnt0 : Hid (n + t ≤ 12) := hnt
  have hp7 : Hid (∀ s, s ≤ t → 7 ^ s ≤ 2401 ∧ 0 < 7 ^ s) := fun s hs => ⟨by
    have := Nat.pow_le_pow_right (show 0 < 7 by omega) (show s ≤ 4 by omega)
    simpa using this, Nat.pow_pos (by omega)⟩
  have X1 : bits .and .u64 (b / 72057594037927936) 15 = (n : Int) := by
    rw [umask4 _ ⟨by omega, by omega⟩, ← hn]; rfl
  obtain ⟨X, eX⟩ : ∃ X, b / 72057594037927936 = X := ⟨_, rfl⟩
  rw [eX] at X1
  obtain ⟨at', eat⟩ : ∃ a : Nat, n + t = a := ⟨_, rfl⟩
  rw [eat] at SZ ⊢
  have eat0 : Hid _ := eat
  generalize (7 : Int) ^ t = S at *
  have hS3 : S ≤ 20000 := by omega
  have hn12 : n ≤ 12 := by omega
  clear hb hn eat hnt ht hS
  obtain ⟨i0, hi, hz0, hz1, hz2⟩ := info_parts infoU64
  go_enter Tryz.func19, Tryz.ntmps19
  go_wp2_with fail
  refine (SZ.out w hl).mono ?_
  rintro e w1 ⟨rfl, hB1⟩
  clear SZ
  have l1 := keepCell hB1 hl
  go_wp2_with fail
  go_loopw [8, 9] (fun v8 v9 wr => ∃ k : Int, v9 = .int .i64 k ∧ Hid (k = 0 ∧ v8 = .slice none 0 0 ∨ k = 1 ∧ ∃ (g m cc : Nat) (L : List Int), v8 = .slice (some ⟨g, 0, none⟩) m cc ∧ 0 < m ∧ m ≤ 2401 ∧ L.length = m ∧ (∀ x ∈ L, Desc b n t x) ∧ wr.ownsRow w.heap.size 22 1 (.slice (some ⟨g, 0, none⟩) m cc) m (vals L)) ∧ Below w.heap.size w wr) (fun _ v9 _ => (1 - intOf v9).toNat)
  case atStart => exact ⟨0, rfl, .inl ⟨rfl, rfl⟩, hB1⟩
  case round =>
    clear l1 hB1
    obtain ⟨k, rfl, hO, hB⟩ := hrel
    have c0 := keepCell hB hl
    rcases hO.out with ⟨rfl, rfl⟩ | ⟨rfl, g, m, cc, L, rfl, hm0, hm1, hL, hDL, hown⟩
    · clear hO
      have hO1 : Hid ((wr.alloc (.cells #[.int .u64 b] 22)).ownsRow w.heap.size 22 1 (.slice (some ⟨wr.heap.size, 0, none⟩) 1 1) 1 (vals [b])) := World.ownsRow_lit _ #[.int .u64 b] 1 hB.size (by unfold maxLen; omega) rfl
      have hB2 := hB.alloc hB.size (.cells #[.int .u64 b] 22)
      have hBs := hB.size
      have c1' := keepCell (allocB wr (.cells #[.int .u64 b] 22)) c0
      go_wp2_with fail
      go_loopw [10, 11] (fun v10 v11 w2 => ∃ (s r' m : Nat) (L : List Int), s ≤ t ∧ v11 = .int .i64 (r' : Int) ∧ Hid (r' = n + s) ∧ Hid (m = 7 ^ s ∧ L.length = m ∧ (∀ x ∈ L, Desc b n s x)) ∧ Hid (w2.ownsRow w.heap.size 22 1 v10 m (vals L)) ∧ Below w.heap.size w w2) (fun _ v11 _ => at' - (intOf v11).toNat)
      case atStart => exact ⟨0, n, 1, [b], by omega, rfl, (by show n = n + 0; omega), ⟨(by simp), rfl, fun x hx => by rw [List.mem_singleton.1 hx]; exact hD0.out⟩, hO1, hB2⟩
      case round =>
        clear hO1 hB2 hB c0 hBs c1'
        obtain ⟨s, r', m, L, hs, rfl, hr', hM, hO, hB⟩ := hrel
        obtain ⟨hm7, hLm, hDL⟩ := hM.out
        have hm := hp7.out s hs
        rw [← hm7] at hm
        obtain ⟨hm1, hm0⟩ := hm
        obtain ⟨g, cc, rfl⟩ := own_shape hO.out hm0
        have hBs := hB.size
        by_cases hst : s < t
        · have hra : (r' : Int) < (at' : Int) := by have := hr'.out; have := eat0.out; omega
          have hgl := (hO.out.lt g rfl).2
          have hr12 : (r' : Int) ≤ 12 := by have := hr'.out; have := hnt0.out; omega
          obtain ⟨wO, rfl⟩ : ∃ z, z = wr := ⟨_, rfl⟩
          clear hm7 hDL
          go_wp2_with fail
          go_loopw [12, 13] (fun v12 v13 w3 => ∃ (j : Nat) (L2 : List Int), j ≤ m ∧ v13 = .int .i64 (j : Int) ∧ Hid (L2.length = 7 * j ∧ (∀ x ∈ L2, Desc b n (s + 1) x)) ∧ Hid (w3.ownsRow wO.heap.size 22 1 v12 (7 * j) (vals L2)) ∧ Below wO.heap.size wO w3) (fun _ v13 _ => m - (intOf v13).toNat)
          case atStart => exact ⟨0, [], by omega, rfl, ⟨rfl, by simp⟩, World.ownsRow_nil _ _ _ _, Below.refl _ _⟩
          case round =>
            obtain ⟨j, L2, hj, rfl, hM2, hO2, hX⟩ := hrel
            by_cases hjm : j < m
            · have hjL : j < L.length := by rw [hLm]; exact hjm
              have cy0 := hO.out.cellAt j (by omega)
              rw [vals_at L j hjL] at cy0
              have cy := keepLow hX cy0 hgl
              have hDy := hM.out.2.2 _ (List.getElem_mem hjL)
              clear cy0
              generalize L[j] = y at *
              have KY : Hid _ := rkidsW y hDy.1 (by rw [hDy.2.1]; have := hnt0.out; omega)
              have hDk : Hid (∀ d, d ≤ 6 → Desc b n (s + 1) (chW y d)) := fun d hd => desc_step hDy (by have := hnt0.out; omega) hd
              clear hDy hjL
              obtain ⟨p2, c2, rfl, hp2⟩ := own_slice hO2.out
              replace hp2 := hidd hp2
              go_wp2_with fail
              refine (KY.out _).mono ?_
              rintro e w4 ⟨⟨gk, ck, rfl, hck⟩, d4⟩
              have hX4 := hX.trans (d4.mono hX.size)
              have hX4s := hX4.size
              have hO4 := hidd (own_keep d4 hO2.out)
              have hk4 := hidd (kidL_lies hck)
              clear hck d4 hX hO2 cy KY hO hB
              go_wp2_with (at_builtin; refine wpList_append_own _ rfl (.tmp 54) (.tmp 59) 43 rfl wO.heap.size 22 i0 (.int .u64 0) 1 8 Tryz.underlying43 hi hz0 hz1 hz2 rfl (by decide) _ _ _ rfl hO4.out ⟨gk, 0, none⟩ 7 ck (kidL y 7) rfl (kidL_len y 7) hk4.out (kidL_one y) (by unfold maxLen; omega) (by omega) (by omega) ?_)
              intro v' w5 hown hgrow _
              have hX5 := hX4.grown hgrow hX4s (own_block hO4.out)
              have hO5 : Hid (w5.ownsRow wO.heap.size 22 1 v' (7 * (j + 1)) (vals (L2 ++ (List.range 7).map (chW y)))) := by
                show World.ownsRow _ _ _ _ _ _ _
                rw [vals_kids, show 7 * (j + 1) = 7 * j + 7 by omega]; exact hown
              have hM5 : Hid ((L2 ++ (List.range 7).map (chW y)).length = 7 * (j + 1) ∧ ∀ x ∈ L2 ++ (List.range 7).map (chW y), Desc b n (s + 1) x) := by
                refine ⟨by simp [hM2.out.1]; omega, fun x hx => ?_⟩
                rcases List.mem_append.1 hx with h | h
                · exact hM2.out.2 x h
                · obtain ⟨d, hd, rfl⟩ := List.mem_map.1 h
                  exact hDk.out d (by have := List.mem_range.1 hd; omega)
              clear hown hgrow hO4 hX4 hX4s hk4 hp2 hDk
              go_wp2
              go_roundw
              case rel => exact ⟨j + 1, _, by omega, by go_num, hM5, hO5, hX5⟩
              case measure => simp [intOf]; omega
            · obtain rfl : j = m := by omega
              have hO5 := hidd (own_mono hO2.out hBs)
              have hB5 := hB.trans (hX.mono hBs)
              have hM5 : Hid (7 * j = 7 ^ (s + 1) ∧ L2.length = 7 * j ∧ ∀ x ∈ L2, Desc b n (s + 1) x) := ⟨by rw [hM.out.1, Nat.pow_succ]; omega, hM2.out⟩
              have hr5 : Hid (r' + 1 = n + (s + 1)) := by have := hr'.out; show _ = _; omega
              clear hO hB hX hO2 hM hM2 hr'
              go_wp2
              go_roundw
              case rel => exact ⟨s + 1, r' + 1, 7 * j, L2, by omega, by go_num, hr5, hM5, hO5, hB5⟩
              case measure => simp [intOf]; omega
        · obtain rfl : s = t := by omega
          obtain rfl : r' = at' := by have := hr'.out; have := eat0.out; omega
          have hra : decide (r' < r') = false := by simp
          have hl5 := hidd (own_lies hO.out)
          have hDL0 := hidd hDL
          clear hO hDL hm7 hM
          go_wp2_with (at_builtin; refine wpList_append_own _ rfl (.tmp 62) (.tmp 63) 43 rfl w.heap.size 22 i0 (.int .u64 0) 1 8 Tryz.underlying43 hi hz0 hz1 hz2 rfl (by decide) _ _ _ rfl (World.ownsRow_nil _ _ _ _) ⟨g, 0, none⟩ m cc (vals L) rfl (by rw [vals_len, hLm]; omega) hl5.out (vals_one L) (by unfold maxLen; omega) (by omega) (by omega) ?_)
          intro v' w5 hown hgrow _
          try simp only [Nat.zero_add, List.nil_append] at hown
          obtain ⟨g', c', rfl⟩ := own_shape hown hm0
          have hB5 := hB.grown hgrow hBs (fun k hk => by simp [Value.ownBlock] at hk)
          have hown0 := hidd hown
          clear hown hgrow hl5 hB
          go_wp2
          go_roundw
          case rel => exact ⟨1, rfl, .inr ⟨rfl, g', m, c', L, rfl, hm0, hm1, hLm, hDL0.out, hown0.out⟩, hB5⟩
          case measure => simp [intOf]
    · have hcs : ∀ (j : Nat) (hj : j < L.length), wr.cell? ⟨g, j, none⟩ = some (.int .u64 L[j]) := fun j hj => by rw [hown.cellAt j (by omega), vals_at L j hj]
      have ST : Hid _ := fun (_ : Unit) => rset (Desc b n t) (fun x h => desc_u64 h) L m hL hm0 (by omega) hDL g cc wr hcs
      clear hO hown hcs hDL
      go_wp2_with fail
      refine (ST.out ()).mono ?_
      rintro e w6 ⟨⟨g6, m6, c6, L6, rfl, h1, h2, h3, h4, h5⟩, d6⟩
      have hB6 := hB.trans (d6.mono hB.size)
      have hR : Hid ((∀ x ∈ L6, Desc b n t x) ∧ ∀ (j : Nat) (hj : j < L6.length), w6.cell? ⟨g6, j, none⟩ = some (.int .u64 L6[j])) := ⟨h4, fun j hj => by rw [h5.cellAt j (by omega), vals_at L6 j hj]⟩
      clear h4 h5 d6 hB ST
      go_wp2
      go_ret2
      exact ⟨⟨g6, m6, c6, L6, rfl, h1, by omega, h3, hR.out.1, hR.out.2⟩, hB6⟩
end Go.Proofs.YtlipbdiijjfheaaGreatDoor
