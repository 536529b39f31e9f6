/-
  What package ident's Cell tells: the cell of a whole word; no cell of another one; in whatever memory where both tables hold what their texts lay.
-/
import Derived.Test.YtlipbdiijjfheaaGreatDoorWDig
import Derived.Test.YtlipbdiijjfheaaGreatDoorCKids
namespace Go.Proofs.YtlipbdiijjfheaaGreatDoor
open Go.RowKit Go
attribute [local go_sem] Oper.semAt_some

/-- The cell that some digits lead to. -/
def foldC (A B : Int) (xs : List Dig) : Int × Int := xs.foldl (fun p x => (chA (dgD x) p.1 p.2, chB (dgD x) p.1 p.2)) (A, B)
theorem foldC_step (A B : Int) (xs : List Dig) (x : Dig) : foldC A B (xs ++ [x]) = (chA (dgD x) (foldC A B xs).1 (foldC A B xs).2, chB (dgD x) (foldC A B xs).1 (foldC A B xs).2) := by unfold foldC; rw [List.foldl_append]; rfl
theorem foldC_wl (v A B : Int) : ∀ k, k ≤ 12 → foldC A B (wl v k) = down (dg v) k A B
  | 0, _ => rfl
  | k + 1, hk => by
    have hd := dg_box v (k + 1)
    rw [wl_step, foldC_step, foldC_wl v A B k (by omega), mkD_dg hd.1 hd.2, down_step]
theorem seven_at {v : Int} (h : Whole v) {k : Nat} (hk : k ≤ 12) {q : List Dig} {x : Dig} (e : wl v k = q ++ [x]) (hx : dgD x = 7) (hq : ∀ y ∈ q, dgD y ≠ 7) : wR v = (q.length : Int) ∧ q = wl v q.length := by
  obtain ⟨j, rfl⟩ : ∃ j, k = j + 1 := by
    cases k with
    | zero => have := congrArg List.length e; simp [wl] at this
    | succ j => exact ⟨j, rfl⟩
  rw [wl_step] at e
  have hl := congrArg List.length e
  simp only [List.length_append, wl_len, List.length_cons, List.length_nil] at hl
  have hlen : (wl v j).length = q.length := by rw [wl_len]; omega
  obtain ⟨e1, e2⟩ := List.append_inj e hlen
  have e3 : mkD (j + 1) (dg v (j + 1)) = x := by simpa using e2
  have hdj := dg_box v (j + 1)
  have h7 : dg v (j + 1) = 7 := by rw [← mkD_dg (j := j + 1) hdj.1 hdj.2, e3]; exact hx
  have h1 := (h.2.2 (j + 1) (by omega) (by omega)).1 h7
  have hqj : q.length = j := by omega
  refine ⟨?_, by rw [hqj]; exact e1.symm⟩
  have hr := wR_box v
  by_cases h0 : j = 0
  · omega
  · have hj := dg_box v j
    have : ¬ dg v j = 7 := by
      intro h7'
      apply hq (mkD j (dg v j))
      · rw [← e1]; unfold wl
        exact List.mem_map.2 ⟨j - 1, List.mem_range.2 (by omega), by rw [show j - 1 + 1 = j by omega]⟩
      · rw [mkD_dg hj.1 hj.2]; exact h7'
    have h2 : ¬ wR v < (j : Int) := fun hl => this ((h.2.2 j (by omega) (by omega)).2 hl)
    omega
theorem seven_none {v : Int} (h : Whole v) (hq : ∀ y ∈ wl v 12, dgD y ≠ 7) : wR v = 12 := by
  have hr := wR_box v
  have h12 := h.2.1
  have hd := dg_box v 12
  have : ¬ dg v 12 = 7 := by
    intro h7
    apply hq (mkD 12 (dg v 12))
    · unfold wl
      exact List.mem_map.2 ⟨11, List.mem_range.2 (by omega), rfl⟩
    · rw [mkD_dg hd.1 hd.2]; exact h7
  have h2 : ¬ wR v < ((12 : Nat) : Int) := fun hl => this ((h.2.2 12 (by omega) (by omega)).2 hl)
  omega

set_option maxRecDepth 100000 in
set_option maxHeartbeats 8000000 in
theorem icell_yes (v : Int) (h : Whole v) (w : World) (hT : Tabs w) :
    Calls Tryz.prog 14 #[.int .u64 v] w fun e w' => e = .returned (.tuple #[.agg #[.int .i64 (wR v), .int .i64 (cellA v), .int .i64 (cellB v)], .int .i64 0]) ∧ Below w.heap.size w w' := by
  have hx := whole_box h
  have hv : U64 v := ⟨by omega, by omega⟩
  have IK : Hid (∀ w, Calls Tryz.prog 12 #[.int .u64 v] w fun e w' => e = .returned (.bool true) ∧ Below w.heap.size w w') := iok v hv true (by simp [h])
  have BA : Hid (∀ w, Calls Tryz.prog 29 #[.int .u64 v] w fun e w' => e = .returned (.agg #[.int .i64 0, .int .i64 (wA v), .int .i64 (wB v)]) ∧ Below w.heap.size w w') := wbase v hv
  have hAB := wAB_box v
  have hEnd : Hid (∀ pre : List Dig, (∃ k, k ≤ 12 ∧ wl v k = pre) → (∀ y ∈ pre, dgD y ≠ 7) → (pre.length : Int) = wR v → foldC (wA v) (wB v) pre = (cellA v, cellB v)) := by
    rintro pre ⟨k, hk, rfl⟩ _ hl
    rw [wl_len] at hl
    rw [foldC_wl v _ _ k hk]
    unfold cellA cellB
    rw [show (wR v).toNat = k by omega]
  have hS : Hid (∀ k q x, k ≤ 12 → wl v k = q ++ [x] → dgD x = 7 → (∀ y ∈ q, dgD y ≠ 7) → wR v = (q.length : Int) ∧ q = wl v q.length) := fun k q x hk e hx hq => seven_at h hk e hx hq
  have hN : Hid ((∀ y ∈ wl v 12, dgD y ≠ 7) → wR v = 12) := fun hq => seven_none h hq
  have hT0 : Hid (Tabs w) := hT
  have hlt := hT.lt
  clear hT h hx
  generalize cellA v = CA at *
  generalize cellB v = CB at *
  generalize wA v = A at *
  generalize wB v = B at *
  generalize wR v = R at *
  refine (callsIn_wide (n := 3)).1 ?_
  refine callsIn_of_wp_marks Tryz.func14 rfl trivial ?_ rfl
  simp only [Tryz.ntmps14, List.size_toArray, List.length_cons, List.length_nil, Nat.reduceAdd, Nat.reduceSub, Array.replicate_succ, Array.replicate_zero, List.push_toArray, List.append_toArray, List.nil_append, List.cons_append]
  have hal := allocB w (.cells #[.int .i64 0, .int .i64 0, .int .i64 0] 34)
  have r0 : (w.alloc (.cells #[.int .i64 0, .int .i64 0, .int .i64 0] 34)).cell? ⟨w.heap.size, 0, none⟩ = some (.int .i64 0) := by go_simp
  have r1 : (w.alloc (.cells #[.int .i64 0, .int .i64 0, .int .i64 0] 34)).cell? ⟨w.heap.size, 1, none⟩ = some (.int .i64 0) := by go_simp
  have r2 : (w.alloc (.cells #[.int .i64 0, .int .i64 0, .int .i64 0] 34)).cell? ⟨w.heap.size, 2, none⟩ = some (.int .i64 0) := by go_simp
  have q0 : (w.alloc (.cells #[.int .i64 0, .int .i64 0, .int .i64 0] 34)).frozen? ⟨w.heap.size, 0, none⟩ = false := by go_simp
  have q1 : (w.alloc (.cells #[.int .i64 0, .int .i64 0, .int .i64 0] 34)).frozen? ⟨w.heap.size, 1, none⟩ = false := by go_simp
  have q2 : (w.alloc (.cells #[.int .i64 0, .int .i64 0, .int .i64 0] 34)).frozen? ⟨w.heap.size, 2, none⟩ = false := by go_simp
  gi_wp2_with (first
    | (refine ⟨trivial, ?_⟩; gi_at_call 12; refine (callsIn_wide.2 (IK.out _)).mono ?_; rintro e w1 ⟨rfl, hb1⟩)
    | (refine ⟨trivial, ?_⟩; gi_at_call 29; refine (callsIn_wide.2 (BA.out _)).mono ?_; rintro e w2 ⟨rfl, hb2⟩)
    | fail)
  have hb02 : Below w.heap.size w w2 := belowT (belowT hal hb1) hb2
  have hb12 := belowT hb1 hb2
  replace q0 := keepFrozen hb12 r0 q0
  replace q1 := keepFrozen hb12 r1 q1
  replace q2 := keepFrozen hb12 r2 q2
  replace r0 := keepCell hb12 r0
  replace r1 := keepCell hb12 r1
  replace r2 := keepCell hb12 r2
  have hz0 : w.heap.size < w2.heap.size := World.block_lt_of_cell? _ _ r0
  have hal2 := allocB w2 (.cells #[.int .i64 0, .int .i64 A, .int .i64 B] 34)
  have a0 : (w2.alloc (.cells #[.int .i64 0, .int .i64 A, .int .i64 B] 34)).cell? ⟨w2.heap.size, 0, none⟩ = some (.int .i64 0) := by go_simp
  have a1 : (w2.alloc (.cells #[.int .i64 0, .int .i64 A, .int .i64 B] 34)).cell? ⟨w2.heap.size, 1, none⟩ = some (.int .i64 A) := by go_simp
  have a2 : (w2.alloc (.cells #[.int .i64 0, .int .i64 A, .int .i64 B] 34)).cell? ⟨w2.heap.size, 2, none⟩ = some (.int .i64 B) := by go_simp
  have f0 : (w2.alloc (.cells #[.int .i64 0, .int .i64 A, .int .i64 B] 34)).frozen? ⟨w2.heap.size, 0, none⟩ = false := by go_simp
  have f1 : (w2.alloc (.cells #[.int .i64 0, .int .i64 A, .int .i64 B] 34)).frozen? ⟨w2.heap.size, 1, none⟩ = false := by go_simp
  have f2 : (w2.alloc (.cells #[.int .i64 0, .int .i64 A, .int .i64 B] 34)).frozen? ⟨w2.heap.size, 2, none⟩ = false := by go_simp
  have hzs : (w2.alloc (.cells #[.int .i64 0, .int .i64 A, .int .i64 B] 34)).heap.size = w2.heap.size + 1 := by simp
  replace q0 := keepFrozen hal2 r0 q0
  replace q1 := keepFrozen hal2 r1 q1
  replace q2 := keepFrozen hal2 r2 q2
  replace r0 := keepCell hal2 r0
  replace r1 := keepCell hal2 r1
  replace r2 := keepCell hal2 r2
  have hbs := belowT hb02 hal2
  generalize w2.alloc (.cells #[.int .i64 0, .int .i64 A, .int .i64 B] 34) = ws at *
  have hO0 : Hid (Ok4 ((0 : Nat) : Int) A B) := ok4_of_base (r := 0) (by omega) hAB.1 hAB.2
  refine rf_law rfl (by omega) (gf := 30) (pb := #[.int .u64 v]) (lb := #[]) rfl trivial (enters_of Tryz.func30 (by kernel_rfl) rfl)
    (wdig_seq v hv w.heap.size ws (by omega)) (by omega) (fun _ => rfl)
    (fun pre W => (((∀ x ∈ pre, dgD x ≠ 7) ∧ Hid (pre.length ≤ 12 → Ok4 (pre.length : Int) (foldC A B pre).1 (foldC A B pre).2)) ∧ (W.cell? ⟨w2.heap.size, 0, none⟩ = some (.int .i64 (pre.length : Int)) ∧ W.cell? ⟨w2.heap.size, 1, none⟩ = some (.int .i64 (foldC A B pre).1) ∧ W.cell? ⟨w2.heap.size, 2, none⟩ = some (.int .i64 (foldC A B pre).2)) ∧ (W.frozen? ⟨w2.heap.size, 0, none⟩ = false ∧ W.frozen? ⟨w2.heap.size, 1, none⟩ = false ∧ W.frozen? ⟨w2.heap.size, 2, none⟩ = false)
      ∧ (W.cell? ⟨w.heap.size, 0, none⟩ = some (.int .i64 0) ∧ W.cell? ⟨w.heap.size, 1, none⟩ = some (.int .i64 0) ∧ W.cell? ⟨w.heap.size, 2, none⟩ = some (.int .i64 0)) ∧ (W.frozen? ⟨w.heap.size, 0, none⟩ = false ∧ W.frozen? ⟨w.heap.size, 1, none⟩ = false ∧ W.frozen? ⟨w.heap.size, 2, none⟩ = false)) ∧ Below w.heap.size w W)
    (fun c pre W => (c = .exit 0 ∧ ∃ q x, pre = q ++ [x] ∧ dgD x = 7 ∧ (∀ y ∈ q, dgD y ≠ 7) ∧ (W.cell? ⟨w2.heap.size, 0, none⟩ = some (.int .i64 (q.length : Int)) ∧ W.cell? ⟨w2.heap.size, 1, none⟩ = some (.int .i64 (foldC A B q).1) ∧ W.cell? ⟨w2.heap.size, 2, none⟩ = some (.int .i64 (foldC A B q).2))
      ∧ (W.cell? ⟨w.heap.size, 0, none⟩ = some (.int .i64 0) ∧ W.cell? ⟨w.heap.size, 1, none⟩ = some (.int .i64 0) ∧ W.cell? ⟨w.heap.size, 2, none⟩ = some (.int .i64 0)) ∧ (W.frozen? ⟨w.heap.size, 0, none⟩ = false ∧ W.frozen? ⟨w.heap.size, 1, none⟩ = false ∧ W.frozen? ⟨w.heap.size, 2, none⟩ = false)) ∧ Below w.heap.size w W) ?hI ?hIx ⟨⟨⟨(by intro x hx; cases hx), fun _ => hO0⟩, ⟨a0, a1, a2⟩, ⟨f0, f1, f2⟩, ⟨r0, r1, r2⟩, ⟨q0, q1, q2⟩⟩, hbs⟩
    (fun x => { tmps := #[.int .u64 v, undef, .pointer (some ⟨w.heap.size, 0, none⟩), .int .i64 0, .pointer (some ⟨w2.heap.size, 0, none⟩), undef, .int .i64 (dgD x), undef, undef, .int .u64 v, .bool true, .bool false, undef, .int .u64 v, .agg #[.int .i64 0, .int .i64 A, .int .i64 B], .int .u64 v, .func (.func 30) #[.int .u64 v] #[], .int .i64 (szD x), .int .i64 (dgD x), undef, undef, undef, undef, undef, undef, undef, undef, undef, undef, undef, undef], defers := [] }) ?assign ?body ?done ?stop
  case hI =>
    intro s X Y hs hb
    have k : ∀ (b o : Nat), b < ws.heap.size → Y.cell? ⟨b, o, none⟩ = X.cell? ⟨b, o, none⟩ := fun b o hbl => hb.cell (p := ⟨b, o, none⟩) hbl
    have kf : ∀ (b o : Nat), b < ws.heap.size → Y.frozen? ⟨b, o, none⟩ = X.frozen? ⟨b, o, none⟩ := fun b o hbl => hb.frozen (p := ⟨b, o, none⟩) hbl
    have l1 : w2.heap.size < ws.heap.size := by omega
    have l2 : w.heap.size < ws.heap.size := by omega
    simp only [k _ _ l1, k _ _ l2, kf _ _ l1, kf _ _ l2]
    exact ⟨hs.1, hs.2.trans (hb.mono (by omega))⟩
  case hIx =>
    intro c s X Y hs hb
    have k : ∀ (b o : Nat), b < ws.heap.size → Y.cell? ⟨b, o, none⟩ = X.cell? ⟨b, o, none⟩ := fun b o hbl => hb.cell (p := ⟨b, o, none⟩) hbl
    have kf : ∀ (b o : Nat), b < ws.heap.size → Y.frozen? ⟨b, o, none⟩ = X.frozen? ⟨b, o, none⟩ := fun b o hbl => hb.frozen (p := ⟨b, o, none⟩) hbl
    have l1 : w2.heap.size < ws.heap.size := by omega
    have l2 : w.heap.size < ws.heap.size := by omega
    simp only [k _ _ l1, k _ _ l2, kf _ _ l2]
    exact ⟨hs.1, hs.2.trans (hb.mono (by omega))⟩
  case assign =>
    intro l x W K hK
    gi_wp2
    exact hK
  case body =>
    rintro l pre x W ⟨⟨⟨hp, hO⟩, ⟨b0, b1, b2⟩, ⟨g0, g1, g2⟩, hr, hq⟩, hb⟩ hs hlen
    have hdx := dgD_box x
    have l1 : w2.heap.size < ws.heap.size := by omega
    by_cases h7 : dgD x = 7
    · have e7 : (dgD x == 7) = true := by simp [h7]
      gi_wp2
      exact ⟨High.refl _ _, ⟨rfl, pre, x, rfl, h7, hp, ⟨b0, b1, b2⟩, hr, hq⟩, hb⟩
    · have e7 : (dgD x == 7) = false := by simp [h7]
      have hOp := hO.out (by omega)
      have KI : Hid (∀ w, Tabs w → Calls Tryz.prog 31 #[.agg #[.int .i64 (pre.length : Int), .int .i64 (foldC A B pre).1, .int .i64 (foldC A B pre).2]] w fun e w' => TellsK w (kidG (pre.length : Int) (foldC A B pre).1 (foldC A B pre).2) 0 e w' ∧ Below w.heap.size w w') := ckids_yes _ _ _ hOp (by omega)
      have hst := foldC_step A B pre x
      obtain ⟨U, hU⟩ : ∃ U, (foldC A B (pre ++ [x])).1 = U := ⟨_, rfl⟩
      obtain ⟨V, hV⟩ : ∃ V, (foldC A B (pre ++ [x])).2 = V := ⟨_, rfl⟩
      have eU : chA (dgD x) (foldC A B pre).1 (foldC A B pre).2 = U := by rw [← hU, hst]
      have eV : chB (dgD x) (foldC A B pre).1 (foldC A B pre).2 = V := by rw [← hV, hst]
      have hOn : Hid ((pre ++ [x]).length ≤ 12 → Ok4 ((pre ++ [x]).length : Int) (foldC A B (pre ++ [x])).1 (foldC A B (pre ++ [x])).2) := by
        intro _
        rw [hU, hV, ← eU, ← eV, List.length_append]
        show Ok4 ((pre.length + 1 : Nat) : Int) _ _
        rw [show ((pre.length + 1 : Nat) : Int) = (pre.length : Int) + 1 by omega]
        exact ok4_child hOp (by omega) hdx.1 (by omega)
      have hTW : Tabs W := hT0.out.low (B := w.heap.size) hlt.1 hlt.2 hb
      obtain ⟨m, hm⟩ : ∃ m : Nat, dgD x = (m : Int) := Int.eq_ofNat_of_zero_le hdx.1
      have hm6 : m ≤ 6 := by omega
      have hk0 := kidG_0 (pre.length : Int) (foldC A B pre).1 (foldC A B pre).2 m
      have hk1 := kidG_1 (pre.length : Int) (foldC A B pre).1 (foldC A B pre).2 m
      have hk2 := kidG_2 (pre.length : Int) (foldC A B pre).1 (foldC A B pre).2 m
      rw [← hm] at hk1 hk2
      rw [eU] at hk1
      rw [eV] at hk2
      have hd0 : 0 ≤ dgD x := hdx.1
      have hd6 : dgD x < 7 := by omega
      have hmt : (dgD x).toNat = m := by omega
      replace hU : Hid _ := hU
      replace hV : Hid _ := hV
      replace hm : Hid _ := hm
      clear hst hO hOp eU eV
      generalize hgg : kidG (pre.length : Int) (foldC A B pre).1 (foldC A B pre).2 = G at *
      clear hgg
      generalize (foldC A B pre).1 = P at *
      generalize (foldC A B pre).2 = Q at *
      gi_wp2_with (refine ⟨trivial, ?_⟩; gi_at_call 31; refine (CallsIn.inRound l (callsIn_wide.2 (KI.out _ hTW))).mono ?_; rintro e w3 ⟨⟨Bk, hBk, rfl, hKR⟩, hb3⟩; have c0 := keepCell hb3 b0; have c1 := keepCell hb3 b1; have c2 := keepCell hb3 b2; have h0 := keepFrozen hb3 b0 g0; have h1 := keepFrozen hb3 b1 g1; have h2 := keepFrozen hb3 b2 g2; have t0 : w3.cell? ⟨Bk, m * 3, none⟩ = some (.int .i64 ((pre.length : Int) + 1)) := (by rw [(hKR _ (by omega)).1, kidAt_all _ _ (by omega), hk0]); have t1 : w3.cell? ⟨Bk, m * 3 + 1, none⟩ = some (.int .i64 U) := (by rw [(hKR _ (by omega)).1, kidAt_all _ _ (by omega), hk1]); have t2 : w3.cell? ⟨Bk, m * 3 + 2, none⟩ = some (.int .i64 V) := (by rw [(hKR _ (by omega)).1, kidAt_all _ _ (by omega), hk2]))
      obtain ⟨e0, e1, e2⟩ := three_stores (u0 := .int .i64 ((pre.length : Int) + 1)) (u1 := .int .i64 U) (u2 := .int .i64 V) c0 c1 c2
      have kr : ∀ o, (w3.cell? ⟨w.heap.size, o, none⟩) = W.cell? ⟨w.heap.size, o, none⟩ := fun o => hb3.cell (p := ⟨w.heap.size, o, none⟩) (by simp; omega)
      have kf : ∀ o, (w3.frozen? ⟨w.heap.size, o, none⟩) = W.frozen? ⟨w.heap.size, o, none⟩ := fun o => hb3.frozen (p := ⟨w.heap.size, o, none⟩) (by simp; omega)
      have ne : ∀ o o', (⟨w2.heap.size, o, none⟩ : Addr) ≠ ⟨w.heap.size, o', none⟩ := fun o o' e => by have := congrArg Addr.block e; simp at this; omega
      have b2' : w.heap.size ≤ w2.heap.size := by omega
      refine ⟨((((hb3.mono (by omega)).setCell (p := ⟨w2.heap.size, 0, none⟩) b2' _).setCell (p := ⟨w2.heap.size, 1, none⟩) b2' _).setCell (p := ⟨w2.heap.size, 2, none⟩) b2' _),
        (((High.of_below hb3).setCell (p := ⟨w2.heap.size, 0, none⟩) (by simp; omega) _).setCell (p := ⟨w2.heap.size, 1, none⟩) (by simp; omega) _).setCell (p := ⟨w2.heap.size, 2, none⟩) (by simp; omega) _,
        ⟨⟨fun y hy => (List.mem_append.1 hy).elim (hp y) (fun h => by rw [List.mem_singleton.1 h]; exact h7), hOn⟩, ⟨?_, ?_, ?_⟩, ⟨?_, ?_, ?_⟩, ⟨?_, ?_, ?_⟩, ?_, ?_, ?_⟩,
        ((((hb.trans (hb3.mono (by omega))).setCell (p := ⟨w2.heap.size, 0, none⟩) b2' _).setCell (p := ⟨w2.heap.size, 1, none⟩) b2' _).setCell (p := ⟨w2.heap.size, 2, none⟩) b2' _)⟩
      · rw [e0, List.length_append]; congr 2
      · rw [hU.out]; exact e1
      · rw [hV.out]; exact e2
      · simp [h0]
      · simp [h1]
      · simp [h2]
      · exact store_keep (store_keep (store_keep ((kr 0).trans hr.1) (ne _ _)) (ne _ _)) (ne _ _)
      · exact store_keep (store_keep (store_keep ((kr 1).trans hr.2.1) (ne _ _)) (ne _ _)) (ne _ _)
      · exact store_keep (store_keep (store_keep ((kr 2).trans hr.2.2) (ne _ _)) (ne _ _)) (ne _ _)
      · simp [kf, hq.1]
      · simp [kf, hq.2.1]
      · simp [kf, hq.2.2]
  case done =>
    rintro D xs W hD rfl ⟨⟨⟨hp, -⟩, ⟨b0, b1, b2⟩, -, hr, hq⟩, hb⟩ hK
    have hR := hN.out hp
    have he := hEnd.out (wl v 12) ⟨12, by omega, rfl⟩ hp (by rw [wl_len, hR]; rfl)
    rw [he] at b1 b2
    rw [wl_len, show ((12 : Nat) : Int) = R by omega] at b0
    obtain ⟨e0, e1, e2⟩ := three_stores (u0 := .int .i64 R) (u1 := .int .i64 CA) (u2 := .int .i64 CB) hr.1 hr.2.1 hr.2.2
    have hK' : (((W.setCell ⟨w.heap.size, 0, none⟩ (.int .i64 R)).setCell ⟨w.heap.size, 1, none⟩ (.int .i64 CA)).setCell ⟨w.heap.size, 2, none⟩ (.int .i64 CB)).heap[D]? = some (.deferred (some [])) := by
      rw [heap_setCell_other _ _ _ _ (by simp; omega), heap_setCell_other _ _ _ _ (by simp; omega), heap_setCell_other _ _ _ _ (by simp; omega)]; exact hK
    have hbp := below_put (B := w.heap.size + 1) (((W.setCell ⟨w.heap.size, 0, none⟩ (.int .i64 R)).setCell ⟨w.heap.size, 1, none⟩ (.int .i64 CA)).setCell ⟨w.heap.size, 2, none⟩ (.int .i64 CB)) D (.deferred none) (by simp; have := (Array.getElem?_eq_some_iff.1 hK).1; omega) (by omega)
    have x0 := (hbp.cell (p := ⟨w.heap.size, 0, none⟩) (by simp)).trans e0
    have x1 := (hbp.cell (p := ⟨w.heap.size, 1, none⟩) (by simp)).trans e1
    have x2 := (hbp.cell (p := ⟨w.heap.size, 2, none⟩) (by simp)).trans e2
    obtain ⟨hr0, hr1, hr2⟩ := hr
    obtain ⟨hq0, hq1, hq2⟩ := hq
    clear hR he
    gi_wp2
    refine ⟨by simp, .inl ⟨_, _, rfl, run_takeDeferred hK', ?_⟩⟩
    exact ⟨.tuple #[.agg #[.int .i64 R, .int .i64 CA, .int .i64 CB], .int .i64 0], by simp [results, Tryz.results14, go_sem, x0, x1, x2], rfl, (((hb.setCell (p := ⟨w.heap.size, 0, none⟩) (by simp) _).setCell (p := ⟨w.heap.size, 1, none⟩) (by simp) _).setCell (p := ⟨w.heap.size, 2, none⟩) (by simp) _).trans (hbp.mono (by omega))⟩
  case stop =>
    rintro D c pre W hD ⟨k, hk, rfl⟩ ⟨⟨rfl, q, x, hqx, hx7, hq7, ⟨b0, b1, b2⟩, hr, hq⟩, hb⟩ hK
    obtain ⟨hR, hqw⟩ := hS.out k q x hk hqx hx7 hq7
    have hql : q.length ≤ 12 := by
      have := congrArg List.length hqx
      simp only [List.length_append, wl_len, List.length_cons, List.length_nil] at this
      omega
    have he := hEnd.out q ⟨q.length, hql, hqw.symm⟩ hq7 hR.symm
    rw [he] at b1 b2
    rw [← hR] at b0
    obtain ⟨e0, e1, e2⟩ := three_stores (u0 := .int .i64 R) (u1 := .int .i64 CA) (u2 := .int .i64 CB) hr.1 hr.2.1 hr.2.2
    have hK' : (((W.setCell ⟨w.heap.size, 0, none⟩ (.int .i64 R)).setCell ⟨w.heap.size, 1, none⟩ (.int .i64 CA)).setCell ⟨w.heap.size, 2, none⟩ (.int .i64 CB)).heap[D]? = some (.deferred (some [])) := by
      rw [heap_setCell_other _ _ _ _ (by simp; omega), heap_setCell_other _ _ _ _ (by simp; omega), heap_setCell_other _ _ _ _ (by simp; omega)]; exact hK
    have hbp := below_put (B := w.heap.size + 1) (((W.setCell ⟨w.heap.size, 0, none⟩ (.int .i64 R)).setCell ⟨w.heap.size, 1, none⟩ (.int .i64 CA)).setCell ⟨w.heap.size, 2, none⟩ (.int .i64 CB)) D (.deferred none) (by simp; have := (Array.getElem?_eq_some_iff.1 hK).1; omega) (by omega)
    have x0 := (hbp.cell (p := ⟨w.heap.size, 0, none⟩) (by simp)).trans e0
    have x1 := (hbp.cell (p := ⟨w.heap.size, 1, none⟩) (by simp)).trans e1
    have x2 := (hbp.cell (p := ⟨w.heap.size, 2, none⟩) (by simp)).trans e2
    obtain ⟨hr0, hr1, hr2⟩ := hr
    obtain ⟨hq0, hq1, hq2⟩ := hq
    clear hR
    gi_wp2
    refine ⟨by simp, .inl ⟨_, _, rfl, run_takeDeferred hK', ?_⟩⟩
    exact ⟨.tuple #[.agg #[.int .i64 R, .int .i64 CA, .int .i64 CB], .int .i64 0], by simp [results, Tryz.results14, go_sem, x0, x1, x2], rfl, (((hb.setCell (p := ⟨w.heap.size, 0, none⟩) (by simp) _).setCell (p := ⟨w.heap.size, 1, none⟩) (by simp) _).setCell (p := ⟨w.heap.size, 2, none⟩) (by simp) _).trans (hbp.mono (by omega))⟩

set_option maxHeartbeats 1000000 in
theorem icell_no (v : Int) (hv : U64 v) (h : ¬ Whole v) (w : World) :
    Calls Tryz.prog 14 #[.int .u64 v] w fun e w' => e = .returned (.tuple #[.agg #[.int .i64 0, .int .i64 0, .int .i64 0], .int .i64 5]) ∧ Below w.heap.size w w' := by
  have IK : Hid (∀ w, Calls Tryz.prog 12 #[.int .u64 v] w fun e w' => e = .returned (.bool false) ∧ Below w.heap.size w w') := iok v hv false (by simp [h])
  clear h hv
  go_enter Tryz.func14, Tryz.ntmps14
  go_wp2_with fail
  refine (IK.out _).mono ?_
  rintro e w1 ⟨rfl, d1⟩
  have c1 : Below w.heap.size w w1 := Below.trans (by go_grown) (d1.mono (by simp; try omega))
  have r0 : w1.cell? ⟨w.heap.size, 0, none⟩ = some (.int .i64 0) := keepCell d1 (by go_simp)
  have fr0 : w1.frozen? ⟨w.heap.size, 0, none⟩ = false := keepFrozen (v := .int .i64 0) d1 (by go_simp) (by go_simp)
  have qr0 := World.block_lt_of_cell? _ _ r0
  have r1 : w1.cell? ⟨w.heap.size, 1, none⟩ = some (.int .i64 0) := keepCell d1 (by go_simp)
  have fr1 : w1.frozen? ⟨w.heap.size, 1, none⟩ = false := keepFrozen (v := .int .i64 0) d1 (by go_simp) (by go_simp)
  have r2 : w1.cell? ⟨w.heap.size, 2, none⟩ = some (.int .i64 0) := keepCell d1 (by go_simp)
  have fr2 : w1.frozen? ⟨w.heap.size, 2, none⟩ = false := keepFrozen (v := .int .i64 0) d1 (by go_simp) (by go_simp)
  have hB := c1
  clear c1 d1
  obtain ⟨g0, g1, g2⟩ := three_stores (u0 := .int .i64 0) (u1 := .int .i64 0) (u2 := .int .i64 0) r0 r1 r2
  go_wp2
  exact bodyPost_ret (v := .tuple #[.agg #[.int .i64 0, .int .i64 0, .int .i64 0], .int .i64 5]) (by simp [results, Tryz.results14, go_sem, g0, g1, g2]) rfl ⟨rfl, ((hB.setCell (by simp) _).setCell (by simp) _).setCell (by simp) _⟩
end Go.Proofs.YtlipbdiijjfheaaGreatDoor
