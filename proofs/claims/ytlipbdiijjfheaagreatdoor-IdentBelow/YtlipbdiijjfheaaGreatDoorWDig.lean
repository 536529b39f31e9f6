/-
  The twelve digits of a word, handed on one by one, the coarsest first: what package ident's digits of a word tells a loop over it; and which words are whole; for any word.
-/
import Derived.Test.YtlipbdiijjfheaaGreatDoorLDig
namespace Go.Proofs.YtlipbdiijjfheaaGreatDoor
open Go.RowKit Go
attribute [local go_sem] Oper.semAt_some

/-- The first k digits, from the coarsest on. -/
def wl (v : Int) (k : Nat) : List Dig := (List.range k).map fun (i : Nat) => mkD (i + 1) (dg v (i + 1))
theorem wl_step (v : Int) (k : Nat) : wl v (k + 1) = wl v k ++ [mkD (k + 1) (dg v (k + 1))] := by unfold wl; rw [List.range_succ, List.map_append]; rfl
theorem wl_len (v : Int) (k : Nat) : (wl v k).length = k := by unfold wl; simp
theorem mkD_sz {j : Nat} {d : Int} (j1 : 1 ≤ j) (j2 : j ≤ 12) : szD (mkD j d) = j := by unfold szD mkD; simp only; omega
theorem mkD_dg {j : Nat} {d : Int} (d0 : 0 ≤ d) (d7 : d ≤ 7) : dgD (mkD j d) = d := by unfold dgD mkD; simp only; omega

set_option maxRecDepth 100000 in
set_option maxHeartbeats 4000000 in
theorem wdig_seq (v : Int) (hv : U64 v) (n₀ : Nat) (w : World) (hn : n₀ ≤ w.heap.size) :
    SeqF Fence.wide 2 Tryz.prog 30 #[.int .u64 v] #[] encD n₀ (fun xs => xs = wl v 12) (fun pre => ∃ k, k ≤ 12 ∧ pre = wl v k) 12 w := by
  intro l J Jx W hW hJ hJx hY h0
  have hW0 : n₀ ≤ W.heap.size := Nat.le_trans hn hW.size
  have DA : Hid (∀ k : Nat, k < 12 → ∀ w, Calls Tryz.prog 52 #[.int .i64 ((k : Int) + 1)] w fun e w' => e = .returned (.int .i64 (33 - 3 * (k : Int))) ∧ w' = w) := fun k hk w => wdigitAt _ _ (by omega) (by omega) (by omega) w
  have PA : Hid (∀ k : Nat, k < 12 → ∀ w, Calls Tryz.prog 51 #[.int .u64 v, .int .i64 (33 - 3 * (k : Int)), .int .i64 3] w fun e w' => e = .returned (.int .i64 (dg v (k + 1))) ∧ Below w.heap.size w w') := by
    intro k hk w
    have h := wpart_dg v hv (k + 1) (by omega) (by omega) w
    rwa [show (3 * (12 - ((k + 1 : Nat) : Int))) = 33 - 3 * (k : Int) by omega] at h
  refine callsIn_of_wp Tryz.func30 rfl trivial ?_ rfl
  simp only [Tryz.ntmps30, List.size_toArray, List.length_cons, List.length_nil, Nat.reduceAdd, Nat.reduceSub, Array.replicate_succ, Array.replicate_zero, List.push_toArray, List.append_toArray, List.nil_append, List.cons_append]
  gi_wp2
  gi_loopw [4] (fun v4 wr => ∃ k : Nat, k ≤ 12 ∧ v4 = .int .i64 ((k : Int) + 1) ∧ Below n₀ W wr ∧ W.heap.size ≤ wr.heap.size ∧ J (wl v k) wr) (fun v4 _ => 13 - (intOf v4).toNat)
  case atStart => exact ⟨0, by omega, rfl, Below.refl _ _, by omega, h0⟩
  case round =>
    obtain ⟨k, hk, rfl, hb, hsz, hJr⟩ := hrel
    by_cases hlt : k < 12
    · have hd := dg_box v (k + 1)
      have D1 := DA.out k hlt
      have P1 := PA.out k hlt
      have hYY : ∀ w1, Below wr.heap.size wr w1 → YieldAt Fence.wide 1 Tryz.prog l #[.int .i64 ((k : Int) + 1), .int .i64 (dg v (k + 1))] w1 fun e W' => ∃ b : Bool, e = .returned (.bool b) ∧ ((b = true ∧ J (wl v (k + 1)) W' ∧ Below n₀ w1 W' ∧ High W.heap.size w1 W') ∨ (b = false ∧ Jx (wl v (k + 1)) W')) := by
        intro w1 hb1
        have hJ1 : J (wl v k) w1 := hJ _ _ _ hJr (hb1.mono hsz)
        obtain ⟨fn, tmps, assign, body, hy, hR⟩ := hY _ (mkD (k + 1) (dg v (k + 1))) w1 hJ1 (by rw [wl_len]; exact hlt) (by have := hb1.size; omega)
        rw [encD_mk (by omega) (by omega) hd.1 hd.2, show ((k + 1 : Nat) : Int) = (k : Int) + 1 by omega] at hy
        refine ⟨fn, tmps, assign, body, hy, hR.mono ?_⟩
        rintro e W' (⟨rfl, h1, h2, h3⟩ | ⟨rfl, h1⟩)
        · exact ⟨true, rfl, .inl ⟨rfl, by rw [wl_step]; exact h1, h2, h3⟩⟩
        · exact ⟨false, rfl, .inr ⟨rfl, by rw [wl_step]; exact h1⟩⟩
      generalize dg v (k + 1) = D at *
      have hk1 : (k : Int) + 1 ≤ 12 := by omega
      clear DA PA hY
      replace D1 : Hid _ := D1
      replace P1 : Hid _ := P1
      replace hYY : Hid _ := hYY
      gi_wp2_with (first
        | (refine ⟨trivial, ?_⟩; gi_at_call 52; refine (callsIn_wide.2 (D1.out _)).mono ?_; rintro e w' ⟨rfl, rfl⟩)
        | (refine ⟨trivial, ?_⟩; gi_at_call 51; refine (callsIn_wide.2 (P1.out _)).mono ?_; rintro e w1 ⟨rfl, hb1⟩; obtain ⟨fn, tmps, assign, body, hy, hR⟩ := hYY.out w1 hb1)
        | fail)
      all_goals
        refine hR.mono ?_
        rintro e W3 ⟨b, rfl, (⟨rfl, h1, h2, h3⟩ | ⟨rfl, h1⟩)⟩
        · gi_wp2
          go_roundw
          case rel => exact ⟨k + 1, by omega, by go_num, (hb.trans (hb1.mono (by omega))).trans h2, by have := h3.size; have := hb1.size; omega, h1⟩
          case measure => simp [intOf]; omega
        · gi_wp2
          refine bodyPost_ret (results_none rfl _ _ _) rfl ?_
          exact ⟨⟨_, rfl⟩, .inr ⟨_, ⟨k + 1, by omega, rfl⟩, h1⟩⟩
    · obtain rfl : k = 12 := by omega
      clear DA PA
      gi_wp2
      go_end0
      exact ⟨⟨_, rfl⟩, .inl ⟨_, rfl, hJr⟩⟩

/-- A digit that fits the word's size. -/
def fitD (R : Int) (x : Dig) : Prop := dgD x = 7 ↔ R < szD x
theorem fit_all {v : Int} (h1 : v / 1152921504606846976 = 1) (h2 : wR v ≤ 12) (h : ∀ x ∈ wl v 12, fitD (wR v) x) : Whole v := by
  refine ⟨h1, h2, fun j j1 j2 => ?_⟩
  have hd := dg_box v j
  have := h (mkD j (dg v j)) (by unfold wl; exact List.mem_map.2 ⟨j - 1, List.mem_range.2 (by omega), by rw [show j - 1 + 1 = j by omega]⟩)
  unfold fitD at this
  rwa [mkD_sz j1 j2, mkD_dg hd.1 hd.2] at this
theorem fit_no {v : Int} {k : Nat} (hk : k ≤ 12) {x : Dig} (hx : x ∈ wl v k) (h : ¬ fitD (wR v) x) : ¬ Whole v := by
  intro hw
  unfold wl at hx
  obtain ⟨i, hi, rfl⟩ := List.mem_map.1 hx
  have hi := List.mem_range.1 hi
  have hd := dg_box v (i + 1)
  apply h
  unfold fitD
  rw [mkD_sz (by omega) (by omega), mkD_dg hd.1 hd.2]
  exact hw.2.2 (i + 1) (by omega) (by omega)

set_option maxRecDepth 100000 in
set_option maxHeartbeats 4000000 in
theorem whole_bad1 (v : Int) (hv : U64 v) (h : ¬ v / 1152921504606846976 = 1) (w : World) :
    Calls Tryz.prog 28 #[.int .u64 v] w fun e w' => e = .returned (.bool false) ∧ Below w.heap.size w w' := by
  have PM : Hid (∀ w, Calls Tryz.prog 51 #[.int .u64 v, .int .i64 60, .int .i64 4] w fun e w' => e = .returned (.int .i64 (v / 1152921504606846976)) ∧ Below w.heap.size w w') := wpart_mark v hv
  have hm : ((v / 1152921504606846976) != 1) = true := by simpa using h
  generalize v / 1152921504606846976 = m at *
  clear hv
  go_enter Tryz.func28, Tryz.ntmps28
  go_wp2_with fail
  refine (PM.out _).mono ?_
  rintro e w1 ⟨rfl, d1⟩
  have c1 : Below w.heap.size w w1 := Below.trans (by go_grown) (d1.mono (by simp; try omega))
  have z0 : w1.cell? ⟨w.heap.size, 0, none⟩ = some (.int .u64 v) := keepCell d1 (by go_simp)
  have qz0 := World.block_lt_of_cell? _ _ z0
  have r0 : w1.cell? ⟨w.heap.size + 1, 0, none⟩ = some (.bool false) := keepCell d1 (by go_simp)
  have fr0 : w1.frozen? ⟨w.heap.size + 1, 0, none⟩ = false := keepFrozen (v := .bool false) d1 (by go_simp) (by go_simp)
  have qr0 := World.block_lt_of_cell? _ _ r0
  have hB := c1
  clear c1 d1
  go_wp2
  exact bodyPost_ret (v := .bool false) (by simp [results, Tryz.results28, go_sem, store_new r0]) rfl ⟨rfl, hB.setCell (by simp) _⟩
set_option maxRecDepth 100000 in
set_option maxHeartbeats 4000000 in
theorem whole_bad2 (v : Int) (hv : U64 v) (h : v / 1152921504606846976 = 1) (h2 : 12 < wR v) (w : World) :
    Calls Tryz.prog 28 #[.int .u64 v] w fun e w' => e = .returned (.bool false) ∧ Below w.heap.size w w' := by
  have PM : Hid (∀ w, Calls Tryz.prog 51 #[.int .u64 v, .int .i64 60, .int .i64 4] w fun e w' => e = .returned (.int .i64 1) ∧ Below w.heap.size w w') := fun w => by rw [← h]; exact wpart_mark v hv w
  have SZ : Hid (∀ w, Calls Tryz.prog 26 #[.int .u64 v] w fun e w' => e = .returned (.int .i64 (wR v)) ∧ Below w.heap.size w w') := wsize v hv
  generalize wR v = R at *
  clear hv h
  go_enter Tryz.func28, Tryz.ntmps28
  go_wp2_with fail
  refine (PM.out _).mono ?_
  rintro e w1 ⟨rfl, d1⟩
  have c1 : Below w.heap.size w w1 := Below.trans (by go_grown) (d1.mono (by simp; try omega))
  have z0 : w1.cell? ⟨w.heap.size, 0, none⟩ = some (.int .u64 v) := keepCell d1 (by go_simp)
  have qz0 := World.block_lt_of_cell? _ _ z0
  have r0 : w1.cell? ⟨w.heap.size + 1, 0, none⟩ = some (.bool false) := keepCell d1 (by go_simp)
  have fr0 : w1.frozen? ⟨w.heap.size + 1, 0, none⟩ = false := keepFrozen (v := .bool false) d1 (by go_simp) (by go_simp)
  have qr0 := World.block_lt_of_cell? _ _ r0
  have hB := c1
  clear c1 d1
  go_wp2_with fail
  refine (SZ.out _).mono ?_
  rintro e w2 ⟨rfl, d2⟩
  have c2 : Below w1.heap.size w1 w2 := Below.trans (by go_grown) (d2.mono (by simp; try omega))
  replace z0 := keepCell c2 z0
  replace qz0 := World.block_lt_of_cell? _ _ z0
  replace fr0 := keepFrozen c2 r0 fr0
  replace r0 := keepCell c2 r0
  replace qr0 := World.block_lt_of_cell? _ _ r0
  replace hB := belowT hB c2
  clear c2 d2
  go_wp2
  exact bodyPost_ret (v := .bool false) (by simp [results, Tryz.results28, go_sem, store_new r0]) rfl ⟨rfl, hB.setCell (by simp) _⟩
set_option maxRecDepth 100000 in
set_option maxHeartbeats 8000000 in
theorem whole_core (v : Int) (hv : U64 v) (hm : v / 1152921504606846976 = 1) (h2 : wR v ≤ 12) (w : World) :
    Calls Tryz.prog 28 #[.int .u64 v] w fun e w' => (∃ b : Bool, e = .returned (.bool b) ∧ (b = true ↔ Whole v)) ∧ Below w.heap.size w w' := by
  have PM : Hid (∀ w, Calls Tryz.prog 51 #[.int .u64 v, .int .i64 60, .int .i64 4] w fun e w' => e = .returned (.int .i64 1) ∧ Below w.heap.size w w') := fun w => by rw [← hm]; exact wpart_mark v hv w
  have SZ : Hid (∀ w, Calls Tryz.prog 26 #[.int .u64 v] w fun e w' => e = .returned (.int .i64 (wR v)) ∧ Below w.heap.size w w') := wsize v hv
  have hYes : Hid ((∀ x ∈ wl v 12, fitD (wR v) x) → Whole v) := fit_all hm h2
  have hNo : Hid (∀ (k : Nat) (x : Dig), k ≤ 12 → x ∈ wl v k → ¬ fitD (wR v) x → ¬ Whole v) := fun k x hk hx h => fit_no hk hx h
  have h0 := (wR_box v).1
  generalize wR v = R at *
  have hq : decide (12 < R) = false := df (by omega)
  refine (callsIn_wide (n := 3)).1 ?_
  refine callsIn_of_wp_marks Tryz.func28 rfl trivial ?_ rfl
  simp only [Tryz.ntmps28, List.size_toArray, List.length_cons, List.length_nil, Nat.reduceAdd, Nat.reduceSub, Array.replicate_succ, Array.replicate_zero, List.push_toArray, List.append_toArray, List.nil_append, List.cons_append]
  have hal := allocB w (.cells #[.int .u64 v] 58)
  have hal2 := belowT hal (allocB (w.alloc (.cells #[.int .u64 v] 58)) (.cells #[.bool false] 4))
  have z0 : ((w.alloc (.cells #[.int .u64 v] 58)).alloc (.cells #[.bool false] 4)).cell? ⟨w.heap.size, 0, none⟩ = some (.int .u64 v) := by go_simp
  have r0 : ((w.alloc (.cells #[.int .u64 v] 58)).alloc (.cells #[.bool false] 4)).cell? ⟨w.heap.size + 1, 0, none⟩ = some (.bool false) := by go_simp
  have q0 : ((w.alloc (.cells #[.int .u64 v] 58)).alloc (.cells #[.bool false] 4)).frozen? ⟨w.heap.size + 1, 0, none⟩ = false := by go_simp
  gi_wp2_with (first
    | (refine ⟨trivial, ?_⟩; gi_at_call 51; refine (callsIn_wide.2 (PM.out _)).mono ?_; rintro e w1 ⟨rfl, hb1⟩; have z1 := keepCell hb1 z0; have r1 := keepCell hb1 r0; have q1 := keepFrozen hb1 r0 q0)
    | (refine ⟨trivial, ?_⟩; gi_at_call 26; refine (callsIn_wide.2 (SZ.out _)).mono ?_; rintro e w2 ⟨rfl, hb2⟩; have z2 := keepCell hb2 z1; have r2 := keepCell hb2 r1; have q2 := keepFrozen hb2 r1 q1)
    | fail)
  have hbw : Below w.heap.size w w2 := belowT (belowT hal2 hb1) hb2
  have hz : w.heap.size + 1 < w2.heap.size := World.block_lt_of_cell? _ _ r2
  refine rf_law rfl (by omega) (gf := 30) (pb := #[.int .u64 v]) (lb := #[]) rfl trivial (enters_of Tryz.func30 (by kernel_rfl) rfl)
    (wdig_seq v hv w.heap.size w2 (by omega)) (by omega) (fun _ => rfl)
    (fun pre W => ((∀ x ∈ pre, fitD R x) ∧ W.cell? ⟨w.heap.size, 0, none⟩ = some (.int .u64 v) ∧ W.cell? ⟨w.heap.size + 1, 0, none⟩ = some (.bool false) ∧ W.frozen? ⟨w.heap.size + 1, 0, none⟩ = false) ∧ Below w.heap.size w W)
    (fun c pre W => (c = .ret ∧ (∃ x ∈ pre, ¬ fitD R x) ∧ W.cell? ⟨w.heap.size + 1, 0, none⟩ = some (.bool false)) ∧ Below w.heap.size w W) ?hI ?hIx ⟨⟨(by intro x hx; cases hx), z2, r2, q2⟩, hbw⟩
    (fun x => { tmps := #[.int .u64 v, .pointer (some ⟨w.heap.size, 0, none⟩), .pointer (some ⟨w.heap.size + 1, 0, none⟩), .int .i64 (szD x), .int .i64 (dgD x), .int .u64 v, .int .i64 1, .bool false, .bool false, .int .u64 v, .int .i64 R, .bool false, .bool false, .int .u64 v, .func (.func 30) #[.int .u64 v] #[], .int .i64 (szD x), .int .i64 (dgD x), undef, undef, undef, undef, undef, undef, undef], defers := [] }) ?assign ?body ?done ?stop
  case hI =>
    intro s X Y hs hb
    exact ⟨⟨hs.1.1, (hb.cell (p := ⟨w.heap.size, 0, none⟩) (by simp; omega)).trans hs.1.2.1, (hb.cell (p := ⟨w.heap.size + 1, 0, none⟩) (by simp; omega)).trans hs.1.2.2.1, (hb.frozen (p := ⟨w.heap.size + 1, 0, none⟩) (by simp; omega)).trans hs.1.2.2.2⟩, hs.2.trans (hb.mono (by omega))⟩
  case hIx =>
    intro c s X Y hs hb
    exact ⟨⟨hs.1.1, hs.1.2.1, (hb.cell (p := ⟨w.heap.size + 1, 0, none⟩) (by simp; omega)).trans hs.1.2.2⟩, hs.2.trans (hb.mono (by omega))⟩
  case assign =>
    intro l x W K hK
    gi_wp2
    exact hK
  case body =>
    rintro l pre x W ⟨⟨hp, hc, hr0, hf⟩, hb⟩ hs _
    have hsx := szD_box x
    have hdx := dgD_box x
    have hx : fitD R x ↔ ((dgD x == 7) = decide (R < szD x)) := by
      unfold fitD
      by_cases h7 : dgD x = 7 <;> by_cases hR : R < szD x <;> simp [h7, hR]
    cases e7 : (dgD x == 7) <;> cases eR : decide (R < szD x) <;> rw [e7, eR] at hx <;> simp only [reduceCtorEq, iff_true, iff_false] at hx
    · gi_wp2_with (refine ⟨trivial, ?_⟩; gi_at_call 26; refine (CallsIn.inRound l (callsIn_wide.2 (SZ.out _))).mono ?_; rintro e w3 ⟨rfl, hb3⟩; have c3 := keepCell hb3 hc; have s3 := keepCell hb3 hr0; have f3 := keepFrozen hb3 hr0 hf)
      exact ⟨hb3.mono (by omega), High.of_below hb3, ⟨fun y hy => (List.mem_append.1 hy).elim (hp y) (fun h => by rw [List.mem_singleton.1 h]; exact hx), c3, s3, f3⟩, hb.trans (hb3.mono (by omega))⟩
    · gi_wp2_with (refine ⟨trivial, ?_⟩; gi_at_call 26; refine (CallsIn.inRound l (callsIn_wide.2 (SZ.out _))).mono ?_; rintro e w3 ⟨rfl, hb3⟩; have c3 := keepCell hb3 hc; have s3 := keepCell hb3 hr0; have f3 := keepFrozen hb3 hr0 hf)
      exact ⟨(High.of_below hb3).setCell (p := ⟨w.heap.size + 1, 0, none⟩) (by simp; omega) _, ⟨rfl, ⟨x, List.mem_append.2 (.inr (List.mem_singleton.2 rfl)), hx⟩, store_new s3⟩, (hb.trans (hb3.mono (by omega))).setCell (p := ⟨w.heap.size + 1, 0, none⟩) (by simp) _⟩
    · gi_wp2_with (refine ⟨trivial, ?_⟩; gi_at_call 26; refine (CallsIn.inRound l (callsIn_wide.2 (SZ.out _))).mono ?_; rintro e w3 ⟨rfl, hb3⟩; have c3 := keepCell hb3 hc; have s3 := keepCell hb3 hr0; have f3 := keepFrozen hb3 hr0 hf)
      exact ⟨(High.of_below hb3).setCell (p := ⟨w.heap.size + 1, 0, none⟩) (by simp; omega) _, ⟨rfl, ⟨x, List.mem_append.2 (.inr (List.mem_singleton.2 rfl)), hx⟩, store_new s3⟩, (hb.trans (hb3.mono (by omega))).setCell (p := ⟨w.heap.size + 1, 0, none⟩) (by simp) _⟩
    · gi_wp2_with (refine ⟨trivial, ?_⟩; gi_at_call 26; refine (CallsIn.inRound l (callsIn_wide.2 (SZ.out _))).mono ?_; rintro e w3 ⟨rfl, hb3⟩; have c3 := keepCell hb3 hc; have s3 := keepCell hb3 hr0; have f3 := keepFrozen hb3 hr0 hf)
      exact ⟨hb3.mono (by omega), High.of_below hb3, ⟨fun y hy => (List.mem_append.1 hy).elim (hp y) (fun h => by rw [List.mem_singleton.1 h]; exact hx), c3, s3, f3⟩, hb.trans (hb3.mono (by omega))⟩
  case done =>
    rintro D xs W hD rfl ⟨⟨hp, hc, hr0, hf⟩, hb⟩ hK
    have hW := hYes.out hp
    have hK' : (W.setCell ⟨w.heap.size + 1, 0, none⟩ (.bool true)).heap[D]? = some (.deferred (some [])) := by rw [heap_setCell_other _ _ _ _ (by simp; omega)]; exact hK
    have hbp := below_put (B := w.heap.size + 2) (W.setCell ⟨w.heap.size + 1, 0, none⟩ (.bool true)) D (.deferred none) (by simp; have := (Array.getElem?_eq_some_iff.1 hK).1; omega) (by omega)
    have hcell := (hbp.cell (p := ⟨w.heap.size + 1, 0, none⟩) (by simp)).trans (store_new hr0)
    gi_wp2
    refine ⟨by simp, .inl ⟨_, _, rfl, run_takeDeferred hK', ?_⟩⟩
    exact ⟨.bool true, by simp [results, Tryz.results28, go_sem, hcell], ⟨true, rfl, by simp [hW]⟩, (hb.setCell (p := ⟨w.heap.size + 1, 0, none⟩) (by simp) _).trans (hbp.mono (by omega))⟩
  case stop =>
    rintro D c pre W hD ⟨k, hk, rfl⟩ ⟨⟨rfl, ⟨x, hx, hn⟩, hr0⟩, hb⟩ hK
    have hW := hNo.out k x hk hx hn
    have hbp := below_put (B := w.heap.size + 2) W D (.deferred none) (by have := (Array.getElem?_eq_some_iff.1 hK).1; omega) (by omega)
    have hcell := (hbp.cell (p := ⟨w.heap.size + 1, 0, none⟩) (by simp)).trans hr0
    gi_wp2
    refine ⟨by simp, .inl ⟨_, _, rfl, run_takeDeferred hK, ?_⟩⟩
    exact ⟨.bool false, by simp [results, Tryz.results28, go_sem, hcell], ⟨false, rfl, by simp [hW]⟩, hb.trans (hbp.mono (by omega))⟩

/-- WHOLE: just the words of cells. -/
theorem iswhole (v : Int) (hv : U64 v) (b : Bool) (hb : b = true ↔ Whole v) (w : World) :
    Calls Tryz.prog 28 #[.int .u64 v] w fun e w' => e = .returned (.bool b) ∧ Below w.heap.size w w' := by
  by_cases h1 : v / 1152921504606846976 = 1
  · by_cases h2 : wR v ≤ 12
    · refine (whole_core v hv h1 h2 w).mono ?_
      rintro e w' ⟨⟨b', rfl, hb'⟩, h⟩
      have : b' = b := by
        cases b <;> cases b' <;> simp at hb hb' ⊢
        · exact absurd hb' hb
        · exact absurd hb hb'
      exact ⟨by rw [this], h⟩
    · obtain rfl : b = false := by
        cases b
        · rfl
        · exact absurd (hb.1 rfl).2.1 h2
      exact whole_bad2 v hv h1 (by omega) w
  · obtain rfl : b = false := by
      cases b
      · rfl
      · exact absurd (hb.1 rfl).1 h1
    exact whole_bad1 v hv h1 w
set_option maxHeartbeats 1000000 in
/-- OK, of words. -/
theorem iok (v : Int) (hv : U64 v) (b : Bool) (hb : b = true ↔ Whole v) (w : World) :
    Calls Tryz.prog 12 #[.int .u64 v] w fun e w' => e = .returned (.bool b) ∧ Below w.heap.size w w' := by
  have IW : Hid (∀ w, Calls Tryz.prog 28 #[.int .u64 v] w fun e w' => e = .returned (.bool b) ∧ Below w.heap.size w w') := iswhole v hv b hb
  clear hb hv
  go_enter Tryz.func12, Tryz.ntmps12
  go_wp2_with fail
  refine (IW.out _).mono ?_
  rintro e w1 ⟨rfl, d1⟩
  have c1 : Below w.heap.size w w1 := Below.trans (by go_grown) (d1.mono (by simp; try omega))
  have hB := c1
  clear c1 d1
  go_wp2
  go_ret
  exact ⟨rfl, hB⟩
set_option maxHeartbeats 1000000 in
theorem ires_yes (v : Int) (h : Whole v) (w : World) :
    Calls Tryz.prog 10 #[.int .u64 v] w fun e w' => e = .returned (.int .i64 (wR v)) ∧ Below w.heap.size w w' := by
  have hx := whole_box h
  have hv : U64 v := ⟨by omega, by omega⟩
  have IK : Hid (∀ w, Calls Tryz.prog 12 #[.int .u64 v] w fun e w' => e = .returned (.bool true) ∧ Below w.heap.size w w') := iok v hv true (by simp [h])
  have SZ : Hid (∀ w, Calls Tryz.prog 26 #[.int .u64 v] w fun e w' => e = .returned (.int .i64 (wR v)) ∧ Below w.heap.size w w') := wsize v hv
  generalize wR v = R at *
  clear h hv hx
  go_enter Tryz.func10, Tryz.ntmps10
  go_wp2_with fail
  refine (IK.out _).mono ?_
  rintro e w1 ⟨rfl, d1⟩
  have c1 : Below w.heap.size w w1 := Below.trans (by go_grown) (d1.mono (by simp; try omega))
  have hB := c1
  clear c1 d1
  go_wp2_with fail
  refine (SZ.out _).mono ?_
  rintro e w2 ⟨rfl, d2⟩
  have c2 : Below w1.heap.size w1 w2 := Below.trans (by go_grown) (d2.mono (by simp; try omega))
  replace hB := belowT hB c2
  clear c2 d2
  go_wp2
  go_ret
  exact ⟨rfl, hB⟩
set_option maxHeartbeats 1000000 in
theorem ires_no (v : Int) (hv : U64 v) (h : ¬ Whole v) (w : World) :
    Calls Tryz.prog 10 #[.int .u64 v] w fun e w' => e = .returned (.int .i64 (-1)) ∧ Below w.heap.size w w' := by
  have IK : Hid (∀ w, Calls Tryz.prog 12 #[.int .u64 v] w fun e w' => e = .returned (.bool false) ∧ Below w.heap.size w w') := iok v hv false (by simp [h])
  clear h hv
  go_enter Tryz.func10, Tryz.ntmps10
  go_wp2_with fail
  refine (IK.out _).mono ?_
  rintro e w1 ⟨rfl, d1⟩
  have c1 : Below w.heap.size w w1 := Below.trans (by go_grown) (d1.mono (by simp; try omega))
  have hB := c1
  clear c1 d1
  go_wp2
  go_ret
  exact ⟨rfl, hB⟩
set_option maxHeartbeats 1000000 in
theorem iparent_yes (v : Int) (h : Whole v) (hr : 0 < wR v) (w : World) :
    Calls Tryz.prog 11 #[.int .u64 v] w fun e w' => e = .returned (.tuple #[.int .u64 (upW v), .int .i64 0]) ∧ Below w.heap.size w w' := by
  have hx := whole_box h
  have hv : U64 v := ⟨by omega, by omega⟩
  have IK : Hid (∀ w, Calls Tryz.prog 12 #[.int .u64 v] w fun e w' => e = .returned (.bool true) ∧ Below w.heap.size w w') := iok v hv true (by simp [h])
  have SZ : Hid (∀ w, Calls Tryz.prog 26 #[.int .u64 v] w fun e w' => e = .returned (.int .i64 (wR v)) ∧ Below w.heap.size w w') := wsize v hv
  have RA : Hid (∀ w, Calls Tryz.prog 27 #[.int .u64 v] w fun e w' => e = .returned (.int .u64 (upW v)) ∧ Below w.heap.size w w') := wraised v h hr
  have q : (wR v == 0) = false := by simp; omega
  generalize wR v = R at *
  generalize upW v = U at *
  clear h hv hx
  go_enter Tryz.func11, Tryz.ntmps11
  go_wp2_with fail
  refine (IK.out _).mono ?_
  rintro e w1 ⟨rfl, d1⟩
  have c1 : Below w.heap.size w w1 := Below.trans (by go_grown) (d1.mono (by simp; try omega))
  have hB := c1
  clear c1 d1
  go_wp2_with fail
  refine (SZ.out _).mono ?_
  rintro e w2 ⟨rfl, d2⟩
  have c2 : Below w1.heap.size w1 w2 := Below.trans (by go_grown) (d2.mono (by simp; try omega))
  replace hB := belowT hB c2
  clear c2 d2
  go_wp2_with fail
  refine (RA.out _).mono ?_
  rintro e w3 ⟨rfl, d3⟩
  have c3 : Below w2.heap.size w2 w3 := Below.trans (by go_grown) (d3.mono (by simp; try omega))
  replace hB := belowT hB c3
  clear c3 d3
  go_wp2
  go_ret2
  exact ⟨rfl, hB⟩
set_option maxHeartbeats 1000000 in
theorem iparent_top (v : Int) (h : Whole v) (hr : wR v = 0) (w : World) :
    Calls Tryz.prog 11 #[.int .u64 v] w fun e w' => e = .returned (.tuple #[.int .u64 0, .int .i64 3]) ∧ Below w.heap.size w w' := by
  have hx := whole_box h
  have hv : U64 v := ⟨by omega, by omega⟩
  have IK : Hid (∀ w, Calls Tryz.prog 12 #[.int .u64 v] w fun e w' => e = .returned (.bool true) ∧ Below w.heap.size w w') := iok v hv true (by simp [h])
  have SZ : Hid (∀ w, Calls Tryz.prog 26 #[.int .u64 v] w fun e w' => e = .returned (.int .i64 0) ∧ Below w.heap.size w w') := fun w => by rw [← hr]; exact wsize v hv w
  clear h hv hx hr
  go_enter Tryz.func11, Tryz.ntmps11
  go_wp2_with fail
  refine (IK.out _).mono ?_
  rintro e w1 ⟨rfl, d1⟩
  have c1 : Below w.heap.size w w1 := Below.trans (by go_grown) (d1.mono (by simp; try omega))
  have hB := c1
  clear c1 d1
  go_wp2_with fail
  refine (SZ.out _).mono ?_
  rintro e w2 ⟨rfl, d2⟩
  have c2 : Below w1.heap.size w1 w2 := Below.trans (by go_grown) (d2.mono (by simp; try omega))
  replace hB := belowT hB c2
  clear c2 d2
  go_wp2
  go_ret2
  exact ⟨rfl, hB⟩
set_option maxHeartbeats 1000000 in
theorem iparent_no (v : Int) (hv : U64 v) (h : ¬ Whole v) (w : World) :
    Calls Tryz.prog 11 #[.int .u64 v] w fun e w' => e = .returned (.tuple #[.int .u64 0, .int .i64 5]) ∧ Below w.heap.size w w' := by
  have IK : Hid (∀ w, Calls Tryz.prog 12 #[.int .u64 v] w fun e w' => e = .returned (.bool false) ∧ Below w.heap.size w w') := iok v hv false (by simp [h])
  clear h hv
  go_enter Tryz.func11, Tryz.ntmps11
  go_wp2_with fail
  refine (IK.out _).mono ?_
  rintro e w1 ⟨rfl, d1⟩
  have c1 : Below w.heap.size w w1 := Below.trans (by go_grown) (d1.mono (by simp; try omega))
  have hB := c1
  clear c1 d1
  go_wp2
  go_ret2
  exact ⟨rfl, hB⟩
end Go.Proofs.YtlipbdiijjfheaaGreatDoor
