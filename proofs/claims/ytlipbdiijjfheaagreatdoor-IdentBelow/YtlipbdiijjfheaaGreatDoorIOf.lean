/-
  What package ident's Of tells: the word of a cell that may be, no word of another one; in whatever memory where both tables hold what their texts lay.
-/
import Derived.Test.YtlipbdiijjfheaaGreatDoorLDig
namespace Go.Proofs.YtlipbdiijjfheaaGreatDoor
open Go.RowKit Go
attribute [local go_sem] Oper.semAt_some

/-- A word whose digits are set one behind the other. -/
def accD (v : Int) (xs : List Dig) : Int := xs.foldl (fun v x => setD v (x.1.val + 1) (dgD x)) v
theorem accD_step (v : Int) (xs : List Dig) (x : Dig) : accD v (xs ++ [x]) = setD (accD v xs) (x.1.val + 1) (dgD x) := by unfold accD; rw [List.foldl_append]; rfl
theorem accD_box {v : Int} (hv : U64 v) : ∀ xs : List Dig, U64 (accD v xs)
  | [] => hv
  | x :: xs => accD_box (v := setD v (x.1.val + 1) (dgD x)) (setD_box hv (dgD_box x).1 (dgD_box x).2 (by omega) (by have := x.1.isLt; omega)) xs
/-- Seven in each, but for the sizes above k. -/
def fromD (r : Nat) (a b : Int) (k : Nat) (j : Nat) : Int := if r < j + k then dgs r a b j else 7
theorem fromD_box (r : Nat) (a b : Int) (k j : Nat) : 0 ≤ fromD r a b k j ∧ fromD r a b k j ≤ 7 := by
  unfold fromD
  split
  · exact dgs_box r a b j
  · omega
theorem accD_digL (r : Nat) (a b R A B : Int) (hr : r ≤ 12) : ∀ k, k ≤ r → accD (wd R A B fun _ => 7) (digL r a b k) = wd R A B (fromD r a b k)
  | 0, _ => by
    show wd R A B _ = _
    apply wd_congr
    intro j j1 j2
    unfold fromD
    split
    · exact ((dgs_seven r a b j).2 (by omega)).symm
    · rfl
  | k + 1, hk => by
    have hd := dig_box (ups k a b).1 (ups k a b).2
    rw [digL_step, accD_step, accD_digL r a b R A B hr k (by omega)]
    rw [show (mkD (r - k) (dig (ups k a b).1 (ups k a b).2)).1.val + 1 = r - k by show (r - k - 1) % 12 + 1 = r - k; omega]
    rw [show dgD (mkD (r - k) (dig (ups k a b).1 (ups k a b).2)) = dig (ups k a b).1 (ups k a b).2 by show ((((dig (ups k a b).1 (ups k a b).2).toNat % 8 : Nat)) : Int) = _; omega]
    rw [setD_wd (fun j _ _ => fromD_box r a b k j) _ (by omega) (by omega)]
    apply wd_congr
    intro j j1 j2
    by_cases hj : j = r - k
    · subst hj
      rw [putD_at]
      unfold fromD dgs
      rw [if_pos (by omega), if_pos (by omega), show r - (r - k) = k by omega]
    · rw [putD_other _ _ hj]
      unfold fromD
      by_cases h1 : r < j + k
      · rw [if_pos h1, if_pos (by omega)]
      · rw [if_neg h1, if_neg (by omega)]
theorem accD_all (r : Nat) (a b : Int) (hr : r ≤ 12) : accD (wd r (ups r a b).1 (ups r a b).2 fun _ => 7) (digL r a b r) = wordOf r a b := by
  rw [accD_digL r a b _ _ _ hr r (by omega)]
  unfold wordOf
  apply wd_congr
  intro j j1 j2
  unfold fromD
  rw [if_pos (by omega)]

theorem blank_math {R A B : Int} (hR : 0 ≤ R ∧ R ≤ 12) (hA : InBase A) (hB : InBase B) :
    bits .or .u64 (bits .or .u64 (bits .or .u64 (bits .or .u64 1152921504606846976 (IntKind.u64.wrap (R * 72057594037927936))) (IntKind.u64.wrap ((A + 512) * 70368744177664))) (IntKind.u64.wrap ((B + 512) * 68719476736))) 68719476735 = wd R A B fun _ => 7 := by
  unfold InBase at hA hB
  obtain ⟨r0, r1⟩ := hR
  obtain ⟨a0, a1⟩ := hA
  obtain ⟨b0, b1⟩ := hB
  rw [u64_wrap (n := R * 72057594037927936) ⟨by omega, by omega⟩, u64_wrap (n := (A + 512) * 70368744177664) ⟨by omega, by omega⟩, u64_wrap (n := (B + 512) * 68719476736) ⟨by omega, by omega⟩]
  have e1 : bits .or .u64 1152921504606846976 (R * 72057594037927936) = 1152921504606846976 + R * 72057594037927936 := u64_join (i := 60) (p := 1152921504606846976) ⟨by omega, by omega⟩ rfl (by omega) (by omega) (by omega) (by omega)
  have e2 : bits .or .u64 (1152921504606846976 + R * 72057594037927936) ((A + 512) * 70368744177664) = 1152921504606846976 + R * 72057594037927936 + (A + 512) * 70368744177664 := u64_join (i := 56) (p := 72057594037927936) ⟨by omega, by omega⟩ rfl (by omega) (by omega) (by omega) (by omega)
  have e3 : bits .or .u64 (1152921504606846976 + R * 72057594037927936 + (A + 512) * 70368744177664) ((B + 512) * 68719476736) = 1152921504606846976 + R * 72057594037927936 + (A + 512) * 70368744177664 + (B + 512) * 68719476736 := u64_join (i := 46) (p := 70368744177664) ⟨by omega, by omega⟩ rfl (by omega) (by omega) (by omega) (by omega)
  have e4 : bits .or .u64 (1152921504606846976 + R * 72057594037927936 + (A + 512) * 70368744177664 + (B + 512) * 68719476736) 68719476735 = 1152921504606846976 + R * 72057594037927936 + (A + 512) * 70368744177664 + (B + 512) * 68719476736 + 68719476735 := u64_join (i := 36) (p := 68719476736) ⟨by omega, by omega⟩ rfl (by omega) (by omega) (by omega) (by omega)
  rw [e1, e2, e3, e4]
  simp only [wd, headD, lowD]
  omega
theorem wblank (R A B : Int) (hR : 0 ≤ R ∧ R ≤ 12) (hA : InBase A) (hB : InBase B) (w : World) :
    Calls Tryz.prog 38 #[.int .i64 R, .agg #[.int .i64 A, .int .i64 B]] w fun e w' => e = .returned (.int .u64 (wd R A B fun _ => 7)) ∧ Below w.heap.size w w' :=
  wblank_core R A B _ _ _ _ _ _ _ hR.1 hR.2 hA.1 hA.2 hB.1 hB.2 rfl rfl rfl rfl rfl rfl (blank_math hR hA hB) w
theorem blank_box {R A B : Int} (hR : 0 ≤ R ∧ R ≤ 12) (hA : InBase A) (hB : InBase B) : U64 (wd R A B fun _ => 7) := by
  have h := (head_wd (d := fun _ => 7) (R := R) (by omega) hA hB (fun _ _ _ => ⟨by omega, by omega⟩)).2.2.2.2
  exact ⟨h.1, by omega⟩

set_option maxRecDepth 100000 in
set_option maxHeartbeats 4000000 in
theorem iof_core (r : Nat) (a b A B v0 V : Int) (h : Ok4 (r : Int) a b) (hv : U64 v0) (hV : accD v0 (digL r a b r) = V)
    (BA : ∀ w, Tabs w → Calls Tryz.prog 37 #[.agg #[.int .i64 (r : Int), .int .i64 a, .int .i64 b]] w fun e w' => e = .returned (.tuple #[.agg #[.int .i64 0, .int .i64 A, .int .i64 B], .int .i64 0]) ∧ Below w.heap.size w w')
    (BL : ∀ w, Calls Tryz.prog 38 #[.int .i64 (r : Int), .agg #[.int .i64 A, .int .i64 B]] w fun e w' => e = .returned (.int .u64 v0) ∧ Below w.heap.size w w') (w : World) (hT : Tabs w) :
    Calls Tryz.prog 18 #[.agg #[.int .i64 (r : Int), .int .i64 a, .int .i64 b]] w fun e w' => e = .returned (.tuple #[.int .u64 V, .int .i64 0]) ∧ Below w.heap.size w w' := by
  replace BA : Hid _ := BA
  replace BL : Hid _ := BL
  have hT0 : Hid (Tabs w) := hT
  have hlt := hT.lt
  clear hT
  refine (callsIn_wide (n := 3)).1 ?_
  refine callsIn_of_wp_marks Tryz.func18 rfl trivial ?_ rfl
  simp only [Tryz.ntmps18, List.size_toArray, List.length_cons, List.length_nil, Nat.reduceAdd, Nat.reduceSub, Array.replicate_succ, Array.replicate_zero, List.push_toArray, List.append_toArray, List.nil_append, List.cons_append]
  have hal := allocB w (.cells #[.int .i64 (r : Int), .int .i64 a, .int .i64 b] 34)
  have z0 : (w.alloc (.cells #[.int .i64 (r : Int), .int .i64 a, .int .i64 b] 34)).cell? ⟨w.heap.size, 0, none⟩ = some (.int .i64 (r : Int)) := by go_simp
  have z1 : (w.alloc (.cells #[.int .i64 (r : Int), .int .i64 a, .int .i64 b] 34)).cell? ⟨w.heap.size, 1, none⟩ = some (.int .i64 a) := by go_simp
  have z2 : (w.alloc (.cells #[.int .i64 (r : Int), .int .i64 a, .int .i64 b] 34)).cell? ⟨w.heap.size, 2, none⟩ = some (.int .i64 b) := by go_simp
  gi_wp2_with (first
    | (refine ⟨trivial, ?_⟩; gi_at_call 37; refine (callsIn_wide.2 (BA.out _ (hT0.out.below hal))).mono ?_; rintro e w1 ⟨rfl, hb1⟩; have y0 := keepCell hb1 z0; have y1 := keepCell hb1 z1; have y2 := keepCell hb1 z2; have l1 : w.heap.size < w1.heap.size := (by have := hb1.size; simp at this; omega); have n1 := Nat.ne_of_lt l1; have m1 := Nat.ne_of_gt l1)
    | (refine ⟨trivial, ?_⟩; gi_at_call 38; refine (callsIn_wide.2 (BL.out _)).mono ?_; rintro e w2 ⟨rfl, hb2⟩; have hb12 := belowT (allocB w1 (.cells #[.int .i64 0, .int .i64 A, .int .i64 B] 34)) hb2; have x0 := keepCell hb12 y0; have x1 := keepCell hb12 y1; have x2 := keepCell hb12 y2; have l2 : w.heap.size < w2.heap.size := (by have := hb12.size; omega); have n2 := Nat.ne_of_lt l2; have m2 := Nat.ne_of_gt l2))
  all_goals
    have hlt2 := hlt
    have hb02 := belowT hal (belowT hb1 hb12)
    have hal2 := allocB w2 (.cells #[.int .u64 v0] 58)
    have hbs : Below w.heap.size w (w2.alloc (.cells #[.int .u64 v0] 58)) := belowT hb02 hal2
    have hTs := hT0.out.below hbs
    have s0 : (w2.alloc (.cells #[.int .u64 v0] 58)).cell? ⟨w2.heap.size, 0, none⟩ = some (.int .u64 v0) := by go_simp
    have s1 : (w2.alloc (.cells #[.int .u64 v0] 58)).frozen? ⟨w2.heap.size, 0, none⟩ = false := by go_simp
    have hz : (w2.alloc (.cells #[.int .u64 v0] 58)).heap.size = w2.heap.size + 1 := by simp
    generalize w2.alloc (.cells #[.int .u64 v0] 58) = ws at *
    refine rf_law rfl (by omega) (gf := 39) (pb := #[.agg #[.int .i64 (r : Int), .int .i64 a, .int .i64 b]]) (lb := #[]) rfl trivial (enters_of Tryz.func39 (by kernel_rfl) rfl)
      (ldig_seq r a b h w.heap.size ws (by omega) hlt2.1 hlt2.2 hTs) (by omega) (fun _ => rfl)
      (fun pre W => (W.cell? ⟨w2.heap.size, 0, none⟩ = some (.int .u64 (accD v0 pre)) ∧ W.frozen? ⟨w2.heap.size, 0, none⟩ = false) ∧ Below w.heap.size w W)
      (fun _ _ _ => False) ?hI (fun _ _ _ _ h _ => h) ⟨⟨s0, s1⟩, hbs⟩
      (fun x => { tmps := #[.agg #[.int .i64 (r : Int), .int .i64 a, .int .i64 b], .pointer (some ⟨w.heap.size, 0, none⟩), .int .u64 0, .int .i64 0, .pointer (some ⟨w1.heap.size, 0, none⟩), .int .i64 0, .pointer (some ⟨w2.heap.size, 0, none⟩), .int .i64 (szD x), .int .i64 (dgD x), .tuple #[.agg #[.int .i64 0, .int .i64 A, .int .i64 B], .int .i64 0], .agg #[.int .i64 (r : Int), .int .i64 a, .int .i64 b], .tuple #[.agg #[.int .i64 0, .int .i64 A, .int .i64 B], .int .i64 0], .agg #[.int .i64 0, .int .i64 A, .int .i64 B], .int .i64 0, .int .i64 0, .bool false, undef, .pointer (some ⟨w.heap.size, 0, none⟩), .int .i64 (r : Int), .pointer (some ⟨w1.heap.size, 1, none⟩), .agg #[.int .i64 A, .int .i64 B], .int .u64 v0, .agg #[.int .i64 (r : Int), .int .i64 a, .int .i64 b], .func (.func 39) #[.agg #[.int .i64 (r : Int), .int .i64 a, .int .i64 b]] #[], .int .i64 (szD x), .int .i64 (dgD x), undef, undef, undef, undef, undef], defers := [] }) ?assign ?body ?done ?stop
    case hI =>
      intro s X Y hs hb
      exact ⟨⟨(hb.cell (p := ⟨w2.heap.size, 0, none⟩) (by simp; omega)).trans hs.1.1, (hb.frozen (p := ⟨w2.heap.size, 0, none⟩) (by simp; omega)).trans hs.1.2⟩, hs.2.trans (hb.mono (by omega))⟩
    case assign =>
      intro l x W K hK
      gi_wp2
      exact hK
    case body =>
      rintro l pre x W ⟨⟨hc, hf⟩, hb⟩ hs _
      have hv' := accD_box hv pre
      have hx := szD_box x
      have hd := dgD_box x
      have WI : Hid (∀ W, Calls Tryz.prog 40 #[.int .u64 (accD v0 pre), .int .i64 (szD x), .int .i64 (dgD x)] W fun e w' => e = .returned (.int .u64 (accD v0 (pre ++ [x]))) ∧ Below W.heap.size W w') := by
        intro W
        rw [accD_step]
        exact wwith (accD v0 pre) (dgD x) hv' hd.1 hd.2 (x.1.val + 1) (by omega) (by omega) W
      obtain ⟨v', e'⟩ : ∃ v', accD v0 (pre ++ [x]) = v' := ⟨_, rfl⟩
      rw [e'] at WI
      replace e' : Hid _ := e'
      generalize accD v0 pre = v at *
      gi_wp2_with (refine ⟨trivial, ?_⟩; gi_at_call 40; refine (CallsIn.inRound l (callsIn_wide.2 (WI.out _))).mono ?_; rintro e w3 ⟨rfl, hb3⟩; have hc3 := keepCell hb3 hc; have hf3 := keepFrozen hb3 hc hf)
      have hlw : w2.heap.size < W.heap.size := World.block_lt_of_cell? _ _ hc
      exact ⟨(hb3.mono (by omega)).setCell (p := ⟨w2.heap.size, 0, none⟩) (by simp; omega) _, (High.of_below hb3).setCell (p := ⟨w2.heap.size, 0, none⟩) (by simp; omega) _, ⟨by rw [e'.out]; exact store_new hc3, by simp [hf3]⟩, (hb.trans (hb3.mono (by omega))).setCell (p := ⟨w2.heap.size, 0, none⟩) (by simp; omega) _⟩
    case done =>
      rintro D xs W hD rfl ⟨⟨hc, hf⟩, hb⟩ hK
      rw [hV] at hc
      gi_wp2
      refine ⟨by simp, .inl ⟨_, _, rfl, run_takeDeferred hK, ?_⟩⟩
      exact ⟨_, results_tmp2 rfl _ _ _, rfl, hb.trans (below_put W D _ (by have := hb.size; omega) (by omega))⟩
    case stop =>
      rintro D c pre W _ _ h _
      exact h.elim

/-- OF: the word of a cell that may be. -/
theorem iof_yes (r : Nat) (a b : Int) (h : Ok4 (r : Int) a b) (w : World) (hT : Tabs w) :
    Calls Tryz.prog 18 #[.agg #[.int .i64 (r : Int), .int .i64 a, .int .i64 b]] w fun e w' => e = .returned (.tuple #[.int .u64 (wordOf r a b), .int .i64 0]) ∧ Below w.heap.size w w' := by
  have hA := h.2.2.2.2.1
  have hB := h.2.2.2.2.2
  have hr : (0 : Int) ≤ (r : Int) ∧ (r : Int) ≤ 12 := ⟨h.1, h.2.1⟩
  rw [show ((r : Int)).toNat = r by omega] at hA hB
  have BA := cbase_yes (r : Int) a b h
  rw [show ((r : Int)).toNat = r by omega] at BA
  exact iof_core r a b _ _ _ _ h (blank_box hr hA hB) (accD_all r a b (by omega)) BA (wblank r _ _ hr hA hB) w hT
set_option maxHeartbeats 1000000 in
theorem iof_bad (r a b : Int) (h : ¬ Ok4 r a b) (w : World) (hT : Tabs w) :
    Calls Tryz.prog 18 #[.agg #[.int .i64 r, .int .i64 a, .int .i64 b]] w fun e w' => e = .returned (.tuple #[.int .u64 0, .int .i64 2]) ∧ Below w.heap.size w w' := by
  have UP : Hid (∀ w, Tabs w → Calls Tryz.prog 37 #[.agg #[.int .i64 r, .int .i64 a, .int .i64 b]] w fun e w' => e = .returned (.tuple #[.agg #[.int .i64 0, .int .i64 0, .int .i64 0], .int .i64 2]) ∧ Below w.heap.size w w') := cbase_core r a b 0 0 0 2 (cupto_bad r a b 0 h)
  have hT0 : Hid (Tabs w) := hT
  clear hT h
  go_enter Tryz.func18, Tryz.ntmps18
  go_wp2_with fail
  refine (UP.out _ ?_).mono ?_
  · exact hT0.out.below (by go_grown)
  rintro e w1 ⟨rfl, d1⟩
  have c1 : Below w.heap.size w w1 := Below.trans (by go_grown) (d1.mono (by simp; try omega))
  have hB := c1
  clear c1 d1
  go_wp2
  go_ret2
  exact ⟨rfl, by first | exact hB | exact belowT hB (by go_grown)⟩
end Go.Proofs.YtlipbdiijjfheaaGreatDoor
