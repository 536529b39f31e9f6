/-
  What Ring, Neighbours and Disk of package near tell: the words of the places of a ring or of a disk whose cells may be, rising, in a row of new memory; what is refused; for any word, any number, in whatever memory where both tables hold what their texts lay.
-/
import Derived.Test.YteipijgkiobmaabGreatDoorNRing
import Derived.Test.YteipijgkiobmaabGreatDoorSPdq
namespace Go.Proofs.YteipijgkiobmaabGreatDoor
open Go.RowKit

/-- A row as a call tells it: its words, in a block from C on. -/
def RowAt (C : Nat) (w : World) (s : Value) (L : List Int) : Prop := (L = [] ∧ s = .slice none 0 0) ∨ ∃ g cap, s = .slice (some ⟨g, 0, none⟩) L.length cap ∧ C ≤ g ∧ ∀ (j : Nat) (hj : j < L.length), w.cell? ⟨g, j, none⟩ = some (.int .u64 L[j])
theorem RowAt.keep {C : Nat} {w w' : World} {s : Value} {L : List Int} (h : RowAt C w s L) (hb : Below w.heap.size w w') : RowAt C w' s L := by
  rcases h with h | ⟨g, cap, h1, h2, h3⟩
  · exact Or.inl h
  · exact Or.inr ⟨g, cap, h1, h2, fun j hj => keepCell hb (h3 j hj)⟩
theorem RowAt.mono {C D : Nat} {w : World} {s : Value} {L : List Int} (h : RowAt C w s L) (hD : D ≤ C) : RowAt D w s L := by
  rcases h with h | ⟨g, cap, h1, h2, h3⟩
  · exact Or.inl h
  · exact Or.inr ⟨g, cap, h1, by omega, h3⟩
theorem at6_new (w : World) (r a b : Int) (T1 T2 : TypeId) : At6 (w.heap.size + 1) r a b [] ((w.alloc (.cells #[.int .i64 r, .int .i64 a, .int .i64 b] T1)).alloc (.cells #[.int .i64 r, .int .i64 a, .int .i64 b, .slice none 0 0] T2)) :=
  ⟨.slice none 0 0, ⟨by go_simp, by go_simp, by go_simp, by go_simp, by go_simp, by go_simp, by go_simp, by go_simp⟩, own_nil⟩
/-- The ending that tells a row of words, and no error. -/
def RowSay (C : Nat) (L : List Int) (e : Ending) (w : World) : Prop := ∃ s, e = .returned (.tuple #[s, .int .i64 0]) ∧ RowAt C w s L

theorem sorts_list {n : Nat} {L : List Int} {d' : Array Int} (hL : L.length = n) (h : Sorts 0 n L.toArray d') : d'.toList.Perm L ∧ d'.toList.Pairwise (· ≤ ·) ∧ d'.size = n := by
  have hs : d'.size = n := by rw [h.1.1]; simpa using hL
  have hp := h.1.2.2
  have e1 : (d'.extract 0 n).toList = d'.toList := by simp [← hs]
  have e2 : (L.toArray.extract 0 n).toList = L := by simp [← hL]
  rw [e1, e2] at hp
  refine ⟨hp, List.pairwise_iff_getElem.2 fun i j hi hj hij => ?_, hs⟩
  have := sorted_le h.2 (i := i) (j := j) (Nat.zero_le _) hij (by simpa [hs] using hj)
  simpa [show i < d'.size by simpa using hi, show j < d'.size by simpa using hj] using this
theorem rows_of {r : Nat} {a b : Int} {P : List (Int × Int)} {L : List Int} (hP : P.Nodup) (hp : L.Perm (wordsAt r a b P)) (hs : L.Pairwise (· ≤ ·)) : Rows r a b P L :=
  ⟨hp, rising_of_le hs ((hp.nodup_iff).2 (wordsAt_nodup a b hP))⟩

set_option maxHeartbeats 2000000 in
/-- A row of no words is sorted. -/
theorem u_sort_nil (w : World) : Calls Tryz.prog 21 #[.slice none 0 0] w fun e w' => e = .returned (.tuple #[]) ∧ Below w.heap.size w w' := by
  have L : Hid (∀ w, Calls Tryz.prog 38 #[.int .u64 0] w fun e w' => e = .returned (.int .i64 0) ∧ w' = w) := fun w => by
    have := bits_len 0 w (by omega) (by omega)
    rw [show (Lib.bitLen ((0 : Int)).toNat : Int) = 0 by decide] at this
    exact this
  have IN : Hid (∀ w, Calls Tryz.prog 60 #[.slice none 0 0, .int .i64 0, .int .i64 0] w fun e w' => e = .returned (.tuple #[]) ∧ w' = w) := by
    refine hid_mk fun w => ?_
    go_enter Tryz.func60, Tryz.ntmps60
    go_wp2_with fail
    go_loopw [6] (fun v6 wr => v6 = .int .i64 1 ∧ wr = w) (fun _ _ => 0)
    case atStart => exact ⟨rfl, rfl⟩
    case round =>
      obtain ⟨rfl, rfl⟩ := hrel
      go_wp2
      go_end0
      exact ⟨rfl, rfl⟩
  have PD : Hid (∀ w, Calls Tryz.prog 37 #[.slice none 0 0, .int .i64 0, .int .i64 0, .int .i64 0] w fun e w' => e = .returned (.tuple #[]) ∧ w' = w) := by
    refine hid_mk fun w => ?_
    go_enter Tryz.func37, Tryz.ntmps37
    go_wp2_with fail
    go_loopw [1, 2, 3, 8, 9] (fun v1 v2 v3 v8 v9 wr => v1 = .int .i64 0 ∧ v2 = .int .i64 0 ∧ v3 = .int .i64 0 ∧ v8 = .bool true ∧ v9 = .bool true ∧ wr = w) (fun _ _ _ _ _ _ => 0)
    case atStart => exact ⟨rfl, rfl, rfl, rfl, rfl, rfl⟩
    case round =>
      obtain ⟨rfl, rfl, rfl, rfl, rfl, rfl⟩ := hrel
      go_wp2_with fail
      refine (IN.out _).mono ?_
      rintro e w1 ⟨rfl, rfl⟩
      go_wp2_with fail
      (try simp only [Exit.inBlock, Exit.then]); refine bodyPost_ret (results_none rfl _ _ _) rfl ?_
      exact ⟨rfl, rfl⟩
  go_enter Tryz.func21, Tryz.ntmps21
  go_wp2_with (first | (go_at_call 38; refine (L.out _).mono ?_; rintro e w' ⟨rfl, rfl⟩))
  refine (PD.out _).mono ?_
  rintro e w1 ⟨rfl, rfl⟩
  go_wp2_with fail
  go_end0
  exact ⟨rfl, Below.refl _ _⟩

/-- The walker's row is sorted; the walker stands. -/
theorem nsort (B : Nat) (r x y : Int) (L : List Int) (hL : L.length ≤ 40000) (w : World) (h : At6 B r x y L w) : ∃ s, w.cell? ⟨B, 3, none⟩ = some s ∧
    Calls Tryz.prog 21 #[s] w fun e w' => e = .returned (.tuple #[]) ∧ (∃ M : List Int, M.Perm L ∧ M.Pairwise (· ≤ ·) ∧ RowAt (B + 1) w' s M) ∧ w'.cell? ⟨B, 3, none⟩ = some s ∧ Below (B + 1) w w' := by
  obtain ⟨v, hT, hO⟩ := h
  refine ⟨v, hT.2.2.2.1, ?_⟩
  have hlt := hT.lt
  have hv : (v = .slice none 0 0 ∧ L.length = 0) ∨ ∃ g cap, v = .slice (some ⟨g, 0, none⟩) L.length cap := by
    rcases hO.2 with h | ⟨g, cap, cur, hv, _⟩
    · exact Or.inl h
    · exact Or.inr ⟨g, cap, hv⟩
  rcases hv with ⟨rfl, h0⟩ | ⟨g, cap, rfl⟩
  · have hL0 : L = [] := List.length_eq_zero_iff.1 h0
    subst hL0
    refine (u_sort_nil w).mono ?_
    rintro e w' ⟨rfl, hb⟩
    exact ⟨rfl, ⟨[], List.Perm.refl _, List.Pairwise.nil, Or.inl ⟨rfl, rfl⟩⟩, keepCell hb hT.2.2.2.1, hb.mono (by omega)⟩
  · have hc := own_cells hO
    refine (u_sort g 0 cap L.length L.toArray (by simp) w (own_holds hO) hc.2.2.2 (by omega)).mono ?_
    rintro e w' ⟨rfl, d', hS, hR⟩
    have hl := sorts_list rfl hS
    have hb : Below (B + 1) w w' := hR.2.2.mono hc.2.2.1
    have el : d'.toList.length = L.length := by rw [Array.length_toList]; exact hl.2.2
    refine ⟨rfl, ⟨d'.toList, hl.1, hl.2.1, Or.inr ⟨g, cap, by rw [el], hc.2.2.1, fun j hj => ?_⟩⟩, (hb.cell (Nat.lt_succ_self B)).trans hT.2.2.2.1, hb⟩
    have hj' : j < d'.size := by simpa using hj
    have := (hR.2.1 j hj').1
    rw [Nat.zero_add] at this
    rw [this]
    simp [hj']

set_option maxHeartbeats 4000000 in
set_option maxRecDepth 20000 in
/-- RING: the words of a ring about a word's cell. -/
theorem nring_yes (v : Int) (k : Nat) (hw : Whole v) (hk : k ≤ 3333) (w : World) (hT : Tabs w) :
    Calls Tryz.prog 13 #[.int .u64 v, .int .i64 (k : Int)] w fun e w' => (∃ L, RowSay w.heap.size L e w' ∧ Rows (wR v).toNat (cellA v) (cellB v) (rngP k) L) ∧ Below w.heap.size w w' := by
  have MI := hidd (nmiddle_yes v k 3333 hw (by omega) (by omega))
  have hO := cell_ok hw
  have hpt := ok4_part hO
  have hr := wR_box v
  have hT0 : Hid (Tabs w) := hT
  obtain ⟨r, er⟩ : ∃ r : Nat, wR v = r := ⟨(wR v).toNat, by omega⟩
  rw [er] at MI ⊢
  rw [show ((r : Int)).toNat = r by omega]
  generalize cellA v = a at *
  generalize cellB v = b at *
  clear hO hT hw hr er
  have RE : Hid (∀ (B : Nat) (w : World), At6 B (r : Int) a b [] w → Tabs w → 1 < B → 0 < B → Calls Tryz.prog 24 #[.int .i64 (k : Int), .int .i64 4, .func (.func 20) #[.pointer (some ⟨B, 0, none⟩)] #[]] w fun e w' => e = .returned (.tuple #[]) ∧ At6 B (r : Int) a (b - k) [] w' ∧ Below B w w') := by
    refine hidd fun B w hA hT g0 g1 => ?_
    have := nsteps B 4 k (r : Int) a b [] (by omega) (by omega) (by omega) (by omega) w hA hT g0 g1
    rw [show a + (k : Int) * uA 4 = a by show a + (k : Int) * 0 = a; omega, show b + (k : Int) * uB 4 = b - k by show b + (k : Int) * (-1) = b - k; omega] at this
    exact this
  have RO : Hid (∀ (B : Nat) (w : World), At6 B (r : Int) a (b - k) [] w → Tabs w → 1 < B → 0 < B → Calls Tryz.prog 19 #[.pointer (some ⟨B, 0, none⟩), .int .i64 (k : Int)] w fun e w' => e = .returned (.tuple #[]) ∧ At6 B (r : Int) a (b - k) (wordsAt r a b (rngP k)) w' ∧ Below B w w') :=
    hidd fun B w hA hT g0 g1 => nround B r k a b [] hk (by omega) (by omega) (by simp; omega) w hA hT g0 g1
  have hlen : (wordsAt r a b (rngP k)).length ≤ 40000 := by have := wordsAt_len r a b (rngP k); rw [rngP_len] at this; omega
  have SO : Hid (∀ (B : Nat) (w : World), At6 B (r : Int) a (b - k) (wordsAt r a b (rngP k)) w → _) := hidd fun B w hA => nsort B (r : Int) a (b - k) _ hlen w hA
  have ND : Hid ((rngP k).Nodup) := rngP_nodup k
  clear hlen hpt
  go_enter Tryz.func13, Tryz.ntmps13
  go_wp2_with fail
  refine (MI.out _ hT0.out).mono ?_
  rintro e w1 ⟨rfl, d1⟩
  have c1 : Below w.heap.size w w1 := Below.trans (by go_grown) (d1.mono (by simp; try omega))
  have hB := c1
  clear c1 d1
  have hT1 := hT0.out.below hB
  have A2 := hidd (at6_new w1 r a b 37 52)
  have T2 : Hid (Tabs ((w1.alloc (.cells #[.int .i64 r, .int .i64 a, .int .i64 b] 37)).alloc (.cells #[.int .i64 r, .int .i64 a, .int .i64 b, .slice none 0 0] 52))) := hT1.below (belowT (allocB _ _) (allocB _ _))
  have B2 : Below w.heap.size w ((w1.alloc (.cells #[.int .i64 r, .int .i64 a, .int .i64 b] 37)).alloc (.cells #[.int .i64 r, .int .i64 a, .int .i64 b, .slice none 0 0] 52)) := belowT hB (belowT (allocB _ _) (allocB _ _))
  have g0 : 1 < w1.heap.size + 1 := Nat.lt_succ_of_lt hT1.lt.1
  have g1 : 0 < w1.heap.size + 1 := Nat.lt_succ_of_lt hT1.lt.2
  have hwB : w.heap.size ≤ w1.heap.size + 1 := by have := hB.size; omega
  go_wp2_with fail
  generalize (w1.alloc (.cells #[.int .i64 r, .int .i64 a, .int .i64 b] 37)).alloc (.cells #[.int .i64 r, .int .i64 a, .int .i64 b, .slice none 0 0] 52) = w2 at A2 T2 B2 ⊢
  generalize w1.heap.size + 1 = B at A2 g0 g1 hwB ⊢
  clear hT1 MI hT0 hB
  refine (RE.out B w2 A2.out T2.out g0 g1).mono ?_
  rintro e w3 ⟨rfl, a3, b3⟩
  have A3 := hidd a3
  have T3 := hidd (T2.out.low g0 g1 b3)
  have B3 := B2.trans (b3.mono hwB)
  clear a3 b3 RE A2 T2 B2
  go_wp2_with fail
  refine (RO.out B w3 A3.out T3.out g0 g1).mono ?_
  rintro e w4 ⟨rfl, a4, b4⟩
  have B4 := B3.trans (b4.mono hwB)
  obtain ⟨s, c4, SC⟩ := SO.out B w4 a4
  replace SC := hidd SC
  clear a4 b4 RO SO A3 T3 B3 g0 g1
  go_wp2_with fail
  refine SC.out.mono ?_
  rintro e w5 ⟨rfl, ⟨M, m1, m2, m3⟩, c5, b5⟩
  have HR := hidd (rows_of ND.out m1 m2)
  have B5 := B4.trans (b5.mono (by omega))
  have M3 := hidd (m3.mono (show w.heap.size ≤ B + 1 by omega))
  clear m1 m2 m3 b5 SC c4 B4
  go_wp2
  go_ret2
  exact ⟨⟨M, ⟨s, rfl, M3.out⟩, HR.out⟩, B5⟩

set_option maxHeartbeats 2000000 in
theorem nring_no (v k t : Int) (hv : U64 v) (ht : (¬ Whole v ∧ t = 5) ∨ (Whole v ∧ k < 0 ∧ t = 1) ∨ (Whole v ∧ 0 ≤ k ∧ 3333 < k ∧ t = 7)) (w : World) (hT : Tabs w) :
    Calls Tryz.prog 13 #[.int .u64 v, .int .i64 k] w fun e w' => e = .returned (.tuple #[.slice none 0 0, .int .i64 t]) ∧ Below w.heap.size w w' := by
  have MI := hidd (nmiddle_no v k 3333 t hv ht)
  have hT0 : Hid (Tabs w) := hT
  have t0 : (t == 0) = false := by simp; omega
  clear ht hT hv
  go_enter Tryz.func13, Tryz.ntmps13
  go_wp2_with fail
  refine (MI.out _ hT0.out).mono ?_
  rintro e w1 ⟨rfl, d1⟩
  have c1 : Below w.heap.size w w1 := Below.trans (by go_grown) (d1.mono (by simp; try omega))
  have hB := c1
  clear c1 d1
  go_wp2
  go_ret2
  exact ⟨rfl, by first | exact hB | exact belowT hB (by go_grown)⟩

set_option maxHeartbeats 2000000 in
theorem ndisk_no (v k t : Int) (hv : U64 v) (ht : (¬ Whole v ∧ t = 5) ∨ (Whole v ∧ k < 0 ∧ t = 1) ∨ (Whole v ∧ 0 ≤ k ∧ 81 < k ∧ t = 7)) (w : World) (hT : Tabs w) :
    Calls Tryz.prog 11 #[.int .u64 v, .int .i64 k] w fun e w' => e = .returned (.tuple #[.slice none 0 0, .int .i64 t]) ∧ Below w.heap.size w w' := by
  have MI := hidd (nmiddle_no v k 81 t hv ht)
  have hT0 : Hid (Tabs w) := hT
  have t0 : (t == 0) = false := by simp; omega
  clear ht hT hv
  go_enter Tryz.func11, Tryz.ntmps11
  go_wp2_with fail
  refine (MI.out _ hT0.out).mono ?_
  rintro e w1 ⟨rfl, d1⟩
  have c1 : Below w.heap.size w w1 := Below.trans (by go_grown) (d1.mono (by simp; try omega))
  have hB := c1
  clear c1 d1
  go_wp2
  go_ret2
  exact ⟨rfl, by first | exact hB | exact belowT hB (by go_grown)⟩

set_option maxHeartbeats 2000000 in
/-- NEIGHBOURS: a ring of one. -/
theorem nneigh_yes (v : Int) (hw : Whole v) (w : World) (hT : Tabs w) :
    Calls Tryz.prog 8 #[.int .u64 v] w fun e w' => (∃ L, RowSay w.heap.size L e w' ∧ Rows (wR v).toNat (cellA v) (cellB v) (rngP 1) L) ∧ Below w.heap.size w w' := by
  have RI := hidd (nring_yes v 1 hw (by omega) w hT)
  go_enter Tryz.func8, Tryz.ntmps8
  go_wp2_with fail
  refine RI.out.mono ?_
  rintro e w1 ⟨⟨L, ⟨s, rfl, hr⟩, hR⟩, hB⟩
  have HR := hidd hR
  have Hr := hidd hr
  clear hR hr RI
  go_wp2
  go_ret2
  exact ⟨⟨L, ⟨s, rfl, Hr.out⟩, HR.out⟩, hB⟩
set_option maxHeartbeats 2000000 in
theorem nneigh_no (v : Int) (hv : U64 v) (hw : ¬ Whole v) (w : World) (hT : Tabs w) :
    Calls Tryz.prog 8 #[.int .u64 v] w fun e w' => e = .returned (.tuple #[.slice none 0 0, .int .i64 5]) ∧ Below w.heap.size w w' := by
  have RI := hidd (nring_no v 1 5 hv (.inl ⟨hw, rfl⟩) w hT)
  go_enter Tryz.func8, Tryz.ntmps8
  go_wp2_with fail
  refine RI.out.mono ?_
  rintro e w1 ⟨rfl, hB⟩
  go_wp2
  go_ret2
  exact ⟨rfl, hB⟩

theorem diskP_box {j : Nat} (hj : j ≤ 82) : (diskP j).length ≤ 20000 := by
  cases j with
  | zero => exact Nat.zero_le _
  | succ j =>
    rw [diskP_len]
    have h1 : 3 * j * (j + 1) ≤ 243 * 82 := Nat.mul_le_mul (by omega) (by omega)
    omega

set_option maxHeartbeats 4000000 in
set_option maxRecDepth 20000 in
/-- DISK: the words of a disk about a word's cell. -/
theorem ndisk_yes (v : Int) (k : Nat) (hw : Whole v) (hk : k ≤ 81) (w : World) (hT : Tabs w) :
    Calls Tryz.prog 11 #[.int .u64 v, .int .i64 (k : Int)] w fun e w' => (∃ L, RowSay w.heap.size L e w' ∧ Rows (wR v).toNat (cellA v) (cellB v) (diskP (k + 1)) L) ∧ Below w.heap.size w w' := by
  have MI := hidd (nmiddle_yes v k 81 hw (by omega) (by omega))
  have hO := cell_ok hw
  have hpt := ok4_part hO
  have hr := wR_box v
  have hT0 : Hid (Tabs w) := hT
  obtain ⟨r, er⟩ : ∃ r : Nat, wR v = r := ⟨(wR v).toNat, by omega⟩
  rw [er] at MI ⊢
  rw [show ((r : Int)).toNat = r by omega]
  generalize cellA v = a at *
  generalize cellB v = b at *
  clear hO hT hw hr er
  have RO : Hid (∀ (j B : Nat) (w : World), j ≤ k → At6 B (r : Int) a (b - j) (wordsAt r a b (diskP j)) w → Tabs w → 1 < B → 0 < B → Calls Tryz.prog 19 #[.pointer (some ⟨B, 0, none⟩), .int .i64 (j : Int)] w fun e w' => e = .returned (.tuple #[]) ∧ At6 B (r : Int) a (b - j) (wordsAt r a b (diskP (j + 1))) w' ∧ Below B w w') :=
    hidd fun j B w hj hA hT g0 g1 => by
      have hl := wordsAt_len r a b (diskP j)
      have hd := diskP_box (j := j) (by omega)
      rw [diskP_step, wordsAt_append]
      exact nround B r j a b _ (by omega) (by omega) (by omega) (by omega) w hA hT g0 g1
  have ST : Hid (∀ (j B : Nat) (w : World), j ≤ k → At6 B (r : Int) a (b - j) (wordsAt r a b (diskP (j + 1))) w → Tabs w → Calls Tryz.prog 20 #[.pointer (some ⟨B, 0, none⟩), .int .i64 4] w fun e w' => e = .returned (.tuple #[]) ∧ At6 B (r : Int) a (b - ((j + 1 : Nat) : Int)) (wordsAt r a b (diskP (j + 1))) w' ∧ Below B w w') :=
    hidd fun j B w hj hA hT => by
      have := nstep B 4 (r : Int) a (b - j) _ (by omega) ⟨by omega, by omega⟩ ⟨by omega, by omega⟩ w hA hT.2
      rw [show a + uA 4 = a from Int.add_zero a, show b - (j : Int) + uB 4 = b - ((j + 1 : Nat) : Int) by show b - (j : Int) + -1 = _; omega] at this
      exact this
  have hlen : (wordsAt r a b (diskP (k + 1))).length ≤ 40000 := by have := wordsAt_len r a b (diskP (k + 1)); have := diskP_box (j := k + 1) (by omega); omega
  have SO : Hid (∀ (B : Nat) (w : World), At6 B (r : Int) a (b - ((k + 1 : Nat) : Int)) (wordsAt r a b (diskP (k + 1))) w → _) := hidd fun B w hA => nsort B (r : Int) a (b - ((k + 1 : Nat) : Int)) _ hlen w hA
  have ND : Hid ((diskP (k + 1)).Nodup) := diskP_nodup (k + 1)
  clear hlen hpt
  go_enter Tryz.func11, Tryz.ntmps11
  go_wp2_with fail
  refine (MI.out _ hT0.out).mono ?_
  rintro e w1 ⟨rfl, d1⟩
  have c1 : Below w.heap.size w w1 := Below.trans (by go_grown) (d1.mono (by simp; try omega))
  have hB := c1
  clear c1 d1
  have hT1 := hT0.out.below hB
  have A2 : Hid (At6 (w1.heap.size + 1) (r : Int) a (b - ((0 : Nat) : Int)) (wordsAt r a b (diskP 0)) ((w1.alloc (.cells #[.int .i64 r, .int .i64 a, .int .i64 b] 37)).alloc (.cells #[.int .i64 r, .int .i64 a, .int .i64 b, .slice none 0 0] 52))) := hidd (by
    rw [show b - ((0 : Nat) : Int) = b from Int.sub_zero b]; exact at6_new w1 r a b _ _)
  have T2 : Hid (Tabs ((w1.alloc (.cells #[.int .i64 r, .int .i64 a, .int .i64 b] 37)).alloc (.cells #[.int .i64 r, .int .i64 a, .int .i64 b, .slice none 0 0] 52))) := hT1.below (belowT (allocB _ _) (allocB _ _))
  have B2 : Below w.heap.size w ((w1.alloc (.cells #[.int .i64 r, .int .i64 a, .int .i64 b] 37)).alloc (.cells #[.int .i64 r, .int .i64 a, .int .i64 b, .slice none 0 0] 52)) := belowT hB (belowT (allocB _ _) (allocB _ _))
  have g0 : 1 < w1.heap.size + 1 := Nat.lt_succ_of_lt hT1.lt.1
  have g1 : 0 < w1.heap.size + 1 := Nat.lt_succ_of_lt hT1.lt.2
  have hwB : w.heap.size ≤ w1.heap.size + 1 := by have := hB.size; omega
  go_wp2_with fail
  generalize (w1.alloc (.cells #[.int .i64 r, .int .i64 a, .int .i64 b] 37)).alloc (.cells #[.int .i64 r, .int .i64 a, .int .i64 b, .slice none 0 0] 52) = w2 at A2 T2 B2 ⊢
  generalize w1.heap.size + 1 = B at A2 g0 g1 hwB ⊢
  clear hT1 MI hT0 hB
  go_loopw [23] (fun v23 wr => ∃ j : Nat, j ≤ k + 1 ∧ v23 = .int .i64 (j : Int) ∧ Hid (At6 B (r : Int) a (b - (j : Int)) (wordsAt r a b (diskP j)) wr) ∧ Hid (Tabs wr) ∧ Below w.heap.size w wr) (fun v23 _ => k + 1 - (intOf v23).toNat)
  case atStart => exact ⟨0, by omega, rfl, A2, T2, B2⟩
  case round =>
    clear A2 T2 B2
    obtain ⟨j, hj, rfl, hA, hT, hB⟩ := hrel
    by_cases hlt : j < k + 1
    · go_wp2_with fail
      refine (RO.out j B wr (by omega) hA.out hT.out g0 g1).mono ?_
      rintro e w3 ⟨rfl, a3, b3⟩
      have T3 := hidd (hT.out.low g0 g1 b3)
      have B3 := hB.trans (b3.mono hwB)
      have A3 := hidd a3
      clear a3 b3 hA hT hB
      go_wp2_with fail
      refine (ST.out j B w3 (by omega) A3.out T3.out).mono ?_
      rintro e w4 ⟨rfl, a4, b4⟩
      have T4 := hidd (T3.out.low g0 g1 b4)
      have B4 := B3.trans (b4.mono hwB)
      have A4 := hidd a4
      clear a4 b4 A3 T3 B3
      go_wp2_with fail
      go_roundw
      case rel => exact ⟨j + 1, by omega, by go_num, A4, T4, B4⟩
      case measure => simp [intOf]; omega
    · obtain rfl : j = k + 1 := by omega
      obtain ⟨s, c4, SC⟩ := SO.out B wr hA.out
      replace SC := hidd SC
      have hltz : decide (((k + 1 : Nat) : Int) < (k : Int) + 1) = false := df (by omega)
      clear RO ST SO hA hT g0 g1
      go_wp2_with fail
      refine SC.out.mono ?_
      rintro e w5 ⟨rfl, ⟨M, m1, m2, m3⟩, c5, b5⟩
      have HR := hidd (rows_of ND.out m1 m2)
      have B5 := hB.trans (b5.mono (by omega))
      have M3 := hidd (m3.mono (show w.heap.size ≤ B + 1 by omega))
      clear m1 m2 m3 b5 SC c4 hB
      go_wp2
      go_ret2
      exact ⟨⟨M, ⟨s, rfl, M3.out⟩, HR.out⟩, B5⟩
end Go.Proofs.YteipijgkiobmaabGreatDoor
