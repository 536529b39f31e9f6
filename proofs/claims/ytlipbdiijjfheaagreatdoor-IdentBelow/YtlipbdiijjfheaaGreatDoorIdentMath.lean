/-
  Plain facts on cells' words: a word's parts and digits, the word of a cell, the cell of a word, that they are one to one, how words are raised, how they rise; for any numbers, within the bounds written.
-/
import Derived.Test.YtlipbdiijjfheaaGreatDoorCellMath
namespace Go.Proofs.YtlipbdiijjfheaaGreatDoor
open Go.RowKit

/-- A word's digit of a size, its head: all ahead of the digits. -/
def dg (w : Int) (r : Nat) : Int := w / 8 ^ (12 - r) % 8
def wR (w : Int) : Int := w / 72057594037927936 % 16
def wA (w : Int) : Int := w / 70368744177664 % 1024 - 512
def wB (w : Int) : Int := w / 68719476736 % 1024 - 512
/-- A word out of its parts. -/
def lowD (d : Nat → Int) : Int := d 1 * 8589934592 + d 2 * 1073741824 + d 3 * 134217728 + d 4 * 16777216 + d 5 * 2097152 + d 6 * 262144 + d 7 * 32768 + d 8 * 4096 + d 9 * 512 + d 10 * 64 + d 11 * 8 + d 12
def headD (R A B : Int) : Int := 1152921504606846976 + R * 72057594037927936 + (A + 512) * 70368744177664 + (B + 512) * 68719476736
def wd (R A B : Int) (d : Nat → Int) : Int := headD R A B + lowD d

theorem twelve {j : Nat} (h1 : 1 ≤ j) (h2 : j ≤ 12) : j = 1 ∨ j = 2 ∨ j = 3 ∨ j = 4 ∨ j = 5 ∨ j = 6 ∨ j = 7 ∨ j = 8 ∨ j = 9 ∨ j = 10 ∨ j = 11 ∨ j = 12 := by omega
theorem dg_at (w : Int) : dg w 1 = w / 8589934592 % 8 ∧ dg w 2 = w / 1073741824 % 8 ∧ dg w 3 = w / 134217728 % 8 ∧ dg w 4 = w / 16777216 % 8 ∧ dg w 5 = w / 2097152 % 8 ∧ dg w 6 = w / 262144 % 8 ∧ dg w 7 = w / 32768 % 8 ∧ dg w 8 = w / 4096 % 8 ∧ dg w 9 = w / 512 % 8 ∧ dg w 10 = w / 64 % 8 ∧ dg w 11 = w / 8 % 8 ∧ dg w 12 = w % 8 := by
  refine ⟨rfl, rfl, rfl, rfl, rfl, rfl, rfl, rfl, rfl, rfl, rfl, ?_⟩
  show w / 1 % 8 = w % 8
  rw [Int.ediv_one]
theorem dg_box (w : Int) (j : Nat) : 0 ≤ dg w j ∧ dg w j ≤ 7 := by unfold dg; omega
theorem lowD_box {d : Nat → Int} (hd : ∀ j, 1 ≤ j → j ≤ 12 → 0 ≤ d j ∧ d j ≤ 7) : 0 ≤ lowD d ∧ lowD d < 68719476736 := by
  have h1 := hd 1 (by omega) (by omega)
  have h2 := hd 2 (by omega) (by omega)
  have h3 := hd 3 (by omega) (by omega)
  have h4 := hd 4 (by omega) (by omega)
  have h5 := hd 5 (by omega) (by omega)
  have h6 := hd 6 (by omega) (by omega)
  have h7 := hd 7 (by omega) (by omega)
  have h8 := hd 8 (by omega) (by omega)
  have h9 := hd 9 (by omega) (by omega)
  have h10 := hd 10 (by omega) (by omega)
  have h11 := hd 11 (by omega) (by omega)
  have h12 := hd 12 (by omega) (by omega)
  unfold lowD
  omega
/-- The digits of a word out of digits. -/
theorem dg_wd {R A B : Int} {d : Nat → Int} (hd : ∀ j, 1 ≤ j → j ≤ 12 → 0 ≤ d j ∧ d j ≤ 7) {j : Nat} (j1 : 1 ≤ j) (j2 : j ≤ 12) : dg (wd R A B d) j = d j := by
  have h1 := hd 1 (by omega) (by omega)
  have h2 := hd 2 (by omega) (by omega)
  have h3 := hd 3 (by omega) (by omega)
  have h4 := hd 4 (by omega) (by omega)
  have h5 := hd 5 (by omega) (by omega)
  have h6 := hd 6 (by omega) (by omega)
  have h7 := hd 7 (by omega) (by omega)
  have h8 := hd 8 (by omega) (by omega)
  have h9 := hd 9 (by omega) (by omega)
  have h10 := hd 10 (by omega) (by omega)
  have h11 := hd 11 (by omega) (by omega)
  have h12 := hd 12 (by omega) (by omega)
  have e := dg_at (wd R A B d)
  have hw : wd R A B d = (16777216 + R * 1048576 + (A + 512) * 1024 + (B + 512)) * 68719476736 + lowD d := by unfold wd headD; omega
  unfold lowD at hw
  generalize 16777216 + R * 1048576 + (A + 512) * 1024 + (B + 512) = H at hw
  rw [hw] at e ⊢
  rcases twelve j1 j2 with rfl | rfl | rfl | rfl | rfl | rfl | rfl | rfl | rfl | rfl | rfl | rfl
  · rw [e.1]; clear e; omega
  · rw [e.2.1]; clear e; omega
  · rw [e.2.2.1]; clear e; omega
  · rw [e.2.2.2.1]; clear e; omega
  · rw [e.2.2.2.2.1]; clear e; omega
  · rw [e.2.2.2.2.2.1]; clear e; omega
  · rw [e.2.2.2.2.2.2.1]; clear e; omega
  · rw [e.2.2.2.2.2.2.2.1]; clear e; omega
  · rw [e.2.2.2.2.2.2.2.2.1]; clear e; omega
  · rw [e.2.2.2.2.2.2.2.2.2.1]; clear e; omega
  · rw [e.2.2.2.2.2.2.2.2.2.2.1]; clear e; omega
  · rw [e.2.2.2.2.2.2.2.2.2.2.2]; clear e; omega
/-- The head of a word out of its parts. -/
theorem head_wd {R A B : Int} {d : Nat → Int} (hR : 0 ≤ R ∧ R ≤ 15) (hA : InBase A) (hB : InBase B) (hd : ∀ j, 1 ≤ j → j ≤ 12 → 0 ≤ d j ∧ d j ≤ 7) :
    wR (wd R A B d) = R ∧ wA (wd R A B d) = A ∧ wB (wd R A B d) = B ∧ wd R A B d / 1152921504606846976 = 1 ∧ 0 ≤ wd R A B d ∧ wd R A B d < 2305843009213693952 := by
  have hl := lowD_box hd
  unfold InBase at hA hB
  unfold wR wA wB wd headD
  omega
/-- Any word of the mark is made of its parts. -/
theorem wd_of {w : Int} (h : w / 1152921504606846976 = 1) : wd (wR w) (wA w) (wB w) (dg w) = w := by
  have e := dg_at w
  have s0 : w = w / 8 * 8 + w % 8 := by clear h e; omega
  have s1 : w / 8 = w / 64 * 8 + w / 8 % 8 := by clear h e; omega
  have s2 : w / 64 = w / 512 * 8 + w / 64 % 8 := by clear h e; omega
  have s3 : w / 512 = w / 4096 * 8 + w / 512 % 8 := by clear h e; omega
  have s4 : w / 4096 = w / 32768 * 8 + w / 4096 % 8 := by clear h e; omega
  have s5 : w / 32768 = w / 262144 * 8 + w / 32768 % 8 := by clear h e; omega
  have s6 : w / 262144 = w / 2097152 * 8 + w / 262144 % 8 := by clear h e; omega
  have s7 : w / 2097152 = w / 16777216 * 8 + w / 2097152 % 8 := by clear h e; omega
  have s8 : w / 16777216 = w / 134217728 * 8 + w / 16777216 % 8 := by clear h e; omega
  have s9 : w / 134217728 = w / 1073741824 * 8 + w / 134217728 % 8 := by clear h e; omega
  have s10 : w / 1073741824 = w / 8589934592 * 8 + w / 1073741824 % 8 := by clear h e; omega
  have s11 : w / 8589934592 = w / 68719476736 * 8 + w / 8589934592 % 8 := by clear h e; omega
  have t1 : w / 68719476736 = w / 70368744177664 * 1024 + w / 68719476736 % 1024 := by clear h e; omega
  have t2 : w / 70368744177664 = w / 72057594037927936 * 1024 + w / 70368744177664 % 1024 := by clear h e; omega
  have t3 : w / 72057594037927936 = w / 1152921504606846976 * 16 + w / 72057594037927936 % 16 := by clear h e; omega
  unfold wd headD lowD wR wA wB
  rw [e.1, e.2.1, e.2.2.1, e.2.2.2.1, e.2.2.2.2.1, e.2.2.2.2.2.1, e.2.2.2.2.2.2.1, e.2.2.2.2.2.2.2.1, e.2.2.2.2.2.2.2.2.1, e.2.2.2.2.2.2.2.2.2.1, e.2.2.2.2.2.2.2.2.2.2.1, e.2.2.2.2.2.2.2.2.2.2.2]
  clear e
  generalize w / 8 % 8 = m1 at *
  generalize w / 64 % 8 = m2 at *
  generalize w / 512 % 8 = m3 at *
  generalize w / 4096 % 8 = m4 at *
  generalize w / 32768 % 8 = m5 at *
  generalize w / 262144 % 8 = m6 at *
  generalize w / 2097152 % 8 = m7 at *
  generalize w / 16777216 % 8 = m8 at *
  generalize w / 134217728 % 8 = m9 at *
  generalize w / 1073741824 % 8 = m10 at *
  generalize w / 8589934592 % 8 = m11 at *
  generalize w % 8 = m0 at *
  generalize w / 68719476736 % 1024 = mB at *
  generalize w / 70368744177664 % 1024 = mA at *
  generalize w / 72057594037927936 % 16 = mR at *
  generalize w / 8 = q1 at *
  generalize w / 64 = q2 at *
  generalize w / 512 = q3 at *
  generalize w / 4096 = q4 at *
  generalize w / 32768 = q5 at *
  generalize w / 262144 = q6 at *
  generalize w / 2097152 = q7 at *
  generalize w / 16777216 = q8 at *
  generalize w / 134217728 = q9 at *
  generalize w / 1073741824 = q10 at *
  generalize w / 8589934592 = q11 at *
  generalize w / 68719476736 = q12 at *
  generalize w / 70368744177664 = q13 at *
  generalize w / 72057594037927936 = q14 at *
  generalize w / 1152921504606846976 = q15 at *
  omega
theorem wd_congr {R A B : Int} {d e : Nat → Int} (h : ∀ j, 1 ≤ j → j ≤ 12 → d j = e j) : wd R A B d = wd R A B e := by
  unfold wd lowD
  rw [h 1 (by omega) (by omega), h 2 (by omega) (by omega), h 3 (by omega) (by omega), h 4 (by omega) (by omega), h 5 (by omega) (by omega), h 6 (by omega) (by omega), h 7 (by omega) (by omega), h 8 (by omega) (by omega), h 9 (by omega) (by omega), h 10 (by omega) (by omega), h 11 (by omega) (by omega), h 12 (by omega) (by omega)]

/-- Another digit of a size. -/
def setD (w : Int) (j : Nat) (d : Int) : Int := w - dg w j * 8 ^ (12 - j) + d * 8 ^ (12 - j)
def putD (f : Nat → Int) (j : Nat) (d : Int) : Nat → Int := fun i => if i = j then d else f i
theorem putD_at (f : Nat → Int) (j : Nat) (d : Int) : putD f j d j = d := if_pos rfl
theorem putD_other (f : Nat → Int) {i j : Nat} (d : Int) (h : i ≠ j) : putD f j d i = f i := if_neg h
theorem lowD_put (f : Nat → Int) {j : Nat} (d : Int) (j1 : 1 ≤ j) (j2 : j ≤ 12) : lowD (putD f j d) = lowD f - f j * 8 ^ (12 - j) + d * 8 ^ (12 - j) := by
  unfold lowD
  rcases twelve j1 j2 with rfl | rfl | rfl | rfl | rfl | rfl | rfl | rfl | rfl | rfl | rfl | rfl <;> simp [putD] <;> omega
theorem setD_wd {R A B : Int} {f : Nat → Int} (hd : ∀ j, 1 ≤ j → j ≤ 12 → 0 ≤ f j ∧ f j ≤ 7) {j : Nat} (d : Int) (j1 : 1 ≤ j) (j2 : j ≤ 12) : setD (wd R A B f) j d = wd R A B (putD f j d) := by
  unfold setD
  rw [dg_wd hd j1 j2]
  unfold wd
  rw [lowD_put f d j1 j2]
  omega

/-- The digits of a cell's word, and the word. -/
def dgs (r : Nat) (a b : Int) (j : Nat) : Int := if j ≤ r then dig (ups (r - j) a b).1 (ups (r - j) a b).2 else 7
def wordOf (r : Nat) (a b : Int) : Int := wd r (ups r a b).1 (ups r a b).2 (dgs r a b)
theorem dgs_box (r : Nat) (a b : Int) (j : Nat) : 0 ≤ dgs r a b j ∧ dgs r a b j ≤ 7 := by
  unfold dgs
  split
  · have := dig_box (ups (r - j) a b).1 (ups (r - j) a b).2; omega
  · omega
theorem dgs_seven (r : Nat) (a b : Int) (j : Nat) : dgs r a b j = 7 ↔ r < j := by
  unfold dgs
  split
  · have := dig_box (ups (r - j) a b).1 (ups (r - j) a b).2; omega
  · omega
/-- Which words are some cell's. -/
def Whole (w : Int) : Prop := w / 1152921504606846976 = 1 ∧ wR w ≤ 12 ∧ ∀ j : Nat, 1 ≤ j → j ≤ 12 → (dg w j = 7 ↔ wR w < (j : Int))
/-- The number n sizes down, by digits. -/
def down (d : Nat → Int) : Nat → Int → Int → Int × Int
  | 0, A, B => (A, B)
  | n + 1, A, B => (chA (d (n + 1)) (down d n A B).1 (down d n A B).2, chB (d (n + 1)) (down d n A B).1 (down d n A B).2)
theorem down_zero (d : Nat → Int) (A B : Int) : down d 0 A B = (A, B) := rfl
theorem down_step (d : Nat → Int) (n : Nat) (A B : Int) : down d (n + 1) A B = (chA (d (n + 1)) (down d n A B).1 (down d n A B).2, chB (d (n + 1)) (down d n A B).1 (down d n A B).2) := rfl
theorem down_congr {d e : Nat → Int} (A B : Int) : ∀ (n : Nat), (∀ j, 1 ≤ j → j ≤ n → d j = e j) → down d n A B = down e n A B
  | 0, _ => rfl
  | n + 1, h => by rw [down_step, down_step, down_congr A B n fun j h1 h2 => h j h1 (by omega), h (n + 1) (by omega) (by omega)]
theorem down_up {d : Nat → Int} (A B : Int) : ∀ (n : Nat), (∀ j, 1 ≤ j → j ≤ n → 0 ≤ d j ∧ d j ≤ 6) → ∀ k, k ≤ n → ups k (down d n A B).1 (down d n A B).2 = down d (n - k) A B
  | 0, _, k, hk => by obtain rfl : k = 0 := by omega
                      rfl
  | n + 1, h, 0, _ => rfl
  | n + 1, h, k + 1, hk => by
    have hd := h (n + 1) (by omega) (by omega)
    rw [down_step]
    rw [ups_child k hd.1 hd.2, down_up A B n (fun j h1 h2 => h j h1 (by omega)) k (by omega), Nat.add_sub_add_right]
theorem down_dgs {d : Nat → Int} (A B : Int) {n : Nat} (h : ∀ j, 1 ≤ j → j ≤ n → 0 ≤ d j ∧ d j ≤ 6) {j : Nat} (j1 : 1 ≤ j) (j2 : j ≤ n) : dgs n (down d n A B).1 (down d n A B).2 j = d j := by
  unfold dgs
  rw [if_pos j2, down_up A B n h (n - j) (by omega), show n - (n - j) = j by omega]
  obtain ⟨k, rfl⟩ : ∃ k, j = k + 1 := ⟨j - 1, by omega⟩
  have hd := h (k + 1) j1 j2
  rw [down_step]
  exact (par_one hd.1 hd.2).1
theorem up_down (r : Nat) (a b : Int) : ∀ k, k ≤ r → down (dgs r a b) k (ups r a b).1 (ups r a b).2 = ups (r - k) a b
  | 0, _ => rfl
  | k + 1, hk => by
    rw [down_step, up_down r a b k (by omega)]
    have e : dgs r a b (k + 1) = dig (ups (r - (k + 1)) a b).1 (ups (r - (k + 1)) a b).2 := by unfold dgs; rw [if_pos hk]
    have h2 : ups (r - k) a b = (parA (ups (r - (k + 1)) a b).1 (ups (r - (k + 1)) a b).2, parB (ups (r - (k + 1)) a b).1 (ups (r - (k + 1)) a b).2) := by rw [← ups_last, show r - (k + 1) + 1 = r - k by omega]
    rw [e, h2]
    have := par_back (ups (r - (k + 1)) a b).1 (ups (r - (k + 1)) a b).2
    rw [this.1, this.2]
theorem up_down_all (r : Nat) (a b : Int) : down (dgs r a b) r (ups r a b).1 (ups r a b).2 = (a, b) := by rw [up_down r a b r (by omega), Nat.sub_self]; rfl

/-- What a cell's word is made of. -/
theorem word_parts {r : Nat} {a b : Int} (h : Ok4 (r : Int) a b) :
    Whole (wordOf r a b) ∧ wR (wordOf r a b) = r ∧ wA (wordOf r a b) = (ups r a b).1 ∧ wB (wordOf r a b) = (ups r a b).2 ∧ (∀ j, 1 ≤ j → j ≤ 12 → dg (wordOf r a b) j = dgs r a b j) ∧ 0 ≤ wordOf r a b ∧ wordOf r a b < 2305843009213693952 := by
  obtain ⟨h0, h12, -, -, hA, hB⟩ := h
  rw [show ((r : Int)).toNat = r by omega] at hA hB
  have hh := head_wd (R := (r : Int)) (d := dgs r a b) (by omega) hA hB (fun j _ _ => dgs_box r a b j)
  have hg : ∀ j, 1 ≤ j → j ≤ 12 → dg (wordOf r a b) j = dgs r a b j := fun j j1 j2 => dg_wd (fun j _ _ => dgs_box r a b j) j1 j2
  refine ⟨⟨hh.2.2.2.1, ?_, ?_⟩, hh.1, hh.2.1, hh.2.2.1, hg, hh.2.2.2.2⟩
  · show wR (wd _ _ _ _) ≤ 12; rw [hh.1]; exact h12
  · intro j j1 j2
    rw [hg j j1 j2, dgs_seven, show wR (wordOf r a b) = r from hh.1]
    omega
/-- The cell of a word: its number. -/
def cellA (w : Int) : Int := (down (dg w) (wR w).toNat (wA w) (wB w)).1
def cellB (w : Int) : Int := (down (dg w) (wR w).toNat (wA w) (wB w)).2
theorem wR_box (w : Int) : 0 ≤ wR w ∧ wR w ≤ 15 := by unfold wR; omega
theorem wAB_box (w : Int) : InBase (wA w) ∧ InBase (wB w) := by unfold wA wB InBase; omega
theorem whole_digs {w : Int} (h : Whole w) {j : Nat} (j1 : 1 ≤ j) (j2 : (j : Int) ≤ wR w) : 0 ≤ dg w j ∧ dg w j ≤ 6 := by
  have h1 := dg_box w j
  have h2 := h.2.2 j j1 (by have := h.2.1; omega)
  have h3 : ¬ dg w j = 7 := fun e => by have := h2.1 e; omega
  omega
theorem cell_ok {w : Int} (h : Whole w) : Ok4 (wR w) (cellA w) (cellB w) := by
  have hr := wR_box w
  have hb := wAB_box w
  have hd : ∀ j, 1 ≤ j → j ≤ (wR w).toNat → 0 ≤ dg w j ∧ dg w j ≤ 6 := fun j j1 j2 => whole_digs h j1 (by omega)
  have hu := down_up (wA w) (wB w) (wR w).toNat hd (wR w).toNat (Nat.le_refl _)
  rw [Nat.sub_self, down_zero] at hu
  have h12 := h.2.1
  have := ok4_of_base (r := (wR w).toNat) (a := cellA w) (b := cellB w) (by omega) (by unfold cellA cellB; rw [hu]; exact hb.1) (by unfold cellA cellB; rw [hu]; exact hb.2)
  rwa [show (((wR w).toNat : Nat) : Int) = wR w by omega] at this
/-- A word is its cell's. -/
theorem word_cell {w : Int} (h : Whole w) : wordOf (wR w).toNat (cellA w) (cellB w) = w := by
  have hr := wR_box w
  have hd : ∀ j, 1 ≤ j → j ≤ (wR w).toNat → 0 ≤ dg w j ∧ dg w j ≤ 6 := fun j j1 j2 => whole_digs h j1 (by omega)
  have hu := down_up (wA w) (wB w) (wR w).toNat hd (wR w).toNat (Nat.le_refl _)
  rw [Nat.sub_self, down_zero] at hu
  have e : ups (wR w).toNat (cellA w) (cellB w) = (wA w, wB w) := hu
  unfold wordOf
  rw [e, show (((wR w).toNat : Nat) : Int) = wR w by omega]
  show wd (wR w) (wA w) (wB w) _ = w
  rw [wd_congr (e := dg w), wd_of h.1]
  intro j j1 j2
  by_cases hj : (j : Int) ≤ wR w
  · exact down_dgs (wA w) (wB w) hd j1 (by omega)
  · rw [(dgs_seven _ _ _ _).2 (by omega), (h.2.2 j j1 j2).2 (by omega)]
/-- A cell is its word's. -/
theorem cell_word {r : Nat} {a b : Int} (h : Ok4 (r : Int) a b) : cellA (wordOf r a b) = a ∧ cellB (wordOf r a b) = b := by
  have hp := word_parts h
  have e : down (dg (wordOf r a b)) (wR (wordOf r a b)).toNat (wA (wordOf r a b)) (wB (wordOf r a b)) = (a, b) := by
    rw [hp.2.1, hp.2.2.1, hp.2.2.2.1, show ((r : Int)).toNat = r by omega, ← up_down_all r a b]
    have h12 := h.2.1
    rw [down_congr _ _ r fun j j1 j2 => hp.2.2.2.2.1 j j1 (by omega)]

  unfold cellA cellB
  rw [e]
  exact ⟨rfl, rfl⟩
theorem word_inj {r s : Nat} {a b c d : Int} (h : Ok4 (r : Int) a b) (k : Ok4 (s : Int) c d) (e : wordOf r a b = wordOf s c d) : r = s ∧ a = c ∧ b = d := by
  have h1 := (word_parts h).2.1
  have h2 := (word_parts k).2.1
  have h3 := cell_word h
  have h4 := cell_word k
  rw [e] at h1 h3
  exact ⟨by omega, by rw [← h3.1, h4.1], by rw [← h3.2, h4.2]⟩

/-- The word above. -/
def upW (w : Int) : Int := setD w (wR w).toNat 7 - 72057594037927936
theorem raised_word {r : Nat} {a b : Int} (h : Ok4 (r : Int) a b) (hr : 0 < r) : upW (wordOf r a b) = wordOf (r - 1) (parA a b) (parB a b) := by
  have hp := word_parts h
  have h12 := h.2.1
  unfold upW
  rw [hp.2.1, show ((r : Int)).toNat = r by omega]
  unfold wordOf
  rw [setD_wd (fun j _ _ => dgs_box r a b j) 7 (by omega) (by omega)]
  obtain ⟨n, rfl⟩ : ∃ n, r = n + 1 := ⟨r - 1, by omega⟩
  rw [show n + 1 - 1 = n by omega, ups_step]
  have e : ∀ j, 1 ≤ j → j ≤ 12 → putD (dgs (n + 1) a b) (n + 1) 7 j = dgs n (parA a b) (parB a b) j := by
    intro j j1 j2
    by_cases hj : j = n + 1
    · subst hj; rw [putD_at, (dgs_seven _ _ _ _).2 (by omega)]
    · rw [putD_other _ _ hj]
      unfold dgs
      by_cases hl : j ≤ n
      · rw [if_pos (by omega), if_pos hl, show n + 1 - j = (n - j) + 1 by omega, ups_step]
      · rw [if_neg (by omega), if_neg hl]
  rw [wd_congr e]
  unfold wd headD
  rw [show ((n + 1 : Nat) : Int) = (n : Int) + 1 by omega]
  omega
end Go.Proofs.YtlipbdiijjfheaaGreatDoor
