/-
  What package ident's Text tells: a word's sixteen digits in base 16; in whatever memory where the library's table of places holds what its text lays.
-/
import Derived.Test.YtlipbdiijjfheaaGreatDoorPlain
import Derived.Test.YtlipbdiijjfheaaGreatDoorProg
import Derived.Test.YtlipbdiijjfheaaGreatDoorIWord
import Derived.Test.YtlipbdiijjfheaaGreatDoorESmall
import Derived.Deep.RegionHeld3
import Derived.Laws.IdiomStrings
import Derived.Test.YtlipbdiijjfheaaGreatDoorMul64
namespace Go.Proofs.YtlipbdiijjfheaaGreatDoor
section
open Go.RowKit

/-- A digit's letter; the digits of a number, from the last one on; all n of them, as a text. -/
def hexb (k : Nat) : UInt8 := if k < 10 then UInt8.ofNat (48 + k) else UInt8.ofNat (87 + k)
def hexAt (u j : Nat) : UInt8 := hexb (u / 16 ^ j % 16)
def hexF (n u : Nat) : List UInt8 := (List.range n).map fun i => hexAt u (n - 1 - i)
theorem hexF_len (n u : Nat) : (hexF n u).length = n := by unfold hexF; simp
theorem hexF_at (n u i : Nat) (h : i < (hexF n u).length) : (hexF n u)[i] = hexAt u (n - 1 - i) := by simp [hexF]

/-- The library's table of places, as its text lays it. -/
def debCells : Array Value := #[.int .u8 0, .int .u8 1, .int .u8 56, .int .u8 2, .int .u8 57, .int .u8 49, .int .u8 28, .int .u8 3, .int .u8 61, .int .u8 58, .int .u8 42, .int .u8 50, .int .u8 38, .int .u8 29, .int .u8 17, .int .u8 4, .int .u8 62, .int .u8 47, .int .u8 59, .int .u8 36, .int .u8 45, .int .u8 43, .int .u8 51, .int .u8 22, .int .u8 53, .int .u8 39, .int .u8 33, .int .u8 30, .int .u8 24, .int .u8 18, .int .u8 12, .int .u8 5, .int .u8 63, .int .u8 55, .int .u8 48, .int .u8 27, .int .u8 60, .int .u8 41, .int .u8 37, .int .u8 16, .int .u8 46, .int .u8 35, .int .u8 44, .int .u8 21, .int .u8 52, .int .u8 32, .int .u8 23, .int .u8 11, .int .u8 54, .int .u8 26, .int .u8 40, .int .u8 15, .int .u8 34, .int .u8 20, .int .u8 31, .int .u8 10, .int .u8 25, .int .u8 14, .int .u8 19, .int .u8 9, .int .u8 13, .int .u8 8, .int .u8 7, .int .u8 6]
def DeB (w : World) : Prop := w.var? Tryz.prog "math/bits.deBruijn64tab" = some debCells
theorem gDeb : Tryz.prog.globalNamed "math/bits.deBruijn64tab" = some 7 := by kernel_rfl
theorem DeB.cell {w : World} (h : DeB w) (i : Nat) : w.cell? ⟨7, i, none⟩ = debCells[i]? := World.var?_cell gDeb h i
theorem DeB.below {w w' : World} (h : DeB w) (hb : Below w.heap.size w w') : DeB w' :=
  var?_below hb gDeb (World.block_lt_of_cell? _ _ (show w.cell? ⟨7, 0, none⟩ = some (.int .u8 0) from h.cell 0)) h

set_option maxHeartbeats 1000000 in
theorem tz16 (w : World) (hD : DeB w) :
    Calls Tryz.prog 133 #[.int .u64 16] w fun e w' => e = .returned (.int .i64 4) ∧ w' = w := by
  have h15 : w.cell? ⟨7, 15, none⟩ = some (.int .u8 4) := hD.cell 15
  have h1 : IntKind.u64.wrap (-16) = 18446744073709551600 := by decide
  have h2 : bits .and .u64 16 18446744073709551600 = 16 := by decide +kernel
  have h3 : IntKind.u64.wrap (16 * 285870213051353865) = 4573923408821661840 := by decide
  clear hD
  go_enter Tryz.func133, Tryz.ntmps133
  go_wp2
  go_ret
  exact ⟨rfl, rfl⟩

set_option maxHeartbeats 1000000 in
theorem tzUint (w : World) (hD : DeB w) :
    Calls Tryz.prog 118 #[.int .u64 16] w fun e w' => e = .returned (.int .i64 4) ∧ w' = w := by
  have TZ : Hid (Calls Tryz.prog 133 #[.int .u64 16] w fun e w' => e = .returned (.int .i64 4) ∧ w' = w) := tz16 w hD
  clear hD
  go_enter Tryz.func118, Tryz.ntmps118
  go_wp2_with (go_at_call 133; refine TZ.out.mono ?_; rintro e w' ⟨rfl, rfl⟩)
  go_ret
  exact ⟨rfl, rfl⟩
set_option maxHeartbeats 1000000 in
theorem pow2_16 (w : World) :
    Calls Tryz.prog 117 #[.int .i64 16] w fun e w' => e = .returned (.bool true) ∧ w' = w := by
  go_enter Tryz.func117, Tryz.ntmps117
  go_wp2
  go_ret
  exact ⟨rfl, rfl⟩


theorem zero65 : Tryz.zeroCells159 = Array.replicate 65 (.int .u8 0) := by kernel_rfl
theorem zero65_at (o : Nat) (h : o < 65) : Tryz.zeroCells159[o]? = some (.int .u8 0) := by rw [zero65]; simp [h]
/-- The library's digits. -/
def digB : ByteArray := ⟨#[48, 49, 50, 51, 52, 53, 54, 55, 56, 57, 97, 98, 99, 100, 101, 102, 103, 104, 105, 106, 107, 108, 109, 110, 111, 112, 113, 114, 115, 116, 117, 118, 119, 120, 121, 122]⟩
theorem digB_size : digB.size = 36 := rfl
theorem digB_at (k : Fin 16) : digB[k.val]'(by rw [digB_size]; omega) = hexb k.val := by revert k; decide
theorem dig_idx (m : Nat) (hm : m < 16) (w : World) : (Instr.index 9 (.string ⟨#[48, 49, 50, 51, 52, 53, 54, 55, 56, 57, 97, 98, 99, 100, 101, 102, 103, 104, 105, 106, 107, 108, 109, 110, 111, 112, 113, 114, 115, 116, 117, 118, 119, 120, 121, 122]⟩) (.int .u64 (m : Int))).run Tryz.prog w = .ok (.int .u8 ((hexb m).toNat : Int)) w := by
  have h := digB_at ⟨m, hm⟩
  show (Instr.index 9 (.string digB) (.int .u64 (m : Int))).run Tryz.prog w = _
  rw [run_index_string w 9 digB .u64 (m : Int) Tryz.underlying9, dif_pos ⟨by omega, by rw [digB_size]; omega⟩]
  simp only [Int.toNat_natCast]
  rw [h]
theorem arr65 : Tryz.prog.arrayLen 159 = 65 := by kernel_rfl
theorem elem65 : Tryz.prog.elem 159 = 5 := by kernel_rfl
theorem sizeU8 (w : World) : (sizeOf 5).run Tryz.prog w = .ok 1 w := by kernel_rfl
theorem slice65 (B k : Nat) (i : Int) (hk : k < 65) (hi : i = 65 - ((k + 1 : Nat) : Int)) (w : World) : (Instr.sliceAt 159 (.pointer (some ⟨B, 0, none⟩)) (some (.int .i64 i)) none none).run Tryz.prog w = .ok (.slice (some ⟨B, 64 - k, none⟩) (k + 1) (k + 1)) w := by
  have ht : Tryz.prog.underlying 159 = some (.array (Tryz.prog.arrayLen 159) (Tryz.prog.elem 159)) := by rw [arr65, elem65]; exact Tryz.underlying159
  rw [run_sliceAt_array_l w 159 ⟨B, 0, none⟩ ht .i64 i (by omega) (by rw [arr65]; omega), arr65, elem65, sizeU8]
  simp only [Result.andThen, slicedAt]
  rw [if_neg (by omega)]
  have e1 : i.toNat = 64 - k := by omega
  have e2 : 65 - (64 - k) = k + 1 := by omega
  rw [e1, e2]
  simp [Addr.add]
  omega
theorem addr_add (B o j : Nat) : (⟨B, o, none⟩ : Addr).add j = ⟨B, o + j, none⟩ := by simp [Addr.add]
theorem div16 (u k : Nat) : u / 16 ^ k / 16 = u / 16 ^ (k + 1) := by rw [Nat.div_div_eq_div_mul, Nat.pow_succ]

set_option maxHeartbeats 4000000 in
set_option maxRecDepth 100000 in
theorem fbits (u : Nat) (hu : u < 18446744073709551616) (w : World) (hD : DeB w) :
    Calls Tryz.prog 86 #[.slice none 0 0, .int .u64 (u : Int), .int .i64 16, .bool false, .bool false] w fun e w' => (∃ n, 1 ≤ n ∧ n ≤ 16 ∧ u < 16 ^ n ∧ e = .returned (.tuple #[.slice none 0 0, .string ⟨(hexF n u).toArray⟩])) ∧ Below w.heap.size w w' := by
  have hD0 : Hid (DeB w) := hD
  clear hD
  go_enter Tryz.func86, Tryz.ntmps86
  go_wp2_with (first
    | (go_at_call 117; refine (pow2_16 _).mono ?_; rintro e w' ⟨rfl, rfl⟩)
    | (go_at_call 118; refine (tzUint _ (hD0.out.below (allocB _ _))).mono ?_; rintro e w' ⟨rfl, rfl⟩))
  have hal := allocB w (.cells Tryz.zeroCells159 159)
  have hG0 : ∀ o < 65, (w.alloc (.cells Tryz.zeroCells159 159)).cell? ⟨w.heap.size, o, none⟩ = some (.int .u8 ((fun _ => (0 : Int)) o)) ∧ (w.alloc (.cells Tryz.zeroCells159 159)).frozen? ⟨w.heap.size, o, none⟩ = false := fun o ho => ⟨by rw [World.cell?_alloc_new]; exact zero65_at o ho, World.frozen?_alloc_new _ _ _ _⟩
  generalize w.alloc (.cells Tryz.zeroCells159 159) = w0 at *
  go_loopw [1, 13] (fun v1 v13 wr => ∃ (k : Nat) (i : Int) (G : Nat → Int), k ≤ 15 ∧ v1 = .int .u64 ((u / 16 ^ k : Nat) : Int) ∧ v13 = .int .i64 i ∧ Hid (i = 65 - (k : Int)) ∧ u < 16 ^ (16 : Nat) ∧ Hid (∀ j < k, G (64 - j) = ((hexAt u j).toNat : Int)) ∧ Hid (∀ o < 65, wr.cell? ⟨w.heap.size, o, none⟩ = some (.int .u8 (G o)) ∧ wr.frozen? ⟨w.heap.size, o, none⟩ = false) ∧ Below w.heap.size w wr) (fun v1 _ _ => (intOf v1).toNat)
  case atStart => exact ⟨0, 65, fun _ => 0, by omega, by simp, rfl, rfl, by omega, fun j hj => by omega, hG0, hal⟩
  case round =>
    clear hG0 hal
    obtain ⟨k, i, G, hk, rfl, rfl, hi, hu16, hg, hG, hB⟩ := hrel
    obtain ⟨x, hx⟩ : ∃ x, u / 16 ^ k = x := ⟨_, rfl⟩
    have hx' : Hid _ := hx
    rw [hx]
    have i1 : 0 ≤ i - 1 := by have := hi.out; omega
    have i2 : i - 1 < 65 := by have := hi.out; omega
    have c0 := (hG.out (i.toNat - 1) (by omega)).1
    have f0 := (hG.out (i.toNat - 1) (by omega)).2
    generalize G (i.toNat - 1) = g at c0
    by_cases hge : 16 ≤ x
    · have hc : (16 : Int) ≤ (x : Int) := by omega
      obtain ⟨m, hm⟩ : ∃ m, x % 16 = m := ⟨_, rfl⟩
      have M : bits .and .u64 (x : Int) 15 = (m : Int) := by
        have hxu : x ≤ u := by rw [← hx]; exact Nat.div_le_self _ _
        rw [umask4 _ ⟨by omega, by omega⟩]; omega
      have hX := dig_idx m (by omega)
      have hc8 : ((hexb m).toNat : Int) = ((hexAt u k).toNat : Int) := by unfold hexAt; rw [hx, hm]
      generalize ((hexb m).toNat : Int) = c at hX hc8
      clear hm
      have hk15 : k < 15 := by
        apply Nat.lt_of_not_le
        intro hle
        obtain rfl : k = 15 := by omega
        have := Nat.div_lt_of_lt_mul (show u < 16 ^ 15 * 16 by rw [← Nat.pow_succ]; exact hu16)
        omega
      replace hc8 : Hid _ := hc8
      clear hx
      go_wp2
      go_roundw
      case rel =>
        refine ⟨k + 1, i - 1, fun o => if o = i.toNat - 1 then c else G o, by omega, ?_, rfl, by have := hi.out; show i - 1 = _; omega, hu16, ?_, ?_, hB.setCell (by simp) _⟩
        · rw [← div16, show u / 16 ^ k = x from hx'.out]; go_num
        · intro j hj
          have hi' := hi.out
          by_cases hjk : j = k
          · subst hjk
            show (if _ then _ else _) = _
            rw [if_pos (by omega), hc8.out]
          · show (if _ then _ else _) = _
            rw [if_neg (by omega)]; exact hg.out j (by omega)
        · intro o ho
          have h := hG.out o ho
          by_cases ho' : o = i.toNat - 1
          · subst ho'
            exact ⟨by simp only [↓reduceIte]; exact store_new h.1, by simp [h.2]⟩
          · exact ⟨by simp only [if_neg ho']; exact store_keep h.1 (by first | (simp; done) | (simp; omega)), by simp [h.2]⟩
      case measure => simp [intOf]; omega
    · have hc : decide ((16 : Int) ≤ (x : Int)) = false := df (by omega)
      have hX := dig_idx x (by omega)
      have hc8 : ((hexb x).toNat : Int) = ((hexAt u k).toNat : Int) := by unfold hexAt; rw [hx, Nat.mod_eq_of_lt (by omega)]
      generalize ((hexb x).toNat : Int) = c at hX hc8
      have hi' := hi.out
      have hsl := slice65 w.heap.size k (i - 1) (by omega) (by omega)
      have hlt : u < 16 ^ (k + 1) := by
        rw [Nat.pow_succ, Nat.mul_comm]
        exact Nat.lt_mul_of_div_lt (by omega) (Nat.pow_pos (by omega))
      have hcv : (convert 100 9 (.slice (some ⟨w.heap.size, 64 - k, none⟩) (k + 1) (k + 1))).run Tryz.prog (wr.setCell ⟨w.heap.size, i.toNat - 1, none⟩ (.int .u8 c)) = .ok (.string ⟨(hexF (k + 1) u).toArray⟩) (wr.setCell ⟨w.heap.size, i.toNat - 1, none⟩ (.int .u8 c)) := by
        have h := run_convert_bytes_back (P := Tryz.prog) (wr.setCell ⟨w.heap.size, i.toNat - 1, none⟩ (.int .u8 c)) 100 9 5 ⟨w.heap.size, 64 - k, none⟩ (k + 1) (hexF (k + 1) u) Tryz.underlying100 Tryz.underlying5 Tryz.underlying9 (fun j hj => by
          rw [hexF_len] at hj
          rw [hexF_at]
          rw [addr_add]
          have hh := hG.out (64 - k + j) (by omega)
          by_cases hjk : j = 0
          · subst hjk
            have e : (64 - k + 0) = i.toNat - 1 := by omega
            rw [e]
            rw [e] at hh
            rw [store_new hh.1, hc8, show k + 1 - 1 - 0 = k by omega]
          · rw [store_keep hh.1 (by first | (simp; done) | (simp; omega))]
            have := hg.out (k + 1 - 1 - j) (by omega)
            rw [show 64 - (k + 1 - 1 - j) = 64 - k + j by omega] at this
            rw [this])
        rw [hexF_len] at h
        exact h
      clear hx hi hi' hg hG hc8
      go_wp2
      go_ret2
      exact ⟨⟨k + 1, by omega, by omega, hlt, rfl⟩, hB.setCell (by simp) _⟩
set_option maxHeartbeats 1000000 in
theorem fhexI (u : Nat) (hu : u < 18446744073709551616) (w : World) (hD : DeB w) :
    Calls Tryz.prog 55 #[.int .u64 (u : Int), .int .i64 16] w fun e w' => (∃ n, 1 ≤ n ∧ n ≤ 16 ∧ u < 16 ^ n ∧ e = .returned (.string ⟨(hexF n u).toArray⟩)) ∧ Below w.heap.size w w' := by
  have FB := fun w => fbits u hu w
  replace FB : Hid _ := FB
  have hD0 : Hid (DeB w) := hD
  clear hD
  go_enter Tryz.func55, Tryz.ntmps55
  go_wp2_with (go_at_call 86; refine (FB.out _ hD0.out).mono ?_; rintro e w' ⟨⟨n, n1, n2, n3, rfl⟩, hb⟩)
  go_ret
  exact ⟨⟨n, n1, n2, n3, rfl⟩, hb⟩
set_option maxHeartbeats 1000000 in
/-- In base 16: as many digits as it takes. -/
theorem fhex (u : Nat) (hu : u < 18446744073709551616) (w : World) (hD : DeB w) :
    Calls Tryz.prog 32 #[.int .u64 (u : Int), .int .i64 16] w fun e w' => (∃ n, 1 ≤ n ∧ n ≤ 16 ∧ u < 16 ^ n ∧ e = .returned (.string ⟨(hexF n u).toArray⟩)) ∧ Below w.heap.size w w' := by
  have FB := fun w => fhexI u hu w
  replace FB : Hid _ := FB
  have hD0 : Hid (DeB w) := hD
  clear hD
  go_enter Tryz.func32, Tryz.ntmps32
  go_wp2_with (go_at_call 55; refine (FB.out _ hD0.out).mono ?_; rintro e w' ⟨⟨n, n1, n2, n3, rfl⟩, hb⟩)
  go_ret
  exact ⟨⟨n, n1, n2, n3, rfl⟩, hb⟩
end
section
open Go.RowKit

/-- c noughts. -/
def noughts (c : Nat) : ByteArray := ⟨(List.replicate c (48 : UInt8)).toArray⟩
set_option maxHeartbeats 1000000 in
theorem hpin_any (S : ByteArray) (v : Bool) (hs : decide ((1 : Int) ≤ (S.size : Int)) = true) (hv : ((S.extract 0 1).toList == [48]) = v) (w : World) :
    Calls Tryz.prog 89 #[.string S, .string ⟨#[48]⟩] w fun e w' => e = .returned (.bool v) ∧ w' = w := by
  have h1 : (1 : Int) ≤ (S.size : Int) := of_decide_eq_true hs
  have h2 : 1 ≤ S.size := by omega
  go_enter Tryz.func89, Tryz.ntmps89
  go_wp2
  go_ret
  exact ⟨rfl, rfl⟩
set_option maxHeartbeats 1000000 in
theorem hp_any (S : ByteArray) (v : Bool) (hs : decide ((1 : Int) ≤ (S.size : Int)) = true) (hv : ((S.extract 0 1).toList == [48]) = v) (w : World) :
    Calls Tryz.prog 57 #[.string S, .string ⟨#[48]⟩] w fun e w' => e = .returned (.bool v) ∧ w' = w := by
  have HP : Hid (∀ w, Calls Tryz.prog 89 #[.string S, .string ⟨#[48]⟩] w fun e w' => e = .returned (.bool v) ∧ w' = w) := hpin_any S v hs hv
  clear hs hv
  go_enter Tryz.func57, Tryz.ntmps57
  go_wp2_with (go_at_call 89; refine (HP.out _).mono ?_; rintro e w' ⟨rfl, rfl⟩)
  go_ret
  exact ⟨rfl, rfl⟩
set_option maxHeartbeats 1000000 in
theorem mul_one (c : Nat) (hc : c ≤ 15) (w : World) :
    Calls Tryz.prog 56 #[.int .u64 1, .int .u64 (c : Int)] w fun e w' => e = .returned (.tuple #[.int .u64 0, .int .u64 (c : Int)]) ∧ w' = w := by
  have MU : Hid (∀ w, Calls Tryz.prog 88 #[.int .u64 1, .int .u64 (c : Int)] w fun e w' => e = .returned (.tuple #[.int .u64 0, .int .u64 (c : Int)]) ∧ w' = w) := by
    intro w
    have h := mul64_any 1 (c : Int) (by omega) (by omega) (by omega) (by omega) w
    rw [show high64 (1 * (c : Int)) = 0 by unfold high64; omega, show low64 (1 * (c : Int)) = c by unfold low64; omega] at h
    exact h
  go_enter Tryz.func56, Tryz.ntmps56
  go_wp2_with (go_at_call 88; refine (MU.out _).mono ?_; rintro e w' ⟨rfl, rfl⟩)
  go_ret2
  exact ⟨rfl, rfl⟩
set_option maxHeartbeats 4000000 in
set_option maxRecDepth 100000 in
theorem repeat_many (c : Nat) (h2 : 2 ≤ c) (h15 : c ≤ 15) (w : World) :
    Calls Tryz.prog 33 #[.string ⟨#[48]⟩, .int .i64 (c : Int)] w fun e w' => e = .returned (.string (noughts c)) ∧ Below w.heap.size w w' := by
  have MU : Hid (∀ w, Calls Tryz.prog 56 #[.int .u64 1, .int .u64 (c : Int)] w fun e w' => e = .returned (.tuple #[.int .u64 0, .int .u64 (c : Int)]) ∧ w' = w) := mul_one c h15
  have c0 : ((c : Int) == 0) = false := by simp; omega
  have c1 : ((c : Int) == 1) = false := by simp; omega
  have c2 : (c : Int) ≤ 128 := by omega
  have c3 : (0 : Int) ≤ (c : Int) := by omega
  have c4 : (2 : Int) ≤ (c : Int) ∧ (c : Int) ≤ 15 := by omega
  go_enter Tryz.func33, Tryz.ntmps33
  go_wp2_with (first
    | (go_at_call 56; refine (MU.out _).mono ?_; rintro e w' ⟨rfl, rfl⟩)
    | (go_at_call 57; refine (hp_any _ false (by decide +kernel) (by decide +kernel) _).mono ?_; rintro e w' ⟨rfl, rfl⟩)
    | (go_at_call 57; refine (hp_any _ true (by decide +kernel) (by decide +kernel) _).mono ?_; rintro e w' ⟨rfl, rfl⟩))
  go_ret
  refine ⟨?_, Below.refl _ _⟩
  show Ending.returned (Value.string (ByteArray.extract _ 0 c)) = Ending.returned (Value.string (noughts c))
  refine congrArg (fun b => Ending.returned (Value.string b)) ?_
  have hc : c = 2 ∨ c = 3 ∨ c = 4 ∨ c = 5 ∨ c = 6 ∨ c = 7 ∨ c = 8 ∨ c = 9 ∨ c = 10 ∨ c = 11 ∨ c = 12 ∨ c = 13 ∨ c = 14 ∨ c = 15 := by omega
  clear c0 c1 c2 c3 c4 h2 h15 MU
  rcases hc with rfl | rfl | rfl | rfl | rfl | rfl | rfl | rfl | rfl | rfl | rfl | rfl | rfl | rfl <;> decide +kernel
set_option maxHeartbeats 1000000 in
set_option maxRecDepth 100000 in
theorem repeat_none (w : World) :
    Calls Tryz.prog 33 #[.string ⟨#[48]⟩, .int .i64 0] w fun e w' => e = .returned (.string (noughts 0)) ∧ Below w.heap.size w w' := by
  go_enter Tryz.func33, Tryz.ntmps33
  go_wp2
  go_ret
  exact ⟨rfl, Below.refl _ _⟩
set_option maxHeartbeats 1000000 in
set_option maxRecDepth 100000 in
theorem repeat_one (w : World) :
    Calls Tryz.prog 33 #[.string ⟨#[48]⟩, .int .i64 1] w fun e w' => e = .returned (.string (noughts 1)) ∧ Below w.heap.size w w' := by
  go_enter Tryz.func33, Tryz.ntmps33
  go_wp2
  go_ret
  exact ⟨rfl, Below.refl _ _⟩
theorem repeat_any (c : Nat) (h : c ≤ 15) (w : World) :
    Calls Tryz.prog 33 #[.string ⟨#[48]⟩, .int .i64 (c : Int)] w fun e w' => e = .returned (.string (noughts c)) ∧ Below w.heap.size w w' := by
  rcases (show c = 0 ∨ c = 1 ∨ 2 ≤ c by omega) with rfl | rfl | h2
  · exact repeat_none w
  · exact repeat_one w
  · exact repeat_many c h2 h w
theorem noughts_size (c : Nat) : (noughts c).size = c := by simp [noughts, ByteArray.size]
/-- The sixteen digits. -/
def text16 (u : Nat) : ByteArray := ⟨(hexF 16 u).toArray⟩
theorem text_pad (n u : Nat) (h1 : n ≤ 16) (h2 : u < 16 ^ n) : noughts (16 - n) ++ (⟨(hexF n u).toArray⟩ : ByteArray) = text16 u := by
  have hl : List.replicate (16 - n) (48 : UInt8) ++ hexF n u = hexF 16 u := by
    apply List.ext_getElem
    · rw [List.length_append, List.length_replicate, hexF_len, hexF_len]; omega
    · intro i h3 h4
      rw [hexF_at, List.getElem_append]
      rw [hexF_len] at h4
      split
      · rename_i hi
        rw [List.length_replicate] at hi
        rw [List.getElem_replicate]
        unfold hexAt
        have hle : (16 : Nat) ^ n ≤ 16 ^ (16 - 1 - i) := Nat.pow_le_pow_right (by omega) (by omega)
        rw [Nat.div_eq_of_lt (by omega)]
        rfl
      · rename_i hi
        rw [List.length_replicate] at hi
        rw [hexF_at, List.length_replicate, show n - 1 - (i - (16 - n)) = 16 - 1 - i by omega]
  unfold noughts text16
  apply ByteArray.ext
  rw [ByteArray.data_append]
  show (List.replicate (16 - n) (48 : UInt8)).toArray ++ (hexF n u).toArray = (hexF 16 u).toArray
  rw [← hl]
  simp
set_option maxHeartbeats 2000000 in
/-- TEXT: sixteen digits. -/
theorem itext (u : Nat) (hu : u < 18446744073709551616) (w : World) (hD : DeB w) :
    Calls Tryz.prog 15 #[.int .u64 (u : Int)] w fun e w' => e = .returned (.string (text16 u)) ∧ Below w.heap.size w w' := by
  have FH := fun w => fhex u hu w
  replace FH : Hid _ := FH
  have hD0 : Hid (DeB w) := hD
  clear hD
  go_enter Tryz.func15, Tryz.ntmps15
  have RP : Hid (∀ n : Nat, 1 ≤ n → n ≤ 16 → ∀ w, Calls Tryz.prog 33 #[.string ⟨#[48]⟩, .int .i64 (16 - (n : Int))] w fun e w' => e = .returned (.string (noughts (16 - n))) ∧ Below w.heap.size w w') := by
    intro n n1 n2 w
    have h := repeat_any (16 - n) (by omega) w
    rwa [show (((16 - n : Nat)) : Int) = 16 - (n : Int) by omega] at h
  go_wp2_with (first
    | (go_at_call 32; refine (FH.out _ hD0.out).mono ?_; rintro e w1 ⟨⟨n, n1, n2, n3, rfl⟩, hb1⟩; have hl := hexF_len n u; have n4 : (n : Int) ≤ 16 := (by omega); have n5 : (1 : Int) ≤ (n : Int) := (by omega); have n6 : ¬ 9223372036854775807 < (noughts (16 - n)).size + n := (by rw [noughts_size]; omega))
    | (go_at_call 33; refine (RP.out n n1 n2 _).mono ?_; rintro e w2 ⟨rfl, hb2⟩))
  go_ret
  refine ⟨?_, belowT hb1 hb2⟩
  rw [← text_pad n u n2 n3]
  rfl
end
end Go.Proofs.YtlipbdiijjfheaaGreatDoor
