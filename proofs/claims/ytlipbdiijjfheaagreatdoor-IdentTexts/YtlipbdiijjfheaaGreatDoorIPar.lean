/-
  Sixteen digits read again: what the library's ParseUint and package ident's Parse tell of a text, beside what the document's own Unword tells: the same, for every text of at most 2^48 bytes; in whatever memory where the tables hold what their texts lay, and the library's one error is there.
-/
import Derived.Test.YtlipbdiijjfheaaGreatDoorRUnhex
import Derived.Test.YtlipbdiijjfheaaGreatDoorIAwake
import Derived.Shelf.Strconv.ToError
import Derived.Lib.AtoiErrMem
import Derived.Lib.ConvBytes
import Derived.Laws.StructEq
import Derived.Ground.NamesProg
namespace Go.Proofs.YtlipbdiijjfheaaGreatDoor
open Go.RowKit Go.Shelf

def Tryz.lays245_ren : Go.Shelf.Ren := ⟨fun | 245 => 74 | 279 => 101 | 280 => 102 | 281 => 103 | 282 => 104 | 316 => 126 | 171 => 128 | 205 => 127 | 243 => 136 | 246 => 138 | 283 => 83 | 284 => 84 | 285 => 85 | 286 => 86 | 129 => 115 | 317 => 114 | 318 => 116 | 319 => 117 | 320 => 118 | 337 => 132 | 338 => 133 | n => n, fun | 9 => 9 | 3 => 3 | 75 => 87 | 167 => 142 | 4 => 4 | 168 => 145 | 210 => 170 | 37 => 100 | 0 => 0 | 127 => 134 | 145 => 180 | 143 => 178 | 2 => 2 | 171 => 125 | 53 => 22 | 5 => 5 | 173 => 127 | 212 => 158 | 51 => 129 | 20 => 20 | 213 => 159 | 46 => 77 | 232 => 181 | 233 => 182 | 80 => 106 | n => n, fun | 15 => 2 | 16 => 3 | 17 => 0 | 18 => 6 | 19 => 7 | n => n⟩
theorem Tryz.lays245 : Go.Proofs.LaysC.n245 Tryz.prog Tryz.lays245_ren := {
  mixed := by kernel_rfl,
  f129 := Tryz.func115.trans (congrArg some (by kernel_rfl)),
  f171 := Tryz.func128.trans (congrArg some (by kernel_rfl)),
  f205 := Tryz.func127.trans (congrArg some (by kernel_rfl)),
  f243 := Tryz.func136.trans (congrArg some (by kernel_rfl)),
  f245 := Tryz.func74.trans (congrArg some (by kernel_rfl)),
  f246 := Tryz.func138.trans (congrArg some (by kernel_rfl)),
  f279 := Tryz.func101.trans (congrArg some (by kernel_rfl)),
  f280 := Tryz.func102.trans (congrArg some (by kernel_rfl)),
  f281 := Tryz.func103.trans (congrArg some (by kernel_rfl)),
  f282 := Tryz.func104.trans (congrArg some (by kernel_rfl)),
  f283 := Tryz.func83.trans (congrArg some (by kernel_rfl)),
  f284 := Tryz.func84.trans (congrArg some (by kernel_rfl)),
  f285 := Tryz.func85.trans (congrArg some (by kernel_rfl)),
  f286 := Tryz.func86.trans (congrArg some (by kernel_rfl)),
  f316 := Tryz.func126.trans (congrArg some (by kernel_rfl)),
  f317 := Tryz.func114.trans (congrArg some (by kernel_rfl)),
  f318 := Tryz.func116.trans (congrArg some (by kernel_rfl)),
  f319 := Tryz.func117.trans (congrArg some (by kernel_rfl)),
  f320 := Tryz.func118.trans (congrArg some (by kernel_rfl)),
  f337 := Tryz.func132.trans (congrArg some (by kernel_rfl)),
  f338 := Tryz.func133.trans (congrArg some (by kernel_rfl)),
  t0 := Tryz.underlying0,
  a0 := Tryz.isAgg0,
  z0 := Tryz.sizeOf0,
  v0 := Tryz.zeroValue0,
  t2 := Tryz.underlying2,
  a2 := Tryz.isAgg2,
  z2 := Tryz.sizeOf2,
  v2 := Tryz.zeroValue2,
  t3 := Tryz.underlying3,
  a3 := Tryz.isAgg3,
  z3 := Tryz.sizeOf3,
  v3 := Tryz.zeroValue3,
  t4 := Tryz.underlying4,
  a4 := Tryz.isAgg4,
  z4 := Tryz.sizeOf4,
  v4 := Tryz.zeroValue4,
  t5 := Tryz.underlying5,
  a5 := Tryz.isAgg5,
  z5 := Tryz.sizeOf5,
  v5 := Tryz.zeroValue5,
  t9 := Tryz.underlying9,
  a9 := Tryz.isAgg9,
  z9 := Tryz.sizeOf9,
  v9 := Tryz.zeroValue9,
  t20 := Tryz.underlying20,
  a20 := Tryz.isAgg20,
  z20 := Tryz.sizeOf20,
  v20 := Tryz.zeroValue20,
  t37 := Tryz.underlying100,
  a37 := Tryz.isAgg100,
  z37 := Tryz.sizeOf100,
  v37 := Tryz.zeroValue100,
  t46 := Tryz.underlying77,
  a46 := Tryz.isAgg77,
  z46 := Tryz.sizeOf77,
  v46 := Tryz.zeroValue77,
  t51 := Tryz.underlying129,
  a51 := Tryz.isAgg129,
  z51 := Tryz.sizeOf129,
  v51 := Tryz.zeroValue129,
  t53 := Tryz.underlying22,
  a53 := Tryz.isAgg22,
  z53 := Tryz.sizeOf22,
  v53 := Tryz.zeroValue22,
  t75 := Tryz.underlying87,
  a75 := Tryz.isAgg87,
  z75 := Tryz.sizeOf87,
  v75 := Tryz.zeroValue87,
  t127 := Tryz.underlying134,
  a127 := Tryz.isAgg134,
  z127 := Tryz.sizeOf134,
  v127 := Tryz.zeroValue134,
  t143 := Tryz.underlying178,
  a143 := Tryz.isAgg178,
  z143 := Tryz.sizeOf178,
  v143 := Tryz.zeroValue178,
  t145 := Tryz.underlying180,
  a145 := Tryz.isAgg180,
  z145 := Tryz.sizeOf180,
  v145 := Tryz.zeroValue180,
  t167 := Tryz.underlying142,
  a167 := Tryz.isAgg142,
  z167 := Tryz.sizeOf142,
  v167 := Tryz.zeroValue142,
  t168 := Tryz.underlying145,
  a168 := Tryz.isAgg145,
  z168 := Tryz.sizeOf145,
  v168 := Tryz.zeroValue145,
  t171 := Tryz.underlying125,
  a171 := Tryz.isAgg125,
  z171 := Tryz.sizeOf125,
  v171 := Tryz.zeroValue125,
  t173 := Tryz.underlying127,
  a173 := Tryz.isAgg127,
  z173 := Tryz.sizeOf127,
  v173 := Tryz.zeroValue127,
  t210 := Tryz.underlying170,
  a210 := Tryz.isAgg170,
  z210 := Tryz.sizeOf170,
  v210 := Tryz.zeroValue170,
  t212 := Tryz.underlying158,
  a212 := Tryz.isAgg158,
  z212 := Tryz.sizeOf158,
  v212 := Tryz.zeroValue158,
  t213 := Tryz.underlying159,
  a213 := Tryz.isAgg159,
  z213 := Tryz.sizeOf159,
  t232 := Tryz.underlying181,
  a232 := Tryz.isAgg181,
  z232 := Tryz.sizeOf181,
  v232 := Tryz.zeroValue181,
  t233 := Tryz.underlying182,
  a233 := Tryz.isAgg182,
  z233 := Tryz.sizeOf182,
  v233 := Tryz.zeroValue182,
  g15 := by kernel_rfl,
  g16 := by kernel_rfl,
  g17 := by kernel_rfl,
  g18 := by kernel_rfl,
  g19 := by kernel_rfl,
  t80 := Tryz.underlying106,
  a80 := Tryz.isAgg106,
  z80 := Tryz.sizeOf106,
  v80 := Tryz.zeroValue106,
  i0 := by kernel_rfl,
  i2 := by kernel_rfl,
  i3 := by kernel_rfl,
  i4 := by kernel_rfl,
  i5 := by kernel_rfl,
  i9 := by kernel_rfl,
  i20 := by kernel_rfl,
  i37 := by kernel_rfl,
  i46 := by kernel_rfl,
  i51 := by kernel_rfl,
  i53 := by kernel_rfl,
  i75 := by kernel_rfl,
  i80 := by kernel_rfl,
  i127 := by kernel_rfl,
  i143 := by kernel_rfl,
  i145 := by kernel_rfl,
  i167 := by kernel_rfl,
  i168 := by kernel_rfl,
  i171 := by kernel_rfl,
  i173 := by kernel_rfl,
  i210 := by kernel_rfl,
  i212 := by kernel_rfl,
  i232 := by kernel_rfl,
  i233 := by kernel_rfl,
  m15 := by kernel_rfl,
  m16 := by kernel_rfl,
  m17 := by kernel_rfl,
  m18 := by kernel_rfl,
  m19 := by kernel_rfl,
  c0 := by kernel_rfl,
  c2 := by kernel_rfl,
  c3 := by kernel_rfl,
  c4 := by kernel_rfl,
  c5 := by kernel_rfl,
  c9 := by kernel_rfl,
  c20 := by kernel_rfl,
  c37 := by kernel_rfl,
  c46 := by kernel_rfl,
  c51 := by kernel_rfl,
  c53 := by kernel_rfl,
  c75 := by kernel_rfl,
  c80 := by kernel_rfl,
  c127 := by kernel_rfl,
  c143 := by kernel_rfl,
  c145 := by kernel_rfl,
  c167 := by kernel_rfl,
  c168 := by kernel_rfl,
  c171 := by kernel_rfl,
  c173 := by kernel_rfl,
  c210 := by kernel_rfl,
  c212 := by kernel_rfl,
  c213 := by kernel_rfl,
  c232 := by kernel_rfl,
  c233 := by kernel_rfl }

/-- The library's error is there. -/
def ErrS (w : World) : Prop := ∃ tp p, w.var? Tryz.prog "strconv.ErrSyntax" = some #[.iface tp p]
theorem gErrS : Tryz.prog.globalNamed "strconv.ErrSyntax" = some 2 := by kernel_rfl
theorem ErrS.below {w w' : World} (h : ErrS w) (hb : Below w.heap.size w w') : ErrS w' := by
  obtain ⟨t1, p1, h1⟩ := h
  have c1 := World.var?_cell gErrS h1 0
  simp at c1
  exact ⟨t1, p1, var?_below hb gErrS (World.block_lt_of_cell? _ _ c1) h1⟩

theorem lower_box : ∀ z : Fin 256, (0 ≤ bits .or .u8 (z.val : Int) 32 ∧ bits .or .u8 (z.val : Int) 32 ≤ 255) ∧ (97 ≤ z.val → z.val ≤ 102 → bits .or .u8 (z.val : Int) 32 = (z.val : Int)) := by decide +kernel
set_option maxHeartbeats 1000000 in
theorem ilower (z L : Int) (h : bits .or .u8 z 32 = L) (w : World) :
    Calls Tryz.prog 99 #[.int .u8 z] w fun e w' => e = .returned (.int .u8 L) ∧ w' = w := by
  go_enter Tryz.func99, Tryz.ntmps99
  go_wp2
  go_ret
  exact ⟨rfl, rfl⟩

theorem ipu_step {n k u d : Nat} (hk : k < 16) (hn : n = u / 16 ^ (16 - k)) (hd : d = u / 16 ^ (15 - k) % 16) : n * 16 + d = u / 16 ^ (16 - (k + 1)) := by
  rw [hn, hd, show 16 - (k + 1) = 15 - k by omega, show 16 - k = (15 - k) + 1 by omega, Nat.pow_succ, ← Nat.div_div_eq_div_mul]
  omega

set_option maxHeartbeats 16000000 in
set_option maxRecDepth 100000 in
theorem ipu_core (s : ByteArray) (hs : s.size = 16) (w : World) :
    Calls Tryz.prog 73 #[.string s, .int .i64 16, .int .i64 64] w fun e w' => ((∃ n : Nat, n < 18446744073709551616 ∧ e = .returned (.tuple #[.int .u64 (n : Int), .nilIface]) ∧ ∀ u, u < 18446744073709551616 → s = text16 u → n = u) ∨ (e = .returned (.tuple #[.int .u64 0, .iface 142 (.int .i64 2)]) ∧ ∀ u, s ≠ text16 u)) ∧ Below w.heap.size w w' := by
  have hemp : s.toList.isEmpty = false := by
    rw [← decide_eq_emptyBytes]
    exact decide_eq_false (fun h => by rw [h] at hs; exact absurd hs (by decide))
  have hcv := Lib.run_convert_string_bytes (P := Tryz.prog) w 9 100 5 s (u := .string) Tryz.underlying9 Tryz.underlying100 Tryz.underlying5
  have hC : ∀ j, j < s.size → (Lib.bytesWorld w 5 s).cell? ⟨w.heap.size, j, none⟩ = some (.int .u8 (s.data.toList.getD j 0).toNat) := fun j hj => Lib.bytesWorld_cell w 5 s j hj
  have hB := Lib.bytesWorld_below w 5 s
  generalize grownCap w s.size 0 5 = cap at hcv
  generalize Lib.bytesWorld w 5 s = W1 at *
  have hmv : IntKind.u64.wrap (IntKind.u64.wrap 18446744073709551616 - 1) = 18446744073709551615 := by
    rw [IntKind.wrap_u64, IntKind.wrap_u64]
    decide
  rw [hs] at hcv hC
  replace hC : Hid _ := hC
  replace hB : Hid _ := hB
  have hs0 : Hid _ := hs
  clear hs
  go_enter Tryz.func73, Tryz.ntmps73
  go_wp2_with fail
  go_loop [12, 13, 101] (fun vu vn vi => ∃ (k : Nat) (a : Int), vu = .bool false ∧ vn = .int .u64 a ∧ vi = .int .i64 (k : Int) ∧ k ≤ 16 ∧ Hid (∃ n : Nat, a = (n : Int) ∧ n < 16 ^ k ∧ ∀ u, u < 18446744073709551616 → s = text16 u → n = u / 16 ^ (16 - k)))
    (fun _ _ vi => 16 - (intOf vi).toNat)
  case atStart => exact ⟨0, 0, rfl, rfl, rfl, by omega, 0, rfl, by simp, fun u hu _ => by rw [Nat.div_eq_of_lt (by omega)]⟩
  case round =>
    obtain ⟨k, a, rfl, rfl, rfl, hk, hh⟩ := hrel
    obtain ⟨n, ha, hn, hdec⟩ := hh.out
    clear hh
    by_cases hlt : k < 16
    · have hc := hC.out k hlt
      have hp := pow16_box hlt
      have a0 : 0 ≤ a := by omega
      have a1 : a < 1152921504606846976 := by omega
      obtain ⟨hl1, hl2⟩ := str_list s k (by rw [hs0.out]; exact hlt)
      have hgd : s.data.toList.getD k 0 = s[k]'(by rw [hs0.out]; exact hlt) := by simp [List.getD, hl1]
      rw [hgd] at hc
      have htx : ∀ u, s = text16 u → (s[k]'(by rw [hs0.out]; exact hlt)) = hexb (u / 16 ^ (15 - k) % 16) := fun u e => Option.some.inj (hl1.symm.trans (text16_at e k hlt))
      clear hl1 hl2 hgd
      generalize s[k]'(by rw [hs0.out]; exact hlt) = c at *
      have hc256 : c.toNat < 256 := c.toNat_lt
      have hlb := lower_box ⟨c.toNat, hc256⟩
      simp only at hlb
      obtain ⟨L, eL⟩ : ∃ L, bits .or .u8 (c.toNat : Int) 32 = L := ⟨_, rfl⟩
      rw [eL] at hlb
      obtain ⟨⟨L0, L1⟩, hL⟩ := hlb
      -- what a digit's place tells
      have hm : ∀ u, s = text16 u → ∃ m, m = u / 16 ^ (15 - k) % 16 ∧ ((m < 10 ∧ c.toNat = 48 + m) ∨ (10 ≤ m ∧ m < 16 ∧ c.toNat = 87 + m ∧ L = (c.toNat : Int))) := by
        intro u e
        have h1 := htx u e
        have h2 : u / 16 ^ (15 - k) % 16 < 16 := Nat.mod_lt _ (by omega)
        generalize u / 16 ^ (15 - k) % 16 = m at *
        refine ⟨m, rfl, ?_⟩
        by_cases hm : m < 10
        · exact .inl ⟨hm, by rw [h1, hexb_low m hm]⟩
        · have := hexb_high m hm h2
          rw [← h1] at this
          exact .inr ⟨by omega, h2, this, hL (by omega) (by omega)⟩
      clear htx hL
      have LW : Hid _ := ilower _ _ eL
      obtain ⟨z, hz⟩ : ∃ z : Int, (c.toNat : Int) = z := ⟨_, rfl⟩
      rw [hz] at hc LW
      clear eL
      have hgo : ∀ d : Nat, d < 16 → (∀ u, s = text16 u → d = u / 16 ^ (15 - k) % 16) → Hid (∃ n' : Nat, a * 16 + (d : Int) = (n' : Int) ∧ n' < 16 ^ (k + 1) ∧ ∀ u, u < 18446744073709551616 → s = text16 u → n' = u / 16 ^ (16 - (k + 1))) := fun d hd hu =>
        ⟨n * 16 + d, by omega, by rw [Nat.pow_succ]; omega, fun u u1 e => ipu_step hlt (hdec u u1 e) (hu u e)⟩
      by_cases hA : 48 ≤ z ∧ z ≤ 57
      · have hg := hgo (c.toNat - 48) (by omega) (fun u e => by obtain ⟨m, h1, h2⟩ := hm u e; omega)
        rw [show ((c.toNat - 48 : Nat) : Int) = z - 48 by omega] at hg
        obtain ⟨z1, z2⟩ := hA
        clear hgo hm hdec hn ha hz hc256 hp L0 L1
        go_wp2
        refine ⟨⟨k + 1, a * 16 + (z - 48), rfl, (by first | rfl | (congr 1; omega)), (by first | rfl | (congr 1; omega)), by omega, hg⟩, by simp [intOf]; omega⟩
      · by_cases hl : 97 ≤ L ∧ L ≤ 102
        · have hg := hgo (L - 87).toNat (by omega) (fun u e => by obtain ⟨m, h1, h2⟩ := hm u e; omega)
          rw [show (((L - 87).toNat : Nat) : Int) = L - 97 + 10 by omega] at hg
          obtain ⟨l1, l2⟩ := hl
          have l3 : L ≤ 122 := by omega
          have l4 : decide (16 ≤ L - 97 + 10) = false := df (by omega)
          have hq : z = 95 ∨ ((z == 95) = false ∧ decide (48 ≤ z) = false) ∨ ((z == 95) = false ∧ decide (48 ≤ z) = true ∧ decide (z ≤ 57) = false) := by
            simp only [decide_eq_true_eq, decide_eq_false_iff_not, beq_eq_false_iff_ne]
            omega
          clear hgo hm hdec hn ha hz hc256 hp L0 L1 hA
          rcases hq with rfl | ⟨q1, q2⟩ | ⟨q1, q2, q3⟩
          all_goals
            go_wp2_with (go_at_call 99; refine (LW.out _).mono ?_; rintro e w' ⟨rfl, rfl⟩)
            refine ⟨⟨k + 1, a * 16 + (L - 97 + 10), rfl, (by first | rfl | (congr 1; omega)), (by first | rfl | (congr 1; omega)), by omega, hg⟩, by simp [intOf]; omega⟩
        · have hno : Hid (∀ u, s ≠ text16 u) := fun u e => by obtain ⟨m, h1, h2⟩ := hm u e; omega
          have hq : z = 95 ∨ ((z == 95) = false ∧ decide (48 ≤ z) = false) ∨ ((z == 95) = false ∧ decide (48 ≤ z) = true ∧ decide (z ≤ 57) = false) := by
            simp only [decide_eq_true_eq, decide_eq_false_iff_not, beq_eq_false_iff_ne]
            omega
          have hr : decide (97 ≤ L) = false ∨ (decide (97 ≤ L) = true ∧ decide (L ≤ 122) = false) ∨ (97 ≤ L ∧ L ≤ 122 ∧ 16 ≤ L - 97 + 10) := by
            simp only [decide_eq_true_eq, decide_eq_false_iff_not]
            omega
          clear hgo hm hdec hn ha hz hc256 hp hA hl
          rcases hr with r1 | ⟨r1, r2⟩ | ⟨r1, r2, r3⟩
          all_goals
            rcases hq with rfl | ⟨q1, q2⟩ | ⟨q1, q2, q3⟩
            all_goals
              go_wp2_with (go_at_call 99; refine (LW.out _).mono ?_; rintro e w' ⟨rfl, rfl⟩)
              go_ret2
              exact ⟨.inr ⟨rfl, hno.out⟩, hB.out⟩
    · obtain rfl : k = 16 := by omega
      have hfin : Hid (n < 18446744073709551616 ∧ ∀ u, u < 18446744073709551616 → s = text16 u → n = u) := ⟨by simpa using hn, fun u h1 h2 => by have := hdec u h1 h2; simpa using this⟩
      subst ha
      clear hdec hn
      go_wp2
      go_ret2
      exact ⟨.inl ⟨n, hfin.out.1, rfl, hfin.out.2⟩, hB.out⟩

set_option maxHeartbeats 1000000 in
theorem toErr (s : ByteArray) (hs : s.size ≤ 281474976710656) (w : World) (hE : ErrS w) :
    Calls Tryz.prog 74 #[.string ⟨#[80, 97, 114, 115, 101, 85, 105, 110, 116]⟩, .string s, .int .i64 16, .int .i64 64, .iface 142 (.int .i64 2)] w fun e w' => (∃ (t : TypeId) (N : Nat), e = .returned (.iface t (.pointer (some ⟨N, 0, none⟩)))) ∧ Below w.heap.size w w' := by
  obtain ⟨t1, p1, h1⟩ := hE
  have c1 := World.var?_cell gErrS h1 0
  refine (Any.strconv_toError_syntax Tryz.lays245 ⟨#[80, 97, 114, 115, 101, 85, 105, 110, 116]⟩ s 16 64 _ w hs c1 (.inr ⟨_, _, rfl⟩)).mono ?_
  rintro e w' ⟨N, rfl, _, _, hb⟩
  exact ⟨⟨_, N, rfl⟩, hb⟩

set_option maxHeartbeats 2000000 in
/-- What the library's ParseUint tells of sixteen bytes. -/
theorem pu_core (s : ByteArray) (hs : s.size = 16) (w : World) (hE : ErrS w) :
    Calls Tryz.prog 48 #[.string s, .int .i64 16, .int .i64 64] w fun e w' => ((∃ n : Nat, n < 18446744073709551616 ∧ e = .returned (.tuple #[.int .u64 (n : Int), .nilIface]) ∧ ∀ u, u < 18446744073709551616 → s = text16 u → n = u) ∨ ((∃ (n : Int) (t : TypeId) (N : Nat), e = .returned (.tuple #[.int .u64 n, .iface t (.pointer (some ⟨N, 0, none⟩))])) ∧ ∀ u, s ≠ text16 u)) ∧ Below w.heap.size w w' := by
  have IP : Hid _ := ipu_core s hs
  have TE : Hid _ := toErr s (by omega)
  have hE0 : Hid (ErrS w) := hE
  clear hE hs
  go_enter Tryz.func48, Tryz.ntmps48
  go_wp2_with fail
  refine (IP.out _).mono ?_
  rintro e w1 ⟨(⟨n, hn, rfl, hu⟩ | ⟨rfl, hno⟩), c1⟩
  · have hn0 : Hid _ := hn
    replace hu : Hid _ := hu
    clear hn
    go_wp2
    go_ret2
    exact ⟨.inl ⟨n, hn0.out, rfl, hu.out⟩, c1⟩
  · replace hno : Hid _ := hno
    go_wp2_with fail
    refine (TE.out _ (hE0.out.below c1)).mono ?_
    rintro e w2 ⟨⟨t, N, rfl⟩, c2⟩
    go_wp2
    go_ret2
    exact ⟨.inr ⟨⟨_, _, _, rfl⟩, hno.out⟩, belowT c1 c2⟩
theorem toList_ne2 {a b : ByteArray} (h : a ≠ b) : (a.toList == b.toList) = false :=
  beq_false_of_ne fun e => h (by rw [ByteArray.toList_eq, ByteArray.toList_eq] at e; exact ByteArray.ext (Array.toList_inj.1 e))
theorem pu_yes (u : Nat) (hu : u < 18446744073709551616) (w : World) (hE : ErrS w) :
    Calls Tryz.prog 48 #[.string (text16 u), .int .i64 16, .int .i64 64] w fun e w' => e = .returned (.tuple #[.int .u64 (u : Int), .nilIface]) ∧ Below w.heap.size w w' := by
  refine (pu_core (text16 u) (text16_size u) w hE).mono ?_
  rintro e w' ⟨(⟨n, hn, rfl, h⟩ | ⟨_, h⟩), hb⟩
  · rw [h u hu rfl]; exact ⟨rfl, hb⟩
  · exact absurd rfl (h u)
/-- What must be there: the tables and the library's error. -/
def Six (w : World) : Prop := Five w ∧ ErrS w
theorem Six.below {w w' : World} (h : Six w) (hb : Below w.heap.size w w') : Six w' := ⟨h.1.below hb, h.2.below hb⟩

set_option maxHeartbeats 2000000 in
theorem parse_word (u : Nat) (hu : u < 18446744073709551616) (b : Bool) (hw : b = true ↔ Whole (u : Int)) (w : World) (hS : Six w) :
    Calls Tryz.prog 24 #[.string (text16 u)] w fun e w' => e = .returned (.tuple #[.int .u64 (if b then (u : Int) else 0), .int .i64 (if b then 0 else 5)]) ∧ Below w.heap.size w w' := by
  have PU : Hid _ := pu_yes u hu
  have TX : Hid _ := itext u hu
  have OK : Hid _ := iok (u : Int) ⟨by omega, by omega⟩ b hw
  have hsz := text16_size u
  generalize text16 u = s at *
  have hS0 : Hid (Six w) := hS
  clear hS hw hu
  go_enter Tryz.func24, Tryz.ntmps24
  go_wp2_with fail
  refine (PU.out _ ?_).mono ?_
  · exact hS0.out.2
  rintro e w1 ⟨rfl, d1⟩
  have c1 : Below w.heap.size w w1 := Below.trans (by go_grown) (d1.mono (by simp; try omega))
  have hB := c1
  clear c1 d1
  go_wp2_with fail
  refine (TX.out _ ?_).mono ?_
  · exact (hS0.out.below hB).1.2
  rintro e w2 ⟨rfl, d2⟩
  have c2 : Below w1.heap.size w1 w2 := Below.trans (by go_grown) (d2.mono (by simp; try omega))
  replace hB := belowT hB c2
  clear c2 d2
  go_wp2_with fail
  refine (OK.out _).mono ?_
  rintro e w3 ⟨rfl, d3⟩
  have c3 : Below w2.heap.size w2 w3 := Below.trans (by go_grown) (d3.mono (by simp; try omega))
  replace hB := belowT hB c3
  clear c3 d3
  cases b
  all_goals
    go_wp2
    go_ret2
    exact ⟨rfl, hB⟩

set_option maxHeartbeats 2000000 in
theorem parse_short (s : ByteArray) (hs : s.size ≠ 16) (w : World) :
    Calls Tryz.prog 24 #[.string s] w fun e w' => e = .returned (.tuple #[.int .u64 0, .int .i64 6]) ∧ Below w.heap.size w w' := by
  have h : ((s.size : Int) == 16) = false := by simp; omega
  clear hs
  go_enter Tryz.func24, Tryz.ntmps24
  go_wp2
  go_ret2
  exact ⟨rfl, Below.refl _ _⟩

set_option maxHeartbeats 2000000 in
theorem parse_no (s : ByteArray) (hs : s.size = 16) (h : ∀ u, u < 18446744073709551616 → s ≠ text16 u) (w : World) (hS : Six w) :
    Calls Tryz.prog 24 #[.string s] w fun e w' => e = .returned (.tuple #[.int .u64 0, .int .i64 6]) ∧ Below w.heap.size w w' := by
  have PU : Hid _ := pu_core s hs
  have TX : Hid (∀ n : Nat, n < 18446744073709551616 → ∀ w, DeB w → Calls Tryz.prog 15 #[.int .u64 (n : Int)] w fun e w' => e = .returned (.string (text16 n)) ∧ Below w.heap.size w w') := fun n hn w hD => itext n hn w hD
  have hS0 : Hid (Six w) := hS
  have h0 : Hid _ := h
  clear hS h
  go_enter Tryz.func24, Tryz.ntmps24
  go_wp2_with fail
  refine (PU.out _ hS0.out.2).mono ?_
  rintro e w1 ⟨(⟨n, hn, rfl, _⟩ | ⟨⟨n, t, N, rfl⟩, _⟩), c1⟩
  · have hne := toList_ne2 (fun e => h0.out n hn e.symm)
    replace TX : Hid _ := TX.out n hn
    clear hn
    generalize text16 n = T at *
    go_wp2_with fail
    refine (TX.out _ (hS0.out.below c1).1.2).mono ?_
    rintro e w2 ⟨rfl, c2⟩
    go_wp2
    go_ret2
    exact ⟨rfl, belowT c1 c2⟩
  · go_wp2
    go_ret2
    exact ⟨rfl, c1⟩

/-- PARSE and UNWORD tell the same of a text. -/
theorem reads_same (s : ByteArray) (hs : s.size ≤ 281474976710656) : ∃ V E : Int,
    (∀ w, Six w → Calls Tryz.prog 24 #[.string s] w fun e w' => e = .returned (.tuple #[.int .u64 V, .int .i64 E]) ∧ Below w.heap.size w w')
    ∧ (∀ w, Calls Tryz.prog 25 #[.string s] w fun e w' => e = .returned (.tuple #[.int .u64 V, .int .i64 E]) ∧ Below w.heap.size w w') := by
  by_cases h : ∃ u, u < 18446744073709551616 ∧ s = text16 u
  · obtain ⟨u, hu, rfl⟩ := h
    by_cases hw : Whole (u : Int)
    · exact ⟨_, _, parse_word u hu true (by simp [hw]), unword_yes u hu hw⟩
    · exact ⟨_, _, parse_word u hu false (by simp [hw]), unword_bad u hu hw⟩
  · have h2 : ∀ u, u < 18446744073709551616 → s ≠ text16 u := fun u hu e => h ⟨u, hu, e⟩
    by_cases h16 : s.size = 16
    · exact ⟨_, _, parse_no s h16 h2, unword_no s hs h2⟩
    · exact ⟨_, _, fun w _ => parse_short s h16 w, unword_no s hs h2⟩
end Go.Proofs.YtlipbdiijjfheaaGreatDoor
