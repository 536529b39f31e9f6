/-
  Written in one call or byte by byte, bytes wait, last and are lost alike: for all bytes, places and numbers, in whatever memory.
-/
import Derived.Test.YtinplpcobmbekaaDAwake
import Derived.Laws.CopyOwn
import Derived.Below
import Derived.Test.YtinplpcobmbekaaProg
import Derived.Handy
import Derived.Deep.QuietTactic
import Derived.WalkSpells
import Derived.WalkLawsBesides
import Derived.BigQuiet
import Derived.PlainAid
import Derived.Deep.RegionWith
import Derived.Laws.BitsAllLaws
import Derived.OwnWalk
import Derived.Laws.OwnMore
import Derived.Deep.RegionHeld3
import Derived.WalkSmall
import Derived.Deep.CutRange
import Derived.BigRegion
import Derived.OneCell
import Derived.Sort.Row
import Derived.ChangeSlices
import Derived.OpenShut
import Derived.Deep.AppendLies
import Derived.Laws.BytesArg
import Derived.Laws.CopyRow
import Derived.Laws.IdiomCopy
import Derived.Deep.OwnRows
import Derived.Deep.RegionLaw
namespace Go.Proofs.Ytinplpcobmbekaa
open Go.RowKit

set_option maxRecDepth 100000 in
set_option maxHeartbeats 8000000 in
theorem diskParts_walk (sX : Value) (X : List Int) (a0 k0 : Int) (W : World) (hX : LstK .u8 W sX X) (hx : ∀ x ∈ X, 0 ≤ x ∧ x < 256) (_ : -9223372036854775808 ≤ a0) (_ : a0 ≤ 9223372036854775807) (_ : -9223372036854775808 ≤ k0) (_ : k0 ≤ 9223372036854775807) :
    Calls Try.prog 5 #[sX, .int .i64 a0, .int .i64 k0] W fun e w' => TellsQ (.bool true) W e w' := by
  have CN := hidd (c_new W 400 (by omega) (by omega))
  have AW := hidd fun w => awake12 w
  have hA : ∃ A : Nat, A ≤ 127 ∧ bits .and .i64 a0 127 = (A : Int) := by
    have h := i64_mask a0 7 (by omega)
    rw [show (((2 ^ 7 - 1 : Nat)) : Int) = 127 by decide, show (((2 ^ 7 : Nat)) : Int) = 128 by decide] at h
    exact ⟨(a0 % 128).toNat, by omega, by rw [h]; omega⟩
  obtain ⟨A, hA, eA⟩ := hA
  have hK : ∃ K : Int, 0 ≤ K ∧ K ≤ 255 ∧ bits .and .i64 k0 255 = K := by
    have h := i64_mask k0 8 (by omega)
    rw [show (((2 ^ 8 - 1 : Nat)) : Int) = 255 by decide, show (((2 ^ 8 : Nat)) : Int) = 256 by decide] at h
    exact ⟨k0 % 256, by omega, by omega, h⟩
  obtain ⟨K, hK1, hK2, eK⟩ := hK
  obtain ⟨p, c, rfl, hc, hcell⟩ := hX
  have HL := hidd fun w (hb : Below W.heap.size W w) => lst_arg (c := c) hcell hb
  have HC := hidd hcell
  have HX := hidd hx
  obtain ⟨L, eL⟩ : ∃ L, X.length = L := ⟨_, rfl⟩
  have EL := hidd eL
  rw [eL] at hc ⊢
  clear hcell hx eL
  go_enter Try.func5, Try.ntmps5
  go_wp2_with fail
  refine CN.out.mono ?_
  rintro e w1 ⟨P, F, rfl, D, b, f⟩
  have e400 : clampN 400 = 400 := rfl
  rw [e400] at D
  have D1 := hidd (LD.start D b f)
  have CN2 := hidd (c_new w1 400 (by omega) (by omega))
  clear CN D b f
  go_wp2_with fail
  refine CN2.out.mono ?_
  rintro e w2 ⟨Q, G, rfl, D, b, f⟩
  rw [e400] at D
  have D2 := hidd (D1.out.two D b f)
  clear CN2 D1 D b f e400
  by_cases h2 : 200 < L
  · have h2' : (200 : Int) < (L : Int) := by omega
    go_wp2_with fail
    refine (AW.out _).mono ?_
    rintro e w6 ⟨rfl, b6⟩
    have D5 := hidd (D2.out.quiet b6)
    clear D2 b6
    go_wp2
    go_ret
    exact ⟨rfl, D5.out.d.bel⟩
  · have h2' : ¬ (200 : Int) < (L : Int) := by omega
    obtain ⟨LB, LZ⟩ := HL.out w2 D2.out.d.bel
    have C1 := hidd (c_write D2.out.d.cd A (by omega) (by omega) _ X HX.out LB (fun h0 z e hf => by have := LZ h0 z e; have := D2.out.d.fresh z hf; omega) (by rw [EL.out]; omega) (by simp [newD]))
    obtain ⟨k1, k2⟩ := wrS_ok (s := newD 400) (n := 400) (a := (A : Int)) (b := X) (by omega) (by rw [EL.out]; omega) rfl
    rw [k1, k2, Int.toNat_natCast, EL.out] at C1
    clear LB LZ k1 k2
    go_wp2_with fail
    refine C1.out.mono ?_
    rintro e w3 ⟨rfl, F3, d, f, k⟩
    have D3 := hidd (D2.out.fst d f k)
    clear C1 D2 d f k
    clear eA eK
    have T0 : Hid ((newD 400).wr A (X.take 0) = newD 400) := hidd (wr_zero rfl A)
    go_wp2_with fail
    go_loopw [9] (fun v9 wr => ∃ (i : Nat) (G' : Nat → Prop), i ≤ L ∧ v9 = .int .i64 (i : Int) ∧ Hid (LD2 W.heap.size W wr P ((newD 400).wr A X) 400 F3 Q ((newD 400).wr A (X.take i)) 400 G')) (fun v9 _ => L - (intOf v9).toNat)
    case atStart => exact ⟨0, G, by omega, rfl, by rw [T0.out]; exact D3⟩
    case round =>
      clear D3 T0
      obtain ⟨i, G', hi, rfl, D⟩ := hrel
      by_cases h1 : i < L
      · have h1' : (i : Int) < (L : Int) := by omega
        have hiX : i < X.length := by rw [EL.out]; exact h1
        obtain ⟨g, o, rfl, hcl⟩ := HC.out i hiX
        have hic : ¬ i = c := by omega
        have hnx := wr_more (n := 400) (A := A) hiX (by rw [EL.out]; omega)
        have hxb := HX.out _ (List.getElem_mem hiX)
        generalize X[i] = x at *
        obtain ⟨LB, LZ⟩ := lst_byte (c := c - i) hcl D.out.e.bel
        have C1 := hidd (c_write D.out.e.cd ((A : Int) + (i : Int)) (by omega) (by omega) _ [x] (fun z hz => by rw [List.mem_singleton] at hz; rw [hz]; exact hxb) LB (fun _ z e hf => by have := LZ z e; have := D.out.e.fresh z hf; omega) (by simp) (by rw [(wr_new 400 A (X.take i)).1, List.length_take]; omega))
        obtain ⟨k1, k2⟩ := wrS_ok (s := (newD 400).wr A (X.take i)) (n := 400) (a := (A : Int) + (i : Int)) (b := [x]) (by omega) (by simp; omega) (wr_new 400 A (X.take i)).2.1
        rw [k1, k2, show ((A : Int) + (i : Int)).toNat = A + i by omega, hnx] at C1
        clear LB LZ k1 k2 hnx hcl hxb
        go_wp2_with fail
        refine C1.out.mono ?_
        rintro e w4 ⟨rfl, G2, d, f, k⟩
        have D2 := hidd (D.out.snd d f k)
        clear C1 D d f k
        go_wp2_with fail
        go_roundw
        case rel => exact ⟨i + 1, G2, by omega, by go_num, D2⟩
        case measure => simp [intOf]; omega
      · obtain rfl : i = L := by omega
        have h1' : decide ((i : Int) < (i : Int)) = false := by simp
        rw [List.take_of_length_le (by rw [EL.out]; omega)] at D
        obtain ⟨s, es⟩ : ∃ s, (newD 400).wr A X = s := ⟨_, rfl⟩
        have hsw : s.waits.length = i := by rw [← es, (wr_new 400 A X).1, EL.out]
        rw [es] at D
        have C1 := hidd (c_waits D.out.d.cd)
        rw [hsw] at C1
        have HS := hidd hsw
        clear es hsw
        go_wp2_with fail
        refine C1.out.mono ?_
        rintro e w4 ⟨rfl, b⟩
        have D2 := D.out.quiet b
        have C2 := hidd (c_waits D2.e.cd)
        rw [HS.out] at C2
        have D2 := hidd D2
        clear C1 D b
        go_wp2_with fail
        refine C2.out.mono ?_
        rintro e w5 ⟨rfl, b⟩
        have D3 := D2.out.quiet b
        have C3 := hidd (c_crash D3.d.cd K (by omega) (by omega))
        have D3 := hidd D3
        clear C2 D2 b
        go_wp2_with fail
        refine C3.out.mono ?_
        rintro e w6 ⟨rfl, F4, d, f, k⟩
        have D4 := D3.out.fst d f k
        have C4 := hidd (c_crash D4.e.cd K (by omega) (by omega))
        have D4 := hidd D4
        clear C3 D3 d f k
        go_wp2_with fail
        refine C4.out.mono ?_
        rintro e w7 ⟨rfl, G4, d, f, k⟩
        have D5 := D4.out.snd d f k
        have C5 := hidd (c_read D5.d.cd 0 400 (by omega) (by omega) (by omega) (by omega))
        have hk0 : rdK (s.crash K) 400 0 400 = 0 := (rd_ok (out_in (by omega) (by omega) (by omega)) rfl).1
        rw [hk0] at C5
        have HK0 := hidd hk0
        have D5 := hidd D5
        clear C4 D4 d f k hk0
        go_wp2_with fail
        refine C5.out.mono ?_
        rintro e w8 ⟨v, rfl, o1, b⟩
        have D6 := D5.out.quiet b
        have C6 := hidd (c_read D6.e.cd 0 400 (by omega) (by omega) (by omega) (by omega))
        rw [HK0.out] at C6
        have D6 := hidd D6
        have O1 := hidd o1
        clear C5 D5 b o1
        go_wp2_with fail
        refine C6.out.mono ?_
        rintro e w9 ⟨u, rfl, o2, b⟩
        have D7 := D6.out.quiet b
        obtain ⟨t, et⟩ : ∃ t, strOfNums (rdL (s.crash K) 400 0 400) = t := ⟨_, rfl⟩
        have CV1 := str_of_own (own_keep b O1.out)
        have CV2 := str_of_own o2
        rw [et] at CV1 CV2
        have C8 := hidd (c_waits D7.d.cd)
        rw [show (s.crash K).waits.length = 0 from rfl] at C8
        have D7 := hidd D7
        clear C6 D6 b o2 O1 et
        go_wp2_with fail
        refine C8.out.mono ?_
        rintro e w10 ⟨rfl, b⟩
        have D8 := hidd (D7.out.quiet b)
        clear C8 D7 b CV1 CV2
        go_wp2_with fail
        refine (AW.out _).mono ?_
        rintro e w11 ⟨rfl, b⟩
        have D9 := hidd (D8.out.quiet b)
        clear D8 b
        go_wp2
        go_ret
        exact ⟨rfl, D9.out.d.bel⟩

end Go.Proofs.Ytinplpcobmbekaa
