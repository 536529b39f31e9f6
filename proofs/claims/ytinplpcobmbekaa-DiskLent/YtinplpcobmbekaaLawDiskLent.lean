/-
  What a disk was handed, and what it tells, is no part of it: for all bytes and places, in whatever memory.
-/
import Derived.Test.YtinplpcobmbekaaDAwake
import Derived.Laws.CopyOwn
import Derived.Below
import Derived.Test.YtinplpcobmbekaaProg
import Derived.Handy
import Derived.Deep.QuietTactic
import Derived.WalkSpells
import Derived.WalkLawsBesides
import Derived.BigQuiet
import Derived.PlainAid
import Derived.Deep.RegionWith
import Derived.Laws.BitsAllLaws
import Derived.OwnWalk
import Derived.Laws.OwnMore
import Derived.Deep.RegionHeld3
import Derived.WalkSmall
import Derived.Deep.CutRange
import Derived.BigRegion
import Derived.OneCell
import Derived.Sort.Row
import Derived.ChangeSlices
import Derived.OpenShut
import Derived.Deep.AppendLies
import Derived.Laws.BytesArg
import Derived.Laws.CopyRow
import Derived.Laws.IdiomCopy
import Derived.Deep.OwnRows
import Derived.Deep.RegionLaw
namespace Go.Proofs.Ytinplpcobmbekaa
open Go.RowKit

set_option maxRecDepth 100000 in
set_option maxHeartbeats 8000000 in
theorem diskLent_walk (sX : Value) (X : List Int) (a0 : Int) (W : World) (hX : LstK .u8 W sX X) (hx : ∀ x ∈ X, 0 ≤ x ∧ x < 256) (_ : -9223372036854775808 ≤ a0) (_ : a0 ≤ 9223372036854775807) :
    Calls Try.prog 4 #[sX, .int .i64 a0] W fun e w' => TellsQ (.bool true) W e w' := by
  have CN := hidd (c_new W 300 (by omega) (by omega))
  have AW := hidd fun w => awake12 w
  obtain ⟨A, eA, hA⟩ : ∃ A : Nat, bits .and .i64 a0 65535 = (A : Int) ∧ A ≤ 65535 := by
    have h := i64_mask a0 16 (by omega)
    rw [show (((2 ^ 16 - 1 : Nat)) : Int) = 65535 by decide, show (((2 ^ 16 : Nat)) : Int) = 65536 by decide] at h
    exact ⟨(a0 % 65536).toNat, by rw [h]; omega, by omega⟩
  obtain ⟨p, c, rfl, hc, hcell⟩ := hX
  have HL := hidd fun w (hb : Below W.heap.size W w) => lst_arg (c := c) hcell hb
  have HC := hidd hcell
  have HX := hidd hx
  have LE := hidd fun h => lent (X := X) h
  obtain ⟨L, eL⟩ : ∃ L, X.length = L := ⟨_, rfl⟩
  have EL := hidd eL
  rw [eL] at hc LE ⊢
  clear hcell hx eL
  go_enter Try.func4, Try.ntmps4
  go_wp2_with fail
  refine CN.out.mono ?_
  rintro e w1 ⟨P, F, rfl, D, b, f⟩
  have e300 : clampN 300 = 300 := rfl
  rw [e300] at D
  have D1 := hidd (LD.start D b f)
  clear CN D b f e300
  have h3 : (L = 0) ∨ (200 < L) ∨ (0 < L ∧ L ≤ 200) := by omega
  rcases h3 with h0 | h2 | ⟨h0, h2⟩
  · subst h0
    go_wp2_with fail
    refine (AW.out _).mono ?_
    rintro e w6 ⟨rfl, b6⟩
    have D5 := hidd (D1.out.quiet b6)
    clear D1 b6
    go_wp2
    go_ret
    exact ⟨rfl, D5.out.bel⟩
  · have h2' : (200 : Int) < (L : Int) := by omega
    have h0' : ¬ L = 0 := by omega
    go_wp2_with fail
    refine (AW.out _).mono ?_
    rintro e w6 ⟨rfl, b6⟩
    have D5 := hidd (D1.out.quiet b6)
    clear D1 b6
    go_wp2
    go_ret
    exact ⟨rfl, D5.out.bel⟩
  · have h2' : ¬ (200 : Int) < (L : Int) := by omega
    have h0' : ¬ L = 0 := by omega
    obtain ⟨g, o, rfl, -⟩ := HC.out 0 (by rw [EL.out]; exact h0)
    have CL := hidd fun w (hb : Below W.heap.size W w) (j : Nat) (hj : j < X.length) => by
      obtain ⟨g', o', e', hcl⟩ := HC.out j hj
      simp only [Option.some.injEq, Addr.mk.injEq, and_true] at e'
      obtain ⟨rfl, rfl⟩ := e'
      exact (hb.cell (World.block_lt_of_cell? _ _ hcl)).trans hcl
    have CV0 : (convert 30 9 (.slice (some ⟨g, o, none⟩) L c)).run Try.prog w1 = .ok (.string (strOfNums X)) w1 :=
      run_convert_bytes_arg (P := Try.prog) w1 30 5 Try.underlying30 Try.underlying5 g o L c X EL.out (fun k hk => by
        rw [CL.out w1 D1.out.bel k (by rw [EL.out]; exact hk)]
        simp only [List.getD_eq_getElem?_getD]
        rw [List.getElem?_eq_getElem (by rw [EL.out]; exact hk)]
        rfl) 9 Try.underlying9
    obtain ⟨t, et⟩ : ∃ t, strOfNums X = t := ⟨_, rfl⟩
    rw [et] at CV0
    have ET := hidd et
    clear et
    have q1 : ((L : Int) == 0) = false := by simp; omega
    have q2 : decide ((200 : Int) < (L : Int)) = false := by simp; omega
    have OE := own_empty w1
    have LY := lie_row (CL.out (w1.alloc (.cells #[] 5)) (D1.out.bel.trans ((allocB w1 (.cells #[] 5)).mono D1.out.size)))
    obtain ⟨i0, hi, hz0, hz1, hz2⟩ := info_partsD infoByte
    have OEH := hidd OE
    have LYH := hidd LY
    clear OE LY
    go_wp2_with (at_builtin; refine wpList_append_lies _ rfl (.tmp 33) (.tmp 34) 30 rfl 0 5 i0 (.int .u8 0) 1 1 Try.underlying30 hi hz0 hz1 hz2 rfl (by decide) _ 0 [] rfl OEH.out ⟨g, o, none⟩ L c (bV X) rfl (by rw [bV_len, EL.out, Nat.mul_one]) LYH.out (bV_one X) h0 (by unfold maxLen; omega) (by omega) (Nat.zero_le _) (w1.heap.size + 1) (by simp) ?_; intro g6 c6 w6 hown hgrow hat hlt6)
    have hat : some w1.heap.size = some g6 ∨ g6 = w1.heap.size + 1 := hat
    have hgrow : (w1.alloc (.cells #[] 5)).grownBy w6 (some w1.heap.size) := hgrow
    have hg6 : w1.heap.size ≤ g6 := by
      rcases hat with h | h
      · have := Option.some.inj h; omega
      · omega
    have b6 : Below w1.heap.size w1 w6 := (allocB w1 (.cells #[] 5)).grown hgrow (by simp) fun k e => by have := Option.some.inj e; omega
    have OW : w6.ownsRow 0 5 1 (.slice (some ⟨g6, 0, none⟩) L c6) L (bV X) := by simpa using hown
    have hF6 : ∀ z, F z → z ≠ g6 := fun z hz e => by have := D1.out.cd.lt z hz; omega
    have D2 := D1.out.quiet b6
    have hB6 : W.heap.size ≤ g6 := Nat.le_trans D1.out.size hg6
    have LB : LstB w6 (.slice (some ⟨g6, 0, none⟩) L c6) X := ⟨_, c6, by rw [EL.out], fun _ => ⟨g6, 0, rfl, fun j hj => by rw [Nat.zero_add]; exact bytes_at OW j hj⟩⟩
    have C1 := hidd (c_write D2.cd 5 (by omega) (by omega) _ X HX.out LB (fun _ z e hz => hF6 z hz (by simpa [Value.ownBlock] using e.symm)) (by rw [EL.out]; omega) (by simp [newD]))
    obtain ⟨k1, k2⟩ := wrS_ok (s := newD 300) (n := 300) (a := 5) (b := X) (by omega) (by rw [EL.out]; omega) rfl
    rw [k1, k2] at C1
    obtain ⟨l1, l2, l3, l4⟩ := LE.out h2
    obtain ⟨s1, es1⟩ : ∃ s1, (newD 300).wr (5 : Int).toNat X = s1 := ⟨_, rfl⟩
    rw [show (newD 300).wr 5 X = s1 from es1] at l1 l2 l3 l4
    rw [es1] at C1
    have L1 := hidd (And.intro l1 (And.intro l2 (And.intro l3 l4)))
    have OWH := hidd OW
    have D2 := hidd D2
    have HF6 := hidd hF6
    clear hgrow hown hat b6 LB k1 k2 l1 l2 l3 l4 es1 OW hF6 D1 OEH LYH CV0 hi hz0 hz1 hz2
    refine C1.out.mono ?_
    rintro e w7 ⟨rfl, F3, d, f, k⟩
    have hlt6 := (World.ownsRow.lt OWH.out g6 rfl).2
    have OW7 : w7.ownsRow 0 5 1 (.slice (some ⟨g6, 0, none⟩) L c6) L (bV X) := own_same OWH.out fun z e => by
      have e' : g6 = z := by simpa [Value.ownBlock] using e
      exact f.block z (by omega) fun hz => HF6.out z hz e'.symm
    have hF7 : ∀ z, F3 z → z ≠ g6 := fun z hz e => (k z hz).elim (fun h => HF6.out z h e) fun h => by omega
    have D3 := D2.out.step d f k
    have hLp : (0 : Int) < (L : Int) := by omega
    obtain ⟨K, hK, eK⟩ : ∃ K : Nat, K < L ∧ (A : Int).tmod (L : Int) = (K : Int) := ⟨A % L, Nat.mod_lt _ h0, by rw [Int.tmod_eq_emod_of_nonneg (by omega)]; omega⟩
    have hKX : K < X.length := by rw [EL.out]; exact hK
    have c0 := bytes_at OW7 K hKX
    have f0 := OW7.frozenAt K
    have D4 := fun v => D3.poke (g := g6) (k := K) v hB6 hF7
    have D4 := hidd D4
    have HF7 := hidd hF7
    generalize X[K] = x0 at c0
    clear C1 D2 d f k OWH OW7 D3 hF7 HF6
    go_wp2_with fail
    have D5 := D4.out (.int .u8 ((x0 + 1) % 256))
    have C5 := hidd (c_read D5.cd 5 L (by omega) (by omega) (by omega) (by omega))
    rw [L1.out.1, L1.out.2.1] at C5
    have D5 := hidd D5
    clear D4 c0 f0
    generalize w7.setCell ⟨g6, K, none⟩ (.int .u8 ((x0 + 1) % 256)) = w8 at *
    refine C5.out.mono ?_
    rintro e w9 ⟨v, rfl, o1, b9⟩
    have D6 := D5.out.quiet b9
    have CV1 := str_of_own o1
    rw [ET.out] at CV1
    rw [EL.out] at o1
    obtain ⟨qv, c9, rfl⟩ := row_any o1
    obtain ⟨gv, rfl⟩ := row_some o1 h0
    have hgv := (World.ownsRow.lt o1 gv rfl).1
    have c1 := bytes_at o1 K hKX
    have f1 := o1.frozenAt K
    have D7 := hidd fun v => D6.poke (g := gv) (k := K) v (Nat.le_trans D5.out.size hgv) (fun z hz e => by have := D5.out.cd.lt z hz; omega)
    generalize X[K] = x1 at c1
    have D6 := hidd D6
    clear C5 D5 b9 o1 hgv D6
    go_wp2_with fail
    have D8 := D7.out (.int .u8 ((x1 + 3) % 256))
    have C8 := hidd (c_crash D8.cd 1000 (by omega) (by omega))
    have D8 := hidd D8
    clear D7 c1 f1 CV1
    generalize w9.setCell ⟨gv, K, none⟩ (.int .u8 ((x1 + 3) % 256)) = w10 at *
    refine C8.out.mono ?_
    rintro e w11 ⟨rfl, F4, d, f, k⟩
    have D9 := D8.out.step d f k
    have C9 := hidd (c_read D9.cd 5 L (by omega) (by omega) (by omega) (by omega))
    rw [L1.out.2.2.1, L1.out.2.2.2] at C9
    have D9 := hidd D9
    clear C8 D8 d f k
    go_wp2_with fail
    refine C9.out.mono ?_
    rintro e w12 ⟨u, rfl, o2, b12⟩
    have D10 := hidd (D9.out.quiet b12)
    have CV2 := str_of_own o2
    rw [ET.out] at CV2
    clear C9 D9 o2 b12
    go_wp2_with fail
    refine (AW.out _).mono ?_
    rintro e w13 ⟨rfl, b13⟩
    have D11 := hidd (D10.out.quiet b13)
    clear D10 b13 CV2
    go_wp2
    go_ret
    exact ⟨rfl, D11.out.bel⟩

end Go.Proofs.Ytinplpcobmbekaa
