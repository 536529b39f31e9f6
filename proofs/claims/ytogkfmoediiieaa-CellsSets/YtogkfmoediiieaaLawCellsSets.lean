/-
  The law CellsSets: it returns true for any two lists and any word, in whatever memory.
-/
import Derived.Test.YtogkfmoediiieaaUAwake
import Derived.Test.YtogkfmoediiieaaUEasy
import Derived.Test.YtogkfmoediiieaaUApart
import Derived.Laws.BitsAllLaws
import Derived.Handy
import Derived.Deep.QuietTactic
import Derived.Test.YtogkfmoediiieaaProg
import Derived.WalkSpells
import Derived.WalkLawsBesides
import Derived.BigQuiet
import Derived.PlainAid
import Derived.Deep.RegionWith
import Derived.Deep.RegionHeld3
import Derived.WalkSmall
import Derived.Deep.CutRange
import Derived.BigRegion
import Derived.OwnWalk
import Derived.Laws.OwnMore
import Derived.OneCell
import Derived.Laws.CopyOwn
import Derived.Sort.Row
import Derived.Deep.Cut
import Derived.Sort.LotD3
import Derived.Deep.LoopGhost
import Derived.Sort.WalkA6
import Derived.Sort.Walk13a
import Derived.Sort.LotA
import Derived.Sort.LotB
import Derived.Sort.LotD1
import Derived.Deep.Draws
import Derived.WalkKit
import Derived.BigGuard
import Derived.BigCall
import Derived.CellFam
import Derived.Sort.WalkB3
import Derived.Sort.WalkB12
import Derived.RangeFuncFrom
import Derived.RangeFuncCalls
import Derived.RangeFuncLeaves
import Derived.OwnWalkIn
import Derived.TacticsInMore
import Derived.LoopNIn
import Derived.LoopIn
import Derived.RegionIn
import Derived.Stop.RegionWithIn
import Derived.Deep.OwnRows
import Derived.Deep.RegionLaw
import Derived.Laws.AppendOwn
import Derived.Laws.AppendOwnNone
import Derived.BigFrame
namespace Go.Proofs.Ytogkfmoediiieaa
open Go.RowKit

def inY (Y : List Int) (x : Int) : Bool := decide (x ∈ Y)

def outY (Y : List Int) (x : Int) : Bool := !decide (x ∈ Y)

theorem filter_next {p : Int → Bool} {X : List Int} {i : Nat} (h : i < X.length) : (X.take (i + 1)).filter p = (X.take i).filter p ++ if p X[i] = true then [X[i]] else [] := by
  rw [List.take_succ_eq_append_getElem h, List.filter_append]
  congr 1
  by_cases hp : p X[i] = true <;> simp [hp]

theorem filter_len {p : Int → Bool} {X : List Int} {i : Nat} : ((X.take i).filter p).length ≤ X.length :=
  Nat.le_trans (List.length_filter_le _ _) (by rw [List.length_take]; omega)

set_option maxHeartbeats 16000000 in
set_option maxRecDepth 20000 in
theorem cellsSets_walk (sA : Value) (A : List Int) (sB : Value) (B : List Int) (x0 : Int) (w : World) (hA : Lst w sA A) (uA : ∀ x ∈ A, U64 x) (aA : Addressed sA) (hB : Lst w sB B) (uB : ∀ x ∈ B, U64 x) (aB : Addressed sB) (x1 : 0 ≤ x0) (x2 : x0 < 18446744073709551616) :
    Calls Try.prog 5 #[sA, sB, .int .u64 x0] w fun e w' => e = .returned (.bool true) ∧ Below w.heap.size w w' := by
  have AW := hidd fun w2 => cawake w2
  have LA := hidd hA
  have LB := hidd hB
  have UA := hidd uA
  have UB := hidd uB
  have hx0 : Hid (U64 x0) := hidd ⟨x1, x2⟩
  obtain ⟨pA, cA, rfl⟩ := hA.len
  obtain ⟨pB, cB, rfl⟩ := hB.len
  have AA := hidd aA
  have AB := hidd aB
  clear hA hB uA uB x1 x2 aA aB
  by_cases h : A.length ≤ 200 ∧ B.length ≤ 200
  · obtain ⟨nA, nB⟩ := h
    have nA' : decide (200 < A.length) = false := decide_eq_false (by omega)
    have nB' : decide (200 < B.length) = false := decide_eq_false (by omega)
    go_enter Try.func5, Try.ntmps5
    have S := hidd (lset _ A (by omega) UA.out w LA.out)
    go_wp2_with fail
    refine S.out.mono ?_
    rintro e w1 ⟨⟨vX, X, rfl, rX, mX, nX, lX⟩, b1⟩
    have RX := hidd rX
    have MX := hidd mX
    replace LB := hidd (LB.out.keep b1)
    replace LA := hidd (LA.out.keep b1)
    obtain ⟨pX, cX, rfl⟩ := lX.len
    clear S rX mX
    have S := hidd (lset _ B (by omega) UB.out w1 LB.out)
    go_wp2_with fail
    refine S.out.mono ?_
    rintro e w2 ⟨⟨vY, Y, rfl, rY, mY, nY, lY⟩, b2⟩
    have RY := hidd rY
    have MY := hidd mY
    have LX := hidd (lX.keep b2)
    have LY := hidd lY
    replace LB := hidd (LB.out.keep b2)
    replace LA := hidd (LA.out.keep b2)
    obtain ⟨pY, cY, rfl⟩ := lY.len
    have B2 := hidd (belowT b1 b2)
    have UX : Hid (∀ x ∈ X, U64 x) := hidd fun x hx => UA.out x ((MX.out x).1 hx)
    have UY : Hid (∀ x ∈ Y, U64 x) := hidd fun x hx => UB.out x ((MY.out x).1 hx)
    clear S rY mY b1 b2 lX lY
    obtain ⟨i0, hi, hz0, hz1, hz2⟩ := info_parts infoU64
    go_wp2_with fail
    go_loopw [9, 10, 11] (fun v9 v10 v11 wr => ∃ (i : Nat) (M N : List Int), i ≤ X.length ∧ v11 = .int .i64 (i : Int) ∧ Hid (wr.ownsRow w2.heap.size 24 1 v9 M.length (vals M)) ∧ Hid (wr.ownsRow w2.heap.size 24 1 v10 N.length (vals N)) ∧ Hid (v9.ownBlock = none ∨ v9.ownBlock ≠ v10.ownBlock) ∧ Hid (M = (X.take i).filter (inY Y)) ∧ Hid (N = (X.take i).filter (outY Y)) ∧ Below w2.heap.size w2 wr) (fun _ _ v11 _ => X.length - (intOf v11).toNat)
    case atStart => exact ⟨0, [], [], by omega, rfl, World.ownsRow_nil _ _ _ _, World.ownsRow_nil _ _ _ _, .inl rfl, hidd (by simp), hidd (by simp), Below.refl _ _⟩
    case round =>
      obtain ⟨i, M, N, hi2, rfl, hM, hN, hap, eM, eN, hB⟩ := hrel
      obtain ⟨pM, cM, rfl, -⟩ := own_slice hM.out
      obtain ⟨pN, cN, rfl, -⟩ := own_slice hN.out
      have nM : M.length ≤ 200 := by rw [eM.out]; exact Nat.le_trans filter_len (by omega)
      have nN : N.length ≤ 200 := by rw [eN.out]; exact Nat.le_trans filter_len (by omega)
      by_cases hlt : i < X.length
      · obtain ⟨pX', cX', e', -, hcX⟩ := LX.out
        simp only [Value.slice.injEq] at e'
        obtain ⟨rfl, -, -⟩ := e'
        obtain ⟨gX, oX, rfl, cX⟩ := hcX i hlt
        have gl := World.block_lt_of_cell? _ _ cX
        have c0 := keepLow hB cX gl
        have hxu : U64 X[i] := UX.out _ (List.getElem_mem hlt)
        have HS := hidd (lhas _ Y X[i] hxu RY.out UY.out (by omega) wr (LY.out.keep hB))
        have nM1 : Hid ((X.take (i + 1)).filter (inY Y) = M ++ if inY Y X[i] = true then [X[i]] else []) := hidd (by rw [filter_next hlt, eM.out])
        have nN1 : Hid ((X.take (i + 1)).filter (outY Y) = N ++ if outY Y X[i] = true then [X[i]] else []) := hidd (by rw [filter_next hlt, eN.out])
        have hin : Hid (inY Y X[i] = decide (X[i] ∈ Y) ∧ outY Y X[i] = !decide (X[i] ∈ Y)) := hidd ⟨rfl, rfl⟩
        clear hcX eM eN
        generalize decide (X[i] ∈ Y) = b at *
        generalize X[i]'_ = y at *
        go_wp2_with fail
        refine HS.out.mono ?_
        rintro e w3 ⟨rfl, b3⟩
        have c1 := keepCell b3 c0
        have hM3 := hidd (own_keep b3 hM.out)
        have hN3 := hidd (own_keep b3 hN.out)
        have hB3 := belowT hB b3
        have hsz := hB3.size
        clear HS hM hN hB b3 c0
        cases b with
        | true =>
          go_wp2_with (at_builtin; refine wpList_append_apart rfl (.tmp 43) (.tmp 48) 23 rfl w2.heap.size 24 i0 (.int .u64 0) 1 8 Try.underlying23 hi hz0 hz1 hz2 rfl (by decide) _ _ _ rfl (own_keep (allocB _ _) hM3.out) ⟨w3.heap.size, 0, none⟩ 1 1 (by decide) [.int .u64 y] rfl rfl (one_lies _ _ rfl _ _) (one_int _ _) (by unfold maxLen; omega) (by omega) (by simp; omega) ?_)
          intro v' w4 hown hgrow hblk
          have hB4 : Below w2.heap.size w2 w4 := (hB3.alloc hsz (.cells #[.int .u64 y] 24)).grown hgrow (by simp; omega) (own_block hM3.out)
          have hN4 : Hid (w4.ownsRow w2.heap.size 24 1 (.slice pN N.length cN) N.length (vals N)) := hidd ((own_keep (allocB w3 (.cells #[.int .u64 y] 24)) hN3.out).kept hgrow (by
            rcases hap.out with h | h
            · rw [h]
              cases pN with
              | none => exact .inl rfl
              | some a => exact .inr (by simp [Value.ownBlock])
            · exact .inr fun e => h e.symm))
          have hap4 : Hid (v'.ownBlock = none ∨ v'.ownBlock ≠ (Value.slice pN N.length cN).ownBlock) := hidd (by
            rcases hblk with e | e
            · rw [e]; exact hap.out
            · refine .inr ?_
              rw [e]
              intro h
              have := (own_lt hN3.out _ h.symm).2
              omega)
          have hM4 : Hid (w4.ownsRow w2.heap.size 24 1 v' (M ++ [y]).length (vals (M ++ [y]))) := hidd (by
            have e1 : (M ++ [y]).length = M.length + 1 := by simp
            have e2 : vals (M ++ [y]) = vals M ++ [.int .u64 y] := by simp [vals]
            rw [e1, e2]; exact hown)
          have eM4 : Hid (M ++ [y] = (X.take (i + 1)).filter (inY Y)) := hidd (by rw [nM1.out, hin.out.1]; simp)
          have eN4 : Hid (N = (X.take (i + 1)).filter (outY Y)) := hidd (by rw [nN1.out, hin.out.2]; simp)
          clear hown hgrow hblk hM3 hN3 hap hB3 hin nM1 nN1 c1
          go_wp2_with fail
          go_roundw
          case rel => exact ⟨i + 1, M ++ [y], N, by omega, by go_num, hM4, hN4, hap4, eM4, eN4, hB4⟩
          case measure => simp [intOf]; omega
        | false =>
          go_wp2_with (at_builtin; refine wpList_append_apart rfl (.tmp 50) (.tmp 55) 23 rfl w2.heap.size 24 i0 (.int .u64 0) 1 8 Try.underlying23 hi hz0 hz1 hz2 rfl (by decide) _ _ _ rfl (own_keep (allocB _ _) hN3.out) ⟨w3.heap.size, 0, none⟩ 1 1 (by decide) [.int .u64 y] rfl rfl (one_lies _ _ rfl _ _) (one_int _ _) (by unfold maxLen; omega) (by omega) (by simp; omega) ?_)
          intro v' w4 hown hgrow hblk
          have hB4 : Below w2.heap.size w2 w4 := (hB3.alloc hsz (.cells #[.int .u64 y] 24)).grown hgrow (by simp; omega) (own_block hN3.out)
          have hM4 : Hid (w4.ownsRow w2.heap.size 24 1 (.slice pM M.length cM) M.length (vals M)) := hidd ((own_keep (allocB w3 (.cells #[.int .u64 y] 24)) hM3.out).kept hgrow hap.out)
          have hap4 : Hid ((Value.slice pM M.length cM).ownBlock = none ∨ (Value.slice pM M.length cM).ownBlock ≠ v'.ownBlock) := hidd (by
            rcases hblk with e | e
            · rw [e]; exact hap.out
            · refine .inr ?_
              rw [e]
              intro h
              have := (own_lt hM3.out _ h).2
              omega)
          have hN4 : Hid (w4.ownsRow w2.heap.size 24 1 v' (N ++ [y]).length (vals (N ++ [y]))) := hidd (by
            have e1 : (N ++ [y]).length = N.length + 1 := by simp
            have e2 : vals (N ++ [y]) = vals N ++ [.int .u64 y] := by simp [vals]
            rw [e1, e2]; exact hown)
          have eM4 : Hid (M = (X.take (i + 1)).filter (inY Y)) := hidd (by rw [nM1.out, hin.out.1]; simp)
          have eN4 : Hid (N ++ [y] = (X.take (i + 1)).filter (outY Y)) := hidd (by rw [nN1.out, hin.out.2]; simp)
          clear hown hgrow hblk hM3 hN3 hap hB3 hin nM1 nN1 c1
          go_wp2_with fail
          go_roundw
          case rel => exact ⟨i + 1, M, N ++ [y], by omega, by go_num, hM4, hN4, hap4, eM4, eN4, hB4⟩
          case measure => simp [intOf]; omega
      · obtain rfl : i = X.length := by omega
        have eM1 : M = X.filter (inY Y) := by rw [eM.out, List.take_length]
        have eN1 : N = X.filter (outY Y) := by rw [eN.out, List.take_length]
        have RM : Hid (Rising M) := hidd (by rw [eM1]; exact RX.out.sublist List.filter_sublist)
        have RN : Hid (Rising N) := hidd (by rw [eN1]; exact RX.out.sublist List.filter_sublist)
        have MM : Hid (∀ z, z ∈ M ↔ z ∈ A ∧ z ∈ B) := hidd fun z => by rw [eM1, List.mem_filter, MX.out z]; unfold inY; rw [decide_eq_true_iff, MY.out z]
        have MN : Hid (∀ z, z ∈ N ↔ z ∈ A ∧ ¬ z ∈ B) := hidd fun z => by rw [eN1, List.mem_filter, MX.out z]; unfold outY; rw [Bool.not_eq_true', decide_eq_false_iff_not, MY.out z]
        have LM := hidd (Lst.own hM.out)
        have LN := hidd (Lst.own hN.out)
        replace LA := hidd (LA.out.keep hB)
        replace LB := hidd (LB.out.keep hB)
        replace LX := hidd (LX.out.keep hB)
        have Bz := hidd (belowT B2.out hB)
        clear eM eN eM1 eN1 hM hN hap hB B2 LY UY RY
        have S := hidd (eunion _ _ A B (by omega) UA.out UB.out wr LA.out LB.out)
        go_wp2_with fail
        refine S.out.mono ?_
        rintro e z1 ⟨⟨Ku, vu, rfl, lu, ru, mu, nu, uu⟩, b1⟩
        replace LA := hidd (LA.out.keep b1)
        replace LB := hidd (LB.out.keep b1)
        replace LX := hidd (LX.out.keep b1)
        replace LM := hidd (LM.out.keep b1)
        replace LN := hidd (LN.out.keep b1)
        have Lu := hidd lu
        have Ru := hidd ru
        have Kum := hidd mu
        replace Bz := hidd (belowT Bz.out b1)
        clear S lu ru mu uu b1
        have S := hidd (emeet _ _ A B (by omega) UA.out UB.out z1 LA.out LB.out)
        go_wp2_with fail
        refine S.out.mono ?_
        rintro e z2 ⟨⟨Km, vm, rfl, lm, rm, mm, nm, um⟩, b2⟩
        replace LA := hidd (LA.out.keep b2)
        replace LB := hidd (LB.out.keep b2)
        replace LX := hidd (LX.out.keep b2)
        replace LM := hidd (LM.out.keep b2)
        replace LN := hidd (LN.out.keep b2)
        replace Lu := hidd (Lu.out.keep b2)
        have Lm := hidd lm
        have Rm := hidd rm
        have Kmm := hidd mm
        replace Bz := hidd (belowT Bz.out b2)
        clear S lm rm mm um b2
        have S := hidd (eminus _ _ A B (by omega) UA.out UB.out z2 LA.out LB.out)
        go_wp2_with fail
        refine S.out.mono ?_
        rintro e z3 ⟨⟨Kn, vn, rfl, ln, rn, mn, nn, un⟩, b3⟩
        replace LA := hidd (LA.out.keep b3)
        replace LB := hidd (LB.out.keep b3)
        replace LX := hidd (LX.out.keep b3)
        replace LM := hidd (LM.out.keep b3)
        replace LN := hidd (LN.out.keep b3)
        replace Lu := hidd (Lu.out.keep b3)
        replace Lm := hidd (Lm.out.keep b3)
        have Ln := hidd ln
        have Rn := hidd rn
        have Knm := hidd mn
        replace Bz := hidd (belowT Bz.out b3)
        clear S ln rn mn un b3
        have e1 : Km = M := rising_ext Rm.out RM.out fun z => by rw [Kmm.out z, MM.out z]
        have e2 : Kn = N := rising_ext Rn.out RN.out fun z => by rw [Knm.out z, MN.out z]
        subst e1 e2
        obtain ⟨pu, cu, rfl⟩ := Lu.out.len
        obtain ⟨pm, cm, rfl⟩ := Lm.out.len
        obtain ⟨pn, cn, rfl⟩ := Ln.out.len
        have S := hidd (eset _ A (by omega) UA.out z3 LA.out)
        go_wp2_with fail
        refine S.out.mono ?_
        rintro e z4 ⟨⟨Ks, vs, rfl, ls, rs, ms, ns, us⟩, b4⟩
        replace LA := hidd (LA.out.keep b4)
        replace LB := hidd (LB.out.keep b4)
        replace LX := hidd (LX.out.keep b4)
        replace LM := hidd (LM.out.keep b4)
        replace LN := hidd (LN.out.keep b4)
        replace Lu := hidd (Lu.out.keep b4)
        replace Lm := hidd (Lm.out.keep b4)
        replace Ln := hidd (Ln.out.keep b4)
        have e3 : Ks = X := rising_ext rs RX.out fun z => by rw [ms z, MX.out z]
        subst e3
        have Ls := hidd ls
        replace Bz := hidd (belowT Bz.out b4)
        clear S ls rs ms us b4
        have S := hidd (lsame _ _ Ks (by omega) z4 Ls.out LX.out)
        go_wp2_with fail
        refine S.out.mono ?_
        rintro e z5 ⟨rfl, b5⟩
        replace LA := hidd (LA.out.keep b5)
        replace LB := hidd (LB.out.keep b5)
        replace LX := hidd (LX.out.keep b5)
        replace LM := hidd (LM.out.keep b5)
        replace LN := hidd (LN.out.keep b5)
        replace Lu := hidd (Lu.out.keep b5)
        replace Lm := hidd (Lm.out.keep b5)
        replace Ln := hidd (Ln.out.keep b5)
        replace Bz := hidd (belowT Bz.out b5)
        clear S b5 Ls
        have al := allocB z5 (.cells #[] 24)
        have O0 := hidd (own_fresh z5)
        have la := hidd (LA.out.keep al)
        go_wp2_with (at_builtin; refine wpList_append_lst (by rfl) (.tmp 93) (.tmp 94) rfl z5.heap.size _ 0 [] rfl O0.out _ A rfl la.out AA.out (by omega) al.size ?_)
        intro va z6 ho6 hg6
        have d6 : Below z5.heap.size z5 z6 := al.grown hg6 al.size (own_block O0.out)
        have O6 := hidd ho6
        have lb := hidd (LB.out.keep d6)
        have q6 := d6.size
        obtain ⟨pa, ca, rfl, -⟩ := own_slice ho6
        clear al O0 la ho6 hg6
        go_wp2_with (at_builtin; refine wpList_append_lst (by rfl) (.tmp 95) (.tmp 96) rfl z5.heap.size _ _ _ rfl O6.out _ B rfl lb.out AB.out (by omega) q6 ?_)
        intro vb z7 ho7 hg7
        have d7 : Below z5.heap.size z5 z7 := d6.grown hg7 q6 (own_block O6.out)
        have lab : Hid (Lst z7 vb (A ++ B)) := hidd (Lst.own (n := A.length + B.length) (by rw [show vals (A ++ B) = vals A ++ vals B by simp [vals]]; exact ho7))
        obtain ⟨pb, cb, rfl, -⟩ := own_slice ho7
        replace Bz := hidd (Bz.out.trans (d7.mono Bz.out.size))
        replace LA := hidd (LA.out.keep d7)
        replace LX := hidd (LX.out.keep d7)
        replace LM := hidd (LM.out.keep d7)
        replace LN := hidd (LN.out.keep d7)
        replace Lu := hidd (Lu.out.keep d7)
        replace Lm := hidd (Lm.out.keep d7)
        replace Ln := hidd (Ln.out.keep d7)
        clear O6 ho7 hg7 d7 d6 lb LB q6
        have S := hidd (lset _ (A ++ B) (by simp; omega) (fun x hx => (List.mem_append.1 hx).elim (UA.out x) (UB.out x)) z7 lab.out)
        go_wp2_with fail
        refine S.out.mono ?_
        rintro e z8 ⟨⟨v4, K4, rfl, r4, m4, n4, l4⟩, b8⟩
        replace LA := hidd (LA.out.keep b8)
        replace LX := hidd (LX.out.keep b8)
        replace LM := hidd (LM.out.keep b8)
        replace LN := hidd (LN.out.keep b8)
        replace Lu := hidd (Lu.out.keep b8)
        replace Lm := hidd (Lm.out.keep b8)
        replace Ln := hidd (Ln.out.keep b8)
        have e4 : K4 = Ku := rising_ext r4 Ru.out fun z => by rw [m4 z, Kum.out z, List.mem_append]
        subst e4
        have L4 := hidd l4
        replace Bz := hidd (belowT Bz.out b8)
        clear S lab r4 m4 n4 l4 b8
        have S := hidd (lsame _ _ K4 (by omega) z8 Lu.out L4.out)
        go_wp2_with fail
        refine S.out.mono ?_
        rintro e z9 ⟨rfl, b9⟩
        replace LA := hidd (LA.out.keep b9)
        replace LX := hidd (LX.out.keep b9)
        replace LM := hidd (LM.out.keep b9)
        replace LN := hidd (LN.out.keep b9)
        replace Lm := hidd (Lm.out.keep b9)
        replace Ln := hidd (Ln.out.keep b9)
        replace Bz := hidd (belowT Bz.out b9)
        clear S b9
        have S := hidd (lsame _ _ Km (by omega) z9 Lm.out LM.out)
        go_wp2_with fail
        refine S.out.mono ?_
        rintro e z10 ⟨rfl, b10⟩
        replace LA := hidd (LA.out.keep b10)
        replace LX := hidd (LX.out.keep b10)
        replace LN := hidd (LN.out.keep b10)
        replace Ln := hidd (Ln.out.keep b10)
        replace Bz := hidd (belowT Bz.out b10)
        clear S b10
        have S := hidd (lsame _ _ Kn (by omega) z10 Ln.out LN.out)
        go_wp2_with fail
        refine S.out.mono ?_
        rintro e z11 ⟨rfl, b11⟩
        replace LA := hidd (LA.out.keep b11)
        replace LX := hidd (LX.out.keep b11)
        replace Bz := hidd (belowT Bz.out b11)
        clear S b11
        have S := hidd (chas _ A x0 (by omega) z11 LA.out)
        go_wp2_with fail
        refine S.out.mono ?_
        rintro e z12 ⟨rfl, rfl⟩
        clear S
        have S := hidd (lhas _ Ks x0 hx0.out RX.out UX.out (by omega) _ LX.out)
        have ed : decide (x0 ∈ Ks) = decide (x0 ∈ A) := decide_eq_decide.2 (MX.out x0)
        rw [ed] at S
        clear ed
        go_wp2_with fail
        refine S.out.mono ?_
        rintro e z13 ⟨rfl, b13⟩
        replace Bz := hidd (belowT Bz.out b13)
        clear S b13
        generalize decide (x0 ∈ A) = p
        cases p
        all_goals
          go_wp2_with fail
          refine (AW.out _).mono ?_
          rintro e zz ⟨rfl, bz⟩
          go_wp2
          go_ret
          exact ⟨by simp, belowT Bz.out bz⟩
  · have hcase : 200 < A.length ∨ (A.length ≤ 200 ∧ 200 < B.length) := by omega
    rcases hcase with h1 | ⟨h1, h2⟩
    · have h1' : decide (200 < A.length) = true := decide_eq_true h1
      go_enter Try.func5, Try.ntmps5
      go_wp2_with fail
      refine (AW.out _).mono ?_
      rintro e w1 ⟨rfl, b1⟩
      go_wp2
      go_ret
      exact ⟨rfl, b1⟩
    · have h1' : decide (200 < A.length) = false := decide_eq_false (by omega)
      have h2' : decide (200 < B.length) = true := decide_eq_true h2
      go_enter Try.func5, Try.ntmps5
      go_wp2_with fail
      refine (AW.out _).mono ?_
      rintro e w1 ⟨rfl, b1⟩
      go_wp2
      go_ret
      exact ⟨rfl, b1⟩

end Go.Proofs.Ytogkfmoediiieaa
