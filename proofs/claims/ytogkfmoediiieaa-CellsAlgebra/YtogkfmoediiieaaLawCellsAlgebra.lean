/-
  The law CellsAlgebra: it returns true for any three lists, in whatever memory.
-/
import Derived.Test.YtogkfmoediiieaaUAwake
import Derived.Test.YtogkfmoediiieaaUEasy
import Derived.Laws.BitsAllLaws
import Derived.Handy
import Derived.Deep.QuietTactic
import Derived.Test.YtogkfmoediiieaaProg
import Derived.WalkSpells
import Derived.WalkLawsBesides
import Derived.BigQuiet
import Derived.PlainAid
import Derived.Deep.RegionWith
import Derived.Deep.RegionHeld3
import Derived.WalkSmall
import Derived.Deep.CutRange
import Derived.BigRegion
import Derived.OwnWalk
import Derived.Laws.OwnMore
import Derived.OneCell
import Derived.Laws.CopyOwn
import Derived.Sort.Row
import Derived.Deep.Cut
import Derived.Sort.LotD3
import Derived.Deep.LoopGhost
import Derived.Sort.WalkA6
import Derived.Sort.Walk13a
import Derived.Sort.LotA
import Derived.Sort.LotB
import Derived.Sort.LotD1
import Derived.Deep.Draws
import Derived.WalkKit
import Derived.BigGuard
import Derived.BigCall
import Derived.CellFam
import Derived.Sort.WalkB3
import Derived.Sort.WalkB12
import Derived.RangeFuncFrom
import Derived.RangeFuncCalls
import Derived.RangeFuncLeaves
import Derived.OwnWalkIn
import Derived.TacticsInMore
import Derived.LoopNIn
import Derived.LoopIn
import Derived.RegionIn
import Derived.Stop.RegionWithIn
import Derived.Deep.OwnRows
import Derived.Deep.RegionLaw
namespace Go.Proofs.Ytogkfmoediiieaa
open Go.RowKit

set_option maxHeartbeats 16000000 in
set_option maxRecDepth 20000 in
theorem cellsAlgebra_walk (sA : Value) (A : List Int) (sB : Value) (B : List Int) (sC : Value) (C : List Int) (w : World) (hA : Lst w sA A) (uA : ∀ x ∈ A, U64 x) (hB : Lst w sB B) (uB : ∀ x ∈ B, U64 x) (hC : Lst w sC C) (uC : ∀ x ∈ C, U64 x) :
    Calls Try.prog 7 #[sA, sB, sC] w fun e w' => e = .returned (.bool true) ∧ Below w.heap.size w w' := by
  have AW := hidd fun w2 => cawake w2
  have LA := hidd hA
  have LB := hidd hB
  have LC := hidd hC
  have UA := hidd uA
  have UB := hidd uB
  have UC := hidd uC
  obtain ⟨pA, cA, rfl⟩ := hA.len
  obtain ⟨pB, cB, rfl⟩ := hB.len
  obtain ⟨pC, cC, rfl⟩ := hC.len
  clear hA hB hC uA uB uC
  by_cases h : A.length ≤ 150 ∧ B.length ≤ 150 ∧ C.length ≤ 150
  · obtain ⟨nA, nB, nC⟩ := h
    have nA' : decide (150 < A.length) = false := decide_eq_false (by omega)
    have nB' : decide (150 < B.length) = false := decide_eq_false (by omega)
    have nC' : decide (150 < C.length) = false := decide_eq_false (by omega)
    have b0 : Below w.heap.size w w := Below.refl _ _
    go_enter Try.func7, Try.ntmps7
    have S := hidd (eunion _ _ A B (by omega) UA.out UB.out w LA.out LB.out)
    go_wp2_with fail
    refine S.out.mono ?_
    rintro e w1 ⟨⟨Ku, vu, rfl, lu, ru, mu, nu, uu⟩, b1⟩
    replace LA := hidd (LA.out.keep b1)
    replace LB := hidd (LB.out.keep b1)
    replace LC := hidd (LC.out.keep b1)
    have Lu := hidd lu
    have Ru := hidd ru
    have Mu := hidd mu
    have Uu := hidd uu
    have B1 := hidd (belowT b0 b1)
    clear S lu ru mu uu b1
    have S := hidd (eunion _ _ B A (by omega) UB.out UA.out w1 LB.out LA.out)
    go_wp2_with fail
    refine S.out.mono ?_
    rintro e w2 ⟨⟨Kv, vv, rfl, lv, rv, mv, nv, uv⟩, b2⟩
    replace LA := hidd (LA.out.keep b2)
    replace LB := hidd (LB.out.keep b2)
    replace LC := hidd (LC.out.keep b2)
    replace Lu := hidd (Lu.out.keep b2)
    have Lv := hidd lv
    have Rv := hidd rv
    have Mv := hidd mv
    have Uv := hidd uv
    have B2 := hidd (belowT B1.out b2)
    clear S lv rv mv uv b2 B1
    have S := hidd (emeet _ _ A B (by omega) UA.out UB.out w2 LA.out LB.out)
    go_wp2_with fail
    refine S.out.mono ?_
    rintro e w3 ⟨⟨Km, vm, rfl, lm, rm, mm, nm, um⟩, b3⟩
    replace LA := hidd (LA.out.keep b3)
    replace LB := hidd (LB.out.keep b3)
    replace LC := hidd (LC.out.keep b3)
    replace Lu := hidd (Lu.out.keep b3)
    replace Lv := hidd (Lv.out.keep b3)
    have Lm := hidd lm
    have Rm := hidd rm
    have Mm := hidd mm
    have Um := hidd um
    have B3 := hidd (belowT B2.out b3)
    clear S lm rm mm um b3 B2
    have S := hidd (eminus _ _ A B (by omega) UA.out UB.out w3 LA.out LB.out)
    go_wp2_with fail
    refine S.out.mono ?_
    rintro e w4 ⟨⟨Kn, vn, rfl, ln, rn, mn, nn, un⟩, b4⟩
    replace LA := hidd (LA.out.keep b4)
    replace LB := hidd (LB.out.keep b4)
    replace LC := hidd (LC.out.keep b4)
    replace Lu := hidd (Lu.out.keep b4)
    replace Lv := hidd (Lv.out.keep b4)
    replace Lm := hidd (Lm.out.keep b4)
    have Ln := hidd ln
    have Rn := hidd rn
    have Mn := hidd mn
    have Un := hidd un
    have B4 := hidd (belowT B3.out b4)
    clear S ln rn mn un b4 B3
    have S := hidd (eunion _ _ Km Kn (by omega) Um.out Un.out w4 Lm.out Ln.out)
    go_wp2_with fail
    refine S.out.mono ?_
    rintro e w5 ⟨⟨Kall, vall, rfl, lall, rall, mall, nall, uall⟩, b5⟩
    replace LA := hidd (LA.out.keep b5)
    replace LB := hidd (LB.out.keep b5)
    replace LC := hidd (LC.out.keep b5)
    replace Lu := hidd (Lu.out.keep b5)
    replace Lv := hidd (Lv.out.keep b5)
    replace Lm := hidd (Lm.out.keep b5)
    replace Ln := hidd (Ln.out.keep b5)
    have Lall := hidd lall
    have Rall := hidd rall
    have Mall := hidd mall
    have Uall := hidd uall
    have B5 := hidd (belowT B4.out b5)
    clear S lall rall mall uall b5 B4
    have S := hidd (eminus _ _ A A (by omega) UA.out UA.out w5 LA.out LA.out)
    go_wp2_with fail
    refine S.out.mono ?_
    rintro e w6 ⟨⟨Knone, vnone, rfl, lnone, rnone, mnone, nnone, unone⟩, b6⟩
    replace LA := hidd (LA.out.keep b6)
    replace LB := hidd (LB.out.keep b6)
    replace LC := hidd (LC.out.keep b6)
    replace Lu := hidd (Lu.out.keep b6)
    replace Lv := hidd (Lv.out.keep b6)
    replace Lm := hidd (Lm.out.keep b6)
    replace Ln := hidd (Ln.out.keep b6)
    replace Lall := hidd (Lall.out.keep b6)
    have Lnone := hidd lnone
    have Rnone := hidd rnone
    have Mnone := hidd mnone
    have Unone := hidd unone
    have B6 := hidd (belowT B5.out b6)
    clear S lnone rnone mnone unone b6 B5
    have S := hidd (eunion _ _ Ku C (by omega) Uu.out UC.out w6 Lu.out LC.out)
    go_wp2_with fail
    refine S.out.mono ?_
    rintro e w7 ⟨⟨Kx, vx, rfl, lx, rx, mx, nx, ux⟩, b7⟩
    replace LA := hidd (LA.out.keep b7)
    replace LB := hidd (LB.out.keep b7)
    replace LC := hidd (LC.out.keep b7)
    replace Lu := hidd (Lu.out.keep b7)
    replace Lv := hidd (Lv.out.keep b7)
    replace Lm := hidd (Lm.out.keep b7)
    replace Ln := hidd (Ln.out.keep b7)
    replace Lall := hidd (Lall.out.keep b7)
    replace Lnone := hidd (Lnone.out.keep b7)
    have Lx := hidd lx
    have Rx := hidd rx
    have Mx := hidd mx
    have Ux := hidd ux
    have B7 := hidd (belowT B6.out b7)
    clear S lx rx mx ux b7 B6
    have S := hidd (eunion _ _ B C (by omega) UB.out UC.out w7 LB.out LC.out)
    go_wp2_with fail
    refine S.out.mono ?_
    rintro e w8 ⟨⟨Kbc, vbc, rfl, lbc, rbc, mbc, nbc, ubc⟩, b8⟩
    replace LA := hidd (LA.out.keep b8)
    replace LB := hidd (LB.out.keep b8)
    replace LC := hidd (LC.out.keep b8)
    replace Lu := hidd (Lu.out.keep b8)
    replace Lv := hidd (Lv.out.keep b8)
    replace Lm := hidd (Lm.out.keep b8)
    replace Ln := hidd (Ln.out.keep b8)
    replace Lall := hidd (Lall.out.keep b8)
    replace Lnone := hidd (Lnone.out.keep b8)
    replace Lx := hidd (Lx.out.keep b8)
    have Lbc := hidd lbc
    have Rbc := hidd rbc
    have Mbc := hidd mbc
    have Ubc := hidd ubc
    have B8 := hidd (belowT B7.out b8)
    clear S lbc rbc mbc ubc b8 B7
    have S := hidd (eunion _ _ A Kbc (by omega) UA.out Ubc.out w8 LA.out Lbc.out)
    go_wp2_with fail
    refine S.out.mono ?_
    rintro e w9 ⟨⟨Ky, vy, rfl, ly, ry, my, ny, uy⟩, b9⟩
    replace LA := hidd (LA.out.keep b9)
    replace LC := hidd (LC.out.keep b9)
    replace Lu := hidd (Lu.out.keep b9)
    replace Lv := hidd (Lv.out.keep b9)
    replace Lm := hidd (Lm.out.keep b9)
    replace Ln := hidd (Ln.out.keep b9)
    replace Lall := hidd (Lall.out.keep b9)
    replace Lnone := hidd (Lnone.out.keep b9)
    replace Lx := hidd (Lx.out.keep b9)
    replace Lbc := hidd (Lbc.out.keep b9)
    have Ly := hidd ly
    have Ry := hidd ry
    have My := hidd my
    have Uy := hidd uy
    have B9 := hidd (belowT B8.out b9)
    clear S ly ry my uy b9 B8
    have S := hidd (emeet _ _ A Kbc (by omega) UA.out Ubc.out w9 LA.out Lbc.out)
    go_wp2_with fail
    refine S.out.mono ?_
    rintro e w10 ⟨⟨Kp, vp, rfl, lp, rp, mp, np, up⟩, b10⟩
    replace LA := hidd (LA.out.keep b10)
    replace LC := hidd (LC.out.keep b10)
    replace Lu := hidd (Lu.out.keep b10)
    replace Lv := hidd (Lv.out.keep b10)
    replace Lm := hidd (Lm.out.keep b10)
    replace Ln := hidd (Ln.out.keep b10)
    replace Lall := hidd (Lall.out.keep b10)
    replace Lnone := hidd (Lnone.out.keep b10)
    replace Lx := hidd (Lx.out.keep b10)
    replace Lbc := hidd (Lbc.out.keep b10)
    replace Ly := hidd (Ly.out.keep b10)
    have Lp := hidd lp
    have Rp := hidd rp
    have Mp := hidd mp
    have Up := hidd up
    have B10 := hidd (belowT B9.out b10)
    clear S lp rp mp up b10 B9
    have S := hidd (emeet _ _ A C (by omega) UA.out UC.out w10 LA.out LC.out)
    go_wp2_with fail
    refine S.out.mono ?_
    rintro e w11 ⟨⟨Kac, vac, rfl, lac, rac, mac, nac, uac⟩, b11⟩
    replace LA := hidd (LA.out.keep b11)
    replace LC := hidd (LC.out.keep b11)
    replace Lu := hidd (Lu.out.keep b11)
    replace Lv := hidd (Lv.out.keep b11)
    replace Lm := hidd (Lm.out.keep b11)
    replace Ln := hidd (Ln.out.keep b11)
    replace Lall := hidd (Lall.out.keep b11)
    replace Lnone := hidd (Lnone.out.keep b11)
    replace Lx := hidd (Lx.out.keep b11)
    replace Ly := hidd (Ly.out.keep b11)
    replace Lp := hidd (Lp.out.keep b11)
    have Lac := hidd lac
    have Rac := hidd rac
    have Mac := hidd mac
    have Uac := hidd uac
    have B11 := hidd (belowT B10.out b11)
    clear S lac rac mac uac b11 B10
    have S := hidd (eunion _ _ Km Kac (by omega) Um.out Uac.out w11 Lm.out Lac.out)
    go_wp2_with fail
    refine S.out.mono ?_
    rintro e w12 ⟨⟨Kq, vq, rfl, lq, rq, mq, nq, uq⟩, b12⟩
    replace LA := hidd (LA.out.keep b12)
    replace Lu := hidd (Lu.out.keep b12)
    replace Lv := hidd (Lv.out.keep b12)
    replace Lm := hidd (Lm.out.keep b12)
    replace Ln := hidd (Ln.out.keep b12)
    replace Lall := hidd (Lall.out.keep b12)
    replace Lnone := hidd (Lnone.out.keep b12)
    replace Lx := hidd (Lx.out.keep b12)
    replace Ly := hidd (Ly.out.keep b12)
    replace Lp := hidd (Lp.out.keep b12)
    replace Lac := hidd (Lac.out.keep b12)
    have Lq := hidd lq
    have Rq := hidd rq
    have Mq := hidd mq
    have Uq := hidd uq
    have B12 := hidd (belowT B11.out b12)
    clear S lq rq mq uq b12 B11
    have S := hidd (emeet _ _ Km Kn (by omega) Um.out Un.out w12 Lm.out Ln.out)
    go_wp2_with fail
    refine S.out.mono ?_
    rintro e w13 ⟨⟨Kboth, vboth, rfl, lboth, rboth, mboth, nboth, uboth⟩, b13⟩
    replace LA := hidd (LA.out.keep b13)
    replace Lu := hidd (Lu.out.keep b13)
    replace Lv := hidd (Lv.out.keep b13)
    replace Lm := hidd (Lm.out.keep b13)
    replace Ln := hidd (Ln.out.keep b13)
    replace Lall := hidd (Lall.out.keep b13)
    replace Lnone := hidd (Lnone.out.keep b13)
    replace Lx := hidd (Lx.out.keep b13)
    replace Ly := hidd (Ly.out.keep b13)
    replace Lp := hidd (Lp.out.keep b13)
    replace Lq := hidd (Lq.out.keep b13)
    have Lboth := hidd lboth
    have Rboth := hidd rboth
    have Mboth := hidd mboth
    have Uboth := hidd uboth
    have B13 := hidd (belowT B12.out b13)
    clear S lboth rboth mboth uboth b13 B12
    -- what is one
    have e1 : Kv = Ku := rising_ext Rv.out Ru.out fun z => by rw [Mv.out z, Mu.out z]; grind
    have e2 : Ky = Kx := rising_ext Ry.out Rx.out fun z => by rw [My.out z, Mx.out z, Mu.out z, Mbc.out z]; grind
    have e3 : Kq = Kp := rising_ext Rq.out Rp.out fun z => by rw [Mq.out z, Mp.out z, Mm.out z, Mac.out z, Mbc.out z]; grind
    have e4 : Knone = [] := List.eq_nil_iff_forall_not_mem.2 fun z hz => by have := (Mnone.out z).1 hz; exact this.2 this.1
    have e5 : Kboth = [] := List.eq_nil_iff_forall_not_mem.2 fun z hz => by have h5 : z ∈ Km ∧ z ∈ Kn := (Mboth.out z).1 hz; exact ((Mn.out z).1 h5.2).2 ((Mm.out z).1 h5.1).2
    have mall : ∀ z, z ∈ Kall ↔ z ∈ A := fun z => by rw [Mall.out z, Mm.out z, Mn.out z]; grind
    replace mall := hidd mall
    subst e1 e2 e3 e4 e5
    obtain ⟨pn, cn, en⟩ := Lnone.out.len
    obtain ⟨pb, cb, eb⟩ := Lboth.out.len
    rw [en] at *
    rw [eb] at *
    clear en eb
    have S := hidd (lsame _ _ Kv (by omega) w13 Lu.out Lv.out)
    go_wp2_with fail
    refine S.out.mono ?_
    rintro e w14 ⟨rfl, b14⟩
    replace LA := hidd (LA.out.keep b14)
    replace Lall := hidd (Lall.out.keep b14)
    replace Lx := hidd (Lx.out.keep b14)
    replace Ly := hidd (Ly.out.keep b14)
    replace Lp := hidd (Lp.out.keep b14)
    replace Lq := hidd (Lq.out.keep b14)
    have B14 := hidd (belowT B13.out b14)
    clear S b14 B13
    have S := hidd (eset _ A (by omega) UA.out w14 LA.out)
    go_wp2_with fail
    refine S.out.mono ?_
    rintro e w15 ⟨⟨Ks1, vs1, rfl, ls1, rs1, ms1, ns1, us1⟩, b15⟩
    replace LA := hidd (LA.out.keep b15)
    replace Lall := hidd (Lall.out.keep b15)
    replace Lx := hidd (Lx.out.keep b15)
    replace Ly := hidd (Ly.out.keep b15)
    replace Lp := hidd (Lp.out.keep b15)
    replace Lq := hidd (Lq.out.keep b15)
    have Ls1 := hidd ls1
    have Rs1 := hidd rs1
    have Ms1 := hidd ms1
    have Us1 := hidd us1
    clear ls1 rs1 ms1 us1
    have B15 := hidd (belowT B14.out b15)
    clear S b15 B14
    have e6 : Kall = Ks1 := rising_ext Rall.out Rs1.out fun z => by rw [mall.out z, Ms1.out z]
    subst e6
    have S := hidd (lsame _ _ Kall (by omega) w15 Lall.out Ls1.out)
    go_wp2_with fail
    refine S.out.mono ?_
    rintro e w16 ⟨rfl, b16⟩
    replace LA := hidd (LA.out.keep b16)
    replace Lx := hidd (Lx.out.keep b16)
    replace Ly := hidd (Ly.out.keep b16)
    replace Lp := hidd (Lp.out.keep b16)
    replace Lq := hidd (Lq.out.keep b16)
    have B16 := hidd (belowT B15.out b16)
    clear S b16 B15
    have S := hidd (lsame _ _ Ky (by omega) w16 Lx.out Ly.out)
    go_wp2_with fail
    refine S.out.mono ?_
    rintro e w17 ⟨rfl, b17⟩
    replace LA := hidd (LA.out.keep b17)
    replace Lp := hidd (Lp.out.keep b17)
    replace Lq := hidd (Lq.out.keep b17)
    have B17 := hidd (belowT B16.out b17)
    clear S b17 B16
    have S := hidd (lsame _ _ Kq (by omega) w17 Lp.out Lq.out)
    go_wp2_with fail
    refine S.out.mono ?_
    rintro e w18 ⟨rfl, b18⟩
    replace LA := hidd (LA.out.keep b18)
    have B18 := hidd (belowT B17.out b18)
    clear S b18 B17
    have S := hidd (eset _ A (by omega) UA.out w18 LA.out)
    go_wp2_with fail
    refine S.out.mono ?_
    rintro e w19 ⟨⟨Ks2, vs2, rfl, ls2, rs2, ms2, ns2, us2⟩, b19⟩
    replace LA := hidd (LA.out.keep b19)
    have Ls2 := hidd ls2
    have Rs2 := hidd rs2
    have Ms2 := hidd ms2
    have Us2 := hidd us2
    clear ls2 rs2 ms2 us2
    have B19 := hidd (belowT B18.out b19)
    clear S b19 B18
    have S := hidd (eset _ Ks2 (by omega) Us2.out w19 Ls2.out)
    go_wp2_with fail
    refine S.out.mono ?_
    rintro e w20 ⟨⟨Ks3, vs3, rfl, ls3, rs3, ms3, ns3, us3⟩, b20⟩
    replace LA := hidd (LA.out.keep b20)
    have Ls3 := hidd ls3
    have Rs3 := hidd rs3
    have Ms3 := hidd ms3
    have Us3 := hidd us3
    clear ls3 rs3 ms3 us3
    have B20 := hidd (belowT B19.out b20)
    clear S b20 B19
    have S := hidd (eset _ A (by omega) UA.out w20 LA.out)
    go_wp2_with fail
    refine S.out.mono ?_
    rintro e w21 ⟨⟨Ks4, vs4, rfl, ls4, rs4, ms4, ns4, us4⟩, b21⟩
    replace Ls3 := hidd (Ls3.out.keep b21)
    have Ls4 := hidd ls4
    have Rs4 := hidd rs4
    have Ms4 := hidd ms4
    have Us4 := hidd us4
    clear ls4 rs4 ms4 us4
    have B21 := hidd (belowT B20.out b21)
    clear S b21 B20
    have e7 : Ks3 = Ks4 := rising_ext Rs3.out Rs4.out fun z => by rw [Ms3.out z, Ms2.out z, Ms4.out z]
    subst e7
    have S := hidd (lsame _ _ Ks3 (by omega) w21 Ls3.out Ls4.out)
    go_wp2_with fail
    refine S.out.mono ?_
    rintro e w22 ⟨rfl, b22⟩
    have B22 := hidd (belowT B21.out b22)
    clear S b22 B21
    go_wp2_with fail
    refine (AW.out _).mono ?_
    rintro e wz ⟨rfl, bz⟩
    go_wp2
    go_ret
    exact ⟨rfl, belowT B22.out bz⟩
  · have hq : (decide (150 < A.length) || decide (150 < B.length) || decide (150 < C.length)) = true := by
      simp only [Bool.or_eq_true, decide_eq_true_eq]
      omega
    have hcase : 150 < A.length ∨ (A.length ≤ 150 ∧ 150 < B.length) ∨ (A.length ≤ 150 ∧ B.length ≤ 150 ∧ 150 < C.length) := by omega
    rcases hcase with h1 | ⟨h1, h2⟩ | ⟨h1, h2, h3⟩
    · have h1' : decide (150 < A.length) = true := decide_eq_true h1
      go_enter Try.func7, Try.ntmps7
      go_wp2_with fail
      refine (AW.out _).mono ?_
      rintro e w1 ⟨rfl, b1⟩
      go_wp2
      go_ret
      exact ⟨rfl, b1⟩
    · have h1' : decide (150 < A.length) = false := decide_eq_false (by omega)
      have h2' : decide (150 < B.length) = true := decide_eq_true h2
      go_enter Try.func7, Try.ntmps7
      go_wp2_with fail
      refine (AW.out _).mono ?_
      rintro e w1 ⟨rfl, b1⟩
      go_wp2
      go_ret
      exact ⟨rfl, b1⟩
    · have h1' : decide (150 < A.length) = false := decide_eq_false (by omega)
      have h2' : decide (150 < B.length) = false := decide_eq_false (by omega)
      have h3' : decide (150 < C.length) = true := decide_eq_true h3
      go_enter Try.func7, Try.ntmps7
      go_wp2_with fail
      refine (AW.out _).mono ?_
      rintro e w1 ⟨rfl, b1⟩
      go_wp2
      go_ret
      exact ⟨rfl, b1⟩

end Go.Proofs.Ytogkfmoediiieaa
