/-
  The law PackLess answers true for every two numbers, size and number, in whatever memory where the two tables hold what their texts lay.
-/
import Derived.Test.YtlfjfendlohekaaGreatDoorPAwake
import Derived.Test.YtlfjfendlohekaaGreatDoorPWords
import Derived.Test.YtlfjfendlohekaaGreatDoorProg
import Derived.Handy
import Derived.Deep.QuietTactic
import Derived.WalkSpells
import Derived.WalkLawsBesides
import Derived.BigQuiet
import Derived.PlainAid
import Derived.Deep.RegionWith
import Derived.Laws.BitsAllLaws
import Derived.Sort.Walk13a
import Derived.Sort.LotA
import Derived.Sort.LotB
import Derived.Sort.LotD1
import Derived.Deep.Draws
import Derived.WalkKit
import Derived.BigGuard
import Derived.BigCall
import Derived.CellFam
import Derived.Sort.WalkB3
import Derived.BigRegion
import Derived.Sort.WalkA6
import Derived.Deep.RegionHeld3
import Derived.WalkSmall
import Derived.Deep.CutRange
import Derived.OwnWalk
import Derived.Laws.OwnMore
import Derived.OneCell
import Derived.Laws.CopyOwn
import Derived.Sort.Row
import Derived.Laws.AppendOwn
import Derived.Laws.AppendOwnNone
import Derived.BigFrame
import Derived.Deep.AppendLies
import Derived.Deep.RegionLaw
import Derived.RangeFuncFrom
import Derived.RangeFuncCalls
import Derived.RangeFuncLeaves
import Derived.OwnWalkIn
import Derived.TacticsInMore
import Derived.LoopNIn
import Derived.LoopIn
import Derived.RegionIn
import Derived.Stop.RegionWithIn
import Derived.Sort.LotD3
import Derived.Deep.Cut
import Derived.Deep.LoopGhost
import Derived.Sort.WalkB12
import Derived.Deep.OwnRows
import Derived.ChangeSlices
import Derived.OpenShut
namespace Go.Proofs.YtlfjfendlohekaaGreatDoor
open Go.RowKit

theorem lstL_take {w : World} {p : Option Addr} {n cap m : Nat} {L : List Int} (h : Lst w (.slice p n cap) L) (hm : m ≤ L.length) : Lst w (.slice p m cap) (L.take m) := by
  obtain ⟨q, c, e, h1, h2⟩ := h
  injection e with e1 e2 e3
  subst e1 e3
  have hl : (L.take m).length = m := by rw [List.length_take]; omega
  refine ⟨p, cap, by rw [hl], by omega, fun j hj => ?_⟩
  obtain ⟨g, o, h3, h4⟩ := h2 j (by omega)
  exact ⟨g, o, h3, by rw [List.getElem_take]; exact h4⟩

theorem lstL_drop {w : World} {g o n cap m : Nat} {L : List Int} (h : Lst w (.slice (some ⟨g, o, none⟩) n cap) L) (hm : m ≤ L.length) : Lst w (.slice (some ⟨g, o + m, none⟩) (L.length - m) (cap - m)) (L.drop m) := by
  obtain ⟨q, c, e, h1, h2⟩ := h
  injection e with e1 e2 e3
  subst e1 e3
  have hl : (L.drop m).length = L.length - m := by rw [List.length_drop]
  refine ⟨_, _, by rw [hl], by omega, fun j hj => ⟨g, o + m, rfl, ?_⟩⟩
  obtain ⟨g', o', h3, h4⟩ := h2 (m + j) (by omega)
  injection h3 with h5
  injection h5 with h6 h7 h8
  subst h6 h7
  rw [List.getElem_drop, ← h4]
  congr 2
  omega

/-- An append of a list at a step of a region that draws. -/
theorem step_append_lst {ops : Array Oper} {o : Oper} {a : Act} {w : World} {K : Act → World → Prop} {Q : Exit → Act → World → Prop} {E : Prop} (hgd : o.guard = none) (s x : Operand)
    (ho : o.op = .call { callee := .builtin .append, args := #[s, x], argTypes := #[24, 24] })
    (base : Nat) (v : Value) (n : Nat) (xs : List Value) (hs : a.eval s = v) (hown : w.ownsRow base 30 1 v n xs)
    (sA : Value) (A : List Int) (hx : a.eval x = sA) (hA : Lst w sA A) (hs0 : Addressed sA) (h63 : n + A.length ≤ 1000000) (hbase : base ≤ w.heap.size)
    (h : ∀ v' w', w'.ownsRow base 30 1 v' (n + A.length) (xs ++ vals A) → w.grownBy w' v.ownBlock → K (a.put o.dst v') w') :
    if Region.wanted o (yielded ops a.tmps) = true then Oper.wp Tryz.prog o a w K Q else E := by
  have hw : Region.wanted o (yielded ops a.tmps) = true := by simp [Region.wanted, hgd]
  rw [if_pos hw]
  obtain ⟨v', w', hr, h2, h3⟩ := append_lst base o.type v n xs hown sA A hA hs0 h63 hbase
  unfold Oper.wp execOp
  simp only [ho, resolve, invoke, builtin, Sem.run_bind, Sem.run_pure, Result.andThen_ok, List.map_toArray, List.map_cons, List.map_nil, hs, hx, hr]
  exact h v' w' h2 h3

/-- An append of one word leaves the row that it was handed readable. -/
theorem append_stay {w : World} (base : Nat) (ty : TypeId) (g n cap : Nat) (xs : List Value) (hown : w.ownsRow base 30 1 (.slice (some ⟨g, 0, none⟩) n cap) n xs) (ad : Addr) (c : Nat) (x : Int) (hx : w.cell? (ad.add 0) = some (.int .u64 x)) (h63 : n ≤ 1000000) (hbase : base ≤ w.heap.size) :
    ∃ v' w', (Builtin.append_ #[24, 24] ty #[.slice (some ⟨g, 0, none⟩) n cap, .slice (some ad) 1 c]).run Tryz.prog w = .ok v' w' ∧ w'.ownsRow base 30 1 v' (n + 1) (xs ++ [.int .u64 x]) ∧ w.grownBy w' (some g) ∧ w'.ownsRow base 30 1 (.slice (some ⟨g, 0, none⟩) n cap) n xs := by
  obtain ⟨i0, hi, hz0, hz1, hz2⟩ := info_parts infoU64
  have hnews : ∀ (j : Nat) (u : Value), ([.int .u64 x] : List Value)[j]? = some u → w.cell? (ad.add j) = some u := fun j u hj => by
    match j, hj with
    | 0, hj => simp at hj; rw [hx, hj]
  have hone : ∀ u ∈ ([.int .u64 x] : List Value), u.oneCell' = true := one_int _ _
  obtain ⟨v', w', hr, h2, h3, -⟩ := run_append_own (P := Tryz.prog) w base 24 ty 30 i0 (.int .u64 0) 1 8 Tryz.underlying24 hi hz0 hz1 hz2 rfl (by decide) (.slice (some ⟨g, 0, none⟩) n cap) n xs hown ad 1 c [.int .u64 x] rfl hnews hone (by unfold maxLen; omega) (by omega) hbase
  refine ⟨v', w', hr, h2, h3, ?_⟩
  rcases hown.2 with ⟨e, _⟩ | ⟨g1, cap1, cur, e, hbg, hg, hnc, hcm, hcs, htake⟩
  · cases e
  injection e with e1 e2 e3
  injection e1 with e4
  injection e4 with e5
  subst e5 e3
  by_cases hroom : n + 1 ≤ cap
  · have hr2 := run_append_room (P := Tryz.prog) w 24 ty 30 i0 Tryz.underlying24 hi g n cap cur hg ad 1 c [.int .u64 x] (by rw [hz1]; rfl) hnews hone hroom (by rw [hz1, hcs]; simp; omega)
    rw [hr2] at hr
    injection hr with e6 e7
    subst e6
    rcases h2.2 with ⟨e, _⟩ | ⟨g2, cap2, cur2, e, _, hg2, _, _, hcs2, ht2⟩
    · cases e
    injection e with f1 f2 f3
    injection f1 with f4
    injection f4 with f5
    subst f5 f3
    refine ⟨hown.1, .inr ⟨g, cap, cur2, rfl, hbg, hg2, hnc, hcm, hcs2, ?_⟩⟩
    have hl := hown.1
    have h5 := congrArg (List.take (n * 1)) ht2
    rw [List.take_take, Nat.min_eq_left (by omega)] at h5
    rw [h5, ← hl]
    exact List.take_left
  · have holds : ∀ j u, xs[j]? = some u → w.cell? ((⟨g, 0, none⟩ : Addr).add j) = some u := hown.cells (g := g) rfl
    have hr2 := run_append_grow (P := Tryz.prog) w 24 ty 30 i0 (.int .u64 0) Tryz.underlying24 hi hz0 ⟨g, 0, none⟩ n cap xs (by rw [hz1]; exact hown.1) holds ad 1 c [.int .u64 x] (by rw [hz1]; rfl) hnews (by omega) (by omega) (by rw [hz2]; exact growslice_fits (by omega) (by omega))
    rw [hr2] at hr
    injection hr with e6 e7
    subst e7
    exact own_keep (belowT (drewB w) (allocB w.drew _)) hown

/-- The same as a law of the walk, at an operation that is wanted. -/
theorem wpList_append_stay {w : World} {ops : Array Oper} {rest : List Oper} {o : Oper} {a : Act} {Q : Exit → Act → World → Prop} (hw : Region.wanted o (yielded ops a.tmps) = true) (s x : Operand)
    (ho : o.op = .call { callee := .builtin .append, args := #[s, x], argTypes := #[24, 24] })
    (base g n cap : Nat) (xs : List Value) (hs : a.eval s = .slice (some ⟨g, 0, none⟩) n cap) (hown : w.ownsRow base 30 1 (.slice (some ⟨g, 0, none⟩) n cap) n xs)
    (ad : Addr) (c : Nat) (y : Int) (hx : a.eval x = .slice (some ad) 1 c) (hy : w.cell? (ad.add 0) = some (.int .u64 y)) (h63 : n ≤ 1000000) (hbase : base ≤ w.heap.size)
    (h : ∀ v' w', w'.ownsRow base 30 1 v' (n + 1) (xs ++ [.int .u64 y]) → w.grownBy w' (some g) → w'.ownsRow base 30 1 (.slice (some ⟨g, 0, none⟩) n cap) n xs → wpList Tryz.prog ops Q rest (a.put o.dst v') w') : wpList Tryz.prog ops Q (o :: rest) a w := by
  refine BigFrame.wpList_want hw fun K hK => ?_
  obtain ⟨v', w', hr, h2, h3, h4⟩ := append_stay base o.type g n cap xs hown ad c y hy h63 hbase
  unfold Oper.wp
  simp [execOp, ho, resolve, invoke, builtin, hs, hx, hr, Result.andThen]
  exact hK _ _ (h v' w' h2 h3 h4)

/-- Six of seven brothers. -/
theorem six_of {v : Int} {k m : Nat} (hk : k < 7) (hm : k + 1 = m) : Rising ((kidRow v).take k ++ (kidRow v).drop m) ∧ (∀ x ∈ (kidRow v).take k ++ (kidRow v).drop m, x ∈ kidRow v) ∧ ¬ chW v k ∈ (kidRow v).take k ++ (kidRow v).drop m ∧ ((kidRow v).take k ++ (kidRow v).drop m).length = 6 := by
  subst hm
  have hl := kidRow_len v
  have hs : List.Sublist ((kidRow v).take k ++ (kidRow v).drop (k + 1)) (kidRow v) := by
    have := List.eraseIdx_sublist (kidRow v) k
    rwa [List.eraseIdx_eq_take_drop_succ] at this
  have hget : ∀ (j : Nat) (hj : j < (kidRow v).length), (kidRow v)[j] = chW v j := fun j hj => by simp [kidRow]
  refine ⟨(kidRow_rising v).sublist hs, fun x hx => hs.subset hx, fun hx => ?_, by simp only [List.length_append, List.length_take, List.length_drop]; omega⟩
  rcases List.mem_append.1 hx with h | h
  · obtain ⟨j, hj, e⟩ := List.mem_iff_getElem.1 h
    rw [List.length_take] at hj
    rw [List.getElem_take, hget] at e
    have := kids_rise (v := v) (d := j) (e := k) (by omega) (by omega)
    omega
  · obtain ⟨j, hj, e⟩ := List.mem_iff_getElem.1 h
    rw [List.length_drop] at hj
    rw [List.getElem_drop, hget] at e
    have := kids_rise (v := v) (d := k) (e := k + 1 + j) (by omega) (by omega)
    omega

theorem rem12 (r : Int) : ∃ (t : Int) (n : Nat), r.tmod 12 = t ∧ (t + 12).tmod 12 = (n : Int) ∧ -12 < t ∧ t < 12 ∧ n < 12 := by
  have h := tmod_box r 12 (by omega)
  refine ⟨_, ((r.tmod 12 + 12).tmod 12).toNat, rfl, ?_, h.1, h.2, ?_⟩
  all_goals
    generalize r.tmod 12 = t at *
    rw [Int.tmod_eq_emod_of_nonneg (by omega)]
    omega

set_option maxHeartbeats 16000000 in
set_option maxRecDepth 20000 in
theorem packLess_walk (x y r out : Int) (w : World) (hT : Tabs w) (_ : -9223372036854775808 ≤ x) (_ : x ≤ 9223372036854775807) (_ : -9223372036854775808 ≤ y) (_ : y ≤ 9223372036854775807) (_ : -9223372036854775808 ≤ r) (_ : r ≤ 9223372036854775807) (_ : -9223372036854775808 ≤ out) (_ : out ≤ 9223372036854775807) :
    Calls Tryz.prog 4 #[.int .i64 x, .int .i64 y, .int .i64 r, .int .i64 out] w fun e w' => e = .returned (.bool true) ∧ Below w.heap.size w w' := by
  have AW := hidd fun w h => pawake w h
  have HT := hidd hT
  obtain ⟨t, n, et, en, t1, t2, n12⟩ := rem12 r
  have WD := hidd fun w => aword_of n (by omega) x y w
  have hk : ∃ k : Nat, k < 7 ∧ (bits .and .i64 out 255).tmod 7 = (k : Int) := by
    have h := i64_mask out 8 (by omega)
    rw [show (((2 ^ 8 - 1 : Nat)) : Int) = 255 by decide, show (((2 ^ 8 : Nat)) : Int) = 256 by decide] at h
    rw [h, Int.tmod_eq_emod_of_nonneg (by omega)]
    exact ⟨((out % 256) % 7).toNat, by omega, by omega⟩
  obtain ⟨k, hk7, ek⟩ := hk
  clear hT
  go_enter Tryz.func4, Tryz.ntmps4
  go_wp2_with fail
  refine (WD.out _).mono ?_
  rintro e w1 ⟨⟨v, rfl, hv, hvr⟩, b1⟩
  have HV := hidd hv
  have HR := hidd hvr
  have uv := whole_box hv
  have U1 : Hid (∀ x ∈ [v], U64 x) := hidd fun x hx => by rw [List.mem_singleton] at hx; subst hx; exact ⟨by omega, by omega⟩
  have SP := hidd (p_spread _ [v] ((n + 1 : Nat) : Int) (by omega) (by simp) U1.out _ (lit1 w1 v 30) (HT.out.below (belowT b1 (allocB _ _))))
  have en1 : ((n + 1 : Nat) : Int) = (n : Int) + 1 := by omega
  rw [en1] at SP
  have B1 := hidd (belowT b1 (allocB w1 (.cells #[.int .u64 v] 30)))
  clear hv hvr b1 WD uv
  go_wp2_with fail
  refine SP.out.mono ?_
  rintro e w2 ⟨hs, b2⟩
  rw [← en1] at hs
  obtain ⟨s2, K, rfl, hKr, hKm, hKn, hKl, -⟩ := spr_one (m := n + 1) HV.out HR.out (by omega) (by omega) (by rw [show n + 1 - n = 1 by omega]; decide) hs
  obtain rfl : K = kidRow v := rising_ext hKr (kidRow_rising v) fun x => by rw [hKm x, kidRow_all HV.out HR.out n12]
  have B2 := hidd (belowT B1.out b2)
  have K2 := hidd hKl
  obtain ⟨pk, ck, rfl, hck, hcell⟩ := hKl
  have h7 : (kidRow v).length = 7 := kidRow_len v
  have hpk : ∃ g o, pk = some ⟨g, o, none⟩ := by
    obtain ⟨g, o, e, _⟩ := hcell 0 (by omega)
    exact ⟨g, o, e⟩
  obtain ⟨g, o, rfl⟩ := hpk
  rw [h7] at hck K2 ⊢
  have H7 := hidd h7
  clear hs hKr hKm hKn hcell b2 SP B1 h7
  obtain ⟨m, hm⟩ : ∃ m, k + 1 = m := ⟨_, rfl⟩
  have hk1 : (k : Int) + 1 = (m : Int) := by omega
  have hkc : k ≤ ck := by omega
  have hkc2 : m ≤ 7 := by omega
  have hkc3 : m ≤ ck := by omega
  have HM := hidd hm
  have ewm : IntKind.i64.wrap (m : Int) = (m : Int) := by rw [IntKind.wrap_i64]; omega
  have hm0 : (0 : Int) ≤ (m : Int) := by omega
  have hm7 : (m : Int) ≤ 7 := by omega
  clear hm en1
  have hck0 : ¬ ck = 0 := by omega
  have hs2 := B2.out.size
  have D0 := hidd (own_fresh w2)
  have al := allocB w2 (.cells #[] 30)
  have KA := hidd (lstL_take (K2.out.keep al) (m := k) (by rw [H7.out]; omega))
  have KB := hidd (lstL_drop (K2.out.keep al) (m := m) (by rw [H7.out]; omega))
  rw [H7.out] at KB
  have KD := fun w' (h : Below w2.heap.size w2 w') => lstL_drop (K2.out.keep h) (m := m) (by rw [H7.out]; omega)
  simp only [H7.out] at KD
  have hckp : ¬ ck = m ∨ ck = m := by omega
  have SX := hidd (six_of (v := v) hk7 HM.out)
  go_wp2_with fail
  rcases hckp with hckp | hckp
  · go_cut [13] from 18 to 105 (fun v13 wx => Hid (wx.ownsRow w2.heap.size 30 1 v13 6 (vals ((kidRow v).take k ++ (kidRow v).drop m))) ∧ Below w2.heap.size w2 wx)
    case first =>
      go_region_law ((refine step_append_lst (by rfl) _ _ (by rfl) w2.heap.size _ _ _ (by rfl) (by first | exact D0.out | exact ho5) _ _ (by rfl) (by first | exact KA.out | exact KD _ d5) (.inr ⟨_, _, _, rfl⟩) (by simp only [List.length_take, List.length_drop, H7.out]; omega) (by first | exact al.size | exact d5.size) ?_; intro va w5 ho5 hg5; first | have d6 := d5.grown hg5 d5.size (own_block ho4) | (have d5 := al.drew.grown hg5 al.drew.size (own_block D0.out); have ho4 := ho5)))
      all_goals
        go_wp2_with fail
        go_meet
        refine ⟨hidd ?_, d6⟩
        have e6 : 0 + (List.take k (kidRow v)).length + (List.drop m (kidRow v)).length = 6 := by have := H7.out; have := HM.out; simp only [List.length_take, List.length_drop]; omega
        rw [e6] at ho5
        rw [show vals ((kidRow v).take k ++ (kidRow v).drop m) = [] ++ vals ((kidRow v).take k) ++ vals ((kidRow v).drop m) by simp [vals]]
        exact ho5
    case rest =>
      obtain ⟨hO, d6⟩ := hcut
      clear D0 al KA KD
      generalize (kidRow v).take k ++ (kidRow v).drop m = S at *
      obtain ⟨gs, cs, rfl⟩ := own_shape hO.out (by omega)
      have hW6 : ∀ x ∈ S, Whole x ∧ wR x = ((n + 1 : Nat) : Int) := fun x hx => by
        have := (kidRow_all HV.out HR.out n12).1 (SX.out.2.1 x hx)
        exact ⟨this.1, this.2.1⟩
      have HW6 := hidd hW6
      have US : Hid (∀ x ∈ S, U64 x) := hidd fun x hx => by have := whole_box (hW6 x hx).1; exact ⟨by omega, by omega⟩
      have S1 := hidd (Lst.own hO.out)
      have B3 := hidd (B2.out.trans (d6.mono hs2))
      have K3 := hidd (K2.out.keep d6)
      have CM := hidd (p_compact _ S (by have := SX.out.2.2.2; omega) US.out _ S1.out)
      have hsc := d6.size
      clear hW6 B2 K2 d6
      go_wp2_with fail
      refine CM.out.mono ?_
      rintro e w3 ⟨hc, b3⟩
      obtain ⟨s3, A, rfl, hA, -, hAl, -, -⟩ := cmp_yes (r := n + 1) HW6.out (by have := SX.out.2.2.2; omega) hc
      obtain rfl : A = S := hA.one (by omega) (packed_six HV.out HR.out n12 SX.out.1 SX.out.2.1 (d := k) (by omega) SX.out.2.2.1) fun _ => Iff.rfl
      have A3 := hidd hAl
      have O3 := hidd (own_keep b3 hO.out)
      have K4 := hidd (K3.out.keep b3)
      have B4 := hidd (belowT B3.out b3)
      have CM := hidd (p_compact _ (kidRow v) (by have := H7.out; omega) (kidRow_u64 HV.out (by rw [HR.out]; omega)) w3 K4.out)
      have hs3 : w2.heap.size ≤ w3.heap.size := by have := b3.size; omega
      obtain ⟨p3, c3, rfl, -, -⟩ := hAl
      clear hc hA b3 CM K3 B3 hO S1
      have CM := hidd (p_compact _ (kidRow v) (by have := H7.out; omega) (kidRow_u64 HV.out (by rw [HR.out]; omega)) w3 K4.out)
      go_wp2_with fail
      refine CM.out.mono ?_
      rintro e w4 ⟨hc, b4⟩
      obtain ⟨s4, P, rfl, hP, -, hPl, -, -⟩ := cmp_yes (r := n + 1) (fun x hx => by have := (kidRow_all HV.out HR.out n12).1 hx; exact ⟨this.1, this.2.1⟩) (by have := H7.out; omega) hc
      obtain rfl := packed_is (by omega) hP (packed_kids HV.out HR.out n12)
      have A4 := hidd (A3.out.keep b4)
      have O4 := hidd (own_keep b4 O3.out)
      have P4 := hidd hPl
      have B5 := hidd (belowT B4.out b4)
      have hs4 : w2.heap.size ≤ w4.heap.size := by have := b4.size; omega
      have SA := hidd (lsame _ _ A (by have := SX.out.2.2.2; omega) w4 A4.out (Lst.own O4.out))
      obtain ⟨p4, c4, rfl, -, -⟩ := hPl
      rw [SX.out.2.2.2]
      rw [SX.out.2.2.2] at SA
      clear hc hP b4 CM K4 B4 O3 A3
      go_wp2_with fail
      refine SA.out.mono ?_
      rintro e w5 ⟨rfl, b5⟩
      have O5 := hidd (own_keep b5 O4.out)
      have P5 := hidd (P4.out.keep b5)
      have B6 := hidd (belowT B5.out b5)
      have hs5 : w2.heap.size ≤ w5.heap.size := by have := b5.size; omega
      have SB := hidd (lsame _ _ [v] (by simp) _ (P5.out.keep (allocB w5 (.cells #[.int .u64 v] 30))) (lit1 w5 v 30))
      clear b5 SA P4 O4 B5
      go_wp2_with fail
      refine SB.out.mono ?_
      rintro e w6 ⟨rfl, b6⟩
      have b6' := belowT (allocB w5 (.cells #[.int .u64 v] 30)) b6
      have O6 := hidd (own_keep b6' O5.out)
      have B7 := hidd (belowT B6.out b6')
      have hs6 : w2.heap.size ≤ w6.heap.size := by have := b6'.size; omega
      have hr12 : wR v < 12 := by rw [HR.out]; omega
      have FR := hidd (p_free _ A (by have := SX.out.2.2.2; omega) US.out true (by simp only [true_iff]; exact free_kids HV.out hr12 (rising_nodup SX.out.1) SX.out.2.1) w6 (Lst.own O6.out))
      clear b6 b6' SB P5 O5 B6
      go_wp2_with fail
      refine FR.out.mono ?_
      rintro e w7 ⟨rfl, b7⟩
      have O7 := hidd (own_keep b7 O6.out)
      have B8 := hidd (belowT B7.out b7)
      have hs7 : w2.heap.size ≤ w7.heap.size := by have := b7.size; omega
      clear b7 FR O6 B7
      have hA6 : A.length = 6 := SX.out.2.2.2
      have h0L : 0 < A.length := by omega
      have c0 := (own_cells O7.out).2.1 0 h0L
      have hmem := List.getElem_mem h0L
      obtain ⟨d, hd, ea⟩ := kidRow_mem.1 (SX.out.2.1 _ hmem)
      have NF1 : Hid (¬ FreeP (A ++ [v])) := hidd (not_free_kid HV.out hr12 hd (List.mem_append.2 (.inr (List.mem_singleton.2 rfl))) (List.mem_append.2 (.inl (by rw [← ea]; exact hmem))))
      have NF2 : Hid (¬ FreeP (A ++ [A[0]])) := hidd fun h => by
        have := (List.nodup_append.1 h.1).2.2 _ hmem _ (List.mem_singleton.2 rfl)
        exact this rfl
      have UA0 := hidd (US.out _ hmem)
      have Uv : Hid (U64 v) := hidd (U1.out v (List.mem_singleton.2 rfl))
      have HA6 := hidd hA6
      have OC : Hid (∀ w' : World, w'.ownsRow w2.heap.size 30 1 (.slice (some ⟨gs, 0, none⟩) 6 cs) 6 (vals A) → w'.cell? ⟨gs, 0, none⟩ = some (.int .u64 A[0])) := hidd fun w' h => (own_cells h).2.1 0 h0L
      clear ea hmem c0
      generalize A[0]'_ = a0 at *
      go_wp2_with (at_builtin; refine wpList_append_stay (by rfl) (.tmp 86) (.tmp 88) rfl w2.heap.size gs 6 cs (vals A) rfl (own_keep (allocB _ _) O7.out) ⟨w7.heap.size, 0, none⟩ 1 v rfl (by go_simp) (by omega) (by simp; omega) ?_)
      intro v8 w8 hown hgrow hold
      have B9 := hidd ((B8.out.alloc B8.out.size (.cells #[.int .u64 v] 30)).grown hgrow (by have := B8.out.size; simp; omega) (own_block (own_mono O7.out hs2)))
      have hs8 : w2.heap.size ≤ w8.heap.size := by have := hgrow.size; simp at this; omega
      rw [show vals A ++ [Value.int .u64 v] = vals (A ++ [v]) by simp [vals]] at hown
      have FR := hidd (p_free _ (A ++ [v]) (by rw [List.length_append]; have := HA6.out; simp; omega) (fun z hz => (List.mem_append.1 hz).elim (US.out z) (fun h => by rw [List.mem_singleton.1 h]; exact Uv.out)) false (by simpa using NF1.out) w8 (Lst.own hown))
      have O8 := hidd hold
      obtain ⟨p8, c8, rfl, -⟩ := own_slice hown
      clear hown hgrow hold O7 B8 NF1
      go_wp2_with fail
      refine FR.out.mono ?_
      rintro e w9 ⟨rfl, b9⟩
      have O9 := hidd (own_keep b9 O8.out)
      have B10 := hidd (belowT B9.out b9)
      have hs9 : w2.heap.size ≤ w9.heap.size := by have := b9.size; omega
      have c0 := OC.out w9 O9.out
      clear b9 FR O8 B9
      go_wp2_with (at_builtin; refine wpList_append_stay (by rfl) (.tmp 94) (.tmp 98) rfl w2.heap.size gs 6 cs (vals A) rfl (own_keep (allocB _ _) O9.out) ⟨w9.heap.size, 0, none⟩ 1 a0 rfl (by go_simp) (by omega) (by simp; omega) ?_)
      intro v10 w10 hown hgrow hold
      have B11 := hidd ((B10.out.alloc B10.out.size (.cells #[.int .u64 a0] 30)).grown hgrow (by have := B10.out.size; simp; omega) (own_block (own_mono O9.out hs2)))
      rw [show vals A ++ [Value.int .u64 a0] = vals (A ++ [a0]) by simp [vals]] at hown
      have FR := hidd (p_free _ (A ++ [a0]) (by rw [List.length_append]; have := HA6.out; simp; omega) (fun z hz => (List.mem_append.1 hz).elim (US.out z) (fun h => by rw [List.mem_singleton.1 h]; exact UA0.out)) false (by simpa using NF2.out) w10 (Lst.own hown))
      obtain ⟨p10, c10, rfl, -⟩ := own_slice hown
      clear hown hgrow hold O9 B10 NF2
      go_wp2_with fail
      refine FR.out.mono ?_
      rintro e w11 ⟨rfl, b11⟩
      have B12 := hidd (belowT B11.out b11)
      have A9 := hidd (AW.out w11 (HT.out.below B12.out))
      clear b11 FR B11
      go_wp2_with fail
      refine A9.out.mono ?_
      rintro e w12 ⟨rfl, b12⟩
      go_wp2_with fail
      go_ret
      exact ⟨rfl, belowT B12.out b12⟩
  · have e7 : m = 7 := by omega
    have hnil : (kidRow v).drop m = [] := List.drop_eq_nil_of_le (by rw [H7.out]; omega)
    have KD := fun (w' : World) (_ : Below w2.heap.size w2 w') => (show Lst w' (.slice (some ⟨g, o, none⟩) 0 0) ((kidRow v).drop m) from by
      rw [hnil]
      exact ⟨_, 0, rfl, Nat.le_refl _, fun j hj => absurd hj (Nat.not_lt_zero _)⟩)
    clear e7 hnil
    subst hckp
    go_cut [13] from 18 to 105 (fun v13 wx => Hid (wx.ownsRow w2.heap.size 30 1 v13 6 (vals ((kidRow v).take k ++ (kidRow v).drop ck))) ∧ Below w2.heap.size w2 wx)
    case first =>
      go_region_law ((refine step_append_lst (by rfl) _ _ (by rfl) w2.heap.size _ _ _ (by rfl) (by first | exact D0.out | exact ho5) _ _ (by rfl) (by first | exact KA.out | exact KD _ d5) (.inr ⟨_, _, _, rfl⟩) (by simp only [List.length_take, List.length_drop, H7.out]; omega) (by first | exact al.size | exact d5.size) ?_; intro va w5 ho5 hg5; first | have d6 := d5.grown hg5 d5.size (own_block ho4) | (have d5 := al.drew.grown hg5 al.drew.size (own_block D0.out); have ho4 := ho5)))
      all_goals
        go_wp2_with fail
        go_meet
        refine ⟨hidd ?_, d6⟩
        have e6 : 0 + (List.take k (kidRow v)).length + (List.drop ck (kidRow v)).length = 6 := by have := H7.out; have := HM.out; simp only [List.length_take, List.length_drop]; omega
        rw [e6] at ho5
        rw [show vals ((kidRow v).take k ++ (kidRow v).drop ck) = [] ++ vals ((kidRow v).take k) ++ vals ((kidRow v).drop ck) by simp [vals]]
        exact ho5
    case rest =>
      obtain ⟨hO, d6⟩ := hcut
      clear D0 al KA KD
      generalize (kidRow v).take k ++ (kidRow v).drop ck = S at *
      obtain ⟨gs, cs, rfl⟩ := own_shape hO.out (by omega)
      have hW6 : ∀ x ∈ S, Whole x ∧ wR x = ((n + 1 : Nat) : Int) := fun x hx => by
        have := (kidRow_all HV.out HR.out n12).1 (SX.out.2.1 x hx)
        exact ⟨this.1, this.2.1⟩
      have HW6 := hidd hW6
      have US : Hid (∀ x ∈ S, U64 x) := hidd fun x hx => by have := whole_box (hW6 x hx).1; exact ⟨by omega, by omega⟩
      have S1 := hidd (Lst.own hO.out)
      have B3 := hidd (B2.out.trans (d6.mono hs2))
      have K3 := hidd (K2.out.keep d6)
      have CM := hidd (p_compact _ S (by have := SX.out.2.2.2; omega) US.out _ S1.out)
      have hsc := d6.size
      clear hW6 B2 K2 d6
      go_wp2_with fail
      refine CM.out.mono ?_
      rintro e w3 ⟨hc, b3⟩
      obtain ⟨s3, A, rfl, hA, -, hAl, -, -⟩ := cmp_yes (r := n + 1) HW6.out (by have := SX.out.2.2.2; omega) hc
      obtain rfl : A = S := hA.one (by omega) (packed_six HV.out HR.out n12 SX.out.1 SX.out.2.1 (d := k) (by omega) SX.out.2.2.1) fun _ => Iff.rfl
      have A3 := hidd hAl
      have O3 := hidd (own_keep b3 hO.out)
      have K4 := hidd (K3.out.keep b3)
      have B4 := hidd (belowT B3.out b3)
      have CM := hidd (p_compact _ (kidRow v) (by have := H7.out; omega) (kidRow_u64 HV.out (by rw [HR.out]; omega)) w3 K4.out)
      have hs3 : w2.heap.size ≤ w3.heap.size := by have := b3.size; omega
      obtain ⟨p3, c3, rfl, -, -⟩ := hAl
      clear hc hA b3 CM K3 B3 hO S1
      have CM := hidd (p_compact _ (kidRow v) (by have := H7.out; omega) (kidRow_u64 HV.out (by rw [HR.out]; omega)) w3 K4.out)
      go_wp2_with fail
      refine CM.out.mono ?_
      rintro e w4 ⟨hc, b4⟩
      obtain ⟨s4, P, rfl, hP, -, hPl, -, -⟩ := cmp_yes (r := n + 1) (fun x hx => by have := (kidRow_all HV.out HR.out n12).1 hx; exact ⟨this.1, this.2.1⟩) (by have := H7.out; omega) hc
      obtain rfl := packed_is (by omega) hP (packed_kids HV.out HR.out n12)
      have A4 := hidd (A3.out.keep b4)
      have O4 := hidd (own_keep b4 O3.out)
      have P4 := hidd hPl
      have B5 := hidd (belowT B4.out b4)
      have hs4 : w2.heap.size ≤ w4.heap.size := by have := b4.size; omega
      have SA := hidd (lsame _ _ A (by have := SX.out.2.2.2; omega) w4 A4.out (Lst.own O4.out))
      obtain ⟨p4, c4, rfl, -, -⟩ := hPl
      rw [SX.out.2.2.2]
      rw [SX.out.2.2.2] at SA
      clear hc hP b4 CM K4 B4 O3 A3
      go_wp2_with fail
      refine SA.out.mono ?_
      rintro e w5 ⟨rfl, b5⟩
      have O5 := hidd (own_keep b5 O4.out)
      have P5 := hidd (P4.out.keep b5)
      have B6 := hidd (belowT B5.out b5)
      have hs5 : w2.heap.size ≤ w5.heap.size := by have := b5.size; omega
      have SB := hidd (lsame _ _ [v] (by simp) _ (P5.out.keep (allocB w5 (.cells #[.int .u64 v] 30))) (lit1 w5 v 30))
      clear b5 SA P4 O4 B5
      go_wp2_with fail
      refine SB.out.mono ?_
      rintro e w6 ⟨rfl, b6⟩
      have b6' := belowT (allocB w5 (.cells #[.int .u64 v] 30)) b6
      have O6 := hidd (own_keep b6' O5.out)
      have B7 := hidd (belowT B6.out b6')
      have hs6 : w2.heap.size ≤ w6.heap.size := by have := b6'.size; omega
      have hr12 : wR v < 12 := by rw [HR.out]; omega
      have FR := hidd (p_free _ A (by have := SX.out.2.2.2; omega) US.out true (by simp only [true_iff]; exact free_kids HV.out hr12 (rising_nodup SX.out.1) SX.out.2.1) w6 (Lst.own O6.out))
      clear b6 b6' SB P5 O5 B6
      go_wp2_with fail
      refine FR.out.mono ?_
      rintro e w7 ⟨rfl, b7⟩
      have O7 := hidd (own_keep b7 O6.out)
      have B8 := hidd (belowT B7.out b7)
      have hs7 : w2.heap.size ≤ w7.heap.size := by have := b7.size; omega
      clear b7 FR O6 B7
      have hA6 : A.length = 6 := SX.out.2.2.2
      have h0L : 0 < A.length := by omega
      have c0 := (own_cells O7.out).2.1 0 h0L
      have hmem := List.getElem_mem h0L
      obtain ⟨d, hd, ea⟩ := kidRow_mem.1 (SX.out.2.1 _ hmem)
      have NF1 : Hid (¬ FreeP (A ++ [v])) := hidd (not_free_kid HV.out hr12 hd (List.mem_append.2 (.inr (List.mem_singleton.2 rfl))) (List.mem_append.2 (.inl (by rw [← ea]; exact hmem))))
      have NF2 : Hid (¬ FreeP (A ++ [A[0]])) := hidd fun h => by
        have := (List.nodup_append.1 h.1).2.2 _ hmem _ (List.mem_singleton.2 rfl)
        exact this rfl
      have UA0 := hidd (US.out _ hmem)
      have Uv : Hid (U64 v) := hidd (U1.out v (List.mem_singleton.2 rfl))
      have HA6 := hidd hA6
      have OC : Hid (∀ w' : World, w'.ownsRow w2.heap.size 30 1 (.slice (some ⟨gs, 0, none⟩) 6 cs) 6 (vals A) → w'.cell? ⟨gs, 0, none⟩ = some (.int .u64 A[0])) := hidd fun w' h => (own_cells h).2.1 0 h0L
      clear ea hmem c0
      generalize A[0]'_ = a0 at *
      go_wp2_with (at_builtin; refine wpList_append_stay (by rfl) (.tmp 86) (.tmp 88) rfl w2.heap.size gs 6 cs (vals A) rfl (own_keep (allocB _ _) O7.out) ⟨w7.heap.size, 0, none⟩ 1 v rfl (by go_simp) (by omega) (by simp; omega) ?_)
      intro v8 w8 hown hgrow hold
      have B9 := hidd ((B8.out.alloc B8.out.size (.cells #[.int .u64 v] 30)).grown hgrow (by have := B8.out.size; simp; omega) (own_block (own_mono O7.out hs2)))
      have hs8 : w2.heap.size ≤ w8.heap.size := by have := hgrow.size; simp at this; omega
      rw [show vals A ++ [Value.int .u64 v] = vals (A ++ [v]) by simp [vals]] at hown
      have FR := hidd (p_free _ (A ++ [v]) (by rw [List.length_append]; have := HA6.out; simp; omega) (fun z hz => (List.mem_append.1 hz).elim (US.out z) (fun h => by rw [List.mem_singleton.1 h]; exact Uv.out)) false (by simpa using NF1.out) w8 (Lst.own hown))
      have O8 := hidd hold
      obtain ⟨p8, c8, rfl, -⟩ := own_slice hown
      clear hown hgrow hold O7 B8 NF1
      go_wp2_with fail
      refine FR.out.mono ?_
      rintro e w9 ⟨rfl, b9⟩
      have O9 := hidd (own_keep b9 O8.out)
      have B10 := hidd (belowT B9.out b9)
      have hs9 : w2.heap.size ≤ w9.heap.size := by have := b9.size; omega
      have c0 := OC.out w9 O9.out
      clear b9 FR O8 B9
      go_wp2_with (at_builtin; refine wpList_append_stay (by rfl) (.tmp 94) (.tmp 98) rfl w2.heap.size gs 6 cs (vals A) rfl (own_keep (allocB _ _) O9.out) ⟨w9.heap.size, 0, none⟩ 1 a0 rfl (by go_simp) (by omega) (by simp; omega) ?_)
      intro v10 w10 hown hgrow hold
      have B11 := hidd ((B10.out.alloc B10.out.size (.cells #[.int .u64 a0] 30)).grown hgrow (by have := B10.out.size; simp; omega) (own_block (own_mono O9.out hs2)))
      rw [show vals A ++ [Value.int .u64 a0] = vals (A ++ [a0]) by simp [vals]] at hown
      have FR := hidd (p_free _ (A ++ [a0]) (by rw [List.length_append]; have := HA6.out; simp; omega) (fun z hz => (List.mem_append.1 hz).elim (US.out z) (fun h => by rw [List.mem_singleton.1 h]; exact UA0.out)) false (by simpa using NF2.out) w10 (Lst.own hown))
      obtain ⟨p10, c10, rfl, -⟩ := own_slice hown
      clear hown hgrow hold O9 B10 NF2
      go_wp2_with fail
      refine FR.out.mono ?_
      rintro e w11 ⟨rfl, b11⟩
      have B12 := hidd (belowT B11.out b11)
      have A9 := hidd (AW.out w11 (HT.out.below B12.out))
      clear b11 FR B11
      go_wp2_with fail
      refine A9.out.mono ?_
      rintro e w12 ⟨rfl, b12⟩
      go_wp2_with fail
      go_ret
      exact ⟨rfl, belowT B12.out b12⟩

end Go.Proofs.YtlfjfendlohekaaGreatDoor
