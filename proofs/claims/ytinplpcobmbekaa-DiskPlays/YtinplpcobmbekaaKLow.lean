/-
  Package disk's small functions: a copy of bytes; bytes laid where they belong; a write that is added to those that wait; in whatever memory.
-/
import Derived.Test.YtinplpcobmbekaaDCopy
import Derived.Laws.CopyOwn
import Derived.Below
import Derived.Test.YtinplpcobmbekaaProg
import Derived.Handy
import Derived.Deep.QuietTactic
import Derived.WalkSpells
import Derived.WalkLawsBesides
import Derived.BigQuiet
import Derived.PlainAid
import Derived.Deep.RegionWith
import Derived.Laws.BitsAllLaws
import Derived.OwnWalk
import Derived.Laws.OwnMore
import Derived.Deep.RegionHeld3
import Derived.WalkSmall
import Derived.Deep.CutRange
import Derived.BigRegion
import Derived.OneCell
import Derived.Sort.Row
import Derived.ChangeSlices
import Derived.OpenShut
import Derived.Deep.AppendLies
import Derived.Laws.BytesArg
import Derived.Laws.CopyRow
import Derived.Laws.IdiomCopy
import Derived.Deep.OwnRows
import Derived.Deep.RegionLaw
import Derived.Lib.MinMax
import Derived.Lib.SliceRun
namespace Go.Proofs.Ytinplpcobmbekaa
open Go.RowKit

theorem LstB.keep {w w' : World} {v : Value} {bs : List Int} (h : LstB w v bs) (hb : Below w.heap.size w w') : LstB w' v bs := by
  obtain ⟨p, c, e, hc⟩ := h
  refine ⟨p, c, e, fun h0 => ?_⟩
  obtain ⟨g, o, e2, hx⟩ := hc h0
  exact ⟨g, o, e2, fun j hj => (hb.cell (World.block_lt_of_cell? _ _ (hx j hj))).trans (hx j hj)⟩

/-- copy of bytes into a row of one's own, as a step of a region that draws. -/
theorem step_copy_lst {ops : Array Oper} {o : Oper} {a : Act} {w : World} {K : Act → World → Prop} {Q : Exit → Act → World → Prop} {E : Prop} (hgd : o.guard = none) (d s : Operand)
    (ho : o.op = .call { callee := .builtin .copy, args := #[d, s], argTypes := #[30, 30] }) (vd : Value) (n : Nat) (L : List Int) (hD : w.ownsRow 0 5 1 vd n (bV L)) (off : Nat) (bs : List Int)
    (dp sp : Option Addr) (dLen dCap sLen sCap : Nat) (hd : a.eval d = .slice dp dLen dCap) (hs : a.eval s = .slice sp sLen sCap) (hmin : bs.length = Nat.min sLen dLen)
    (hpos : 0 < bs.length → ∃ g c, vd = .slice (some ⟨g, 0, none⟩) n c ∧ dp = some ⟨g, off, none⟩ ∧ ∃ ad, sp = some ad ∧ ∀ j v, (bV bs)[j]? = some v → w.cell? (ad.add j) = some v) (hfit : off + bs.length ≤ n)
    (h : ∀ w', w'.ownsRow 0 5 1 vd n (bV (splice L off bs)) → w.grownBy w' vd.ownBlock → K (a.put o.dst (goInt bs.length)) w') :
    if Region.wanted o (yielded ops a.tmps) = true then Oper.wp Try.prog o a w K Q else E := by
  have hw : Region.wanted o (yielded ops a.tmps) = true := by simp [Region.wanted, hgd]
  rw [if_pos hw]
  have hl : L.length = n := by have := hD.1; rw [bV_len] at this; omega
  by_cases h0 : bs.length = 0
  · obtain rfl : bs = [] := List.eq_nil_of_length_eq_zero h0
    have hrun := run_copy_none (P := Try.prog) w 30 30 o.type 5 dp sp dLen dCap sLen sCap Try.underlying30 infoU8 (by simpa using hmin.symm)
    unfold Oper.wp
    simp [execOp, ho, resolve, invoke, builtin, hd, hs, hrun, Result.andThen]
    exact h w (by rw [splice_nil]; exact hD) (grown_refl _ _)
  · obtain ⟨g, c, rfl, rfl, ad, rfl, hsrc⟩ := hpos (by omega)
    rcases hD.2 with ⟨e, _⟩ | ⟨g', cap, cur, e, hb, hg, hnc, hcm, hcs, ht⟩
    · simp at e
    simp only [Value.slice.injEq, Option.some.injEq, Addr.mk.injEq, and_true, true_and] at e
    obtain ⟨rfl, rfl⟩ := e
    have hrun := run_copy_row (P := Try.prog) w 30 30 o.type 5 g off dLen dCap ad sLen sCap cur 5 (bV bs) Try.underlying30 infoU8 hg (by rw [bV_len]; exact hmin) hsrc (by rw [bV_len]; omega) (bV_one bs)
    rw [bV_len] at hrun
    unfold Oper.wp
    simp [execOp, ho, resolve, invoke, builtin, hd, hs, hrun, Result.andThen]
    refine h _ ⟨?_, .inr ⟨g, c, _, rfl, hb, setRow_heap w g cur _ _ (0, 0) hg, hnc, hcm, ?_, ?_⟩⟩ ⟨rfl, rfl, rfl, by simp [World.setRow], fun k hk hr => setRow_other w g k _ (fun e => hr (by rw [e]; rfl))⟩
    · rw [bV_len, splice_len (by omega)]
      omega
    · simp only [List.size_toArray, List.length_append, List.length_take, List.length_drop, Array.length_toList, bV_len]
      omega
    · rw [Nat.mul_one] at ht ⊢
      rw [bV_splice, ← ht]
      have h1 : (cur.toList.take off ++ bV bs).length = off + bs.length := by
        rw [List.length_append, List.length_take, bV_len, Array.length_toList]
        omega
      rw [← List.append_assoc, List.take_append, h1, List.take_of_length_le (by rw [h1]; exact hfit), List.take_take, Nat.min_eq_left (show off ≤ n by omega), List.drop_take, List.append_assoc]

theorem lst_news {w : World} {g o : Nat} {bs : List Int} (hx : ∀ j (h : j < bs.length), w.cell? ⟨g, o + j, none⟩ = some (.int .u8 bs[j])) : ∀ j v, (bV bs)[j]? = some v → w.cell? ((⟨g, o, none⟩ : Addr).add j) = some v := lie_row hx

set_option maxHeartbeats 4000000 in
/-- INTO. -/
theorem k_into {w : World} {vd vs : Value} {L bs : List Int} {n a : Nat} (hD : w.ownsRow 0 5 1 vd n (bV L)) (hs : LstB w vs bs) (ha : a + bs.length ≤ n) (hn : n ≤ 1000000) :
    Calls Try.prog 25 #[.agg #[.int .i64 (a : Int), vs], vd] w fun e w' => e = .returned (.tuple #[]) ∧ w'.ownsRow 0 5 1 vd n (bV (splice L a bs)) ∧ w.grownBy w' vd.ownBlock := by
  have al := allocB w (.cells #[.int .i64 (a : Int), vs] 62)
  have hD1 := hidd (own_keep al.drew hD)
  have hs1 := hs.keep al.drew
  obtain ⟨p, c, rfl⟩ := row_any hD
  obtain ⟨q, c2, rfl, hc⟩ := hs1
  have SRC : Hid (0 < bs.length → ∃ ad, q = some ad ∧ ∀ j v, (bV bs)[j]? = some v → (w.alloc (.cells #[.int .i64 (a : Int), .slice q bs.length c2] 62)).drew.cell? (ad.add j) = some v) := hidd fun h0 => by
    obtain ⟨g, o, e, hx⟩ := hc h0
    exact ⟨_, e, lie_row hx⟩
  have GR : Hid (∀ w', ((w.alloc (.cells #[.int .i64 (a : Int), .slice q bs.length c2] 62)).drew).grownBy w' (Value.slice p n c).ownBlock → w.grownBy w' (Value.slice p n c).ownBlock) := hidd fun w' hg =>
    ⟨hg.os, hg.tape, hg.output, Nat.le_trans (by simp) hg.size, fun k hk hr => (hg.block k (by simp; omega) hr).trans (Below.heap_alloc _ _ _ hk)⟩
  clear hs hD hc
  have hcn : n ≤ c ∨ p = none := by
    rcases hD1.out.2 with ⟨e, e0⟩ | ⟨g, cap, cur, e, -, -, h, -⟩
    · simp only [Value.slice.injEq] at e; exact .inr e.1
    · simp only [Value.slice.injEq] at e; exact .inl (by rw [e.2.2]; exact h)
  have hp : (p = none ∧ n = 0 ∧ c = 0) ∨ ∃ g, p = some ⟨g, 0, none⟩ := by
    rcases hD1.out.2 with ⟨e, e0⟩ | ⟨g, cap, cur, e, _⟩
    · simp only [Value.slice.injEq] at e; exact .inl ⟨e.1, e0, e.2.2⟩
    · simp only [Value.slice.injEq] at e; exact .inr ⟨g, e.1⟩
  obtain ⟨m, em⟩ : ∃ m, bs.length = m := ⟨_, rfl⟩
  have EM := hidd em
  simp only [em] at SRC GR hD1 ha al ⊢
  clear em
  rcases hp with ⟨rfl, rfl, rfl⟩ | ⟨g, rfl⟩
  · obtain rfl : a = 0 := by omega
    obtain rfl : m = 0 := by omega
    clear hcn
    go_enter Try.func25, Try.ntmps25
    go_wp2_with fail
    go_region_law (refine step_copy_lst (by rfl) _ _ (by rfl) _ 0 L hD1.out 0 bs none q 0 0 0 c2 (by rfl) (by rfl) (by rw [EM.out]; rfl) (fun h0 => by have := EM.out; omega) (by rw [EM.out]; omega) ?_; intro w' hr hg)
    all_goals
      go_end0
      exact ⟨rfl, hr, GR.out _ hg⟩
  · have hnc : n ≤ c := by rcases hcn with h | h; exact h; simp at h
    clear hcn
    by_cases hca : c = a
    · obtain rfl : a = n := by omega
      obtain rfl : m = 0 := by omega
      subst hca
      go_enter Try.func25, Try.ntmps25
      go_wp2_with fail
      go_region_law (refine step_copy_lst (by rfl) _ _ (by rfl) _ _ L hD1.out c bs (some ⟨g, 0, none⟩) q 0 0 0 c2 (by rfl) (by rfl) (by rw [EM.out]; rfl) (fun h0 => by have := EM.out; omega) (by rw [EM.out]; omega) ?_; intro w' hr hg)
      all_goals
        go_end0
        exact ⟨rfl, hr, GR.out _ hg⟩
    · have ha1 : (0 : Int) ≤ (a : Int) := by omega
      have ha2 : (a : Int) ≤ (n : Int) := by omega
      have ha3 : (a : Int) ≤ (c : Int) := by omega
      go_enter Try.func25, Try.ntmps25
      go_wp2_with fail
      go_region_law (refine step_copy_lst (by rfl) _ _ (by rfl) _ _ L hD1.out a bs (some ⟨g, a, none⟩) q (n - a) (c - a) m c2 (by rfl) (by rfl) (by rw [EM.out, show Nat.min m (n - a) = min m (n - a) from rfl]; omega) (fun h0 => by
        obtain ⟨ad, e, hx⟩ := SRC.out (by rw [← EM.out]; exact h0)
        exact ⟨g, c, rfl, rfl, ad, e, hx⟩) (by rw [EM.out]; omega) ?_; intro w' hr hg)
      all_goals
        go_end0
        exact ⟨rfl, hr, GR.out _ hg⟩

theorem run_eq_nilK (w : World) (a : Option Addr) (n c : Nat) : (binOp .eql 30 (.slice a n c) (.slice none 0 0)).run Try.prog w = .ok (.bool a.isNone) w := by
  rw [Lib.run_eql_slice_nil w 30 5 a n c 0 0 Try.underlying30]

theorem own_void (w : World) : (w.alloc (.cells #[] 5)).ownsRow w.heap.size 5 1 (.slice (some ⟨w.heap.size, 0, none⟩) 0 0) 0 [] := ⟨rfl, .inr ⟨w.heap.size, 0, #[], rfl, Nat.le_refl _, heap_alloc_new w _, Nat.le_refl _, Nat.zero_le _, rfl, rfl⟩⟩

set_option maxHeartbeats 4000000 in
/-- CLONE. -/
theorem k_clone {w : World} {v : Value} {bs : List Int} (hs : LstB w v bs) (hn : v = .slice none 0 0 ∨ ∃ a m c, v = .slice (some a) m c) (hl : bs.length ≤ 1000000000) :
    Calls Try.prog 32 #[v] w fun e w' => ∃ u, e = .returned u ∧ w'.ownsRow w.heap.size 5 1 u bs.length (bV bs) ∧ Below w.heap.size w w' := by
  rcases hn with rfl | ⟨a, m, c, rfl⟩
  · obtain ⟨p, c, e, hc⟩ := hs
    simp only [Value.slice.injEq] at e
    obtain rfl : bs = [] := List.eq_nil_of_length_eq_zero e.2.1.symm
    clear hc e hl
    have EQ := run_eq_nilK w none 0 0
    go_enter Try.func32, Try.ntmps32
    go_wp2
    go_ret
    exact ⟨_, rfl, World.ownsRow_nil _ _ _ _, Below.refl _ _⟩
  · obtain ⟨p, c', e, hc⟩ := hs
    simp only [Value.slice.injEq] at e
    obtain ⟨rfl, rfl, rfl⟩ := e
    have al := allocB w (.cells #[] 5)
    have OE := hidd (own_void w)
    have NEWS : Hid (∀ j u, (bV bs)[j]? = some u → (w.alloc (.cells #[] 5)).cell? (a.add j) = some u) := hidd fun j u hu => by
      have hj : j < bs.length := by
        have := (List.getElem?_eq_some_iff.1 hu).1
        rwa [bV_len] at this
      obtain ⟨g, o, e, hx⟩ := hc (by omega)
      simp only [Option.some.injEq] at e
      subst e
      exact lie_row (fun j hj => (al.cell (World.block_lt_of_cell? _ _ (hx j hj))).trans (hx j hj)) j u hu
    obtain ⟨i0, hi, hz0, hz1, hz2⟩ := info_partsD infoByte
    have AL := hidd al
    have BL := hidd (bV_len bs)
    have BO := hidd (bV_one bs)
    obtain ⟨X, eX⟩ : ∃ X, bV bs = X := ⟨_, rfl⟩
    rw [eX] at NEWS BL BO ⊢
    obtain ⟨k, ek⟩ : ∃ k, bs.length = k := ⟨_, rfl⟩
    rw [ek] at BL hl ⊢
    clear hc al eX ek
    have EQ := run_eq_nilK w (some a) k c
    go_enter Try.func32, Try.ntmps32
    go_wp2_with (at_builtin; refine wpList_append_own _ rfl (.tmp 5) (.tmp 6) 30 rfl w.heap.size 5 i0 (.int .u8 0) 1 1 Try.underlying30 hi hz0 hz1 hz2 rfl (by decide) _ 0 [] rfl OE.out a k c X rfl (by rw [BL.out, Nat.mul_one]) NEWS.out BO.out (by unfold maxLen; omega) (by omega) (by simp) ?_; intro u w6 hown hgrow _)
    go_ret
    exact ⟨u, rfl, by simpa using hown, AL.out.grown hgrow (by simp) (own_block OE.out)⟩

end Go.Proofs.Ytinplpcobmbekaa
