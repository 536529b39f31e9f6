/-
  The law CellsChecks: it returns true for any words, raw ones and those of cells, any size and either flag, in whatever memory.
-/
import Derived.Test.YtogkfmoediiieaaOpenL
import Derived.Test.YtogkfmoediiieaaUAwake
import Derived.Test.YtogkfmoediiieaaVCheck
import Derived.Test.YtogkfmoediiieaaVGroups
import Derived.Test.YtogkfmoediiieaaKidMath
import Derived.Laws.BitsAllLaws
import Derived.Handy
import Derived.Deep.QuietTactic
import Derived.Test.YtogkfmoediiieaaProg
import Derived.WalkSpells
import Derived.WalkLawsBesides
import Derived.BigQuiet
import Derived.PlainAid
import Derived.Deep.RegionWith
import Derived.Deep.RegionHeld3
import Derived.WalkSmall
import Derived.Deep.CutRange
import Derived.BigRegion
import Derived.OwnWalk
import Derived.Laws.OwnMore
import Derived.OneCell
import Derived.Laws.CopyOwn
import Derived.Sort.Row
import Derived.Laws.AppendOwn
import Derived.Laws.AppendOwnNone
import Derived.BigFrame
import Derived.RangeFuncFrom
import Derived.RangeFuncCalls
import Derived.RangeFuncLeaves
import Derived.WalkKit
import Derived.OwnWalkIn
import Derived.TacticsInMore
import Derived.LoopNIn
import Derived.LoopIn
import Derived.RegionIn
import Derived.Stop.RegionWithIn
import Derived.Deep.Cut
import Derived.Sort.LotD3
import Derived.Deep.LoopGhost
import Derived.Sort.WalkA6
import Derived.Sort.Walk13a
import Derived.Sort.LotA
import Derived.Sort.LotB
import Derived.Sort.LotD1
import Derived.Deep.Draws
import Derived.BigGuard
import Derived.BigCall
import Derived.CellFam
import Derived.Sort.WalkB3
import Derived.Sort.WalkB12
import Derived.Deep.OwnRows
import Derived.Deep.RegionLaw
import Derived.ChangeSlices
import Derived.OpenShut
import Derived.Deep.AppendLies
namespace Go.Proofs.Ytogkfmoediiieaa
open Go.RowKit

theorem least_of {p : Nat → Prop} (h : ∃ i, p i) : ∃ i, p i ∧ ∀ j, j < i → ¬ p j := by
  obtain ⟨i, hi⟩ := h
  induction i using Nat.strongRecOn with
  | ind i ih =>
    by_cases h : ∃ j, j < i ∧ p j
    · obtain ⟨j, hj, hp⟩ := h
      exact ih j hj hp
    · exact ⟨i, hi, fun j hj hp => h ⟨j, hj, hp⟩⟩

/-- Every list has its first fault, or none. -/
theorem chk_ex (L : List Int) (r : Int) : ∃ t, ChkT L r t := by
  by_cases h : ∀ (j : Nat) (hj : j < L.length), Whole L[j] ∧ wR L[j] = r
  · exact ⟨0, .inl ⟨rfl, h⟩⟩
  · have hex : ∃ i, ∃ hi : i < L.length, ¬ (Whole L[i] ∧ wR L[i] = r) := Classical.byContradiction fun h2 => h fun j hj => Classical.byContradiction fun h3 => h2 ⟨j, hj, h3⟩
    obtain ⟨i, ⟨hi, hb⟩, hmin⟩ := least_of hex
    have hpre : ∀ (j : Nat) (hj : j < L.length), j < i → Whole L[j] ∧ wR L[j] = r := fun j hj hji => Classical.byContradiction fun h3 => hmin j hji ⟨hj, h3⟩
    by_cases hW : Whole L[i]
    · exact ⟨8, .inr ⟨i, hi, hpre, .inr ⟨rfl, hW, fun e => hb ⟨hW, e⟩⟩⟩⟩
    · exact ⟨5, .inr ⟨i, hi, hpre, .inl ⟨rfl, hW⟩⟩⟩

theorem ccheck_t (s : Value) (L : List Int) (r t : Int) (ht : ChkT L r t) (hn : L.length ≤ 50000) (uL : ∀ x ∈ L, U64 x) (w : World) (hl : Lst w s L) :
    Calls Try.prog 15 #[s, .int .i64 r] w fun e w' => e = .returned (.int .i64 t) ∧ Below w.heap.size w w' := by
  refine (ccheck s L r hn uL w hl).mono ?_
  rintro e w' ⟨⟨t', rfl, ht'⟩, hb⟩
  obtain rfl := chk_one ht' ht
  exact ⟨rfl, hb⟩

theorem rcheck_t (s : Value) (L : List Int) (r t : Int) (ht : ChkT L r t) (hn : L.length ≤ 50000) (uL : ∀ x ∈ L, U64 x) (w : World) (hl : Lst w s L) :
    Calls Try.prog 25 #[s, .int .i64 r] w fun e w' => e = .returned (.int .i64 t) ∧ Below w.heap.size w w' := by
  refine (rcheck s L r hn uL w hl).mono ?_
  rintro e w' ⟨⟨t', rfl, ht'⟩, hb⟩
  obtain rfl := chk_one ht' ht
  exact ⟨rfl, hb⟩

theorem chk_size (r : Int) : ∃ t : Int, r.tmod 13 = t ∧ -13 < t ∧ t < 13 :=
  ⟨_, rfl, Int.lt_tmod_of_pos r (by omega), Int.tmod_lt_of_pos r (by omega)⟩

/-- The word above a word is a word. -/
theorem whole_up {v : Int} (h : Whole v) (h0 : 0 < wR v) : Whole (upW v) ∧ wR (upW v) = wR v - 1 := by
  have ho := cell_ok h
  obtain ⟨n, hn⟩ := Int.eq_ofNat_of_zero_le (wR_box v).1
  rw [hn] at ho h0
  have hp := ok4_parent ho h0
  rw [show (n : Int) - 1 = ((n - 1 : Nat) : Int) by omega] at hp
  have hw := word_parts hp
  have hwc := word_cell h
  rw [hn, Int.toNat_natCast] at hwc
  rw [← raised_word ho (by omega), hwc] at hw
  exact ⟨hw.1, by rw [hw.2.1, hn]; omega⟩

theorem seven_of (i : Nat) : ∃ k : Nat, (i : Int).tmod 7 = (k : Int) ∧ k < 7 :=
  ⟨i % 7, by rw [Int.tmod_eq_emod_of_nonneg (by omega)]; rfl, Nat.mod_lt _ (by omega)⟩

/-- The word of a word's child, as the document's own answer has it. -/
theorem kid_word {v : Int} (h : Whole v) (hr : wR v < 12) (k : Nat) (hk : k < 7) (w : World) :
    Calls Try.prog 12 #[.agg #[.int .i64 (kidG (wR v) (cellA v) (cellB v) (k * 3)), .int .i64 (kidG (wR v) (cellA v) (cellB v) (k * 3 + 1)), .int .i64 (kidG (wR v) (cellA v) (cellB v) (k * 3 + 2))]] w fun e w' => e = .returned (.tuple #[.int .u64 (chW v k), .int .i64 0]) ∧ Below w.heap.size w w' := by
  have hb := wR_box v
  have hc := child_word h hr (show k ≤ 6 by omega)
  have := rword_yes _ _ _ hc.1 w
  rw [hc.2] at this
  rw [kidG_0, kidG_1, kidG_2, show wR v + 1 = (((wR v).toNat + 1 : Nat) : Int) by omega]
  exact this

theorem keepAB {a b w0 : World} {p q : Addr} {u v : Value} (hb : Below a.heap.size a b) (h : a.cell? p = some u ∧ a.cell? q = some v ∧ Below w0.heap.size w0 a) : b.cell? p = some u ∧ b.cell? q = some v ∧ Below w0.heap.size w0 b :=
  ⟨keepCell hb h.1, keepCell hb h.2.1, belowT h.2.2 hb⟩

theorem keep_far {a b : World} {row : Option Nat} {p : Addr} {v : Value} (hg : a.grownBy b row) (hne : row ≠ some p.block) (h : a.cell? p = some v ∧ a.frozen? p = false) : b.cell? p = some v ∧ b.frozen? p = false :=
  ⟨(hg.cell_far p (World.block_lt_of_cell? _ _ h.1) (fun e => hne e.symm)).trans h.1, (hg.frozen_far p (World.block_lt_of_cell? _ _ h.1) (fun e => hne e.symm)).trans h.2⟩

theorem own_single (w : World) (x : Int) : (w.alloc (.cells #[.int .u64 x] 24)).ownsRow w.heap.size 24 1 (.slice (some ⟨w.heap.size, 0, none⟩) 1 1) [x].length (vals [x]) :=
  ⟨rfl, .inr ⟨w.heap.size, 1, #[.int .u64 x], rfl, Nat.le_refl _, by show (w.heap.push _)[w.heap.size]? = _; simp, by simp, by unfold maxLen; omega, rfl, rfl⟩⟩

theorem own_lower {w : World} {b b' n size : Nat} {e : TypeId} {v : Value} {xs : List Value} (h : w.ownsRow b e size v n xs) (hb : b' ≤ b) : w.ownsRow b' e size v n xs := by
  refine ⟨h.1, ?_⟩
  rcases h.2 with h | ⟨g, c, cur, h1, h2, h3⟩
  · exact .inl h
  · exact .inr ⟨g, c, cur, h1, Nat.le_trans hb h2, h3⟩

/-- A row in a new block lies apart from all that were there. -/
theorem rows_new {w : World} {base m c : Nat} {v : Value} {G : List (List Int)} {S : List Value} (h : Rows2 w base v G S) : ∀ s ∈ S, Apart s (.slice (some ⟨w.heap.size, 0, none⟩) m c) := by
  intro s hs
  obtain ⟨j, hj, rfl⟩ := List.mem_iff_getElem.1 hs
  have k := h.2.2.1 j hj (by rw [← h.1]; exact hj)
  by_cases hn : S[j].ownBlock = none
  · exact .inl hn
  · refine .inr (.inr fun e2 => ?_)
    simp only [Value.ownBlock] at e2
    have := (own_lt k _ e2).2
    omega

/-- What lies behind the first words of a list. -/
theorem tail_lst {w : World} {q n c : Nat} {A T : List Int} (h : Lst w (.slice (some ⟨q, 0, none⟩) n c) (A ++ T)) : Lst w (.slice (if c = A.length then some ⟨q, 0, none⟩ else some ⟨q, A.length, none⟩) T.length (c - A.length)) T := by
  obtain ⟨p, cap, e, h1, h2⟩ := h
  simp only [Value.slice.injEq] at e
  obtain ⟨rfl, hn, rfl⟩ := e
  rw [List.length_append] at h1
  refine ⟨_, _, rfl, by omega, fun j hj => ⟨q, A.length, if_neg (by omega), ?_⟩⟩
  obtain ⟨g, o, e, hc⟩ := h2 (A.length + j) (by rw [List.length_append]; omega)
  simp only [Option.some.injEq, Addr.mk.injEq, and_true] at e
  obtain ⟨rfl, rfl⟩ := e
  rw [Nat.zero_add] at hc
  rw [hc]
  simp

set_option maxHeartbeats 32000000 in
set_option maxRecDepth 20000 in
theorem cellsChecks_walk (sA : Value) (A : List Int) (sX : Value) (X : List Int) (r0 : Int) (kb : Bool) (w : World) (hA : Lst w sA A) (uA : ∀ x ∈ A, U64 x) (aA : Addressed sA) (hX : LstK .i64 w sX X) (_ : ∀ x ∈ X, -9223372036854775808 ≤ x ∧ x ≤ 9223372036854775807) (_ : -9223372036854775808 ≤ r0) (_ : r0 ≤ 9223372036854775807) :
    Calls Try.prog 6 #[sA, sX, .int .i64 r0, .bool kb] w fun e w' => e = .returned (.bool true) ∧ Below w.heap.size w w' := by
  have AW := hidd fun w2 => cawake w2
  have WD := hidd fun x y => aword_any x y r0
  obtain ⟨i0, hi, hz0, hz1, hz2⟩ := info_parts infoU64
  have UA := hidd uA
  have AA := hidd aA
  have al := allocB w (.cells #[] 24)
  have O0 := hidd (own_fresh w)
  have la := hidd (hA.keep al)
  obtain ⟨pA, cA, rfl⟩ := hA.len
  obtain ⟨pX, cX, rfl, -, cX0⟩ := hX
  have HX := hidd cX0
  clear hA uA aA cX0
  by_cases h : A.length ≤ 60 ∧ X.length ≤ 60
  · obtain ⟨nA, nX⟩ := h
    have nA' : decide (60 < A.length) = false := decide_eq_false (by omega)
    have nX' : decide (60 < X.length) = false := decide_eq_false (by omega)
    go_enter Try.func6, Try.ntmps6
    go_wp2_with (at_builtin; refine wpList_append_lst (by rfl) (.tmp 38) (.tmp 39) rfl w.heap.size _ 0 [] rfl O0.out _ A rfl la.out AA.out (by omega) al.size ?_)
    intro v1 w1 ho1 hg1
    have B1 : Below w.heap.size w w1 := al.grown hg1 al.size (own_block O0.out)
    have O1 := hidd ho1
    clear ho1 hg1 O0 la al AA
    go_wp2_with fail
    go_loopw [9, 10] (fun v9 v10 wr => ∃ (i : Nat) (T : List Int), i ≤ 61 ∧ T.length ≤ i ∧ v10 = .int .i64 (i : Int) ∧ Hid (∀ x ∈ T, U64 x) ∧ Hid (wr.ownsRow w.heap.size 24 1 v9 (A.length + T.length) (vals (A ++ T))) ∧ Below w.heap.size w wr) (fun _ v10 _ => 61 - (intOf v10).toNat)
    case atStart => exact ⟨0, [], by omega, by simp, rfl, hidd (fun x hx => by simp at hx), hidd (by simpa using O1.out), B1⟩
    case round =>
      clear B1 O1
      obtain ⟨i, T, hi61, hT, rfl, UT, O9, hB⟩ := hrel
      by_cases hlt : i + 1 < X.length
      · have b3 : (i : Int) + 1 < (X.length : Int) := by omega
        have ew : IntKind.i64.wrap ((i : Int) + 1) = (i : Int) + 1 := by rw [IntKind.wrap_i64]; omega
        have en1 : ((i : Int) + 1).toNat = i + 1 := by omega
        obtain ⟨k, et7, hk7⟩ := seven_of i
        obtain ⟨g0, o0, rfl, x0⟩ := HX.out i (by omega)
        obtain ⟨g1, o1, e1, x1⟩ := HX.out (i + 1) (by omega)
        simp only [Option.some.injEq, Addr.mk.injEq, and_true] at e1
        obtain ⟨rfl, rfl⟩ := e1
        replace x0 := keepCell hB x0
        replace x1 := keepCell hB x1
        generalize X[i]'_ = z0 at *
        generalize X[i + 1]'_ = z1 at *
        obtain ⟨s, s12, W1⟩ := WD.out z0 z1
        replace W1 := hidd W1
        go_wp2_with fail
        go_cut [11] from 41 to 93 (fun v11 wx => ∃ v, v11 = .int .u64 v ∧ Hid (Whole v) ∧ Below wr.heap.size wr wx)
        case first =>
          go_region_with (go_at_call 9; refine (W1.out _).mono ?_; rintro e w1 ⟨⟨P, Q, rfl, hO⟩, d1⟩; have hp := word_parts hO; have hv : Hid (Whole (wordOf s P Q)) := hidd hp.1; clear hp hO; generalize wordOf s P Q = v at *)
          all_goals
            go_wp2_with fail
            go_meet
            exact ⟨v, rfl, hv, by first | exact d1 | exact belowT (drewB _) d1⟩
        case rest =>
          obtain ⟨v, rfl, hv, d1⟩ := hcut
          have B2 := belowT hB d1
          have O9a := hidd (own_keep d1 O9.out)
          clear x0 x1 d1 hB O9 W1
          go_wp2_with (at_builtin; refine wpList_append_apart rfl (.tmp 59) (.tmp 61) 23 rfl w.heap.size 24 i0 (.int .u64 0) 1 8 Try.underlying23 hi hz0 hz1 hz2 rfl (by decide) _ _ _ rfl (own_keep (allocB _ _) O9a.out) ⟨wc.heap.size, 0, none⟩ 1 1 (by decide) [.int .u64 v] rfl rfl (one_lies _ _ rfl _ _) (one_int _ _) (by unfold maxLen; omega) (by omega) (by have := B2.size; simp; omega) ?_)
          intro y5 w5 hown hgrow _
          have B5 : Below w.heap.size w w5 := (B2.alloc B2.size (.cells #[.int .u64 v] 24)).grown hgrow (by have := B2.size; simp; omega) (own_block O9a.out)
          have O9b : Hid (w5.ownsRow w.heap.size 24 1 y5 (A.length + (T ++ [v]).length) (vals (A ++ (T ++ [v])))) := hidd (by
            rw [show vals (A ++ (T ++ [v])) = vals (A ++ T) ++ [.int .u64 v] by simp [vals], show A.length + (T ++ [v]).length = A.length + T.length + 1 by simp; omega]
            exact hown)
          have hv1 := hv.out
          have hvb := whole_box hv1
          have U1 : Hid (∀ x ∈ T ++ [v], U64 x) := hidd fun x hx => by
            rcases List.mem_append.1 hx with h | h
            · exact UT.out x h
            · rw [List.mem_singleton] at h; subst h; constructor <;> omega
          have hT1 : (T ++ [v]).length ≤ i + 1 := by simp; omega
          clear hown hgrow O9a B2 hv UT hvb hT
          generalize T ++ [v] = T1 at *
          cases kb with
          | false =>
            go_wp2_with fail
            go_roundw
            case rel => exact ⟨i + 2, T1, by omega, by omega, by go_num, U1, O9b, B5⟩
            case measure => simp [intOf]; omega
          | true =>
            by_cases h0 : 0 < wR v
            · have UP := hidd fun w => rup_yes2 v hv1 h0 w
              have hu := whole_up hv1 h0
              have hu12 : wR (upW v) < 12 := by have := wR_box v; have := hv1.2.1; omega
              have hu1 := hu.1
              clear hu h0 hv1
              generalize upW v = u at *
              have CE := hidd fun w => rwcell_yes u hu1 w
              have KE := hidd fun w => rkids_yes (wR u) (cellA u) (cellB u) (cell_ok hu1) (by omega) w
              have WE := hidd fun w => kid_word hu1 (by omega) k hk7 w
              have hc := (chW_whole hu1 hu12 (show k ≤ 6 by omega)).1
              have hcb := whole_box hc
              have hcu : Hid (U64 (chW u k)) := hidd ⟨by omega, by omega⟩
              clear hc hcb hu1 hu12
              generalize wR u = R at *
              generalize cellA u = C at *
              generalize cellB u = D at *
              generalize kidG R C D = G at *
              generalize chW u k = x at *
              go_wp2_with fail
              refine (UP.out _).mono ?_
              rintro e w6 ⟨rfl, d6⟩
              have B6 := belowT B5 d6
              have O9c := hidd (own_keep d6 O9b.out)
              clear d6 O9b B5 UP
              go_wp2_with fail
              refine (CE.out _).mono ?_
              rintro e w7 ⟨rfl, d7⟩
              have B7 := belowT B6 d7
              have O9d := hidd (own_keep d7 O9c.out)
              clear d7 O9c B6 CE
              go_wp2_with fail
              refine (KE.out _).mono ?_
              rintro e w8 ⟨⟨g, cap, rfl, hG⟩, d8⟩
              have c8 : Below w7.heap.size w7 w8 := Below.trans (by go_grown) (d8.mono (by simp; try omega))
              have B8 := belowT B7 c8
              have O9e := hidd (own_keep c8 O9d.out)
              have s0 := hG (k * 3) (by omega)
              have s1 := hG (k * 3 + 1) (by omega)
              have s2 := hG (k * 3 + 2) (by omega)
              clear hG d8 c8 O9d B7 KE
              generalize G (k * 3) = g0' at *
              generalize G (k * 3 + 1) = g1' at *
              generalize G (k * 3 + 2) = g2' at *
              go_wp2_with fail
              refine (WE.out _).mono ?_
              rintro e w9 ⟨rfl, d9⟩
              have B9 := belowT B8 d9
              have O9f := hidd (own_keep d9 O9e.out)
              clear d9 O9e B8 WE s0 s1 s2
              go_wp2_with (at_builtin; refine wpList_append_apart rfl (.tmp 90) (.tmp 92) 23 rfl w.heap.size 24 i0 (.int .u64 0) 1 8 Try.underlying23 hi hz0 hz1 hz2 rfl (by decide) _ _ _ rfl (own_keep (allocB _ _) O9f.out) ⟨w9.heap.size, 0, none⟩ 1 1 (by decide) [.int .u64 x] rfl rfl (one_lies _ _ rfl _ _) (one_int _ _) (by unfold maxLen; omega) (by omega) (by have := B9.size; simp; omega) ?_)
              intro y6 w10 hown hgrow _
              have B10 : Below w.heap.size w w10 := (B9.alloc B9.size (.cells #[.int .u64 x] 24)).grown hgrow (by have := B9.size; simp; omega) (own_block O9f.out)
              have O9g : Hid (w10.ownsRow w.heap.size 24 1 y6 (A.length + (T1 ++ [x]).length) (vals (A ++ (T1 ++ [x])))) := hidd (by
                rw [show vals (A ++ (T1 ++ [x])) = vals (A ++ T1) ++ [.int .u64 x] by simp [vals], show A.length + (T1 ++ [x]).length = A.length + T1.length + 1 by simp; omega]
                exact hown)
              have U2 : Hid (∀ y ∈ T1 ++ [x], U64 y) := hidd fun y hy => by
                rcases List.mem_append.1 hy with h | h
                · exact U1.out y h
                · rw [List.mem_singleton] at h; subst h; exact hcu.out
              have hT2 : (T1 ++ [x]).length ≤ i + 2 := by simp; omega
              clear hown hgrow O9f B9 U1 hT1 hcu
              generalize T1 ++ [x] = T2 at *
              go_wp2_with fail
              go_roundw
              case rel => exact ⟨i + 2, T2, by omega, by omega, by go_num, U2, O9g, B10⟩
              case measure => simp [intOf]; omega
            · have UP := hidd fun w => rup_top v hv1 (by have := wR_box v; omega) w
              clear h0 hv1
              go_wp2_with fail
              refine (UP.out _).mono ?_
              rintro e w6 ⟨rfl, d6⟩
              have B6 := belowT B5 d6
              have O9c := hidd (own_keep d6 O9b.out)
              clear d6 O9b B5 UP
              go_wp2_with fail
              go_roundw
              case rel => exact ⟨i + 2, T1, by omega, by omega, by go_num, U1, O9c, B6⟩
              case measure => simp [intOf]; omega
      · have b3 : ¬ (i : Int) + 1 < (X.length : Int) := by omega
        obtain ⟨n, en⟩ : ∃ n, A.length + T.length = n := ⟨_, rfl⟩
        rw [en] at O9
        have EN := hidd en
        have bT : T.length = n - A.length := by omega
        have bn1 : A.length ≤ n := by omega
        have bn2 : n ≤ 121 := by omega
        have L9 := hidd (Lst.own O9.out)
        have UL : Hid (∀ x ∈ A ++ T, U64 x) := hidd fun x hx => (List.mem_append.1 hx).elim (UA.out x) (UT.out x)
        obtain ⟨t13, e13, l13, h13⟩ := chk_size r0
        obtain ⟨t1, ht1⟩ := chk_ex (A ++ T) r0
        obtain ⟨t2, ht2⟩ := chk_ex T ((IntKind.i64.wrap (t13 + 13)).tmod 13)
        obtain ⟨p9, c9, rfl, hp9⟩ := own_slice O9.out
        have C1 := hidd fun w h => ccheck_t (.slice p9 n c9) (A ++ T) r0 t1 ht1 (by simp; omega) UL.out w h
        have C2 := hidd fun w h => rcheck_t (.slice p9 n c9) (A ++ T) r0 t1 ht1 (by simp; omega) UL.out w h
        have C3 := hidd fun s w h => ccheck_t s T ((IntKind.i64.wrap (t13 + 13)).tmod 13) t2 ht2 (by omega) UT.out w h
        have C4 := hidd fun s w h => rcheck_t s T ((IntKind.i64.wrap (t13 + 13)).tmod 13) t2 ht2 (by omega) UT.out w h
        obtain ⟨pL, cL, eL, hle, hcL⟩ := L9.out
        simp only [Value.slice.injEq] at eL
        obtain ⟨rfl, -, rfl⟩ := eL
        rw [List.length_append, EN.out] at hle
        have bi1 : (A.length : Int) ≤ (n : Int) := by omega
        have bi2 : (n : Int) ≤ (c9 : Int) := by omega
        have bi3 : (0 : Int) ≤ (A.length : Int) := by omega
        clear en
        clear hcL O9
        go_wp2_with fail
        go_cut [121] from 94 to 121 (fun v121 wx => v121 = .bool false ∧ Below wr.heap.size wr wx)
        case first =>
          rcases hp9 with ⟨rfl, h0⟩ | ⟨q, rfl⟩
          · obtain rfl : A = [] := List.length_eq_zero_iff.1 (by omega)
            obtain rfl : T = [] := List.length_eq_zero_iff.1 (by omega)
            subst h0
            have LT := hidd fun p c => Lst.none' wr p c
            clear bT bn1 bn2 bi1 bi2 bi3
            go_region_held3 (fun w' => Below wr.heap.size wr w') (first | exact (Below.refl _ _).drew | exact belowT (by assumption) hb) (first | (go_at_call 15; with_reducible refine (C1.out _ (L9.out.keep (by assumption))).mono ?_; rintro e w' ⟨rfl, hb⟩) | (go_at_call 25; with_reducible refine (C2.out _ (L9.out.keep (by assumption))).mono ?_; rintro e w' ⟨rfl, hb⟩) | (go_at_call 15; with_reducible refine (C3.out _ _ ((LT.out _ _).keep (by assumption))).mono ?_; rintro e w' ⟨rfl, hb⟩) | (go_at_call 25; with_reducible refine (C4.out _ _ ((LT.out _ _).keep (by assumption))).mono ?_; rintro e w' ⟨rfl, hb⟩))
            all_goals
              rename_i hS
              go_wp2_with fail
              go_meet
              exact ⟨by simp, hS⟩
          · by_cases hc9 : c9 = A.length
            · subst hc9
              obtain rfl : T = [] := List.length_eq_zero_iff.1 (by omega)
              obtain rfl : n = A.length := by omega
              have LT := hidd fun p c => Lst.none' wr p c
              clear bT bn1 bi1 bi2 bi3
              go_region_held3 (fun w' => Below wr.heap.size wr w') (first | exact (Below.refl _ _).drew | exact belowT (by assumption) hb) (first | (go_at_call 15; with_reducible refine (C1.out _ (L9.out.keep (by assumption))).mono ?_; rintro e w' ⟨rfl, hb⟩) | (go_at_call 25; with_reducible refine (C2.out _ (L9.out.keep (by assumption))).mono ?_; rintro e w' ⟨rfl, hb⟩) | (go_at_call 15; with_reducible refine (C3.out _ _ ((LT.out _ _).keep (by assumption))).mono ?_; rintro e w' ⟨rfl, hb⟩) | (go_at_call 25; with_reducible refine (C4.out _ _ ((LT.out _ _).keep (by assumption))).mono ?_; rintro e w' ⟨rfl, hb⟩))
              all_goals
                rename_i hS
                go_wp2_with fail
                go_meet
                exact ⟨by simp, hS⟩
            · have LT0 := tail_lst L9.out
              rw [bT, if_neg hc9] at LT0
              have LT := hidd LT0
              clear LT0 bT
              go_region_held3 (fun w' => Below wr.heap.size wr w') (first | exact (Below.refl _ _).drew | exact belowT (by assumption) hb) (first | (go_at_call 15; with_reducible refine (C1.out _ (L9.out.keep (by assumption))).mono ?_; rintro e w' ⟨rfl, hb⟩) | (go_at_call 25; with_reducible refine (C2.out _ (L9.out.keep (by assumption))).mono ?_; rintro e w' ⟨rfl, hb⟩) | (go_at_call 15; with_reducible refine (C3.out _ _ (LT.out.keep (by assumption))).mono ?_; rintro e w' ⟨rfl, hb⟩) | (go_at_call 25; with_reducible refine (C4.out _ _ (LT.out.keep (by assumption))).mono ?_; rintro e w' ⟨rfl, hb⟩))
              all_goals
                rename_i hS
                go_wp2_with fail
                go_meet
                exact ⟨by simp, hS⟩
        case rest =>
          obtain ⟨rfl, d1⟩ := hcut
          have Bc := belowT hB d1
          have L9c := hidd (L9.out.keep d1)
          have SE := hidd (lset _ (A ++ T) (by simp; omega) UL.out wc L9c.out)
          have hAT : (A ++ T).length ≤ 121 := by simp; omega
          clear d1 hB C1 C2 C3 C4 L9 ht1 ht2 e13 l13 h13 bT bn1 bn2 bi1 bi2 bi3 hp9 hle
          go_wp2_with fail
          refine SE.out.mono ?_
          rintro e w2 ⟨⟨vS, S, rfl, rS, mS, nS, lS⟩, d2⟩
          have B2 := belowT Bc d2
          have RS := hidd rS
          have MS := hidd mS
          have LS := hidd lS
          obtain ⟨pS, cS, rfl⟩ := lS.len
          have L9d := hidd (L9c.out.keep d2)
          have nS2 : S.length ≤ 121 := by omega
          have US : Hid (∀ x ∈ S, U64 x) := hidd fun x hx => UL.out x ((MS.out x).1 hx)
          obtain ⟨i1, hj, hy0, hy1, hy2⟩ := info_parts infoSl
          clear rS mS nS lS d2 SE L9c Bc
          go_wp2_with fail
          go_loopw [21, 22, 23, 24] (fun v21 v22 v23 v24 wr => ∃ (i : Nat) (G : List (List Int)) (Z : List Value) (l : Int) (hb : Bool), i ≤ S.length ∧ v24 = .int .i64 (i : Int) ∧ v22 = .int .u64 l ∧ v23 = .bool hb ∧ Hid (hb = decide (0 < l)) ∧ 0 ≤ l ∧ Hid (Rows2 wr w2.heap.size v21 G Z) ∧ Hid (gFold (S.take i) = (G, l)) ∧ Hid (l = 0 ∨ G ≠ []) ∧ Hid (∀ k ∈ G, k.length ≤ i) ∧ G.length ≤ i ∧ Below w2.heap.size w2 wr) (fun _ _ _ v24 _ => S.length - (intOf v24).toNat)
          case atStart => exact ⟨0, [], [], 0, false, by omega, rfl, rfl, rfl, hidd (by simp), by omega, Rows2.nil' _ _, hidd (by simp [gFold]), .inl rfl, hidd (fun k hk => by simp at hk), Nat.le_refl _, Below.refl _ _⟩
          case round =>
            obtain ⟨i, G, Z, l, hb, hi2, rfl, rfl, rfl, hbl, hl0, hR, hF, hE, hgl, hGi, hB⟩ := hrel
            by_cases hlt : i < S.length
            · obtain ⟨pS', cS', e', -, hcK⟩ := LS.out
              simp only [Value.slice.injEq] at e'
              obtain ⟨rfl, -, -⟩ := e'
              obtain ⟨gK, oK, rfl, cX⟩ := hcK i hlt
              replace cX := keepCell hB cX
              have hxu := US.out _ (List.getElem_mem hlt)
              have hnx := gFold_next hlt
              rw [hF.out] at hnx
              obtain ⟨pv, cv, rfl, -⟩ := own_slice hR.out.2.1
              clear hcK hF
              generalize S[i]'_ = x at *
              by_cases hW : Whole x
              · have IW := hidd fun w => risword_yes x hW w
                go_wp2_with fail
                refine (IW.out _).mono ?_
                rintro e w3 ⟨rfl, d3⟩
                have B3 := belowT hB d3
                have R3 := hidd (hR.out.keep d3)
                have c3 := keepCell d3 cX
                clear IW d3 hB hR cX
                by_cases h0 : wR x = 0
                · have UP := hidd fun w => rup_top x hW h0 w
                  have hF2 : Hid (gFold (S.take (i + 1)) = (G ++ [[x]], 0)) := hidd (by rw [hnx, gStep_top hW h0])
                  clear hnx hW h0
                  go_wp2_with fail
                  refine (UP.out _).mono ?_
                  rintro e w4 ⟨rfl, d4⟩
                  have B4 := belowT B3 d4
                  have R4 := hidd (R3.out.keep d4)
                  have c4 := keepCell d4 c3
                  clear UP d4 B3 R3 c3
                  have k1 := allocB w4 (.cells #[.int .u64 x] 24)
                  have k2 := allocB (w4.alloc (.cells #[.int .u64 x] 24)) (.cells #[.slice (some ⟨w4.heap.size, 0, none⟩) 1 1] 23)
                  have R5 := hidd ((R4.out.keep k1).keep k2)
                  have X5 := hidd (own_keep k2 (own_lower (own_single w4 x) B4.size))
                  have N5 := hidd (rows_new (m := 1) (c := 1) R4.out)
                  go_wp2_with (at_builtin; refine wpList_append_apart rfl (.tmp 171) (.tmp 177) 38 rfl w2.heap.size 23 i1 (.slice none 0 0) 1 24 Try.underlying38 hj hy0 hy1 hy2 rfl (by decide) _ _ _ rfl R5.out.2.1 ⟨w4.heap.size + 1, 0, none⟩ 1 1 (by decide) [.slice (some ⟨w4.heap.size, 0, none⟩) 1 1] rfl rfl (one_lies _ _ (by simp) _ _) (fun u hu => by simp at hu; subst hu; rfl) (by unfold maxLen; omega) (by omega) (by have := B4.size; simp; omega) ?_)
                  intro v6 w6 hown hgrow _
                  have B6 : Below w2.heap.size w2 w6 := ((B4.alloc B4.size (.cells #[.int .u64 x] 24)).alloc (by have := B4.size; simp; omega) (.cells #[.slice (some ⟨w4.heap.size, 0, none⟩) 1 1] 23)).grown hgrow (by have := B4.size; simp; omega) (own_block R4.out.2.1)
                  have R6 := hidd (Rows2.push R5.out X5.out N5.out hown hgrow)
                  clear hown hgrow R4 R5 X5 N5 B4 k1 k2
                  go_wp2_with fail
                  go_roundw
                  case rel => exact ⟨i + 1, G ++ [[x]], Z ++ [.slice (some ⟨w4.heap.size, 0, none⟩) 1 1], 0, false, by omega, by go_num, rfl, rfl, hidd (by simp), by omega, R6, hF2, hidd (.inr (by simp)), hidd (fun k hk => (List.mem_append.1 hk).elim (fun h => by have := hgl.out k h; omega) (fun h => by rw [List.mem_singleton] at h; subst h; simp)), by simp; omega, B6⟩
                  case measure => simp [intOf]; omega
                · have hpos : 0 < wR x := by have := wR_box x; omega
                  have UP := hidd fun w => rup_yes2 x hW hpos w
                  have hup := up_pos hW hpos
                  by_cases hlast : upW x = l
                  · obtain ⟨G', g, rfl⟩ : ∃ G' g, G = G' ++ [g] := by
                      have hne : G ≠ [] := by
                        rcases hE.out with h | h
                        · exfalso; omega
                        · exact h
                      exact ⟨G.dropLast, G.getLast hne, (List.dropLast_concat_getLast hne).symm⟩
                    obtain ⟨Z', sl, rfl⟩ : ∃ Z' sl, Z = Z' ++ [sl] := by
                      have hne : Z ≠ [] := by
                        have := R3.out.1
                        intro h; rw [h] at this; simp at this
                      exact ⟨Z.dropLast, Z.getLast hne, (List.dropLast_concat_getLast hne).symm⟩
                    have eGl : (G' ++ [g]).length = G'.length + 1 := by simp
                    rw [eGl] at R3 ⊢
                    have hF2 : Hid (gFold (S.take (i + 1)) = (G' ++ [g ++ [x]], upW x)) := hidd (by rw [hnx, ← hlast, gStep_add hW hpos])
                    have hgg : g.length ≤ i := hgl.out g (by simp)
                    rw [eGl] at hGi
                    obtain rfl : hb = true := by rw [hbl.out]; exact decide_eq_true (by omega)
                    have hlu : (l == upW x) = true := by simp [hlast]
                    have hl2 : Hid (true = decide (0 < upW x)) := hidd (decide_eq_true hup).symm
                    clear hnx hW hpos h0 hlast hbl
                    generalize upW x = u at *
                    go_wp2_with fail
                    refine (UP.out _).mono ?_
                    rintro e w4 ⟨rfl, d4⟩
                    have B4 := belowT B3 d4
                    have R4 := hidd (R3.out.keep d4)
                    have c4 := keepCell d4 c3
                    clear UP d4 B3 R3 c3
                    obtain ⟨q, cq, hvq⟩ := own_shape R4.out.2.1 (by simp)
                    rw [eGl] at hvq
                    have hSl : Z'.length = G'.length := by have := R4.out.1; simp at this; omega
                    simp only [Value.slice.injEq] at hvq
                    obtain ⟨rfl, -, rfl⟩ := hvq
                    have ho4 := R4.out.2.1
                    rw [eGl] at ho4
                    have cs : w4.cell? ⟨q, G'.length, none⟩ = some sl := by
                      rw [ho4.cellAt G'.length (by omega), ← hSl]
                      simp
                    have fs : w4.frozen? ⟨q, G'.length, none⟩ = false := ho4.frozenAt G'.length
                    have osl : Hid (w4.ownsRow w2.heap.size 24 1 sl g.length (vals g)) := hidd (by
                      have h3 := R4.out.2.2.1 Z'.length (by simp) (by simp [hSl])
                      simpa [hSl] using h3)
                    have ew : IntKind.i64.wrap (((G'.length + 1 : Nat) : Int) - 1) = (G'.length : Int) := by rw [IntKind.wrap_i64]; omega
                    have ew2 : ((G'.length : Int) + 1 - 1) = (G'.length : Int) := by omega
                    obtain ⟨psl, csl, hsl, -⟩ := own_slice osl.out
                    rw [hsl] at cs osl
                    rw [hsl] at R4
                    clear hsl
                    have hneQ : (Value.slice psl g.length csl).ownBlock ≠ some q := by
                      rcases own_unlike osl.out ho4 types_unlike with h | h | h
                      · rw [h]; simp
                      · simp [Value.ownBlock] at h
                      · exact h
                    have csf := And.intro cs fs
                    have kk := belowT (drewB w4) (allocB w4.drew (.cells #[.int .u64 x] 24))
                    have o7 := own_keep kk osl.out
                    have bz := B4.size
                    have CS := hidd (And.intro (keepCell kk cs) (keepFrozen kk cs fs))
                    have R7 := hidd (R4.out.keep kk)
                    have B7 := B4.trans (kk.mono B4.size)
                    have OB := hidd (own_block osl.out)
                    have O7 := hidd o7
                    have QB := hidd (own_block R4.out.2.1 q rfl)
                    have csa := keepCell (allocB w4 (.cells #[.int .u64 x] 24)) cs
                    have ew3 : IntKind.i64.wrap (G'.length : Int) = (G'.length : Int) := by rw [IntKind.wrap_i64]; omega
                    have Bp : (0 : Int) ≤ (G'.length : Int) := by omega
                    have Bi : (i : Int) < (S.length : Int) := by omega
                    have Bq : (G'.length : Int) < (G'.length : Int) + 1 := by omega
                    clear ho4 csf kk o7 R4 osl B4
                    go_wp2_with fail
                    go_region_law? ((refine step_append_lies _ (by rfl) _ _ _ (by rfl) w2.heap.size 24 i0 (.int .u64 0) 1 8 Try.underlying23 hi hz0 hz1 hz2 rfl (by decide) _ g.length (vals g) (by rfl) O7.out ⟨w4.heap.size, 0, none⟩ 1 1 [.int .u64 x] (by rfl) rfl (one_lies w4.drew w4.heap.size rfl (.int .u64 x) 24) (one_int _ _) (by decide) (by unfold maxLen; omega) (by omega) (by simp; omega) (w4.heap.size + 1) (by simp) ?_; intro g6 c6 w6 hown hgrow hat hlt6; obtain ⟨cs6, fs6⟩ := keep_far hgrow hneQ CS.out))
                    all_goals
                      have B8 : Below w2.heap.size w2 w6 := B7.grown hgrow (by simp; omega) OB.out
                      have R8 := hidd (Rows2.add R7.out hown hgrow (hat.elim (fun h => .inl h.symm) (fun h => .inr (by rw [h]; simp [Value.ownBlock]))))
                      have B9 := B8.setCell (p := ⟨q, G'.length, none⟩) QB.out (.slice (some ⟨g6, 0, none⟩) (g.length + 1) c6)
                      clear hown hgrow hat hlt6 R7 O7 CS OB
                      go_wp2_with fail
                      go_roundw
                      case rel => exact ⟨i + 1, G' ++ [g ++ [x]], Z' ++ [Value.slice (some ⟨g6, 0, none⟩) (g.length + 1) c6], u, true, by omega, by go_num, rfl, rfl, hl2, by omega, R8, hF2, hidd (.inr (by simp)), hidd (fun k hk => (List.mem_append.1 hk).elim (fun h => by have := hgl.out k (by simp [h]); omega) (fun h => by rw [List.mem_singleton] at h; subst h; simp; omega)), by simp; omega, B9⟩
                      case measure => simp [intOf]; omega
                  · have hF2 : Hid (gFold (S.take (i + 1)) = (G ++ [[x]], upW x)) := hidd (by rw [hnx, gStep_new hW hpos hlast])
                    have hlu : (l == upW x) = false := by simp; omega
                    have hl2 : Hid (true = decide (0 < upW x)) := hidd (decide_eq_true hup).symm
                    clear hnx hW hpos h0 hlast hbl
                    generalize upW x = u at *
                    go_wp2_with fail
                    refine (UP.out _).mono ?_
                    rintro e w4 ⟨rfl, d4⟩
                    have B4 := belowT B3 d4
                    have R4 := hidd (R3.out.keep d4)
                    have c4 := keepCell d4 c3
                    clear UP d4 B3 R3 c3
                    cases hb
                    all_goals
                      have k1 := allocB w4 (.cells #[.int .u64 x] 24)
                      have k2 := allocB (w4.alloc (.cells #[.int .u64 x] 24)) (.cells #[.slice (some ⟨w4.heap.size, 0, none⟩) 1 1] 23)
                      have R5 := hidd ((R4.out.keep k1).keep k2)
                      have X5 := hidd (own_keep k2 (own_lower (own_single w4 x) B4.size))
                      have N5 := hidd (rows_new (m := 1) (c := 1) R4.out)
                      go_wp2_with (at_builtin; refine wpList_append_apart rfl (.tmp 171) (.tmp 177) 38 rfl w2.heap.size 23 i1 (.slice none 0 0) 1 24 Try.underlying38 hj hy0 hy1 hy2 rfl (by decide) _ _ _ rfl R5.out.2.1 ⟨w4.heap.size + 1, 0, none⟩ 1 1 (by decide) [.slice (some ⟨w4.heap.size, 0, none⟩) 1 1] rfl rfl (one_lies _ _ (by simp) _ _) (fun u hu => by simp at hu; subst hu; rfl) (by unfold maxLen; omega) (by omega) (by have := B4.size; simp; omega) ?_)
                      intro v6 w6 hown hgrow _
                      have B6 : Below w2.heap.size w2 w6 := ((B4.alloc B4.size (.cells #[.int .u64 x] 24)).alloc (by have := B4.size; simp; omega) (.cells #[.slice (some ⟨w4.heap.size, 0, none⟩) 1 1] 23)).grown hgrow (by have := B4.size; simp; omega) (own_block R4.out.2.1)
                      have R6 := hidd (Rows2.push R5.out X5.out N5.out hown hgrow)
                      clear hown hgrow R4 R5 X5 N5 B4 k1 k2
                      go_wp2_with fail
                      go_roundw
                      case rel => exact ⟨i + 1, G ++ [[x]], Z ++ [.slice (some ⟨w4.heap.size, 0, none⟩) 1 1], u, true, by omega, by go_num, rfl, rfl, hl2, by omega, R6, hF2, hidd (.inr (by simp)), hidd (fun k hk => (List.mem_append.1 hk).elim (fun h => by have := hgl.out k h; omega) (fun h => by rw [List.mem_singleton] at h; subst h; simp)), by simp; omega, B6⟩
                      case measure => simp [intOf]; omega
              · have IW := hidd fun w => risword_no x hxu hW w
                have hF2 : Hid (gFold (S.take (i + 1)) = (G, l)) := hidd (by rw [hnx, gStep_no hW])
                clear hnx hW
                go_wp2_with fail
                refine (IW.out _).mono ?_
                rintro e w3 ⟨rfl, d3⟩
                have B3 := belowT hB d3
                have R3 := hidd (hR.out.keep d3)
                clear IW d3 hB hR cX
                go_wp2_with fail
                go_roundw
                case rel => exact ⟨i + 1, G, Z, l, hb, by omega, by go_num, rfl, rfl, hbl, hl0, R3, hF2, hE, hidd (fun k hk => by have := hgl.out k hk; omega), by omega, B3⟩
                case measure => simp [intOf]; omega
            · obtain rfl : i = S.length := by omega
              rw [List.take_length] at hF
              have L2 := hR.out.read
              obtain ⟨pv, cv, rfl, -⟩ := own_slice hR.out.2.1
              have BW := belowT B2 hB
              have GE := hidd (cgroups (.slice p9 n c9) (A ++ T) (by omega) UL.out wr (L9d.out.keep hB))
              have kG := hidd hgl.out
              clear hR hE hbl hB hgl
              go_wp2_with fail
              refine GE.out.mono ?_
              rintro e w3 ⟨⟨K, vG, rK, mK, rfl, lG⟩, d3⟩
              have eK : K = S := rising_ext rK RS.out fun z => by rw [mK z, MS.out z]
              rw [eK, hF.out] at lG
              replace L2 := L2.keep d3
              have B3 := belowT BW d3
              obtain ⟨pG, cG, rfl, hG⟩ := lG
              obtain ⟨p2, c2', e2, hW2⟩ := L2
              simp only [Value.slice.injEq] at e2
              obtain ⟨rfl, -, rfl⟩ := e2
              have HG := hidd hG
              have HW := hidd hW2
              clear hG hW2 d3 rK mK GE BW eK hF
              go_wp2_with fail
              go_loopw [28] (fun v28 wr => ∃ k : Nat, k ≤ G.length ∧ v28 = .int .i64 (k : Int) ∧ Below w3.heap.size w3 wr) (fun v28 _ => G.length - (intOf v28).toNat)
              case atStart => exact ⟨0, by omega, rfl, Below.refl _ _⟩
              case round =>
                obtain ⟨k, hk, rfl, hD⟩ := hrel
                by_cases hlt : k < G.length
                · obtain ⟨ga, sa, rfl, y1, y2⟩ := HG.out k hlt
                  obtain ⟨gb, sb, rfl, z1, z2⟩ := HW.out k hlt
                  have hkl := kG.out _ (List.getElem_mem hlt)
                  have SM := hidd fun w' (h : Below w3.heap.size w3 w') => lsame sa sb G[k] (by omega) w' (y2.keep h) (z2.keep h)
                  have hS0 : wr.drew.cell? ⟨ga, k, none⟩ = some sa ∧ wr.drew.cell? ⟨gb, k, none⟩ = some sb ∧ Below w3.heap.size w3 wr.drew := ⟨keepCell hD.drew y1, keepCell hD.drew z1, hD.drew⟩
                  have e1 := hidd y2
                  have e2 := hidd z2
                  obtain ⟨pa, ca, rfl⟩ := y2.len
                  obtain ⟨pb, cb, rfl⟩ := z2.len
                  have Bk : (k : Int) < (G.length : Int) := by omega
                  clear y1 y2 z1 z2 hkl e1 e2
                  generalize (G[k]'_).length = mk at *
                  go_wp2_with fail
                  go_region_held3 (fun w' => w'.cell? ⟨ga, k, none⟩ = some (.slice pa mk ca) ∧ w'.cell? ⟨gb, k, none⟩ = some (.slice pb mk cb) ∧ Below w3.heap.size w3 w') (first | exact hS0 | exact keepAB hb (by assumption)) (first | (go_at_call 24; with_reducible refine (SM.out _ (And.right (And.right (by assumption)))).mono ?_; rintro e w' ⟨rfl, hb⟩))
                  all_goals
                    rename_i hS
                    have hW3 := hS.2.2
                    clear hS hS0 SM hD
                    go_wp2_with fail
                    go_roundw
                    case rel => exact ⟨k + 1, by omega, by go_num, hW3⟩
                    case measure => simp [intOf]; omega
                · obtain rfl : k = G.length := by omega
                  have B5 := belowT B3 hD
                  clear HG HW hD
                  go_wp2_with fail
                  refine (AW.out _).mono ?_
                  rintro e w6 ⟨rfl, d6⟩
                  go_wp2
                  go_ret
                  exact ⟨rfl, belowT B5 d6⟩
  · have hcase : 60 < A.length ∨ (A.length ≤ 60 ∧ 60 < X.length) := by omega
    clear O0 la al AA
    rcases hcase with h1 | ⟨h1, h2⟩
    · have h1' : decide (60 < A.length) = true := decide_eq_true h1
      go_enter Try.func6, Try.ntmps6
      go_wp2_with fail
      refine (AW.out _).mono ?_
      rintro e w1 ⟨rfl, b1⟩
      go_wp2
      go_ret
      exact ⟨rfl, b1⟩
    · have h1' : decide (60 < A.length) = false := decide_eq_false (by omega)
      have h2' : decide (60 < X.length) = true := decide_eq_true h2
      go_enter Try.func6, Try.ntmps6
      go_wp2_with fail
      refine (AW.out _).mono ?_
      rintro e w1 ⟨rfl, b1⟩
      go_wp2
      go_ret
      exact ⟨rfl, b1⟩

end Go.Proofs.Ytogkfmoediiieaa
