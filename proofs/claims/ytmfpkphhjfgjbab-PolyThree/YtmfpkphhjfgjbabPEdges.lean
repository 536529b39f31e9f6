/-
  The edges of a ring, and of rings one behind the other, as package poly hands them on.
-/
import Derived.Test.YtmfpkphhjfgjbabE1D
import Derived.Test.YtmfpkphhjfgjbabUD
import Derived.Test.YtmfpkphhjfgjbabPRings
import Derived.Test.YtmfpkphhjfgjbabRPArea
import Derived.Test.YtmfpkphhjfgjbabPSeq
import Derived.RangeFuncFrom
import Derived.RangeFuncCalls
import Derived.RangeFuncLeaves
import Derived.Laws.BitsAllLaws
import Derived.Handy
import Derived.Deep.QuietTactic
import Derived.Test.YtmfpkphhjfgjbabProg
import Derived.WalkSpells
import Derived.WalkLawsBesides
import Derived.BigQuiet
import Derived.PlainAid
import Derived.Deep.RegionWith
import Derived.Deep.RegionHeld3
import Derived.WalkSmall
import Derived.Deep.CutRange
import Derived.BigRegion
import Derived.OwnWalk
import Derived.Laws.OwnMore
import Derived.OneCell
import Derived.Laws.CopyOwn
import Derived.Sort.Row
import Derived.WalkKit
import Derived.OwnWalkIn
import Derived.TacticsInMore
import Derived.LoopNIn
import Derived.LoopIn
import Derived.RegionIn
import Derived.Stop.RegionWithIn
namespace Go.Proofs.Ytmfpkphhjfgjbab
open Go.RowKit Go
attribute [local go_sem] Oper.semAt_some

/-- An edge of the world. -/
abbrev Edge := { e : (Int × Int) × (Int × Int) // InWo e.1 ∧ InWo e.2 }

abbrev encE (x : Edge) : Array Value := #[.agg #[.int .i64 x.1.1.1, .int .i64 x.1.1.2, .int .i64 x.1.2.1, .int .i64 x.1.2.2]]

def evals (xs : List Edge) : List ((Int × Int) × (Int × Int)) := xs.map (·.1)

theorem evals_snoc (xs : List Edge) (x : Edge) : evals (xs ++ [x]) = evals xs ++ [x.1] := by unfold evals; simp

theorem evals_app (xs ys : List Edge) : evals (xs ++ ys) = evals xs ++ evals ys := by unfold evals; simp

/-- The first k edges of a ring. -/
def edgesT (R : List (Int × Int)) (k : Nat) : List ((Int × Int) × (Int × Int)) := (List.range k).map fun k => (pt R k, pt R ((k + 1) % R.length))

theorem edgesT_step (R : List (Int × Int)) (k : Nat) : edgesT R (k + 1) = edgesT R k ++ [(pt R k, pt R ((k + 1) % R.length))] := by unfold edgesT; rw [List.range_succ, List.map_append]; rfl

theorem edgesT_le (R : List (Int × Int)) {k n : Nat} (h : k ≤ n) : ∃ d, edgesT R n = edgesT R k ++ d := by
  induction n with
  | zero => exact ⟨[], by rw [show k = 0 by omega]; rfl⟩
  | succ n ih =>
    by_cases c : k = n + 1
    · exact ⟨[], by rw [c, List.append_nil]⟩
    · obtain ⟨d, hd⟩ := ih (by omega)
      exact ⟨d ++ [(pt R n, pt R ((n + 1) % R.length))], by rw [edgesT_step, hd, List.append_assoc]⟩

/-- The sum over edges. -/
def sumE (f : Int × Int → Int × Int → Int) : List ((Int × Int) × (Int × Int)) → Int
  | [] => 0
  | e :: l => f e.1 e.2 + sumE f l

theorem sumE_app (f : Int × Int → Int × Int → Int) (m : List ((Int × Int) × (Int × Int))) : ∀ l, sumE f (l ++ m) = sumE f l + sumE f m
  | [] => by show sumE f m = 0 + sumE f m; omega
  | e :: l => by show f e.1 e.2 + sumE f (l ++ m) = f e.1 e.2 + sumE f l + sumE f m; rw [sumE_app f m l]; omega

theorem sumE_snoc (f : Int × Int → Int × Int → Int) (l : List ((Int × Int) × (Int × Int))) (e : (Int × Int) × (Int × Int)) : sumE f (l ++ [e]) = sumE f l + f e.1 e.2 := by
  rw [sumE_app]; show _ + (f e.1 e.2 + 0) = _; omega

theorem sumE_nonneg {f : Int × Int → Int × Int → Int} (h : ∀ p q, 0 ≤ f p q) : ∀ l, 0 ≤ sumE f l
  | [] => Int.le_refl 0
  | e :: l => by
    have h1 := h e.1 e.2
    have h2 := sumE_nonneg h l
    show 0 ≤ f e.1 e.2 + sumE f l
    omega

theorem sumE_part (f : Int × Int → Int × Int → Int) (R : List (Int × Int)) : ∀ k, sumE f (edgesT R k) = part f R k
  | 0 => rfl
  | k + 1 => by rw [edgesT_step, sumE_snoc, sumE_part f R k, part_next]

/-- The edges of rings, one behind the other. -/
def edgesG : List (List (Int × Int)) → List ((Int × Int) × (Int × Int))
  | [] => []
  | R :: G => edgesT R R.length ++ edgesG G

theorem edgesG_app (H : List (List (Int × Int))) : ∀ G, edgesG (G ++ H) = edgesG G ++ edgesG H
  | [] => rfl
  | R :: G => by show edgesT R R.length ++ edgesG (G ++ H) = edgesT R R.length ++ edgesG G ++ edgesG H; rw [edgesG_app H G, List.append_assoc]

theorem edgesG_next {G : List (List (Int × Int))} {i : Nat} (h : i < G.length) : edgesG (G.take (i + 1)) = edgesG (G.take i) ++ edgesT G[i] G[i].length := by
  rw [List.take_succ_eq_append_getElem h, edgesG_app]
  show _ ++ (edgesT _ _ ++ []) = _
  rw [List.append_nil]

theorem edgesG_split (G : List (List (Int × Int))) (i : Nat) : edgesG G = edgesG (G.take i) ++ edgesG (G.drop i) := by rw [← edgesG_app, List.take_append_drop]

theorem sumE_on (x y : Int) : ∀ G, sumE (fun p q => bi (onB p q x y)) (edgesG G) = onG G x y
  | [] => rfl
  | R :: G => by
    show sumE _ (edgesT R R.length ++ edgesG G) = onN R x y + onG G x y
    rw [sumE_app, sumE_on x y G, sumE_part]
    rfl

theorem sumE_cr (x y : Int) : ∀ G, sumE (fun p q => bi (crB p q x y)) (edgesG G) = crG G x y
  | [] => rfl
  | R :: G => by
    show sumE _ (edgesT R R.length ++ edgesG G) = crN R x y + crG G x y
    rw [sumE_app, sumE_cr x y G, sumE_part]
    rfl

set_option maxRecDepth 100000 in
set_option maxHeartbeats 8000000 in
theorem edges_seq (s : Value) (R : List (Int × Int)) (hl : R.length ≤ 1000000) (hR : ∀ p ∈ R, InWo p) (w0 w : World) (h : RingL w0 s R) (hw : Below w0.heap.size w0 w) :
    SeqG Fence.wide 2 Try.prog 9 #[s] #[] encE w0.heap.size (fun xs => evals xs = edgesT R R.length) (fun pre => ∃ k, k ≤ R.length ∧ evals pre = edgesT R k) w := by
  intro l J Jx W hW hJ hJx hY h0
  obtain ⟨p, cap, hs, -, hc⟩ := h
  obtain ⟨m, em⟩ : ∃ m, R.length = m := ⟨_, rfl⟩
  have EM := hidd em
  rw [em] at hs hl
  subst hs
  have HC := hidd hc
  have HR := hidd hR
  have HY := hidd hY
  have HJ := hidd hJ
  have h0W : Below w0.heap.size w0 W := hw.trans (hW.mono hw.size)
  clear em hc hR hY hJ hw hW
  refine callsIn_of_wp Try.func9 rfl trivial ?_ rfl
  simp only [Try.ntmps9, List.size_toArray, List.length_cons, List.length_nil, Nat.reduceAdd, Nat.reduceSub, Array.replicate_succ, Array.replicate_zero, List.push_toArray, List.append_toArray, List.nil_append, List.cons_append]
  gi_wp2
  gi_loopw [8] (fun v8 wr => ∃ (k : Nat) (pre : List Edge), k ≤ m ∧ v8 = .int .i64 (k : Int) ∧ Hid (evals pre = edgesT R k) ∧ Below w0.heap.size w0 wr ∧ W.heap.size ≤ wr.heap.size ∧ Hid (J pre wr)) (fun v8 _ => m - (intOf v8).toNat)
  case atStart => exact ⟨0, [], by omega, rfl, hidd rfl, h0W, Nat.le_refl _, hidd h0⟩
  case round =>
    obtain ⟨k, pre, hk, rfl, hE, hB, hsz, hJr⟩ := hrel
    by_cases hkl : k < m
    · have hkl' : (k : Int) < (m : Int) := by omega
      have hl0 : ¬ ((m : Int) = 0) := by omega
      have hl00 : ((m : Int) == 0) = false := by simp; omega
      have hkR : k < R.length := by rw [EM.out]; exact hkl
      obtain ⟨j, ej, hj, ej1, ej2⟩ := next_ix hkl
      have hjR : j < R.length := by rw [EM.out]; exact hj
      have hj' : (j : Int) < (m : Int) := by omega
      obtain ⟨g, o, rfl, x0, x1⟩ := HC.out k hkR
      obtain ⟨g', o', e', y0, y1⟩ := HC.out j hjR
      simp only [Option.some.injEq, Addr.mk.injEq, and_true] at e'
      obtain ⟨rfl, rfl⟩ := e'
      replace x0 := keepCell hB x0
      replace x1 := keepCell hB x1
      replace y0 := keepCell hB y0
      replace y1 := keepCell hB y1
      have ip := HR.out _ (List.getElem_mem hkR)
      have iq := HR.out _ (List.getElem_mem hjR)
      have hal := allocB wr (.cells #[.int .i64 R[k].1, .int .i64 R[k].2] 22)
      have e0 : (wr.alloc (.cells #[.int .i64 R[k].1, .int .i64 R[k].2] 22)).cell? ⟨wr.heap.size, 0, none⟩ = some (.int .i64 R[k].1) := by go_simp
      have e1 : (wr.alloc (.cells #[.int .i64 R[k].1, .int .i64 R[k].2] 22)).cell? ⟨wr.heap.size, 1, none⟩ = some (.int .i64 R[k].2) := by go_simp
      have hY1 : Hid (YieldAt Fence.wide 1 Try.prog l #[.agg #[.int .i64 R[k].1, .int .i64 R[k].2, .int .i64 R[j].1, .int .i64 R[j].2]] (wr.alloc (.cells #[.int .i64 R[k].1, .int .i64 R[k].2] 22)).drew fun e W' => ∃ v : Bool, e = .returned (.bool v) ∧ ((v = true ∧ (∃ pre2, evals pre2 = edgesT R (k + 1) ∧ J pre2 W') ∧ Below w0.heap.size w0 W' ∧ W.heap.size ≤ W'.heap.size) ∨ (v = false ∧ ∃ pre2, (∃ k, k ≤ R.length ∧ evals pre2 = edgesT R k) ∧ Jx pre2 W'))) := hidd (by
        have hbd : Below wr.heap.size wr (wr.alloc (.cells #[.int .i64 R[k].1, .int .i64 R[k].2] 22)).drew := belowT hal (drewB _)
        have hE2 : evals (pre ++ [(⟨(R[k], R[j]), ip, iq⟩ : Edge)]) = edgesT R (k + 1) := by rw [evals_snoc, hE.out, edgesT_step, pt_at hkR, EM.out, ej, pt_at hjR]
        obtain ⟨fn, tmps, assign, body, hy, hRR⟩ := HY.out pre ⟨(R[k], R[j]), ip, iq⟩ _ (HJ.out _ _ _ hJr.out (hbd.mono hsz)) (Nat.le_trans hsz hbd.size)
        refine ⟨fn, tmps, assign, body, hy, hRR.mono ?_⟩
        rintro e W' (⟨rfl, h1, h2, h3⟩ | ⟨rfl, h1, -⟩)
        · exact ⟨true, rfl, .inl ⟨rfl, ⟨_, hE2, h1⟩, hB.trans ((hbd.mono hB.size).trans h2), Nat.le_trans (Nat.le_trans hsz hbd.size) h3.size⟩⟩
        · exact ⟨false, rfl, .inr ⟨rfl, _, ⟨k + 1, by omega, hE2⟩, h1⟩⟩)
      have hm := keepCell hal x0
      have hm1 := keepCell hal x1
      have hm2 := keepCell hal y0
      have hm3 := keepCell hal y1
      clear ip iq ej hE hJr
      generalize R[k].1 = a at *
      generalize R[k].2 = b at *
      generalize R[j].1 = c at *
      generalize R[j].2 = d at *
      gi_wp2
      obtain ⟨fn, tmps, assign, body, hy, hRR⟩ := hY1.out
      clear hY1
      generalize wr.alloc (.cells #[.int .i64 a, .int .i64 b] 22) = wa at *
      have d0 : wa.drew.cell? ⟨wr.heap.size, 0, none⟩ = some (.int .i64 a) := e0
      have d1 : wa.drew.cell? ⟨wr.heap.size, 1, none⟩ = some (.int .i64 b) := e1
      have d2 : wa.drew.cell? ⟨g, o + j * 2, none⟩ = some (.int .i64 c) := hm2
      have d3 : wa.drew.cell? ⟨g, o + j * 2 + 1, none⟩ = some (.int .i64 d) := hm3
      gi_region_with (first | (refine hRR.mono ?_; rintro e W3 ⟨v, rfl, hv⟩))
      all_goals
        rcases hv with ⟨rfl, ⟨pre2, hE3, h1⟩, h2, h3⟩ | ⟨rfl, pre2, hE3, h1⟩
        · have hE4 := hidd hE3
          have h1' := hidd h1
          clear h1 hE3 hRR hy
          gi_wp2
          go_roundw
          case rel => exact ⟨k + 1, pre2, by omega, by go_num, hE4, h2, h3, h1'⟩
          case measure => simp [intOf]; omega
        · gi_wp2
          refine bodyPost_ret (results_none rfl _ _ _) rfl ?_
          exact ⟨⟨_, rfl⟩, .inr ⟨pre2, hE3, h1⟩⟩
    · obtain rfl : k = m := by omega
      have hkl' : decide ((k : Int) < (k : Int)) = false := by simp
      have hE2 : evals pre = edgesT R R.length := by rw [EM.out]; exact hE.out
      have HJr := hJr.out
      clear hE hkl
      gi_wp2
      go_end0
      exact ⟨⟨_, rfl⟩, .inl ⟨_, hE2, HJr⟩⟩

/-- The frame within the loop over rings: what of it lasts, and the marks. -/
def FrE (s2 s6 s7 s8 : Value) (ds : List Deferred) (a : Act) : Prop :=
  ∃ u0 u1 u3 u4 u5 u9 u10 u11 u12 u13 u14 u15 u16 u17 u18 u19 : Value, a = { tmps := #[u0, u1, s2, u3, u4, u5, s6, s7, s8, u9, u10, u11, u12, u13, u14, u15, u16, u17, u18, u19], defers := ds }

set_option maxRecDepth 100000 in
set_option maxHeartbeats 8000000 in
theorem edgesOf_seq (s : Value) (G : List (List (Int × Int))) (hn : G.length ≤ 1000000) (hl : ∀ L ∈ G, L.length ≤ 1000000) (hG : ∀ L ∈ G, ∀ p ∈ L, InWo p) (w0 w : World) (h : RingsL w0 s G) (hw : Below w0.heap.size w0 w) (b : Nat) (hb : w.cell? ⟨b, 0, none⟩ = some s) :
    SeqG Fence.wide 3 Try.prog 19 #[] #[.pointer (some ⟨b, 0, none⟩)] encE w0.heap.size (fun xs => evals xs = edgesG G) (fun pre => ∃ suf, edgesG G = evals pre ++ suf) w := by
  intro l J Jx W hW hJ hJx hY h0
  obtain ⟨p, cap, hs, -, hc⟩ := h
  obtain ⟨m, em⟩ : ∃ m, G.length = m := ⟨_, rfl⟩
  have EM := hidd em
  rw [em] at hs hn
  subst hs
  have HC := hidd hc
  have HR := hidd hG
  have HL := hidd hl
  have HY := hidd hY
  have HJ := hidd hJ
  have HJx := hidd hJx
  have h0W : Below w0.heap.size w0 W := hw.trans (hW.mono hw.size)
  have hbW := keepCell hW hb
  clear em hc hG hY hJ hJx hw hW hl hb
  refine callsIn_of_wp_marks Try.func19 rfl trivial ?_ rfl
  simp only [Try.ntmps19, List.size_toArray, List.length_cons, List.length_nil, Nat.reduceAdd, Nat.reduceSub, Array.replicate_succ, Array.replicate_zero, List.push_toArray, List.append_toArray, List.nil_append, List.cons_append]
  have hal := allocB W (.cells #[.func (.yield l) #[] #[]] 41)
  have vW : (W.alloc (.cells #[.func (.yield l) #[] #[]] 41)).cell? ⟨W.heap.size, 0, none⟩ = some (.func (.yield l) #[] #[]) := by go_simp
  have hbV := keepCell hal hbW
  have h0V := hidd (h0W.trans (hal.mono h0W.size))
  have hJ0 := hidd (HJ.out _ _ _ h0 hal)
  have hsV : W.heap.size + 1 ≤ (W.alloc (.cells #[.func (.yield l) #[] #[]] 41)).heap.size := by simp
  clear h0 hbW hal
  gi_wp2
  generalize W.alloc (.cells #[.func (.yield l) #[] #[]] 41) = V at *
  refine wpIn_loop (fun a X => ∃ (i : Nat) (ds : List Deferred) (pre : List Edge), i ≤ m ∧ FrE (.pointer (some ⟨W.heap.size, 0, none⟩)) (.slice p m cap) (.int .i64 (m : Int)) (.int .i64 (i : Int)) ds a ∧ Below w0.heap.size w0 X ∧ W.heap.size + 1 ≤ X.heap.size ∧ X.cell? ⟨W.heap.size, 0, none⟩ = some (.func (.yield l) #[] #[]) ∧ Marks W.heap.size X.heap.size ds X ∧ Hid (evals pre = edgesG (G.take i)) ∧ Hid (J pre X))
    (fun a _ => m - (intOf (a.tmps.getD 8 undef)).toNat) ?start ?round
  case start => exact ⟨0, [], [], by omega, ⟨_, _, _, _, _, _, _, _, _, _, _, _, _, _, _, _, rfl⟩, h0V.out, hsV, vW, Marks.nil _ _ _, hidd rfl, hJ0⟩
  case round =>
    rintro a X ⟨i, ds, pre, hi, ⟨u0, u1, u3, u4, u5, u9, u10, u11, u12, u13, u14, u15, u16, u17, u18, u19, rfl⟩, hB, hsX, vX, hM, hE, hJr⟩
    by_cases him : i < m
    · have him' : (i : Int) < (m : Int) := by omega
      have hiG : i < G.length := by rw [EM.out]; exact him
      obtain ⟨g, o, sR, rfl, x0, hR⟩ := HC.out i hiG
      replace x0 := keepCell hB x0
      have hmem := List.getElem_mem hiG
      have ES := hidd (edges_seq sR G[i] (HL.out _ hmem) (HR.out _ hmem) w0 X hR hB)
      have NX := hidd (edgesG_next hiG)
      obtain ⟨pR, cR, rfl, -, -⟩ := hR
      obtain ⟨R, eR⟩ : ∃ R, G[i] = R := ⟨_, rfl⟩
      rw [eR] at x0 ES NX
      have SPL : Hid (edgesG G = edgesG (G.take i) ++ (edgesT R R.length ++ edgesG (G.drop (i + 1)))) := hidd (by rw [← List.append_assoc, ← NX.out]; exact edgesG_split G (i + 1))
      clear hmem eR
      gi_wp2
      have hsW := hB.size
      refine rf_law rfl (by omega) (gf := 9) (pb := #[.slice pR R.length cR]) (lb := #[]) rfl trivial (enters_of Try.func9 (by kernel_rfl) rfl)
        ES.out hsW (fun _ => rfl)
        (fun xs Y => (J (pre ++ xs) Y ∧ Y.cell? ⟨W.heap.size, 0, none⟩ = some (.func (.yield l) #[] #[]) ∧ Marks W.heap.size X.heap.size ds Y) ∧ Below w0.heap.size w0 Y)
        (fun c xs Y => c = .ret ∧ Jx (pre ++ xs) Y ∧ Marks W.heap.size X.heap.size ds Y) ?hI ?hIx ⟨⟨by rw [List.append_nil]; exact hJr.out, vX, hM⟩, hB⟩
        (fun x a' Y => ∃ e : Nat, (Y.cell? ⟨e, 0, none⟩ = some (.int .i64 x.1.1.1) ∧ Y.cell? ⟨e, 1, none⟩ = some (.int .i64 x.1.1.2) ∧ Y.cell? ⟨e, 2, none⟩ = some (.int .i64 x.1.2.1) ∧ Y.cell? ⟨e, 3, none⟩ = some (.int .i64 x.1.2.2)) ∧
          a' = { tmps := #[u0, u1, .pointer (some ⟨W.heap.size, 0, none⟩), u3, .slice pR R.length cR, .pointer (some ⟨e, 0, none⟩), .slice (some ⟨g, o, none⟩) m cap, .int .i64 (m : Int), .int .i64 (i : Int), .bool true, .pointer (some ⟨g, o + i, none⟩), .slice pR R.length cR, .slice pR R.length cR, .func (.func 9) #[.slice pR R.length cR] #[], .agg #[.int .i64 x.1.1.1, .int .i64 x.1.1.2, .int .i64 x.1.2.1, .int .i64 x.1.2.2], u15, u16, u17, u18, u19], defers := [] })
        ?hAx ?assign ?body ?done ?stop
      case hI =>
        intro xs Y Z hs hb'
        exact ⟨⟨HJ.out.mono (by omega) _ _ _ hs.1.1 hb', (hb'.cell (p := ⟨W.heap.size, 0, none⟩) (by simp; omega)).trans hs.1.2.1, hs.1.2.2.keep hb' (Nat.le_refl _)⟩, hs.2.trans (hb'.mono hsW)⟩
      case hIx =>
        intro c xs Y Z hs hb'
        exact ⟨hs.1, HJx.out.mono (by omega) _ _ _ hs.2.1 hb', hs.2.2.keep hb' (Nat.le_refl _)⟩
      case hAx =>
        rintro x a' Y Z ⟨e, ⟨k0, k1, k2, k3⟩, ha⟩ hc
        exact ⟨e, ⟨hc _ _ k0, hc _ _ k1, hc _ _ k2, hc _ _ k3⟩, ha⟩
      case assign =>
        intro l2 x Y K hs hK
        gi_wp2
        exact hK _ _ ⟨Y.heap.size, ⟨by go_simp, by go_simp, by go_simp, by go_simp⟩, rfl⟩ (allocB _ _)
      case body =>
        rintro l2 xs x a' Y ⟨⟨hj, hv, hm⟩, hbY⟩ ⟨e, ⟨k0, k1, k2, k3⟩, rfl⟩ hs
        obtain ⟨fn, tmps, assign, body, hy, hRR⟩ := yield_any 0 l2 (HY.out (pre ++ xs) x Y hj (by omega))
        have hv2 := hv
        clear HY HC HR HL
        gi_wp2
        refine hRR.mono ?_
        rintro e3 Z (⟨rfl, h1, h2, h3⟩ | ⟨rfl, h1, h3⟩)
        · gi_wp2
          exact ⟨h2, h3.mono (by omega), ⟨by rw [← List.append_assoc]; exact h1, h3.cell (p := ⟨W.heap.size, 0, none⟩) (Nat.le_refl _) hv2, hm.high h3⟩, hbY.trans h2⟩
        · gi_wp2
          exact ⟨h3.mono (by omega), rfl, by rw [← List.append_assoc]; exact h1, hm.high h3⟩
      case done =>
        rintro D xs Y hD hxs ⟨⟨hj, hv, hm⟩, hbY⟩ hK
        have HM2 := hidd (hm.more (D := D) (by omega) (by omega) hK)
        have hE2 : Hid (evals (pre ++ xs) = edgesG (G.take (i + 1))) := hidd (by rw [evals_app, hE.out, hxs, NX.out])
        have hj2 := hidd hj
        have hsY : W.heap.size + 1 ≤ Y.heap.size := by
          have := (Array.getElem?_eq_some_iff.1 hK).1
          omega
        clear hm hxs hK hE ES HY HC HR HL hj
        gi_wp2
        refine ⟨⟨i + 1, _, pre ++ xs, by omega, ?fr, hbY, hsY, hv, HM2.out, hE2, hj2⟩, ?ms⟩
        case fr =>
          have e25 : (.int .i64 (((i + 1 : Nat) : Int)) : Value) = .int .i64 ((i : Int) + 1) := by go_num
          rw [e25]
          exact ⟨_, _, _, _, _, _, _, _, _, _, _, _, _, _, _, _, rfl⟩
        case ms => simp [intOf]; omega
      case stop =>
        rintro D c' xs Y hD hpre ⟨rfl, hj, hm⟩ hK
        have HM2 := hidd (hm.more (D := D) (by omega) (by omega) hK)
        have hXs := (Array.getElem?_eq_some_iff.1 hK).1
        obtain ⟨k, hk, ek⟩ := hpre
        have hsuf : Hid (∃ suf, edgesG G = evals (pre ++ xs) ++ suf) := hidd (by
          obtain ⟨d, hd⟩ := edgesT_le R hk
          exact ⟨d ++ edgesG (G.drop (i + 1)), by rw [evals_app, hE.out, ek, SPL.out, hd, List.append_assoc, List.append_assoc]⟩)
        have hj2 := hidd hj
        clear hm hK hE ES HY HC HR HL hj ek
        gi_wp2
        refine HM2.out.leaves (by omega) fun W' hW' => ?_
        exact ⟨_, results_none rfl _ _ _, ⟨_, rfl⟩, .inr ⟨_, hsuf.out, HJx.out _ _ _ hj2.out hW'⟩⟩
    · obtain rfl : i = m := by omega
      have him' : decide ((i : Int) < (i : Int)) = false := by simp
      have hE2 : Hid (evals pre = edgesG G) := hidd (by have := hE.out; rwa [List.take_of_length_le (by rw [EM.out]; omega)] at this)
      clear hE him HY HC HR HL
      gi_wp2
      refine hM.leaves (by omega) fun W' hW' => ?_
      exact ⟨_, results_none rfl _ _ _, ⟨_, rfl⟩, .inl ⟨_, hE2.out, HJ.out _ _ _ hJr.out hW'⟩⟩

end Go.Proofs.Ytmfpkphhjfgjbab
