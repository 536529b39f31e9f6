/-
  The rings that the laws of package poly make of numbers: what Tame tells of any list of numbers; in whatever memory.
-/
import Derived.Test.YtmfpkphhjfgjbaaE1D
import Derived.Test.YtmfpkphhjfgjbaaOD
import Derived.Test.YtmfpkphhjfgjbaaOpenL
import Derived.Test.YtmfpkphhjfgjbaaPRings
import Derived.Test.YtmfpkphhjfgjbaaVRowsD
import Derived.Laws.BitsAllLaws
import Derived.Handy
import Derived.Deep.QuietTactic
import Derived.Test.YtmfpkphhjfgjbaaProg
import Derived.WalkSpells
import Derived.WalkLawsBesides
import Derived.BigQuiet
import Derived.PlainAid
import Derived.Deep.RegionWith
import Derived.Deep.RegionHeld3
import Derived.WalkSmall
import Derived.Deep.CutRange
import Derived.BigRegion
import Derived.OwnWalk
import Derived.Laws.OwnMore
import Derived.OneCell
import Derived.Laws.CopyOwn
import Derived.Sort.Row
import Derived.ChangeSlices
import Derived.OpenShut
import Derived.Laws.AppendOwn
import Derived.Laws.AppendOwnNone
import Derived.BigFrame
import Derived.Deep.AppendLies
import Derived.Deep.RegionLaw
namespace Go.Proofs.Ytmfpkphhjfgjbaa
open Go.RowKit

/-- The cells of a list of corners. -/
def flat : List (Int × Int) → List Value
  | [] => []
  | p :: L => .int .i64 p.1 :: .int .i64 p.2 :: flat L

theorem flat_snoc (a b : Int) : ∀ L : List (Int × Int), flat (L ++ [(a, b)]) = flat L ++ [.int .i64 a, .int .i64 b]
  | [] => rfl
  | p :: L => by show _ :: _ :: flat (L ++ [(a, b)]) = _; rw [flat_snoc a b L]; rfl

theorem flat_len : ∀ L : List (Int × Int), (flat L).length = L.length * 2
  | [] => rfl
  | p :: L => by show (flat L).length + 1 + 1 = (L.length + 1) * 2; rw [flat_len L]; omega

theorem flat_at : ∀ (L : List (Int × Int)) (j : Nat) (hj : j < L.length), (flat L)[j * 2]? = some (.int .i64 L[j].1) ∧ (flat L)[j * 2 + 1]? = some (.int .i64 L[j].2)
  | p :: L, 0, _ => ⟨rfl, rfl⟩
  | p :: L, j + 1, hj => by
    have ih := flat_at L j (by simpa using hj)
    rw [show (j + 1) * 2 = j * 2 + 1 + 1 by omega]
    exact ih

theorem flat_one : ∀ L : List (Int × Int), ∀ v ∈ flat L, v.oneCell' = true
  | [], v, h => by simp [flat] at h
  | p :: L, v, h => by
    unfold flat at h
    rcases List.mem_cons.1 h with rfl | h
    · rfl
    · rcases List.mem_cons.1 h with rfl | h
      · rfl
      · exact flat_one L v h

/-- A row of corners of the call's own. -/
theorem ring_own {w : World} {base n : Nat} {v : Value} {L : List (Int × Int)} (h : w.ownsRow base 27 2 v n (flat L)) (hn : L.length = n) : RingL w v L := by
  rcases h.2 with ⟨rfl, h0⟩ | ⟨g, cap, cur, rfl, hb, hg, hnc, _⟩
  · exact ⟨none, 0, by rw [hn, h0], by omega, fun j hj => by omega⟩
  · refine ⟨_, cap, by rw [hn], by omega, fun j hj => ⟨g, 0, rfl, ?_, ?_⟩⟩
    · rw [Nat.zero_add, h.cellAt (j * 2) (by omega), (flat_at L j hj).1]
    · rw [Nat.zero_add, h.cellAt (j * 2 + 1) (by omega), (flat_at L j hj).2]

theorem infoP : (Try.prog.info? 27).map (fun i => (i.zero, i.size, i.bytes)) = some (some (.agg #[.int .i64 0, .int .i64 0]), 2, 16) := by kernel_rfl

theorem infoR : (Try.prog.info? 26).map (fun i => (i.zero, i.size, i.bytes)) = some (some (.slice none 0 0), 1, 24) := by kernel_rfl

/-- A row of rows of corners of the call's own. -/
def RowsP (w : World) (base : Nat) (v : Value) (G : List (List (Int × Int))) (S : List Value) : Prop :=
  S.length = G.length ∧ w.ownsRow base 26 1 v G.length S ∧ ∀ (j : Nat) (hj : j < S.length) (hG : j < G.length), w.ownsRow base 27 2 S[j] G[j].length (flat G[j])

theorem RowsP.nil' (w : World) (base : Nat) : RowsP w base (.slice none 0 0) [] [] := ⟨rfl, World.ownsRow_nil _ _ _ _, fun _ hj => absurd hj (Nat.not_lt_zero _)⟩

theorem RowsP.keep {w w' : World} {base : Nat} {v : Value} {G : List (List (Int × Int))} {S : List Value} (h : RowsP w base v G S) (hb : Below w.heap.size w w') : RowsP w' base v G S :=
  ⟨h.1, own_keep hb h.2.1, fun j hj hG => own_keep hb (h.2.2 j hj hG)⟩

theorem pairs_unlike : (27 : TypeId) ≠ 26 := by decide

theorem RowsP.push {w w' : World} {base : Nat} {v v' x : Value} {G : List (List (Int × Int))} {S : List Value} {g : List (Int × Int)} (h : RowsP w base v G S) (hx : w.ownsRow base 27 2 x g.length (flat g))
    (ho : w'.ownsRow base 26 1 v' (G.length + 1) (S ++ [x])) (hg : w.grownBy w' v.ownBlock) : RowsP w' base v' (G ++ [g]) (S ++ [x]) := by
  refine ⟨by simp [h.1], by rw [List.length_append]; exact ho, fun j hj hG => ?_⟩
  have kx := hx.kept hg (own_unlike hx h.2.1 pairs_unlike).kept
  by_cases hj2 : j < S.length
  · have hj3 : j < G.length := by rw [← h.1]; exact hj2
    have := h.2.2 j hj2 hj3
    have k := this.kept hg (own_unlike this h.2.1 pairs_unlike).kept
    simpa [List.getElem_append_left, hj2, hj3] using k
  · have e : j = S.length := by simp at hj; omega
    subst e
    have e2 : S.length = G.length := h.1
    simpa [e2] using kx

theorem RowsP.rings {w : World} {base : Nat} {v : Value} {G : List (List (Int × Int))} {S : List Value} (h : RowsP w base v G S) : RingsL w v G := by
  obtain ⟨h1, h2, h3⟩ := h
  rcases h2.2 with ⟨rfl, h0⟩ | ⟨g, cap, cur, rfl, _, _, hnc, _⟩
  · exact ⟨none, 0, by rw [h0], by omega, fun j hj => by omega⟩
  · refine ⟨_, cap, rfl, hnc, fun j hj => ?_⟩
    have hj2 : j < S.length := by omega
    refine ⟨g, 0, S[j], rfl, ?_, ring_own (h3 j hj2 hj) rfl⟩
    rw [Nat.zero_add, h2.cellAt j (by omega), List.getElem?_eq_getElem hj2]

theorem two_lie9 (w : World) (x y : Int) (e : TypeId) : ∀ j u, ([.int .i64 x, .int .i64 y] : List Value)[j]? = some u → (w.alloc (.cells #[.int .i64 x, .int .i64 y] e)).cell? ((⟨w.heap.size, 0, none⟩ : Addr).add j) = some u := by
  intro j u hj
  match j, hj with
  | 0, hj => simp at hj; subst hj; go_simp
  | 1, hj => simp at hj; subst hj; go_simp

theorem two_one9 (x y : Int) : ∀ u ∈ ([.int .i64 x, .int .i64 y] : List Value), u.oneCell' = true := by
  intro u hu
  simp at hu
  rcases hu with rfl | rfl <;> rfl

/-- Corners near 500000. -/
def NearC (z : Int) (L : List (Int × Int)) : Prop := ∀ p ∈ L, 500000 ≤ p.1 ∧ p.1 < 500000 + z ∧ 500000 ≤ p.2 ∧ p.2 < 500000 + z

/-- What Tame tells. -/
def TellsTm (C : Nat) (z : Int) (e : Ending) (w' : World) : Prop :=
  ∃ (sl : Value) (G : List (List (Int × Int))) (S : List Value), e = .returned sl ∧ G.length ≤ 3 ∧ (∀ L ∈ G, 3 ≤ L.length ∧ L.length ≤ 6 ∧ NearC z L) ∧ RowsP w' C sl G S

theorem mask_num (x z : Int) (hz : 0 < z) : ∃ U u : Int, bits .and .i64 x 4294967295 = U ∧ 0 ≤ U ∧ U < 4294967296 ∧ U % z = u ∧ U.tmod z = u ∧ 0 ≤ u ∧ u < z := by
  have h := i64_mask x 32 (by omega)
  rw [show (((2 ^ 32 - 1 : Nat)) : Int) = 4294967295 by decide, show (((2 ^ 32 : Nat)) : Int) = 4294967296 by decide] at h
  rw [h]
  refine ⟨_, _, rfl, by omega, by omega, rfl, Int.tmod_eq_emod_of_nonneg (by omega), Int.emod_nonneg _ (by omega), Int.emod_lt_of_pos _ hz⟩

set_option maxHeartbeats 16000000 in
set_option maxRecDepth 20000 in
theorem tame (sX : Value) (X : List Int) (z : Int) (hz1 : 1 ≤ z) (hz2 : z ≤ 1000) (w : World) (hX : LstK .i64 w sX X) :
    Calls Try.prog 9 #[sX, .int .i64 z] w fun e w' => TellsTm w.heap.size z e w' ∧ Below w.heap.size w w' := by
  obtain ⟨pX, cX, rfl, -, cX0⟩ := hX
  have HX := hidd cX0
  obtain ⟨n, en⟩ : ∃ n, X.length = n := ⟨_, rfl⟩
  have EN := hidd en
  obtain ⟨i0, hi, hp0, hp1, hp2⟩ := info_parts infoP
  obtain ⟨i1, hj, hr0, hr1, hr2⟩ := info_parts infoR
  have hz0 : ¬ z = 0 := by omega
  have hz00 : (z == 0) = false := by simp; omega
  rw [en]
  clear cX0 en
  go_enter Try.func9, Try.ntmps9
  go_wp2_with fail
  go_loopw [5, 6] (fun v5 v6 wr => ∃ (t c : Nat) (G : List (List (Int × Int))) (S : List Value), t ≤ n ∧ t ≤ 12 * c ∧ c ≤ 3 ∧ v6 = .int .i64 (t : Int) ∧ Hid (G.length = c) ∧ Hid (∀ L ∈ G, 3 ≤ L.length ∧ L.length ≤ 6 ∧ NearC z L) ∧ Hid (RowsP wr w.heap.size v5 G S) ∧ Hid (Below w.heap.size w wr)) (fun _ v6 _ => n - (intOf v6).toNat)
  case atStart => exact ⟨0, 0, [], [], by omega, by omega, by omega, rfl, hidd rfl, hidd (fun L hL => by simp at hL), hidd (RowsP.nil' _ _), hidd (Below.refl _ _)⟩
  case round =>
    obtain ⟨t, c, G, S, ht, ht12, hc3, rfl, hGc, hGood, hR, hB⟩ := hrel
    have hRo := hR.out.2.1
    rw [hGc.out] at hRo
    obtain ⟨p5, c5, rfl, -⟩ := own_slice hRo
    have ew5 : IntKind.i64.wrap ((t : Int) + 5) = (t : Int) + 5 := by rw [IntKind.wrap_i64]; omega
    by_cases hgo : t + 5 < n ∧ c < 3
    · obtain ⟨h1, h2⟩ := hgo
      have h1' : (t : Int) + 5 < (n : Int) := by omega
      have h2' : (c : Int) < 3 := by omega
      have htn : (t : Int) < (n : Int) := by omega
      have htn' : t < n := by omega
      obtain ⟨g, o, rfl, x0⟩ := HX.out t (by rw [EN.out]; omega)
      replace x0 := keepCell hB.out x0
      obtain ⟨A, hA, eA⟩ : ∃ A : Nat, A ≤ 3 ∧ bits .and .i64 (X[t]'(by rw [EN.out]; omega)) 3 = (A : Int) := by
        have h := i64_mask (X[t]'(by rw [EN.out]; omega)) 2 (by omega)
        rw [show (((2 ^ 2 - 1 : Nat)) : Int) = 3 by decide, show (((2 ^ 2 : Nat)) : Int) = 4 by decide] at h
        rw [h]
        exact ⟨(X[t]'(by rw [EN.out]; omega) % 4).toNat, by omega, by omega⟩
      generalize X[t]'_ = x at *
      obtain ⟨N, eN⟩ : ∃ N : Nat, (3 : Int) + (A : Int) = (N : Int) := ⟨3 + A, by omega⟩
      have hN : 3 ≤ N ∧ N ≤ 6 := by omega
      obtain ⟨N3, N6⟩ := hN
      go_wp2_with fail
      clear x0 eA eN
      obtain ⟨wk, rfl⟩ : ∃ z, z = wr := ⟨_, rfl⟩
      go_loopw [6, 8, 9] (fun v6 v8 v9 wr => ∃ (i u : Nat) (L : List (Int × Int)), i ≤ N ∧ Hid (u = t + 2 * i) ∧ u ≤ n ∧ v9 = .int .i64 (i : Int) ∧ v6 = .int .i64 (u : Int) ∧ Hid (L.length = i) ∧ Hid (NearC z L) ∧ Hid (wr.ownsRow wk.heap.size 27 2 v8 i (flat L)) ∧ Hid (Below wk.heap.size wk wr)) (fun _ _ v9 _ => N - (intOf v9).toNat)
      case atStart => exact ⟨0, t, [], by omega, hidd (by omega), by omega, rfl, rfl, hidd rfl, hidd (fun p hp => by simp at hp), hidd (World.ownsRow_nil _ _ _ _), hidd (Below.refl _ _)⟩
      case round =>
        obtain ⟨i, u, L, hiN, hu, hun, rfl, rfl, hLi, hNr, hO, hX2⟩ := hrel
        obtain ⟨p8, c8, rfl, -⟩ := own_slice hO.out
        have hu48 : u ≤ 48 := by have := hu.out; omega
        have ew1 : IntKind.i64.wrap ((u : Int) + 1) = (u : Int) + 1 := by rw [IntKind.wrap_i64]; omega
        have hsX := hX2.out.size
        by_cases hgo : i < N ∧ u + 1 < n
        · obtain ⟨h3, h4⟩ := hgo
          have h3' : (i : Int) < (N : Int) := by omega
          have h4' : (u : Int) + 1 < (n : Int) := by omega
          have hun' : (u : Int) < (n : Int) := by omega
          have hun2 : u < n := by omega
          obtain ⟨g2, o2, e2, y0⟩ := HX.out u (by rw [EN.out]; omega)
          obtain ⟨g3, o3, e3, y1⟩ := HX.out (u + 1) (by rw [EN.out]; omega)
          simp only [Option.some.injEq, Addr.mk.injEq, and_true] at e2 e3
          obtain ⟨rfl, rfl⟩ := e2
          obtain ⟨rfl, rfl⟩ := e3
          have Bw := belowT hB.out hX2.out
          replace y0 := keepCell Bw y0
          replace y1 := keepCell Bw y1
          have enu : ((u : Int) + 1).toNat = u + 1 := by omega
          have hu01 : (0 : Int) ≤ (u : Int) + 1 := by omega
          obtain ⟨U1, a, m1, m2, m3, m4, m5, m6, m7⟩ := mask_num (X[u]'(by rw [EN.out]; omega)) z (by omega)
          obtain ⟨U2, b, k1, k2, k3, k4, k5, k6, k7⟩ := mask_num (X[u + 1]'(by rw [EN.out]; omega)) z (by omega)
          generalize X[u]'_ = x1 at *
          generalize X[u + 1]'_ = x2 at *
          have wa : IntKind.i64.wrap (500000 + a) = 500000 + a := by rw [IntKind.wrap_i64]; omega
          have wb : IntKind.i64.wrap (500000 + b) = 500000 + b := by rw [IntKind.wrap_i64]; omega
          have HLi2 : Hid ((L ++ [(500000 + a, 500000 + b)]).length = i + 1) := hidd (by rw [List.length_append, hLi.out]; rfl)
          have HN2 : Hid (NearC z (L ++ [(500000 + a, 500000 + b)])) := hidd fun p hp => (List.mem_append.1 hp).elim (hNr.out p) (fun h => by rw [List.mem_singleton.1 h]; exact ⟨by show 500000 ≤ 500000 + a; omega, by show 500000 + a < _; omega, by show 500000 ≤ 500000 + b; omega, by show 500000 + b < _; omega⟩)
          have XX := hidd hX2.out
          clear hLi hNr Bw hX2
          go_wp2_with fail
          go_region_law ((refine step_append_lies _ (by rfl) _ _ _ (by rfl) wk.heap.size 27 i0 (.agg #[.int .i64 0, .int .i64 0]) 2 16 Try.underlying26 hi hp0 hp1 hp2 rfl (by decide) _ i (flat L) (by rfl) (own_keep (belowT (allocB wr _) (drewB _)) hO.out) ⟨wr.heap.size, 0, none⟩ 1 1 [.int .i64 (500000 + a), .int .i64 (500000 + b)] (by rfl) rfl (two_lie9 wr (500000 + a) (500000 + b) 27) (two_one9 _ _) (by decide) (by unfold maxLen; omega) (by omega) (by simp; omega) (wr.heap.size + 1) (by simp) ?_; intro g6 c6 w6 hown hgrow hat hlt6))
          all_goals
            have B6 := hidd (XX.out.trans (((allocB wr (.cells #[.int .i64 (500000 + a), .int .i64 (500000 + b)] 27)).mono hsX)) |>.drew |>.grown hgrow (by simp; omega) (own_block hO.out))
            have O6 : Hid (w6.ownsRow wk.heap.size 27 2 (.slice (some ⟨g6, 0, none⟩) (i + 1) c6) (i + 1) (flat (L ++ [(500000 + a, 500000 + b)]))) := hidd (by rw [flat_snoc]; exact hown)
            clear hown hgrow hat hlt6 hO XX y0 y1
            go_wp2_with fail
            go_roundw
            case rel => exact ⟨i + 1, u + 2, L ++ [(500000 + a, 500000 + b)], by omega, hidd (by have := hu.out; omega), by omega, by go_num, by go_num, HLi2, HN2, O6, B6⟩
            case measure => simp [intOf]; omega
        · have hend : (i = N ∧ 0 = 0) ∨ (i < N ∧ ¬ (u + 1 < n)) := by omega
          have i3 : 3 ≤ i := by have := hu.out; omega
          have i6 : i ≤ 6 := by omega
          have i3' : (3 : Int) ≤ (i : Int) := by omega
          have htu : t < u := by have := hu.out; omega
          have hu12 : u ≤ 12 * (c + 1) := by have := hu.out; omega
          have hR2 := hidd (hR.out.keep hX2.out)
          have hR3 := hR2.out.2.1
          rw [hGc.out] at hR3
          have HG2 : Hid ((G ++ [L]).length = c + 1) := hidd (by rw [List.length_append, hGc.out]; rfl)
          have HGd : Hid (∀ M ∈ G ++ [L], 3 ≤ M.length ∧ M.length ≤ 6 ∧ NearC z M) := hidd fun M hM => (List.mem_append.1 hM).elim (hGood.out M) (fun h => by rw [List.mem_singleton.1 h]; exact ⟨by rw [hLi.out]; exact i3, by rw [hLi.out]; exact i6, hNr.out⟩)
          have Bw := hidd (belowT hB.out hX2.out)
          have OL : Hid (wr.ownsRow w.heap.size 27 2 (.slice p8 i c8) L.length (flat L)) := hidd (by rw [hLi.out]; exact own_mono hO.out hB.out.size)
          have O3 := hidd hR3
          have hsW := Bw.out.size
          clear hR hB hO hX2 hNr hGood hR3 hgo hu
          rcases hend with ⟨rfl, -⟩ | ⟨h3, h4⟩
          all_goals
            first
              | (have h3' : decide ((i : Int) < (i : Int)) = false := by simp
                 have _t := N3)
              | (have h3' : (i : Int) < (N : Int) := by omega
                 have h4' : decide ((u : Int) + 1 < (n : Int)) = false := df (by omega))
            go_wp2_with (at_builtin; refine wpList_append_own _ rfl (.tmp 64) (.tmp 66) 23 rfl w.heap.size 26 i1 (.slice none 0 0) 1 24 Try.underlying23 hj hr0 hr1 hr2 rfl (by decide) _ _ _ rfl (own_keep (allocB _ _) O3.out) ⟨wr.heap.size, 0, none⟩ 1 1 [.slice p8 i c8] rfl rfl (one_lies _ _ rfl _ _) (fun u hu => by simp at hu; subst hu; rfl) (by unfold maxLen; omega) (by omega) (by simp; omega) ?_)
            intro v7 w7 hown hgrow _
            have al := allocB wr (.cells #[.slice p8 i c8] 26)
            have R7 : Hid (RowsP w7 w.heap.size v7 (G ++ [L]) (S ++ [.slice p8 i c8])) := hidd ((hR2.out.keep al).push (own_keep al OL.out) (by rw [hGc.out]; exact hown) hgrow)
            have B7 := hidd ((Bw.out.alloc hsW (.cells #[.slice p8 i c8] 26)).grown hgrow (by simp; omega) (own_block O3.out))
            clear hown hgrow al hR2 O3 OL Bw
            go_wp2_with fail
            go_roundw
            case rel => exact ⟨u, c + 1, G ++ [L], S ++ [.slice p8 i c8], by omega, hu12, by omega, rfl, HG2, HGd, R7, B7⟩
            case measure => simp [intOf]; omega
    · have hend : ¬ (t + 5 < n) ∨ (t + 5 < n ∧ ¬ (c < 3)) := by omega
      have FN := hidd (And.intro hGc.out (And.intro hGood.out (And.intro hR.out hB.out)))
      clear hGc hGood hR hB hgo hRo
      rcases hend with h1 | ⟨h1, h2⟩
      · have h1' : decide ((t : Int) + 5 < (n : Int)) = false := df (by omega)
        go_wp2_with fail
        go_ret
        exact ⟨⟨_, G, S, rfl, by rw [FN.out.1]; exact hc3, FN.out.2.1, FN.out.2.2.1⟩, FN.out.2.2.2⟩
      · have h1' : (t : Int) + 5 < (n : Int) := by omega
        have h2' : decide ((c : Int) < 3) = false := df (by omega)
        go_wp2_with fail
        go_ret
        exact ⟨⟨_, G, S, rfl, by rw [FN.out.1]; exact hc3, FN.out.2.1, FN.out.2.2.1⟩, FN.out.2.2.2⟩

end Go.Proofs.Ytmfpkphhjfgjbaa
