/-
  The law PolyTurned answers true for every list of numbers and every three numbers, in whatever memory.
-/
import Derived.Test.YtmfpkphhjfgjbaaPMoved
import Derived.Laws.BitsAllLaws
import Derived.Handy
import Derived.Deep.QuietTactic
import Derived.Test.YtmfpkphhjfgjbaaProg
import Derived.WalkSpells
import Derived.WalkLawsBesides
import Derived.BigQuiet
import Derived.PlainAid
import Derived.Deep.RegionWith
import Derived.Deep.RegionHeld3
import Derived.WalkSmall
import Derived.Deep.CutRange
import Derived.BigRegion
import Derived.OwnWalk
import Derived.Laws.OwnMore
import Derived.OneCell
import Derived.Laws.CopyOwn
import Derived.Sort.Row
import Derived.ChangeSlices
import Derived.OpenShut
import Derived.Laws.AppendOwn
import Derived.Laws.AppendOwnNone
import Derived.BigFrame
import Derived.Deep.AppendLies
import Derived.Deep.RegionLaw
import Derived.RangeFuncFrom
import Derived.RangeFuncCalls
import Derived.RangeFuncLeaves
import Derived.WalkKit
import Derived.OwnWalkIn
import Derived.TacticsInMore
import Derived.LoopNIn
import Derived.LoopIn
import Derived.RegionIn
import Derived.Stop.RegionWithIn
import Derived.Deep.LoopGhost
import Derived.Deep.RegionLawGrows
namespace Go.Proofs.Ytmfpkphhjfgjbaa
open Go.RowKit

def turned (L : List (Int × Int)) (F : Nat) (k : Nat) : List (Int × Int) := (List.range k).map fun i => pt L ((i + F) % L.length)

def backed (L : List (Int × Int)) (k : Nat) : List (Int × Int) := (List.range k).map fun i => pt L (L.length - 1 - i)

theorem turned_next (L : List (Int × Int)) (F k : Nat) : turned L F (k + 1) = turned L F k ++ [pt L ((k + F) % L.length)] := by
  unfold turned
  rw [List.range_succ, List.map_append]
  rfl

theorem backed_next (L : List (Int × Int)) (k : Nat) : backed L (k + 1) = backed L k ++ [pt L (L.length - 1 - k)] := by
  unfold backed
  rw [List.range_succ, List.map_append]
  rfl

theorem turned_len (L : List (Int × Int)) (F k : Nat) : (turned L F k).length = k := by unfold turned; simp

theorem backed_len (L : List (Int × Int)) (k : Nat) : (backed L k).length = k := by unfold backed; simp

theorem turned_pt (L : List (Int × Int)) (F : Nat) : ∀ i, i < L.length → pt (turned L F L.length) i = pt L ((i + F) % L.length) := fun i hi => by
  rw [pt_at (by rw [turned_len]; exact hi)]
  unfold turned
  rw [List.getElem_map, List.getElem_range]

theorem backed_pt (L : List (Int × Int)) : ∀ i, i < L.length → pt (backed L L.length) i = pt L (L.length - 1 - i) := fun i hi => by
  rw [pt_at (by rw [backed_len]; exact hi)]
  unfold backed
  rw [List.getElem_map, List.getElem_range]

theorem turned_mem {L : List (Int × Int)} {F : Nat} (h0 : 0 < L.length) : ∀ p ∈ turned L F L.length, p ∈ L := fun p hp => by
  unfold turned at hp
  obtain ⟨i, -, rfl⟩ := List.mem_map.1 hp
  exact pt_mem (Nat.mod_lt _ h0)

theorem backed_mem {L : List (Int × Int)} (h0 : 0 < L.length) : ∀ p ∈ backed L L.length, p ∈ L := fun p hp => by
  unfold backed at hp
  obtain ⟨i, -, rfl⟩ := List.mem_map.1 hp
  exact pt_mem (by omega)

/-- One ring in the place of another. -/
theorem swap_ring {L M : List (Int × Int)} {T : List (List (Int × Int))} {x y : Int} (hok : Okay (L :: T)) (hl : M.length = L.length) (hm : ∀ p ∈ M, p ∈ L) (ho : onN M x y = onN L x y) (hc : crN M x y = crN L x y) :
    Okay (M :: T) ∧ (InT (M :: T) x y ↔ InT (L :: T) x y) ∧ (OnT (M :: T) x y ↔ OnT (L :: T) x y) := by
  have k : Okay (M :: T) := by
    obtain ⟨a, b, -, d, e⟩ := okay_iff.1 hok
    refine okay_iff.2 ⟨a, ?_, by simp, fun K hK => ?_, fun K hK p hp => ?_⟩
    · show M.length + corners T ≤ 500
      rw [hl]
      exact b
    · rcases List.mem_cons.1 hK with rfl | hK
      · rw [hl]; exact d L (List.mem_cons_self ..)
      · exact d K (List.mem_cons_of_mem _ hK)
    · rcases List.mem_cons.1 hK with rfl | hK
      · exact e L (List.mem_cons_self ..) p (hm p hp)
      · exact e K (List.mem_cons_of_mem _ hK) p hp
  have e1 : onG (M :: T) x y = onG (L :: T) x y := by show onN M x y + _ = onN L x y + _; rw [ho]
  have e2 : crG (M :: T) x y = crG (L :: T) x y := by show crN M x y + _ = crN L x y + _; rw [hc]
  refine ⟨k, ?_, ?_⟩
  · unfold InT
    rw [e1, e2]
    exact ⟨fun h => ⟨hok, h.2⟩, fun h => ⟨k, h.2⟩⟩
  · unfold OnT
    rw [e1]
    exact ⟨fun h => ⟨hok, h.2⟩, fun h => ⟨k, h.2⟩⟩

theorem wrap_neg (a : Int) : wrap64 (-(wrap64 a)) = wrap64 (-a) := by unfold wrap64; omega

/-- Two rows of the call's own in blocks of their own. -/
def Two (a b : Value) : Prop := a.ownBlock = none ∨ b.ownBlock = none ∨ a.ownBlock ≠ b.ownBlock

theorem Two.symm {a b : Value} (h : Two a b) : Two b a := by
  rcases h with h | h | h
  · exact .inr (.inl h)
  · exact .inl h
  · exact .inr (.inr fun e => h e.symm)

theorem Two.kept {a b : Value} (h : Two a b) : a.ownBlock = none ∨ a.ownBlock ≠ b.ownBlock := by
  rcases h with h | h | h
  · exact .inl h
  · by_cases ha : a.ownBlock = none
    · exact .inl ha
    · exact .inr fun e => ha (e.trans h)
  · exact .inr h

theorem Two.grown {w : World} {base n g m c : Nat} {e : TypeId} {size : Nat} {xs : List Value} {a b : Value} (hab : Two a b) (hb : w.ownsRow base e size b n xs) (h : a.ownBlock = some g ∨ g = w.heap.size) : Two (.slice (some ⟨g, 0, none⟩) m c) b := by
  rcases h with h | rfl
  · unfold Two at hab ⊢
    have e : (Value.slice (some ⟨g, 0, none⟩) m c).ownBlock = some g := rfl
    rw [e, ← h]
    exact hab
  · by_cases hn : b.ownBlock = none
    · exact .inr (.inl hn)
    · refine .inr (.inr fun e2 => ?_)
      have e3 : b.ownBlock = some w.heap.size := e2.symm
      have := (own_lt hb _ e3).2
      omega

/-- All that there was is as it was. -/
def Later (a b : World) : Prop := Below a.heap.size a b

theorem Later.cell {a b : World} {p : Addr} {v : Value} (h : Later a b) (k : a.cell? p = some v) : b.cell? p = some v := keepCell h k

theorem Later.rings {a b : World} {v : Value} {G : List (List (Int × Int))} (h : Later a b) (k : RingsL a v G) : RingsL b v G := k.keep h

theorem grow_both {w0 W w' : World} (h : Below w0.heap.size w0 W) (hg : W.grownBy w' none) : Below w0.heap.size w0 w' ∧ Later W w' :=
  ⟨h.grown hg h.size (fun _ h => by cases h), (Below.refl _ _).grown hg (Nat.le_refl _) (fun _ h => by cases h)⟩

/-- The rings behind the first, as values in memory. -/
theorem tail_list {w : World} {g o n cg : Nat} {L : List (Int × Int)} {GT : List (List (Int × Int))} (h : RingsL w (.slice (some ⟨g, o, none⟩) n cg) (L :: GT)) :
    ∃ S : List Value, S.length = GT.length ∧ (∀ j u, S[j]? = some u → w.cell? ((⟨g, o + 1, none⟩ : Addr).add j) = some u) ∧ (∀ u ∈ S, u.oneCell' = true) ∧ ∀ (j : Nat) (hj : j < S.length) (hG : j < GT.length), RingL w S[j] GT[j] := by
  obtain ⟨p, c, e, -, h⟩ := h
  simp only [Value.slice.injEq] at e
  obtain ⟨rfl, -, -⟩ := e
  have key : ∀ j (hj : j < GT.length), ∃ s, w.cell? ⟨g, o + 1 + j, none⟩ = some s ∧ RingL w s GT[j] := fun j hj => by
    obtain ⟨g', o', s, e, h1, h2⟩ := h (j + 1) (by simp; omega)
    simp only [Option.some.injEq, Addr.mk.injEq, and_true] at e
    obtain ⟨rfl, rfl⟩ := e
    exact ⟨s, by rw [show o + 1 + j = o + (j + 1) by omega]; exact h1, by simpa using h2⟩
  have gt : ∀ j (hj : j < ((List.range GT.length).map fun j => (w.cell? ⟨g, o + 1 + j, none⟩).getD (.slice none 0 0)).length) (hG : j < GT.length), w.cell? ⟨g, o + 1 + j, none⟩ = some (((List.range GT.length).map fun j => (w.cell? ⟨g, o + 1 + j, none⟩).getD (.slice none 0 0))[j]) ∧ RingL w (((List.range GT.length).map fun j => (w.cell? ⟨g, o + 1 + j, none⟩).getD (.slice none 0 0))[j]) GT[j] := fun j hj hG => by
    obtain ⟨s, h1, h2⟩ := key j hG
    rw [List.getElem_map, List.getElem_range, h1]
    exact ⟨rfl, h2⟩
  generalize hS : ((List.range GT.length).map fun j => (w.cell? ⟨g, o + 1 + j, none⟩).getD (.slice none 0 0)) = S at gt
  have hl : S.length = GT.length := by rw [← hS]; simp
  refine ⟨S, hl, fun j u hu => ?_, fun u hu => ?_, fun j hj hG => (gt j hj hG).2⟩
  · obtain ⟨hj, rfl⟩ := List.getElem?_eq_some_iff.1 hu
    rw [Go.WideShapes.add_plain]
    exact (gt j hj (by omega)).1
  · obtain ⟨j, hj, rfl⟩ := List.mem_iff_getElem.1 hu
    obtain ⟨p, c, e, -⟩ := (gt j hj (by omega)).2
    rw [e]
    rfl

/-- A row of one ring and those behind it. -/
theorem rings_own {w w0 : World} {base n : Nat} {v s : Value} {S : List Value} {M : List (Int × Int)} {GT : List (List (Int × Int))} (h : w.ownsRow base 26 1 v n ([s] ++ S)) (hn : n = GT.length + 1) (hl : S.length = GT.length)
    (hb : Below w0.heap.size w0 w) (hs : RingL w0 s M) (hS : ∀ (j : Nat) (hj : j < S.length) (hG : j < GT.length), RingL w0 S[j] GT[j]) : RingsL w v (M :: GT) := by
  rcases h.2 with ⟨rfl, h0⟩ | ⟨g, cap, cur, rfl, _, _, hnc, _⟩
  · omega
  · refine ⟨_, cap, by show Value.slice _ n _ = Value.slice _ (GT.length + 1) _; rw [hn], by show GT.length + 1 ≤ cap; omega, fun j hj => ?_⟩
    have hj' : j < ([s] ++ S).length := by
      have h1 : j < GT.length + 1 := hj
      simp
      omega
    have hc := h.cells (g := g) rfl j
    rw [List.getElem?_eq_getElem hj'] at hc
    refine ⟨g, 0, ([s] ++ S)[j], rfl, by rw [Nat.zero_add]; simpa [Go.WideShapes.add_plain] using hc _ rfl, ?_⟩
    cases j with
    | zero => exact hs.keep hb
    | succ j =>
      have hj2 : j < S.length := by simp at hj'; omega
      have := (hS j hj2 (by omega)).keep hb
      simpa using this

theorem cell_one {w : World} {B : Nat} {s : Value} (h : w.cell? ⟨B, 0, none⟩ = some s) : ∀ b, some (⟨B, 0, none⟩ : Addr) = some b → ∀ j u, ([s] : List Value)[j]? = some u → w.cell? (b.add j) = some u := fun b e j u hu => by
  obtain rfl := (Option.some.inj e).symm
  match j, hu with
  | 0, hu => simp at hu; subst hu; rw [Go.WideShapes.add_plain]; exact h

theorem set_none (w : World) (b k : Nat) : w.setCells b k [] = w := rfl

theorem rings_one {w : World} {B n : Nat} {s : Value} {M : List (Int × Int)} (h : w.cell? ⟨B, 0, none⟩ = some s) (k : RingL w s M) (hn : n = 1) : RingsL w (.slice (some ⟨B, 0, none⟩) n 1) [M] := by
  subst hn
  refine ⟨_, 1, rfl, Nat.le_refl _, fun j hj => ?_⟩
  obtain rfl : j = 0 := by
    have : j < 1 := hj
    omega
  exact ⟨B, 0, s, rfl, h, k⟩

theorem news_at {w0 w : World} {g o : Nat} {S : List Value} (h : ∀ j u, S[j]? = some u → w0.cell? ((⟨g, o, none⟩ : Addr).add j) = some u) (hb : Below w0.heap.size w0 w) : ∀ j u, S[j]? = some u → w.cell? ((⟨g, o, none⟩ : Addr).add j) = some u := fun j u hu => by
  have := h j u hu
  rw [Go.WideShapes.add_plain] at this ⊢
  exact keepCell hb this

set_option maxHeartbeats 16000000 in
set_option maxRecDepth 20000 in
theorem polyTurned_walk (sX : Value) (X : List Int) (f x y : Int) (w : World) (hX : LstK .i64 w sX X) (_ : ∀ x ∈ X, -9223372036854775808 ≤ x ∧ x ≤ 9223372036854775807) (_ : -9223372036854775808 ≤ f) (_ : f ≤ 9223372036854775807) (_ : -9223372036854775808 ≤ x) (_ : x ≤ 9223372036854775807) (_ : -9223372036854775808 ≤ y) (_ : y ≤ 9223372036854775807) :
    Calls Try.prog 7 #[sX, .int .i64 f, .int .i64 x, .int .i64 y] w fun e w' => e = .returned (.bool true) ∧ Below w.heap.size w w' := by
  have AW := hidd fun w => pawake9 w
  have TM := hidd (tame sX X 60 (by omega) (by omega) w hX)
  obtain ⟨pX, cX, rfl, -, -⟩ := hX
  obtain ⟨i0, hi, hp0, hp1, hp2⟩ := info_parts infoP
  obtain ⟨i1, hjj, hr0, hr1, hr2⟩ := info_parts infoR
  obtain ⟨U1, u, m1, m2, m3, m4, m5, m6, m7⟩ := mask_mod x 16 (by omega) 65535 65536 62 (by decide) (by decide) (by omega) (by omega)
  obtain ⟨U2, v, k1, k2, k3, k4, k5, k6, k7⟩ := mask_mod y 16 (by omega) 65535 65536 62 (by decide) (by decide) (by omega) (by omega)
  obtain ⟨F0, -, d1, d2, d3, -⟩ := mask_mod f 8 (by omega) 255 256 62 (by decide) (by decide) (by omega) (by omega)
  obtain ⟨F, rfl⟩ : ∃ F : Nat, F0 = (F : Int) := ⟨F0.toNat, by omega⟩
  obtain ⟨P, eP⟩ : ∃ P, 500000 + u - 1 = P := ⟨_, rfl⟩
  obtain ⟨Q, eQ⟩ : ∃ Q, 500000 + v - 1 = Q := ⟨_, rfl⟩
  have P1 : 499999 ≤ P := by omega
  have P2 : P ≤ 500060 := by omega
  have Q1 : 499999 ≤ Q := by omega
  have Q2 : Q ≤ 500060 := by omega
  go_enter Try.func7, Try.ntmps7
  go_wp2_with fail
  refine TM.out.mono ?_
  rintro e w3 ⟨⟨sl, G, S, rfl, hG3, hGood, hRows⟩, b3⟩
  have B4 := hidd b3
  have RG := hidd hRows.rings
  have hRo := hRows.2.1
  obtain ⟨n, hn⟩ : ∃ n, G.length = n := ⟨_, rfl⟩
  rw [hn] at hRo hG3
  have HN := hidd hn
  obtain ⟨pg, cg, rfl, -⟩ := own_slice hRo
  clear b3 TM hRows hRo hn
  by_cases h0 : n = 0 ∨ 60 < X.length
  · have A9 := hidd (AW.out w3)
    have hc : (((n : Int) == 0) = true) ∨ (((n : Int) == 0) = false ∧ (60 : Int) < (X.length : Int)) := by
      by_cases h : n = 0
      · exact .inl (by simp [h])
      · exact .inr ⟨by simp; omega, by omega⟩
    rcases hc with hc | ⟨hc, hd⟩
    all_goals
      go_wp2_with fail
      refine A9.out.mono ?_
      rintro e w4 ⟨rfl, b4⟩
      go_wp2_with fail
      go_ret
      exact ⟨rfl, belowT B4.out b4⟩
  · have hn0 : ((n : Int) == 0) = false := by simp; omega
    have hx60 : decide ((60 : Int) < (X.length : Int)) = false := df (by omega)
    have hn1 : 0 < n := by omega
    have hn1' : (0 : Int) < (n : Int) := by omega
    obtain ⟨pg', cg', eg', -, hcg⟩ := RG.out
    simp only [Value.slice.injEq] at eg'
    obtain ⟨rfl, -, rfl⟩ := eg'
    have HCG := hidd hcg
    obtain ⟨g, o, s, rfl, z0, hL0⟩ := hcg 0 (by rw [HN.out]; exact hn1)
    rw [Nat.add_zero] at z0
    have hne : G ≠ [] := fun h => by
      have := HN.out
      rw [h] at this
      simp at this
      omega
    have OK := hidd (tame_okay (by omega) hne (by rw [HN.out]; exact hG3) hGood)
    obtain ⟨L, GT, rfl⟩ : ∃ L GT, G = L :: GT := by
      cases G with
      | nil => exact absurd rfl hne
      | cons L GT => exact ⟨L, GT, rfl⟩
    have GD := hidd (hGood L (List.mem_cons_self ..))
    replace hL0 : RingL w3 s L := hL0
    have HL := hidd hL0
    obtain ⟨pL, cL, rfl, -, hcL⟩ := hL0
    have HCL := hidd hcL
    obtain ⟨l, el⟩ : ∃ l, L.length = l := ⟨_, rfl⟩
    have EL := hidd el
    rw [el] at z0 HL
    have l3 : 3 ≤ l := by have := GD.out.1; omega
    have l6 : l ≤ 6 := by have := GD.out.2.1; omega
    have l0 : ¬ (l : Int) = 0 := by omega
    clear hcg hcL el h0 hGood hne
    go_wp2_with fail
    clear z0
    obtain ⟨wq, rfl⟩ : ∃ z, z = w3 := ⟨_, rfl⟩
    go_loopw [14, 15, 16] (fun v14 v15 v16 wr => ∃ i : Nat, i ≤ l ∧ v16 = .int .i64 (i : Int) ∧ Hid (wr.ownsRow wq.heap.size 27 2 v14 i (flat (turned L F i))) ∧ Hid (wr.ownsRow wq.heap.size 27 2 v15 i (flat (backed L i))) ∧ Hid (Two v14 v15) ∧ Hid (Below wq.heap.size wq wr)) (fun _ _ v16 _ => l - (intOf v16).toNat)
    case atStart => exact ⟨0, by omega, rfl, hidd (World.ownsRow_nil _ _ _ _), hidd (World.ownsRow_nil _ _ _ _), hidd (.inl rfl), hidd (Below.refl _ _)⟩
    case round =>
      obtain ⟨i, hil, rfl, hO, hO2, hT, hX2⟩ := hrel
      obtain ⟨p9, c9, rfl, -⟩ := own_slice hO.out
      obtain ⟨p8, c8, rfl, -⟩ := own_slice hO2.out
      have hsX := hX2.out.size
      by_cases hlt : i < l
      · have hlt' : (i : Int) < (l : Int) := by omega
        obtain ⟨j, ej⟩ : ∃ j, (i + F) % l = j := ⟨_, rfl⟩
        have hj : j < l := by rw [← ej]; exact Nat.mod_lt _ (by omega)
        have ej1 : ((i : Int) + (F : Int)).tmod (l : Int) = (j : Int) := by
          rw [← ej, ← Int.natCast_add, Int.tmod_eq_emod_of_nonneg (by omega)]
          rfl
        have ej2 : ((i : Int) + (F : Int)) % (l : Int) = (j : Int) := by
          rw [← ej, ← Int.natCast_add]
          rfl
        obtain ⟨q, eq⟩ : ∃ q, l - 1 - i = q := ⟨_, rfl⟩
        have eq1 : (l : Int) - 1 - (i : Int) = (q : Int) := by omega
        have hq : q < l := by omega
        have hj' : (j : Int) < (l : Int) := by omega
        have hq' : (q : Int) < (l : Int) := by omega
        have hjL : j < L.length := by rw [EL.out]; exact hj
        have hqL : q < L.length := by rw [EL.out]; exact hq
        obtain ⟨g2, o2, rfl, x0, x1⟩ := HCL.out j hjL
        obtain ⟨g3, o3, e', y0, y1⟩ := HCL.out q hqL
        simp only [Option.some.injEq, Addr.mk.injEq, and_true] at e'
        obtain ⟨rfl, rfl⟩ := e'
        replace x0 := keepCell hX2.out x0
        replace x1 := keepCell hX2.out x1
        have NX : Hid (flat (turned L F (i + 1)) = flat (turned L F i) ++ [.int .i64 L[j].1, .int .i64 L[j].2]) := hidd (by
          rw [turned_next, EL.out, ej, pt_at hjL]
          exact flat_snoc _ _ _)
        have NY : Hid (flat (backed L (i + 1)) = flat (backed L i) ++ [.int .i64 L[q].1, .int .i64 L[q].2]) := hidd (by
          rw [backed_next, EL.out, eq, pt_at hqL]
          exact flat_snoc _ _ _)
        generalize L[j].1 = a at *
        generalize L[j].2 = b at *
        generalize L[q].1 = a' at *
        generalize L[q].2 = b' at *
        have Y0 := hidd (And.intro y0 y1)
        clear ej eq y0 y1
        go_wp2_with (at_builtin; refine wpList_append_lies _ rfl (.tmp 52) (.tmp 62) 26 rfl wq.heap.size 27 i0 (.agg #[.int .i64 0, .int .i64 0]) 2 16 Try.underlying26 hi hp0 hp1 hp2 rfl (by decide) _ i _ rfl (own_keep (allocB _ _) hO.out) ⟨wr.heap.size, 0, none⟩ 1 1 [.int .i64 a, .int .i64 b] rfl rfl (two_lie9 wr a b 27) (two_one9 _ _) (by decide) (by unfold maxLen; omega) (by omega) (by simp; omega) (wr.heap.size + 1) (by simp) ?_)
        intro g6 c6 w6 hown hgrow hat hlt6
        have al := allocB wr (.cells #[.int .i64 a, .int .i64 b] 27)
        have O6 : Hid (w6.ownsRow wq.heap.size 27 2 (.slice (some ⟨g6, 0, none⟩) (i + 1) c6) (i + 1) (flat (turned L F (i + 1)))) := hidd (by rw [NX.out]; exact hown)
        have K6 := hidd ((own_keep al hO2.out).kept hgrow hT.out.symm.kept)
        have T6 := hidd (Two.grown (m := i + 1) (c := c6) hT.out (own_keep al hO2.out) (g := g6) (by simpa using hat))
        have B6 := hidd ((belowT hX2.out al).grown hgrow (by simp; omega) (own_block hO.out))
        clear hown hgrow hat hlt6 hO hO2 hT hX2 x0 x1 al NX
        have y0 := keepCell B6.out Y0.out.1
        have y1 := keepCell B6.out Y0.out.2
        have hs6 := B6.out.size
        go_wp2_with (at_builtin; refine wpList_append_lies _ rfl (.tmp 64) (.tmp 72) 26 rfl wq.heap.size 27 i0 (.agg #[.int .i64 0, .int .i64 0]) 2 16 Try.underlying26 hi hp0 hp1 hp2 rfl (by decide) _ i _ rfl (own_keep (allocB _ _) K6.out) ⟨w6.heap.size, 0, none⟩ 1 1 [.int .i64 a', .int .i64 b'] rfl rfl (two_lie9 w6 a' b' 27) (two_one9 _ _) (by decide) (by unfold maxLen; omega) (by omega) (by simp; omega) (w6.heap.size + 1) (by simp) ?_)
        intro g7 c7 w7 hown hgrow hat hlt7
        have al := allocB w6 (.cells #[.int .i64 a', .int .i64 b'] 27)
        have O7 : Hid (w7.ownsRow wq.heap.size 27 2 (.slice (some ⟨g7, 0, none⟩) (i + 1) c7) (i + 1) (flat (backed L (i + 1)))) := hidd (by rw [NY.out]; exact hown)
        have K7 := hidd ((own_keep al O6.out).kept hgrow T6.out.kept)
        have T7 := hidd (Two.grown (m := i + 1) (c := c7) T6.out.symm (own_keep al O6.out) (g := g7) (by simpa using hat)).symm
        have B7 := hidd ((belowT B6.out al).grown hgrow (by simp; omega) (own_block K6.out))
        clear hown hgrow hat hlt7 O6 K6 T6 B6 y0 y1 al NY Y0
        go_wp2_with fail
        go_roundw
        case rel => exact ⟨i + 1, by omega, by go_num, K7, O7, T7, B7⟩
        case measure => simp [intOf]; omega
      · obtain rfl : i = l := by omega
        have hlt' : decide ((i : Int) < (i : Int)) = false := by simp
        have RM := hidd (ring_own hO.out (turned_len L F i))
        have RK := hidd (ring_own hO2.out (backed_len L i))
        have B5 := hidd (belowT B4.out hX2.out)
        have HLr := hidd (HL.out.keep hX2.out)
        have RGr := hidd (RG.out.keep hX2.out)
        obtain ⟨M, eM⟩ : ∃ M, turned L F i = M := ⟨_, rfl⟩
        obtain ⟨K, eK⟩ : ∃ K, backed L i = K := ⟨_, rfl⟩
        rw [eM] at RM
        rw [eK] at RK
        have hL0 : 0 < L.length := by rw [EL.out]; omega
        have lM : M.length = L.length := by rw [← eM, turned_len, EL.out]
        have lK : K.length = L.length := by rw [← eK, backed_len, EL.out]
        have pM := turned_pt L F
        have pK := backed_pt L
        have mM := turned_mem (F := F) hL0
        have mK := backed_mem hL0
        rw [EL.out, eM] at pM mM
        rw [EL.out, eK] at pK mK
        rw [← EL.out] at pM pK
        have SM := hidd (swap_ring (x := P) (y := Q) OK.out lM mM (onN_turn P Q lM pM) (crN_turn P Q lM pM))
        have SK := hidd (swap_ring (x := P) (y := Q) OK.out lK mK (onN_back P Q lK pK) (crN_back P Q lK pK))
        have AM := hidd (area_turn lM pM)
        have AK := hidd (area_back lK pK)
        have LM := hidd lM
        have LK := hidd lK
        have OL := hidd (okay_one.2 ⟨by rw [EL.out]; exact l3, by rw [EL.out]; omega, (okay_iff.1 OK.out).2.2.2.2 L (List.mem_cons_self ..)⟩ : Okay [L])
        have OMK : Hid (Okay [M] ∧ Okay [K]) := hidd ⟨okay_one.2 ⟨by rw [lM, EL.out]; exact l3, by rw [lM, EL.out]; omega, fun p hp => (okay_iff.1 OK.out).2.2.2.2 L (List.mem_cons_self ..) p (mM p hp)⟩, okay_one.2 ⟨by rw [lK, EL.out]; exact l3, by rw [lK, EL.out]; omega, fun p hp => (okay_iff.1 OK.out).2.2.2.2 L (List.mem_cons_self ..) p (mK p hp)⟩⟩
        clear hO hO2 hT hX2 hlt lM lK pM pK mM mK eM eK hL0 HCL HCG
        go_upto_region 13 with fail
        go_cut [17, 18, 19] from 74 (fun v17 v18 v19 wx => RingsL wx v17 (L :: GT) ∧ RingsL wx v18 (M :: GT) ∧ RingsL wx v19 (K :: GT) ∧ Below wr.heap.size wr wx)
        case first =>
          obtain ⟨S, hSl, hSc, hS1, hSr⟩ := tail_list RGr.out
          have hGl : (L :: GT).length = n := HN.out
          have hcg : n ≤ cg := by
            obtain ⟨_, _, e, hc, -⟩ := RGr.out
            simp only [Value.slice.injEq] at e
            omega
          by_cases hn1 : n = 1
          · obtain rfl : GT = [] := List.length_eq_zero_iff.1 (by have : GT.length + 1 = n := hGl; omega)
            subst hn1
            have FL := HLr.out
            have FM := RM.out
            have FK := RK.out
            have hcgi : (1 : Int) ≤ (cg : Int) := by omega
            clear SM SK AM AK LM LK OL OMK OK HN GD EL hSl hGl hSc hS1 hSr
            rcases (show cg = 1 ∨ (¬ cg = 1 ∧ ¬ cg - 1 = 0) by omega) with rfl | ⟨hcg0, hcg9⟩
            all_goals
              go_region_law (first | (refine step_append_room rfl (.tmp 75) (.tmp 77) 23 rfl 26 i1 1 Try.underlying23 hjj hr1 _ 0 1 1 rfl _ 0 _ [] rfl rfl (fun j u h => by simp at h) (fun u h => by simp at h) (by omega) (fun j h => by simp at h) ?_; rw [set_none]) | (refine step_append_room rfl (.tmp 80) (.tmp 82) 23 rfl 26 i1 1 Try.underlying23 hjj hr1 _ 0 1 1 rfl _ 0 _ [] rfl rfl (fun j u h => by simp at h) (fun u h => by simp at h) (by omega) (fun j h => by simp at h) ?_; rw [set_none]) | (refine step_append_room rfl (.tmp 85) (.tmp 87) 23 rfl 26 i1 1 Try.underlying23 hjj hr1 _ 0 1 1 rfl _ 0 _ [] rfl rfl (fun j u h => by simp at h) (fun u h => by simp at h) (by omega) (fun j h => by simp at h) ?_; rw [set_none]))
              all_goals
                go_wp2
                go_meet
                exact ⟨rings_one (by go_simp) (FL.keep (by repeat (first | exact Below.refl _ _ | assumption | refine belowT ?_ (allocB _ _) | refine belowT ?_ (drewB _)))) (by first | rfl | omega), rings_one (by go_simp) (FM.keep (by repeat (first | exact Below.refl _ _ | assumption | refine belowT ?_ (allocB _ _) | refine belowT ?_ (drewB _)))) (by first | rfl | omega), rings_one (by go_simp) (FK.keep (by repeat (first | exact Below.refl _ _ | assumption | refine belowT ?_ (allocB _ _) | refine belowT ?_ (drewB _)))) (by first | rfl | omega), (by repeat (first | exact Below.refl _ _ | assumption | refine belowT ?_ (allocB _ _) | refine belowT ?_ (drewB _)))⟩
          · have hcg1 : ¬ cg = 1 := by omega
            have hcg2 : ¬ cg - 1 = 0 := by omega
            have hn2 : 1 ≤ n := by omega
            have hn2a : (1 : Int) ≤ (n : Int) := by omega
            have hn2b : (n : Int) ≤ (cg : Int) := by omega
            clear SM SK AM AK LM LK OL OMK OK HN GD EL
            have FL := HLr.out
            have FM := RM.out
            have FK := RK.out
            have hG1 : Hid (n = GT.length + 1) := hidd (by rw [← hGl]; rfl)
            have hSl2 := hidd hSl
            clear hSl hGl
            go_region_law (first | (refine step_append_grows rfl (.tmp 75) (.tmp 77) 23 rfl 26 i1 (.slice none 0 0) 1 24 Try.underlying23 hjj hr0 hr1 hr2 rfl (by decide) _ 1 1 [.slice pL i cL] (by rfl) (by simp) rfl (cell_one (by first | (go_simp; done) | (repeat (first | (go_simp; done) | refine keepCell (allocB _ _) ?_ | refine keepCell (drewB _) ?_ | refine Later.cell (by assumption) ?_)))) ⟨g, o + 1, none⟩ (n - 1) (cg - 1) S (by rfl) (by have := hG1.out; have := hSl2.out; omega) (news_at hSc (by repeat (first | exact Below.refl _ _ | assumption | refine belowT ?_ (allocB _ _) | refine belowT ?_ (drewB _)))) hS1 (by omega) (by unfold maxLen; omega) (by omega) ?_; intro v6 w6 hown hgrow; obtain ⟨z, hb⟩ := grow_both (w0 := wr) (by repeat (first | exact Below.refl _ _ | assumption | refine belowT ?_ (allocB _ _) | refine belowT ?_ (drewB _))) hgrow; have hR := rings_own hown (by have := hG1.out; omega) hSl2.out z FL hSr; clear hown hgrow) | (refine step_append_grows rfl (.tmp 80) (.tmp 82) 23 rfl 26 i1 (.slice none 0 0) 1 24 Try.underlying23 hjj hr0 hr1 hr2 rfl (by decide) _ 1 1 [.slice p9 i c9] (by rfl) (by simp) rfl (cell_one (by first | (go_simp; done) | (repeat (first | (go_simp; done) | refine keepCell (allocB _ _) ?_ | refine keepCell (drewB _) ?_ | refine Later.cell (by assumption) ?_)))) ⟨g, o + 1, none⟩ (n - 1) (cg - 1) S (by rfl) (by have := hG1.out; have := hSl2.out; omega) (news_at hSc (by repeat (first | exact Below.refl _ _ | assumption | refine belowT ?_ (allocB _ _) | refine belowT ?_ (drewB _)))) hS1 (by omega) (by unfold maxLen; omega) (by omega) ?_; intro v6 w6 hown hgrow; obtain ⟨z, hb⟩ := grow_both (w0 := wr) (by repeat (first | exact Below.refl _ _ | assumption | refine belowT ?_ (allocB _ _) | refine belowT ?_ (drewB _))) hgrow; have hR := rings_own hown (by have := hG1.out; omega) hSl2.out z FM hSr; clear hown hgrow) | (refine step_append_grows rfl (.tmp 85) (.tmp 87) 23 rfl 26 i1 (.slice none 0 0) 1 24 Try.underlying23 hjj hr0 hr1 hr2 rfl (by decide) _ 1 1 [.slice p8 i c8] (by rfl) (by simp) rfl (cell_one (by first | (go_simp; done) | (repeat (first | (go_simp; done) | refine keepCell (allocB _ _) ?_ | refine keepCell (drewB _) ?_ | refine Later.cell (by assumption) ?_)))) ⟨g, o + 1, none⟩ (n - 1) (cg - 1) S (by rfl) (by have := hG1.out; have := hSl2.out; omega) (news_at hSc (by repeat (first | exact Below.refl _ _ | assumption | refine belowT ?_ (allocB _ _) | refine belowT ?_ (drewB _)))) hS1 (by omega) (by unfold maxLen; omega) (by omega) ?_; intro v6 w6 hown hgrow; obtain ⟨z, hb⟩ := grow_both (w0 := wr) (by repeat (first | exact Below.refl _ _ | assumption | refine belowT ?_ (allocB _ _) | refine belowT ?_ (drewB _))) hgrow; have hR := rings_own hown (by have := hG1.out; omega) hSl2.out z FK hSr; clear hown hgrow))
            all_goals
              go_wp2
              go_meet
              exact ⟨(by repeat (first | assumption | refine RingsL.keep ?_ (allocB _ _) | refine RingsL.keep ?_ (drewB _) | refine Later.rings (by assumption) ?_)), (by repeat (first | assumption | refine RingsL.keep ?_ (allocB _ _) | refine RingsL.keep ?_ (drewB _) | refine Later.rings (by assumption) ?_)), (by repeat (first | assumption | refine RingsL.keep ?_ (allocB _ _) | refine RingsL.keep ?_ (drewB _) | refine Later.rings (by assumption) ?_)), (by repeat (first | exact Below.refl _ _ | assumption | refine belowT ?_ (allocB _ _) | refine belowT ?_ (drewB _)))⟩
        case rest =>
          obtain ⟨r1, r2, r3, hbx⟩ := hcut
          obtain ⟨t, ht⟩ := prop_bool9 (InT (L :: GT) P Q)
          obtain ⟨ob, hob⟩ := prop_bool9 (OnT (L :: GT) P Q)
          obtain ⟨T, eT⟩ : ∃ T, wrap64 (area L) = T := ⟨_, rfl⟩
          obtain ⟨T', eT'⟩ : ∃ T', wrap64 (-area L) = T' := ⟨_, rfl⟩
          have hneg : IntKind.i64.wrap (-T) = T' := by rw [IntKind.wrap_i64, ← eT, ← eT']; unfold wrap64; omega
          have h20 : (L :: GT).length ≤ 1000000 := by have := (okay_iff.1 OK.out).1; omega
          have hlG : ∀ K ∈ L :: GT, K.length ≤ 1000000 := fun K hK => by have := corners_mem hK; have := (okay_iff.1 OK.out).2.1; omega
          have h20M : (M :: GT).length ≤ 1000000 := h20
          have hlM : ∀ K' ∈ M :: GT, K'.length ≤ 1000000 := fun K' hK => by have := corners_mem hK; have := (okay_iff.1 SM.out.1).2.1; omega
          have h20K : (K :: GT).length ≤ 1000000 := h20
          have hlK : ∀ K' ∈ K :: GT, K'.length ≤ 1000000 := fun K' hK => by have := corners_mem hK; have := (okay_iff.1 SK.out.1).2.1; omega
          have CI1 := hidd fun s w h => p_inside s (L :: GT) P Q t ht h20 hlG w h
          have CI2 := hidd fun s w h => p_inside s (M :: GT) P Q t (ht.trans SM.out.2.1.symm) h20M hlM w h
          have CI3 := hidd fun s w h => p_inside s (K :: GT) P Q t (ht.trans SK.out.2.1.symm) h20K hlK w h
          have CO1 := hidd fun s w h => p_on s (L :: GT) P Q ob hob h20 hlG w h
          have CO2 := hidd fun s w h => p_on s (M :: GT) P Q ob (hob.trans SM.out.2.2.symm) h20M hlM w h
          have CO3 := hidd fun s w h => p_on s (K :: GT) P Q ob (hob.trans SK.out.2.2.symm) h20K hlK w h
          have CA1 : Hid (∀ (s : Value) (w : World), RingL w s L → Calls Try.prog 14 #[s] w fun e w' => e = .returned (.int .i64 T) ∧ Below w.heap.size w w') := hidd fun s w h => (p_area2 s L (by have := (okay_one.1 OL.out).2.1; omega) w h).mono fun e w' ⟨⟨z, he, hz⟩, hb⟩ => ⟨by
            rcases hz with ⟨-, k⟩ | ⟨k, -⟩
            · rw [he, k, eT]
            · exact absurd OL.out k, hb⟩
          have CA2 : Hid (∀ (s : Value) (w : World), RingL w s M → Calls Try.prog 14 #[s] w fun e w' => e = .returned (.int .i64 T) ∧ Below w.heap.size w w') := hidd fun s w h => (p_area2 s M (by have := (okay_one.1 OMK.out.1).2.1; omega) w h).mono fun e w' ⟨⟨z, he, hz⟩, hb⟩ => ⟨by
            rcases hz with ⟨-, k⟩ | ⟨k, -⟩
            · rw [he, k, AM.out, eT]
            · exact absurd OMK.out.1 k, hb⟩
          have CA3 : Hid (∀ (s : Value) (w : World), RingL w s K → Calls Try.prog 14 #[s] w fun e w' => e = .returned (.int .i64 T') ∧ Below w.heap.size w w') := hidd fun s w h => (p_area2 s K (by have := (okay_one.1 OMK.out.2).2.1; omega) w h).mono fun e w' ⟨⟨z, he, hz⟩, hb⟩ => ⟨by
            rcases hz with ⟨-, k⟩ | ⟨k, -⟩
            · rw [he, k, AK.out, eT']
            · exact absurd OMK.out.2 k, hb⟩
          have V1 := hidd r1
          have V2 := hidd r2
          have V3 := hidd r3
          have W1 := hidd (HLr.out.keep hbx)
          have W2 := hidd (RM.out.keep hbx)
          have W3 := hidd (RK.out.keep hbx)
          have B6 := hidd (belowT B5.out hbx)
          have tt1 : (t == t) = true := by simp
          have tt2 : (ob == ob) = true := by simp
          have tt3 : (T == T) = true := by simp
          have tt4 : (T' == T') = true := by simp
          clear r1 r2 r3 hbx RM RK HLr B5 ht hob eT eT' h20 hlG h20M hlM h20K hlK SM SK AM AK OL OMK OK LM LK RGr
          go_wp2_with fail
          refine (CI1.out _ _ V1.out).mono ?_
          rintro e x1 ⟨rfl, b⟩
          have Y1 := hidd b
          clear b
          go_wp2_with fail
          refine (CI2.out _ _ (V2.out.keep Y1.out)).mono ?_
          rintro e x2 ⟨rfl, b⟩
          have Y2 := hidd (belowT Y1.out b)
          clear b Y1
          go_wp2_with fail
          refine (CI3.out _ _ (V3.out.keep Y2.out)).mono ?_
          rintro e x3 ⟨rfl, b⟩
          have Y3 := hidd (belowT Y2.out b)
          clear b Y2
          go_wp2_with fail
          refine (CO2.out _ _ (V2.out.keep Y3.out)).mono ?_
          rintro e x4 ⟨rfl, b⟩
          have Y4 := hidd (belowT Y3.out b)
          clear b Y3
          go_wp2_with fail
          refine (CO1.out _ _ (V1.out.keep Y4.out)).mono ?_
          rintro e x5 ⟨rfl, b⟩
          have Y5 := hidd (belowT Y4.out b)
          clear b Y4
          go_wp2_with fail
          refine (CO3.out _ _ (V3.out.keep Y5.out)).mono ?_
          rintro e x6 ⟨rfl, b⟩
          have Y6 := hidd (belowT Y5.out b)
          clear b Y5
          go_wp2_with fail
          refine (CO1.out _ _ (V1.out.keep Y6.out)).mono ?_
          rintro e x7 ⟨rfl, b⟩
          have Y7 := hidd (belowT Y6.out b)
          clear b Y6
          go_wp2_with fail
          refine (CA2.out _ _ (W2.out.keep Y7.out)).mono ?_
          rintro e x8 ⟨rfl, b⟩
          have Y8 := hidd (belowT Y7.out b)
          clear b Y7
          go_wp2_with fail
          refine (CA1.out _ _ (W1.out.keep Y8.out)).mono ?_
          rintro e x9 ⟨rfl, b⟩
          have Y9 := hidd (belowT Y8.out b)
          clear b Y8
          go_wp2_with fail
          refine (CA3.out _ _ (W3.out.keep Y9.out)).mono ?_
          rintro e x10 ⟨rfl, b⟩
          have Y10 := hidd (belowT Y9.out b)
          clear b Y9
          go_wp2_with fail
          refine (CA1.out _ _ (W1.out.keep Y10.out)).mono ?_
          rintro e x11 ⟨rfl, b⟩
          have Y11 := hidd (belowT Y10.out b)
          clear b Y10
          go_wp2_with fail
          refine (AW.out _).mono ?_
          rintro e w9 ⟨rfl, b9⟩
          go_wp2_with fail
          go_ret
          exact ⟨rfl, belowT B6.out (belowT Y11.out b9)⟩

end Go.Proofs.Ytmfpkphhjfgjbaa
