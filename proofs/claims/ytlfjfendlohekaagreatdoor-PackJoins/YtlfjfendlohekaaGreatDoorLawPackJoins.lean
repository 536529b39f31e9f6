/-
  The law PackJoins answers true for every list of numbers, size and place, in whatever memory where the two tables hold what their texts lay.
-/
import Derived.Test.YtlfjfendlohekaaGreatDoorPAwake
import Derived.Test.YtlfjfendlohekaaGreatDoorPWords
import Derived.Test.YtlfjfendlohekaaGreatDoorProg
import Derived.Handy
import Derived.Deep.QuietTactic
import Derived.WalkSpells
import Derived.WalkLawsBesides
import Derived.BigQuiet
import Derived.PlainAid
import Derived.Deep.RegionWith
import Derived.Laws.BitsAllLaws
import Derived.Sort.Walk13a
import Derived.Sort.LotA
import Derived.Sort.LotB
import Derived.Sort.LotD1
import Derived.Deep.Draws
import Derived.WalkKit
import Derived.BigGuard
import Derived.BigCall
import Derived.CellFam
import Derived.Sort.WalkB3
import Derived.BigRegion
import Derived.Sort.WalkA6
import Derived.Deep.RegionHeld3
import Derived.WalkSmall
import Derived.Deep.CutRange
import Derived.OwnWalk
import Derived.Laws.OwnMore
import Derived.OneCell
import Derived.Laws.CopyOwn
import Derived.Sort.Row
import Derived.Laws.AppendOwn
import Derived.Laws.AppendOwnNone
import Derived.BigFrame
import Derived.Deep.AppendLies
import Derived.Deep.RegionLaw
import Derived.RangeFuncFrom
import Derived.RangeFuncCalls
import Derived.RangeFuncLeaves
import Derived.OwnWalkIn
import Derived.TacticsInMore
import Derived.LoopNIn
import Derived.LoopIn
import Derived.RegionIn
import Derived.Stop.RegionWithIn
import Derived.Sort.LotD3
import Derived.Deep.Cut
import Derived.Deep.LoopGhost
import Derived.Sort.WalkB12
import Derived.Deep.OwnRows
import Derived.ChangeSlices
import Derived.OpenShut
namespace Go.Proofs.YtlfjfendlohekaaGreatDoor
open Go.RowKit

theorem packed_freeJ {r : Nat} {S P : List Int} (h : Packed r S P) : FreeP P := ⟨rising_nodup h.1, fun x hx => (h.2.1 x hx).1, h.2.2.1⟩

theorem packed_cntJ {r : Nat} (hr : r ≤ 12) {S P : List Int} (h : Packed r S P) : cntR r P ≤ (S.length : Int) := by
  rw [cntR_len]
  have hn := kinR_nodup hr h.2.1 h.2.2.1 (rising_nodup h.1)
  have := (nodup_sub _ S hn fun x hx => by
    obtain ⟨h1, h2, h3⟩ := (mem_kinR hr h.2.1).1 hx
    exact (h.2.2.2.2 x h1 h2).1 h3).1
  omega

/-- Spread again, they are what was packed. -/
theorem packed_backJ {r : Nat} {S P K : List Int} (hS : ∀ x ∈ S, Whole x ∧ wR x = (r : Int)) (h : Packed r S P) (hK : ∀ x, x ∈ K ↔ Whole x ∧ wR x = (r : Int) ∧ Cov P x) (x : Int) : x ∈ K ↔ x ∈ S := by
  rw [hK x]
  exact ⟨fun ⟨h1, h2, h3⟩ => (h.2.2.2.2 x h1 h2).1 h3, fun hx => ⟨(hS x hx).1, (hS x hx).2, (h.2.2.2.2 x (hS x hx).1 (hS x hx).2).2 hx⟩⟩

theorem lst_take {w : World} {p : Option Addr} {n cap m : Nat} {L : List Int} (h : Lst w (.slice p n cap) L) (hm : m ≤ L.length) : Lst w (.slice p m cap) (L.take m) := by
  obtain ⟨q, c, e, h1, h2⟩ := h
  injection e with e1 e2 e3
  subst e1 e3
  have hl : (L.take m).length = m := by rw [List.length_take]; omega
  refine ⟨p, cap, by rw [hl], by omega, fun j hj => ?_⟩
  obtain ⟨g, o, h3, h4⟩ := h2 j (by omega)
  exact ⟨g, o, h3, by rw [List.getElem_take]; exact h4⟩

theorem lst_drop {w : World} {g n cap m : Nat} {L : List Int} (h : Lst w (.slice (some ⟨g, 0, none⟩) n cap) L) (hm : m ≤ L.length) : Lst w (.slice (some ⟨g, m, none⟩) (L.length - m) (cap - m)) (L.drop m) := by
  obtain ⟨q, c, e, h1, h2⟩ := h
  injection e with e1 e2 e3
  subst e1 e3
  have hl : (L.drop m).length = L.length - m := by rw [List.length_drop]
  refine ⟨_, _, by rw [hl], by omega, fun j hj => ⟨g, m, rfl, ?_⟩⟩
  obtain ⟨g', o, h3, h4⟩ := h2 (m + j) (by omega)
  injection h3 with h5
  injection h5 with h6 h7 h8
  subst h6 h7
  rw [List.getElem_drop, ← h4]
  congr 2
  omega

set_option maxHeartbeats 16000000 in
set_option maxRecDepth 20000 in
theorem packJoins_walk (sX : Value) (X : List Int) (r at0 : Int) (w : World) (hT : Tabs w) (hX : LstK .i64 w sX X) (_ : ∀ x ∈ X, -9223372036854775808 ≤ x ∧ x ≤ 9223372036854775807) (_ : -9223372036854775808 ≤ r) (_ : r ≤ 9223372036854775807) (_ : -9223372036854775808 ≤ at0) (_ : at0 ≤ 9223372036854775807) :
    Calls Tryz.prog 6 #[sX, .int .i64 r, .int .i64 at0] w fun e w' => e = .returned (.bool true) ∧ Below w.heap.size w w' := by
  have AW := hidd fun w h => pawake w h
  have HT := hidd hT
  clear hT
  by_cases h16 : 16 < X.length
  · obtain ⟨pX, cX, rfl, -, -⟩ := hX
    have A1 := hidd (AW.out w HT.out)
    have h16' : (16 : Int) < (X.length : Int) := by omega
    go_enter Tryz.func6, Tryz.ntmps6
    go_wp2_with fail
    refine A1.out.mono ?_
    rintro e w1 ⟨rfl, b1⟩
    go_wp2_with fail
    go_ret
    exact ⟨rfl, b1⟩
  · obtain ⟨t, n, et, en, t1, t2, n12, -⟩ := sz_walk r
    have szn : szOf (n : Int) = (n : Int) := szOf_box (by omega) (by omega)
    have WS := hidd (words sX X (n : Int) n szn w hX).2
    obtain ⟨pX, cX, rfl, -, -⟩ := hX
    have h16' : decide ((16 : Int) < (X.length : Int)) = false := df (by omega)
    clear szn h16
    go_enter Tryz.func6, Tryz.ntmps6
    go_wp2_with fail
    refine WS.out.mono ?_
    rintro e w1 ⟨⟨sl, L, rfl, hn, hW, hO⟩, b1⟩
    have HW := hidd hW
    have UL : Hid (∀ x ∈ L, U64 x) := hidd fun x hx => by have := whole_box (hW x hx).1; exact ⟨by omega, by omega⟩
    have L1 := hidd (Lst.own hO)
    obtain ⟨c, ec⟩ : ∃ c, L.length = c := ⟨_, rfl⟩
    have EC := hidd ec
    rw [ec] at hO hn
    obtain ⟨pl, cl, rfl, hpl⟩ := own_slice hO
    have hcl : c ≤ cl := by
      obtain ⟨q, cq, e1, h1, -⟩ := L1.out
      injection e1 with e2 e3 e4
      have := EC.out
      omega
    have B1 := hidd b1
    have hk : ∃ k : Nat, k ≤ c ∧ (bits .and .i64 at0 65535).tmod ((c : Int) + 1) = (k : Int) := by
      have h1 := mask16 at0
      rw [h1, Int.tmod_eq_emod_of_nonneg (by omega)]
      have h2 := Int.emod_nonneg (at0 % 65536) (b := (c : Int) + 1) (by omega)
      have h3 := Int.emod_lt_of_pos (at0 % 65536) (b := (c : Int) + 1) (by omega)
      exact ⟨((at0 % 65536) % ((c : Int) + 1)).toNat, by omega, by omega⟩
    obtain ⟨k, hkc, ek⟩ := hk
    have hkl : k ≤ cl := by omega
    have hc1 : ((c : Int) + 1 == 0) = false := by simp; omega
    have hc2 : ¬ ((c : Int) + 1 = 0) := by omega
    have HN := hidd hn
    have PT : Hid ((c = 0 ∧ k = 0 ∧ cl = 0 ∧ pl = none) ∨ (∃ g, pl = some ⟨g, 0, none⟩ ∧ 0 < cl)  ∨ (∃ g, pl = some ⟨g, 0, none⟩ ∧ cl = 0 ∧ c = 0 ∧ k = 0)) := hidd (by
      rcases hO.2 with ⟨e, h0⟩ | ⟨g, c', cur, e, _⟩
      · injection e with e1 e2 e3
        exact .inl ⟨h0, by omega, e3, e1⟩
      · injection e with e1 e2 e3
        by_cases h : 0 < cl
        · exact .inr (.inl ⟨g, e1, h⟩)
        · exact .inr (.inr ⟨g, e1, by omega, by omega, by omega⟩))
    have LP : Hid (∀ m, m ≤ c → ∀ w', Lst w' (.slice pl c cl) L → Lst w' (.slice pl m cl) (L.take m)) := hidd fun m hm w' h => lst_take h (by rw [EC.out]; exact hm)
    have LD : Hid (∀ g m, pl = some ⟨g, 0, none⟩ → m ≤ c → ∀ w', Lst w' (.slice pl c cl) L → Lst w' (.slice (some ⟨g, m, none⟩) (c - m) (cl - m)) (L.drop m)) := hidd fun g m e hm w' h => by
      subst e
      have := lst_drop h (m := m) (by rw [EC.out]; exact hm)
      rwa [EC.out] at this
    clear hW ec hO b1 WS hpl
    have CA := hidd (p_compact (.slice pl k cl) (L.take k) (by have := EC.out; have := HN.out; rw [List.length_take]; omega) (fun x hx => UL.out x (List.mem_of_mem_take hx)) w1 (LP.out k hkc w1 L1.out))
    have nilL : ∀ (p : Option Addr) (c' : Nat) (w' : World), Lst w' (.slice p 0 c') [] := fun p c' w' => ⟨p, c', rfl, Nat.zero_le _, fun j hj => absurd hj (Nat.not_lt_zero _)⟩
    have DN : Hid (k = c → L.drop k = []) := hidd fun e => List.drop_eq_nil_of_le (by rw [EC.out]; omega)
    rcases PT.out with ⟨rfl, rfl, rfl, rfl⟩ | ⟨g, rfl, hcl0⟩ | ⟨g, rfl, rfl, rfl, rfl⟩
    · have LB : Hid (∀ w', Lst w' (.slice none 0 0) L → Lst w' (.slice none 0 0) (L.drop 0)) := hidd fun w' _ => by rw [DN.out rfl]; exact nilL _ _ _
      clear PT LP LD DN nilL
      go_wp2_with fail
      refine CA.out.mono ?_
      rintro e w2 ⟨hc, b2⟩
      obtain ⟨sa, A, rfl, hPA, hAn, -, hAA, hOA⟩ := cmp_yes (r := n) (fun x hx => HW.out x (List.mem_of_mem_take hx)) (by have := EC.out; have := HN.out; rw [List.length_take]; omega) hc
      have PA := hidd hPA
      have AA := hidd hAA
      have NA : Hid (A.length ≤ 300) := hidd (by rw [List.length_take] at hAn; have := EC.out; have := HN.out; omega)
      have LA := hidd (Lst.own hOA)
      obtain ⟨pa, ca, rfl, -⟩ := own_slice hOA
      have L2 := hidd (L1.out.keep b2)
      have B2 := hidd (belowT B1.out b2)
      have CB := hidd (p_compact _ (L.drop 0) (by have := EC.out; have := HN.out; rw [List.length_drop]; omega) (fun x hx => UL.out x (List.mem_of_mem_drop hx)) w2 (LB.out w2 L2.out))
      clear hc hPA hAn hAA hOA b2 CA B1 L1
      go_wp2_with fail
      refine CB.out.mono ?_
      rintro e w3 ⟨hc, b3⟩
      obtain ⟨sb, B, rfl, hPB, hBn, -, hBB, hOB⟩ := cmp_yes (r := n) (fun x hx => HW.out x (List.mem_of_mem_drop hx)) (by have := EC.out; have := HN.out; rw [List.length_drop]; omega) hc
      have PB := hidd hPB
      have BB := hidd hBB
      have NB : Hid (B.length ≤ 300) := hidd (by rw [List.length_drop] at hBn; have := EC.out; have := HN.out; omega)
      have LBB := hidd (Lst.own hOB)
      obtain ⟨pb, cb, rfl, -⟩ := own_slice hOB
      have L3 := hidd (L2.out.keep b3)
      have LA3 := hidd (LA.out.keep b3)
      have B3 := hidd (belowT B2.out b3)
      have CC := hidd (p_compact _ L (by have := EC.out; have := HN.out; omega) UL.out w3 L3.out)
      clear hc hPB hBn hBB hOB b3 CB B2 L2 LA LB
      go_wp2_with fail
      refine CC.out.mono ?_
      rintro e w4 ⟨hc, b4⟩
      obtain ⟨sp, P, rfl, hPP, hPn, hPl, -, -⟩ := cmp_yes (r := n) HW.out (by have := EC.out; have := HN.out; omega) hc
      have PP := hidd hPP
      have NP : Hid (P.length ≤ 300) := hidd (by have := EC.out; have := HN.out; omega)
      have LP4 := hidd hPl
      obtain ⟨pp, cp, rfl, -, -⟩ := hPl
      have L4 := hidd (L3.out.keep b4)
      have LA4 := hidd (LA3.out.keep b4)
      have LB4 := hidd (LBB.out.keep b4)
      have B4 := hidd (belowT B3.out b4)
      clear hc hPP hPn b4 CC B3 L3 LA3 LBB
      have al := allocB w4 (.cells #[] 30)
      have O0 := hidd (own_fresh w4)
      have la := hidd (LA4.out.keep al)
      go_wp2_with (at_builtin; refine wpList_append_lst (by rfl) (.tmp 56) (.tmp 57) rfl w4.heap.size _ 0 [] rfl O0.out _ A rfl la.out AA.out (by have := NA.out; omega) al.size ?_)
      intro va w5 ho5 hg5
      have d5 : Below w4.heap.size w4 w5 := al.grown hg5 al.size (own_block O0.out)
      have O5 := hidd ho5
      have lb := hidd (LB4.out.keep d5)
      have q5 := d5.size
      obtain ⟨pa5, ca5, rfl, -⟩ := own_slice ho5
      clear al O0 la ho5 hg5
      go_wp2_with (at_builtin; refine wpList_append_lst (by rfl) (.tmp 58) (.tmp 59) rfl w4.heap.size _ _ _ rfl O5.out _ B rfl lb.out BB.out (by have := NA.out; have := NB.out; omega) q5 ?_)
      intro vb w6 ho6 hg6
      have d6 : Below w4.heap.size w4 w6 := d5.grown hg6 q5 (own_block O5.out)
      have lab : Hid (Lst w6 vb (A ++ B)) := hidd (Lst.own (n := A.length + B.length) (by rw [show vals (A ++ B) = vals A ++ vals B by simp [vals]]; exact ho6))
      obtain ⟨pb6, cb6, rfl, -⟩ := own_slice ho6
      have L6 := hidd (L4.out.keep d6)
      have LP6 := hidd (LP4.out.keep d6)
      have B6 := hidd (belowT B4.out d6)
      have WAB : Hid (WithinR n (A ++ B)) := hidd fun x hx => (List.mem_append.1 hx).elim (PA.out.2.1 x) (PB.out.2.1 x)
      have UAB : Hid (∀ x ∈ A ++ B, U64 x) := hidd fun x hx => by have := whole_box (WAB.out x hx).1; exact ⟨by omega, by omega⟩
      have CAB : Hid (cntR n (A ++ B) ≤ 600) := hidd (by
        have h1 := packed_cntJ n12 PA.out
        have h2 := packed_cntJ n12 PB.out
        rw [List.length_take] at h1
        rw [List.length_drop] at h2
        rw [cntR_append]
        have := EC.out
        have := HN.out
        omega)
      have SP := hidd (p_spread _ (A ++ B) (n : Int) (by omega) (by have := NA.out; have := NB.out; rw [List.length_append]; omega) UAB.out w6 lab.out (HT.out.below B6.out))
      clear O5 lb d5 ho6 hg6 d6 q5 lab L4 LP4 LA4 LB4 B4
      go_wp2_with fail
      refine SP.out.mono ?_
      rintro e w7 ⟨hs, b7⟩
      obtain ⟨s7, K, rfl, hKr, hKm, hKn, hKl, -⟩ := spr_yes n12 WAB.out (by have := CAB.out; omega) hs
      have KM : Hid (∀ x, x ∈ K ↔ x ∈ L) := hidd fun x => by
        have hcov : Cov (A ++ B) x ↔ Cov A x ∨ Cov B x := by
          unfold Cov
          constructor
          · rintro ⟨p, hp, ha⟩
            exact (List.mem_append.1 hp).elim (fun h => .inl ⟨p, h, ha⟩) (fun h => .inr ⟨p, h, ha⟩)
          · rintro (⟨p, hp, ha⟩ | ⟨p, hp, ha⟩)
            · exact ⟨p, List.mem_append.2 (.inl hp), ha⟩
            · exact ⟨p, List.mem_append.2 (.inr hp), ha⟩
        rw [hKm x, hcov]
        constructor
        · rintro ⟨h1, h2, h3 | h3⟩
          · exact List.mem_of_mem_take ((PA.out.2.2.2.2 x h1 h2).1 h3)
          · exact List.mem_of_mem_drop ((PB.out.2.2.2.2 x h1 h2).1 h3)
        · intro hx
          have h := HW.out x hx
          refine ⟨h.1, h.2, ?_⟩
          rw [← List.take_append_drop 0 L] at hx
          exact (List.mem_append.1 hx).imp (fun h' => (PA.out.2.2.2.2 x h.1 h.2).2 h') (fun h' => (PB.out.2.2.2.2 x h.1 h.2).2 h')
      have KR := hidd hKr
      have K7 := hidd hKl
      have L7 := hidd (L6.out.keep b7)
      have LP7 := hidd (LP6.out.keep b7)
      have B7 := hidd (belowT B6.out b7)
      have NK := hidd hKn
      have CK := hidd (p_compact s7 K (by omega) (fun x hx => UL.out x ((KM.out x).1 hx)) w7 hKl)
      obtain ⟨p7, c7, rfl, -, -⟩ := hKl
      clear hs hKr hKm hKn b7 SP L6 LP6 B6
      go_wp2_with fail
      refine CK.out.mono ?_
      rintro e w8 ⟨hc, b8⟩
      obtain ⟨s8, Q, rfl, hQ, -, hQl, -, -⟩ := cmp_yes (r := n) (fun x hx => HW.out x ((KM.out x).1 hx)) (by have := NK.out; omega) hc
      obtain rfl : Q = P := hQ.one n12 PP.out KM.out
      have Q8 := hidd hQl
      have K8 := hidd (K7.out.keep b8)
      have L8 := hidd (L7.out.keep b8)
      have LP8 := hidd (LP7.out.keep b8)
      have B8 := hidd (belowT B7.out b8)
      have SE := hidd (lset _ L (by have := EC.out; have := HN.out; omega) UL.out w8 L8.out)
      rw [EC.out] at SE
      obtain ⟨p8, c8, rfl, -, -⟩ := hQl
      clear hc hQ b8 CK K7 L7 LP7 B7 L8
      go_wp2_with fail
      refine SE.out.mono ?_
      rintro e w9 ⟨⟨s9, K', rfl, k1, k2, k3, k4⟩, b9⟩
      obtain rfl : K' = K := rising_ext k1 KR.out fun x => by rw [k2 x, KM.out x]
      have SA := hidd (lsame _ s9 K' (by have := NK.out; omega) w9 (K8.out.keep b9) k4)
      have Q9 := hidd (Q8.out.keep b9)
      have LP9 := hidd (LP8.out.keep b9)
      have B9 := hidd (belowT B8.out b9)
      obtain ⟨p9, c9, rfl, -, -⟩ := k4
      clear k1 k2 k3 b9 SE K8 Q8 LP8 B8
      go_wp2_with fail
      refine SA.out.mono ?_
      rintro e w10 ⟨rfl, b10⟩
      have B10 := hidd (belowT B9.out b10)
      have SB := hidd (lsame _ _ Q (by have := NP.out; omega) w10 (Q9.out.keep b10) (LP9.out.keep b10))
      clear b10 SA Q9 LP9 B9
      go_wp2_with fail
      refine SB.out.mono ?_
      rintro e w11 ⟨rfl, b11⟩
      have B11 := hidd (belowT B10.out b11)
      have A9 := hidd (AW.out w11 (HT.out.below B11.out))
      clear b11 B10 SB
      go_wp2_with fail
      refine A9.out.mono ?_
      rintro e w12 ⟨rfl, b12⟩
      go_wp2_with fail
      go_ret
      exact ⟨rfl, belowT B11.out b12⟩
    · have hcl1 : ¬ cl = 0 := by omega
      by_cases hck : k = cl
      · obtain rfl : k = c := by omega
        have LB : Hid (∀ w', Lst w' (.slice (some ⟨g, 0, none⟩) k cl) L → Lst w' (.slice (some ⟨g, 0, none⟩) 0 0) (L.drop k)) := hidd fun w' _ => by rw [DN.out rfl]; exact nilL _ _ _
        subst hck
        clear PT LP LD DN nilL
        go_wp2_with fail
        refine CA.out.mono ?_
        rintro e w2 ⟨hc, b2⟩
        obtain ⟨sa, A, rfl, hPA, hAn, -, hAA, hOA⟩ := cmp_yes (r := n) (fun x hx => HW.out x (List.mem_of_mem_take hx)) (by have := EC.out; have := HN.out; rw [List.length_take]; omega) hc
        have PA := hidd hPA
        have AA := hidd hAA
        have NA : Hid (A.length ≤ 300) := hidd (by rw [List.length_take] at hAn; have := EC.out; have := HN.out; omega)
        have LA := hidd (Lst.own hOA)
        obtain ⟨pa, ca, rfl, -⟩ := own_slice hOA
        have L2 := hidd (L1.out.keep b2)
        have B2 := hidd (belowT B1.out b2)
        have CB := hidd (p_compact _ (L.drop k) (by have := EC.out; have := HN.out; rw [List.length_drop]; omega) (fun x hx => UL.out x (List.mem_of_mem_drop hx)) w2 (LB.out w2 L2.out))
        clear hc hPA hAn hAA hOA b2 CA B1 L1
        go_wp2_with fail
        refine CB.out.mono ?_
        rintro e w3 ⟨hc, b3⟩
        obtain ⟨sb, B, rfl, hPB, hBn, -, hBB, hOB⟩ := cmp_yes (r := n) (fun x hx => HW.out x (List.mem_of_mem_drop hx)) (by have := EC.out; have := HN.out; rw [List.length_drop]; omega) hc
        have PB := hidd hPB
        have BB := hidd hBB
        have NB : Hid (B.length ≤ 300) := hidd (by rw [List.length_drop] at hBn; have := EC.out; have := HN.out; omega)
        have LBB := hidd (Lst.own hOB)
        obtain ⟨pb, cb, rfl, -⟩ := own_slice hOB
        have L3 := hidd (L2.out.keep b3)
        have LA3 := hidd (LA.out.keep b3)
        have B3 := hidd (belowT B2.out b3)
        have CC := hidd (p_compact _ L (by have := EC.out; have := HN.out; omega) UL.out w3 L3.out)
        clear hc hPB hBn hBB hOB b3 CB B2 L2 LA LB
        go_wp2_with fail
        refine CC.out.mono ?_
        rintro e w4 ⟨hc, b4⟩
        obtain ⟨sp, P, rfl, hPP, hPn, hPl, -, -⟩ := cmp_yes (r := n) HW.out (by have := EC.out; have := HN.out; omega) hc
        have PP := hidd hPP
        have NP : Hid (P.length ≤ 300) := hidd (by have := EC.out; have := HN.out; omega)
        have LP4 := hidd hPl
        obtain ⟨pp, cp, rfl, -, -⟩ := hPl
        have L4 := hidd (L3.out.keep b4)
        have LA4 := hidd (LA3.out.keep b4)
        have LB4 := hidd (LBB.out.keep b4)
        have B4 := hidd (belowT B3.out b4)
        clear hc hPP hPn b4 CC B3 L3 LA3 LBB
        have al := allocB w4 (.cells #[] 30)
        have O0 := hidd (own_fresh w4)
        have la := hidd (LA4.out.keep al)
        go_wp2_with (at_builtin; refine wpList_append_lst (by rfl) (.tmp 56) (.tmp 57) rfl w4.heap.size _ 0 [] rfl O0.out _ A rfl la.out AA.out (by have := NA.out; omega) al.size ?_)
        intro va w5 ho5 hg5
        have d5 : Below w4.heap.size w4 w5 := al.grown hg5 al.size (own_block O0.out)
        have O5 := hidd ho5
        have lb := hidd (LB4.out.keep d5)
        have q5 := d5.size
        obtain ⟨pa5, ca5, rfl, -⟩ := own_slice ho5
        clear al O0 la ho5 hg5
        go_wp2_with (at_builtin; refine wpList_append_lst (by rfl) (.tmp 58) (.tmp 59) rfl w4.heap.size _ _ _ rfl O5.out _ B rfl lb.out BB.out (by have := NA.out; have := NB.out; omega) q5 ?_)
        intro vb w6 ho6 hg6
        have d6 : Below w4.heap.size w4 w6 := d5.grown hg6 q5 (own_block O5.out)
        have lab : Hid (Lst w6 vb (A ++ B)) := hidd (Lst.own (n := A.length + B.length) (by rw [show vals (A ++ B) = vals A ++ vals B by simp [vals]]; exact ho6))
        obtain ⟨pb6, cb6, rfl, -⟩ := own_slice ho6
        have L6 := hidd (L4.out.keep d6)
        have LP6 := hidd (LP4.out.keep d6)
        have B6 := hidd (belowT B4.out d6)
        have WAB : Hid (WithinR n (A ++ B)) := hidd fun x hx => (List.mem_append.1 hx).elim (PA.out.2.1 x) (PB.out.2.1 x)
        have UAB : Hid (∀ x ∈ A ++ B, U64 x) := hidd fun x hx => by have := whole_box (WAB.out x hx).1; exact ⟨by omega, by omega⟩
        have CAB : Hid (cntR n (A ++ B) ≤ 600) := hidd (by
          have h1 := packed_cntJ n12 PA.out
          have h2 := packed_cntJ n12 PB.out
          rw [List.length_take] at h1
          rw [List.length_drop] at h2
          rw [cntR_append]
          have := EC.out
          have := HN.out
          omega)
        have SP := hidd (p_spread _ (A ++ B) (n : Int) (by omega) (by have := NA.out; have := NB.out; rw [List.length_append]; omega) UAB.out w6 lab.out (HT.out.below B6.out))
        clear O5 lb d5 ho6 hg6 d6 q5 lab L4 LP4 LA4 LB4 B4
        go_wp2_with fail
        refine SP.out.mono ?_
        rintro e w7 ⟨hs, b7⟩
        obtain ⟨s7, K, rfl, hKr, hKm, hKn, hKl, -⟩ := spr_yes n12 WAB.out (by have := CAB.out; omega) hs
        have KM : Hid (∀ x, x ∈ K ↔ x ∈ L) := hidd fun x => by
          have hcov : Cov (A ++ B) x ↔ Cov A x ∨ Cov B x := by
            unfold Cov
            constructor
            · rintro ⟨p, hp, ha⟩
              exact (List.mem_append.1 hp).elim (fun h => .inl ⟨p, h, ha⟩) (fun h => .inr ⟨p, h, ha⟩)
            · rintro (⟨p, hp, ha⟩ | ⟨p, hp, ha⟩)
              · exact ⟨p, List.mem_append.2 (.inl hp), ha⟩
              · exact ⟨p, List.mem_append.2 (.inr hp), ha⟩
          rw [hKm x, hcov]
          constructor
          · rintro ⟨h1, h2, h3 | h3⟩
            · exact List.mem_of_mem_take ((PA.out.2.2.2.2 x h1 h2).1 h3)
            · exact List.mem_of_mem_drop ((PB.out.2.2.2.2 x h1 h2).1 h3)
          · intro hx
            have h := HW.out x hx
            refine ⟨h.1, h.2, ?_⟩
            rw [← List.take_append_drop k L] at hx
            exact (List.mem_append.1 hx).imp (fun h' => (PA.out.2.2.2.2 x h.1 h.2).2 h') (fun h' => (PB.out.2.2.2.2 x h.1 h.2).2 h')
        have KR := hidd hKr
        have K7 := hidd hKl
        have L7 := hidd (L6.out.keep b7)
        have LP7 := hidd (LP6.out.keep b7)
        have B7 := hidd (belowT B6.out b7)
        have NK := hidd hKn
        have CK := hidd (p_compact s7 K (by omega) (fun x hx => UL.out x ((KM.out x).1 hx)) w7 hKl)
        obtain ⟨p7, c7, rfl, -, -⟩ := hKl
        clear hs hKr hKm hKn b7 SP L6 LP6 B6
        go_wp2_with fail
        refine CK.out.mono ?_
        rintro e w8 ⟨hc, b8⟩
        obtain ⟨s8, Q, rfl, hQ, -, hQl, -, -⟩ := cmp_yes (r := n) (fun x hx => HW.out x ((KM.out x).1 hx)) (by have := NK.out; omega) hc
        obtain rfl : Q = P := hQ.one n12 PP.out KM.out
        have Q8 := hidd hQl
        have K8 := hidd (K7.out.keep b8)
        have L8 := hidd (L7.out.keep b8)
        have LP8 := hidd (LP7.out.keep b8)
        have B8 := hidd (belowT B7.out b8)
        have SE := hidd (lset _ L (by have := EC.out; have := HN.out; omega) UL.out w8 L8.out)
        rw [EC.out] at SE
        obtain ⟨p8, c8, rfl, -, -⟩ := hQl
        clear hc hQ b8 CK K7 L7 LP7 B7 L8
        go_wp2_with fail
        refine SE.out.mono ?_
        rintro e w9 ⟨⟨s9, K', rfl, k1, k2, k3, k4⟩, b9⟩
        obtain rfl : K' = K := rising_ext k1 KR.out fun x => by rw [k2 x, KM.out x]
        have SA := hidd (lsame _ s9 K' (by have := NK.out; omega) w9 (K8.out.keep b9) k4)
        have Q9 := hidd (Q8.out.keep b9)
        have LP9 := hidd (LP8.out.keep b9)
        have B9 := hidd (belowT B8.out b9)
        obtain ⟨p9, c9, rfl, -, -⟩ := k4
        clear k1 k2 k3 b9 SE K8 Q8 LP8 B8
        go_wp2_with fail
        refine SA.out.mono ?_
        rintro e w10 ⟨rfl, b10⟩
        have B10 := hidd (belowT B9.out b10)
        have SB := hidd (lsame _ _ Q (by have := NP.out; omega) w10 (Q9.out.keep b10) (LP9.out.keep b10))
        clear b10 SA Q9 LP9 B9
        go_wp2_with fail
        refine SB.out.mono ?_
        rintro e w11 ⟨rfl, b11⟩
        have B11 := hidd (belowT B10.out b11)
        have A9 := hidd (AW.out w11 (HT.out.below B11.out))
        clear b11 B10 SB
        go_wp2_with fail
        refine A9.out.mono ?_
        rintro e w12 ⟨rfl, b12⟩
        go_wp2_with fail
        go_ret
        exact ⟨rfl, belowT B11.out b12⟩
      · have hck2 : ¬ cl = k := fun e => hck e.symm
        have LB : Hid (∀ w', Lst w' (.slice (some ⟨g, 0, none⟩) c cl) L → Lst w' (.slice (some ⟨g, k, none⟩) (c - k) (cl - k)) (L.drop k)) := hidd fun w' h => LD.out g k rfl hkc w' h
        clear PT LP LD DN nilL
        go_wp2_with fail
        refine CA.out.mono ?_
        rintro e w2 ⟨hc, b2⟩
        obtain ⟨sa, A, rfl, hPA, hAn, -, hAA, hOA⟩ := cmp_yes (r := n) (fun x hx => HW.out x (List.mem_of_mem_take hx)) (by have := EC.out; have := HN.out; rw [List.length_take]; omega) hc
        have PA := hidd hPA
        have AA := hidd hAA
        have NA : Hid (A.length ≤ 300) := hidd (by rw [List.length_take] at hAn; have := EC.out; have := HN.out; omega)
        have LA := hidd (Lst.own hOA)
        obtain ⟨pa, ca, rfl, -⟩ := own_slice hOA
        have L2 := hidd (L1.out.keep b2)
        have B2 := hidd (belowT B1.out b2)
        have CB := hidd (p_compact _ (L.drop k) (by have := EC.out; have := HN.out; rw [List.length_drop]; omega) (fun x hx => UL.out x (List.mem_of_mem_drop hx)) w2 (LB.out w2 L2.out))
        clear hc hPA hAn hAA hOA b2 CA B1 L1
        go_wp2_with fail
        refine CB.out.mono ?_
        rintro e w3 ⟨hc, b3⟩
        obtain ⟨sb, B, rfl, hPB, hBn, -, hBB, hOB⟩ := cmp_yes (r := n) (fun x hx => HW.out x (List.mem_of_mem_drop hx)) (by have := EC.out; have := HN.out; rw [List.length_drop]; omega) hc
        have PB := hidd hPB
        have BB := hidd hBB
        have NB : Hid (B.length ≤ 300) := hidd (by rw [List.length_drop] at hBn; have := EC.out; have := HN.out; omega)
        have LBB := hidd (Lst.own hOB)
        obtain ⟨pb, cb, rfl, -⟩ := own_slice hOB
        have L3 := hidd (L2.out.keep b3)
        have LA3 := hidd (LA.out.keep b3)
        have B3 := hidd (belowT B2.out b3)
        have CC := hidd (p_compact _ L (by have := EC.out; have := HN.out; omega) UL.out w3 L3.out)
        clear hc hPB hBn hBB hOB b3 CB B2 L2 LA LB
        go_wp2_with fail
        refine CC.out.mono ?_
        rintro e w4 ⟨hc, b4⟩
        obtain ⟨sp, P, rfl, hPP, hPn, hPl, -, -⟩ := cmp_yes (r := n) HW.out (by have := EC.out; have := HN.out; omega) hc
        have PP := hidd hPP
        have NP : Hid (P.length ≤ 300) := hidd (by have := EC.out; have := HN.out; omega)
        have LP4 := hidd hPl
        obtain ⟨pp, cp, rfl, -, -⟩ := hPl
        have L4 := hidd (L3.out.keep b4)
        have LA4 := hidd (LA3.out.keep b4)
        have LB4 := hidd (LBB.out.keep b4)
        have B4 := hidd (belowT B3.out b4)
        clear hc hPP hPn b4 CC B3 L3 LA3 LBB
        have al := allocB w4 (.cells #[] 30)
        have O0 := hidd (own_fresh w4)
        have la := hidd (LA4.out.keep al)
        go_wp2_with (at_builtin; refine wpList_append_lst (by rfl) (.tmp 56) (.tmp 57) rfl w4.heap.size _ 0 [] rfl O0.out _ A rfl la.out AA.out (by have := NA.out; omega) al.size ?_)
        intro va w5 ho5 hg5
        have d5 : Below w4.heap.size w4 w5 := al.grown hg5 al.size (own_block O0.out)
        have O5 := hidd ho5
        have lb := hidd (LB4.out.keep d5)
        have q5 := d5.size
        obtain ⟨pa5, ca5, rfl, -⟩ := own_slice ho5
        clear al O0 la ho5 hg5
        go_wp2_with (at_builtin; refine wpList_append_lst (by rfl) (.tmp 58) (.tmp 59) rfl w4.heap.size _ _ _ rfl O5.out _ B rfl lb.out BB.out (by have := NA.out; have := NB.out; omega) q5 ?_)
        intro vb w6 ho6 hg6
        have d6 : Below w4.heap.size w4 w6 := d5.grown hg6 q5 (own_block O5.out)
        have lab : Hid (Lst w6 vb (A ++ B)) := hidd (Lst.own (n := A.length + B.length) (by rw [show vals (A ++ B) = vals A ++ vals B by simp [vals]]; exact ho6))
        obtain ⟨pb6, cb6, rfl, -⟩ := own_slice ho6
        have L6 := hidd (L4.out.keep d6)
        have LP6 := hidd (LP4.out.keep d6)
        have B6 := hidd (belowT B4.out d6)
        have WAB : Hid (WithinR n (A ++ B)) := hidd fun x hx => (List.mem_append.1 hx).elim (PA.out.2.1 x) (PB.out.2.1 x)
        have UAB : Hid (∀ x ∈ A ++ B, U64 x) := hidd fun x hx => by have := whole_box (WAB.out x hx).1; exact ⟨by omega, by omega⟩
        have CAB : Hid (cntR n (A ++ B) ≤ 600) := hidd (by
          have h1 := packed_cntJ n12 PA.out
          have h2 := packed_cntJ n12 PB.out
          rw [List.length_take] at h1
          rw [List.length_drop] at h2
          rw [cntR_append]
          have := EC.out
          have := HN.out
          omega)
        have SP := hidd (p_spread _ (A ++ B) (n : Int) (by omega) (by have := NA.out; have := NB.out; rw [List.length_append]; omega) UAB.out w6 lab.out (HT.out.below B6.out))
        clear O5 lb d5 ho6 hg6 d6 q5 lab L4 LP4 LA4 LB4 B4
        go_wp2_with fail
        refine SP.out.mono ?_
        rintro e w7 ⟨hs, b7⟩
        obtain ⟨s7, K, rfl, hKr, hKm, hKn, hKl, -⟩ := spr_yes n12 WAB.out (by have := CAB.out; omega) hs
        have KM : Hid (∀ x, x ∈ K ↔ x ∈ L) := hidd fun x => by
          have hcov : Cov (A ++ B) x ↔ Cov A x ∨ Cov B x := by
            unfold Cov
            constructor
            · rintro ⟨p, hp, ha⟩
              exact (List.mem_append.1 hp).elim (fun h => .inl ⟨p, h, ha⟩) (fun h => .inr ⟨p, h, ha⟩)
            · rintro (⟨p, hp, ha⟩ | ⟨p, hp, ha⟩)
              · exact ⟨p, List.mem_append.2 (.inl hp), ha⟩
              · exact ⟨p, List.mem_append.2 (.inr hp), ha⟩
          rw [hKm x, hcov]
          constructor
          · rintro ⟨h1, h2, h3 | h3⟩
            · exact List.mem_of_mem_take ((PA.out.2.2.2.2 x h1 h2).1 h3)
            · exact List.mem_of_mem_drop ((PB.out.2.2.2.2 x h1 h2).1 h3)
          · intro hx
            have h := HW.out x hx
            refine ⟨h.1, h.2, ?_⟩
            rw [← List.take_append_drop k L] at hx
            exact (List.mem_append.1 hx).imp (fun h' => (PA.out.2.2.2.2 x h.1 h.2).2 h') (fun h' => (PB.out.2.2.2.2 x h.1 h.2).2 h')
        have KR := hidd hKr
        have K7 := hidd hKl
        have L7 := hidd (L6.out.keep b7)
        have LP7 := hidd (LP6.out.keep b7)
        have B7 := hidd (belowT B6.out b7)
        have NK := hidd hKn
        have CK := hidd (p_compact s7 K (by omega) (fun x hx => UL.out x ((KM.out x).1 hx)) w7 hKl)
        obtain ⟨p7, c7, rfl, -, -⟩ := hKl
        clear hs hKr hKm hKn b7 SP L6 LP6 B6
        go_wp2_with fail
        refine CK.out.mono ?_
        rintro e w8 ⟨hc, b8⟩
        obtain ⟨s8, Q, rfl, hQ, -, hQl, -, -⟩ := cmp_yes (r := n) (fun x hx => HW.out x ((KM.out x).1 hx)) (by have := NK.out; omega) hc
        obtain rfl : Q = P := hQ.one n12 PP.out KM.out
        have Q8 := hidd hQl
        have K8 := hidd (K7.out.keep b8)
        have L8 := hidd (L7.out.keep b8)
        have LP8 := hidd (LP7.out.keep b8)
        have B8 := hidd (belowT B7.out b8)
        have SE := hidd (lset _ L (by have := EC.out; have := HN.out; omega) UL.out w8 L8.out)
        rw [EC.out] at SE
        obtain ⟨p8, c8, rfl, -, -⟩ := hQl
        clear hc hQ b8 CK K7 L7 LP7 B7 L8
        go_wp2_with fail
        refine SE.out.mono ?_
        rintro e w9 ⟨⟨s9, K', rfl, k1, k2, k3, k4⟩, b9⟩
        obtain rfl : K' = K := rising_ext k1 KR.out fun x => by rw [k2 x, KM.out x]
        have SA := hidd (lsame _ s9 K' (by have := NK.out; omega) w9 (K8.out.keep b9) k4)
        have Q9 := hidd (Q8.out.keep b9)
        have LP9 := hidd (LP8.out.keep b9)
        have B9 := hidd (belowT B8.out b9)
        obtain ⟨p9, c9, rfl, -, -⟩ := k4
        clear k1 k2 k3 b9 SE K8 Q8 LP8 B8
        go_wp2_with fail
        refine SA.out.mono ?_
        rintro e w10 ⟨rfl, b10⟩
        have B10 := hidd (belowT B9.out b10)
        have SB := hidd (lsame _ _ Q (by have := NP.out; omega) w10 (Q9.out.keep b10) (LP9.out.keep b10))
        clear b10 SA Q9 LP9 B9
        go_wp2_with fail
        refine SB.out.mono ?_
        rintro e w11 ⟨rfl, b11⟩
        have B11 := hidd (belowT B10.out b11)
        have A9 := hidd (AW.out w11 (HT.out.below B11.out))
        clear b11 B10 SB
        go_wp2_with fail
        refine A9.out.mono ?_
        rintro e w12 ⟨rfl, b12⟩
        go_wp2_with fail
        go_ret
        exact ⟨rfl, belowT B11.out b12⟩
    · have LB : Hid (∀ w', Lst w' (.slice (some ⟨g, 0, none⟩) 0 0) L → Lst w' (.slice (some ⟨g, 0, none⟩) 0 0) (L.drop 0)) := hidd fun w' _ => by rw [DN.out rfl]; exact nilL _ _ _
      clear PT LP LD DN nilL
      go_wp2_with fail
      refine CA.out.mono ?_
      rintro e w2 ⟨hc, b2⟩
      obtain ⟨sa, A, rfl, hPA, hAn, -, hAA, hOA⟩ := cmp_yes (r := n) (fun x hx => HW.out x (List.mem_of_mem_take hx)) (by have := EC.out; have := HN.out; rw [List.length_take]; omega) hc
      have PA := hidd hPA
      have AA := hidd hAA
      have NA : Hid (A.length ≤ 300) := hidd (by rw [List.length_take] at hAn; have := EC.out; have := HN.out; omega)
      have LA := hidd (Lst.own hOA)
      obtain ⟨pa, ca, rfl, -⟩ := own_slice hOA
      have L2 := hidd (L1.out.keep b2)
      have B2 := hidd (belowT B1.out b2)
      have CB := hidd (p_compact _ (L.drop 0) (by have := EC.out; have := HN.out; rw [List.length_drop]; omega) (fun x hx => UL.out x (List.mem_of_mem_drop hx)) w2 (LB.out w2 L2.out))
      clear hc hPA hAn hAA hOA b2 CA B1 L1
      go_wp2_with fail
      refine CB.out.mono ?_
      rintro e w3 ⟨hc, b3⟩
      obtain ⟨sb, B, rfl, hPB, hBn, -, hBB, hOB⟩ := cmp_yes (r := n) (fun x hx => HW.out x (List.mem_of_mem_drop hx)) (by have := EC.out; have := HN.out; rw [List.length_drop]; omega) hc
      have PB := hidd hPB
      have BB := hidd hBB
      have NB : Hid (B.length ≤ 300) := hidd (by rw [List.length_drop] at hBn; have := EC.out; have := HN.out; omega)
      have LBB := hidd (Lst.own hOB)
      obtain ⟨pb, cb, rfl, -⟩ := own_slice hOB
      have L3 := hidd (L2.out.keep b3)
      have LA3 := hidd (LA.out.keep b3)
      have B3 := hidd (belowT B2.out b3)
      have CC := hidd (p_compact _ L (by have := EC.out; have := HN.out; omega) UL.out w3 L3.out)
      clear hc hPB hBn hBB hOB b3 CB B2 L2 LA LB
      go_wp2_with fail
      refine CC.out.mono ?_
      rintro e w4 ⟨hc, b4⟩
      obtain ⟨sp, P, rfl, hPP, hPn, hPl, -, -⟩ := cmp_yes (r := n) HW.out (by have := EC.out; have := HN.out; omega) hc
      have PP := hidd hPP
      have NP : Hid (P.length ≤ 300) := hidd (by have := EC.out; have := HN.out; omega)
      have LP4 := hidd hPl
      obtain ⟨pp, cp, rfl, -, -⟩ := hPl
      have L4 := hidd (L3.out.keep b4)
      have LA4 := hidd (LA3.out.keep b4)
      have LB4 := hidd (LBB.out.keep b4)
      have B4 := hidd (belowT B3.out b4)
      clear hc hPP hPn b4 CC B3 L3 LA3 LBB
      have al := allocB w4 (.cells #[] 30)
      have O0 := hidd (own_fresh w4)
      have la := hidd (LA4.out.keep al)
      go_wp2_with (at_builtin; refine wpList_append_lst (by rfl) (.tmp 56) (.tmp 57) rfl w4.heap.size _ 0 [] rfl O0.out _ A rfl la.out AA.out (by have := NA.out; omega) al.size ?_)
      intro va w5 ho5 hg5
      have d5 : Below w4.heap.size w4 w5 := al.grown hg5 al.size (own_block O0.out)
      have O5 := hidd ho5
      have lb := hidd (LB4.out.keep d5)
      have q5 := d5.size
      obtain ⟨pa5, ca5, rfl, -⟩ := own_slice ho5
      clear al O0 la ho5 hg5
      go_wp2_with (at_builtin; refine wpList_append_lst (by rfl) (.tmp 58) (.tmp 59) rfl w4.heap.size _ _ _ rfl O5.out _ B rfl lb.out BB.out (by have := NA.out; have := NB.out; omega) q5 ?_)
      intro vb w6 ho6 hg6
      have d6 : Below w4.heap.size w4 w6 := d5.grown hg6 q5 (own_block O5.out)
      have lab : Hid (Lst w6 vb (A ++ B)) := hidd (Lst.own (n := A.length + B.length) (by rw [show vals (A ++ B) = vals A ++ vals B by simp [vals]]; exact ho6))
      obtain ⟨pb6, cb6, rfl, -⟩ := own_slice ho6
      have L6 := hidd (L4.out.keep d6)
      have LP6 := hidd (LP4.out.keep d6)
      have B6 := hidd (belowT B4.out d6)
      have WAB : Hid (WithinR n (A ++ B)) := hidd fun x hx => (List.mem_append.1 hx).elim (PA.out.2.1 x) (PB.out.2.1 x)
      have UAB : Hid (∀ x ∈ A ++ B, U64 x) := hidd fun x hx => by have := whole_box (WAB.out x hx).1; exact ⟨by omega, by omega⟩
      have CAB : Hid (cntR n (A ++ B) ≤ 600) := hidd (by
        have h1 := packed_cntJ n12 PA.out
        have h2 := packed_cntJ n12 PB.out
        rw [List.length_take] at h1
        rw [List.length_drop] at h2
        rw [cntR_append]
        have := EC.out
        have := HN.out
        omega)
      have SP := hidd (p_spread _ (A ++ B) (n : Int) (by omega) (by have := NA.out; have := NB.out; rw [List.length_append]; omega) UAB.out w6 lab.out (HT.out.below B6.out))
      clear O5 lb d5 ho6 hg6 d6 q5 lab L4 LP4 LA4 LB4 B4
      go_wp2_with fail
      refine SP.out.mono ?_
      rintro e w7 ⟨hs, b7⟩
      obtain ⟨s7, K, rfl, hKr, hKm, hKn, hKl, -⟩ := spr_yes n12 WAB.out (by have := CAB.out; omega) hs
      have KM : Hid (∀ x, x ∈ K ↔ x ∈ L) := hidd fun x => by
        have hcov : Cov (A ++ B) x ↔ Cov A x ∨ Cov B x := by
          unfold Cov
          constructor
          · rintro ⟨p, hp, ha⟩
            exact (List.mem_append.1 hp).elim (fun h => .inl ⟨p, h, ha⟩) (fun h => .inr ⟨p, h, ha⟩)
          · rintro (⟨p, hp, ha⟩ | ⟨p, hp, ha⟩)
            · exact ⟨p, List.mem_append.2 (.inl hp), ha⟩
            · exact ⟨p, List.mem_append.2 (.inr hp), ha⟩
        rw [hKm x, hcov]
        constructor
        · rintro ⟨h1, h2, h3 | h3⟩
          · exact List.mem_of_mem_take ((PA.out.2.2.2.2 x h1 h2).1 h3)
          · exact List.mem_of_mem_drop ((PB.out.2.2.2.2 x h1 h2).1 h3)
        · intro hx
          have h := HW.out x hx
          refine ⟨h.1, h.2, ?_⟩
          rw [← List.take_append_drop 0 L] at hx
          exact (List.mem_append.1 hx).imp (fun h' => (PA.out.2.2.2.2 x h.1 h.2).2 h') (fun h' => (PB.out.2.2.2.2 x h.1 h.2).2 h')
      have KR := hidd hKr
      have K7 := hidd hKl
      have L7 := hidd (L6.out.keep b7)
      have LP7 := hidd (LP6.out.keep b7)
      have B7 := hidd (belowT B6.out b7)
      have NK := hidd hKn
      have CK := hidd (p_compact s7 K (by omega) (fun x hx => UL.out x ((KM.out x).1 hx)) w7 hKl)
      obtain ⟨p7, c7, rfl, -, -⟩ := hKl
      clear hs hKr hKm hKn b7 SP L6 LP6 B6
      go_wp2_with fail
      refine CK.out.mono ?_
      rintro e w8 ⟨hc, b8⟩
      obtain ⟨s8, Q, rfl, hQ, -, hQl, -, -⟩ := cmp_yes (r := n) (fun x hx => HW.out x ((KM.out x).1 hx)) (by have := NK.out; omega) hc
      obtain rfl : Q = P := hQ.one n12 PP.out KM.out
      have Q8 := hidd hQl
      have K8 := hidd (K7.out.keep b8)
      have L8 := hidd (L7.out.keep b8)
      have LP8 := hidd (LP7.out.keep b8)
      have B8 := hidd (belowT B7.out b8)
      have SE := hidd (lset _ L (by have := EC.out; have := HN.out; omega) UL.out w8 L8.out)
      rw [EC.out] at SE
      obtain ⟨p8, c8, rfl, -, -⟩ := hQl
      clear hc hQ b8 CK K7 L7 LP7 B7 L8
      go_wp2_with fail
      refine SE.out.mono ?_
      rintro e w9 ⟨⟨s9, K', rfl, k1, k2, k3, k4⟩, b9⟩
      obtain rfl : K' = K := rising_ext k1 KR.out fun x => by rw [k2 x, KM.out x]
      have SA := hidd (lsame _ s9 K' (by have := NK.out; omega) w9 (K8.out.keep b9) k4)
      have Q9 := hidd (Q8.out.keep b9)
      have LP9 := hidd (LP8.out.keep b9)
      have B9 := hidd (belowT B8.out b9)
      obtain ⟨p9, c9, rfl, -, -⟩ := k4
      clear k1 k2 k3 b9 SE K8 Q8 LP8 B8
      go_wp2_with fail
      refine SA.out.mono ?_
      rintro e w10 ⟨rfl, b10⟩
      have B10 := hidd (belowT B9.out b10)
      have SB := hidd (lsame _ _ Q (by have := NP.out; omega) w10 (Q9.out.keep b10) (LP9.out.keep b10))
      clear b10 SA Q9 LP9 B9
      go_wp2_with fail
      refine SB.out.mono ?_
      rintro e w11 ⟨rfl, b11⟩
      have B11 := hidd (belowT B10.out b11)
      have A9 := hidd (AW.out w11 (HT.out.below B11.out))
      clear b11 B10 SB
      go_wp2_with fail
      refine A9.out.mono ?_
      rintro e w12 ⟨rfl, b12⟩
      go_wp2_with fail
      go_ret
      exact ⟨rfl, belowT B11.out b12⟩

end Go.Proofs.YtlfjfendlohekaaGreatDoor
