/-
  Package disk's Write; in whatever memory where the disk lies.
-/
import Derived.Test.YtinplpcobmbekaaKAdd
import Derived.Test.YtinplpcobmbekaaKMeth
import Derived.Test.YtinplpcobmbekaaKRead
import Derived.Laws.CopyOwn
import Derived.Below
import Derived.Test.YtinplpcobmbekaaProg
import Derived.Handy
import Derived.Deep.QuietTactic
import Derived.WalkSpells
import Derived.WalkLawsBesides
import Derived.BigQuiet
import Derived.PlainAid
import Derived.Deep.RegionWith
import Derived.Laws.BitsAllLaws
import Derived.OwnWalk
import Derived.Laws.OwnMore
import Derived.Deep.RegionHeld3
import Derived.WalkSmall
import Derived.Deep.CutRange
import Derived.BigRegion
import Derived.OneCell
import Derived.Sort.Row
import Derived.ChangeSlices
import Derived.OpenShut
import Derived.Deep.AppendLies
import Derived.Laws.BytesArg
import Derived.Laws.CopyRow
import Derived.Laws.IdiomCopy
import Derived.Deep.OwnRows
import Derived.Deep.RegionLaw
namespace Go.Proofs.Ytinplpcobmbekaa
open Go.RowKit

theorem LstB.frm {w w' : World} {F : Nat → Prop} {v : Value} {bs : List Int} (h : LstB w v bs) (hf : Frm F w w') (hF : 0 < bs.length → ∀ z, v.ownBlock = some z → ¬ F z) : LstB w' v bs := by
  obtain ⟨p, c, e, hc⟩ := h
  refine ⟨p, c, e, fun h0 => ?_⟩
  obtain ⟨g, o, e2, hx⟩ := hc h0
  refine ⟨g, o, e2, fun j hj => (World.cell?_of_block (hf.block g (World.block_lt_of_cell? _ _ (hx j hj)) (hF h0 g ?_))).trans (hx j hj)⟩
  rw [e, e2]
  rfl

theorem cnt_same (s : DS) : s.cnt.now = s.now ∧ s.cnt.last = s.last ∧ s.cnt.waits = s.waits := by
  unfold DS.cnt
  split <;> exact ⟨rfl, rfl, rfl⟩

theorem cellF {w w' : World} {F : Nat → Prop} {p : Addr} {v : Value} (hf : Frm F w w') (h : w.cell? p = some v) (hF : ¬ F p.block) : w'.cell? p = some v := (World.cell?_of_block (hf.block _ (World.block_lt_of_cell? _ _ h) hF)).trans h

set_option maxRecDepth 100000 in
set_option maxHeartbeats 4000000 in
theorem c_write {w : World} {P : Nat} {s : DS} {n : Nat} {F : Nat → Prop} (h : CD w P s n F) (a : Int) (a1 : -9223372036854775808 ≤ a) (a2 : a ≤ 9223372036854775807) (v : Value) (bs : List Int) (hb : ∀ x ∈ bs, 0 ≤ x ∧ x < 256) (hv : LstB w v bs) (hF : 0 < bs.length → ∀ z, v.ownBlock = some z → ¬ F z) (hl : bs.length ≤ 1000000000) (hw : s.waits.length ≤ 1000000000) :
    Calls Try.prog 10 #[.pointer (some ⟨P, 0, none⟩), .int .i64 a, v] w fun e w' => TellsCD P (wrS s n a bs) n F (.int .i64 (rdK s n a bs.length)) w e w' := by
  have h0 := h
  obtain ⟨vn, vl, vw, ws, l, k, hfl, heq, hlr, hok, hfew⟩ := h
  have RF := hidd (k_refuses (s := s) k hlr.1 a bs.length a1 a2 (by omega) (by omega))
  have HCD := hidd h0
  obtain ⟨p, c, rfl, hc⟩ := hv
  rcases rd_cases s n a bs.length with ⟨e1, -⟩ | ⟨e1, -⟩ | ⟨e1, ho, hd, -⟩
  · have e2 : wrS s n a bs = s := by unfold wrS; rw [e1]; rfl
    rw [e1] at RF ⊢
    rw [e2]
    clear e1 e2 hc hF k hlr hok h0 heq hfl hb
    obtain ⟨L, eL⟩ : ∃ L, bs.length = L := ⟨_, rfl⟩
    rw [eL] at RF ⊢
    clear eL
    go_enter Try.func10, Try.ntmps10
    go_wp2_with fail
    refine RF.out.mono ?_
    rintro e w' ⟨rfl, rfl⟩
    go_wp2
    go_ret
    exact ⟨rfl, F, HCD.out, Frm.refl _ _, fun z hz => .inl hz⟩
  · have e2 : wrS s n a bs = s := by unfold wrS; rw [e1]; rfl
    rw [e1] at RF ⊢
    rw [e2]
    clear e1 e2 hc hF k hlr hok h0 heq hfl hb
    obtain ⟨L, eL⟩ : ∃ L, bs.length = L := ⟨_, rfl⟩
    rw [eL] at RF ⊢
    clear eL
    go_enter Try.func10, Try.ntmps10
    go_wp2_with fail
    refine RF.out.mono ?_
    rintro e w' ⟨rfl, rfl⟩
    go_wp2
    go_ret
    exact ⟨rfl, F, HCD.out, Frm.refl _ _, fun z hz => .inl hz⟩
  · obtain ⟨i, j, rfl, ej, hij⟩ := out_no ho
    obtain rfl : j = bs.length := by omega
    clear ej ho a1 a2 h0 HCD
    have e2 : wrS s n (i : Int) bs = s.wr i bs := by unfold wrS; rw [e1]; rfl
    rw [e1] at RF ⊢
    rw [e2]
    obtain ⟨L, eL⟩ : ∃ L, bs.length = L := ⟨_, rfl⟩
    have EL := hidd eL
    have lb0 : LstB w (.slice p L c) bs := ⟨p, c, by rw [eL], hc⟩
    rw [eL] at RF ⊢
    have al := allocB w (.cells #[.int .i64 (i : Int), .slice p L c] 62)
    have k1 := k.below al.drew
    have lb1 := LstB.keep lb0 al.drew
    have IN := hidd (k_into k1.now lb1 hij k.size)
    have HB := hidd (splice_byt (a := i) k.nb hb)
    have c0 := k1.blk.cells.1
    have y0 : (w.alloc (.cells #[.int .i64 (i : Int), .slice p L c] 62)).drew.cell? ⟨w.heap.size, 0, none⟩ = some (.int .i64 (i : Int)) := by go_simp
    have y1 : (w.alloc (.cells #[.int .i64 (i : Int), .slice p L c] 62)).drew.cell? ⟨w.heap.size, 1, none⟩ = some (.slice p L c) := by go_simp
    have Y := hidd (And.intro y0 y1)
    obtain ⟨pn, cn, rfl⟩ := row_any k.now
    have hF0 : ¬ F w.heap.size := fun e => by have := k.lt _ e; omega
    have K1 := hidd k1
    have LB1 := hidd lb1
    have AL := hidd al
    have HFF : Hid (0 < bs.length → ∀ z, (Value.slice p L c).ownBlock = some z → ¬ F z) := hidd (by rw [← eL]; exact hF)
    have HBS := hidd hb
    have ADD := hidd fun (w2 : World) (N' : List Int) (vn' vl' vw' : Value) (kv : KV w2 P N' s.last ws (s.waits.length : Int) l n F vn' vl' vw') (lb : LstB w2 (.slice p L c) bs) => k_add kv hb lb hij hl (by omega) (by omega) (by have := k.few; rw [← hfl] at this; omega)
    have CNT := hidd fun (w2 : World) (N' : List Int) (ws' : List Wt) (m' : Int) (F' : Nat → Prop) (vn' vl' vw' : Value) (kv : KV w2 P N' s.last ws' m' l n F' vn' vl' vw') => k_count kv hlr.2.2.1 hlr.2.2.2
    have FIN : Hid (∀ (w2 : World) (F' : Nat → Prop) (vw' : Value) (ws' : List Wt), KV w2 P (splice s.now i bs) s.last ws' ((s.waits.length : Int) + (bs.length : Int)) (cntL l) n F' (.slice pn n cn) vl vw' → flatW ws' = flatW ws ++ zipAt i bs → CD w2 P (s.wr i bs) n F') := hidd fun w2 F' vw' ws' kv hfl' => by
      obtain ⟨t1, t2, t3⟩ := cnt_same ⟨splice s.now i bs, s.last, s.waits ++ zipAt i bs, s.left, s.dead⟩
      have hwl : ((s.wr i bs).waits.length : Int) = (s.waits.length : Int) + (bs.length : Int) := by
        show ((DS.cnt _).waits.length : Int) = _
        rw [t3]
        simp only [List.length_append, zipAt_len]
        omega
      refine ⟨.slice pn n cn, vl, vw', ws', cntL l, ?_, ?_, ?_, ?_, hok.wr hij hb, ?_⟩
      · rw [hwl]
        show KV w2 P (DS.cnt _).now (DS.cnt _).last _ _ _ _ _ _ _ _
        rw [t1, t2]
        exact kv
      · show (DS.cnt _).waits = _
        rw [t3, hfl', hfl]
      · show (DS.cnt _).now = puts (DS.cnt _).last (DS.cnt _).waits
        rw [t1, t2, t3]
        show splice s.now i bs = puts s.last (s.waits ++ zipAt i bs)
        rw [puts_app, ← heq, puts_zip _ _ _ (by rw [hok.now]; exact hij)]
      · exact leftR_cnt (s := ⟨splice s.now i bs, s.last, s.waits ++ zipAt i bs, s.left, s.dead⟩) hlr hd
      · omega
    clear k k1 lb1 lb0 al hc hF hlr hok heq hfl e1 e2 hb eL
    go_enter Try.func10, Try.ntmps10
    go_wp2_with fail
    refine RF.out.mono ?_
    rintro e w' ⟨rfl, rfl⟩
    go_wp2_with fail
    go_cut [] from 20 to 25 (fun wx => Hid (KV wx P (splice s.now i bs) s.last ws (s.waits.length : Int) l n F (.slice pn n cn) vl vw ∧ LstB wx (.slice p L c) bs ∧ Frm F w' wx) ∧ wx.cell? ⟨w'.heap.size, 0, none⟩ = some (.int .i64 (i : Int)) ∧ wx.cell? ⟨w'.heap.size, 1, none⟩ = some (.slice p L c))
    case first =>
      go_region_with (go_at_call 25; refine IN.out.mono ?_; rintro e w2 ⟨rfl, hr, hg⟩)
      all_goals
        go_wp2_with fail
        go_meet
        have KN := K1.out.nows hr hg HB.out
        have F2 := (Frm.of_below (F := F) AL.out.drew).trans KN.2 fun z hz => .inl hz
        exact ⟨hidd ⟨KN.1, LstB.frm LB1.out KN.2 HFF.out, F2⟩, cellF KN.2 Y.out.1 hF0, cellF KN.2 Y.out.2 hF0⟩
    case rest =>
      obtain ⟨HX, z0, z1⟩ := hcut
      have AD := hidd (ADD.out _ _ _ _ _ (HX.out.1.drew) (LstB.keep HX.out.2.1 (drewB _)))
      have FX := hidd HX.out.2.2
      clear IN K1 LB1 AL HB y0 y1 c0 Y HX
      go_wp2_with fail
      go_region_with (go_at_call 26; refine AD.out.mono ?_; rintro e w2 ⟨rfl, F', vw', ws', kv, hfl', fr, hk⟩)
      all_goals
        rw [EL.out] at kv
        have CN := hidd (CNT.out _ _ _ _ _ _ _ _ kv)
        have F3 := hidd (FX.out.trans fr.drew fun z hz => .inl hz)
        have HK : Hid (∀ z, F' z → F z ∨ w'.heap.size ≤ z) := hidd fun z hz => (hk z hz).imp id fun h => Nat.le_trans FX.out.size h
        have HF := hidd hfl'
        clear AD kv fr hk ADD CNT FX hfl'
        go_wp2_with fail
        refine CN.out.mono ?_
        rintro e w3 ⟨rfl, kv, fr⟩
        have KV3 := hidd kv
        have F4 := hidd (F3.out.trans fr HK.out)
        clear CN kv fr F3
        go_wp2
        go_ret
        exact ⟨rfl, F', FIN.out _ _ _ _ (by rw [EL.out]; exact KV3.out) HF.out, F4.out, HK.out⟩

end Go.Proofs.Ytinplpcobmbekaa
