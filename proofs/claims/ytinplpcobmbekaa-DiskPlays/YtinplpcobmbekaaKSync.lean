/-
  Package disk's Sync and Crash; in whatever memory where the disk lies.
-/
import Derived.Test.YtinplpcobmbekaaKEach
import Derived.Test.YtinplpcobmbekaaKKeep
import Derived.Test.YtinplpcobmbekaaKMath
import Derived.Test.YtinplpcobmbekaaKWrite
import Derived.Laws.CopyOwn
import Derived.Below
import Derived.Test.YtinplpcobmbekaaProg
import Derived.Handy
import Derived.Deep.QuietTactic
import Derived.WalkSpells
import Derived.WalkLawsBesides
import Derived.BigQuiet
import Derived.PlainAid
import Derived.Deep.RegionWith
import Derived.Laws.BitsAllLaws
import Derived.OwnWalk
import Derived.Laws.OwnMore
import Derived.Deep.RegionHeld3
import Derived.WalkSmall
import Derived.Deep.CutRange
import Derived.BigRegion
import Derived.OneCell
import Derived.Sort.Row
import Derived.ChangeSlices
import Derived.OpenShut
import Derived.Deep.AppendLies
import Derived.Laws.BytesArg
import Derived.Laws.CopyRow
import Derived.Laws.IdiomCopy
import Derived.Deep.OwnRows
import Derived.Deep.RegionLaw
namespace Go.Proofs.Ytinplpcobmbekaa
open Go.RowKit

section
variable {w w' : World} {P : Nat} {N M : List Int} {ws : List Wt} {m l : Int} {n : Nat} {F : Nat → Prop} {vn vl vw : Value}
theorem KV.cellsAt (h : KV w P N M ws m l n F vn vl vw) (i : Nat) (hi : i < ws.length) : ∃ g c, vw = .slice (some ⟨g, 0, none⟩) ws.length c ∧ w.cell? ⟨g, i * 2, none⟩ = some (.int .i64 (ws[i].at_ : Int)) ∧ w.cell? ⟨g, i * 2 + 1, none⟩ = some ws[i].v := by
  have hw := h.wait
  obtain ⟨g, c, rfl, -⟩ := own_someD hw (by omega)
  obtain ⟨a, b⟩ := queue_at hw i hi
  exact ⟨g, c, rfl, a, b⟩
theorem KV.ones (h : KV w P N M ws m l n F vn vl vw) (i : Nat) (hi : i < ws.length) : ∃ p k c, ws[i].v = .slice p k c := by
  obtain ⟨g, c, o⟩ := h.each _ (List.getElem_mem hi)
  exact ⟨_, _, _, o.eq⟩
theorem KV.lstAt (h : KV w P N M ws m l n F vn vl vw) (i : Nat) (hi : i < ws.length) : LstB w ws[i].v ws[i].bs ∧ (∀ y ∈ ws[i].bs, 0 ≤ y ∧ y < 256) ∧ ws[i].at_ + ws[i].bs.length ≤ n := by
  obtain ⟨g, c, o⟩ := h.each _ (List.getElem_mem hi)
  refine ⟨⟨_, c, o.eq, fun _ => ⟨g, 0, rfl, fun j hj => ?_⟩⟩, o.byt, o.room⟩
  have hr := o.row
  rw [o.eq] at hr
  rw [Nat.zero_add]
  exact bytes_at hr j hj
end

theorem puts_byt {M : List Int} {ps : List (Int × Int)} (h1 : ∀ x ∈ M, 0 ≤ x ∧ x < 256) (h2 : ∀ p ∈ ps, 0 ≤ p.2 ∧ p.2 < 256) : ∀ x ∈ puts M ps, 0 ≤ x ∧ x < 256 := fun x hx => (puts_mem ps M x hx).elim (h1 x) fun ⟨p, hp, e⟩ => e ▸ h2 p hp

/-- All that waits is made to last. -/
theorem k_all_last {w : World} {P : Nat} {N M : List Int} {ws : List Wt} {m l : Int} {n : Nat} {F : Nat → Prop} {vn vl vw : Value} (h : KV w P N M ws m l n F vn vl vw) (hlen : ws.length ≤ 4000000000) :
    Calls Try.prog 28 #[.pointer (some ⟨P, 2, none⟩), .func (.func 29) #[.pointer (some ⟨P, 0, none⟩)] #[]] w fun e w' => e = .returned (.tuple #[]) ∧ KV w' P N (puts M (flatW ws)) ws m l n F vn vl vw ∧ Frm F w w' := by
  obtain ⟨p, c, ev⟩ := row_any h.wait
  refine (k_each_last (fun i wr => KV wr P N (puts M (flatW (ws.take i))) ws m l n F vn vl vw ∧ Frm F w wr) (L := ws) h.blk.cells.2.2.1 ⟨p, c, ev⟩ (fun i a b hR hb => ⟨hR.1.below hb, hR.2.trans (Frm.of_below (F := F) hb) fun z hz => .inl hz⟩)
    (fun i hi wr hR => hR.1.cellsAt i hi) (fun i hi wr hR => ?_) (fun i hi => h.ones i hi) ⟨by simpa [flatW, puts] using h, Frm.refl _ _⟩ hlen).mono ?_
  · obtain ⟨a, b, c⟩ := hR.1.lstAt i hi
    refine (k_last hR.1 b a c).mono ?_
    rintro e w2 ⟨rfl, k, f⟩
    rw [last_next hi (by rw [h.llen]; exact h.room)] at k
    exact ⟨rfl, k, hR.2.trans f fun z hz => .inl hz⟩
  · rintro e w2 ⟨rfl, k, f⟩
    rw [List.take_length] at k
    exact ⟨rfl, k, f⟩

/-- The first so many bytes are made to last. -/
theorem k_all_keep {w : World} {K P T : Nat} {N M : List Int} {ws : List Wt} {m l : Int} {n : Nat} {F : Nat → Prop} {vn vl vw : Value} (h : KV w P N M ws m l n F vn vl vw) (hK : KP w K P T) (hKF : ¬ F K) (hT : T ≤ 9223372036854775807) (hlen : ws.length ≤ 4000000000) :
    Calls Try.prog 28 #[.pointer (some ⟨P, 2, none⟩), .func (.func 30) #[.pointer (some ⟨K, 0, none⟩)] #[]] w fun e w' => e = .returned (.tuple #[]) ∧ KV w' P N (puts M ((flatW ws).take T)) ws m l n F vn vl vw ∧ Frm (fun z => F z ∨ z = K) w w' := by
  obtain ⟨p, c, ev⟩ := row_any h.wait
  refine (k_each_keep (fun i wr => KV wr P N (puts M ((flatW (ws.take i)).take T)) ws m l n F vn vl vw ∧ KP wr K P (T - (flatW (ws.take i)).length) ∧ Frm (fun z => F z ∨ z = K) w wr) (L := ws) h.blk.cells.2.2.1 ⟨p, c, ev⟩ (fun i a b hR hb => ⟨hR.1.below hb, hR.2.1.below hb, hR.2.2.trans (Frm.of_below (F := F) hb) fun z hz => .inl (.inl hz)⟩)
    (fun i hi wr hR => hR.1.cellsAt i hi) (fun i hi wr hR => ?_) (fun i hi => h.ones i hi) ⟨by simpa [flatW, puts] using h, by simpa [flatW] using hK, Frm.refl _ _⟩ hlen).mono ?_
  · obtain ⟨g, c, o⟩ := hR.1.each _ (List.getElem_mem hi)
    have hr := o.row
    rw [o.eq] at hr ⊢
    refine (k_keep hR.1 hR.2.1 hKF (by omega) o.byt hr o.pos o.room).mono ?_
    rintro e w2 ⟨rfl, k, kp, f⟩
    rw [keep_next hi (by rw [h.llen]; exact h.room)] at k
    refine ⟨rfl, k, ?_, hR.2.2.trans f fun z hz => .inl hz⟩
    rw [show T - (flatW (ws.take (i + 1))).length = T - (flatW (ws.take i)).length - ws[i].bs.length by rw [flatW_next hi, List.length_append, zipAt_len]; omega]
    exact kp
  · rintro e w2 ⟨rfl, k, -, f⟩
    rw [List.take_length] at k
    exact ⟨rfl, k, f⟩

/-- What waited is undone. -/
theorem k_all_undo {w : World} {P : Nat} {N M : List Int} {ws : List Wt} {m l : Int} {n : Nat} {F : Nat → Prop} {vn vl vw : Value} (h : KV w P N M ws m l n F vn vl vw) (hlen : ws.length ≤ 4000000000) :
    Calls Try.prog 28 #[.pointer (some ⟨P, 2, none⟩), .func (.func 31) #[.pointer (some ⟨P, 0, none⟩)] #[]] w fun e w' => e = .returned (.tuple #[]) ∧ KV w' P (undoL M N ws) M ws m l n F vn vl vw ∧ Frm F w w' := by
  obtain ⟨p, c, ev⟩ := row_any h.wait
  refine (k_each_undo (fun i wr => KV wr P (undoL M N (ws.take i)) M ws m l n F vn vl vw ∧ Frm F w wr) (L := ws) h.blk.cells.2.2.1 ⟨p, c, ev⟩ (fun i a b hR hb => ⟨hR.1.below hb, hR.2.trans (Frm.of_below (F := F) hb) fun z hz => .inl hz⟩)
    (fun i hi wr hR => hR.1.cellsAt i hi) (fun i hi wr hR => ?_) (fun i hi => h.ones i hi) ⟨h, Frm.refl _ _⟩ hlen).mono ?_
  · obtain ⟨g, c, o⟩ := hR.1.each _ (List.getElem_mem hi)
    rw [o.eq]
    refine (k_undo hR.1 o.pos o.room).mono ?_
    rintro e w2 ⟨rfl, k, f⟩
    rw [← undo_next hi] at k
    exact ⟨rfl, k, hR.2.trans f fun z hz => .inl hz⟩
  · rintro e w2 ⟨rfl, k, f⟩
    rw [List.take_length] at k
    exact ⟨rfl, k, f⟩

set_option maxHeartbeats 4000000 in
theorem c_sync {w : World} {P : Nat} {s : DS} {n : Nat} {F : Nat → Prop} (h : CD w P s n F) : Calls Try.prog 12 #[.pointer (some ⟨P, 0, none⟩)] w fun e w' => TellsCD P (syS s) n F (.int .i64 (syK s)) w e w' := by
  have HCD := hidd h
  obtain ⟨vn, vl, vw, ws, l, k, hfl, heq, hlr, hok, hfew⟩ := h
  have DD := hidd (k_dead k hlr.1)
  have hws : ws.length ≤ 4000000000 := by have := k.few; rw [← hfl] at this; omega
  cases hd : s.dead
  · have EA := hidd (k_all_last k hws)
    rw [hd] at DD
    rw [← hfl, ← heq] at EA
    have e1 : syS s = s.sy := by unfold syS; rw [hd]; rfl
    have e2 : syK s = 0 := by unfold syK; rw [hd]; rfl
    rw [e1, e2]
    have CNT := hidd fun (w2 : World) (vw' : Value) (kv : KV w2 P s.now s.now [] 0 l n F vn vl vw') => k_count kv hlr.2.2.1 hlr.2.2.2
    have FIN : Hid (∀ (w2 : World) (vw' : Value), KV w2 P s.now s.now [] 0 (cntL l) n F vn vl vw' → CD w2 P s.sy n F) := hidd fun w2 vw' kv => by
      obtain ⟨t1, t2, t3⟩ := cnt_same ⟨s.now, s.now, [], s.left, s.dead⟩
      refine ⟨vn, vl, vw', [], cntL l, ?_, t3, ?_, ?_, hok.sy, ?_⟩
      · show KV w2 P (DS.cnt _).now (DS.cnt _).last _ ((DS.cnt _).waits.length : Int) _ _ _ _ _ _
        rw [t1, t2, t3]
        exact kv
      · show (DS.cnt _).now = puts (DS.cnt _).last (DS.cnt _).waits
        rw [t1, t2, t3]
        rfl
      · exact leftR_cnt (s := ⟨s.now, s.now, [], s.left, s.dead⟩) hlr hd
      · show (DS.cnt _).waits.length ≤ _
        rw [t3]
        simp
    clear k hfl heq hlr hok hfew e1 e2
    go_enter Try.func12, Try.ntmps12
    go_wp2_with fail
    refine DD.out.mono ?_
    rintro e w' ⟨rfl, rfl⟩
    go_wp2_with fail
    refine EA.out.mono ?_
    rintro e w2 ⟨rfl, k2, f2⟩
    obtain ⟨-, -, c2, c3, -⟩ := k2.blk.cells
    have q2 := k2.blk.frozen 2
    have q3 := k2.blk.frozen 3
    have K3 := hidd (k2.empty ((k2.blk.set2 (.slice none 0 0)).set3 0) (fun z hz => (set_far _ _ _ _ z hz).trans (set_far _ _ _ _ z hz)) (Nat.le_trans (set_size _ _ _) (set_size _ _ _)))
    have F3 := hidd ((f2.trans (Frm.set (F := F) (p := ⟨P, 2, none⟩) k2.fp (.slice none 0 0)) fun z hz => .inl hz).trans (Frm.set (F := F) (p := ⟨P, 3, none⟩) k2.fp (.int .i64 0)) fun z hz => .inl hz)
    clear k2 f2 EA DD
    go_wp2_with fail
    refine (CNT.out _ _ K3.out).mono ?_
    rintro e w4 ⟨rfl, k4, f4⟩
    have K4 := hidd (FIN.out _ _ k4)
    have F4 := hidd (F3.out.trans f4 fun z hz => .inl hz)
    clear k4 f4 K3 F3 CNT FIN
    go_wp2
    go_ret
    exact ⟨rfl, F, K4.out, F4.out, fun z hz => .inl hz⟩
  · rw [hd] at DD
    have e1 : syS s = s := by unfold syS; rw [hd]; rfl
    have e2 : syK s = 9 := by unfold syK; rw [hd]; rfl
    rw [e1, e2]
    clear k hfl heq hlr hok hfew e1 e2
    go_enter Try.func12, Try.ntmps12
    go_wp2_with fail
    refine DD.out.mono ?_
    rintro e w' ⟨rfl, rfl⟩
    go_wp2
    go_ret
    exact ⟨rfl, F, HCD.out, Frm.refl _ _, fun z hz => .inl hz⟩

end Go.Proofs.Ytinplpcobmbekaa
