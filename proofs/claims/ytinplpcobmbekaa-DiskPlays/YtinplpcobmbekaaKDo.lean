/-
  One call of a script on both disks: they answer alike, and both are as the document says; in whatever memory where both lie.
-/
import Derived.Test.YtinplpcobmbekaaRHand
import Derived.Test.YtinplpcobmbekaaLPair
import Derived.Laws.CopyOwn
import Derived.Below
import Derived.Test.YtinplpcobmbekaaProg
import Derived.Handy
import Derived.Deep.QuietTactic
import Derived.WalkSpells
import Derived.WalkLawsBesides
import Derived.BigQuiet
import Derived.PlainAid
import Derived.Deep.RegionWith
import Derived.Laws.BitsAllLaws
import Derived.OwnWalk
import Derived.Laws.OwnMore
import Derived.Deep.RegionHeld3
import Derived.WalkSmall
import Derived.Deep.CutRange
import Derived.BigRegion
import Derived.OneCell
import Derived.Sort.Row
import Derived.ChangeSlices
import Derived.OpenShut
import Derived.Deep.AppendLies
import Derived.Laws.BytesArg
import Derived.Laws.CopyRow
import Derived.Laws.IdiomCopy
import Derived.Deep.OwnRows
import Derived.Deep.RegionLaw
import Derived.ChangeArms
namespace Go.Proofs.Ytinplpcobmbekaa
open Go.RowKit

set_option maxRecDepth 100000 in
set_option maxHeartbeats 8000000 in
theorem do_write {B : Nat} {W w : World} {P : Nat} {s : DS} {n : Nat} {F : Nat → Prop} {Q : Nat} {G : Nat → Prop} (h : LR B W w P s n F Q s G) (o : OpD) (ho : I64 o.kind ∧ I64 o.at_ ∧ I64 o.n ∧ I64 o.keep) (hfew : s.waits.length ≤ 100000) (hk : o.kind = 0) :
    Calls Try.prog 21 #[.pointer (some ⟨P, 0, none⟩), .pointer (some ⟨Q, 0, none⟩), .agg #[.int .i64 o.kind, .int .i64 o.at_, .int .i64 o.n, .int .i64 o.keep]] w fun e w' => e = .returned (.bool true) ∧ ∃ F' G', LR B W w' P (stepD n s o) n F' Q (stepD n s o) G' := by
  have TX := hidd fun (n : Int) (T : Nat) (hT : T ≤ 64) w => a_text n T hT w
  have es := stepD_0 (n := n) (s := s) (o := o) (hidd hk)
  obtain ⟨s', es'⟩ : ∃ s', stepD n s o = s' := ⟨_, rfl⟩
  rw [es'] at es ⊢
  obtain ⟨T, hT⟩ : ∃ T : Nat, (o.n / 256 % 64).toNat = T := ⟨_, rfl⟩
  obtain ⟨ok, oa, on, oq⟩ := o
  simp only at hk ho es hT ⊢
  subst hk
  have HB := hidd ho
  have eT : bits .and .i64 (on / 256) 63 = (T : Int) := by
    have h := i64_mask (on / 256) 6 (by omega)
    rw [show (((2 ^ 6 - 1 : Nat)) : Int) = 63 by decide, show (((2 ^ 6 : Nat)) : Int) = 64 by decide] at h
    rw [h]
    omega
  have hT64 : T ≤ 63 := by omega
  obtain ⟨bs, ebs⟩ : ∃ bs, opBs ⟨0, oa, on, oq⟩ = bs := ⟨_, rfl⟩
  have hbl : bs.length = T := by rw [← ebs, (opBs_len _).2]; exact hT
  have HBL := hidd hbl
  have TI := hidd fun w => TX.out on T (by omega) w
  have HOB : Hid (textL on T = bs) := hidd (by rw [← ebs]; unfold opBs; simp only; rw [hT])
  have HBB : Hid (∀ x ∈ bs, 0 ≤ x ∧ x < 256) := hidd (by rw [← ebs]; exact textL_mem _ _)
  rw [HOB.out] at TI
  obtain ⟨t, et⟩ : ∃ t, strOfNums bs = t := ⟨_, rfl⟩
  rw [et] at TI
  have ET := hidd et
  rw [ebs] at es
  obtain ⟨b, eb⟩ : ∃ b, w.heap.size = b := ⟨_, rfl⟩
  have hFb : ¬ F b := fun e => by have := h.d.cd.lt _ e; omega
  have hGb : ¬ G b := fun e => by have := Dsk.lt h.r _ e; omega
  have D0 : LRO B W (w.alloc (.cells #[.int .i64 0, .int .i64 oa, .int .i64 on, .int .i64 oq] 26)) P s n F Q s G b ⟨0, oa, on, oq⟩ := by
    subst eb
    exact ⟨h.quiet (allocB _ _), ⟨by go_simp, by go_simp, by go_simp, by go_simp⟩, hFb, hGb⟩
  obtain ⟨kk, ekk⟩ : ∃ kk, rdK s n oa bs.length = kk := ⟨_, rfl⟩
  have WD : Hid (∀ (w3 : World) (t2 : DS) (G2 : Nat → Prop), Hid (LRO B W w3 P s n F Q t2 G2 b ⟨0, oa, on, oq⟩) → ∀ v, LstB w3 v bs → (∀ z, v.ownBlock = some z → ¬ F z) → Calls Try.prog 10 #[.pointer (some ⟨P, 0, none⟩), .int .i64 oa, v] w3 fun e w' => e = .returned (.int .i64 kk) ∧ ∃ F2, Hid (LRO B W w' P s' n F2 Q t2 G2 b ⟨0, oa, on, oq⟩) ∧ Frm F w3 w') := hidd fun w3 t2 G2 hh v lb nb => by
    refine (c_write hh.out.lr.d.cd oa HB.out.2.1.1 HB.out.2.1.2 v bs HBB.out lb (fun _ => nb) (by omega) (by omega)).mono ?_
    rintro e w' ⟨rfl, F2, d, f, k⟩
    rw [← es] at d
    exact ⟨by rw [ekk], F2, hidd (hh.out.fst d f k), f⟩
  have WW : Hid (∀ (w3 : World) (s2 : DS) (F2 : Nat → Prop), Hid (LRO B W w3 P s2 n F2 Q s G b ⟨0, oa, on, oq⟩) → Calls Try.prog 33 #[.pointer (some ⟨Q, 0, none⟩), .int .i64 oa, .string t] w3 fun e w' => e = .returned (.int .i64 kk) ∧ ∃ G2, Hid (LRO B W w' P s2 n F2 Q s' G2 b ⟨0, oa, on, oq⟩) ∧ Frm G w3 w') := hidd fun w3 s2 F2 hh => by
    rw [← et]
    refine (d_write hh.out.lr.r oa HB.out.2.1.1 HB.out.2.1.2 bs HBB.out (by omega) (by omega)).mono ?_
    rintro e w' ⟨rfl, G2, d, f, k⟩
    rw [← es] at d
    exact ⟨by rw [ekk], G2, hidd (hh.out.snd d f k), f⟩
  have NB : Hid (∀ (w3 : World), Hid (LRO B W w3 P s n F Q s G b ⟨0, oa, on, oq⟩) → ∀ cb z, (Value.slice (some ⟨w3.heap.size, 0, none⟩) T cb).ownBlock = some z → ¬ F z ∧ ¬ G z) := hidd fun w3 hh cb z e => by
    have e : w3.heap.size = z := by simpa [Value.ownBlock] using e
    exact ⟨fun hz => by have := hh.out.lr.d.cd.lt z hz; omega, fun hz => by have := Dsk.lt hh.out.lr.r z hz; omega⟩
  have y0 : (w.alloc (.cells #[.int .i64 0, .int .i64 oa, .int .i64 on, .int .i64 oq] 26)).cell? ⟨b, 2, none⟩ = some (.int .i64 on) := D0.op.c2
  have D0 := hidd D0
  clear es es' hT ho hbl et ebs TX HOB h ekk
  go_enter Try.func21, Try.ntmps21
  go_wp2_with fail
  refine (TI.out _).mono ?_
  rintro e w2 ⟨rfl, b2⟩
  have D2 := hidd ((D0.out.quiet b2).quiet (drewB w2))
  have h0 : w2.drew.cell? ⟨b, 1, none⟩ = some (.int .i64 oa) := D2.out.op.c1
  clear D0 b2 y0 TI eT eb
  go_wp2_with fail
  go_cut [6] from 57 to 68 (fun v6 wx => v6 = .bool true ∧ ∃ F' G', Hid (LRO B W wx P s' n F' Q s' G' b ⟨0, oa, on, oq⟩))
  case first =>
    refine wp_region_held_drew (S := (fun w' => w'.cell? ⟨b, 1, none⟩ = some (.int .i64 oa))) (by kernel_rfl) ?vS0 (fun hHeld => ?_)
    case vS0 => (try dsimp only); exact h0
    refine take_atD (v := ?va0) 0 rfl (by kernel_rfl) (by kernel_rfl) (by kernel_rfl) (fun _ _ _ h => h) (Or.inl ⟨by rfl, ?vy0⟩) (by assumption) ?vr0
    case vy0 => (intro w' hSw; (try dsimp only at hSw); go_simp; try with_reducible rfl)
    (try simp only [Act.put, List.setIfInBounds_toArray, List.set_cons_zero, List.set_cons_succ])
    refine take_atD (v := ?va1) 1 rfl (by kernel_rfl) (by kernel_rfl) (by kernel_rfl) (fun _ _ _ h => h) (Or.inl ⟨by rfl, ?vy1⟩) (by assumption) ?vr1
    case vy1 => (intro w' hSw; (try dsimp only at hSw); go_simp; try with_reducible rfl)
    (try simp only [Act.put, List.setIfInBounds_toArray, List.set_cons_zero, List.set_cons_succ])
    refine take_atD (v := ?va2) 2 rfl (by kernel_rfl) (by kernel_rfl) (by kernel_rfl) (fun _ _ _ h => h) (Or.inl ⟨by rfl, ?vy2⟩) (by assumption) ?vr2
    case vy2 => (intro w' hSw; (try dsimp only at hSw); go_simp; try with_reducible rfl)
    (try simp only [Act.put, List.setIfInBounds_toArray, List.set_cons_zero, List.set_cons_succ])
    refine take_atD (v := ?va3) 3 rfl (by kernel_rfl) (by kernel_rfl) (by kernel_rfl) (fun _ _ _ h => h) (Or.inl ⟨by rfl, ?vy3⟩) (by assumption) ?vr3
    case vy3 => (intro w' hSw; (try dsimp only at hSw); go_simp; try with_reducible rfl)
    (try simp only [Act.put, List.setIfInBounds_toArray, List.set_cons_zero, List.set_cons_succ])
    refine take_atD (v := ?va6) 6 rfl (by kernel_rfl) (by kernel_rfl) (by kernel_rfl) (fun _ _ _ h => h) (Or.inl ⟨by rfl, ?vy6⟩) (by assumption) ?vr6
    case vy6 => (intro w' hSw; (try dsimp only at hSw); go_simp; try with_reducible rfl)
    (try simp only [Act.put, List.setIfInBounds_toArray, List.set_cons_zero, List.set_cons_succ])
    refine take_atD (v := ?va7) 7 rfl (by kernel_rfl) (by kernel_rfl) (by kernel_rfl) (fun _ _ _ h => h) (Or.inl ⟨by rfl, ?vy7⟩) (by assumption) ?vr7
    case vy7 => (intro w' hSw; (try dsimp only at hSw); go_simp; try with_reducible rfl)
    (try simp only [Act.put, List.setIfInBounds_toArray, List.set_cons_zero, List.set_cons_succ])
    refine take_atD (v := ?va8) 8 rfl (by kernel_rfl) (by kernel_rfl) (by kernel_rfl) (fun _ _ _ h => h) (Or.inl ⟨by rfl, ?vy8⟩) (by assumption) ?vr8
    case vy8 => (intro w' hSw; (try dsimp only at hSw); go_simp; try with_reducible rfl)
    (try simp only [Act.put, List.setIfInBounds_toArray, List.set_cons_zero, List.set_cons_succ])
    refine take_atD (v := ?va9) 9 rfl (by kernel_rfl) (by kernel_rfl) (by kernel_rfl) (fun _ _ _ h => h) (Or.inl ⟨by rfl, ?vy9⟩) (by assumption) ?vr9
    case vy9 => (intro w' hSw; (try dsimp only at hSw); go_simp; try with_reducible rfl)
    (try simp only [Act.put, List.setIfInBounds_toArray, List.set_cons_zero, List.set_cons_succ])
    obtain ⟨cb, w3, hcv, lb, bb⟩ := run_bytes_text w2.drew bs HBB.out
    rw [ET.out, HBL.out] at hcv
    rw [HBL.out] at lb
    have D3 := hidd (D2.out.quiet bb)
    have hw3 : w3.cell? ⟨b, 1, none⟩ = some (.int .i64 oa) := D3.out.op.c1
    have nb : ∀ z, (Value.slice (some ⟨w2.drew.heap.size, 0, none⟩) T cb).ownBlock = some z → ¬ F z ∧ ¬ G z := NB.out _ D2 cb
    refine wpAnyH_ready (rs := [4]) (by kernel_rfl) (by simp) ?_
    refine ready_atD rfl (fun K hK => ?_)
    go_simp
    refine hK.out _ _ ?xS4 (fun hHeld => ?_)
    case xS4 => (try dsimp only); exact hw3
    clear hK K
    (try simp only [Act.put, List.setIfInBounds_toArray, List.set_cons_zero, List.set_cons_succ])
    refine wpAnyH_ready (rs := [5]) (by kernel_rfl) (by simp) ?_
    refine ready_atD rfl (fun K hK => ?_)
    go_simp
    refine (WD.out _ _ _ D3 _ lb (fun z e => (nb z e).1)).mono ?_
    rintro e w4 ⟨rfl, Fw4, D4, fw4⟩
    have hw4 : w4.cell? ⟨b, 1, none⟩ = some (.int .i64 oa) := D4.out.op.c1
    go_wp2_with fail
    refine hK.out _ _ ?xaS5 (fun hHeld => ?_)
    case xaS5 => (try dsimp only); exact hw4
    clear hK K
    (try simp only [Act.put, List.setIfInBounds_toArray, List.set_cons_zero, List.set_cons_succ])
    refine wpAnyH_ready (rs := [10]) (by kernel_rfl) (by simp) ?_
    refine ready_atD rfl (fun K hK => ?_)
    go_simp
    refine (WW.out _ _ _ D4).mono ?_
    rintro e w5 ⟨rfl, Gw5, D5, fw5⟩
    have hw5 : w5.cell? ⟨b, 1, none⟩ = some (.int .i64 oa) := D5.out.op.c1
    go_wp2_with fail
    refine hK.out _ _ ?xbS10 (fun hHeld => ?_)
    case xbS10 => (try dsimp only); exact hw5
    clear hK K
    (try simp only [Act.put, List.setIfInBounds_toArray, List.set_cons_zero, List.set_cons_succ])
    refine take_atD (v := ?xca11) 11 rfl (by kernel_rfl) (by kernel_rfl) (by kernel_rfl) (fun _ _ _ h => h) (Or.inl ⟨by rfl, ?xcy11⟩) (by assumption) ?xcr11
    case xcy11 => (intro w' hSw; (try dsimp only at hSw); go_simp; try with_reducible rfl)
    (try simp only [Act.put, List.setIfInBounds_toArray, List.set_cons_zero, List.set_cons_succ])
    refine take_atD (v := ?xda12) 12 rfl (by kernel_rfl) (by kernel_rfl) (by kernel_rfl) (fun _ _ _ h => h) (Or.inl ⟨by rfl, ?xdy12⟩) (by assumption) ?xdr12
    case xdy12 => (intro w' hSw; (try dsimp only at hSw); go_simp; try with_reducible rfl)
    (try simp only [Act.put, List.setIfInBounds_toArray, List.set_cons_zero, List.set_cons_succ])
    refine wpAnyH_done (by kernel_rfl) ?_ _
    go_wp2_with fail
    go_meet
    exact ⟨rfl, _, _, D5⟩
  case rest =>
    obtain ⟨rfl, F', G', D⟩ := hcut
    go_wp2_with fail
    go_ret
    exact ⟨rfl, F', G', D.out.lr⟩

end Go.Proofs.Ytinplpcobmbekaa
