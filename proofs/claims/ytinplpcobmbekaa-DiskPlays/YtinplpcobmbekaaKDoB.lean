/-
  The other calls of a script on both disks: they answer alike, and both are as the document says; in whatever memory where both lie.
-/
import Derived.Test.YtinplpcobmbekaaKMake
import Derived.Test.YtinplpcobmbekaaKCrash
import Derived.Test.YtinplpcobmbekaaCDisk
import Derived.Test.YtinplpcobmbekaaKDo
import Derived.Laws.CopyOwn
import Derived.Below
import Derived.Test.YtinplpcobmbekaaProg
import Derived.Handy
import Derived.Deep.QuietTactic
import Derived.WalkSpells
import Derived.WalkLawsBesides
import Derived.BigQuiet
import Derived.PlainAid
import Derived.Deep.RegionWith
import Derived.Laws.BitsAllLaws
import Derived.OwnWalk
import Derived.Laws.OwnMore
import Derived.Deep.RegionHeld3
import Derived.WalkSmall
import Derived.Deep.CutRange
import Derived.BigRegion
import Derived.OneCell
import Derived.Sort.Row
import Derived.ChangeSlices
import Derived.OpenShut
import Derived.Deep.AppendLies
import Derived.Laws.BytesArg
import Derived.Laws.CopyRow
import Derived.Laws.IdiomCopy
import Derived.Deep.OwnRows
import Derived.Deep.RegionLaw
import Derived.ChangeArms
namespace Go.Proofs.Ytinplpcobmbekaa
open Go.RowKit

set_option maxRecDepth 100000 in
set_option maxHeartbeats 8000000 in
theorem do_sync {B : Nat} {W w : World} {P : Nat} {s : DS} {n : Nat} {F : Nat → Prop} {Q : Nat} {G : Nat → Prop} (h : LR B W w P s n F Q s G) (o : OpD) (ho : I64 o.kind ∧ I64 o.at_ ∧ I64 o.n ∧ I64 o.keep) (hk : o.kind = 1) :
    Calls Try.prog 21 #[.pointer (some ⟨P, 0, none⟩), .pointer (some ⟨Q, 0, none⟩), .agg #[.int .i64 o.kind, .int .i64 o.at_, .int .i64 o.n, .int .i64 o.keep]] w fun e w' => e = .returned (.bool true) ∧ ∃ F' G', LR B W w' P (stepD n s o) n F' Q (stepD n s o) G' := by
  have es := stepD_1 (n := n) (s := s) (o := o) (hidd hk)
  obtain ⟨s', es'⟩ : ∃ s', stepD n s o = s' := ⟨_, rfl⟩
  rw [es'] at es ⊢
  obtain ⟨ok, oa, on, oq⟩ := o
  simp only at ho es ⊢
  simp only at hk; subst hk
  have HB := hidd ho
  have hFb : ¬ F w.heap.size := fun e => by have := h.d.cd.lt _ e; omega
  have hGb : ¬ G w.heap.size := fun e => by have := Dsk.lt h.r _ e; omega
  have D0 : LRO B W (w.alloc (.cells #[.int .i64 1, .int .i64 oa, .int .i64 on, .int .i64 oq] 26)) P s n F Q s G w.heap.size ⟨1, oa, on, oq⟩ := by
    exact ⟨h.quiet (allocB _ _), ⟨by go_simp, by go_simp, by go_simp, by go_simp⟩, hFb, hGb⟩
  have y1 := D0.op.c1
  have y2 := D0.op.c2
  have y3 := D0.op.c3
  try simp only at y1 y2 y3
  have D0 := hidd D0
  have ES := hidd es
  clear h es es' ho
  have C1 := hidd (c_sync D0.out.lr.d.cd)
  rw [← ES.out] at C1
  obtain ⟨kk, ekk⟩ : ∃ kk, syK s = kk := ⟨_, rfl⟩
  rw [ekk] at C1
  have EK := hidd ekk
  clear y1 y2 y3 ekk
  go_enter Try.func21, Try.ntmps21
  go_wp2_with fail
  refine C1.out.mono ?_
  rintro e w3 ⟨rfl, F3, d, f, k⟩
  have D1 := D0.out.fst d f k
  have C2 := hidd (d_sync D1.lr.r)
  rw [← ES.out, EK.out] at C2
  have D1 := hidd D1
  clear C1 D0 d f k
  go_wp2_with fail
  refine C2.out.mono ?_
  rintro e w4 ⟨rfl, G4, d, f, k⟩
  have D2 := hidd (D1.out.snd d f k)
  clear C2 D1 d f k
  go_wp2_with fail
  go_ret
  exact ⟨rfl, F3, G4, D2.out.lr⟩

set_option maxRecDepth 100000 in
set_option maxHeartbeats 8000000 in
theorem do_stop {B : Nat} {W w : World} {P : Nat} {s : DS} {n : Nat} {F : Nat → Prop} {Q : Nat} {G : Nat → Prop} (h : LR B W w P s n F Q s G) (o : OpD) (ho : I64 o.kind ∧ I64 o.at_ ∧ I64 o.n ∧ I64 o.keep) (hk : o.kind = 3) :
    Calls Try.prog 21 #[.pointer (some ⟨P, 0, none⟩), .pointer (some ⟨Q, 0, none⟩), .agg #[.int .i64 o.kind, .int .i64 o.at_, .int .i64 o.n, .int .i64 o.keep]] w fun e w' => e = .returned (.bool true) ∧ ∃ F' G', LR B W w' P (stepD n s o) n F' Q (stepD n s o) G' := by
  have es := stepD_3 (n := n) (s := s) (o := o) (hidd hk)
  obtain ⟨s', es'⟩ : ∃ s', stepD n s o = s' := ⟨_, rfl⟩
  rw [es'] at es ⊢
  obtain ⟨ok, oa, on, oq⟩ := o
  simp only at ho es ⊢
  simp only at hk; subst hk
  have HB := hidd ho
  have hFb : ¬ F w.heap.size := fun e => by have := h.d.cd.lt _ e; omega
  have hGb : ¬ G w.heap.size := fun e => by have := Dsk.lt h.r _ e; omega
  have D0 : LRO B W (w.alloc (.cells #[.int .i64 3, .int .i64 oa, .int .i64 on, .int .i64 oq] 26)) P s n F Q s G w.heap.size ⟨3, oa, on, oq⟩ := by
    exact ⟨h.quiet (allocB _ _), ⟨by go_simp, by go_simp, by go_simp, by go_simp⟩, hFb, hGb⟩
  have y1 := D0.op.c1
  have y2 := D0.op.c2
  have y3 := D0.op.c3
  try simp only at y1 y2 y3
  have D0 := hidd D0
  have ES := hidd es
  clear h es es' ho
  have C1 := hidd (c_stop D0.out.lr.d.cd on HB.out.2.2.1.1 HB.out.2.2.1.2)
  rw [← ES.out] at C1
  clear y1 y3
  go_enter Try.func21, Try.ntmps21
  go_wp2_with fail
  refine C1.out.mono ?_
  rintro e w3 ⟨rfl, F3, d, f, k⟩
  have D1 := D0.out.fst d f k
  have C2 := hidd (d_stop D1.lr.r on HB.out.2.2.1.1 HB.out.2.2.1.2)
  rw [← ES.out] at C2
  have z := D1.op.c2
  try simp only at z
  have D1 := hidd D1
  clear C1 D0 d f k y2
  go_wp2_with fail
  refine C2.out.mono ?_
  rintro e w4 ⟨rfl, G4, d, f, k⟩
  have D2 := hidd (D1.out.snd d f k)
  clear C2 D1 d f k
  go_wp2_with fail
  go_ret
  exact ⟨rfl, F3, G4, D2.out.lr⟩

set_option maxRecDepth 100000 in
set_option maxHeartbeats 8000000 in
theorem do_crash {B : Nat} {W w : World} {P : Nat} {s : DS} {n : Nat} {F : Nat → Prop} {Q : Nat} {G : Nat → Prop} (h : LR B W w P s n F Q s G) (o : OpD) (ho : I64 o.kind ∧ I64 o.at_ ∧ I64 o.n ∧ I64 o.keep) (hk : o.kind = 4) :
    Calls Try.prog 21 #[.pointer (some ⟨P, 0, none⟩), .pointer (some ⟨Q, 0, none⟩), .agg #[.int .i64 o.kind, .int .i64 o.at_, .int .i64 o.n, .int .i64 o.keep]] w fun e w' => e = .returned (.bool true) ∧ ∃ F' G', LR B W w' P (stepD n s o) n F' Q (stepD n s o) G' := by
  have es := stepD_4 (n := n) (s := s) (o := o) (hidd hk)
  obtain ⟨s', es'⟩ : ∃ s', stepD n s o = s' := ⟨_, rfl⟩
  rw [es'] at es ⊢
  obtain ⟨ok, oa, on, oq⟩ := o
  simp only at ho es ⊢
  simp only at hk; subst hk
  have HB := hidd ho
  have hFb : ¬ F w.heap.size := fun e => by have := h.d.cd.lt _ e; omega
  have hGb : ¬ G w.heap.size := fun e => by have := Dsk.lt h.r _ e; omega
  have D0 : LRO B W (w.alloc (.cells #[.int .i64 4, .int .i64 oa, .int .i64 on, .int .i64 oq] 26)) P s n F Q s G w.heap.size ⟨4, oa, on, oq⟩ := by
    exact ⟨h.quiet (allocB _ _), ⟨by go_simp, by go_simp, by go_simp, by go_simp⟩, hFb, hGb⟩
  have y1 := D0.op.c1
  have y2 := D0.op.c2
  have y3 := D0.op.c3
  try simp only at y1 y2 y3
  have D0 := hidd D0
  have ES := hidd es
  clear h es es' ho
  have C1 := hidd (c_crash D0.out.lr.d.cd oq HB.out.2.2.2.1 HB.out.2.2.2.2)
  rw [← ES.out] at C1
  clear y1 y2
  go_enter Try.func21, Try.ntmps21
  go_wp2_with fail
  refine C1.out.mono ?_
  rintro e w3 ⟨rfl, F3, d, f, k⟩
  have D1 := D0.out.fst d f k
  have C2 := hidd (d_crash D1.lr.r oq HB.out.2.2.2.1 HB.out.2.2.2.2)
  rw [← ES.out] at C2
  have z := D1.op.c3
  try simp only at z
  have D1 := hidd D1
  clear C1 D0 d f k y3
  go_wp2_with fail
  refine C2.out.mono ?_
  rintro e w4 ⟨rfl, G4, d, f, k⟩
  have D2 := hidd (D1.out.snd d f k)
  clear C2 D1 d f k
  go_wp2_with fail
  go_ret
  exact ⟨rfl, F3, G4, D2.out.lr⟩

set_option maxRecDepth 100000 in
set_option maxHeartbeats 8000000 in
theorem do_read {B : Nat} {W w : World} {P : Nat} {s : DS} {n : Nat} {F : Nat → Prop} {Q : Nat} {G : Nat → Prop} (h : LR B W w P s n F Q s G) (o : OpD) (ho : I64 o.kind ∧ I64 o.at_ ∧ I64 o.n ∧ I64 o.keep) (hk : o.kind = 2) :
    Calls Try.prog 21 #[.pointer (some ⟨P, 0, none⟩), .pointer (some ⟨Q, 0, none⟩), .agg #[.int .i64 o.kind, .int .i64 o.at_, .int .i64 o.n, .int .i64 o.keep]] w fun e w' => e = .returned (.bool true) ∧ ∃ F' G', LR B W w' P (stepD n s o) n F' Q (stepD n s o) G' := by
  have es := stepD_n (n := n) (s := s) (o := o) (by omega) (by omega) (by omega) (by omega)
  obtain ⟨s', es'⟩ : ∃ s', stepD n s o = s' := ⟨_, rfl⟩
  rw [es'] at es ⊢
  obtain ⟨ok, oa, on, oq⟩ := o
  simp only at ho es ⊢
  simp only at hk; subst hk
  have HB := hidd ho
  have hFb : ¬ F w.heap.size := fun e => by have := h.d.cd.lt _ e; omega
  have hGb : ¬ G w.heap.size := fun e => by have := Dsk.lt h.r _ e; omega
  have D0 : LRO B W (w.alloc (.cells #[.int .i64 2, .int .i64 oa, .int .i64 on, .int .i64 oq] 26)) P s n F Q s G w.heap.size ⟨2, oa, on, oq⟩ := by
    exact ⟨h.quiet (allocB _ _), ⟨by go_simp, by go_simp, by go_simp, by go_simp⟩, hFb, hGb⟩
  have y1 := D0.op.c1
  have y2 := D0.op.c2
  have y3 := D0.op.c3
  try simp only at y1 y2 y3
  have D0 := hidd D0
  have ES := hidd es
  clear h es es' ho
  have C1 := hidd (c_read D0.out.lr.d.cd oa on HB.out.2.1.1 HB.out.2.1.2 HB.out.2.2.1.1 HB.out.2.2.1.2)
  obtain ⟨kk, ekk⟩ : ∃ kk, rdK s n oa on = kk := ⟨_, rfl⟩
  rw [ekk] at C1
  have EK := hidd ekk
  clear y3 ekk
  go_enter Try.func21, Try.ntmps21
  go_wp2_with fail
  refine C1.out.mono ?_
  rintro e w3 ⟨v, rfl, ow, b3⟩
  have D1 := D0.out.quiet b3
  have C2 := hidd (d_read D1.lr.r oa on HB.out.2.1.1 HB.out.2.1.2 HB.out.2.2.1.1 HB.out.2.2.1.2)
  have CV := str_of_own ow
  obtain ⟨t, et⟩ : ∃ t, strOfNums (rdL s n oa on) = t := ⟨_, rfl⟩
  rw [et] at CV C2
  rw [EK.out] at C2
  have z1 := D1.op.c1
  have z2 := D1.op.c2
  try simp only at z1 z2
  have D1 := hidd D1
  clear C1 D0 b3 ow y1 y2 et
  go_wp2_with fail
  refine C2.out.mono ?_
  rintro e w4 ⟨rfl, rfl⟩
  go_wp2_with fail
  go_ret
  exact ⟨rfl, F, G, D1.out.lr.as ES.out ES.out⟩

set_option maxRecDepth 100000 in
set_option maxHeartbeats 8000000 in
theorem do_copy {B : Nat} {W w : World} {P : Nat} {s : DS} {n : Nat} {F : Nat → Prop} {Q : Nat} {G : Nat → Prop} (h : LR B W w P s n F Q s G) (o : OpD) (ho : I64 o.kind ∧ I64 o.at_ ∧ I64 o.n ∧ I64 o.keep) (n0 : ¬ o.kind = 0) (n1 : ¬ o.kind = 1) (n2 : ¬ o.kind = 2) (n3 : ¬ o.kind = 3) (n4 : ¬ o.kind = 4) :
    Calls Try.prog 21 #[.pointer (some ⟨P, 0, none⟩), .pointer (some ⟨Q, 0, none⟩), .agg #[.int .i64 o.kind, .int .i64 o.at_, .int .i64 o.n, .int .i64 o.keep]] w fun e w' => e = .returned (.bool true) ∧ ∃ F' G', LR B W w' P (stepD n s o) n F' Q (stepD n s o) G' := by
  have es := stepD_n (n := n) (s := s) (o := o) n0 n1 n3 n4
  obtain ⟨s', es'⟩ : ∃ s', stepD n s o = s' := ⟨_, rfl⟩
  rw [es'] at es ⊢
  obtain ⟨ok, oa, on, oq⟩ := o
  simp only at ho es ⊢
  simp only at n0 n1 n2 n3 n4
  have HB := hidd ho
  have hFb : ¬ F w.heap.size := fun e => by have := h.d.cd.lt _ e; omega
  have hGb : ¬ G w.heap.size := fun e => by have := Dsk.lt h.r _ e; omega
  have D0 : LRO B W (w.alloc (.cells #[.int .i64 ok, .int .i64 oa, .int .i64 on, .int .i64 oq] 26)) P s n F Q s G w.heap.size ⟨ok, oa, on, oq⟩ := by
    exact ⟨h.quiet (allocB _ _), ⟨by go_simp, by go_simp, by go_simp, by go_simp⟩, hFb, hGb⟩
  have y1 := D0.op.c1
  have y2 := D0.op.c2
  have y3 := D0.op.c3
  try simp only at y1 y2 y3
  have D0 := hidd D0
  have ES := hidd es
  clear h es es' ho
  have C1 := hidd (c_copy D0.out.lr.d.cd)
  clear y1 y2 y3
  go_enter Try.func21, Try.ntmps21
  go_wp2_with fail
  refine C1.out.mono ?_
  rintro e w3 ⟨R, H, rfl, DC, b3, f3⟩
  have L0 := (LD.start DC b3 f3).quiet (drewB w3)
  have D1 := D0.out.quiet L0.bel
  obtain ⟨-, ⟨p2, c2, x2⟩, x4⟩ := d_cells D1.lr.r
  have z3 := D1.op.c3
  try simp only at z3
  have WQ := hidd (q_waits L0.cd)
  have DQ := hidd (q_dead L0.cd)
  have C2 := hidd (c_crash L0.cd oq HB.out.2.2.2.1 HB.out.2.2.2.2)
  obtain ⟨m, em⟩ : ∃ m, s.waits.length = m := ⟨_, rfl⟩
  obtain ⟨bd, ebd⟩ : ∃ bd, s.dead = bd := ⟨_, rfl⟩
  rw [em] at x2 WQ
  rw [ebd] at x4 DQ
  have hS0 := And.intro x2 x4
  have L0 := hidd L0
  clear C1 DC b3 f3 D1 em ebd x2 x4
  go_wp2_with fail
  go_region_held3 (fun w' => w'.cell? ⟨Q, 2, none⟩ = some (.slice p2 m c2) ∧ w'.cell? ⟨Q, 4, none⟩ = some (.bool bd)) (first | exact hS0)
    (first
      | (go_at_call 16; refine WQ.out.mono ?_; rintro e w' ⟨rfl, rfl⟩)
      | (go_at_call 17; refine DQ.out.mono ?_; rintro e w' ⟨rfl, rfl⟩))
  all_goals
    clear hS0 WQ DQ
    go_wp2_with fail
    refine C2.out.mono ?_
    rintro e w4 ⟨rfl, H2, d4, f4, k4⟩
    have L1 := hidd (L0.out.step d4 f4 k4)
    clear C2 L0 d4 f4 k4 z3
    have CV : (convert 30 30 (.slice (some ⟨w4.heap.size, 0, none⟩) 4 4)).run Try.prog (w4.alloc (.cells #[.int .u8 99, .int .u8 111, .int .u8 112, .int .u8 121] 5)) = .ok (.slice (some ⟨w4.heap.size, 0, none⟩) 4 4) (w4.alloc (.cells #[.int .u8 99, .int .u8 111, .int .u8 112, .int .u8 121] 5 (4, 5))) := conv_mark w4 #[.int .u8 99, .int .u8 111, .int .u8 112, .int .u8 121] 5 4 4
    have LB := lst_litD w4 [99, 111, 112, 121] 4 5 (4, 5) #[]
    have L2 := L1.out.quiet (allocB w4 (.cells #[.int .u8 99, .int .u8 111, .int .u8 112, .int .u8 121] 5 (4, 5)))
    have C3 := hidd (c_write L2.cd 0 (by omega) (by omega) (.slice (some ⟨w4.heap.size, 0, none⟩) 4 4) [99, 111, 112, 121] (by simp) LB (fun _ z e => by
      have : w4.heap.size = z := by simpa [Value.ownBlock] using e
      intro hf
      have := L1.out.cd.lt z hf
      omega) (by simp) (by simp [DS.crash]))
    have L2 := hidd L2
    clear L1 LB
    go_wp2_with fail
    refine C3.out.mono ?_
    rintro e w5 ⟨rfl, H3, d5, f5, k5⟩
    have L3 := L2.out.step d5 f5 k5
    have C4 := hidd (c_sync L3.cd)
    have L3 := hidd L3
    clear C3 L2 d5 f5 k5 CV
    go_wp2_with fail
    refine C4.out.mono ?_
    rintro e w6 ⟨rfl, H4, d6, f6, k6⟩
    have L4 := hidd (L3.out.step d6 f6 k6)
    clear C4 L3 d6 f6 k6
    go_wp2_with fail
    go_ret
    exact ⟨rfl, F, G, (D0.out.quiet L4.out.bel).lr.as ES.out ES.out⟩

theorem k_do {B : Nat} {W w : World} {P : Nat} {s : DS} {n : Nat} {F : Nat → Prop} {Q : Nat} {G : Nat → Prop} (h : LR B W w P s n F Q s G) (o : OpD) (ho : I64 o.kind ∧ I64 o.at_ ∧ I64 o.n ∧ I64 o.keep) (hfew : s.waits.length ≤ 100000) :
    Calls Try.prog 21 #[.pointer (some ⟨P, 0, none⟩), .pointer (some ⟨Q, 0, none⟩), .agg #[.int .i64 o.kind, .int .i64 o.at_, .int .i64 o.n, .int .i64 o.keep]] w fun e w' => e = .returned (.bool true) ∧ ∃ F' G', LR B W w' P (stepD n s o) n F' Q (stepD n s o) G' := by
  by_cases h0 : o.kind = 0
  · exact do_write h o ho hfew h0
  by_cases h1 : o.kind = 1
  · exact do_sync h o ho h1
  by_cases h2 : o.kind = 2
  · exact do_read h o ho h2
  by_cases h3 : o.kind = 3
  · exact do_stop h o ho h3
  by_cases h4 : o.kind = 4
  · exact do_crash h o ho h4
  · exact do_copy h o ho h0 h1 h2 h3 h4

end Go.Proofs.Ytinplpcobmbekaa
