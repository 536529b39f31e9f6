/-
  A disk does what the document says at every call: for every size and every script, in whatever memory.
-/
import Derived.Test.YtinplpcobmbekaaDAwake
import Derived.Test.YtinplpcobmbekaaKDoB
import Derived.Laws.CopyOwn
import Derived.Below
import Derived.Test.YtinplpcobmbekaaProg
import Derived.Handy
import Derived.Deep.QuietTactic
import Derived.WalkSpells
import Derived.WalkLawsBesides
import Derived.BigQuiet
import Derived.PlainAid
import Derived.Deep.RegionWith
import Derived.Laws.BitsAllLaws
import Derived.OwnWalk
import Derived.Laws.OwnMore
import Derived.Deep.RegionHeld3
import Derived.WalkSmall
import Derived.Deep.CutRange
import Derived.BigRegion
import Derived.OneCell
import Derived.Sort.Row
import Derived.ChangeSlices
import Derived.OpenShut
import Derived.Deep.AppendLies
import Derived.Laws.BytesArg
import Derived.Laws.CopyRow
import Derived.Laws.IdiomCopy
import Derived.Deep.OwnRows
import Derived.Deep.RegionLaw
import Derived.ChangeArms
namespace Go.Proofs.Ytinplpcobmbekaa
open Go.RowKit

theorem stepD_same (n : Nat) (s : DS) (o : OpD) : (stepD n s o).waits.length ≤ s.waits.length + 63 := stepD_few n s o

set_option maxRecDepth 100000 in
set_option maxHeartbeats 8000000 in
theorem diskPlays_walk (k0 : Int) (sX : Value) (X : List OpD) (W : World) (k1 : -9223372036854775808 ≤ k0) (k2 : k0 ≤ 9223372036854775807) (hX : OpsL W sX X) :
    Calls Try.prog 6 #[.int .i64 k0, sX] W fun e w' => TellsQ (.bool true) W e w' := by
  have AW := hidd fun w => awake12 w
  obtain ⟨p, c, rfl, hc, hcell⟩ := hX
  have HC := hidd hcell
  obtain ⟨L, eL⟩ : ∃ L, X.length = L := ⟨_, rfl⟩
  have EL := hidd eL
  rw [eL] at hc ⊢
  clear hcell eL
  obtain ⟨K, hK1, hK2⟩ : ∃ K : Int, (k0 ≤ 300 ∧ K = k0 ∨ 300 < k0 ∧ K = k0 % 300) ∧ K ≤ 300 := by
    by_cases h : k0 ≤ 300
    · exact ⟨k0, .inl ⟨h, rfl⟩, h⟩
    · exact ⟨k0 % 300, .inr ⟨by omega, rfl⟩, by omega⟩
  have CN := hidd (c_new W K (by omega) (by omega))
  have RN := hidd fun w => r_new w K (by omega) (by omega)
  obtain ⟨N, hN⟩ : ∃ N, clampN K = N := ⟨_, rfl⟩
  have hN3 : N ≤ 300 := by unfold clampN at hN; omega
  rw [hN] at CN RN
  clear hN
  go_enter Try.func6, Try.ntmps6
  go_upto_if 13 with fail
  go_cut [0] from 14 (fun v0 wx => v0 = .int .i64 K ∧ W = wx)
  case first =>
    rcases hK1 with ⟨h3, rfl⟩ | ⟨h3, rfl⟩
    · go_wp2_with fail
      go_meet
      exact ⟨rfl, rfl⟩
    · have h3' : k0.tmod 300 = k0 % 300 := by rw [Int.tmod_eq_emod_of_nonneg (by omega)]
      go_wp2_with fail
      go_meet
      exact ⟨rfl, rfl⟩
  case rest =>
  obtain ⟨rfl, rfl⟩ := hcut
  clear hK1
  go_wp2_with fail
  refine CN.out.mono ?_
  rintro e w1 ⟨P, F, rfl, D, b, f⟩
  have D1 := hidd (LD.start D b f)
  clear CN D b f
  go_wp2_with fail
  refine (RN.out _).mono ?_
  rintro e w2 ⟨Q, G, vn, vl, vw, rfl, DR, b2, g2⟩
  have D2 : Hid (LR W.heap.size W w2 P (newD N) N F Q (newD N) G) := hidd ⟨D1.out.quiet b2, ⟨vn, vl, vw, DR⟩, fun z hz => Nat.le_trans D1.out.size (g2 z hz), fun z hz hz' => by have := D1.out.cd.lt z hz; have := g2 z hz'; omega⟩
  have S2 : Hid ((newD N).waits.length ≤ 63 * 0) := hidd (Nat.le_refl _)
  clear RN D1 DR b2 g2
  go_wp2_with fail
  refine (AW.out _).mono ?_
  rintro e w3 ⟨rfl, b3⟩
  have D3 := hidd (D2.out.quiet b3)
  clear D2 b3
  go_wp2_with fail
  go_loopw [7] (fun v7 wr => ∃ (i : Nat) (s : DS) (F G : Nat → Prop), i ≤ L ∧ i ≤ 60 ∧ v7 = .int .i64 (i : Int) ∧ Hid (LR W.heap.size W wr P s N F Q s G) ∧ Hid (s.waits.length ≤ 63 * i)) (fun v7 _ => 60 - (intOf v7).toNat)
  case atStart => exact ⟨0, _, F, G, by omega, by omega, rfl, D3, S2⟩
  case round =>
    clear D3 S2
    obtain ⟨i, s, F, G, hi, hi60, rfl, D, S⟩ := hrel
    have hz : (i < L ∧ i < 60) ∨ ¬ i < L ∨ (i < L ∧ ¬ i < 60) := by omega
    rcases hz with ⟨h1, h2⟩ | h1 | ⟨h1, h2⟩
    · have hiX : i < X.length := by rw [EL.out]; exact h1
      obtain ⟨g, off, rfl, q0, q1, q2, q3, B0, B1, B2, B3⟩ := ops_at HC.out D.out.d.bel i hiX
      have h1' : (i : Int) < (L : Int) := by omega
      have h2' : (i : Int) < 60 := by omega
      generalize X[i] = o at *
      have DO := hidd (k_do (D.out.quiet (drewB wr)) o ⟨B0, B1, B2, B3⟩ (by have := S.out; omega))
      have SF := stepD_same N s o
      obtain ⟨s', es⟩ : ∃ s', stepD N s o = s' := ⟨_, rfl⟩
      have ES := hidd es
      rw [es] at SF
      have SN : Hid (s'.waits.length ≤ 63 * (i + 1)) := hidd (by have := S.out; omega)
      clear es SF B0 B1 B2 B3 D S
      go_wp2_with fail
      refine wp_region_held_drew (S := (fun _ => True)) (by kernel_rfl) ?vS0 (fun hHeld => ?_)
      case vS0 => trivial
      refine take_atD (v := ?va0) 0 rfl (by kernel_rfl) (by kernel_rfl) (by kernel_rfl) (fun _ _ _ h => h) (Or.inl ⟨by rfl, ?vy0⟩) (by assumption) ?vr0
      case vy0 => (intro w' hSw; (try dsimp only at hSw); go_simp; try with_reducible rfl)
      (try simp only [Act.put, List.setIfInBounds_toArray, List.set_cons_zero, List.set_cons_succ])
      refine take_atD (v := ?va1) 1 rfl (by kernel_rfl) (by kernel_rfl) (by kernel_rfl) (fun _ _ _ h => h) (Or.inl ⟨by rfl, ?vy1⟩) (by assumption) ?vr1
      case vy1 => (intro w' hSw; (try dsimp only at hSw); go_simp; try with_reducible rfl)
      (try simp only [Act.put, List.setIfInBounds_toArray, List.set_cons_zero, List.set_cons_succ])
      refine take_atD (v := ?va2) 2 rfl (by kernel_rfl) (by kernel_rfl) (by kernel_rfl) (fun _ _ _ h => h) (Or.inl ⟨by rfl, ?vy2⟩) (by assumption) ?vr2
      case vy2 => (intro w' hSw; (try dsimp only at hSw); go_simp; try with_reducible rfl)
      (try simp only [Act.put, List.setIfInBounds_toArray, List.set_cons_zero, List.set_cons_succ])
      refine take_atD (v := ?va3) 3 rfl (by kernel_rfl) (by kernel_rfl) (by kernel_rfl) (fun _ _ _ h => h) (Or.inl ⟨by rfl, ?vy3⟩) (by assumption) ?vr3
      case vy3 => (intro w' hSw; (try dsimp only at hSw); go_simp; try with_reducible rfl)
      (try simp only [Act.put, List.setIfInBounds_toArray, List.set_cons_zero, List.set_cons_succ])
      refine take_atD (v := ?va4) 4 rfl (by kernel_rfl) (by kernel_rfl) (by kernel_rfl) (fun _ _ _ h => h) (Or.inl ⟨by rfl, ?vy4⟩) (by assumption) ?vr4
      case vy4 => (intro w' hSw; (try dsimp only at hSw); go_simp; try with_reducible rfl)
      (try simp only [Act.put, List.setIfInBounds_toArray, List.set_cons_zero, List.set_cons_succ])
      refine wpAnyH_ready (rs := [5]) (by kernel_rfl) (by simp) ?_
      refine ready_atD rfl (fun K hK => ?_)
      go_simp
      refine hK.out _ _ ?vaS5 (fun hHeld => ?_)
      case vaS5 => trivial
      clear hK K
      (try simp only [Act.put, List.setIfInBounds_toArray, List.set_cons_zero, List.set_cons_succ])
      refine wpAnyH_ready (rs := [6]) (by kernel_rfl) (by simp) ?_
      refine ready_atD rfl (fun K hK => ?_)
      go_simp
      refine DO.out.mono ?_
      rintro e w2 ⟨rfl, F2, G2, D2⟩
      rw [ES.out] at D2
      obtain ⟨⟨p0, c0, x0⟩, ⟨p2, c2, x2⟩, x4⟩ := d_cells D2.r
      have SQ := hidd (q_size D2.d.cd)
      have WQ := hidd (q_waits D2.d.cd)
      have DQ := hidd (q_dead D2.d.cd)
      obtain ⟨m, em⟩ : ∃ m, s'.waits.length = m := ⟨_, rfl⟩
      obtain ⟨bd, ebd⟩ : ∃ bd, s'.dead = bd := ⟨_, rfl⟩
      rw [em] at x2 WQ
      rw [ebd] at x4 DQ
      have hS2 := And.intro x0 (And.intro x2 x4)
      have D2 := hidd D2
      clear DO x2 x4 em ebd
      go_wp2_with fail
      refine hK.out _ _ trivial (fun _ => ?_)
      clear hK K
      (try simp only [Act.put, List.setIfInBounds_toArray, List.set_cons_zero, List.set_cons_succ])
      refine wpAnyH_strongD (T := fun w' => w'.cell? ⟨Q, 0, none⟩ = some (.slice p0 N c0) ∧ w'.cell? ⟨Q, 2, none⟩ = some (.slice p2 m c2) ∧ w'.cell? ⟨Q, 4, none⟩ = some (.bool bd)) (fun _ _ => trivial) _ _ _ _ ?_
      refine take_atD (v := ?wa7) 7 rfl (by kernel_rfl) (by kernel_rfl) (by kernel_rfl) (fun _ _ _ h => h) (Or.inl ⟨by rfl, ?wy7⟩) (by assumption) ?wr7
      case wy7 => (intro w' hSw; (try dsimp only at hSw); go_simp; try with_reducible rfl)
      (try simp only [Act.put, List.setIfInBounds_toArray, List.set_cons_zero, List.set_cons_succ])
      refine take_atD (v := ?wa8) 8 rfl (by kernel_rfl) (by kernel_rfl) (by kernel_rfl) (fun _ _ _ h => h) (Or.inl ⟨by rfl, ?wy8⟩) (by assumption) ?wr8
      case wy8 => (intro w' hSw; (try dsimp only at hSw); go_simp; try with_reducible rfl)
      (try simp only [Act.put, List.setIfInBounds_toArray, List.set_cons_zero, List.set_cons_succ])
      refine take_atD (v := ?wa9) 9 rfl (by kernel_rfl) (by kernel_rfl) (by kernel_rfl) (fun _ _ _ h => h) (Or.inl ⟨by rfl, ?wy9⟩) (by assumption) ?wr9
      case wy9 => (intro w' hSw; (try dsimp only at hSw); go_simp; try with_reducible rfl)
      (try simp only [Act.put, List.setIfInBounds_toArray, List.set_cons_zero, List.set_cons_succ])
      refine take_atD (v := ?wa11) 11 rfl (by kernel_rfl) (by kernel_rfl) (by kernel_rfl) (fun _ _ _ h => h) (Or.inl ⟨by rfl, ?wy11⟩) (by assumption) ?wr11
      case wy11 => (intro w' hSw; (try dsimp only at hSw); go_simp; try with_reducible rfl)
      (try simp only [Act.put, List.setIfInBounds_toArray, List.set_cons_zero, List.set_cons_succ])
      refine take_atD (v := ?wa12) 12 rfl (by kernel_rfl) (by kernel_rfl) (by kernel_rfl) (fun _ _ _ h => h) (Or.inl ⟨by rfl, ?wy12⟩) (by assumption) ?wr12
      case wy12 => (intro w' hSw; (try dsimp only at hSw); go_simp; try with_reducible rfl)
      (try simp only [Act.put, List.setIfInBounds_toArray, List.set_cons_zero, List.set_cons_succ])
      refine take_atD (v := ?wa13) 13 rfl (by kernel_rfl) (by kernel_rfl) (by kernel_rfl) (fun _ _ _ h => h) (Or.inl ⟨by rfl, ?wy13⟩) (by assumption) ?wr13
      case wy13 => (intro w' hSw; (try dsimp only at hSw); go_simp; try with_reducible rfl)
      (try simp only [Act.put, List.setIfInBounds_toArray, List.set_cons_zero, List.set_cons_succ])
      refine take_atD (v := ?wa14) 14 rfl (by kernel_rfl) (by kernel_rfl) (by kernel_rfl) (fun _ _ _ h => h) (Or.inl ⟨by rfl, ?wy14⟩) (by assumption) ?wr14
      case wy14 => (intro w' hSw; (try dsimp only at hSw); go_simp; try with_reducible rfl)
      (try simp only [Act.put, List.setIfInBounds_toArray, List.set_cons_zero, List.set_cons_succ])
      refine take_atD (v := ?wa15) 15 rfl (by kernel_rfl) (by kernel_rfl) (by kernel_rfl) (fun _ _ _ h => h) (Or.inl ⟨by rfl, ?wy15⟩) (by assumption) ?wr15
      case wy15 => (intro w' hSw; (try dsimp only at hSw); go_simp; try with_reducible rfl)
      (try simp only [Act.put, List.setIfInBounds_toArray, List.set_cons_zero, List.set_cons_succ])
      refine wpAnyH_ready (rs := [10]) (by kernel_rfl) (by simp) ?_
      refine ready_atD rfl (fun K hK => ?_)
      go_simp
      refine SQ.out.mono ?_
      rintro e w' ⟨rfl, rfl⟩
      go_wp2_with fail
      refine hK.out _ _ ?waS10 (fun hHeld => ?_)
      case waS10 => (try dsimp only); exact hS2
      clear hK K
      (try simp only [Act.put, List.setIfInBounds_toArray, List.set_cons_zero, List.set_cons_succ])
      refine take_atD (v := ?xa16) 16 rfl (by kernel_rfl) (by kernel_rfl) (by kernel_rfl) (fun _ _ _ h => h) (Or.inl ⟨by rfl, ?xy16⟩) (by assumption) ?xr16
      case xy16 => (intro w' hSw; (try dsimp only at hSw); go_simp; try with_reducible rfl)
      (try simp only [Act.put, List.setIfInBounds_toArray, List.set_cons_zero, List.set_cons_succ])
      refine take_atD (v := ?xa17) 17 rfl (by kernel_rfl) (by kernel_rfl) (by kernel_rfl) (fun _ _ _ h => h) (Or.inl ⟨by rfl, ?xy17⟩) (by assumption) ?xr17
      case xy17 => (intro w' hSw; (try dsimp only at hSw); go_simp; try with_reducible rfl)
      (try simp only [Act.put, List.setIfInBounds_toArray, List.set_cons_zero, List.set_cons_succ])
      refine take_atD (v := ?xa18) 18 rfl (by kernel_rfl) (by kernel_rfl) (by kernel_rfl) (fun _ _ _ h => h) (Or.inl ⟨by rfl, ?xy18⟩) (by assumption) ?xr18
      case xy18 => (intro w' hSw; (try dsimp only at hSw); go_simp; try with_reducible rfl)
      (try simp only [Act.put, List.setIfInBounds_toArray, List.set_cons_zero, List.set_cons_succ])
      refine take_atD (v := ?xa19) 19 rfl (by kernel_rfl) (by kernel_rfl) (by kernel_rfl) (fun _ _ _ h => h) (Or.inl ⟨by rfl, ?xy19⟩) (by assumption) ?xr19
      case xy19 => (intro w' hSw; (try dsimp only at hSw); go_simp; try with_reducible rfl)
      (try simp only [Act.put, List.setIfInBounds_toArray, List.set_cons_zero, List.set_cons_succ])
      refine take_atD (v := ?xa21) 21 rfl (by kernel_rfl) (by kernel_rfl) (by kernel_rfl) (fun _ _ _ h => h) (Or.inl ⟨by rfl, ?xy21⟩) (by assumption) ?xr21
      case xy21 => (intro w' hSw; (try dsimp only at hSw); go_simp; try with_reducible rfl)
      (try simp only [Act.put, List.setIfInBounds_toArray, List.set_cons_zero, List.set_cons_succ])
      refine take_atD (v := ?xa22) 22 rfl (by kernel_rfl) (by kernel_rfl) (by kernel_rfl) (fun _ _ _ h => h) (Or.inl ⟨by rfl, ?xy22⟩) (by assumption) ?xr22
      case xy22 => (intro w' hSw; (try dsimp only at hSw); go_simp; try with_reducible rfl)
      (try simp only [Act.put, List.setIfInBounds_toArray, List.set_cons_zero, List.set_cons_succ])
      refine take_atD (v := ?xa23) 23 rfl (by kernel_rfl) (by kernel_rfl) (by kernel_rfl) (fun _ _ _ h => h) (Or.inl ⟨by rfl, ?xy23⟩) (by assumption) ?xr23
      case xy23 => (intro w' hSw; (try dsimp only at hSw); go_simp; try with_reducible rfl)
      (try simp only [Act.put, List.setIfInBounds_toArray, List.set_cons_zero, List.set_cons_succ])
      refine take_atD (v := ?xa24) 24 rfl (by kernel_rfl) (by kernel_rfl) (by kernel_rfl) (fun _ _ _ h => h) (Or.inl ⟨by rfl, ?xy24⟩) (by assumption) ?xr24
      case xy24 => (intro w' hSw; (try dsimp only at hSw); go_simp; try with_reducible rfl)
      (try simp only [Act.put, List.setIfInBounds_toArray, List.set_cons_zero, List.set_cons_succ])
      refine take_atD (v := ?xa25) 25 rfl (by kernel_rfl) (by kernel_rfl) (by kernel_rfl) (fun _ _ _ h => h) (Or.inl ⟨by rfl, ?xy25⟩) (by assumption) ?xr25
      case xy25 => (intro w' hSw; (try dsimp only at hSw); go_simp; try with_reducible rfl)
      (try simp only [Act.put, List.setIfInBounds_toArray, List.set_cons_zero, List.set_cons_succ])
      refine wpAnyH_ready (rs := [20]) (by kernel_rfl) (by simp) ?_
      refine ready_atD rfl (fun K hK => ?_)
      go_simp
      refine WQ.out.mono ?_
      rintro e w' ⟨rfl, rfl⟩
      go_wp2_with fail
      refine hK.out _ _ ?xaS20 (fun hHeld => ?_)
      case xaS20 => (try dsimp only); exact hS2
      clear hK K
      (try simp only [Act.put, List.setIfInBounds_toArray, List.set_cons_zero, List.set_cons_succ])
      refine take_atD (v := ?ya26) 26 rfl (by kernel_rfl) (by kernel_rfl) (by kernel_rfl) (fun _ _ _ h => h) (Or.inl ⟨by rfl, ?yy26⟩) (by assumption) ?yr26
      case yy26 => (intro w' hSw; (try dsimp only at hSw); go_simp; try with_reducible rfl)
      (try simp only [Act.put, List.setIfInBounds_toArray, List.set_cons_zero, List.set_cons_succ])
      refine take_atD (v := ?ya27) 27 rfl (by kernel_rfl) (by kernel_rfl) (by kernel_rfl) (fun _ _ _ h => h) (Or.inl ⟨by rfl, ?yy27⟩) (by assumption) ?yr27
      case yy27 => (intro w' hSw; (try dsimp only at hSw); go_simp; try with_reducible rfl)
      (try simp only [Act.put, List.setIfInBounds_toArray, List.set_cons_zero, List.set_cons_succ])
      refine take_atD (v := ?ya28) 28 rfl (by kernel_rfl) (by kernel_rfl) (by kernel_rfl) (fun _ _ _ h => h) (Or.inl ⟨by rfl, ?yy28⟩) (by assumption) ?yr28
      case yy28 => (intro w' hSw; (try dsimp only at hSw); go_simp; try with_reducible rfl)
      (try simp only [Act.put, List.setIfInBounds_toArray, List.set_cons_zero, List.set_cons_succ])
      refine take_atD (v := ?ya29) 29 rfl (by kernel_rfl) (by kernel_rfl) (by kernel_rfl) (fun _ _ _ h => h) (Or.inl ⟨by rfl, ?yy29⟩) (by assumption) ?yr29
      case yy29 => (intro w' hSw; (try dsimp only at hSw); go_simp; try with_reducible rfl)
      (try simp only [Act.put, List.setIfInBounds_toArray, List.set_cons_zero, List.set_cons_succ])
      refine take_atD (v := ?ya31) 31 rfl (by kernel_rfl) (by kernel_rfl) (by kernel_rfl) (fun _ _ _ h => h) (Or.inl ⟨by rfl, ?yy31⟩) (by assumption) ?yr31
      case yy31 => (intro w' hSw; (try dsimp only at hSw); go_simp; try with_reducible rfl)
      (try simp only [Act.put, List.setIfInBounds_toArray, List.set_cons_zero, List.set_cons_succ])
      refine take_atD (v := ?ya32) 32 rfl (by kernel_rfl) (by kernel_rfl) (by kernel_rfl) (fun _ _ _ h => h) (Or.inl ⟨by rfl, ?yy32⟩) (by assumption) ?yr32
      case yy32 => (intro w' hSw; (try dsimp only at hSw); go_simp; try with_reducible rfl)
      (try simp only [Act.put, List.setIfInBounds_toArray, List.set_cons_zero, List.set_cons_succ])
      refine take_atD (v := ?ya33) 33 rfl (by kernel_rfl) (by kernel_rfl) (by kernel_rfl) (fun _ _ _ h => h) (Or.inl ⟨by rfl, ?yy33⟩) (by assumption) ?yr33
      case yy33 => (intro w' hSw; (try dsimp only at hSw); go_simp; try with_reducible rfl)
      (try simp only [Act.put, List.setIfInBounds_toArray, List.set_cons_zero, List.set_cons_succ])
      refine take_atD (v := ?ya34) 34 rfl (by kernel_rfl) (by kernel_rfl) (by kernel_rfl) (fun _ _ _ h => h) (Or.inl ⟨by rfl, ?yy34⟩) (by assumption) ?yr34
      case yy34 => (intro w' hSw; (try dsimp only at hSw); go_simp; try with_reducible rfl)
      (try simp only [Act.put, List.setIfInBounds_toArray, List.set_cons_zero, List.set_cons_succ])
      refine wpAnyH_ready (rs := [30]) (by kernel_rfl) (by simp) ?_
      refine ready_atD rfl (fun K hK => ?_)
      go_simp
      refine DQ.out.mono ?_
      rintro e w' ⟨rfl, rfl⟩
      go_wp2_with fail
      refine hK.out _ _ ?yaS30 (fun hHeld => ?_)
      case yaS30 => (try dsimp only); exact hS2
      clear hK K
      (try simp only [Act.put, List.setIfInBounds_toArray, List.set_cons_zero, List.set_cons_succ])
      refine take_atD (v := ?za35) 35 rfl (by kernel_rfl) (by kernel_rfl) (by kernel_rfl) (fun _ _ _ h => h) (Or.inl ⟨by rfl, ?zy35⟩) (by assumption) ?zr35
      case zy35 => (intro w' hSw; (try dsimp only at hSw); go_simp; try with_reducible rfl)
      (try simp only [Act.put, List.setIfInBounds_toArray, List.set_cons_zero, List.set_cons_succ])
      refine take_atD (v := ?za36) 36 rfl (by kernel_rfl) (by kernel_rfl) (by kernel_rfl) (fun _ _ _ h => h) (Or.inl ⟨by rfl, ?zy36⟩) (by assumption) ?zr36
      case zy36 => (intro w' hSw; (try dsimp only at hSw); go_simp; try with_reducible rfl)
      (try simp only [Act.put, List.setIfInBounds_toArray, List.set_cons_zero, List.set_cons_succ])
      refine wpAnyH_done (by kernel_rfl) ?_ _
      have x0' := hS2.1
      clear WQ DQ hS2
      go_wp2_with fail
      refine SQ.out.mono ?_
      rintro e w6 ⟨rfl, rfl⟩
      have C1 := hidd (c_read D2.out.d.cd 0 N (by omega) (by omega) (by omega) (by omega))
      obtain ⟨kk, ekk⟩ : ∃ kk, rdK s' N 0 N = kk := ⟨_, rfl⟩
      rw [ekk] at C1
      have EK := hidd ekk
      clear SQ ekk
      go_wp2_with fail
      refine C1.out.mono ?_
      rintro e w7 ⟨v, rfl, ow, b7⟩
      have D3 := D2.out.quiet b7
      have C2 := hidd (d_read D3.r 0 N (by omega) (by omega) (by omega) (by omega))
      have CV := str_of_own ow
      obtain ⟨t, et⟩ : ∃ t, strOfNums (rdL s' N 0 N) = t := ⟨_, rfl⟩
      rw [et] at CV C2
      rw [EK.out] at C2
      have z0 := keepCell b7 x0'
      have D3 := hidd D3
      clear C1 D2 b7 ow et x0'
      go_wp2_with fail
      refine C2.out.mono ?_
      rintro e w8 ⟨rfl, rfl⟩
      go_wp2_with fail
      go_roundw
      case rel => exact ⟨i + 1, s', F2, G2, by omega, by omega, by go_num, D3, SN⟩
      case measure => simp [intOf]; omega
    all_goals
      go_wp2_with fail
      go_ret
      exact ⟨rfl, D.out.d.bel⟩

end Go.Proofs.Ytinplpcobmbekaa
