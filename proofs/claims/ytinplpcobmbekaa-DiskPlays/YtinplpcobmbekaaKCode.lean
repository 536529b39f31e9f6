/-
  What package disk's methods tell: each leaves the disk in the state that the document's words give it; in whatever memory where the disk lies.
-/
import Derived.Test.YtinplpcobmbekaaBD
import Derived.Test.YtinplpcobmbekaaCDiskT
import Derived.Laws.CopyOwn
import Derived.Below
import Derived.Test.YtinplpcobmbekaaProg
import Derived.Handy
import Derived.Deep.QuietTactic
import Derived.WalkSpells
import Derived.WalkLawsBesides
import Derived.BigQuiet
import Derived.PlainAid
import Derived.Deep.RegionWith
import Derived.Laws.BitsAllLaws
import Derived.OwnWalk
import Derived.Laws.OwnMore
import Derived.Deep.RegionHeld3
import Derived.WalkSmall
import Derived.Deep.CutRange
import Derived.BigRegion
import Derived.OneCell
import Derived.Sort.Row
import Derived.ChangeSlices
import Derived.OpenShut
import Derived.Deep.AppendLies
import Derived.Laws.BytesArg
import Derived.Laws.CopyRow
import Derived.Laws.IdiomCopy
import Derived.Deep.OwnRows
import Derived.Deep.RegionLaw
namespace Go.Proofs.Ytinplpcobmbekaa
open Go.RowKit

set_option maxHeartbeats 4000000 in
theorem k_count {w : World} {P : Nat} {N M : List Int} {ws : List Wt} {m l : Int} {n : Nat} {F : Nat → Prop} {vn vl vw : Value} (h : KV w P N M ws m l n F vn vl vw) (l1 : -9223372036854775808 ≤ l) (l2 : l ≤ 9223372036854775807) :
    Calls Try.prog 27 #[.pointer (some ⟨P, 0, none⟩)] w fun e w' => e = .returned (.tuple #[]) ∧ KV w' P N M ws m (cntL l) n F vn vl vw ∧ Frm F w w' := by
  have c4 := h.blk.cells.2.2.2.2
  have f4 := h.blk.frozen 4
  have hH := hidd h
  unfold cntL
  by_cases h0 : 0 < l
  · rw [if_pos h0]
    clear h
    go_enter Try.func27, Try.ntmps27
    go_wp2
    go_end0
    exact ⟨rfl, hH.out.mark (hH.out.blk.set4 _) (set_far _ _ _ _) (set_size _ _ _), Frm.set (p := ⟨P, 4, none⟩) hH.out.fp _⟩
  · rw [if_neg h0]
    clear h
    go_enter Try.func27, Try.ntmps27
    go_wp2
    go_end0
    exact ⟨rfl, hH.out, Frm.refl _ _⟩

theorem k_dead {w : World} {P : Nat} {N M : List Int} {ws : List Wt} {m l : Int} {n : Nat} {F : Nat → Prop} {vn vl vw : Value} (h : KV w P N M ws m l n F vn vl vw) {d : Bool} (hd : d = decide (l = 0)) :
    Calls Try.prog 17 #[.pointer (some ⟨P, 0, none⟩)] w fun e w' => e = .returned (.bool d) ∧ w' = w := by
  have c4 := h.blk.cells.2.2.2.2
  subst hd
  clear h
  by_cases h0 : l = 0
  · subst h0
    go_enter Try.func17, Try.ntmps17
    go_wp2
    go_ret
    exact ⟨rfl, rfl⟩
  · go_enter Try.func17, Try.ntmps17
    go_wp2
    go_ret
    simp [h0]

theorem k_size {w : World} {P : Nat} {N M : List Int} {ws : List Wt} {m l : Int} {n : Nat} {F : Nat → Prop} {vn vl vw : Value} (h : KV w P N M ws m l n F vn vl vw) :
    Calls Try.prog 22 #[.pointer (some ⟨P, 0, none⟩)] w fun e w' => e = .returned (.int .i64 (n : Int)) ∧ w' = w := by
  have c0 := h.blk.cells.1
  obtain ⟨p, c, rfl⟩ := row_any h.now
  clear h
  go_enter Try.func22, Try.ntmps22
  go_wp2
  go_ret
  exact ⟨rfl, rfl⟩

theorem k_waits {w : World} {P : Nat} {N M : List Int} {ws : List Wt} {m l : Int} {n : Nat} {F : Nat → Prop} {vn vl vw : Value} (h : KV w P N M ws m l n F vn vl vw) :
    Calls Try.prog 16 #[.pointer (some ⟨P, 0, none⟩)] w fun e w' => e = .returned (.int .i64 m) ∧ w' = w := by
  have c3 := h.blk.cells.2.2.2.1
  clear h
  go_enter Try.func16, Try.ntmps16
  go_wp2
  go_ret
  exact ⟨rfl, rfl⟩

set_option maxHeartbeats 4000000 in
theorem k_refuses {w : World} {P : Nat} {s : DS} {N M : List Int} {ws : List Wt} {m l : Int} {n : Nat} {F : Nat → Prop} {vn vl vw : Value} (h : KV w P N M ws m l n F vn vl vw) (hd : s.dead = decide (l = 0)) (a k : Int) (a1 : -9223372036854775808 ≤ a) (a2 : a ≤ 9223372036854775807) (k1 : -9223372036854775808 ≤ k) (k2 : k ≤ 9223372036854775807) :
    Calls Try.prog 24 #[.pointer (some ⟨P, 0, none⟩), .int .i64 a, .int .i64 k] w fun e w' => e = .returned (.int .i64 (rdK s n a k)) ∧ w' = w := by
  have SZ := hidd (k_size h)
  have DD := hidd (k_dead h hd)
  have hn := h.size
  clear h hd
  by_cases h1 : a < 0
  · have E := hidd (rd_arg (s := s) (n := n) (a := a) (m := k) (by unfold outD; simp [h1])).1
    go_enter Try.func24, Try.ntmps24
    go_wp2
    go_ret
    rw [E.out]
    exact ⟨rfl, rfl⟩
  by_cases h2 : k < 0
  · have E := hidd (rd_arg (s := s) (n := n) (a := a) (m := k) (by unfold outD; simp [h2])).1
    go_enter Try.func24, Try.ntmps24
    go_wp2
    go_ret
    rw [E.out]
    exact ⟨rfl, rfl⟩
  have hw : wrap64 ((n : Int) - a) = (n : Int) - a := wrap_fits (by omega)
  by_cases h3 : (n : Int) - a < k
  · have E := hidd (rd_arg (s := s) (n := n) (a := a) (m := k) (by unfold outD; simp [h3])).1
    go_enter Try.func24, Try.ntmps24
    go_wp2_with fail
    refine SZ.out.mono ?_
    rintro e w1 ⟨rfl, rfl⟩
    go_wp2
    go_ret
    rw [E.out]
    exact ⟨rfl, rfl⟩
  · have ho := out_in (n := n) (a := a) (m := k) (by omega) (by omega) (by omega)
    cases hd : s.dead
    · have E := hidd (rd_ok ho hd).1
      rw [hd] at DD
      go_enter Try.func24, Try.ntmps24
      go_wp2_with fail
      refine SZ.out.mono ?_
      rintro e w1 ⟨rfl, rfl⟩
      go_wp2_with fail
      refine DD.out.mono ?_
      rintro e w1 ⟨rfl, rfl⟩
      go_wp2
      go_ret
      rw [E.out]
      exact ⟨rfl, rfl⟩
    · have E := hidd (rd_dead ho hd).1
      rw [hd] at DD
      go_enter Try.func24, Try.ntmps24
      go_wp2_with fail
      refine SZ.out.mono ?_
      rintro e w1 ⟨rfl, rfl⟩
      go_wp2_with fail
      refine DD.out.mono ?_
      rintro e w1 ⟨rfl, rfl⟩
      go_wp2
      go_ret
      rw [E.out]
      exact ⟨rfl, rfl⟩

theorem c_size {w : World} {P : Nat} {s : DS} {n : Nat} {F : Nat → Prop} (h : CD w P s n F) : Calls Try.prog 22 #[.pointer (some ⟨P, 0, none⟩)] w fun e w' => TellsQ (.int .i64 (n : Int)) w e w' := by
  obtain ⟨vn, vl, vw, ws, l, k, -⟩ := h
  refine (k_size k).mono ?_
  rintro e w' ⟨rfl, rfl⟩
  exact ⟨rfl, Below.refl _ _⟩

theorem c_waits {w : World} {P : Nat} {s : DS} {n : Nat} {F : Nat → Prop} (h : CD w P s n F) : Calls Try.prog 16 #[.pointer (some ⟨P, 0, none⟩)] w fun e w' => TellsQ (.int .i64 (s.waits.length : Int)) w e w' := by
  obtain ⟨vn, vl, vw, ws, l, k, -⟩ := h
  refine (k_waits k).mono ?_
  rintro e w' ⟨rfl, rfl⟩
  exact ⟨rfl, Below.refl _ _⟩

theorem c_dead {w : World} {P : Nat} {s : DS} {n : Nat} {F : Nat → Prop} (h : CD w P s n F) : Calls Try.prog 17 #[.pointer (some ⟨P, 0, none⟩)] w fun e w' => TellsQ (.bool s.dead) w e w' := by
  obtain ⟨vn, vl, vw, ws, l, k, -, -, hl, -⟩ := h
  refine (k_dead k hl.1).mono ?_
  rintro e w' ⟨rfl, rfl⟩
  exact ⟨rfl, Below.refl _ _⟩

end Go.Proofs.Ytinplpcobmbekaa
