/-
  Package disk's Read; in whatever memory where the disk lies.
-/
import Derived.Test.YtinplpcobmbekaaKLow
import Derived.Test.YtinplpcobmbekaaKCode
import Derived.Laws.CopyOwn
import Derived.Below
import Derived.Test.YtinplpcobmbekaaProg
import Derived.Handy
import Derived.Deep.QuietTactic
import Derived.WalkSpells
import Derived.WalkLawsBesides
import Derived.BigQuiet
import Derived.PlainAid
import Derived.Deep.RegionWith
import Derived.Laws.BitsAllLaws
import Derived.OwnWalk
import Derived.Laws.OwnMore
import Derived.Deep.RegionHeld3
import Derived.WalkSmall
import Derived.Deep.CutRange
import Derived.BigRegion
import Derived.OneCell
import Derived.Sort.Row
import Derived.ChangeSlices
import Derived.OpenShut
import Derived.Deep.AppendLies
import Derived.Laws.BytesArg
import Derived.Laws.CopyRow
import Derived.Laws.IdiomCopy
import Derived.Deep.OwnRows
import Derived.Deep.RegionLaw
namespace Go.Proofs.Ytinplpcobmbekaa
open Go.RowKit

theorem rd_cases (s : DS) (n : Nat) (a m : Int) : (rdK s n a m = 1 ∧ rdL s n a m = []) ∨ (rdK s n a m = 9 ∧ rdL s n a m = []) ∨ (rdK s n a m = 0 ∧ outD n a m = false ∧ s.dead = false ∧ rdL s n a m = (s.now.drop a.toNat).take m.toNat) := by
  cases ho : outD n a m
  · cases hd : s.dead
    · obtain ⟨x, y⟩ := rd_ok ho hd
      exact .inr (.inr ⟨x, rfl, rfl, y⟩)
    · exact .inr (.inl (rd_dead ho hd))
  · exact .inl (rd_arg ho)

set_option maxHeartbeats 4000000 in
theorem c_read {w : World} {P : Nat} {s : DS} {n : Nat} {F : Nat → Prop} (h : CD w P s n F) (a m : Int) (a1 : -9223372036854775808 ≤ a) (a2 : a ≤ 9223372036854775807) (m1 : -9223372036854775808 ≤ m) (m2 : m ≤ 9223372036854775807) :
    Calls Try.prog 18 #[.pointer (some ⟨P, 0, none⟩), .int .i64 a, .int .i64 m] w fun e w' => TellsB (rdL s n a m) (rdK s n a m) w e w' := by
  obtain ⟨vn, vl, vw, ws, l, h, -, -, hl, ho, -⟩ := h
  have RF := hidd (k_refuses (s := s) h hl.1 a m a1 a2 m1 m2)
  have c0 := h.blk.cells.1
  have hnow := hidd h.now
  obtain ⟨p, c, rfl⟩ := row_any h.now
  have hn := h.size
  clear h hl ho
  rcases rd_cases s n a m with ⟨e1, e2⟩ | ⟨e1, e2⟩ | ⟨e1, ho, hd, e2⟩
  · rw [e1] at RF ⊢
    rw [e2]
    clear e1 e2
    go_enter Try.func18, Try.ntmps18
    go_wp2_with fail
    refine RF.out.mono ?_
    rintro e w' ⟨rfl, rfl⟩
    go_wp2
    go_ret2
    exact ⟨_, rfl, World.ownsRow_nil _ _ _ _, Below.refl _ _⟩
  · rw [e1] at RF ⊢
    rw [e2]
    clear e1 e2
    go_enter Try.func18, Try.ntmps18
    go_wp2_with fail
    refine RF.out.mono ?_
    rintro e w' ⟨rfl, rfl⟩
    go_wp2
    go_ret2
    exact ⟨_, rfl, World.ownsRow_nil _ _ _ _, Below.refl _ _⟩
  · obtain ⟨i, j, rfl, rfl, hij⟩ := out_no ho
    rw [Int.toNat_natCast, Int.toNat_natCast] at e2
    rw [e1] at RF ⊢
    rw [e2]
    obtain ⟨q, hq⟩ : ∃ q, i + j = q := ⟨_, rfl⟩
    have hw : wrap64 ((i : Int) + (j : Int)) = (q : Int) := by rw [wrap_fits (by omega)]; omega
    have hqi : q - i = j := by omega
    have hln : s.now.length = n := by have := hnow.out.1; rw [bV_len] at this; omega
    have hlen : ((s.now.drop i).take j).length = j := by rw [List.length_take, List.length_drop]; omega
    clear a1 a2 m1 m2 ho e1 e2
    have i0 : (0 : Int) ≤ (i : Int) := by omega
    have i1 : (i : Int) ≤ (q : Int) := by omega
    rcases hnow.out.2 with ⟨e, e0⟩ | ⟨g, cap, cur, e, -, -, hnc, -⟩
    · simp only [Value.slice.injEq] at e
      obtain ⟨rfl, -, rfl⟩ := e
      obtain rfl : i = 0 := by omega
      obtain rfl : j = 0 := by omega
      obtain rfl : q = 0 := by omega
      have CL := hidd (k_clone (w := w) (v := .slice none 0 0) (bs := []) ⟨none, 0, rfl, fun h => by simp at h⟩ (.inl rfl) (by simp))
      rw [List.take_zero]
      clear hlen hln hq
      go_enter Try.func18, Try.ntmps18
      go_wp2_with fail
      refine RF.out.mono ?_
      rintro e w' ⟨rfl, rfl⟩
      go_wp2_with fail
      refine CL.out.mono ?_
      rintro e w2 ⟨u, rfl, hu, hb⟩
      go_wp2
      go_ret2
      exact ⟨_, rfl, hu, hb⟩
    · simp only [Value.slice.injEq] at e
      obtain ⟨rfl, -, rfl⟩ := e
      have i2 : (q : Int) ≤ (c : Int) := by omega
      by_cases hc : c = i
      · obtain rfl : j = 0 := by omega
        obtain rfl : q = i := by omega
        subst hc
        have CL := hidd (k_clone (w := w) (v := .slice (some ⟨g, 0, none⟩) 0 0) (bs := []) ⟨_, 0, rfl, fun h => by simp at h⟩ (.inr ⟨_, _, _, rfl⟩) (by simp))
        rw [List.take_zero]
        clear hlen hln hq
        go_enter Try.func18, Try.ntmps18
        go_wp2_with fail
        refine RF.out.mono ?_
        rintro e w' ⟨rfl, rfl⟩
        go_wp2_with fail
        refine CL.out.mono ?_
        rintro e w2 ⟨u, rfl, hu, hb⟩
        go_wp2
        go_ret2
        exact ⟨_, rfl, hu, hb⟩
      · have CL := hidd (k_clone (w := w) (v := .slice (some ⟨g, i, none⟩) j (c - i)) (bs := (s.now.drop i).take j) ⟨_, c - i, by rw [hlen], fun h => ⟨g, i, rfl, fun t ht => by
          rw [hlen] at ht
          rw [bytes_at hnow.out (i + t) (by omega)]
          simp⟩⟩ (.inr ⟨_, _, _, rfl⟩) (by omega))
        clear hlen hln hq
        go_enter Try.func18, Try.ntmps18
        go_wp2_with fail
        refine RF.out.mono ?_
        rintro e w' ⟨rfl, rfl⟩
        go_wp2_with fail
        refine CL.out.mono ?_
        rintro e w2 ⟨u, rfl, hu, hb⟩
        go_wp2
        go_ret2
        exact ⟨_, rfl, hu, hb⟩

end Go.Proofs.Ytinplpcobmbekaa
