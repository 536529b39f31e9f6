/-
  What taking the least word off a pair of rows leaves; the methods by which a side is chosen; in whatever memory.
-/
import Derived.Test.YtogkfmoediiieaaUNext
import Derived.Laws.BitsAllLaws
import Derived.Handy
import Derived.Deep.QuietTactic
import Derived.Test.YtogkfmoediiieaaProg
import Derived.WalkSpells
import Derived.WalkLawsBesides
import Derived.BigQuiet
import Derived.PlainAid
import Derived.Deep.RegionWith
import Derived.Deep.RegionHeld3
import Derived.WalkSmall
import Derived.Deep.CutRange
import Derived.BigRegion
import Derived.OwnWalk
import Derived.Laws.OwnMore
import Derived.OneCell
import Derived.Laws.CopyOwn
import Derived.Sort.Row
import Derived.Deep.Cut
namespace Go.Proofs.Ytogkfmoediiieaa
open Go.RowKit

/-- The pair at the block g. -/
def PairAt (g : Nat) (s t : Value) (w : World) : Prop := w.cell? ⟨g, 0, none⟩ = some s ∧ w.cell? ⟨g, 1, none⟩ = some t ∧ w.frozen? ⟨g, 0, none⟩ = false ∧ w.frozen? ⟨g, 1, none⟩ = false

/-- All that was there stays, but for the block g. -/
def Aside (g : Nat) (a b : World) : Prop := a.heap.size ≤ b.heap.size ∧ ∀ k, k < a.heap.size → k ≠ g → b.heap[k]? = a.heap[k]?

theorem Aside.refl (g : Nat) (w : World) : Aside g w w := ⟨Nat.le_refl _, fun _ _ _ => rfl⟩

theorem Aside.trans {g : Nat} {a b c : World} (h : Aside g a b) (k : Aside g b c) : Aside g a c := ⟨Nat.le_trans h.1 k.1, fun i hi hg => (k.2 i (Nat.lt_of_lt_of_le hi h.1) hg).trans (h.2 i hi hg)⟩

theorem Aside.of_below {g : Nat} {a b : World} (h : Below a.heap.size a b) : Aside g a b := ⟨h.size, fun k hk _ => h.block k hk⟩

theorem Aside.setCell {g : Nat} {a b : World} (h : Aside g a b) {p : Addr} (hp : p.block = g) (u : Value) : Aside g a (b.setCell p u) := by
  refine ⟨by simpa using h.1, fun k hk hg => ?_⟩
  rw [Below.heap_setCell b p u k (by rw [hp]; exact hg), h.2 k hk hg]

theorem Aside.setNew {g : Nat} {a b : World} (h : Aside g a b) {p : Addr} (hp : a.heap.size ≤ p.block) (u : Value) : Aside g a (b.setCell p u) := by
  refine ⟨by simpa using h.1, fun k hk hg => ?_⟩
  rw [Below.heap_setCell b p u k (by omega), h.2 k hk hg]

theorem Aside.own {g base : Nat} {a b : World} (h : Aside g a b) {e : TypeId} {size n : Nat} {v : Value} {xs : List Value} (ho : a.ownsRow base e size v n xs) (hg : g < base) : b.ownsRow base e size v n xs := by
  refine ⟨ho.1, ho.2.imp id fun ⟨q, c, cur, e1, e2, e3, r⟩ => ⟨q, c, cur, e1, e2, ?_, r⟩⟩
  have hq : q < a.heap.size := (Array.getElem?_eq_some_iff.1 e3).1
  rw [h.2 q hq (by omega)]
  exact e3

/-- Within next: the pair at g, the result's block h, the sides' block k. -/
def Mid (w w0 : World) (g h k : Nat) (x y : Bool) (s t : Value) (wx : World) : Prop := PairAt g s t wx ∧ (wx.cell? ⟨h, 0, none⟩ = some (.bool false) ∧ wx.cell? ⟨h, 1, none⟩ = some (.bool false) ∧ wx.frozen? ⟨h, 0, none⟩ = false ∧ wx.frozen? ⟨h, 1, none⟩ = false) ∧ (wx.cell? ⟨k, 0, none⟩ = some (.bool x) ∧ wx.cell? ⟨k, 1, none⟩ = some (.bool y)) ∧ Below w0.heap.size w0 wx ∧ Aside g w wx

theorem ne_block {g h o o' : Nat} (n : ¬ g = h) : (⟨g, o, none⟩ : Addr) ≠ ⟨h, o', none⟩ := fun e => n (congrArg Addr.block e)

theorem Mid.store0 {w w0 : World} {g h k : Nat} {x y : Bool} {s t : Value} {wx : World} (m : Mid w w0 g h k x y s t wx) (hg : w0.heap.size ≤ g) (gh : ¬ g = h) (gk : ¬ g = k) (s' : Value) : Mid w w0 g h k x y s' t (wx.setCell ⟨g, 0, none⟩ s') := by
  obtain ⟨⟨a1, a2, a3, a4⟩, ⟨b1, b2, b3, b4⟩, ⟨c1, c2⟩, d1, d2⟩ := m
  exact ⟨⟨store_new a1, store_keep a2 (by simp), by rw [World.frozen?_setCell]; exact a3, by rw [World.frozen?_setCell]; exact a4⟩, ⟨store_keep b1 (ne_block gh), store_keep b2 (ne_block gh), by rw [World.frozen?_setCell]; exact b3, by rw [World.frozen?_setCell]; exact b4⟩, ⟨store_keep c1 (ne_block gk), store_keep c2 (ne_block gk)⟩, d1.setCell hg _, d2.setCell rfl _⟩

theorem Mid.store1 {w w0 : World} {g h k : Nat} {x y : Bool} {s t : Value} {wx : World} (m : Mid w w0 g h k x y s t wx) (hg : w0.heap.size ≤ g) (gh : ¬ g = h) (gk : ¬ g = k) (t' : Value) : Mid w w0 g h k x y s t' (wx.setCell ⟨g, 1, none⟩ t') := by
  obtain ⟨⟨a1, a2, a3, a4⟩, ⟨b1, b2, b3, b4⟩, ⟨c1, c2⟩, d1, d2⟩ := m
  exact ⟨⟨store_keep a1 (by simp), store_new a2, by rw [World.frozen?_setCell]; exact a3, by rw [World.frozen?_setCell]; exact a4⟩, ⟨store_keep b1 (ne_block gh), store_keep b2 (ne_block gh), by rw [World.frozen?_setCell]; exact b3, by rw [World.frozen?_setCell]; exact b4⟩, ⟨store_keep c1 (ne_block gk), store_keep c2 (ne_block gk)⟩, d1.setCell hg _, d2.setCell rfl _⟩

set_option maxHeartbeats 4000000 in
set_option maxRecDepth 20000 in
theorem next_any (w0 : World) (g : Nat) (s t : Value) (A B : List Int) (hg : w0.heap.size ≤ g) (uA : ∀ x ∈ A, U64 x) (uB : ∀ x ∈ B, U64 x) (hA : Lst w0 s A) (hB : Lst w0 t B) (w : World) (hW : Below w0.heap.size w0 w) (hP : PairAt g s t w) :
    Calls Try.prog 56 #[.pointer (some ⟨g, 0, none⟩)] w fun e w' => e = .returned (.tuple #[.int .u64 (lstW A B), .agg #[.bool (hdIs (lstW A B) A), .bool (hdIs (lstW A B) B)]]) ∧
      (∃ s' t', Lst w0 s' (cutW (hdIs (lstW A B) A) A) ∧ Lst w0 t' (cutW (hdIs (lstW A B) B) B) ∧ PairAt g s' t' w') ∧ Below w0.heap.size w0 w' ∧ Aside g w w' := by
  obtain ⟨p0, p1, f0, f1⟩ := hP
  have q0 := World.block_lt_of_cell? _ _ p0
  have LE : Hid (∀ w, Below w0.heap.size w0 w → Calls Try.prog 80 #[.agg #[s, t]] w fun e w' => e = .returned (.int .u64 (lstW A B)) ∧ w' = w.alloc (.cells #[s, t] 90)) :=
    hidd fun w hb => least_any s t A B w (Lst.keep hA hb) (Lst.keep hB hb) uA uB
  have BA : Hid (∀ w, Below w0.heap.size w0 w → Calls Try.prog 81 #[s, .int .u64 (lstW A B)] w fun e w' => e = .returned (.bool (hdIs (lstW A B) A)) ∧ w' = w) :=
    hidd fun w hb => begins_any s _ A w (Lst.keep hA hb)
  have BB : Hid (∀ w, Below w0.heap.size w0 w → Calls Try.prog 81 #[t, .int .u64 (lstW A B)] w fun e w' => e = .returned (.bool (hdIs (lstW A B) B)) ∧ w' = w) :=
    hidd fun w hb => begins_any t _ B w (Lst.keep hB hb)
  have hcA : Hid (hdIs (lstW A B) A = true → ∃ g o n c, s = .slice (some ⟨g, o, none⟩) n c ∧ 0 < n ∧ n ≤ c ∧ Lst w0 (.slice (some ⟨g, o + 1, none⟩) (n - 1) (c - 1)) A.tail ∧ (c = 1 → Lst w0 (.slice (some ⟨g, o, none⟩) 0 0) A.tail)) := hidd fun h => by
    have hL := hA
    obtain ⟨p, c, rfl, -, -⟩ := hL
    cases A with
    | nil => cases h
    | cons a A =>
      obtain ⟨g, o, rfl, h1, -, -, h2, h3⟩ := Lst.tail hA (Nat.succ_pos _)
      exact ⟨g, o, _, c, rfl, Nat.succ_pos _, h1, h2, h3⟩
  have hcB : Hid (hdIs (lstW A B) B = true → ∃ g o n c, t = .slice (some ⟨g, o, none⟩) n c ∧ 0 < n ∧ n ≤ c ∧ Lst w0 (.slice (some ⟨g, o + 1, none⟩) (n - 1) (c - 1)) B.tail ∧ (c = 1 → Lst w0 (.slice (some ⟨g, o, none⟩) 0 0) B.tail)) := hidd fun h => by
    have hL := hB
    obtain ⟨p, c, rfl, -, -⟩ := hL
    cases B with
    | nil => cases h
    | cons a B =>
      obtain ⟨g, o, rfl, h1, -, -, h2, h3⟩ := Lst.tail hB (Nat.succ_pos _)
      exact ⟨g, o, _, c, rfl, Nat.succ_pos _, h1, h2, h3⟩
  have HA := hidd hA
  have HB := hidd hB
  obtain ⟨ps, cs, es, -, -⟩ := hA
  obtain ⟨pt, ct, et, -, -⟩ := hB
  clear uA uB
  obtain ⟨ns, ens⟩ : ∃ n, A.length = n := ⟨_, rfl⟩
  obtain ⟨nt, ent⟩ : ∃ n, B.length = n := ⟨_, rfl⟩
  rw [ens] at es
  rw [ent] at et
  subst es et
  replace ens := hidd ens
  replace ent := hidd ent
  generalize lstW A B = W at *
  generalize hdIs W A = x at *
  generalize hdIs W B = y at *
  obtain ⟨U, eU⟩ : ∃ U, cutW x A = U := ⟨_, rfl⟩
  obtain ⟨V, eV⟩ : ∃ V, cutW y B = V := ⟨_, rfl⟩
  go_enter Try.func56, Try.ntmps56
  go_wp2_with fail
  refine (LE.out _ (Below.trans hW ((allocB _ _).mono hW.size))).mono ?_
  rintro e w1 ⟨rfl, hw1⟩
  have b1 : Below w0.heap.size w0 w1 := by rw [hw1]; exact hW.trans ((belowT (allocB _ _) (allocB _ _)).mono hW.size)
  have m1 : Below w.heap.size w w1 := by rw [hw1]; exact belowT (allocB _ _) (allocB _ _)
  have r0 : w1.cell? ⟨w.heap.size, 0, none⟩ = some (.bool false) := by rw [hw1]; go_simp
  have r1 : w1.cell? ⟨w.heap.size, 1, none⟩ = some (.bool false) := by rw [hw1]; go_simp
  have e0 : w1.frozen? ⟨w.heap.size, 0, none⟩ = false := by rw [hw1]; go_simp
  have e1 : w1.frozen? ⟨w.heap.size, 1, none⟩ = false := by rw [hw1]; go_simp
  replace f0 := keepFrozen m1 p0 f0
  replace f1 := keepFrozen m1 p1 f1
  replace p0 := keepCell m1 p0
  replace p1 := keepCell m1 p1
  have q1 := World.block_lt_of_cell? _ _ r0
  have hne : ¬ g = w.heap.size := Nat.ne_of_lt q0
  have hne2 : ¬ w.heap.size = g := fun h => hne h.symm
  clear hw1
  have q2 := World.block_lt_of_cell? _ _ p0
  have hne3 : ¬ g = w1.heap.size := Nat.ne_of_lt q2
  have hne4 : ¬ w1.heap.size = g := fun h => hne3 h.symm
  have hne5 : ¬ w.heap.size = w1.heap.size := Nat.ne_of_lt q1
  have hne6 : ¬ w1.heap.size = w.heap.size := fun h => hne5 h.symm
  have b1d : Below w0.heap.size w0 w1.drew := b1.drew
  have b1a : ∀ o, Below w0.heap.size w0 (w1.alloc o).drew := fun o => (b1.alloc b1.size o).drew
  go_upto_region 15 with fail
  go_cut [5] from 10 (fun v5 wx => v5 = .pointer (some ⟨w1.heap.size, 0, none⟩) ∧ wx = (w1.alloc (.cells #[.bool x, .bool y] 72)).drew)
  case first =>
    go_region_with (go_at_call 81; (first | (with_reducible refine (BA.out _ (by first | exact b1d | exact b1a _)).mono ?_; rintro e w' ⟨rfl, rfl⟩) | (with_reducible refine (BB.out _ (by first | exact b1d | exact b1a _)).mono ?_; rintro e w' ⟨rfl, rfl⟩)))
    all_goals (go_wp2_with fail; go_meet; exact ⟨rfl, rfl⟩)
  case rest =>
    obtain ⟨rfl, rfl⟩ := hcut
    have m2 : Below w1.heap.size w1 (w1.alloc (.cells #[.bool x, .bool y] 72)).drew := (allocB w1 _).drew
    have M : Mid w w0 g w.heap.size w1.heap.size x y (.slice ps ns cs) (.slice pt nt ct) (w1.alloc (.cells #[.bool x, .bool y] 72)).drew :=
      ⟨⟨keepCell m2 p0, keepCell m2 p1, keepFrozen m2 p0 f0, keepFrozen m2 p1 f1⟩, ⟨keepCell m2 r0, keepCell m2 r1, keepFrozen m2 r0 e0, keepFrozen m2 r1 e1⟩, ⟨by go_simp, by go_simp⟩, b1a _, Aside.of_below (m1.trans (m2.mono m1.size))⟩
    clear m2 p0 p1 f0 f1 r0 r1 e0 e1 b1a b1d b1 m1 q1 q2
    generalize (w1.alloc (.cells #[.bool x, .bool y] 72)).drew = wq at *
    generalize w1.heap.size = k at *
    clear w1
    have M0 := hidd M
    obtain ⟨⟨p0, p1, f0, f1⟩, ⟨r0, r1, e0, e1⟩, ⟨c0, c1⟩, -, -⟩ := M
    go_upto_if 24 with fail
    go_cut [4] from 25 (fun v4 wx => v4 = .int .u64 W ∧ ∃ s', Hid (Mid w w0 g w.heap.size k x y s' (.slice pt nt ct) wx) ∧ Hid (Lst w0 s' U))
    case first =>
      cases x with
      | false =>
        go_wp2_with fail
        go_meet
        case rel => exact ⟨rfl, _, M0, hidd (by rw [← eU]; exact HA.out)⟩
      | true =>
        obtain ⟨g1, o, n, c, es, hn, hc, h1, h2⟩ := hcA.out rfl
        simp only [Value.slice.injEq] at es
        obtain ⟨rfl, rfl, rfl⟩ := es
        replace h1 := hidd h1
        replace h2 := hidd h2
        by_cases hc1 : cs = 1
        · subst hc1
          obtain rfl : ns = 1 := by omega
          go_wp2_with fail
          go_meet
          case rel => exact ⟨rfl, _, hidd (M0.out.store0 hg hne hne3 _), hidd (by rw [← eU]; exact h2.out (by trivial))⟩
        · have hc2 : (1 : Int) ≤ (ns : Int) := by omega
          go_wp2_with fail
          go_meet
          case rel => exact ⟨rfl, _, hidd (M0.out.store0 hg hne hne3 _), hidd (by rw [← eU]; exact h1.out)⟩
    case rest =>
      obtain ⟨rfl, s', M2, hS⟩ := hcut
      clear M0 p0 p1 f0 f1 r0 r1 e0 e1 c0 c1
      obtain ⟨ps', cs', es, -, -⟩ := hS.out
      generalize U.length = ns' at es
      subst es
      obtain ⟨⟨p0, p1, f0, f1⟩, ⟨r0, r1, e0, e1⟩, ⟨c0, c1⟩, -, -⟩ := M2.out
      go_upto_if 34 with fail
      go_cut [4] from 35 (fun v4 wx => v4 = .int .u64 W ∧ ∃ t', Hid (Mid w w0 g w.heap.size k x y (.slice ps' ns' cs') t' wx) ∧ Hid (Lst w0 t' V))
      case first =>
        cases y with
        | false =>
          go_wp2_with fail
          go_meet
          case rel => exact ⟨rfl, _, M2, hidd (by rw [← eV]; exact HB.out)⟩
        | true =>
          obtain ⟨g1, o, n, c, es, hn, hc, h1, h2⟩ := hcB.out rfl
          simp only [Value.slice.injEq] at es
          obtain ⟨rfl, rfl, rfl⟩ := es
          replace h1 := hidd h1
          replace h2 := hidd h2
          by_cases hc1 : ct = 1
          · subst hc1
            obtain rfl : nt = 1 := by omega
            go_wp2_with fail
            go_meet
            case rel => exact ⟨rfl, _, hidd (M2.out.store1 hg hne hne3 _), hidd (by rw [← eV]; exact h2.out (by trivial))⟩
          · have hc2 : (1 : Int) ≤ (nt : Int) := by omega
            go_wp2_with fail
            go_meet
            case rel => exact ⟨rfl, _, hidd (M2.out.store1 hg hne hne3 _), hidd (by rw [← eV]; exact h1.out)⟩
      case rest =>
        obtain ⟨rfl, t', M3, hV⟩ := hcut
        clear M2 p0 p1 f0 f1 r0 r1 e0 e1 c0 c1
        obtain ⟨⟨p0, p1, f0, f1⟩, ⟨r0, r1, e0, e1⟩, ⟨c0, c1⟩, d0, d1⟩ := M3.out
        go_wp2_with fail
        go_region
        go_wp2
        obtain ⟨z0, z1⟩ := two_stores (u := .bool x) (v := .bool y) r0 r1
        refine bodyPost_ret (v := .tuple #[.int .u64 W, .agg #[.bool x, .bool y]]) (by simp [results, Try.results56, go_sem, z0, z1]) rfl ⟨rfl, ⟨_, t', by rw [eU]; exact hS.out, by rw [eV]; exact hV.out, ⟨?_, ?_, ?_, ?_⟩⟩, ?_, ?_⟩
        · exact store_keep (store_keep p0 (ne_block hne2)) (ne_block hne2)
        · exact store_keep (store_keep p1 (ne_block hne2)) (ne_block hne2)
        · show World.frozen? _ _ = _
          rw [World.frozen?_drew, World.frozen?_setCell, World.frozen?_setCell]; exact f0
        · rw [World.frozen?_drew, World.frozen?_setCell, World.frozen?_setCell]; exact f1
        · exact ((d0.setCell hW.size _).setCell hW.size _).drew
        · exact (d1.setNew (Nat.le_refl _) _).setNew (Nat.le_refl _) _

end Go.Proofs.Ytogkfmoediiieaa
