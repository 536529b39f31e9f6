/-
  Package disk's methods that are handed to each: what they do to one write; in whatever memory.
-/
import Derived.Test.YtinplpcobmbekaaKLow
import Derived.Laws.CopyOwn
import Derived.Below
import Derived.Test.YtinplpcobmbekaaProg
import Derived.Handy
import Derived.Deep.QuietTactic
import Derived.WalkSpells
import Derived.WalkLawsBesides
import Derived.BigQuiet
import Derived.PlainAid
import Derived.Deep.RegionWith
import Derived.Laws.BitsAllLaws
import Derived.OwnWalk
import Derived.Laws.OwnMore
import Derived.Deep.RegionHeld3
import Derived.WalkSmall
import Derived.Deep.CutRange
import Derived.BigRegion
import Derived.OneCell
import Derived.Sort.Row
import Derived.ChangeSlices
import Derived.OpenShut
import Derived.Deep.AppendLies
import Derived.Laws.BytesArg
import Derived.Laws.CopyRow
import Derived.Laws.IdiomCopy
import Derived.Deep.OwnRows
import Derived.Deep.RegionLaw
namespace Go.Proofs.Ytinplpcobmbekaa
open Go.RowKit

theorem splice_byt {L bs : List Int} {a : Nat} (h1 : ∀ x ∈ L, 0 ≤ x ∧ x < 256) (h2 : ∀ x ∈ bs, 0 ≤ x ∧ x < 256) : ∀ x ∈ splice L a bs, 0 ≤ x ∧ x < 256 := fun x hx => (splice_mem hx).elim (h1 x) (h2 x)

set_option maxHeartbeats 4000000 in
/-- LAST. -/
theorem k_last {w : World} {P : Nat} {N M : List Int} {ws : List Wt} {m l : Int} {n : Nat} {F : Nat → Prop} {vn vl vw : Value} (h : KV w P N M ws m l n F vn vl vw) {a : Nat} {v : Value} {bs : List Int} (hb : ∀ x ∈ bs, 0 ≤ x ∧ x < 256) (hv : LstB w v bs) (ha : a + bs.length ≤ n) :
    Calls Try.prog 29 #[.pointer (some ⟨P, 0, none⟩), .agg #[.int .i64 (a : Int), v]] w fun e w' => e = .returned (.tuple #[]) ∧ KV w' P N (splice M a bs) ws m l n F vn vl vw ∧ Frm F w w' := by
  have al := allocB w (.cells #[.int .i64 (a : Int), v] 62)
  have h1 := h.below al.drew
  have c1 := h1.blk.cells.2.1
  have IN := hidd (k_into h1.last (hv.keep al.drew) ha h.size)
  have H1 := hidd h1
  have AL := hidd al
  have HB := hidd (splice_byt (a := a) h.lb hb)
  obtain ⟨p, m', c, rfl⟩ : ∃ p m' c, v = .slice p m' c := by
    obtain ⟨p, c, e, _⟩ := hv
    exact ⟨p, _, c, e⟩
  obtain ⟨pl, cl, rfl⟩ := row_any h.last
  clear h h1 hv al hb
  go_enter Try.func29, Try.ntmps29
  go_wp2_with fail
  go_region_with (go_at_call 25; refine IN.out.mono ?_; rintro e w2 ⟨rfl, hr, hg⟩; have K := hidd (H1.out.lasts hr hg HB.out); clear hr hg)
  all_goals
    go_wp2_with fail
    go_end0
    exact ⟨rfl, K.out.1, (Frm.of_below AL.out.drew).trans K.out.2 fun z hz => .inl hz⟩

theorem own_someD {w : World} {base : Nat} {e : TypeId} {size n : Nat} {v : Value} {xs : List Value} (h : w.ownsRow base e size v n xs) (hn : 0 < n) : ∃ g c, v = .slice (some ⟨g, 0, none⟩) n c ∧ n ≤ c := by
  rcases h.2 with ⟨_, h0⟩ | ⟨g, c, cur, e, _, _, hc, _⟩
  · omega
  · exact ⟨g, c, e, hc⟩

theorem cut_news {w : World} {base g c n a k : Nat} {L : List Int} (h : w.ownsRow base 5 1 (.slice (some ⟨g, 0, none⟩) n c) n (bV L)) (ha : a + k ≤ n) : ∀ j v, (bV ((L.drop a).take k))[j]? = some v → w.cell? ((⟨g, a, none⟩ : Addr).add j) = some v := by
  have hl : L.length = n := by have := h.1; rw [bV_len] at this; omega
  refine lie_row fun j hj => ?_
  have hj2 : j < k := by rw [List.length_take, List.length_drop] at hj; omega
  rw [bytes_at h (a + j) (by omega)]
  simp

theorem keepFourK {w w' : World} {p q r t : Addr} {a b c d : Value} {row : Option Nat} (hg : w.grownBy w' row) (h1 : some p.block ≠ row) (h2 : some q.block ≠ row) (h3 : some r.block ≠ row) (h4 : some t.block ≠ row) (h : w.cell? p = some a ∧ w.cell? q = some b ∧ w.cell? r = some c ∧ w.cell? t = some d) : w'.cell? p = some a ∧ w'.cell? q = some b ∧ w'.cell? r = some c ∧ w'.cell? t = some d :=
  ⟨hg.cell h.1 h1, hg.cell h.2.1 h2, hg.cell h.2.2.1 h3, hg.cell h.2.2.2 h4⟩

set_option maxHeartbeats 4000000 in
/-- UNDO. -/
theorem k_undo {w : World} {P : Nat} {N M : List Int} {ws : List Wt} {m l : Int} {n : Nat} {F : Nat → Prop} {vn vl vw : Value} (h : KV w P N M ws m l n F vn vl vw) {a k : Nat} {p : Option Addr} {c : Nat} (hk : 0 < k) (ha : a + k ≤ n) :
    Calls Try.prog 31 #[.pointer (some ⟨P, 0, none⟩), .agg #[.int .i64 (a : Int), .slice p k c]] w fun e w' => e = .returned (.tuple #[]) ∧ KV w' P (splice N a ((M.drop a).take k)) M ws m l n F vn vl vw ∧ Frm F w w' := by
  have al := allocB w (.cells #[.int .i64 (a : Int), .slice p k c] 62)
  have h1 := h.below al.drew
  have hs := h.size
  obtain ⟨c0, c1, -⟩ := h1.blk.cells
  obtain ⟨gn, cn, rfl, hcn⟩ := own_someD h1.now (by omega)
  obtain ⟨gl, cl, rfl, hcl⟩ := own_someD h1.last (by omega)
  have NW := hidd (cut_news h1.last ha)
  have HB : Hid (∀ x ∈ splice N a ((M.drop a).take k), 0 ≤ x ∧ x < 256) := hidd (splice_byt h.nb fun x hx => h.lb x (List.mem_of_mem_drop (List.mem_of_mem_take hx)))
  have HL : Hid (((M.drop a).take k).length = k) := hidd (by rw [List.length_take, List.length_drop, h.llen]; omega)
  have hP := h.blk.lt
  have hne : gn < w.heap.size := h.lt gn (h.fn gn rfl).1
  have hnP : gn ≠ P := (h.fn gn rfl).2.1
  have OW := hidd h1.now
  have y0 : (w.alloc (.cells #[.int .i64 (a : Int), .slice p k c] 62)).drew.cell? ⟨w.heap.size, 0, none⟩ = some (.int .i64 (a : Int)) := by go_simp
  have y1 : (w.alloc (.cells #[.int .i64 (a : Int), .slice p k c] 62)).drew.cell? ⟨w.heap.size, 1, none⟩ = some (.slice p k c) := by go_simp
  have hS0 := And.intro c0 (And.intro c1 (And.intro y0 y1))
  have H1 := hidd h1
  have AL := hidd al
  obtain ⟨q, hq⟩ : ∃ q, a + k = q := ⟨_, rfl⟩
  have hadd : wrap64 ((a : Int) + (k : Int)) = (q : Int) := by rw [wrap_fits (by omega)]; omega
  have hqa : q - a = k := by omega
  have i0 : (0 : Int) ≤ (a : Int) := by omega
  have i1 : (a : Int) ≤ (q : Int) := by omega
  have i2 : (q : Int) ≤ (cn : Int) := by omega
  have i3 : (q : Int) ≤ (cl : Int) := by omega
  have HA := hidd ha
  have hca : ¬ cn = a := by omega
  have hcb : ¬ cl = a := by omega
  clear h h1 al c0 c1 y0 y1 ha hq hs hcn hcl
  go_enter Try.func31, Try.ntmps31
  go_wp2_with fail
  go_region_held3 (fun w' => w'.cell? ⟨P, 0, none⟩ = some (.slice (some ⟨gn, 0, none⟩) n cn) ∧ w'.cell? ⟨P, 1, none⟩ = some (.slice (some ⟨gl, 0, none⟩) n cl) ∧ w'.cell? ⟨w.heap.size, 0, none⟩ = some (.int .i64 (a : Int)) ∧ w'.cell? ⟨w.heap.size, 1, none⟩ = some (.slice p k c))
    (first | exact hS0 | exact keepFourK hg (fun e => hnP (by simpa [Value.ownBlock] using e.symm)) (fun e => hnP (by simpa [Value.ownBlock] using e.symm)) (fun e => by simp [Value.ownBlock] at e; omega) (fun e => by simp [Value.ownBlock] at e; omega) hS0)
    (first | (refine step_copy_lst (by rfl) _ _ (by rfl) _ n N OW.out a ((M.drop a).take k) (some ⟨gn, a, none⟩) (some ⟨gl, a, none⟩) k (cn - a) k (cl - a) (by rfl) (by rfl) (by rw [HL.out]; exact (Nat.min_self k).symm) (fun _ => ⟨gn, cn, rfl, rfl, _, rfl, NW.out⟩) (by rw [HL.out]; exact HA.out) ?_; intro w2 hr hg))
  all_goals
    go_wp2_with fail
    go_end0
    have K := H1.out.nows hr hg HB.out
    exact ⟨rfl, K.1, (Frm.of_below AL.out.drew).trans K.2 fun z hz => .inl hz⟩

end Go.Proofs.Ytinplpcobmbekaa
