/-
  Package disk's keeper: it makes as much of a write last as there may; in whatever memory.
-/
import Derived.Test.YtinplpcobmbekaaKMeth
import Derived.Laws.CopyOwn
import Derived.Below
import Derived.Test.YtinplpcobmbekaaProg
import Derived.Handy
import Derived.Deep.QuietTactic
import Derived.WalkSpells
import Derived.WalkLawsBesides
import Derived.BigQuiet
import Derived.PlainAid
import Derived.Deep.RegionWith
import Derived.Laws.BitsAllLaws
import Derived.OwnWalk
import Derived.Laws.OwnMore
import Derived.Deep.RegionHeld3
import Derived.WalkSmall
import Derived.Deep.CutRange
import Derived.BigRegion
import Derived.OneCell
import Derived.Sort.Row
import Derived.ChangeSlices
import Derived.OpenShut
import Derived.Deep.AppendLies
import Derived.Laws.BytesArg
import Derived.Laws.CopyRow
import Derived.Laws.IdiomCopy
import Derived.Deep.OwnRows
import Derived.Deep.RegionLaw
import Derived.Lib.MinMax
namespace Go.Proofs.Ytinplpcobmbekaa
open Go.RowKit

/-- The keeper at block K: so many bytes are left to it. -/
def KP (w : World) (K P : Nat) (t : Nat) : Prop := w.cell? ⟨K, 0, none⟩ = some (.pointer (some ⟨P, 0, none⟩)) ∧ w.cell? ⟨K, 1, none⟩ = some (.int .i64 (t : Int)) ∧ w.frozen? ⟨K, 1, none⟩ = false

theorem KP.keep {w w' : World} {K P t : Nat} (h : KP w K P t) (hb : w'.heap[K]? = w.heap[K]?) : KP w' K P t :=
  ⟨(World.cell?_of_block hb).trans h.1, (World.cell?_of_block hb).trans h.2.1, (World.frozen?_of_block hb).trans h.2.2⟩

theorem KP.lt {w : World} {K P t : Nat} (h : KP w K P t) : K < w.heap.size := World.block_lt_of_cell? _ _ h.1

theorem KP.below {w w' : World} {K P t : Nat} (h : KP w K P t) (hb : Below w.heap.size w w') : KP w' K P t := h.keep (hb.block K h.lt)

theorem KP.set {w : World} {K P t : Nat} (h : KP w K P t) (t' : Nat) : KP (w.setCell ⟨K, 1, none⟩ (.int .i64 (t' : Int))) K P t' := ⟨store_keep h.1 (by simp), store_new h.2.1, by simp [h.2.2]⟩

theorem keepFourF {w w' : World} {F : Nat → Prop} {p q r t : Addr} {a b c d : Value} (hg : Frm F w w') (h1 : ¬ F p.block) (h2 : ¬ F q.block) (h3 : ¬ F r.block) (h4 : ¬ F t.block) (h : w.cell? p = some a ∧ w.cell? q = some b ∧ w.cell? r = some c ∧ w.cell? t = some d) : w'.cell? p = some a ∧ w'.cell? q = some b ∧ w'.cell? r = some c ∧ w'.cell? t = some d :=
  have f : ∀ {p : Addr} {a : Value}, w.cell? p = some a → ¬ F p.block → w'.cell? p = some a := fun hp hn => (World.cell?_of_block (hg.block _ (World.block_lt_of_cell? _ _ hp) hn)).trans hp
  ⟨f h.1 h1, f h.2.1 h2, f h.2.2.1 h3, f h.2.2.2 h4⟩

set_option maxRecDepth 100000 in
set_option maxHeartbeats 4000000 in
/-- KEEP. -/
theorem k_keep {w : World} {K P t : Nat} {N M : List Int} {ws : List Wt} {m l : Int} {n : Nat} {F : Nat → Prop} {vn vl vw : Value} (h : KV w P N M ws m l n F vn vl vw) (hK : KP w K P t) (hKF : ¬ F K) (ht : t ≤ 9223372036854775807) {a g c : Nat} {bs : List Int} (hb : ∀ x ∈ bs, 0 ≤ x ∧ x < 256) (hv : w.ownsRow 0 5 1 (.slice (some ⟨g, 0, none⟩) bs.length c) bs.length (bV bs)) (h0 : 0 < bs.length) (ha : a + bs.length ≤ n) :
    Calls Try.prog 30 #[.pointer (some ⟨K, 0, none⟩), .agg #[.int .i64 (a : Int), .slice (some ⟨g, 0, none⟩) bs.length c]] w fun e w' => e = .returned (.tuple #[]) ∧ KV w' P N (splice M a (bs.take t)) ws m l n F vn vl vw ∧ KP w' K P (t - bs.length) ∧ Frm (fun z => F z ∨ z = K) w w' := by
  have hn := h.size
  have hcb : bs.length ≤ c := by
    obtain ⟨g', c', e, hc⟩ := own_someD hv h0
    simp only [Value.slice.injEq] at e
    rw [e.2.2]
    exact hc
  obtain ⟨k, ek⟩ : ∃ k, bs.length = k := ⟨_, rfl⟩
  obtain ⟨T, hT, eT⟩ : ∃ T : Nat, T = min t k ∧ (bs.take t).length = T := ⟨_, rfl, by rw [List.length_take, ek]⟩
  have al := allocB w (.cells #[.int .i64 (a : Int), .slice (some ⟨g, 0, none⟩) k c] 62)
  have LB : Hid (∀ w', Below w.heap.size w w' → LstB w' (.slice (some ⟨g, 0, none⟩) T c) (bs.take t)) := hidd fun w' hb' => ⟨_, c, by rw [eT], fun _ => ⟨g, 0, rfl, fun j hj => by
    have hj2 : j < bs.length := by rw [eT] at hj; omega
    rw [Nat.zero_add]
    have := bytes_at (own_keep hb' hv) j hj2
    rw [this]
    simp⟩⟩
  have HB : Hid (∀ x ∈ bs.take t, 0 ≤ x ∧ x < 256) := hidd fun x hx => hb x (List.mem_of_mem_take hx)
  have HT := hidd eT
  rw [ek] at hv ha hcb h0 ⊢
  have y0 : (w.alloc (.cells #[.int .i64 (a : Int), .slice (some ⟨g, 0, none⟩) k c] 62)).cell? ⟨w.heap.size, 0, none⟩ = some (.int .i64 (a : Int)) := by go_simp
  have y1 : (w.alloc (.cells #[.int .i64 (a : Int), .slice (some ⟨g, 0, none⟩) k c] 62)).cell? ⟨w.heap.size, 1, none⟩ = some (.slice (some ⟨g, 0, none⟩) k c) := by go_simp
  have hK1 := hK.below al
  obtain ⟨x0, x1, x2⟩ := hK1
  have H1 := hidd (h.below al)
  have K1 := hidd (hK.below al)
  have AL := hidd al
  have hF0 : ¬ F w.heap.size := fun e => by have := h.lt _ e; omega
  have hmin : min (t : Int) (k : Int) = (T : Int) := by omega
  have i1 : (0 : Int) ≤ (T : Int) := by omega
  have i2 : (T : Int) ≤ (c : Int) := by omega
  obtain ⟨u, hu⟩ : ∃ u, t - k = u := ⟨_, rfl⟩
  have HS : Hid ((t : Int) - (T : Int) = (u : Int)) := hidd (by omega)
  rw [hu]
  have HA : Hid (a + T ≤ n) := hidd (by omega)
  have hKlt := hK.lt
  have hne : ¬ K = w.heap.size := by omega
  clear h hK al hv hb ek eT hT hu ha
  go_enter Try.func30, Try.ntmps30
  go_wp2_with fail
  go_big_region
  all_goals
    generalize (w.alloc (.cells #[.int .i64 (a : Int), .slice (some ⟨g, 0, none⟩) k c] 62)) = w1 at *
    have d0 : w1.drew.drew.cell? ⟨K, 0, none⟩ = _ := x0
    have d1 : w1.drew.drew.cell? ⟨w.heap.size, 0, none⟩ = _ := y0
    have d2 : w1.drew.drew.cell? ⟨w.heap.size, 1, none⟩ = _ := y1
    have d3 : w1.drew.drew.cell? ⟨K, 1, none⟩ = _ := x1
    have hS0 := And.intro d0 (And.intro d1 (And.intro d2 d3))
    have LA := hidd (k_last (H1.out.drew.drew) HB.out (LB.out _ AL.out.drew.drew) (by rw [HT.out]; exact HA.out))
    clear d0 d1 d2 d3
    go_wp2_with fail
    go_region_held3 (fun w' => w'.cell? ⟨K, 0, none⟩ = some (.pointer (some ⟨P, 0, none⟩)) ∧ w'.cell? ⟨w.heap.size, 0, none⟩ = some (.int .i64 (a : Int)) ∧ w'.cell? ⟨w.heap.size, 1, none⟩ = some (.slice (some ⟨g, 0, none⟩) k c) ∧ w'.cell? ⟨K, 1, none⟩ = some (.int .i64 (t : Int)))
      (first | exact hS0 | exact keepFourF hf hKF hF0 hF0 hKF hS0)
      (first | (go_at_call 29; refine LA.out.mono ?_; rintro e w2 ⟨rfl, hkv, hf⟩))
    all_goals
      have K2 := hidd ((K1.out.keep (w' := w2) (hf.block K (K1.out.lt) hKF)))
      obtain ⟨z0, z1, z2⟩ := K2.out
      have V2 := hidd hkv
      have F2 := hidd ((Frm.of_below (F := F) AL.out).trans (hf.drew.drew) fun z hz => .inl hz)
      clear hkv hf LA hS0
      go_wp2
      go_end0
      rw [HS.out]
      refine ⟨rfl, V2.out.keep (fun z hz => set_far _ _ _ _ z fun e => hKF (e ▸ hz)) (set_size _ _ _), K2.out.set u, ?_⟩
      exact (F2.out.mono fun z hz => .inl hz).trans (Frm.set (F := fun z => F z ∨ z = K) (p := ⟨K, 1, none⟩) (.inr rfl) _) fun z hz => .inl hz

end Go.Proofs.Ytinplpcobmbekaa
