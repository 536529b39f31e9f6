/-
  Package disk's add: one write more waits; in whatever memory.
-/
import Derived.Test.YtinplpcobmbekaaIdentMathD
import Derived.Test.YtinplpcobmbekaaKLow
import Derived.Laws.CopyOwn
import Derived.Below
import Derived.Test.YtinplpcobmbekaaProg
import Derived.Handy
import Derived.Deep.QuietTactic
import Derived.WalkSpells
import Derived.WalkLawsBesides
import Derived.BigQuiet
import Derived.PlainAid
import Derived.Deep.RegionWith
import Derived.Laws.BitsAllLaws
import Derived.OwnWalk
import Derived.Laws.OwnMore
import Derived.Deep.RegionHeld3
import Derived.WalkSmall
import Derived.Deep.CutRange
import Derived.BigRegion
import Derived.OneCell
import Derived.Sort.Row
import Derived.ChangeSlices
import Derived.OpenShut
import Derived.Deep.AppendLies
import Derived.Laws.BytesArg
import Derived.Laws.CopyRow
import Derived.Laws.IdiomCopy
import Derived.Deep.OwnRows
import Derived.Deep.RegionLaw
namespace Go.Proofs.Ytinplpcobmbekaa
open Go.RowKit

theorem infoWriteK : (Try.prog.info? 62).map (fun i => (i.zero, i.size, i.bytes)) = some (some (.agg #[.int .i64 0, .slice none 0 0]), 2, 32) := by kernel_rfl

theorem own_low {w : World} {base : Nat} {e : TypeId} {size : Nat} {v : Value} {n : Nat} {xs : List Value} (h : w.ownsRow base e size v n xs) : w.ownsRow 0 e size v n xs := ⟨h.1, h.2.imp id fun ⟨g, cap, cur, a, _, r⟩ => ⟨g, cap, cur, a, Nat.zero_le _, r⟩⟩

theorem own_le {w : World} {b base : Nat} {e : TypeId} {size : Nat} {v : Value} {n : Nat} {xs : List Value} (h : w.ownsRow base e size v n xs) (hb : b ≤ base) : w.ownsRow b e size v n xs := ⟨h.1, h.2.imp id fun ⟨g, cap, cur, a, hg, r⟩ => ⟨g, cap, cur, a, Nat.le_trans hb hg, r⟩⟩

/-- One write more waits. -/
theorem KV.pushed {w wA w6 : World} {P : Nat} {N M : List Int} {ws : List Wt} {m l m' : Int} {n : Nat} {F : Nat → Prop} {vn vl vw u : Value} (h : KV w P N M ws m l n F vn vl vw) (hA : Below w.heap.size w wA) {a : Nat} {bs : List Int} (h0 : 0 < bs.length) (ha : a + bs.length ≤ n) (hb : ∀ y ∈ bs, 0 ≤ y ∧ y < 256)
    (hu : wA.ownsRow w.heap.size 5 1 u bs.length (bV bs)) {k g6 c6 : Nat} (hk : ws.length = k) (hgrow : wA.grownBy w6 vw.ownBlock) (hown : w6.ownsRow 0 62 2 (.slice (some ⟨g6, 0, none⟩) (k + 1) c6) (k + 1) (qV ws ++ [.int .i64 (a : Int), u])) (hat : vw.ownBlock = some g6 ∨ wA.heap.size ≤ g6) :
    ∃ F', KV ((w6.setCell ⟨P, 2, none⟩ (.slice (some ⟨g6, 0, none⟩) (k + 1) c6)).setCell ⟨P, 3, none⟩ (.int .i64 m')) P N M (ws ++ [⟨a, bs, u⟩]) m' l n F' vn vl (.slice (some ⟨g6, 0, none⟩) (k + 1) c6) ∧ Frm F w ((w6.setCell ⟨P, 2, none⟩ (.slice (some ⟨g6, 0, none⟩) (k + 1) c6)).setCell ⟨P, 3, none⟩ (.int .i64 m')) ∧ ∀ z, F' z → F z ∨ w.heap.size ≤ z := by
  subst hk
  have h1 := h.below hA
  obtain ⟨gu, cu, rfl, hgu, hgu2⟩ := hu.form h0
  have hP := h.blk.lt
  have hsA := hA.size
  have hs6 := hgrow.size
  have hs8 : w6.heap.size ≤ ((w6.setCell ⟨P, 2, none⟩ (.slice (some ⟨g6, 0, none⟩) (ws.length + 1) c6)).setCell ⟨P, 3, none⟩ (.int .i64 m')).heap.size := Nat.le_trans (set_size _ _ _) (set_size _ _ _)
  have far : ∀ z, z ≠ P → ((w6.setCell ⟨P, 2, none⟩ (.slice (some ⟨g6, 0, none⟩) (ws.length + 1) c6)).setCell ⟨P, 3, none⟩ (.int .i64 m')).heap[z]? = w6.heap[z]? := fun z hz => (set_far _ _ _ _ z hz).trans (set_far _ _ _ _ z hz)
  have old : ∀ z, z < wA.heap.size → vw.ownBlock ≠ some z → z ≠ P → ((w6.setCell ⟨P, 2, none⟩ (.slice (some ⟨g6, 0, none⟩) (ws.length + 1) c6)).setCell ⟨P, 3, none⟩ (.int .i64 m')).heap[z]? = wA.heap[z]? := fun z hz hv hp => (far z hp).trans (hgrow.block z hz fun e => hv e.symm)
  have hPv : vw.ownBlock ≠ some P := fun e => (h.fw P e).2 rfl
  have hg6P : g6 ≠ P := fun e => hat.elim (fun e' => hPv (e ▸ e')) fun e' => by omega
  have lo6 : ∀ z, z < w.heap.size → vw.ownBlock ≠ some z → z ≠ g6 := fun z hz hv e => hat.elim (fun e' => hv (e ▸ e')) fun e' => by omega
  have gu6 : gu ≠ g6 := fun e => hat.elim (fun e' => by have := h.lt g6 (h.fw g6 e').1; omega) fun e' => by omega
  have ob : ∀ z, (Value.slice (some ⟨g6, 0, none⟩) (ws.length + 1) c6).ownBlock = some z → g6 = z := fun z e => by simpa [Value.ownBlock] using e
  have ou : ∀ z, (Value.slice (some ⟨gu, 0, none⟩) bs.length cu).ownBlock = some z → gu = z := fun z e => by simpa [Value.ownBlock] using e
  have hg6lt := (hown.lt g6 rfl).2
  refine ⟨fun z => F z ∨ z = g6 ∨ z = gu, ⟨?_, own_same h1.now fun z e => old z (by have := h.lt z (h.fn z e).1; omega) (h.fn z e).2.2.2 (h.fn z e).2.1, own_same h1.last fun z e => old z (by have := h.lt z (h.fl z e).1; omega) (h.fl z e).2.2 (h.fl z e).2.1, ?_, ?_,
    .inl h.fp, fun z e => ⟨.inl (h.fn z e).1, (h.fn z e).2.1, (h.fn z e).2.2.1, fun e' => lo6 z (h.lt z (h.fn z e).1) (h.fn z e).2.2.2 (ob z e').symm⟩, fun z e => ⟨.inl (h.fl z e).1, (h.fl z e).2.1, fun e' => lo6 z (h.lt z (h.fl z e).1) (h.fl z e).2.2 (ob z e').symm⟩,
    fun z e => ?_, fun z hz => ?_, h.nb, h.lb, h.size⟩, ⟨hgrow.os.trans hA.os, hgrow.tape.trans hA.tape, hgrow.output.trans hA.output, by omega, fun z hz hF => ?_⟩, fun z hz => ?_⟩
  · exact ((h1.blk.keep (hgrow.block P (by omega) fun e => hPv e.symm)).set2 _).set3 _
  · have e : qV (ws ++ [⟨a, bs, .slice (some ⟨gu, 0, none⟩) bs.length cu⟩]) = qV ws ++ [.int .i64 (a : Int), .slice (some ⟨gu, 0, none⟩) bs.length cu] := qV_app _ _
    rw [e, show (ws ++ [(⟨a, bs, .slice (some ⟨gu, 0, none⟩) bs.length cu⟩ : Wt)]).length = ws.length + 1 by simp]
    exact own_same hown fun z e => far z fun e' => hg6P ((ob z e).trans e')
  · intro x hx
    rcases List.mem_append.1 hx with hx | hx
    · obtain ⟨g, c, o⟩ := h1.each x hx
      have hgl := h.lt g o.own
      exact ⟨g, c, o.eq, .inl o.own, o.np, o.nn, o.nl, fun e => lo6 g hgl o.nw (ob g e).symm, (o.keep (old g (by omega) o.nw o.np)).row, o.pos, o.room, o.byt⟩
    · rw [List.mem_singleton] at hx
      subst hx
      refine ⟨gu, cu, rfl, .inr (.inr rfl), by omega, fun e => by have := h.lt gu (h.fn gu e).1; omega, fun e => by have := h.lt gu (h.fl gu e).1; omega, fun e => gu6 (ob gu e).symm, ?_, h0, ha, hb⟩
      have hu0 : wA.ownsRow 0 5 1 (.slice (some ⟨gu, 0, none⟩) bs.length cu) bs.length (bV bs) := own_low hu
      exact own_same hu0 fun z e => by
        rw [← ou z e]
        exact old gu hgu2 (fun e => by have := h.lt gu (h.fw gu e).1; omega) (by omega)
  · rw [← ob z e]
    exact ⟨.inr (.inl rfl), hg6P⟩
  · rcases hz with hz | rfl | rfl
    · have := h.lt z hz
      omega
    · omega
    · omega
  · rw [old z (by omega) (fun e => hF (h.fw z e).1) (fun e => hF (e ▸ h.fp))]
    exact hA.block z hz
  · rcases hz with hz | rfl | rfl
    · exact .inl hz
    · exact hat.elim (fun e => .inl (h.fw z e).1) fun e => .inr (by omega)
    · exact .inr hgu

theorem two_lieD (w : World) (x u : Value) (e : TypeId) : ∀ j v, ([x, u] : List Value)[j]? = some v → (w.alloc (.cells #[x, u] e)).cell? ((⟨w.heap.size, 0, none⟩ : Addr).add j) = some v := by
  intro j v hj
  match j, hj with
  | 0, hj => simp at hj; subst hj; simp [Addr.add]
  | 1, hj => simp at hj; subst hj; simp [Addr.add]

/-- Behind the append: what is left is the number of bytes. -/
def MidD (Q : Nat) (N M : List Int) (ws : List Wt) (l : Int) (n : Nat) (F : Nat → Prop) (vn vl : Value) (a : Nat) (bs : List Int) (w wx : World) : Prop :=
  ∀ m' : Int, ∃ F' vw' ws', KV (wx.setCell ⟨Q, 3, none⟩ (.int .i64 m')) Q N M ws' m' l n F' vn vl vw' ∧ flatW ws' = flatW ws ++ zipAt a bs ∧ Frm F w (wx.setCell ⟨Q, 3, none⟩ (.int .i64 m')) ∧ ∀ z, F' z → F z ∨ w.heap.size ≤ z

/-- What add tells. -/
def TellsA (Q : Nat) (N M : List Int) (ws : List Wt) (m l : Int) (n : Nat) (F : Nat → Prop) (vn vl : Value) (a : Nat) (bs : List Int) (w : World) (e : Ending) (w' : World) : Prop :=
  e = .returned (.tuple #[]) ∧ ∃ F' vw' ws', KV w' Q N M ws' (m + (bs.length : Int)) l n F' vn vl vw' ∧ flatW ws' = flatW ws ++ zipAt a bs ∧ Frm F w w' ∧ ∀ z, F' z → F z ∨ w.heap.size ≤ z

set_option maxRecDepth 100000 in
set_option maxHeartbeats 8000000 in
/-- ADD. -/
theorem k_add {w : World} {Q : Nat} {N M : List Int} {ws : List Wt} {m l : Int} {n : Nat} {F : Nat → Prop} {vn vl vw : Value} (h : KV w Q N M ws m l n F vn vl vw) {a : Nat} {v : Value} {bs : List Int} (hb : ∀ x ∈ bs, 0 ≤ x ∧ x < 256) (hv : LstB w v bs) (ha : a + bs.length ≤ n) (hl : bs.length ≤ 1000000000) (hm : 0 ≤ m) (hm2 : m ≤ 4000000000) (hw : ws.length ≤ 4000000000) :
    Calls Try.prog 26 #[.pointer (some ⟨Q, 2, none⟩), .agg #[.int .i64 (a : Int), v]] w fun e w' => TellsA Q N M ws m l n F vn vl a bs w e w' := by
  obtain ⟨p, c, rfl, hc⟩ := hv
  obtain ⟨k, ek⟩ : ∃ k, bs.length = k := ⟨_, rfl⟩
  have EK := hidd ek
  by_cases h0 : k = 0
  · subst h0
    obtain rfl : bs = [] := List.eq_nil_of_length_eq_zero ek
    have al := allocB w (.cells #[.int .i64 (a : Int), .slice p ([] : List Int).length c] 62)
    have H1 := hidd (h.below al)
    have AL := hidd al
    clear hc h al EK ek
    rw [show ([] : List Int).length = 0 from rfl] at H1 AL ⊢
    go_enter Try.func26, Try.ntmps26
    go_wp2
    go_end0
    exact ⟨rfl, F, vw, ws, by simpa using H1.out, by simp [zipAt], Frm.of_below AL.out, fun z hz => .inl hz⟩
  · have hk0 : 0 < k := by omega
    obtain ⟨g, o, rfl, hx⟩ := hc (by omega)
    rw [ek] at ha hl ⊢
    have al := allocB w (.cells #[.int .i64 (a : Int), .slice (some ⟨g, o, none⟩) k c] 62)
    have H1 := hidd (h.below al.drew)
    have CL := hidd (k_clone (w := (w.alloc (.cells #[.int .i64 (a : Int), .slice (some ⟨g, o, none⟩) k c] 62)).drew) (v := .slice (some ⟨g, o, none⟩) k c) (bs := bs) ⟨_, _, by rw [ek], fun _ => ⟨g, o, rfl, fun j hj => (al.drew.cell (World.block_lt_of_cell? _ _ (hx j hj))).trans (hx j hj)⟩⟩ (.inr ⟨_, _, _, rfl⟩) (by rw [ek]; omega))
    have y0 : (w.alloc (.cells #[.int .i64 (a : Int), .slice (some ⟨g, o, none⟩) k c] 62)).drew.cell? ⟨w.heap.size, 0, none⟩ = some (.int .i64 (a : Int)) := by go_simp
    have y1 : (w.alloc (.cells #[.int .i64 (a : Int), .slice (some ⟨g, o, none⟩) k c] 62)).drew.cell? ⟨w.heap.size, 1, none⟩ = some (.slice (some ⟨g, o, none⟩) k c) := by go_simp
    have AL := hidd al
    have HH := hidd h
    obtain ⟨-, -, c2, c3, -⟩ := (h.below al.drew).blk.cells
    have f2 := (h.below al.drew).blk.frozen 2
    have f3 := (h.below al.drew).blk.frozen 3
    obtain ⟨p2, cw, rfl⟩ := row_any h.wait
    obtain ⟨i9, hi9, hz0, hz1, hz2⟩ := info_partsD infoWriteK
    have hneQ : some (⟨Q, 2, none⟩ : Addr).block ≠ (Value.slice p2 ws.length cw).ownBlock := fun e => (h.fw Q e.symm).2 rfl
    have BD := hidd (by simpa using And.intro hw hm2)
    obtain ⟨kw, ekw⟩ : ∃ kw, ws.length = kw := ⟨_, rfl⟩
    have EKW := hidd ekw
    rw [ekw] at c2 hneQ hw HH H1
    clear h hc ek ekw BD al hx
    have h0' : ¬ (k : Int) = 0 := by omega
    have OWN : Hid (∀ w2, Below (w.alloc (.cells #[.int .i64 (a : Int), .slice (some ⟨g, o, none⟩) k c] 62)).drew.heap.size (w.alloc (.cells #[.int .i64 (a : Int), .slice (some ⟨g, o, none⟩) k c] 62)).drew w2 → ∀ X T, (w2.alloc (.cells X T)).ownsRow 0 62 2 (.slice p2 kw cw) kw (qV ws)) := hidd fun w2 hb2 X T => by
      have := H1.out.wait
      rw [EKW.out] at this
      exact own_keep (allocB w2 _) (own_keep hb2 this)
    have TWO : Hid (∀ (w2 : World) (u : Value), w2.ownsRow (w.alloc (.cells #[.int .i64 (a : Int), .slice (some ⟨g, o, none⟩) k c] 62)).drew.heap.size 5 1 u bs.length (bV bs) → ∀ z ∈ ([.int .i64 (a : Int), u] : List Value), z.oneCell' = true) := hidd fun w2 u hu z hz => by
      obtain ⟨p, c, rfl⟩ := row_any hu
      simp at hz
      rcases hz with rfl | rfl <;> rfl
    go_enter Try.func26, Try.ntmps26
    go_wp2_with fail
    go_cut [] from 8 to 22 (fun wx => Hid (MidD Q N M ws l n F vn vl a bs w wx) ∧ wx.cell? ⟨Q, 3, none⟩ = some (.int .i64 m) ∧ wx.frozen? ⟨Q, 3, none⟩ = false ∧ wx.cell? ⟨w.heap.size, 1, none⟩ = some (.slice (some ⟨g, o, none⟩) k c))
    case first =>
      go_region_law (first
        | (refine step_append_lies _ (by rfl) _ _ _ (by rfl) 0 62 i9 (.agg #[.int .i64 0, .slice none 0 0]) 2 32 Try.underlying55 hi9 hz0 hz1 hz2 rfl (by decide) _ kw (qV ws) (by rfl) (OWN.out _ HB2.out _ _) ⟨w2.heap.size, 0, none⟩ 1 1 [.int .i64 (a : Int), .slice (some ⟨gu, 0, none⟩) bs.length cu] (by rfl) rfl (two_lieD w2 _ _ _) (TWO.out _ _ HU.out) (by decide) (by unfold maxLen; omega) (by omega) (Nat.zero_le _) (w2.heap.size + 1) (by simp) ?_; intro g6 c6 w6 hown hgrow hat hlt6; obtain ⟨cs6, fs6⟩ := far_keepD hgrow hneQ (And.intro (keepCell (allocB w2 _) d2) (keepFrozen (allocB w2 _) d2 q2)))
        | (go_simp; go_at_call 32; refine CL.out.mono ?_; rintro e w2 ⟨u, rfl, hu, hb2⟩; obtain ⟨gu, cu, rfl, -, -⟩ := hu.form (by rw [EK.out]; exact hk0); have d2 := keepCell hb2 c2; have d3 := keepCell hb2 c3; have e0 := keepCell hb2 y0; have e1 := keepCell hb2 y1; have q2 := keepFrozen hb2 c2 f2; have q3 := keepFrozen hb2 c3 f3; have d2a := keepCell (allocB w2 (.cells #[.int .i64 (a : Int), .slice (some ⟨gu, 0, none⟩) bs.length cu] 62)) d2; have HU := hidd hu; have HB2 := hidd hb2; clear hu hb2; go_wp2_with fail))
      all_goals
        go_wp2_with fail
        go_meet
        obtain ⟨d3a, d3b⟩ := far_keepD hgrow (show some (⟨Q, 3, none⟩ : Addr).block ≠ _ from hneQ) (And.intro (keepCell (allocB w2 _) d3) (keepFrozen (allocB w2 _) d3 q3))
        have y3 := hgrow.cell (keepCell (allocB w2 _) e1) (fun e => by have := HH.out.lt _ (HH.out.fw w.heap.size e.symm).1; omega)
        have hQ := HH.out.blk.lt
        exact ⟨hidd fun m' => by
          obtain ⟨F', k1, k2, k3⟩ := KV.pushed (m' := m') HH.out (belowT (AL.out.drew) (belowT HB2.out (allocB w2 _))) (by rw [EK.out]; exact hk0) (by rw [EK.out]; exact ha) hb (own_le (own_keep (allocB w2 _) HU.out) (by simp)) EKW.out hgrow hown (hat.imp id fun e => by rw [e]; simp)
          exact ⟨F', _, _, k1, by rw [flatW_app, flatW_one], k2, k3⟩, store_keep d3a (by simp), by simp [d3b], store_keep y3 (by simp)⟩
    case rest =>
      obtain ⟨MD, z3, y3, z1⟩ := hcut
      clear c2 c3 f2 f3 y0 y1 CL AL HH H1 OWN TWO
      have hadd : wrap64 (m + (k : Int)) = m + (k : Int) := wrap_fits (by omega)
      have hadd2 : IntKind.i64.wrap (m + (k : Int)) = m + (k : Int) := by rw [IntKind.wrap_i64]; omega
      go_wp2_with fail
      go_big_region
      all_goals
        go_end0
        obtain ⟨F', vw', ws', k1, k2, k3, k4⟩ := MD.out (m + (k : Int))
        exact ⟨rfl, F', vw', ws', by rw [EK.out]; exact k1.drew, k2, k3.drewR, k4⟩

end Go.Proofs.Ytinplpcobmbekaa
