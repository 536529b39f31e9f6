/-
  What package disk's methods tell, as the walks of layer 12's statements use it.
-/
import Derived.Test.YtinplpcobmbekaaKRel
import Derived.Laws.CopyOwn
import Derived.Below
import Derived.Test.YtinplpcobmbekaaProg
import Derived.Handy
import Derived.Deep.QuietTactic
import Derived.WalkSpells
import Derived.WalkLawsBesides
import Derived.BigQuiet
import Derived.PlainAid
import Derived.Deep.RegionWith
import Derived.Laws.BitsAllLaws
import Derived.OwnWalk
import Derived.Laws.OwnMore
import Derived.Deep.RegionHeld3
import Derived.WalkSmall
import Derived.Deep.CutRange
import Derived.BigRegion
import Derived.OneCell
import Derived.Sort.Row
import Derived.ChangeSlices
import Derived.OpenShut
import Derived.Deep.AppendLies
import Derived.Laws.BytesArg
import Derived.Laws.CopyRow
import Derived.Laws.IdiomCopy
import Derived.Deep.OwnRows
import Derived.Deep.RegionLaw
namespace Go.Proofs.Ytinplpcobmbekaa
open Go.RowKit

def TellsCD (P : Nat) (s : DS) (n : Nat) (F : Nat → Prop) (v : Value) (w : World) (e : Ending) (w' : World) : Prop := e = .returned v ∧ ∃ F', CD w' P s n F' ∧ Frm F w w' ∧ ∀ k, F' k → F k ∨ w.heap.size ≤ k

def TellsQ (v : Value) (w : World) (e : Ending) (w' : World) : Prop := e = .returned v ∧ Below w.heap.size w w'

def TellsND (s : DS) (n : Nat) (w : World) (e : Ending) (w' : World) : Prop := ∃ P F, e = .returned (.pointer (some ⟨P, 0, none⟩)) ∧ CD w' P s n F ∧ Below w.heap.size w w' ∧ ∀ z, F z → w.heap.size ≤ z

def TellsB (L : List Int) (k : Int) (w : World) (e : Ending) (w' : World) : Prop := ∃ v, e = .returned (.tuple #[v, .int .i64 k]) ∧ w'.ownsRow w.heap.size 5 1 v L.length (bV L) ∧ Below w.heap.size w w'

/-- Bytes that lie in memory. -/
def LstB (w : World) (v : Value) (bs : List Int) : Prop := ∃ p c, v = .slice p bs.length c ∧ (0 < bs.length → ∃ g o, p = some ⟨g, o, none⟩ ∧ ∀ j (h : j < bs.length), w.cell? ⟨g, o + j, none⟩ = some (.int .u8 bs[j]))

theorem lst_litD (w : World) (bs : List Int) (c : Nat) (T : TypeId) (f : Nat × Nat) (X : Array Value) : LstB (w.alloc (.cells ((bV bs).toArray ++ X) T f)) (.slice (some ⟨w.heap.size, 0, none⟩) bs.length c) bs :=
  ⟨_, _, rfl, fun _ => ⟨_, 0, rfl, fun j h => by
    rw [Nat.zero_add]
    simp only [World.cell?, heap_alloc_new]
    show ((bV bs).toArray ++ X)[j]? = _
    rw [Array.getElem?_append_left (by simp [bV]; exact h)]
    simp [bV, h]⟩⟩

/-- A disk of a law's own, at block P: everything of it is new since B. -/
structure LD (B : Nat) (W w : World) (P : Nat) (s : DS) (n : Nat) (F : Nat → Prop) : Prop where
  cd : CD w P s n F
  bel : Below B W w
  fresh : ∀ z, F z → B ≤ z
  size : B ≤ w.heap.size

theorem LD.start {W w : World} {P : Nat} {s : DS} {n : Nat} {F : Nat → Prop} (h : CD w P s n F) (hb : Below W.heap.size W w) (hf : ∀ z, F z → W.heap.size ≤ z) : LD W.heap.size W w P s n F := ⟨h, hb, hf, hb.size⟩

theorem LD.quiet {B : Nat} {W w w' : World} {P : Nat} {s : DS} {n : Nat} {F : Nat → Prop} (h : LD B W w P s n F) (hb : Below w.heap.size w w') : LD B W w' P s n F := ⟨h.cd.below hb, h.bel.trans (hb.mono h.size), h.fresh, Nat.le_trans h.size hb.size⟩

theorem LD.step {B : Nat} {W w w' : World} {P : Nat} {s s' : DS} {n : Nat} {F F' : Nat → Prop} (h : LD B W w P s n F) (hc : CD w' P s' n F') (hf : Frm F w w') (hk : ∀ k, F' k → F k ∨ w.heap.size ≤ k) : LD B W w' P s' n F' :=
  ⟨hc, h.bel.trans (hf.below h.fresh h.size), fun z hz => (hk z hz).elim (h.fresh z) fun e => Nat.le_trans h.size e, Nat.le_trans h.size hf.size⟩

/-- A store into a block of the law's own that is not the disk's. -/
theorem LD.poke {B : Nat} {W w : World} {P : Nat} {s : DS} {n : Nat} {F : Nat → Prop} (h : LD B W w P s n F) {g k : Nat} (v : Value) (hg : B ≤ g) (hF : ∀ z, F z → z ≠ g) : LD B W (w.setCell ⟨g, k, none⟩ v) P s n F :=
  have hf : Frm (fun z => z = g) w (w.setCell ⟨g, k, none⟩ v) := Frm.set (F := fun z => z = g) (p := ⟨g, k, none⟩) rfl v
  ⟨h.cd.frm hf hF, h.bel.trans (hf.below (fun z hz => by omega) h.size), h.fresh, Nat.le_trans h.size hf.size⟩

/-- Two disks of a law's own. -/
structure LD2 (B : Nat) (W w : World) (P : Nat) (s : DS) (n : Nat) (F : Nat → Prop) (Q : Nat) (t : DS) (m : Nat) (G : Nat → Prop) : Prop where
  d : LD B W w P s n F
  e : LD B W w Q t m G
  apart : ∀ z, F z → ¬ G z

theorem LD2.fst {B : Nat} {W w w' : World} {P : Nat} {s s' : DS} {n : Nat} {F F' : Nat → Prop} {Q : Nat} {t : DS} {m : Nat} {G : Nat → Prop} (h : LD2 B W w P s n F Q t m G) (hc : CD w' P s' n F') (hf : Frm F w w') (hk : ∀ k, F' k → F k ∨ w.heap.size ≤ k) : LD2 B W w' P s' n F' Q t m G :=
  have hd := h.d.step hc hf hk
  ⟨hd, ⟨h.e.cd.frm hf fun z hz hz' => h.apart z hz' hz, hd.bel, h.e.fresh, hd.size⟩, fun z hz hz' => (hk z hz).elim (fun e => h.apart z e hz') fun e => by have := h.e.cd.lt z hz'; omega⟩

theorem LD2.snd {B : Nat} {W w w' : World} {P : Nat} {s : DS} {n : Nat} {F : Nat → Prop} {Q : Nat} {t t' : DS} {m : Nat} {G G' : Nat → Prop} (h : LD2 B W w P s n F Q t m G) (hc : CD w' Q t' m G') (hf : Frm G w w') (hk : ∀ k, G' k → G k ∨ w.heap.size ≤ k) : LD2 B W w' P s n F Q t' m G' :=
  have he := h.e.step hc hf hk
  ⟨⟨h.d.cd.frm hf h.apart, he.bel, h.d.fresh, he.size⟩, he, fun z hz hz' => (hk z hz').elim (h.apart z hz) fun e => by have := h.d.cd.lt z hz; omega⟩

theorem LD2.quiet {B : Nat} {W w w' : World} {P : Nat} {s : DS} {n : Nat} {F : Nat → Prop} {Q : Nat} {t : DS} {m : Nat} {G : Nat → Prop} (h : LD2 B W w P s n F Q t m G) (hb : Below w.heap.size w w') : LD2 B W w' P s n F Q t m G := ⟨h.d.quiet hb, h.e.quiet hb, h.apart⟩

theorem LD.two {B : Nat} {W w w' : World} {P : Nat} {s : DS} {n : Nat} {F : Nat → Prop} {Q : Nat} {t : DS} {m : Nat} {G : Nat → Prop} (h : LD B W w P s n F) (hc : CD w' Q t m G) (hb : Below w.heap.size w w') (hf : ∀ z, G z → w.heap.size ≤ z) : LD2 B W w' P s n F Q t m G :=
  have hd := h.quiet hb
  ⟨hd, ⟨hc, hd.bel, fun z hz => Nat.le_trans h.size (hf z hz), hd.size⟩, fun z hz hz' => by have := hf z hz'; have := h.cd.lt z hz; omega⟩

/-- Bytes of an argument, in a world behind. -/
theorem lst_arg {W w : World} {p : Option Addr} {c : Nat} {X : List Int} (hx : ∀ (j : Nat) (hj : j < X.length), ∃ g o, p = some ⟨g, o, none⟩ ∧ W.cell? ⟨g, o + j, none⟩ = some (.int .u8 X[j])) (hb : Below W.heap.size W w) :
    LstB w (.slice p X.length c) X ∧ (0 < X.length → ∀ z, (Value.slice p X.length c).ownBlock = some z → z < W.heap.size) := by
  refine ⟨⟨p, c, rfl, fun h0 => ?_⟩, fun h0 z e => ?_⟩
  · obtain ⟨g, o, e, _⟩ := hx 0 h0
    refine ⟨g, o, e, fun j hj => ?_⟩
    obtain ⟨g', o', e', hc⟩ := hx j hj
    rw [e] at e'
    simp only [Option.some.injEq, Addr.mk.injEq, and_true] at e'
    obtain ⟨rfl, rfl⟩ := e'
    exact (hb.cell (World.block_lt_of_cell? _ _ hc)).trans hc
  · obtain ⟨g, o, e', hc⟩ := hx 0 h0
    subst e'
    have : g = z := by simpa [Value.ownBlock] using e
    subst this
    exact World.block_lt_of_cell? _ _ hc

/-- One byte of them. -/
theorem lst_byte {W w : World} {g o c i : Nat} {x : Int} (hx : W.cell? ⟨g, o + i, none⟩ = some (.int .u8 x)) (hb : Below W.heap.size W w) :
    LstB w (.slice (some ⟨g, o + i, none⟩) 1 c) [x] ∧ ∀ z, (Value.slice (some ⟨g, o + i, none⟩) 1 c).ownBlock = some z → z < W.heap.size := by
  refine ⟨⟨_, c, rfl, fun _ => ⟨g, o + i, rfl, fun j hj => ?_⟩⟩, fun z e => ?_⟩
  · obtain rfl : j = 0 := by simp at hj; omega
    exact (hb.cell (World.block_lt_of_cell? _ _ hx)).trans hx
  · have : g = z := by simpa [Value.ownBlock] using e
    subst this
    exact World.block_lt_of_cell? _ _ hx

theorem own_empty (w : World) : (w.alloc (.cells #[] 5)).ownsRow 0 5 1 (.slice (some ⟨w.heap.size, 0, none⟩) 0 0) 0 [] := ⟨rfl, .inr ⟨w.heap.size, 0, #[], rfl, Nat.zero_le _, heap_alloc_new w _, Nat.le_refl _, Nat.zero_le _, rfl, rfl⟩⟩

theorem lie_row {w : World} {g o : Nat} {X : List Int} (h : ∀ j (hj : j < X.length), w.cell? ⟨g, o + j, none⟩ = some (.int .u8 X[j])) : ∀ j u, (bV X)[j]? = some u → w.cell? ((⟨g, o, none⟩ : Addr).add j) = some u := by
  intro j u hu
  have hj : j < X.length := by
    have := (List.getElem?_eq_some_iff.1 hu).1
    rwa [bV_len] at this
  have e : (⟨g, o, none⟩ : Addr).add j = ⟨g, o + j, none⟩ := by unfold Addr.add; split <;> simp_all
  rw [e, h j hj, ← hu]
  simp [bV, hj]

end Go.Proofs.Ytinplpcobmbekaa
