/-
  A row of words that the library's sort turns: which world has the row as d' has it, and all else as it was; what a swap makes of it.
-/
import Derived.Test.YtdklpgphmoaniaaGreatDoorProg
import Derived.Sort.Walk13a
import Derived.Sort.LotA
import Derived.Sort.LotB
import Derived.Sort.LotD1
import Derived.Deep.Draws
namespace Go.Proofs.YtdklpgphmoaniaaGreatDoor

/-- The world w' is w, but that the row at g holds d (as many as d0), with draws and new blocks behind. -/
def St (w : World) (g off : Nat) (d0 d : Array Int) (w' : World) : Prop := d.size = d0.size ∧ Sort.At (Value.int .u64) w g off d w'

section
variable {w w' w2 : World} {g off : Nat} {d0 d d2 : Array Int}
theorem St.refl (h : Sort.Holds (Value.int .u64) w g off d) : St w g off d d w := ⟨rfl, Sort.At.refl h⟩
theorem St.hold (h0 : Sort.Holds (Value.int .u64) w g off d0) (hg : g < w.heap.size) (h : St w g off d0 d w') : Sort.Holds (Value.int .u64) w' g off d ∧ g < w'.heap.size := h.2.holds h0 h.1 hg
theorem St.fam (h0 : Sort.Holds (Value.int .u64) w g off d0) (hg : g < w.heap.size) (h : St w g off d0 d w') :
    ∃ G : Nat → Int, (∀ t, G t = d[t]!) ∧ (∀ t, t < d0.size → w'.cell? ⟨g, off + t, none⟩ = some (.int .u64 (G t))) ∧ ∀ t, t < d0.size → w'.frozen? ⟨g, off + t, none⟩ = false :=
  ⟨fun t => d[t]!, fun _ => rfl, fun t ht => ((h.hold h0 hg).1 t (by rw [h.1]; exact ht)).1, fun t ht => ((h.hold h0 hg).1 t (by rw [h.1]; exact ht)).2⟩
theorem St.drawn (h : St w g off d0 d w') (q : Nat) : St w g off d0 d (w'.drewN q) := ⟨h.1, h.2.ahead q⟩
theorem St.trans (hg : g < w.heap.size) (h : St w g off d0 d w') (h2 : St w' g off d d2 w2) : St w g off d0 d2 w2 := by
  refine ⟨h2.1.trans h.1, ?_⟩
  obtain ⟨n, os, e⟩ := h2.2
  exact h.2.stepG hg h2.1 ⟨n, os, e⟩
theorem St.swap (h0 : Sort.Holds (Value.int .u64) w g off d0) (hg : g < w.heap.size) (h : St w g off d0 d w') {G : Nat → Int} (hG : ∀ t, G t = d[t]!) {j k : Nat} (hj : j < d0.size) (hk : k < d0.size) (q : Nat) :
    St w g off d0 (Sort.swp d j k) (((w'.drewN q).setCell ⟨g, off + j, none⟩ (.int .u64 (G k))).setCell ⟨g, off + k, none⟩ (.int .u64 (G j))) := by
  have hH := (h.hold h0 hg).1
  have e := Sort.putRow_swp (Value.int .u64) (Sort.ahead w' q) g off d j k (by rw [h.1]; exact hj) (by rw [h.1]; exact hk)
  rw [Sort.putRow_self _ _ _ _ _ (Sort.holds_ahead _ _ q _ _ _ hH)] at e
  refine ⟨by rw [Sort.size_swp]; exact h.1, h.2.step hg (Sort.size_swp _ _ _) ⟨q, ?_⟩⟩
  rw [hG, hG]
  exact e
end

abbrev lt : Int → Int → Bool := Sort.ltInt

theorem swp_perm (d : Array Int) (a b i j : Nat) (h1 : a ≤ i) (h2 : i < b) (h3 : a ≤ j) (h4 : j < b) (h5 : b ≤ d.size) : Sort.PermIn a b d (Sort.swp d i j) := Sort.swp_permIn d a b i j h1 h2 h3 h4 h5

theorem perm_trans {d d' d'' : Array Int} {a b : Nat} (h : Sort.PermIn a b d d') (h2 : Sort.PermIn a b d' d'') : Sort.PermIn a b d d'' := Sort.permIn_trans d d' d'' a b h h2

theorem perm_refl (d : Array Int) (a b : Nat) : Sort.PermIn a b d d := Sort.permIn_refl d a b

theorem perm_all {d d' : Array Int} {a b : Nat} (p : Int → Prop) (hb : b ≤ d.size) (h : Sort.PermIn a b d d') (hp : ∀ i, a ≤ i → i < b → p d[i]!) : ∀ i, a ≤ i → i < b → p d'[i]! := Sort.permIn_all d d' a b p hb h hp

theorem lt_no {x y : Int} (h : ¬ x < y) : Sort.ltInt x y = false := by simp [Sort.ltInt]; omega

theorem ge_of {x y : Int} (h : Sort.ltInt x y = false) : y ≤ x := by simp [Sort.ltInt] at h; omega

/-- Where a partition stands: all of (a, i) is less than p, nothing of (j, b) is; p lies at a. -/
structure Part (a b i j : Nat) (p : Int) (d : Array Int) : Prop where
  at' : d[a]! = p
  lo : ∀ t, a < t → t < i → d[t]! < p
  hi : ∀ t, j < t → t < b → p ≤ d[t]!

theorem Part.swap {a b i j : Nat} {p : Int} {d : Array Int} (h : Part a b i j p d) (hb : b ≤ d.size) (hai : a < i) (hij : i < j) (hjb : j < b) (h1 : p ≤ d[i]!) (h2 : d[j]! < p) : Part a b (i + 1) (j - 1) p (Sort.swp d i j) := by
  have gL := Sort.swp_left d i j (by omega) (by omega)
  have gR := Sort.swp_right d i j (by omega)
  have go := fun k hk hk' => Sort.swp_other d i j k hk hk'
  refine ⟨by rw [go a (by omega) (by omega)]; exact h.at', fun t h3 h4 => ?_, fun t h3 h4 => ?_⟩
  · by_cases e : t = i
    · subst e; rw [gL]; exact h2
    · rw [go t e (by omega)]; exact h.lo t h3 (by omega)
  · by_cases e : t = j
    · subst e; rw [gR]; exact h1
    · rw [go t (by omega) e]; exact h.hi t (by omega) h4

/-- What a partition tells at its end. -/
def Parted (a b m : Nat) (d : Array Int) : Prop := a ≤ m ∧ m < b ∧ (∀ t, a ≤ t → t < m → d[t]! < d[m]!) ∧ ∀ t, m < t → t < b → d[m]! ≤ d[t]!

theorem Part.done {a b i j : Nat} {p : Int} {d : Array Int} (h : Part a b i j p d) (hb : b ≤ d.size) (hai : a < i) (hij : i = j + 1) (hjb : j < b) : Parted a b j (Sort.swp d j a) := by
  by_cases e : j = a
  · subst e
    have hj : j < d.size := by omega
    have hs : Sort.swp d j j = d := by
      unfold Sort.swp
      simp [hj, Array.setIfInBounds]
    rw [hs]
    refine ⟨Nat.le_refl _, hjb, fun t h1 h2 => by omega, fun t h1 h2 => ?_⟩
    rw [h.at']; exact h.hi t h1 h2
  · have gL := Sort.swp_left d j a (by omega) e
    have gR := Sort.swp_right d j a (by omega)
    have go := fun k hk hk' => Sort.swp_other d j a k hk hk'
    refine ⟨by omega, hjb, fun t h1 h2 => ?_, fun t h1 h2 => ?_⟩
    · rw [gL, h.at']
      by_cases e2 : t = a
      · subst e2; rw [gR]; exact h.lo j (by omega) (by omega)
      · rw [go t (by omega) e2]; exact h.lo t (by omega) (by omega)
    · rw [gL, h.at', go t (by omega) (by omega)]; exact h.hi t h1 h2

/-- Where a partition of equal ones stands: all of (a, i) is p at most, all of (j, b) is more. -/
structure PartE (a b i j : Nat) (p : Int) (d : Array Int) : Prop where
  at' : d[a]! = p
  lo : ∀ t, a < t → t < i → d[t]! ≤ p
  hi : ∀ t, j < t → t < b → p < d[t]!

theorem PartE.swap {a b i j : Nat} {p : Int} {d : Array Int} (h : PartE a b i j p d) (hb : b ≤ d.size) (hai : a < i) (hij : i < j) (hjb : j < b) (h1 : p < d[i]!) (h2 : d[j]! ≤ p) : PartE a b (i + 1) (j - 1) p (Sort.swp d i j) := by
  have gL := Sort.swp_left d i j (by omega) (by omega)
  have gR := Sort.swp_right d i j (by omega)
  have go := fun k hk hk' => Sort.swp_other d i j k hk hk'
  refine ⟨by rw [go a (by omega) (by omega)]; exact h.at', fun t h3 h4 => ?_, fun t h3 h4 => ?_⟩
  · by_cases e : t = i
    · subst e; rw [gL]; exact h2
    · rw [go t e (by omega)]; exact h.lo t h3 (by omega)
  · by_cases e : t = j
    · subst e; rw [gR]; exact h1
    · rw [go t (by omega) e]; exact h.hi t (by omega) h4

end Go.Proofs.YtdklpgphmoaniaaGreatDoor
