/-
  Plain facts on spots of a sweep: three numbers told as one, so that the spot that comes first is the greatest; what a sweep has found, and what waits. No condition beyond those written.
-/
import Derived.Test.YtdklpgphmoaniaaGreatDoorCovSweep
import Derived.Test.YtdklpgphmoaniaaGreatDoorProg
import Derived.Handy
import Derived.Deep.QuietTactic
import Derived.WalkSpells
import Derived.WalkLawsBesides
import Derived.BigQuiet
import Derived.PlainAid
import Derived.Deep.RegionWith
import Derived.Laws.BitsAllLaws
import Derived.Sort.LotA
import Derived.Sort.LotB
namespace Go.Proofs.YtdklpgphmoaniaaGreatDoor

/-- A spot as one number; its three numbers. -/
def spC (t a b : Int) : Int := -((t * 1099511627776 + (a + 549755813888)) * 1099511627776 + (b + 549755813888))

def sp0 (x : Int) : Int := (-x) / 1099511627776 / 1099511627776

def sp1 (x : Int) : Int := (-x) / 1099511627776 % 1099511627776 - 549755813888

def sp2 (x : Int) : Int := (-x) % 1099511627776 - 549755813888

theorem sp_of (t : Int) {a b : Int} (ha : -549755813888 ≤ a ∧ a < 549755813888) (hb : -549755813888 ≤ b ∧ b < 549755813888) : sp0 (spC t a b) = t ∧ sp1 (spC t a b) = a ∧ sp2 (spC t a b) = b := by
  unfold sp0 sp1 sp2 spC
  omega

theorem sp_back (x : Int) : spC (sp0 x) (sp1 x) (sp2 x) = x := by
  unfold sp0 sp1 sp2 spC
  omega

theorem sp_box (x : Int) : (-549755813888 ≤ sp1 x ∧ sp1 x < 549755813888) ∧ (-549755813888 ≤ sp2 x ∧ sp2 x < 549755813888) := by
  unfold sp1 sp2
  omega

theorem sp_ext {x y : Int} (h0 : sp0 x = sp0 y) (h1 : sp1 x = sp1 y) (h2 : sp2 x = sp2 y) : x = y := by
  rw [← sp_back x, ← sp_back y, h0, h1, h2]

/-- Which spot comes first. -/
def cmpI (a b : Int) : Int := if a < b then -1 else if b < a then 1 else 0

def cmpS (x y : Int) : Int := if cmpI (sp0 x) (sp0 y) ≠ 0 then cmpI (sp0 x) (sp0 y) else if cmpI (sp1 x) (sp1 y) ≠ 0 then cmpI (sp1 x) (sp1 y) else cmpI (sp2 x) (sp2 y)

theorem cmpI_box (a b : Int) : -1 ≤ cmpI a b ∧ cmpI a b ≤ 1 := by unfold cmpI; split <;> (try split) <;> omega

theorem cmpI_neg (a b : Int) : cmpI a b < 0 ↔ a < b := by unfold cmpI; split <;> (try split) <;> omega

theorem cmpI_zero (a b : Int) : cmpI a b = 0 ↔ a = b := by unfold cmpI; split <;> (try split) <;> omega

theorem cmpS_lt (x y : Int) : decide (cmpS x y < 0) = Sort.ltInt y x := by
  unfold Sort.ltInt
  have bx := sp_box x
  have by' := sp_box y
  have ex := sp_back x
  have ey := sp_back y
  unfold spC at ex ey
  have k0 := cmpI_neg (sp0 x) (sp0 y)
  have k1 := cmpI_neg (sp1 x) (sp1 y)
  have k2 := cmpI_neg (sp2 x) (sp2 y)
  have z0 := cmpI_zero (sp0 x) (sp0 y)
  have z1 := cmpI_zero (sp1 x) (sp1 y)
  unfold cmpS
  rw [decide_eq_decide]
  by_cases h0 : cmpI (sp0 x) (sp0 y) = 0
  · rw [if_neg (by omega)]
    by_cases h1 : cmpI (sp1 x) (sp1 y) = 0
    · rw [if_neg (by omega)]
      omega
    · rw [if_pos h1]
      omega
  · rw [if_pos h0]
    omega

/-- A cell's spot. -/
def spot (K d : Nat) (a b : Int) : Int := spC (plc K d a b) a b

def Near9 (a b : Int) : Prop := (-500000000 ≤ a ∧ a ≤ 500000000) ∧ (-500000000 ≤ b ∧ b ≤ 500000000)

theorem spot_of {K d : Nat} {a b : Int} (h : Near9 a b) : sp0 (spot K d a b) = plc K d a b ∧ sp1 (spot K d a b) = a ∧ sp2 (spot K d a b) = b := by
  unfold Near9 at h
  exact sp_of _ (by omega) (by omega)

/-- Farther on is less. -/
theorem spot_on {K d : Nat} {a b a' b' : Int} (h : Near9 a b) (h' : Near9 a' b') (hp : plc K d a b < plc K d a' b') : spot K d a' b' < spot K d a b := by
  unfold Near9 at h h'
  unfold spot spC
  omega

/-- What a sweep holds: what it has found, and the spots that wait. -/
structure Swp (K d : Nat) (l1 l2 u1 u2 : Int) (S F : List (Int × Int)) (H : List Int) : Prop where
  near : ∀ x ∈ H, Near9 (sp1 x) (sp2 x) ∧ sp0 x = plc K d (sp1 x) (sp2 x)
  tou : ∀ p ∈ F, Tou K l1 l2 u1 u2 p.1 p.2
  one : F.Nodup
  past : ∀ p ∈ F, ∀ x ∈ H, x < spot K d p.1 p.2
  from_ : ∀ p ∈ S, Tou K l1 l2 u1 u2 p.1 p.2 → p ∈ F ∨ spot K d p.1 p.2 ∈ H
  on : ∀ p ∈ F, ∀ i, i < 6 → 0 < plc K d (uA i) (uB i) → Tou K l1 l2 u1 u2 (p.1 + uA i) (p.2 + uB i) → (p.1 + uA i, p.2 + uB i) ∈ F ∨ spot K d (p.1 + uA i) (p.2 + uB i) ∈ H

/-- The cells that touch are small numbers. -/
def Tight (K : Nat) (l1 l2 u1 u2 : Int) : Prop := ∀ a b, Tou K l1 l2 u1 u2 a b → (-400000000 ≤ a ∧ a ≤ 400000000) ∧ (-400000000 ≤ b ∧ b ≤ 400000000)

theorem Tight.near {K : Nat} {l1 l2 u1 u2 a b : Int} (h : Tight K l1 l2 u1 u2) (ht : Tou K l1 l2 u1 u2 a b) : Near9 a b := by
  have := h a b ht
  unfold Near9
  omega

theorem u_box (i : Nat) : (-1 ≤ uA i ∧ uA i ≤ 1) ∧ (-1 ≤ uB i ∧ uB i ≤ 1) := by
  unfold uA uB
  constructor <;> (split <;> (try split) <;> (try split) <;> (try split) <;> (try split) <;> omega)

theorem Tight.beside {K : Nat} {l1 l2 u1 u2 a b : Int} (h : Tight K l1 l2 u1 u2) (ht : Tou K l1 l2 u1 u2 a b) (i : Nat) : Near9 (a + uA i) (b + uB i) := by
  have := h a b ht
  have := u_box i
  unfold Near9
  omega

theorem tight_world {K : Nat} {r l1 l2 u1 u2 : Int} (hK : K ≤ 12) (hr : 12 - r = (K : Int)) (h1 : 0 ≤ l1) (h2 : 0 ≤ l2) (h3 : u1 < 1073741824) (h4 : u2 < 1073741824) : Tight K l1 l2 u1 u2 := fun _ _ h => ok4_part (tou_ok hK hr h1 h2 h3 h4 h)

/-- A spot tells its cell. -/
theorem Swp.at_spot {K d : Nat} {l1 l2 u1 u2 : Int} {S F : List (Int × Int)} {H : List Int} (h : Swp K d l1 l2 u1 u2 S F H) {x : Int} (hx : x ∈ H) : spot K d (sp1 x) (sp2 x) = x := by
  have := (h.near x hx).2
  unfold spot
  rw [← this]
  exact sp_back x

theorem spot_cell {K d : Nat} {a b x : Int} (h : Near9 a b) (e : spot K d a b = x) : sp1 x = a ∧ sp2 x = b := by
  rw [← e]
  exact (spot_of h).2

/-- Spots are put in, from the first ones on. -/
theorem swp_start {K d : Nat} {l1 l2 u1 u2 : Int} {S : List (Int × Int)} {H : List Int} (hS : ∀ p ∈ S, Near9 p.1 p.2) (hH : H.Perm (S.map fun p => spot K d p.1 p.2)) : Swp K d l1 l2 u1 u2 S [] H := by
  refine ⟨fun x hx => ?_, fun p hp => by simp at hp, List.nodup_nil, fun p hp => by simp at hp, fun p hp _ => .inr ?_, fun p hp => by simp at hp⟩
  · obtain ⟨p, hp, rfl⟩ := List.mem_map.1 (hH.mem_iff.1 hx)
    have e := spot_of (K := K) (d := d) (hS p hp)
    rw [e.1, e.2.1, e.2.2]
    exact ⟨hS p hp, rfl⟩
  · exact hH.mem_iff.2 (List.mem_map.2 ⟨p, hp, rfl⟩)

/-- The first spot is taken off, as often as it is there: its cell doesn't touch. -/
theorem swp_skip {K d : Nat} {l1 l2 u1 u2 : Int} {S F : List (Int × Int)} {H H' : List Int} {x : Int} (hT : Tight K l1 l2 u1 u2) (h : Swp K d l1 l2 u1 u2 S F H) (hH : ∀ y, y ∈ H' → y ∈ H) (hH2 : ∀ y ∈ H, y = x ∨ y ∈ H') (hn : ¬ Tou K l1 l2 u1 u2 (sp1 x) (sp2 x)) : Swp K d l1 l2 u1 u2 S F H' := by
  have key : ∀ a b, Tou K l1 l2 u1 u2 a b → spot K d a b ∈ H → spot K d a b ∈ H' := fun a b ht hm => by
    rcases hH2 _ hm with e | e
    · have k := spot_cell (hT.near ht) e
      rw [k.1, k.2] at hn
      exact absurd ht hn
    · exact e
  exact ⟨fun y hy => h.near y (hH y hy), h.tou, h.one, fun p hp y hy => h.past p hp y (hH y hy), fun p hp ht => (h.from_ p hp ht).imp id (key _ _ ht), fun p hp i hi hc ht => (h.on p hp i hi hc ht).imp id (key _ _ ht)⟩

/-- The ways that lead farther on. -/
def onw (K d : Nat) : List Nat := (List.range 6).filter fun i => decide (0 < plc K d (uA i) (uB i))

theorem mem_onw {K d i : Nat} : i ∈ onw K d ↔ i < 6 ∧ 0 < plc K d (uA i) (uB i) := by
  unfold onw
  rw [List.mem_filter, List.mem_range, decide_eq_true_eq]

theorem onw_len (K d : Nat) : (onw K d).length ≤ 6 := by
  unfold onw
  exact Nat.le_trans (List.length_filter_le _ _) (by simp)

/-- The first spot is taken off: its cell touches; those that lie farther on are put in. -/
theorem swp_take {K d : Nat} {l1 l2 u1 u2 : Int} {S F : List (Int × Int)} {H H' G : List Int} {x : Int} (hT : Tight K l1 l2 u1 u2) (h : Swp K d l1 l2 u1 u2 S F H) (hx : x ∈ H) (hH : ∀ y, y ∈ H' → y ∈ H ∧ y < x) (hH2 : ∀ y ∈ H, y = x ∨ y ∈ H') (ht : Tou K l1 l2 u1 u2 (sp1 x) (sp2 x))
    (hG : G.Perm ((onw K d).map (fun i => spot K d (sp1 x + uA i) (sp2 x + uB i)) ++ H')) : Swp K d l1 l2 u1 u2 S (F ++ [(sp1 x, sp2 x)]) G := by
  have ex := h.at_spot hx
  have inG : ∀ y, y ∈ G ↔ (∃ i, i < 6 ∧ 0 < plc K d (uA i) (uB i) ∧ y = spot K d (sp1 x + uA i) (sp2 x + uB i)) ∨ y ∈ H' := fun y => by
    rw [hG.mem_iff, List.mem_append, List.mem_map]
    constructor
    · rintro (⟨i, hi, rfl⟩ | k)
      · have := mem_onw.1 hi
        exact .inl ⟨i, this.1, this.2, rfl⟩
      · exact .inr k
    · rintro (⟨i, hi, hc, rfl⟩ | k)
      · exact .inl ⟨i, mem_onw.2 ⟨hi, hc⟩, rfl⟩
      · exact .inr k
  have less : ∀ y ∈ G, y < x := fun y hy => by
    rcases (inG y).1 hy with ⟨i, hi, hc, rfl⟩ | k
    · have := spot_on (K := K) (d := d) (hT.near ht) (hT.beside ht i) (by rw [plc_add]; omega)
      omega
    · exact (hH y k).2
  have key : ∀ a b, Tou K l1 l2 u1 u2 a b → spot K d a b ∈ H → (a, b) ∈ F ++ [(sp1 x, sp2 x)] ∨ spot K d a b ∈ G := fun a b htt hm => by
    rcases hH2 _ hm with e | e
    · have k := spot_cell (hT.near htt) e
      rw [← k.1, ← k.2]
      exact .inl (by simp)
    · exact .inr ((inG _).2 (.inr e))
  refine ⟨fun y hy => ?_, fun p hp => ?_, ?_, fun p hp y hy => ?_, fun p hp htt => ?_, fun p hp i hi hc htt => ?_⟩
  · rcases (inG y).1 hy with ⟨i, hi, hc, rfl⟩ | k
    · have e := spot_of (K := K) (d := d) (hT.beside ht i)
      rw [e.1, e.2.1, e.2.2]
      exact ⟨hT.beside ht i, rfl⟩
    · exact h.near y (hH y k).1
  · rcases List.mem_append.1 hp with k | k
    · exact h.tou p k
    · rw [List.mem_singleton.1 k]; exact ht
  · refine List.nodup_append.2 ⟨h.one, by simp, fun p hp q hq => ?_⟩
    rw [List.mem_singleton.1 hq]
    intro e
    have := h.past p hp x hx
    rw [e] at this
    rw [ex] at this
    exact Int.lt_irrefl _ this
  · rcases List.mem_append.1 hp with k | k
    · exact Int.lt_trans (less y hy) (h.past p k x hx)
    · rw [List.mem_singleton.1 k, ex]; exact less y hy
  · rcases h.from_ p hp htt with k | k
    · exact .inl (List.mem_append.2 (.inl k))
    · exact key _ _ htt k
  · rcases List.mem_append.1 hp with k | k
    · rcases h.on p k i hi hc htt with k | k
      · exact .inl (List.mem_append.2 (.inl k))
      · exact key _ _ htt k
    · rw [List.mem_singleton.1 k]
      exact .inr ((inG _).2 (.inl ⟨i, hi, hc, rfl⟩))

/-- Nothing waits: all that touch are found. -/
theorem swp_done {K d : Nat} (hK : K ≤ 12) (hd : d ≤ 1) {r l1 l2 u1 u2 : Int} (hr : 12 - r = (K : Int)) (h1 : 0 ≤ l1) (h2 : 0 ≤ l2) (h3 : u1 < 1073741824) (h4 : u2 < 1073741824) {S F : List (Int × Int)} (h : Swp K d l1 l2 u1 u2 S F [])
    (hS : ∀ a b, Tou K l1 l2 (sdX d l1 u1) (sdX (1 - d) l2 u2) a b → Tou K l1 l2 u1 u2 a b → (a, b) ∈ S) (a b : Int) : Tou K l1 l2 u1 u2 a b ↔ (a, b) ∈ F :=
  ⟨sweep_all hK hd hr h1 h2 h3 h4 (fun a b => (a, b) ∈ F) (fun a b hs ht => (h.from_ (a, b) (hS a b hs ht) ht).elim id fun k => absurd k (by simp))
    (fun a b i hi hc _ hp ht' => (h.on (a, b) hp i hi hc ht').elim id fun k => absurd k (by simp)) a b, fun hp => h.tou (a, b) hp⟩

end Go.Proofs.YtdklpgphmoaniaaGreatDoor
