/-
  Plain facts: a cell that touches a box of the world may be; so few cells hold one point. No condition beyond those written.
-/
import Derived.Test.YtdklpgphmoaniaaGreatDoorCovHex
import Derived.Test.YtdklpgphmoaniaaGreatDoorProg
import Derived.Handy
import Derived.Deep.QuietTactic
import Derived.WalkSpells
import Derived.WalkLawsBesides
import Derived.BigQuiet
import Derived.PlainAid
import Derived.Deep.RegionWith
import Derived.Laws.BitsAllLaws
namespace Go.Proofs.YtdklpgphmoaniaaGreatDoor

/-- A cell that touches a box of the world may be. -/
theorem tou_ok {K : Nat} {r l1 l2 u1 u2 a b : Int} (hK : K ≤ 12) (hr : 12 - r = (K : Int)) (h1 : 0 ≤ l1) (h2 : 0 ≤ l2) (h3 : u1 < 1073741824) (h4 : u2 < 1073741824) (h : Tou K l1 l2 u1 u2 a b) : Ok4 r a b := by
  obtain ⟨x, y, hx, hy, hn⟩ := tou_near hK h
  obtain ⟨p, q, hpq⟩ := nearest_some (d := dvK K) (dvK_box hK).1 (nuA K x y) (nuB K x y)
  have hs := hn p q hpq.1
  have hM : Mid (12 - K) p q := ⟨by omega, near_norm0 hK ⟨by omega, by omega, by omega, by omega⟩ hpq⟩
  have := hM.ok (p := a - p) (q := b - q) (by rw [stp_back]; omega)
  rw [show p + (a - p) = a by omega, show q + (b - q) = b by omega] at this
  rwa [show ((12 - K : Nat) : Int) = r by omega] at this

/-- Numbers of the lattice that are one step apart, each from each, are three at most. -/
theorem clique : ∀ {L : List (Int × Int)}, L.Nodup → (∀ p ∈ L, ∀ q ∈ L, stp (p.1 - q.1) (p.2 - q.2) ≤ 1) → L.length ≤ 3
  | [], _, _ => by simp
  | [_], _, _ => by simp
  | [_, _], _, _ => by simp
  | [_, _, _], _, _ => by simp
  | p :: q :: s :: t :: L, hn, h => by
    exfalso
    simp only [List.nodup_cons, List.mem_cons, not_or] at hn
    obtain ⟨⟨n1, n2, n3, -⟩, ⟨n4, n5, -⟩, ⟨n6, -⟩, -⟩ := hn
    have ne : ∀ {p q : Int × Int}, ¬ p = q → p.1 ≠ q.1 ∨ p.2 ≠ q.2 := fun {p q} h => by
      by_cases c : p.1 = q.1
      · exact .inr fun d => h (Prod.ext c d)
      · exact .inl c
    have m1 := ne n1
    have m2 := ne n2
    have m3 := ne n3
    have m4 := ne n4
    have m5 := ne n5
    have m6 := ne n6
    have g : ∀ a b : Int × Int, a ∈ p :: q :: s :: t :: L → b ∈ p :: q :: s :: t :: L → (-1 ≤ a.1 - b.1 ∧ a.1 - b.1 ≤ 1) ∧ (-1 ≤ a.2 - b.2 ∧ a.2 - b.2 ≤ 1) ∧ (-1 ≤ a.1 - b.1 + (a.2 - b.2) ∧ a.1 - b.1 + (a.2 - b.2) ≤ 1) := fun a b ha hb => by
      have h1 := h a ha b hb
      have h2 := stp_ge (a.1 - b.1) (a.2 - b.2)
      omega
    have g1 := g p q (by simp) (by simp)
    have g2 := g p s (by simp) (by simp)
    have g3 := g p t (by simp) (by simp)
    have g4 := g q s (by simp) (by simp)
    have g5 := g q t (by simp) (by simp)
    have g6 := g s t (by simp) (by simp)
    clear g h n1 n2 n3 n4 n5 n6 ne
    obtain ⟨p1, p2⟩ := p
    obtain ⟨q1, q2⟩ := q
    obtain ⟨s1, s2⟩ := s
    obtain ⟨t1, t2⟩ := t
    simp only at *
    obtain ⟨a, ea⟩ : ∃ a, p1 - q1 = a := ⟨_, rfl⟩
    obtain ⟨b, eb⟩ : ∃ b, p2 - q2 = b := ⟨_, rfl⟩
    have hab : (a = 1 ∧ b = 0) ∨ (a = 0 ∧ b = 1) ∨ (a = -1 ∧ b = 1) ∨ (a = -1 ∧ b = 0) ∨ (a = 0 ∧ b = -1) ∨ (a = 1 ∧ b = -1) := by omega
    rcases hab with ⟨rfl, rfl⟩ | ⟨rfl, rfl⟩ | ⟨rfl, rfl⟩ | ⟨rfl, rfl⟩ | ⟨rfl, rfl⟩ | ⟨rfl, rfl⟩ <;> omega

/-- A width of a cell, size by size. -/
def szK : Nat → Int
  | 0 => 52
  | k + 1 => szK k * 8 / 3

def fXp (K : Nat) : Int := 45 * (2 * cjA K + cjB K)

def fXq (K : Nat) : Int := -26 * (2 * cjA K + cjB K) + 52 * (cjA K - cjB K)

def fYp (K : Nat) : Int := 45 * (cjA K + 2 * cjB K)

def fYq (K : Nat) : Int := -26 * (cjA K + 2 * cjB K) + 52 * (2 * cjA K + cjB K)

def fZp (K : Nat) : Int := 45 * (cjA K - cjB K)

def fZq (K : Nat) : Int := -26 * (cjA K - cjB K) - 52 * (cjA K + 2 * cjB K)

theorem nu_forms (K : Nat) (x y : Int) : 2 * nuA K x y + nuB K x y = x * fXp K + y * fXq K ∧ nuA K x y + 2 * nuB K x y = x * fYp K + y * fYq K ∧ nuA K x y - nuB K x y = x * fZp K + y * fZq K := by
  unfold nuA nuB fXp fXq fYp fYq fZp fZq
  refine ⟨?_, ?_, ?_⟩ <;> grind

theorem sz_fin : ∀ i : Fin 13, (decide (8 * szK i.val * (max (fXp i.val) (-fXp i.val) + max (fXq i.val) (-fXq i.val)) ≤ 84 * dvK i.val) && decide (8 * szK i.val * (max (fYp i.val) (-fYp i.val) + max (fYq i.val) (-fYq i.val)) ≤ 84 * dvK i.val) && decide (8 * szK i.val * (max (fZp i.val) (-fZp i.val) + max (fZq i.val) (-fZq i.val)) ≤ 84 * dvK i.val) && decide (0 ≤ szK i.val)) = true := by decide +kernel

theorem form_box {p q u v W F : Int} (hu : -W ≤ u ∧ u ≤ W) (hv : -W ≤ v ∧ v ≤ W) (h : W * (max p (-p) + max q (-q)) ≤ F) : -F ≤ u * p + v * q ∧ u * p + v * q ≤ F := by
  obtain ⟨P, eP⟩ : ∃ P, max p (-p) = P := ⟨_, rfl⟩
  obtain ⟨Q, eQ⟩ : ∃ Q, max q (-q) = Q := ⟨_, rfl⟩
  rw [eP, eQ] at h
  have h1 := mul_in (a := u) (b := p) hu (show -P ≤ p ∧ p ≤ P by omega)
  have h2 := mul_in (a := v) (b := q) hv (show -Q ≤ q ∧ q ≤ Q by omega)
  have e : W * (P + Q) = W * P + W * Q := by grind
  omega

/-- The cells of two points that are not far from each other are not many steps apart. -/
theorem apart_steps {K : Nat} (hK : K ≤ 12) {x y x' y' a b a' b' F W : Int} (h : HexAt (dvK K) (nuA K x y) (nuB K x y) a b) (h' : HexAt (dvK K) (nuA K x' y') (nuB K x' y') a' b') (hx : -W ≤ x' - x ∧ x' - x ≤ W) (hy : -W ≤ y' - y ∧ y' - y ≤ W)
    (h0 : W * (max (fXp K) (-fXp K) + max (fXq K) (-fXq K)) ≤ F * dvK K) (h1 : W * (max (fYp K) (-fYp K) + max (fYq K) (-fYq K)) ≤ F * dvK K) (h2 : W * (max (fZp K) (-fZp K) + max (fZq K) (-fZq K)) ≤ F * dvK K) (hF : 0 ≤ F) : 3 * stp (a' - a) (b' - b) ≤ 2 * F + 4 := by
  have hd := (dvK_box hK).1
  have k0 := form_box hx hy h0
  have k1 := form_box hx hy h1
  have k2 := form_box hx hy h2
  have e := nu_forms K (x' - x) (y' - y)
  have eA : nuA K (x' - x) (y' - y) = nuA K x' y' - nuA K x y := by unfold nuA; grind
  have eB : nuB K (x' - x) (y' - y) = nuB K x' y' - nuB K x y := by unfold nuB; grind
  rw [eA, eB] at e
  rw [← e.1] at k0
  rw [← e.2.1] at k1
  rw [← e.2.2] at k2
  clear e eA eB h0 h1 h2
  unfold HexAt Hex at h h'
  obtain ⟨p, ep⟩ : ∃ p, a' - a = p := ⟨_, rfl⟩
  obtain ⟨q, eq⟩ : ∃ q, b' - b = q := ⟨_, rfl⟩
  rw [ep, eq]
  have e1 : a' * dvK K = a * dvK K + p * dvK K := by rw [← ep]; grind
  have e2 : b' * dvK K = b * dvK K + q * dvK K := by rw [← eq]; grind
  rw [e1, e2] at h'
  have key : ∀ m : Int, -(F * dvK K + 2 * dvK K) ≤ m * dvK K → m * dvK K ≤ F * dvK K + 2 * dvK K → -(F + 2) ≤ m ∧ m ≤ F + 2 := fun m h1 h2 => by
    have e3 : (F + 3) * dvK K = F * dvK K + 3 * dvK K := by grind
    constructor
    · by_cases c : -(F + 2) ≤ m
      · exact c
      · have := Int.mul_le_mul_of_nonneg_right (show m ≤ -(F + 3) by omega) (show 0 ≤ dvK K by omega)
        rw [Int.neg_mul] at this
        omega
    · by_cases c : m ≤ F + 2
      · exact c
      · have := Int.mul_le_mul_of_nonneg_right (show F + 3 ≤ m by omega) (show 0 ≤ dvK K by omega)
        omega
  have f0 : (2 * p + q) * dvK K = 2 * (p * dvK K) + q * dvK K := by grind
  have f1 : (p + 2 * q) * dvK K = p * dvK K + 2 * (q * dvK K) := by grind
  have f2 : (p - q) * dvK K = p * dvK K - q * dvK K := by grind
  have g0 := key (2 * p + q) (by omega) (by omega)
  have g1 := key (p + 2 * q) (by omega) (by omega)
  have g2 := key (p - q) (by omega) (by omega)
  have hs := stp_le (a := p) (b := q) (n := (2 * F + 4) / 3) (by omega) (by omega) (by omega) (by omega)
  omega

/-- The cells that touch a box of some cells are near its first corner's. -/
theorem box_steps {K : Nat} (hK : K ≤ 12) {l1 l2 u1 u2 a b sa sb : Int} (hx : u1 - l1 ≤ 8 * szK K) (hy : u2 - l2 ≤ 8 * szK K) (hs : HexAt (dvK K) (nuA K l1 l2) (nuB K l1 l2) sa sb) (h : Tou K l1 l2 u1 u2 a b) : stp (a - sa) (b - sb) ≤ 58 := by
  obtain ⟨x, y, hx', hy', hn⟩ := tou_near hK h
  obtain ⟨p, q, hpq⟩ := nearest_some (d := dvK K) (dvK_box hK).1 (nuA K x y) (nuB K x y)
  have h1 := hn p q hpq.1
  have hf := sz_fin ⟨K, by omega⟩
  simp only [Bool.and_eq_true, decide_eq_true_eq] at hf
  have h2 := apart_steps hK hs hpq.1 (W := 8 * szK K) (F := 84) (by omega) (by omega) hf.1.1.1 hf.1.1.2 hf.1.2 (by omega)
  have h3 := stp_sub a b p q sa sb
  rw [stp_back a b p q] at h3
  omega

theorem nodup_len {α : Type} [DecidableEq α] : ∀ {K L : List α}, K.Nodup → (∀ x ∈ K, x ∈ L) → K.length ≤ L.length
  | [], _, _, _ => Nat.zero_le _
  | x :: K, L, hn, h => by
    have hn' := List.nodup_cons.1 hn
    have hx := h x (List.mem_cons_self ..)
    have ih := nodup_len (L := L.erase x) hn'.2 fun y hy => (List.mem_erase_of_ne (fun e => hn'.1 (by rw [← e]; exact hy))).2 (h y (List.mem_cons_of_mem _ hy))
    have hl := List.length_erase_of_mem hx
    have hp := List.length_pos_of_mem hx
    rw [List.length_cons]
    omega

/-- As many cells as lie so near: no more. -/
theorem few_near {N : Nat} {sa sb : Int} {L : List (Int × Int)} (hn : L.Nodup) (h : ∀ p ∈ L, stp (p.1 - sa) (p.2 - sb) ≤ N) : L.length ≤ 3 * N * (N + 1) + 1 := by
  have hnd : (L.map fun p => (p.1 - sa, p.2 - sb)).Nodup := by
    refine (List.pairwise_map).2 (hn.imp fun {a b} hne he => hne ?_)
    have h1 := congrArg Prod.fst he
    have h2 := congrArg Prod.snd he
    dsimp only at h1 h2
    exact Prod.ext (by omega) (by omega)
  have hs : ∀ x ∈ (L.map fun p => (p.1 - sa, p.2 - sb)), x ∈ diskP (N + 1) := fun x hx => by
    obtain ⟨p, hp, rfl⟩ := List.mem_map.1 hx
    have := h p hp
    exact mem_diskP.2 (by dsimp only; omega)
  have := nodup_len hnd hs
  rwa [List.length_map, diskP_len] at this

end Go.Proofs.YtdklpgphmoaniaaGreatDoor
