/-
  Rings of corners as they lie in memory: a list of corners, a list of rings, of whatever origin; which rings may be, what lies on them, in them. No condition beyond those written.
-/
import Derived.Test.YtmfpkphhjfgjbabPD
import Derived.Test.YtmfpkphhjfgjbabPolyMath
import Derived.Laws.BitsAllLaws
import Derived.Handy
import Derived.Deep.QuietTactic
import Derived.Test.YtmfpkphhjfgjbabProg
import Derived.WalkSpells
import Derived.WalkLawsBesides
import Derived.BigQuiet
import Derived.PlainAid
import Derived.Deep.RegionWith
import Derived.Deep.RegionHeld3
import Derived.WalkSmall
import Derived.Deep.CutRange
import Derived.BigRegion
import Derived.OwnWalk
import Derived.Laws.OwnMore
import Derived.OneCell
import Derived.Laws.CopyOwn
import Derived.Sort.Row
namespace Go.Proofs.Ytmfpkphhjfgjbab
open Go.RowKit

/-- The value v is a list of corners that lies anywhere. -/
def RingL (w : World) (v : Value) (L : List (Int × Int)) : Prop := ∃ (p : Option Addr) (cap : Nat), v = .slice p L.length cap ∧ L.length ≤ cap ∧ ∀ (j : Nat) (hj : j < L.length), ∃ g o, p = some ⟨g, o, none⟩ ∧ w.cell? ⟨g, o + j * 2, none⟩ = some (.int .i64 L[j].1) ∧ w.cell? ⟨g, o + j * 2 + 1, none⟩ = some (.int .i64 L[j].2)

theorem RingL.keep {w w' : World} {v : Value} {L : List (Int × Int)} (h : RingL w v L) (hb : Below w.heap.size w w') : RingL w' v L := by
  obtain ⟨p, c, e, h1, h2⟩ := h
  refine ⟨p, c, e, h1, fun j hj => ?_⟩
  obtain ⟨g, o, h3, h4, h5⟩ := h2 j hj
  exact ⟨g, o, h3, keepCell hb h4, keepCell hb h5⟩

/-- The value v is a list of rings that lies anywhere. -/
def RingsL (w : World) (v : Value) (G : List (List (Int × Int))) : Prop := ∃ (p : Option Addr) (cap : Nat), v = .slice p G.length cap ∧ G.length ≤ cap ∧ ∀ (j : Nat) (hj : j < G.length), ∃ g o s, p = some ⟨g, o, none⟩ ∧ w.cell? ⟨g, o + j, none⟩ = some s ∧ RingL w s G[j]

theorem RingsL.keep {w w' : World} {v : Value} {G : List (List (Int × Int))} (h : RingsL w v G) (hb : Below w.heap.size w w') : RingsL w' v G := by
  obtain ⟨p, c, e, h1, h2⟩ := h
  refine ⟨p, c, e, h1, fun j hj => ?_⟩
  obtain ⟨g, o, s, h3, h4, h5⟩ := h2 j hj
  exact ⟨g, o, s, h3, keepCell hb h4, h5.keep hb⟩

/-- How many corners there are in all. -/
def corners : List (List (Int × Int)) → Nat
  | [] => 0
  | L :: G => L.length + corners G

theorem corners_snoc (L : List (Int × Int)) : ∀ G : List (List (Int × Int)), corners (G ++ [L]) = corners G + L.length
  | [] => by show L.length + 0 = 0 + L.length; omega
  | M :: G => by show M.length + corners (G ++ [L]) = M.length + corners G + L.length; rw [corners_snoc L G]; omega

theorem corners_app (M : List (List (Int × Int))) : ∀ G : List (List (Int × Int)), corners (G ++ M) = corners G + corners M
  | [] => by show corners M = 0 + corners M; omega
  | L :: G => by show L.length + corners (G ++ M) = L.length + corners G + corners M; rw [corners_app M G]; omega

theorem corners_mem : ∀ {G : List (List (Int × Int))} {L : List (Int × Int)}, L ∈ G → L.length ≤ corners G
  | M :: G, L, h => by
    rcases List.mem_cons.1 h with rfl | h
    · show L.length ≤ L.length + corners G; omega
    · have := corners_mem h
      show L.length ≤ M.length + corners G; omega

/-- A corner is of the world. -/
def InWo (p : Int × Int) : Prop := 0 ≤ p.1 ∧ p.1 < 1073741824 ∧ 0 ≤ p.2 ∧ p.2 < 1073741824

/-- What Check tells: t. -/
def ChkT (G : List (List (Int × Int))) (t : Int) : Prop :=
  ((20 < G.length ∨ 500 < corners G) ∧ t = 7) ∨
  ((¬ (20 < G.length ∨ 500 < corners G)) ∧ (G = [] ∨ ∃ L ∈ G, L.length < 3) ∧ t = 1) ∨
  ((¬ (20 < G.length ∨ 500 < corners G)) ∧ G ≠ [] ∧ (∀ L ∈ G, 3 ≤ L.length) ∧ (∃ L ∈ G, ∃ p ∈ L, ¬ InWo p) ∧ t = 4) ∨
  ((¬ (20 < G.length ∨ 500 < corners G)) ∧ G ≠ [] ∧ (∀ L ∈ G, 3 ≤ L.length) ∧ (∀ L ∈ G, ∀ p ∈ L, InWo p) ∧ t = 0)

theorem ChkT.one {G : List (List (Int × Int))} {t t' : Int} (h : ChkT G t) (h' : ChkT G t') : t = t' := by
  rcases h with ⟨a, rfl⟩ | ⟨a, b, rfl⟩ | ⟨a, b, c, d, rfl⟩ | ⟨a, b, c, d, rfl⟩ <;> rcases h' with ⟨a', rfl⟩ | ⟨a', b', rfl⟩ | ⟨a', b', c', d', rfl⟩ | ⟨a', b', c', d', rfl⟩
  all_goals first
    | rfl
    | exact absurd a a'
    | exact absurd a' a
    | (exfalso; rcases b with b | ⟨L, hL, h3⟩
       · exact b' b
       · have := c' L hL; omega)
    | (exfalso; rcases b' with b' | ⟨L, hL, h3⟩
       · exact b b'
       · have := c L hL; omega)
    | (exfalso; obtain ⟨L, hL, p, hp, hn⟩ := d; exact hn (d' L hL p hp))
    | (exfalso; obtain ⟨L, hL, p, hp, hn⟩ := d'; exact hn (d L hL p hp))

/-- Rings that may be. -/
def Okay (G : List (List (Int × Int))) : Prop := ChkT G 0

theorem okay_iff {G : List (List (Int × Int))} : Okay G ↔ G.length ≤ 20 ∧ corners G ≤ 500 ∧ G ≠ [] ∧ (∀ L ∈ G, 3 ≤ L.length) ∧ (∀ L ∈ G, ∀ p ∈ L, InWo p) := by
  unfold Okay ChkT
  constructor
  · rintro (⟨_, h⟩ | ⟨_, _, h⟩ | ⟨_, _, _, _, h⟩ | ⟨a, b, c, d, _⟩)
    · omega
    · omega
    · omega
    · exact ⟨by omega, by omega, b, c, d⟩
  · rintro ⟨a, b, c, d, e⟩
    exact .inr (.inr (.inr ⟨by omega, c, d, e, rfl⟩))

theorem chk_zero {G : List (List (Int × Int))} {t : Int} (h : ChkT G t) : t = 0 ↔ Okay G := ⟨fun e => by unfold Okay; rw [← e]; exact h, fun k => h.one k⟩

theorem chk_box {G : List (List (Int × Int))} {t : Int} (h : ChkT G t) : 0 ≤ t ∧ t ≤ 7 := by
  rcases h with ⟨_, rfl⟩ | ⟨_, _, rfl⟩ | ⟨_, _, _, _, rfl⟩ | ⟨_, _, _, _, rfl⟩ <;> omega

/-- Too far away to be asked of. -/
def Far (x y : Int) : Prop := x < -2147483648 ∨ 2147483648 < x ∨ y < -2147483648 ∨ 2147483648 < y

/-- How many edges of all rings a point lies on; how many cross right of it. -/
def onG : List (List (Int × Int)) → Int → Int → Int
  | [], _, _ => 0
  | L :: G, x, y => onN L x y + onG G x y

def crG : List (List (Int × Int)) → Int → Int → Int
  | [], _, _ => 0
  | L :: G, x, y => crN L x y + crG G x y

theorem onG_nonneg (x y : Int) : ∀ G : List (List (Int × Int)), 0 ≤ onG G x y
  | [] => Int.le_refl 0
  | L :: G => by
    have h1 := onN_nonneg L x y
    have h2 := onG_nonneg x y G
    show 0 ≤ onN L x y + onG G x y
    omega

theorem onG_app (x y : Int) (M : List (List (Int × Int))) : ∀ G : List (List (Int × Int)), onG (G ++ M) x y = onG G x y + onG M x y
  | [] => by show onG M x y = 0 + onG M x y; omega
  | L :: G => by show onN L x y + onG (G ++ M) x y = onN L x y + onG G x y + onG M x y; rw [onG_app x y M G]; omega

theorem crG_app (x y : Int) (M : List (List (Int × Int))) : ∀ G : List (List (Int × Int)), crG (G ++ M) x y = crG G x y + crG M x y
  | [] => by show crG M x y = 0 + crG M x y; omega
  | L :: G => by show crN L x y + crG (G ++ M) x y = crN L x y + crG G x y + crG M x y; rw [crG_app x y M G]; omega

theorem onG_next (x y : Int) {G : List (List (Int × Int))} {i : Nat} (h : i < G.length) : onG (G.take (i + 1)) x y = onG (G.take i) x y + onN G[i] x y := by
  rw [List.take_succ_eq_append_getElem h, onG_app]
  show _ + (onN _ x y + 0) = _
  omega

theorem crG_next (x y : Int) {G : List (List (Int × Int))} {i : Nat} (h : i < G.length) : crG (G.take (i + 1)) x y = crG (G.take i) x y + crN G[i] x y := by
  rw [List.take_succ_eq_append_getElem h, crG_app]
  show _ + (crN _ x y + 0) = _
  omega

theorem corners_next {G : List (List (Int × Int))} {i : Nat} (h : i < G.length) : corners (G.take (i + 1)) = corners (G.take i) + G[i].length := by
  rw [List.take_succ_eq_append_getElem h, corners_snoc]

/-- What On and Inside tell. -/
def OnT (G : List (List (Int × Int))) (x y : Int) : Prop := Okay G ∧ (¬ Far x y) ∧ 0 < onG G x y

def InT (G : List (List (Int × Int))) (x y : Int) : Prop := Okay G ∧ (¬ Far x y) ∧ (0 < onG G x y ∨ crG G x y % 2 = 1)

/-- The least and the greatest numbers of some corners. -/
def Bx (C : List (Int × Int)) (lo hi : Int × Int) : Prop :=
  (∀ p ∈ C, lo.1 ≤ p.1 ∧ p.1 ≤ hi.1 ∧ lo.2 ≤ p.2 ∧ p.2 ≤ hi.2) ∧ (∃ p ∈ C, p.1 = lo.1) ∧ (∃ p ∈ C, p.2 = lo.2) ∧ (∃ p ∈ C, p.1 = hi.1) ∧ ∃ p ∈ C, p.2 = hi.2

theorem Bx.one {C : List (Int × Int)} {lo hi lo' hi' : Int × Int} (h : Bx C lo hi) (h' : Bx C lo' hi') : lo = lo' ∧ hi = hi' := by
  obtain ⟨a, ⟨p1, m1, e1⟩, ⟨p2, m2, e2⟩, ⟨p3, m3, e3⟩, p4, m4, e4⟩ := h
  obtain ⟨a', ⟨q1, n1, f1⟩, ⟨q2, n2, f2⟩, ⟨q3, n3, f3⟩, q4, n4, f4⟩ := h'
  have k1 := a' p1 m1
  have k2 := a' p2 m2
  have k3 := a' p3 m3
  have k4 := a' p4 m4
  have l1 := a q1 n1
  have l2 := a q2 n2
  have l3 := a q3 n3
  have l4 := a q4 n4
  exact ⟨Prod.ext (by omega) (by omega), Prod.ext (by omega) (by omega)⟩

/-- What Box tells. -/
def BoxT (G : List (List (Int × Int))) (lo hi : Int × Int) : Prop := (Okay G ∧ Bx G.flatten lo hi) ∨ ((¬ Okay G) ∧ lo = (0, 0) ∧ hi = (0, 0))

theorem BoxT.one {G : List (List (Int × Int))} {lo hi lo' hi' : Int × Int} (h : BoxT G lo hi) (h' : BoxT G lo' hi') : lo = lo' ∧ hi = hi' := by
  rcases h with ⟨a, b⟩ | ⟨a, rfl, rfl⟩ <;> rcases h' with ⟨a', b'⟩ | ⟨a', rfl, rfl⟩
  · exact b.one b'
  · exact absurd a a'
  · exact absurd a' a
  · exact ⟨rfl, rfl⟩

/-- What Area2 tells. -/
def AreaT (R : List (Int × Int)) (z : Int) : Prop := (Okay [R] ∧ z = wrap64 (area R)) ∨ ((¬ Okay [R]) ∧ z = 0)

theorem okay_one {R : List (Int × Int)} : Okay [R] ↔ 3 ≤ R.length ∧ R.length ≤ 500 ∧ ∀ p ∈ R, InWo p := by
  rw [okay_iff]
  have e : corners [R] = R.length := by show R.length + 0 = _; omega
  rw [e]
  constructor
  · rintro ⟨_, a, _, b, c⟩; exact ⟨b R (List.mem_singleton.2 rfl), a, c R (List.mem_singleton.2 rfl)⟩
  · rintro ⟨a, b, c⟩
    exact ⟨by simp, b, by simp, fun L hL => by rw [List.mem_singleton.1 hL]; exact a, fun L hL => by rw [List.mem_singleton.1 hL]; exact c⟩

theorem onG_one (R : List (Int × Int)) (x y : Int) : onG [R] x y = onN R x y := by show onN R x y + 0 = _; omega

theorem crG_one (R : List (Int × Int)) (x y : Int) : crG [R] x y = crN R x y := by show crN R x y + 0 = _; omega

/-- The sum over the first k edges of a ring. -/
def part (f : Int × Int → Int × Int → Int) (L : List (Int × Int)) (k : Nat) : Int := sumN (fun k => f (pt L k) (pt L ((k + 1) % L.length))) k

theorem part_all (f : Int × Int → Int × Int → Int) (L : List (Int × Int)) : part f L L.length = cyc f L := rfl

theorem part_next (f : Int × Int → Int × Int → Int) (L : List (Int × Int)) (k : Nat) : part f L (k + 1) = part f L k + f (pt L k) (pt L ((k + 1) % L.length)) := rfl

theorem pt_mem {L : List (Int × Int)} {k : Nat} (h : k < L.length) : pt L k ∈ L := by rw [pt_at h]; exact List.getElem_mem h

/-- The sign of a side, as a number. -/
def sgn (n : Int) : Int := if n < 0 then -1 else if 0 < n then 1 else 0

theorem sgn_eq {p q : Int × Int} {x y : Int} : sgn (crs p q x y) = if decide ((q.1 - p.1) * (y - p.2) < (q.2 - p.2) * (x - p.1)) = true then -1 else if decide ((q.2 - p.2) * (x - p.1) < (q.1 - p.1) * (y - p.2)) = true then 1 else 0 := by
  unfold sgn crs
  simp only [decide_eq_true_eq]
  by_cases h1 : (q.1 - p.1) * (y - p.2) < (q.2 - p.2) * (x - p.1)
  · rw [if_pos (by omega), if_pos h1]
  · rw [if_neg (by omega), if_neg h1]
    by_cases h2 : (q.2 - p.2) * (x - p.1) < (q.1 - p.1) * (y - p.2)
    · rw [if_pos (by omega), if_pos h2]
    · rw [if_neg (by omega), if_neg h2]

theorem sgn_zero {n : Int} : sgn n = 0 ↔ n = 0 := by
  unfold sgn
  by_cases h1 : n < 0
  · rw [if_pos h1]; omega
  · rw [if_neg h1]
    by_cases h2 : 0 < n
    · rw [if_pos h2]; omega
    · rw [if_neg h2]; omega

theorem sgn_pos {n : Int} : 0 < sgn n ↔ 0 < n := by
  unfold sgn
  by_cases h1 : n < 0
  · rw [if_pos h1]; omega
  · rw [if_neg h1]
    by_cases h2 : 0 < n
    · rw [if_pos h2]; omega
    · rw [if_neg h2]; omega

theorem sgn_neg {n : Int} : sgn n < 0 ↔ n < 0 := by
  unfold sgn
  by_cases h1 : n < 0
  · rw [if_pos h1]; omega
  · rw [if_neg h1]
    by_cases h2 : 0 < n
    · rw [if_pos h2]; omega
    · rw [if_neg h2]; omega

end Go.Proofs.Ytmfpkphhjfgjbab
