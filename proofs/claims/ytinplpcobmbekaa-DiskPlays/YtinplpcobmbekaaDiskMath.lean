
import Derived.Test.YtinplpcobmbekaaProg
import Derived.Laws.CopyOwn
import Derived.Below
namespace Go.Proofs.Ytinplpcobmbekaa
open Go.RowKit Go

/-- A disk, as the document speaks of it: its bytes as they are written, as they last, what waits, how many calls are let, whether it is dead. -/
structure DS where
  now : List Int
  last : List Int
  waits : List (Int × Int)
  left : Int
  dead : Bool

/-- Bytes with their places. -/
def zipAt (at_ : Nat) : List Int → List (Int × Int)
  | [] => []
  | x :: b => ((at_ : Int), x) :: zipAt (at_ + 1) b

/-- A byte laid at its place. -/
def put1 (L : List Int) (p : Int × Int) : List Int := L.set p.1.toNat p.2

def puts (L : List Int) (ws : List (Int × Int)) : List Int := ws.foldl put1 L

def DS.cnt (s : DS) : DS := if 0 < s.left then ⟨s.now, s.last, s.waits, s.left - 1, decide (s.left - 1 = 0)⟩ else s

def DS.wr (s : DS) (at_ : Nat) (b : List Int) : DS := DS.cnt ⟨splice s.now at_ b, s.last, s.waits ++ zipAt at_ b, s.left, s.dead⟩

def DS.sy (s : DS) : DS := DS.cnt ⟨s.now, s.now, [], s.left, s.dead⟩

def DS.stop (s : DS) (n : Int) : DS := ⟨s.now, s.last, s.waits, max n (-1), s.dead || decide (n = 0)⟩

def DS.crash (s : DS) (keep : Int) : DS := ⟨puts s.last (s.waits.take keep.toNat), puts s.last (s.waits.take keep.toNat), [], -1, false⟩

def newD (n : Nat) : DS := ⟨List.replicate n 0, List.replicate n 0, [], -1, false⟩

/-- Whether some bytes are not all there. -/
def outD (n : Nat) (at_ m : Int) : Bool := decide (at_ < 0) || decide (m < 0) || decide ((n : Int) < at_) || decide ((n : Int) - at_ < m)

/-- What Read and Write answer: the error; the bytes. -/
def rdK (s : DS) (n : Nat) (a m : Int) : Int := if outD n a m = true then 1 else if s.dead = true then 9 else 0

def rdL (s : DS) (n : Nat) (a m : Int) : List Int := if rdK s n a m = 0 then (s.now.drop a.toNat).take m.toNat else []

theorem rd_arg {s : DS} {n : Nat} {a m : Int} (h : outD n a m = true) : rdK s n a m = 1 ∧ rdL s n a m = [] := by
  have e : rdK s n a m = 1 := if_pos h
  exact ⟨e, if_neg (by omega)⟩

theorem rd_dead {s : DS} {n : Nat} {a m : Int} (h : outD n a m = false) (hd : s.dead = true) : rdK s n a m = 9 ∧ rdL s n a m = [] := by
  have e : rdK s n a m = 9 := by unfold rdK; rw [h, hd]; rfl
  exact ⟨e, if_neg (by omega)⟩

theorem rd_ok {s : DS} {n : Nat} {a m : Int} (h : outD n a m = false) (hd : s.dead = false) : rdK s n a m = 0 ∧ rdL s n a m = (s.now.drop a.toNat).take m.toNat := by
  have e : rdK s n a m = 0 := by unfold rdK; rw [h, hd]; rfl
  exact ⟨e, if_pos e⟩

theorem out_no {n : Nat} {a m : Int} (h : outD n a m = false) : ∃ i j : Nat, a = (i : Int) ∧ m = (j : Int) ∧ i + j ≤ n := by
  unfold outD at h
  simp only [Bool.or_eq_false_iff, decide_eq_false_iff_not] at h
  obtain ⟨⟨⟨o1, o2⟩, o3⟩, o4⟩ := h
  exact ⟨a.toNat, m.toNat, by omega, by omega, by omega⟩

/-- Sync and Write: the error and the state behind it. -/
def syK (s : DS) : Int := if s.dead = true then 9 else 0

def syS (s : DS) : DS := if s.dead = true then s else s.sy

def wrS (s : DS) (n : Nat) (a : Int) (b : List Int) : DS := if rdK s n a b.length = 0 then s.wr a.toNat b else s

/-- What may be: places within, bytes that are bytes. -/
structure DS.Ok (s : DS) (n : Nat) : Prop where
  now : s.now.length = n
  last : s.last.length = n
  nb : ∀ x ∈ s.now, 0 ≤ x ∧ x < 256
  lb : ∀ x ∈ s.last, 0 ≤ x ∧ x < 256
  wb : ∀ p ∈ s.waits, 0 ≤ p.1 ∧ p.1 < n ∧ 0 ≤ p.2 ∧ p.2 < 256
  left : -1 ≤ s.left ∧ s.left ≤ 9223372036854775807
  size : n ≤ 1000000

theorem zipAt_len (a : Nat) (b : List Int) : (zipAt a b).length = b.length := by
  induction b generalizing a with
  | nil => rfl
  | cons x b ih => simp [zipAt, ih]

theorem zipAt_app (a : Nat) (b c : List Int) : zipAt a (b ++ c) = zipAt a b ++ zipAt (a + b.length) c := by
  induction b generalizing a with
  | nil => simp [zipAt]
  | cons x b ih => simp [zipAt, ih, Nat.add_comm, Nat.add_left_comm]

theorem zipAt_take (a k : Nat) (b : List Int) : (zipAt a b).take k = zipAt a (b.take k) := by
  induction b generalizing a k with
  | nil => simp [zipAt]
  | cons x b ih => cases k with
    | zero => simp [zipAt]
    | succ k => simp [zipAt, ih]

theorem zipAt_mem {a : Nat} {b : List Int} {p : Int × Int} (h : p ∈ zipAt a b) : (a : Int) ≤ p.1 ∧ p.1 < ((a + b.length : Nat) : Int) ∧ p.2 ∈ b := by
  induction b generalizing a with
  | nil => simp [zipAt] at h
  | cons x b ih =>
    simp only [zipAt, List.mem_cons] at h
    rcases h with rfl | h
    · simp; omega
    · have := ih h
      simp only [List.length_cons, List.mem_cons]
      refine ⟨by omega, by omega, .inr this.2.2⟩

theorem splice_nil (L : List Int) (a : Nat) : splice L a [] = L := by simp [splice]

theorem splice_len {L : List Int} {a : Nat} {b : List Int} (h : a + b.length ≤ L.length) : (splice L a b).length = L.length := length_splice L a b h

theorem set_splice {L : List Int} {a : Nat} {b : List Int} {x : Int} (h : a + b.length < L.length) : (splice L a b).set (a + b.length) x = splice L a (b ++ [x]) := by
  apply List.ext_getElem?
  intro i
  unfold splice
  simp only [List.getElem?_set, List.getElem?_append, List.length_append, List.length_take, List.length_drop, List.getElem?_take, List.getElem?_drop, List.length_cons, List.length_nil]
  by_cases h1 : a + b.length = i
  · subst h1
    rw [if_pos rfl, if_pos (by omega), if_neg (by omega), if_pos (by omega), if_neg (by omega)]
    simp only [Nat.min_eq_left (show a ≤ L.length by omega), Nat.add_sub_cancel_left, Nat.sub_self, List.getElem?_cons_zero]
  · rw [if_neg h1]
    by_cases h2 : i < min a L.length
    · rw [if_pos h2, if_pos h2]
    · rw [if_neg h2, if_neg h2]
      by_cases h3 : i - min a L.length < b.length
      · rw [if_pos h3, if_pos (by omega), if_pos h3]
      · rw [if_neg h3, if_neg (by omega)]
        congr 1
        omega

theorem puts_app (L : List Int) (a b : List (Int × Int)) : puts L (a ++ b) = puts (puts L a) b := List.foldl_append ..

theorem puts_zip (b : List Int) : ∀ (L : List Int) (a : Nat), a + b.length ≤ L.length → puts L (zipAt a b) = splice L a b := by
  obtain ⟨n, hn⟩ : ∃ n, b.length = n := ⟨_, rfl⟩
  induction n generalizing b with
  | zero => obtain rfl := List.eq_nil_of_length_eq_zero hn; intro L a _; simp [zipAt, puts, splice]
  | succ n ih =>
    intro L a h
    obtain ⟨c, x, rfl⟩ : ∃ c x, b = c ++ [x] := ⟨b.dropLast, b.getLast (by intro e; subst e; simp at hn), (List.dropLast_concat_getLast _).symm⟩
    simp only [List.length_append, List.length_cons, List.length_nil] at h hn
    rw [zipAt_app, puts_app, ih c (by omega) L a (by omega), ← set_splice (by omega)]
    simp only [zipAt, puts, put1, List.foldl_cons, List.foldl_nil]
    rw [show ((a + c.length : Nat) : Int).toNat = a + c.length by omega]

theorem puts_next {ws : List (Int × Int)} {i : Nat} (h : i < ws.length) (L : List Int) : puts L (ws.take (i + 1)) = (puts L (ws.take i)).set ws[i].1.toNat ws[i].2 := by
  rw [List.take_succ_eq_append_getElem h, puts_app]
  rfl

theorem take_next {bs : List Int} {i : Nat} (h : i < bs.length) (a : Nat) : zipAt a (bs.take (i + 1)) = zipAt a (bs.take i) ++ [(((a + i : Nat) : Int), bs[i])] := by
  rw [List.take_succ_eq_append_getElem h, zipAt_app, List.length_take, Nat.min_eq_left (by omega)]
  rfl

theorem splice_next {L bs : List Int} {i : Nat} (h : i < bs.length) (a : Nat) (hl : a + bs.length ≤ L.length) : splice L a (bs.take (i + 1)) = (splice L a (bs.take i)).set (a + i) bs[i] := by
  have e : (bs.take i).length = i := by rw [List.length_take, Nat.min_eq_left (by omega)]
  rw [List.take_succ_eq_append_getElem h, ← set_splice (by omega), e]

theorem puts_len (ws : List (Int × Int)) : ∀ L : List Int, (puts L ws).length = L.length := by
  induction ws with
  | nil => intro L; rfl
  | cons p ws ih => intro L; show (puts (put1 L p) ws).length = _; rw [ih]; simp [put1]

theorem splice_mem {L b : List Int} {a : Nat} {x : Int} (h : x ∈ splice L a b) : x ∈ L ∨ x ∈ b := by
  unfold splice at h
  rcases List.mem_append.1 h with h | h
  · exact .inl (List.mem_of_mem_take h)
  · rcases List.mem_append.1 h with h | h
    · exact .inr h
    · exact .inl (List.mem_of_mem_drop h)

theorem puts_mem (ws : List (Int × Int)) : ∀ (L : List Int) (x : Int), x ∈ puts L ws → x ∈ L ∨ ∃ p ∈ ws, p.2 = x := by
  induction ws with
  | nil => intro L x h; exact .inl h
  | cons p ws ih =>
    intro L x h
    rcases ih (put1 L p) x h with h | ⟨q, hq, e⟩
    · rcases List.mem_or_eq_of_mem_set h with h | h
      · exact .inl h
      · exact .inr ⟨p, by simp, h.symm⟩
    · exact .inr ⟨q, by simp [hq], e⟩

theorem DS.Ok.cnt {s : DS} {n : Nat} (h : s.Ok n) : s.cnt.Ok n := by
  unfold DS.cnt
  split
  · exact ⟨h.now, h.last, h.nb, h.lb, h.wb, by have := h.left; simp only; omega, h.size⟩
  · exact h

theorem DS.Ok.wr {s : DS} {n : Nat} (h : s.Ok n) {a : Nat} {b : List Int} (ha : a + b.length ≤ n) (hb : ∀ x ∈ b, 0 ≤ x ∧ x < 256) : (s.wr a b).Ok n := by
  refine DS.Ok.cnt ⟨by simp only; rw [splice_len (by rw [h.now]; exact ha), h.now], h.last, fun x hx => ?_, h.lb, fun p hp => ?_, h.left, h.size⟩
  · rcases splice_mem hx with hx | hx
    · exact h.nb x hx
    · exact hb x hx
  · rcases List.mem_append.1 hp with hp | hp
    · exact h.wb p hp
    · have := zipAt_mem hp
      have := hb _ this.2.2
      omega

theorem DS.Ok.sy {s : DS} {n : Nat} (h : s.Ok n) : s.sy.Ok n := DS.Ok.cnt ⟨h.now, h.now, h.nb, h.nb, fun p hp => by simp at hp, h.left, h.size⟩

theorem DS.Ok.stop {s : DS} {n : Nat} (h : s.Ok n) {m : Int} (hm : m ≤ 9223372036854775807) : (s.stop m).Ok n := ⟨h.now, h.last, h.nb, h.lb, h.wb, by simp only [DS.stop]; omega, h.size⟩

theorem DS.Ok.crash {s : DS} {n : Nat} (h : s.Ok n) (k : Int) : (s.crash k).Ok n := by
  have hl : (puts s.last (s.waits.take k.toNat)).length = n := by rw [puts_len]; exact h.last
  have hb : ∀ x ∈ puts s.last (s.waits.take k.toNat), 0 ≤ x ∧ x < 256 := fun x hx => by
    rcases puts_mem _ _ _ hx with hx | ⟨p, hp, rfl⟩
    · exact h.lb x hx
    · have := h.wb p (List.mem_of_mem_take hp)
      omega
  exact ⟨hl, hl, hb, hb, fun p hp => by simp [DS.crash] at hp, by simp [DS.crash], h.size⟩

theorem newD_ok (n : Nat) (hn : n ≤ 1000000) : (newD n).Ok n := ⟨by simp [newD], by simp [newD], fun x hx => by have := List.eq_of_mem_replicate hx; omega, fun x hx => by have := List.eq_of_mem_replicate hx; omega, fun p hp => by simp [newD] at hp, by simp [newD], hn⟩

theorem DS.cnt_live {s : DS} (h : s.left = -1) : s.cnt = s := by unfold DS.cnt; rw [if_neg (by omega)]

/-- Byte by byte, bytes are written as in one call (no Stop). -/
theorem wr_next {s : DS} (hl : s.left = -1) {a : Nat} {b : List Int} {x : Int} (h : a + b.length < s.now.length) : (s.wr a b).wr (a + b.length) [x] = s.wr a (b ++ [x]) := by
  have e : s.wr a b = ⟨splice s.now a b, s.last, s.waits ++ zipAt a b, s.left, s.dead⟩ := DS.cnt_live hl
  have e2 : s.wr a (b ++ [x]) = ⟨splice s.now a (b ++ [x]), s.last, s.waits ++ zipAt a (b ++ [x]), s.left, s.dead⟩ := DS.cnt_live hl
  rw [e, e2]
  refine (DS.cnt_live (s := ⟨splice (splice s.now a b) (a + b.length) [x], s.last, (s.waits ++ zipAt a b) ++ zipAt (a + b.length) [x], s.left, s.dead⟩) hl).trans ?_
  have hp : splice (splice s.now a b) (a + b.length) [x] = splice s.now a (b ++ [x]) := by
    rw [← set_splice h, ← puts_zip [x] _ _ (by rw [splice_len (by omega)]; simp; omega)]
    simp only [zipAt, puts, put1, List.foldl_cons, List.foldl_nil]
    rw [show ((a + b.length : Nat) : Int).toNat = a + b.length by omega]
  rw [hp, zipAt_app, List.append_assoc]

/-- What a Crash leaves, as bytes are written: the first so many. -/
theorem kept_next {L : List Int} {ws : List (Int × Int)} {k a : Nat} {b : List Int} (h : a + b.length ≤ L.length) : puts L ((ws ++ zipAt a b).take k) = splice (puts L (ws.take k)) a (b.take (k - ws.length)) := by
  rw [List.take_append, puts_app, zipAt_take, puts_zip]
  rw [puts_len, List.length_take]
  omega

/-- So many Writes and Syncs were done of those that were let. -/
structure StopAt (N i : Nat) (s : DS) : Prop where
  dead : s.dead = decide (N ≤ i)
  left : i < N → s.left = (N : Int) - (i : Int)
  few : s.waits.length ≤ i

theorem stop_step {N i : Nat} {s t : DS} (h : StopAt N i s) (hl : t.left = s.left) (hw : t.waits.length ≤ i + 1) (hi : i < N) : StopAt N (i + 1) t.cnt := by
  have e := h.left hi
  have e2 : t.cnt = ⟨t.now, t.last, t.waits, t.left - 1, decide (t.left - 1 = 0)⟩ := if_pos (by omega)
  rw [e2]
  refine ⟨?_, fun h2 => ?_, hw⟩
  · simp only [decide_eq_decide]
    omega
  · simp only
    omega

theorem stop_dead {N i : Nat} {s : DS} (h : StopAt N i s) (hi : N ≤ i) : StopAt N (i + 1) s := ⟨by rw [h.dead]; simp; omega, fun h2 => by omega, by have := h.few; omega⟩

theorem out_in {n : Nat} {a m : Int} (h1 : 0 ≤ a) (h2 : 0 ≤ m) (h3 : a + m ≤ n) : outD n a m = false := by
  unfold outD
  simp only [Bool.or_eq_false_iff, decide_eq_false_iff_not]
  omega

theorem stop_wr {N i : Nat} {s : DS} (h : StopAt N i s) {a : Int} (h1 : 0 ≤ a) (h2 : a ≤ 31) (x : Int) : rdK s 64 a 1 = (if N ≤ i then 9 else 0) ∧ StopAt N (i + 1) (wrS s 64 a [x]) := by
  have ho := out_in (n := 64) h1 (show (0 : Int) ≤ 1 by omega) (by omega)
  by_cases hi : N ≤ i
  · have hd := h.dead
    rw [decide_eq_true hi] at hd
    have e := (rd_dead ho hd).1
    refine ⟨by rw [e, if_pos hi], ?_⟩
    unfold wrS
    rw [if_neg (by rw [show (([x] : List Int).length : Int) = 1 from rfl, e]; omega)]
    exact stop_dead h hi
  · have hd := h.dead
    rw [decide_eq_false hi] at hd
    have e := (rd_ok ho hd).1
    refine ⟨by rw [e, if_neg hi], ?_⟩
    unfold wrS
    rw [if_pos (by rw [show (([x] : List Int).length : Int) = 1 from rfl, e])]
    exact stop_step h rfl (by have := h.few; simp [zipAt]; omega) (by omega)

theorem stop_sy {N i : Nat} {s : DS} (h : StopAt N i s) : syK s = (if N ≤ i then 9 else 0) ∧ StopAt N (i + 1) (syS s) := by
  unfold syK syS
  by_cases hi : N ≤ i
  · have hd := h.dead
    rw [decide_eq_true hi] at hd
    rw [if_pos hd, if_pos hd, if_pos hi]
    exact ⟨rfl, stop_dead h hi⟩
  · have hd := h.dead
    rw [decide_eq_false hi] at hd
    have hd2 : ¬ (s.dead = true) := by rw [hd]; simp
    rw [if_neg hd2, if_neg hd2, if_neg hi]
    exact ⟨rfl, stop_step h rfl (by simp) (by omega)⟩

theorem stop_first (n N : Nat) : StopAt N 0 ((newD n).stop N) := by
  refine ⟨?_, fun _ => ?_, by simp [newD, DS.stop]⟩
  · show (false || decide ((N : Int) = 0)) = decide (N ≤ 0)
    simp
  · show max (N : Int) (-1) = _
    omega

theorem wr_zero {s : DS} (hl : s.left = -1) (a : Nat) : s.wr a [] = s := by
  have e : s.wr a [] = ⟨splice s.now a [], s.last, s.waits ++ zipAt a [], s.left, s.dead⟩ := DS.cnt_live hl
  rw [e, splice_nil]
  simp [zipAt]

theorem wr_live {s : DS} (hl : s.left = -1) (a : Nat) (b : List Int) : (s.wr a b).left = -1 ∧ (s.wr a b).dead = s.dead ∧ (s.wr a b).waits = s.waits ++ zipAt a b ∧ (s.wr a b).now = splice s.now a b ∧ (s.wr a b).last = s.last := by
  have e : s.wr a b = ⟨splice s.now a b, s.last, s.waits ++ zipAt a b, s.left, s.dead⟩ := DS.cnt_live hl
  rw [e]
  exact ⟨hl, rfl, rfl, rfl, rfl⟩

theorem wr_new (n a : Nat) (b : List Int) : ((newD n).wr a b).waits.length = b.length ∧ ((newD n).wr a b).dead = false ∧ ((newD n).wr a b).left = -1 := by
  obtain ⟨h1, h2, h3, -, -⟩ := wr_live (s := newD n) rfl a b
  refine ⟨?_, h2, h1⟩
  rw [h3, List.length_append, zipAt_len]
  show 0 + b.length = _
  omega

theorem wr_more {n A i : Nat} {X : List Int} (hi : i < X.length) (hn : A + X.length ≤ n) : ((newD n).wr A (X.take i)).wr (A + i) [X[i]] = (newD n).wr A (X.take (i + 1)) := by
  have hl : (X.take i).length = i := by rw [List.length_take]; omega
  have h := wr_next (s := newD n) rfl (a := A) (b := X.take i) (x := X[i]) (by rw [hl]; simp [newD]; omega)
  rw [hl] at h
  rw [h, List.take_succ_eq_append_getElem hi]

theorem wrS_ok {s : DS} {n : Nat} {a : Int} {b : List Int} (ha : 0 ≤ a) (h : a + b.length ≤ n) (hd : s.dead = false) : rdK s n a b.length = 0 ∧ wrS s n a b = s.wr a.toNat b := by
  have e := (rd_ok (out_in ha (show (0 : Int) ≤ (b.length : Int) by omega) h) hd).1
  exact ⟨e, if_pos e⟩

theorem take_splice {Z b : List Int} {a : Nat} (h : a + b.length ≤ Z.length) : ((splice Z a b).drop a).take b.length = b := by
  unfold splice
  have hl : (Z.take a).length = a := by rw [List.length_take]; omega
  rw [List.drop_append, hl, Nat.sub_self, List.drop_zero, List.drop_of_length_le (by omega), List.nil_append, List.take_append, Nat.sub_self, List.take_zero, List.append_nil, List.take_of_length_le (Nat.le_refl _)]

theorem lent {X : List Int} (hX : X.length ≤ 200) : rdK ((newD 300).wr 5 X) 300 5 (X.length : Int) = 0 ∧ rdL ((newD 300).wr 5 X) 300 5 (X.length : Int) = X ∧ rdK (((newD 300).wr 5 X).crash 1000) 300 5 (X.length : Int) = 0 ∧ rdL (((newD 300).wr 5 X).crash 1000) 300 5 (X.length : Int) = X := by
  have ho := out_in (n := 300) (a := 5) (m := (X.length : Int)) (by omega) (by omega) (by omega)
  obtain ⟨h1, h2, h3, h4, h5⟩ := wr_live (s := newD 300) rfl 5 X
  have hz : 5 + X.length ≤ (List.replicate 300 (0 : Int)).length := by rw [List.length_replicate]; omega
  obtain ⟨a1, a2⟩ := rd_ok (s := (newD 300).wr 5 X) ho h2
  obtain ⟨b1, b2⟩ := rd_ok (s := ((newD 300).wr 5 X).crash 1000) ho rfl
  refine ⟨a1, ?_, b1, ?_⟩
  · rw [a2, h4]
    exact take_splice hz
  · rw [b2]
    show ((puts ((newD 300).wr 5 X).last (((newD 300).wr 5 X).waits.take (1000 : Int).toNat)).drop 5).take X.length = X
    have hw : ((newD 300).waits ++ zipAt 5 X).take (1000 : Int).toNat = (newD 300).waits ++ zipAt 5 X := List.take_of_length_le (by
      rw [List.length_append, zipAt_len]
      show 0 + X.length ≤ 1000
      omega)
    rw [h5, h3, hw]
    show ((puts (List.replicate 300 0) ([] ++ zipAt 5 X)).drop 5).take X.length = X
    rw [List.nil_append, puts_zip _ _ _ hz]
    exact take_splice hz

end Go.Proofs.Ytinplpcobmbekaa
