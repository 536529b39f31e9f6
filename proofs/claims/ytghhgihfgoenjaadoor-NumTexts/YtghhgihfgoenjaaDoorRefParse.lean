/-
  What the document's own Parse tells, for every text, in whatever memory: the number whose numeral the text is; else nought and false.
-/
import Derived.Test.YtghhgihfgoenjaaDoorCanon
import Derived.Test.YtghhgihfgoenjaaDoorRefText
namespace Go.Proofs.YtghhgihfgoenjaaDoor
open Go.RowKit Go.Shelf Go.PlainAid

/-- What is told of the digits behind the sign. -/
def Tells (neg : Bool) (l : List UInt8) (x : Int) (ok : Bool) : Prop := (ok = true ∧ CanonD neg l x) ∨ (ok = false ∧ x = 0 ∧ ∀ v, ¬ CanonD neg l v)
/-- The ending that tells it. -/
def TellsE (neg : Bool) (l : List UInt8) (e : Ending) : Prop := ∃ x ok, e = .returned (.tuple #[.int .i64 x, .bool ok]) ∧ Tells neg l x ok
/-- A nought ahead stands alone, without a sign. -/
def Heads (neg : Bool) (l : List UInt8) : Prop := ∀ r, l = 48 :: r → r = [] ∧ neg = false
theorem ret_two {a b : Int} {c d : Bool} (h : a = b) (k : c = d) : Ending.returned (.tuple #[.int .i64 a, .bool c]) = .returned (.tuple #[.int .i64 b, .bool d]) := by rw [h, k]
theorem back_i64 (V : Nat) (h : V ≤ 9223372036854775808) : IntKind.i64.wrap (IntKind.u64.wrap (-(V : Int))) = -(V : Int) := by rw [IntKind.wrap_i64, IntKind.wrap_u64]; omega
theorem back_w64 (V : Nat) (h : V ≤ 9223372036854775808) : wrap64 (IntKind.u64.wrap (-(V : Int))) = -(V : Int) := by unfold wrap64; rw [IntKind.wrap_u64]; omega

set_option maxHeartbeats 400000 in
theorem refparse_n_empty (s d : ByteArray) (hs : s.size ≤ 281474976710656) (h0 : 0 < s.size) (e45 : (bt s 0 == 45) = true) (hd : s.extract 1 s.size = d) (hz : d.size = 0) (w : World) :
    Calls Tryd.prog 26 #[.string s] w fun e w' => e = .returned (.tuple #[.int .i64 0, .bool false]) ∧ w' = w := by
  have gs := get_bt s
  have gd := get_bt d
  have hem : d.toList.isEmpty = true := by rw [Lib.toList_data, List.isEmpty_iff, ← List.length_eq_zero_iff, ← size_list]; exact hz
  clear hz
  go_enter Tryd.func26, Tryd.ntmps26
  go_wp2
  go_ret2
  exact ⟨rfl, rfl⟩

set_option maxHeartbeats 400000 in
theorem refparse_n_long (s d : ByteArray) (hs : s.size ≤ 281474976710656) (h0 : 0 < s.size) (e45 : (bt s 0 == 45) = true) (hd : s.extract 1 s.size = d) (hL : 19 < d.size) (w : World) :
    Calls Tryd.prog 26 #[.string s] w fun e w' => e = .returned (.tuple #[.int .i64 0, .bool false]) ∧ w' = w := by
  have gs := get_bt s
  have gd := get_bt d
  have hem : d.toList.isEmpty = false := by
    rw [Lib.toList_data, Bool.eq_false_iff, Ne, List.isEmpty_iff, ← List.length_eq_zero_iff, ← size_list]
    omega
  go_enter Tryd.func26, Tryd.ntmps26
  go_wp2
  go_ret2
  exact ⟨rfl, rfl⟩

set_option maxHeartbeats 400000 in
theorem refparse_n_nought (s d : ByteArray) (hs : s.size ≤ 281474976710656) (h0 : 0 < s.size) (e45 : (bt s 0 == 45) = true) (hd : s.extract 1 s.size = d) (hp : 0 < d.size) (hL : d.size ≤ 19) (e48 : (bt d 0 == 48) = true) (w : World) :
    Calls Tryd.prog 26 #[.string s] w fun e w' => e = .returned (.tuple #[.int .i64 0, .bool false]) ∧ w' = w := by
  have gs := get_bt s
  have gd := get_bt d
  have hem : d.toList.isEmpty = false := by
    rw [Lib.toList_data, Bool.eq_false_iff, Ne, List.isEmpty_iff, ← List.length_eq_zero_iff, ← size_list]
    omega
  by_cases h1 : 1 < d.size
  · go_enter Tryd.func26, Tryd.ntmps26
    go_wp2
    go_ret2
    exact ⟨rfl, rfl⟩
  · have h1' := df (show ¬ (1 : Int) < (d.size : Int) by omega)
    go_enter Tryd.func26, Tryd.ntmps26
    go_wp2
    go_ret2
    exact ⟨rfl, rfl⟩

set_option maxHeartbeats 1000000 in
theorem refparse_n_one (s d : ByteArray) (hs : s.size ≤ 281474976710656) (h0 : 0 < s.size) (e45 : (bt s 0 == 45) = true) (hd : s.extract 1 s.size = d) (hp : 0 < d.size) (hL : d.size ≤ 19) (e48 : (bt d 0 == 48) = false) (w : World) :
    Calls Tryd.prog 26 #[.string s] w fun e w' => TellsE true d.data.toList e ∧ w' = w := by
  have gs := get_bt s
  have gd := get_bt d
  have hem : d.toList.isEmpty = false := by
    rw [Lib.toList_data, Bool.eq_false_iff, Ne, List.isEmpty_iff, ← List.length_eq_zero_iff, ← size_list]
    omega
  have HL : Hid (d.data.toList.length ≤ 19) := by show _; rw [← size_list]; exact hL
  have HN : Hid (d.data.toList.length = d.size) := (size_list d).symm
  have HH : Hid (Heads true d.data.toList) := by
    intro r hr
    obtain ⟨c, r', h2, h3, h4⟩ := head_bt d hp
    rw [hr] at h2
    obtain ⟨rfl, rfl⟩ := List.cons.inj h2
    rw [h3] at e48; simp at e48
  go_enter Tryd.func26, Tryd.ntmps26
  go_wp2
  go_loop [6, 7] (fun n i => ∃ (k V : Nat), k ≤ d.size ∧ i = .int .i64 (k : Int) ∧ n = .int .u64 (V : Int) ∧ Hid ((∀ c ∈ d.data.toList.take k, Dig c) ∧ V = spell 0 (d.data.toList.take k))) (fun _ i => d.size - (intOf i).toNat)
  case atStart => exact ⟨0, 0, Nat.zero_le _, rfl, rfl, by show (∀ c ∈ d.data.toList.take 0, Dig c) ∧ 0 = spell 0 (d.data.toList.take 0); exact ⟨fun c hc => by simp at hc, rfl⟩⟩
  case round =>
    obtain ⟨k, V, hk, rfl, rfl, HV⟩ := hrel
    by_cases hlt : k < d.size
    · obtain ⟨c, t1, t2, t3, _⟩ := take_bt d k hlt
      have hV : V ≤ 999999999999999999 := by
        have h1 := spell_lt 0 (d.data.toList.take k) HV.out.1
        rw [← HV.out.2, List.length_take] at h1
        have h2 : (10 : Nat) ^ (min k d.data.toList.length) ≤ 10 ^ 18 := Nat.pow_le_pow_right (by omega) (by omega)
        omega
      have T1 : Hid (d.data.toList.take (k + 1) = d.data.toList.take k ++ [c]) := t1
      have T2 : Hid (c ∈ d.data.toList) := t2
      have T3 : Hid (bt d k = (c.toNat : Int)) := t3
      clear t1 t2 t3
      by_cases hlo : bt d k < 48
      · have HT : Hid (∀ v, ¬ CanonD true d.data.toList v) := no_digit true _ c T2.out (by unfold Dig; have := T3.out; omega)
        clear HV HH HL HN T1 T2 T3
        go_wp2
        go_ret2
        exact ⟨⟨0, false, rfl, Or.inr ⟨rfl, rfl, HT.out⟩⟩, rfl⟩
      · have hlo' := df hlo
        by_cases hhi : 57 < bt d k
        · have HT : Hid (∀ v, ¬ CanonD true d.data.toList v) := no_digit true _ c T2.out (by unfold Dig; have := T3.out; omega)
          clear HV HH HL HN T1 T2 T3
          go_wp2
          go_ret2
          exact ⟨⟨0, false, rfl, Or.inr ⟨rfl, rfl, HT.out⟩⟩, rfl⟩
        · have hhi' := df hhi
          have hb1 : 48 ≤ bt d k := by omega
          have hb2 : bt d k ≤ 57 := by omega
          clear HH HL HN
          go_wp2
          go_round
          case rel =>
            have h3 := T3.out
            refine ⟨k + 1, V * 10 + (c.toNat - 48), by omega, by go_num, ?_, ?_⟩
            · have e : 10 * (V : Int) + (bt d k - 48) = ((V * 10 + (c.toNat - 48) : Nat) : Int) := by omega
              rw [e]
            · show (∀ x ∈ d.data.toList.take (k + 1), Dig x) ∧ V * 10 + (c.toNat - 48) = spell 0 (d.data.toList.take (k + 1))
              rw [T1.out, spell_snoc, ← HV.out.2]
              refine ⟨fun x hx => ?_, rfl⟩
              rcases List.mem_append.1 hx with hx | hx
              · exact HV.out.1 x hx
              · rw [List.mem_singleton] at hx
                subst hx
                unfold Dig
                omega
          case measure => simp [intOf]; omega
    · obtain rfl : k = d.size := by omega
      have e := HV.out
      rw [List.take_of_length_le (by rw [HN.out]; omega)] at e
      have HV2 : Hid ((∀ c ∈ d.data.toList, Dig c) ∧ V = spell 0 d.data.toList) := e
      clear HV e
      have HV := HV2
      clear HV2
      have G : Hid (Good true d.data.toList) := ⟨fun h => by have := HN.out; rw [h] at this; simp at this; omega, HV.out.1, fun r hr => HH.out r hr⟩
      by_cases hV9 : V ≤ 9223372036854775808
      · have B1 := back_i64 V hV9
        have B2 := back_w64 V hV9
        have HT : Hid (CanonD true d.data.toList (-(V : Int))) := by
          have hv := HV.out.2
          show CanonD true d.data.toList (-(V : Int))
          rw [hv]
          exact yes_neg G.out (by rw [← hv]; exact hV9)
        have hV9' : (V : Int) ≤ 9223372036854775808 := by omega
        clear HV HH HL HN G
        go_wp2
        go_ret2
        exact ⟨⟨-(V : Int), true, rfl, Or.inl ⟨rfl, HT.out⟩⟩, rfl⟩
      · have HT : Hid (∀ v, ¬ CanonD true d.data.toList v) := by
          have hv := HV.out.2
          exact no_great true _ (by rw [if_pos rfl, ← hv]; omega)
        have hV9' := df (show ¬ (V : Int) ≤ 9223372036854775808 by omega)
        clear HV HH HL HN G
        go_wp2
        go_ret2
        exact ⟨⟨0, false, rfl, Or.inr ⟨rfl, rfl, HT.out⟩⟩, rfl⟩

set_option maxHeartbeats 400000 in
theorem refparse_p_empty (d : ByteArray) (hz : d.size = 0) (w : World) :
    Calls Tryd.prog 26 #[.string d] w fun e w' => e = .returned (.tuple #[.int .i64 0, .bool false]) ∧ w' = w := by
  obtain rfl : d = ByteArray.empty := by
    apply ByteArray.ext
    apply Array.eq_empty_of_size_eq_zero
    exact hz
  go_enter Tryd.func26, Tryd.ntmps26
  go_wp2
  go_ret2
  exact ⟨rfl, rfl⟩

set_option maxHeartbeats 400000 in
theorem refparse_p_long (d : ByteArray) (hs : d.size ≤ 281474976710656) (e45 : (bt d 0 == 45) = false) (hL : 19 < d.size) (w : World) :
    Calls Tryd.prog 26 #[.string d] w fun e w' => e = .returned (.tuple #[.int .i64 0, .bool false]) ∧ w' = w := by
  have gd := get_bt d
  have hem : d.toList.isEmpty = false := by
    rw [Lib.toList_data, Bool.eq_false_iff, Ne, List.isEmpty_iff, ← List.length_eq_zero_iff, ← size_list]
    omega
  go_enter Tryd.func26, Tryd.ntmps26
  go_wp2
  go_ret2
  exact ⟨rfl, rfl⟩

set_option maxHeartbeats 400000 in
theorem refparse_p_nought (d : ByteArray) (hs : d.size ≤ 281474976710656) (e45 : (bt d 0 == 45) = false) (hp : 0 < d.size) (hL : d.size ≤ 19) (e48 : (bt d 0 == 48) = true) (h1 : 1 < d.size) (w : World) :
    Calls Tryd.prog 26 #[.string d] w fun e w' => e = .returned (.tuple #[.int .i64 0, .bool false]) ∧ w' = w := by
  have gd := get_bt d
  have hem : d.toList.isEmpty = false := by
    rw [Lib.toList_data, Bool.eq_false_iff, Ne, List.isEmpty_iff, ← List.length_eq_zero_iff, ← size_list]
    omega
  go_enter Tryd.func26, Tryd.ntmps26
  go_wp2
  go_ret2
  exact ⟨rfl, rfl⟩

set_option maxHeartbeats 1000000 in
theorem refparse_p_one (d : ByteArray) (hs : d.size ≤ 281474976710656) (e45 : (bt d 0 == 45) = false) (hp : 0 < d.size) (hL : d.size ≤ 19) (e48 : (bt d 0 == 48) = false) (w : World) :
    Calls Tryd.prog 26 #[.string d] w fun e w' => TellsE false d.data.toList e ∧ w' = w := by
  have gd := get_bt d
  have hem : d.toList.isEmpty = false := by
    rw [Lib.toList_data, Bool.eq_false_iff, Ne, List.isEmpty_iff, ← List.length_eq_zero_iff, ← size_list]
    omega
  have HL : Hid (d.data.toList.length ≤ 19) := by show _; rw [← size_list]; exact hL
  have HN : Hid (d.data.toList.length = d.size) := (size_list d).symm
  have HH : Hid (Heads false d.data.toList) := by
    intro r hr
    obtain ⟨c, r', h2, h3, h4⟩ := head_bt d hp
    rw [hr] at h2
    obtain ⟨rfl, rfl⟩ := List.cons.inj h2
    rw [h3] at e48; simp at e48
  go_enter Tryd.func26, Tryd.ntmps26
  go_wp2
  go_loop [6, 7] (fun n i => ∃ (k V : Nat), k ≤ d.size ∧ i = .int .i64 (k : Int) ∧ n = .int .u64 (V : Int) ∧ Hid ((∀ c ∈ d.data.toList.take k, Dig c) ∧ V = spell 0 (d.data.toList.take k))) (fun _ i => d.size - (intOf i).toNat)
  case atStart => exact ⟨0, 0, Nat.zero_le _, rfl, rfl, by show (∀ c ∈ d.data.toList.take 0, Dig c) ∧ 0 = spell 0 (d.data.toList.take 0); exact ⟨fun c hc => by simp at hc, rfl⟩⟩
  case round =>
    obtain ⟨k, V, hk, rfl, rfl, HV⟩ := hrel
    by_cases hlt : k < d.size
    · obtain ⟨c, t1, t2, t3, _⟩ := take_bt d k hlt
      have hV : V ≤ 999999999999999999 := by
        have h1 := spell_lt 0 (d.data.toList.take k) HV.out.1
        rw [← HV.out.2, List.length_take] at h1
        have h2 : (10 : Nat) ^ (min k d.data.toList.length) ≤ 10 ^ 18 := Nat.pow_le_pow_right (by omega) (by omega)
        omega
      have T1 : Hid (d.data.toList.take (k + 1) = d.data.toList.take k ++ [c]) := t1
      have T2 : Hid (c ∈ d.data.toList) := t2
      have T3 : Hid (bt d k = (c.toNat : Int)) := t3
      clear t1 t2 t3
      by_cases hlo : bt d k < 48
      · have HT : Hid (∀ v, ¬ CanonD false d.data.toList v) := no_digit false _ c T2.out (by unfold Dig; have := T3.out; omega)
        clear HV HH HL HN T1 T2 T3
        go_wp2
        go_ret2
        exact ⟨⟨0, false, rfl, Or.inr ⟨rfl, rfl, HT.out⟩⟩, rfl⟩
      · have hlo' := df hlo
        by_cases hhi : 57 < bt d k
        · have HT : Hid (∀ v, ¬ CanonD false d.data.toList v) := no_digit false _ c T2.out (by unfold Dig; have := T3.out; omega)
          clear HV HH HL HN T1 T2 T3
          go_wp2
          go_ret2
          exact ⟨⟨0, false, rfl, Or.inr ⟨rfl, rfl, HT.out⟩⟩, rfl⟩
        · have hhi' := df hhi
          have hb1 : 48 ≤ bt d k := by omega
          have hb2 : bt d k ≤ 57 := by omega
          clear HH HL HN
          go_wp2
          go_round
          case rel =>
            have h3 := T3.out
            refine ⟨k + 1, V * 10 + (c.toNat - 48), by omega, by go_num, ?_, ?_⟩
            · have e : 10 * (V : Int) + (bt d k - 48) = ((V * 10 + (c.toNat - 48) : Nat) : Int) := by omega
              rw [e]
            · show (∀ x ∈ d.data.toList.take (k + 1), Dig x) ∧ V * 10 + (c.toNat - 48) = spell 0 (d.data.toList.take (k + 1))
              rw [T1.out, spell_snoc, ← HV.out.2]
              refine ⟨fun x hx => ?_, rfl⟩
              rcases List.mem_append.1 hx with hx | hx
              · exact HV.out.1 x hx
              · rw [List.mem_singleton] at hx
                subst hx
                unfold Dig
                omega
          case measure => simp [intOf]; omega
    · obtain rfl : k = d.size := by omega
      have e := HV.out
      rw [List.take_of_length_le (by rw [HN.out]; omega)] at e
      have HV2 : Hid ((∀ c ∈ d.data.toList, Dig c) ∧ V = spell 0 d.data.toList) := e
      clear HV e
      have HV := HV2
      clear HV2
      have G : Hid (Good false d.data.toList) := ⟨fun h => by have := HN.out; rw [h] at this; simp at this; omega, HV.out.1, fun r hr => HH.out r hr⟩
      by_cases hV9 : V < 9223372036854775808
      · have HT : Hid (CanonD false d.data.toList (V : Int)) := by
          have hv := HV.out.2
          show CanonD false d.data.toList (V : Int)
          rw [hv]
          exact yes_pos G.out (by rw [← hv]; exact hV9)
        have hV9' := df (show ¬ (9223372036854775808 : Int) ≤ (V : Int) by omega)
        clear HV HH HL HN G
        go_wp2
        go_ret2
        exact ⟨⟨(V : Int), true, rfl, Or.inl ⟨rfl, HT.out⟩⟩, rfl⟩
      · have HT : Hid (∀ v, ¬ CanonD false d.data.toList v) := by
          have hv := HV.out.2
          exact no_great false _ (by rw [if_neg (by simp), ← hv]; omega)
        have hV9' : (9223372036854775808 : Int) ≤ (V : Int) := by omega
        clear HV HH HL HN G
        go_wp2
        go_ret2
        exact ⟨⟨0, false, rfl, Or.inr ⟨rfl, rfl, HT.out⟩⟩, rfl⟩

set_option maxHeartbeats 1000000 in
theorem refparse_p_lone (d : ByteArray) (hs : d.size ≤ 281474976710656) (e45 : (bt d 0 == 45) = false) (hp : 0 < d.size) (hL : d.size ≤ 19) (e48 : (bt d 0 == 48) = true) (h1 : ¬ 1 < d.size) (w : World) :
    Calls Tryd.prog 26 #[.string d] w fun e w' => TellsE false d.data.toList e ∧ w' = w := by
  have gd := get_bt d
  have hem : d.toList.isEmpty = false := by
    rw [Lib.toList_data, Bool.eq_false_iff, Ne, List.isEmpty_iff, ← List.length_eq_zero_iff, ← size_list]
    omega
  have h1' := df (show ¬ (1 : Int) < (d.size : Int) by omega)
  have HL : Hid (d.data.toList.length ≤ 19) := by show _; rw [← size_list]; exact hL
  have HN : Hid (d.data.toList.length = d.size) := (size_list d).symm
  have HH : Hid (Heads false d.data.toList) := by
    intro r hr
    obtain ⟨c, r', h2, h3, h4⟩ := head_bt d hp
    rw [hr] at h2
    obtain ⟨rfl, rfl⟩ := List.cons.inj h2
    exact ⟨List.length_eq_zero_iff.1 (by omega), rfl⟩
  go_enter Tryd.func26, Tryd.ntmps26
  go_wp2
  go_loop [6, 7] (fun n i => ∃ (k V : Nat), k ≤ d.size ∧ i = .int .i64 (k : Int) ∧ n = .int .u64 (V : Int) ∧ Hid ((∀ c ∈ d.data.toList.take k, Dig c) ∧ V = spell 0 (d.data.toList.take k))) (fun _ i => d.size - (intOf i).toNat)
  case atStart => exact ⟨0, 0, Nat.zero_le _, rfl, rfl, by show (∀ c ∈ d.data.toList.take 0, Dig c) ∧ 0 = spell 0 (d.data.toList.take 0); exact ⟨fun c hc => by simp at hc, rfl⟩⟩
  case round =>
    obtain ⟨k, V, hk, rfl, rfl, HV⟩ := hrel
    by_cases hlt : k < d.size
    · obtain ⟨c, t1, t2, t3, _⟩ := take_bt d k hlt
      have hV : V ≤ 999999999999999999 := by
        have h1 := spell_lt 0 (d.data.toList.take k) HV.out.1
        rw [← HV.out.2, List.length_take] at h1
        have h2 : (10 : Nat) ^ (min k d.data.toList.length) ≤ 10 ^ 18 := Nat.pow_le_pow_right (by omega) (by omega)
        omega
      have T1 : Hid (d.data.toList.take (k + 1) = d.data.toList.take k ++ [c]) := t1
      have T2 : Hid (c ∈ d.data.toList) := t2
      have T3 : Hid (bt d k = (c.toNat : Int)) := t3
      clear t1 t2 t3
      by_cases hlo : bt d k < 48
      · have HT : Hid (∀ v, ¬ CanonD false d.data.toList v) := no_digit false _ c T2.out (by unfold Dig; have := T3.out; omega)
        clear HV HH HL HN T1 T2 T3
        go_wp2
        go_ret2
        exact ⟨⟨0, false, rfl, Or.inr ⟨rfl, rfl, HT.out⟩⟩, rfl⟩
      · have hlo' := df hlo
        by_cases hhi : 57 < bt d k
        · have HT : Hid (∀ v, ¬ CanonD false d.data.toList v) := no_digit false _ c T2.out (by unfold Dig; have := T3.out; omega)
          clear HV HH HL HN T1 T2 T3
          go_wp2
          go_ret2
          exact ⟨⟨0, false, rfl, Or.inr ⟨rfl, rfl, HT.out⟩⟩, rfl⟩
        · have hhi' := df hhi
          have hb1 : 48 ≤ bt d k := by omega
          have hb2 : bt d k ≤ 57 := by omega
          clear HH HL HN
          go_wp2
          go_round
          case rel =>
            have h3 := T3.out
            refine ⟨k + 1, V * 10 + (c.toNat - 48), by omega, by go_num, ?_, ?_⟩
            · have e : 10 * (V : Int) + (bt d k - 48) = ((V * 10 + (c.toNat - 48) : Nat) : Int) := by omega
              rw [e]
            · show (∀ x ∈ d.data.toList.take (k + 1), Dig x) ∧ V * 10 + (c.toNat - 48) = spell 0 (d.data.toList.take (k + 1))
              rw [T1.out, spell_snoc, ← HV.out.2]
              refine ⟨fun x hx => ?_, rfl⟩
              rcases List.mem_append.1 hx with hx | hx
              · exact HV.out.1 x hx
              · rw [List.mem_singleton] at hx
                subst hx
                unfold Dig
                omega
          case measure => simp [intOf]; omega
    · obtain rfl : k = d.size := by omega
      have e := HV.out
      rw [List.take_of_length_le (by rw [HN.out]; omega)] at e
      have HV2 : Hid ((∀ c ∈ d.data.toList, Dig c) ∧ V = spell 0 d.data.toList) := e
      clear HV e
      have HV := HV2
      clear HV2
      have G : Hid (Good false d.data.toList) := ⟨fun h => by have := HN.out; rw [h] at this; simp at this; omega, HV.out.1, fun r hr => HH.out r hr⟩
      by_cases hV9 : V < 9223372036854775808
      · have HT : Hid (CanonD false d.data.toList (V : Int)) := by
          have hv := HV.out.2
          show CanonD false d.data.toList (V : Int)
          rw [hv]
          exact yes_pos G.out (by rw [← hv]; exact hV9)
        have hV9' := df (show ¬ (9223372036854775808 : Int) ≤ (V : Int) by omega)
        clear HV HH HL HN G
        go_wp2
        go_ret2
        exact ⟨⟨(V : Int), true, rfl, Or.inl ⟨rfl, HT.out⟩⟩, rfl⟩
      · have HT : Hid (∀ v, ¬ CanonD false d.data.toList v) := by
          have hv := HV.out.2
          exact no_great false _ (by rw [if_neg (by simp), ← hv]; omega)
        have hV9' : (9223372036854775808 : Int) ≤ (V : Int) := by omega
        clear HV HH HL HN G
        go_wp2
        go_ret2
        exact ⟨⟨0, false, rfl, Or.inr ⟨rfl, rfl, HT.out⟩⟩, rfl⟩

theorem tells_no {neg : Bool} {l : List UInt8} (h : ∀ v, ¬ CanonD neg l v) : TellsE neg l (.returned (.tuple #[.int .i64 0, .bool false])) := ⟨0, false, rfl, Or.inr ⟨rfl, rfl, h⟩⟩

/-- PARSE, as the document's own answer has it: what is told of the digits behind the sign. -/
theorem refparse_tells (s : ByteArray) (hs : s.size ≤ 281474976710656) : ∃ (neg : Bool) (l : List UInt8), (∀ v, Canon s.data.toList v ↔ CanonD neg l v) ∧
    ∀ w, Calls Tryd.prog 26 #[.string s] w fun e w' => TellsE neg l e ∧ w' = w := by
  by_cases h0 : 0 < s.size
  · obtain ⟨c, r, h1, h2, h3⟩ := head_bt s h0
    by_cases h45 : bt s 0 = 45
    · have hc : c = 45 := byte_eq (n := 45) (by omega) (by omega)
      subst hc
      have hd : (s.extract 1 s.size).data.toList = r := by
        rw [Lib.extract_data, h1]
        simp only [List.drop_succ_cons, List.drop_zero]
        exact List.take_of_length_le (by omega)
      have hsz : (s.extract 1 s.size).size = r.length := by rw [size_list, hd]
      refine ⟨true, r, fun v => by rw [h1]; exact canon_neg r v, fun w => ?_⟩
      have e45 : (bt s 0 == 45) = true := by simpa using h45
      generalize hdd : s.extract 1 s.size = d at hd hsz
      by_cases hz : d.size = 0
      · refine (refparse_n_empty s d hs h0 e45 hdd hz w).mono fun e w' ⟨he, hw⟩ => ⟨?_, hw⟩
        rw [he]
        have : r = [] := List.length_eq_zero_iff.1 (by omega)
        rw [this]
        exact tells_no (no_nil true)
      · by_cases hL : 19 < d.size
        · refine (refparse_n_long s d hs h0 e45 hdd hL w).mono fun e w' ⟨he, hw⟩ => ⟨?_, hw⟩
          rw [he]
          exact tells_no (no_long true r (by omega))
        · by_cases e48 : bt d 0 = 48
          · refine (refparse_n_nought s d hs h0 e45 hdd (by omega) (by omega) (by simpa using e48) w).mono fun e w' ⟨he, hw⟩ => ⟨?_, hw⟩
            rw [he]
            obtain ⟨x, t, g1, g2, g3⟩ := head_bt d (by omega)
            have hx : x = 48 := byte_eq (n := 48) (by omega) (by omega)
            subst hx
            rw [hd] at g1
            rw [g1]
            exact tells_no (no_nought true t (Or.inr rfl))
          · have := refparse_n_one s d hs h0 e45 hdd (by omega) (by omega) (by simpa using e48) w
            rw [hd] at this
            exact this
    · have e45 : (bt s 0 == 45) = false := by simpa using h45
      refine ⟨false, s.data.toList, fun v => canon_pos _ v (fun t ht => ?_), fun w => ?_⟩
      · rw [h1] at ht
        have hc := (List.cons.inj ht).1
        subst hc
        exact h45 h2
      · by_cases hL : 19 < s.size
        · refine (refparse_p_long s hs e45 hL w).mono fun e w' ⟨he, hw⟩ => ⟨?_, hw⟩
          rw [he]
          exact tells_no (no_long false _ (by rw [← size_list]; exact hL))
        · by_cases e48 : bt s 0 = 48
          · by_cases hone : 1 < s.size
            · refine (refparse_p_nought s hs e45 h0 (by omega) (by simpa using e48) hone w).mono fun e w' ⟨he, hw⟩ => ⟨?_, hw⟩
              rw [he]
              have hc : c = 48 := byte_eq (n := 48) (by omega) (by omega)
              subst hc
              rw [h1]
              exact tells_no (no_nought false r (Or.inl (by intro e; subst e; simp at h3; omega)))
            · exact refparse_p_lone s hs e45 h0 (by omega) (by simpa using e48) hone w
          · exact refparse_p_one s hs e45 h0 (by omega) (by simpa using e48) w
  · have hz : s.size = 0 := by omega
    have hl : s.data.toList = [] := List.length_eq_zero_iff.1 (by rw [← size_list]; exact hz)
    refine ⟨false, [], fun v => by rw [hl]; exact canon_pos [] v (fun r hr => by cases hr), fun w => ?_⟩
    refine (refparse_p_empty s hz w).mono fun e w' ⟨he, hw⟩ => ⟨?_, hw⟩
    rw [he]
    exact tells_no (no_nil false)

theorem canon_one {l : List UInt8} {v v' : Int} (h : Canon l v) (h' : Canon l v') : v = v' := by
  have e := (parse_canon h).symm.trans (parse_canon h')
  injection e

theorem refparse_yes (s : ByteArray) (hs : s.size ≤ 281474976710656) (v : Int) (h : Canon s.data.toList v) (w : World) :
    Calls Tryd.prog 26 #[.string s] w fun e w' => e = .returned (.tuple #[.int .i64 v, .bool true]) ∧ Below w.heap.size w w' := by
  obtain ⟨neg, l, h1, h2⟩ := refparse_tells s hs
  refine (h2 w).mono fun e w' ⟨⟨x, ok, he, ht⟩, hw⟩ => ?_
  subst hw
  rcases ht with ⟨rfl, hc⟩ | ⟨_, _, hn⟩
  · rw [he, canon_one ((h1 x).2 hc) h]
    exact ⟨rfl, Below.refl _ _⟩
  · exact absurd ((h1 v).1 h) (hn v)
theorem refparse_no (s : ByteArray) (hs : s.size ≤ 281474976710656) (h : ∀ v, ¬ Canon s.data.toList v) (w : World) :
    Calls Tryd.prog 26 #[.string s] w fun e w' => e = .returned (.tuple #[.int .i64 0, .bool false]) ∧ Below w.heap.size w w' := by
  obtain ⟨neg, l, h1, h2⟩ := refparse_tells s hs
  refine (h2 w).mono fun e w' ⟨⟨x, ok, he, ht⟩, hw⟩ => ?_
  subst hw
  rcases ht with ⟨_, hc⟩ | ⟨rfl, rfl, _⟩
  · exact absurd ((h1 x).2 hc) (h x)
  · exact ⟨he, Below.refl _ _⟩
end Go.Proofs.YtghhgihfgoenjaaDoor
