/-
  What Parse of package num tells, for every text of at most 2^48 bytes, where the library's table of powers of ten and its two errors hold what their initialisers lay: the number whose numeral the text is; else nought and false.
-/
import Derived.Test.YtghhgihfgoenjaaDoorAwake
import Derived.Test.YtghhgihfgoenjaaDoorTextNum
import Derived.Shelf.Strconv.ErrVarParseInt
import Derived.Lib.AtoiErrMem
namespace Go.Proofs.YtghhgihfgoenjaaDoor
open Go.RowKit Go.Shelf

def Tryd.lays174_ren : Go.Shelf.Ren := ⟨fun | 174 => 40 | 247 => 44 | 245 => 45 | 287 => 50 | 279 => 51 | 280 => 52 | 281 => 53 | 282 => 54 | 321 => 59 | 322 => 60 | 316 => 61 | 171 => 63 | 205 => 62 | 243 => 66 | 246 => 41 | 283 => 46 | 284 => 47 | 285 => 48 | 286 => 49 | 129 => 43 | 317 => 55 | 318 => 56 | 319 => 57 | 320 => 58 | 337 => 64 | 338 => 65 | n => n, fun | 9 => 9 | 3 => 3 | 2 => 2 | 75 => 56 | 85 => 57 | 4 => 4 | 167 => 69 | 5 => 5 | 53 => 29 | 175 => 70 | 46 => 48 | 168 => 72 | 37 => 66 | 0 => 0 | 210 => 84 | 21 => 21 | 127 => 86 | 145 => 89 | 143 => 87 | 171 => 64 | 173 => 67 | 212 => 77 | 51 => 60 | 20 => 20 | 213 => 78 | 232 => 90 | 233 => 91 | 80 => 92 | n => n, fun | 15 => 1 | 16 => 2 | 17 => 0 | 18 => 3 | 19 => 4 | n => n⟩
theorem Tryd.lays174 : Go.Proofs.LaysC.n174 Tryd.prog Tryd.lays174_ren := {
  mixed := by kernel_rfl,
  f129 := Tryd.func43.trans (congrArg some (by kernel_rfl)),
  f171 := Tryd.func63.trans (congrArg some (by kernel_rfl)),
  f174 := Tryd.func40.trans (congrArg some (by kernel_rfl)),
  f205 := Tryd.func62.trans (congrArg some (by kernel_rfl)),
  f243 := Tryd.func66.trans (congrArg some (by kernel_rfl)),
  f245 := Tryd.func45.trans (congrArg some (by kernel_rfl)),
  f246 := Tryd.func41.trans (congrArg some (by kernel_rfl)),
  f247 := Tryd.func44.trans (congrArg some (by kernel_rfl)),
  f279 := Tryd.func51.trans (congrArg some (by kernel_rfl)),
  f280 := Tryd.func52.trans (congrArg some (by kernel_rfl)),
  f281 := Tryd.func53.trans (congrArg some (by kernel_rfl)),
  f282 := Tryd.func54.trans (congrArg some (by kernel_rfl)),
  f283 := Tryd.func46.trans (congrArg some (by kernel_rfl)),
  f284 := Tryd.func47.trans (congrArg some (by kernel_rfl)),
  f285 := Tryd.func48.trans (congrArg some (by kernel_rfl)),
  f286 := Tryd.func49.trans (congrArg some (by kernel_rfl)),
  f287 := Tryd.func50.trans (congrArg some (by kernel_rfl)),
  f316 := Tryd.func61.trans (congrArg some (by kernel_rfl)),
  f317 := Tryd.func55.trans (congrArg some (by kernel_rfl)),
  f318 := Tryd.func56.trans (congrArg some (by kernel_rfl)),
  f319 := Tryd.func57.trans (congrArg some (by kernel_rfl)),
  f320 := Tryd.func58.trans (congrArg some (by kernel_rfl)),
  f321 := Tryd.func59.trans (congrArg some (by kernel_rfl)),
  f322 := Tryd.func60.trans (congrArg some (by kernel_rfl)),
  f337 := Tryd.func64.trans (congrArg some (by kernel_rfl)),
  f338 := Tryd.func65.trans (congrArg some (by kernel_rfl)),
  t0 := Tryd.underlying0,
  a0 := Tryd.isAgg0,
  z0 := Tryd.sizeOf0,
  v0 := Tryd.zeroValue0,
  t2 := Tryd.underlying2,
  a2 := Tryd.isAgg2,
  z2 := Tryd.sizeOf2,
  v2 := Tryd.zeroValue2,
  t3 := Tryd.underlying3,
  a3 := Tryd.isAgg3,
  z3 := Tryd.sizeOf3,
  v3 := Tryd.zeroValue3,
  t4 := Tryd.underlying4,
  a4 := Tryd.isAgg4,
  z4 := Tryd.sizeOf4,
  v4 := Tryd.zeroValue4,
  t5 := Tryd.underlying5,
  a5 := Tryd.isAgg5,
  z5 := Tryd.sizeOf5,
  v5 := Tryd.zeroValue5,
  t9 := Tryd.underlying9,
  a9 := Tryd.isAgg9,
  z9 := Tryd.sizeOf9,
  v9 := Tryd.zeroValue9,
  t20 := Tryd.underlying20,
  a20 := Tryd.isAgg20,
  z20 := Tryd.sizeOf20,
  v20 := Tryd.zeroValue20,
  t21 := Tryd.underlying21,
  a21 := Tryd.isAgg21,
  z21 := Tryd.sizeOf21,
  v21 := Tryd.zeroValue21,
  t37 := Tryd.underlying66,
  a37 := Tryd.isAgg66,
  z37 := Tryd.sizeOf66,
  v37 := Tryd.zeroValue66,
  t46 := Tryd.underlying48,
  a46 := Tryd.isAgg48,
  z46 := Tryd.sizeOf48,
  v46 := Tryd.zeroValue48,
  t51 := Tryd.underlying60,
  a51 := Tryd.isAgg60,
  z51 := Tryd.sizeOf60,
  v51 := Tryd.zeroValue60,
  t53 := Tryd.underlying29,
  a53 := Tryd.isAgg29,
  z53 := Tryd.sizeOf29,
  v53 := Tryd.zeroValue29,
  t75 := Tryd.underlying56,
  a75 := Tryd.isAgg56,
  z75 := Tryd.sizeOf56,
  v75 := Tryd.zeroValue56,
  t85 := Tryd.underlying57,
  a85 := Tryd.isAgg57,
  z85 := Tryd.sizeOf57,
  v85 := Tryd.zeroValue57,
  t127 := Tryd.underlying86,
  a127 := Tryd.isAgg86,
  z127 := Tryd.sizeOf86,
  v127 := Tryd.zeroValue86,
  t143 := Tryd.underlying87,
  a143 := Tryd.isAgg87,
  z143 := Tryd.sizeOf87,
  v143 := Tryd.zeroValue87,
  t145 := Tryd.underlying89,
  a145 := Tryd.isAgg89,
  z145 := Tryd.sizeOf89,
  v145 := Tryd.zeroValue89,
  t167 := Tryd.underlying69,
  a167 := Tryd.isAgg69,
  z167 := Tryd.sizeOf69,
  v167 := Tryd.zeroValue69,
  t168 := Tryd.underlying72,
  a168 := Tryd.isAgg72,
  z168 := Tryd.sizeOf72,
  v168 := Tryd.zeroValue72,
  t171 := Tryd.underlying64,
  a171 := Tryd.isAgg64,
  z171 := Tryd.sizeOf64,
  v171 := Tryd.zeroValue64,
  t173 := Tryd.underlying67,
  a173 := Tryd.isAgg67,
  z173 := Tryd.sizeOf67,
  v173 := Tryd.zeroValue67,
  t175 := Tryd.underlying70,
  a175 := Tryd.isAgg70,
  z175 := Tryd.sizeOf70,
  v175 := Tryd.zeroValue70,
  t210 := Tryd.underlying84,
  a210 := Tryd.isAgg84,
  z210 := Tryd.sizeOf84,
  v210 := Tryd.zeroValue84,
  t212 := Tryd.underlying77,
  a212 := Tryd.isAgg77,
  z212 := Tryd.sizeOf77,
  v212 := Tryd.zeroValue77,
  t213 := Tryd.underlying78,
  a213 := Tryd.isAgg78,
  z213 := Tryd.sizeOf78,
  t232 := Tryd.underlying90,
  a232 := Tryd.isAgg90,
  z232 := Tryd.sizeOf90,
  v232 := Tryd.zeroValue90,
  t233 := Tryd.underlying91,
  a233 := Tryd.isAgg91,
  z233 := Tryd.sizeOf91,
  v233 := Tryd.zeroValue91,
  g15 := by kernel_rfl,
  g16 := by kernel_rfl,
  g17 := by kernel_rfl,
  g18 := by kernel_rfl,
  g19 := by kernel_rfl,
  t80 := Tryd.underlying92,
  a80 := Tryd.isAgg92,
  z80 := Tryd.sizeOf92,
  v80 := Tryd.zeroValue92,
  i0 := by kernel_rfl,
  i2 := by kernel_rfl,
  i3 := by kernel_rfl,
  i4 := by kernel_rfl,
  i5 := by kernel_rfl,
  i9 := by kernel_rfl,
  i20 := by kernel_rfl,
  i21 := by kernel_rfl,
  i37 := by kernel_rfl,
  i46 := by kernel_rfl,
  i51 := by kernel_rfl,
  i53 := by kernel_rfl,
  i75 := by kernel_rfl,
  i80 := by kernel_rfl,
  i85 := by kernel_rfl,
  i127 := by kernel_rfl,
  i143 := by kernel_rfl,
  i145 := by kernel_rfl,
  i167 := by kernel_rfl,
  i168 := by kernel_rfl,
  i171 := by kernel_rfl,
  i173 := by kernel_rfl,
  i175 := by kernel_rfl,
  i210 := by kernel_rfl,
  i212 := by kernel_rfl,
  i232 := by kernel_rfl,
  i233 := by kernel_rfl,
  m15 := by kernel_rfl,
  m16 := by kernel_rfl,
  m17 := by kernel_rfl,
  m18 := by kernel_rfl,
  m19 := by kernel_rfl,
  c0 := by kernel_rfl,
  c2 := by kernel_rfl,
  c3 := by kernel_rfl,
  c4 := by kernel_rfl,
  c5 := by kernel_rfl,
  c9 := by kernel_rfl,
  c20 := by kernel_rfl,
  c21 := by kernel_rfl,
  c37 := by kernel_rfl,
  c46 := by kernel_rfl,
  c51 := by kernel_rfl,
  c53 := by kernel_rfl,
  c75 := by kernel_rfl,
  c80 := by kernel_rfl,
  c85 := by kernel_rfl,
  c127 := by kernel_rfl,
  c143 := by kernel_rfl,
  c145 := by kernel_rfl,
  c167 := by kernel_rfl,
  c168 := by kernel_rfl,
  c171 := by kernel_rfl,
  c173 := by kernel_rfl,
  c175 := by kernel_rfl,
  c210 := by kernel_rfl,
  c212 := by kernel_rfl,
  c213 := by kernel_rfl,
  c232 := by kernel_rfl,
  c233 := by kernel_rfl }

/-- The library's two errors are there. -/
def Errs (w : World) : Prop := (∃ tp p, w.var? Tryd.prog "strconv.ErrSyntax" = some #[.iface tp p]) ∧ (∃ tp p, w.var? Tryd.prog "strconv.ErrRange" = some #[.iface tp p])
theorem gErrS : Tryd.prog.globalNamed "strconv.ErrSyntax" = some 1 := by kernel_rfl
theorem gErrR : Tryd.prog.globalNamed "strconv.ErrRange" = some 2 := by kernel_rfl
theorem Errs.below {w w' : World} (h : Errs w) (hb : Below w.heap.size w w') : Errs w' := by
  obtain ⟨⟨t1, p1, h1⟩, ⟨t2, p2, h2⟩⟩ := h
  have c1 := World.var?_cell gErrS h1 0
  have c2 := World.var?_cell gErrR h2 0
  simp at c1 c2
  exact ⟨⟨t1, p1, var?_below hb gErrS (World.block_lt_of_cell? _ _ c1) h1⟩, ⟨t2, p2, var?_below hb gErrR (World.block_lt_of_cell? _ _ c2) h2⟩⟩

theorem parseInt_ok (s : ByteArray) (hmax : s.size ≤ 281474976710656) (v : Int) (h : Lib.parseIntB 64 s.data.toList = .ok v) (w : World) :
    Calls Tryd.prog 40 #[.string s, .int .i64 10, .int .i64 64] w fun e w' => e = .returned (.tuple #[.int .i64 v, .nilIface]) ∧ Below w.heap.size w w' := by
  refine (Any.strconv_ParseInt_10_at64_ok Tryd.lays174 s (by omega) v h w).mono fun e w' ⟨he, hw⟩ => ⟨he, ?_⟩
  rcases hw with rfl | ⟨t, rfl⟩
  · exact Below.refl _ _
  · exact Lib.bytesWorld_below _ _ _

theorem parseInt_err (s : ByteArray) (hmax : s.size ≤ 281474976710656) (h : ∀ v, Lib.parseIntB 64 s.data.toList ≠ .ok v) (w : World) (hE : Errs w) :
    Calls Tryd.prog 40 #[.string s, .int .i64 10, .int .i64 64] w fun e w' => (∃ (n : Int) (t : TypeId) (N : Nat), e = .returned (.tuple #[.int .i64 n, .iface t (.pointer (some ⟨N, 0, none⟩))])) ∧ Below w.heap.size w w' := by
  obtain ⟨⟨t1, p1, h1⟩, ⟨t2, p2, h2⟩⟩ := hE
  cases hp : Lib.parseIntB 64 s.data.toList
  · rename_i v
    exact absurd hp (h v)
  · refine (Any.strconv_ParseInt_10_at64_syntax_var Tryd.lays174 s hmax hp t1 p1 w h1).mono fun e w' ⟨N, he, _, _, hb⟩ => ⟨⟨_, _, N, he⟩, hb⟩
  · refine (Any.strconv_ParseInt_10_at64_range_var Tryd.lays174 s hmax hp t2 p2 w h2).mono fun e w' ⟨N, he, _, _, hb⟩ => ⟨⟨_, _, N, he⟩, hb⟩

/-- A number's numeral. -/
def numeral (v : Int) : ByteArray := ⟨(Lib.itoa v).toArray⟩
theorem numeral_list (v : Int) : (numeral v).data.toList = Lib.itoa v := by unfold numeral; simp
theorem text_numeral (n : Int) (h0 : -9223372036854775808 ≤ n) (h1 : n ≤ 9223372036854775807) (w : World) (htab : Tab w) :
    Calls Tryd.prog 27 #[.int .i64 n] w fun e w' => e = .returned (.string (numeral n)) ∧ Below w.heap.size w w' := text_any n h0 h1 w htab

theorem numeral_of {s : ByteArray} {v : Int} (h : Lib.itoa v = s.data.toList) : s = numeral v := by
  apply ByteArray.ext
  apply Array.toList_inj.1
  rw [← h, numeral_list]

set_option maxHeartbeats 400000 in
theorem number_yes (v : Int) (hs : (numeral v).size ≤ 281474976710656) (v1 : -9223372036854775808 ≤ v) (v2 : v ≤ 9223372036854775807) (w : World) (htab : Tab w) :
    Calls Tryd.prog 37 #[.string (numeral v)] w fun e w' => e = .returned (.tuple #[.int .i64 v, .bool true]) ∧ Below w.heap.size w w' := by
  have P : Hid (Lib.parseIntB 64 (numeral v).data.toList = .ok v) := parse_canon ⟨⟨v1, v2⟩, (numeral_list v).symm⟩
  go_enter Tryd.func37, Tryd.ntmps37
  go_wp2_with fail
  refine (parseInt_ok (numeral v) hs v P.out _).mono ?_
  rintro e w1 ⟨rfl, c1⟩
  go_wp2_with fail
  refine (text_numeral v v1 v2 _ (htab.below c1)).mono ?_
  rintro e w2 ⟨rfl, c2⟩
  replace c2 := belowT c1 c2
  clear c1
  go_wp2
  go_ret2
  exact ⟨rfl, c2⟩

set_option maxHeartbeats 400000 in
theorem number_other (s : ByteArray) (v : Int) (hs : s.size ≤ 281474976710656) (h : Lib.parseIntB 64 s.data.toList = .ok v) (v1 : -9223372036854775808 ≤ v) (v2 : v ≤ 9223372036854775807) (hn : ((numeral v).toList == s.toList) = false) (w : World) (htab : Tab w) :
    Calls Tryd.prog 37 #[.string s] w fun e w' => (∃ n : Int, e = .returned (.tuple #[.int .i64 n, .bool false])) ∧ Below w.heap.size w w' := by
  have P : Hid (Lib.parseIntB 64 s.data.toList = .ok v) := h
  clear h
  go_enter Tryd.func37, Tryd.ntmps37
  go_wp2_with fail
  refine (parseInt_ok s hs v P.out _).mono ?_
  rintro e w1 ⟨rfl, c1⟩
  go_wp2_with fail
  refine (text_numeral v v1 v2 _ (htab.below c1)).mono ?_
  rintro e w2 ⟨rfl, c2⟩
  replace c2 := belowT c1 c2
  clear c1
  go_wp2
  go_ret2
  exact ⟨⟨_, rfl⟩, c2⟩

set_option maxHeartbeats 400000 in
theorem number_err (s : ByteArray) (hs : s.size ≤ 281474976710656) (h : ∀ v, Lib.parseIntB 64 s.data.toList ≠ .ok v) (w : World) (hE : Errs w) :
    Calls Tryd.prog 37 #[.string s] w fun e w' => (∃ n : Int, e = .returned (.tuple #[.int .i64 n, .bool false])) ∧ Below w.heap.size w w' := by
  have P : Hid (∀ v, Lib.parseIntB 64 s.data.toList ≠ .ok v) := h
  clear h
  go_enter Tryd.func37, Tryd.ntmps37
  go_wp2_with fail
  refine (parseInt_err s hs P.out _ hE).mono ?_
  rintro e w1 ⟨⟨n, t, N, rfl⟩, c1⟩
  go_wp2
  go_ret2
  exact ⟨⟨_, rfl⟩, c1⟩

/-- PARSE: the number whose numeral the text is. -/
theorem parse_yes (s : ByteArray) (v : Int) (hs : s.size ≤ 281474976710656) (h : Canon s.data.toList v) (w : World) (htab : Tab w) :
    Calls Tryd.prog 25 #[.string s] w fun e w' => e = .returned (.tuple #[.int .i64 v, .bool true]) ∧ Below w.heap.size w w' := by
  have hmf := hmf
  have v1 := h.1.1
  have v2 := h.1.2
  obtain rfl := numeral_of h.2
  clear h
  go_enter Tryd.func25, Tryd.ntmps25
  go_wp2_with (first | (go_at_call 37; refine (number_yes v hs v1 v2 _ htab).mono ?_; rintro e w1 ⟨rfl, hb⟩) | go_in)
  go_ret2
  exact ⟨rfl, hb⟩

/-- PARSE, where the text is no number's numeral. -/
theorem parse_no (s : ByteArray) (hs : s.size ≤ 281474976710656) (h : ∀ v, ¬ Canon s.data.toList v) (w : World) (htab : Tab w) (hE : Errs w) :
    Calls Tryd.prog 25 #[.string s] w fun e w' => e = .returned (.tuple #[.int .i64 0, .bool false]) ∧ Below w.heap.size w w' := by
  have N : ∀ w, Tab w → Errs w → Calls Tryd.prog 37 #[.string s] w fun e w' => (∃ n : Int, e = .returned (.tuple #[.int .i64 n, .bool false])) ∧ Below w.heap.size w w' := by
    intro w htab hE
    by_cases hp : ∃ v, Lib.parseIntB 64 s.data.toList = .ok v
    · obtain ⟨v, hv⟩ := hp
      have hb := Lib.parseIntB_bounds hv
      have e63 : ((2 ^ (64 - 1) : Nat) : Int) = 9223372036854775808 := by decide
      rw [e63] at hb
      refine number_other s v hs hv (by omega) (by omega) ?_ w htab
      have hne : ¬ (numeral v).toList = s.toList := by
        intro e
        apply h v
        refine ⟨⟨by omega, by omega⟩, ?_⟩
        rw [← numeral_list v]
        rw [← Lib.toList_data, ← Lib.toList_data]
        exact e
      simpa using hne
    · exact number_err s hs (fun v e => hp ⟨v, e⟩) w hE
  replace N : Hid _ := N
  clear h
  have hmf := hmf
  go_enter Tryd.func25, Tryd.ntmps25
  go_wp2_with (first | (go_at_call 37; refine (N.out _ htab hE).mono ?_; rintro e w1 ⟨⟨n, rfl⟩, hb⟩) | go_in)
  go_ret2
  exact ⟨rfl, hb⟩
end Go.Proofs.YtghhgihfgoenjaaDoor
