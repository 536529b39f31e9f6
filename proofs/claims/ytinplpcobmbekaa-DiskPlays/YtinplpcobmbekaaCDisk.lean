/-
  Package disk's Copy; and with it all of package disk's methods; in whatever memory where the disk lies.
-/
import Derived.Test.YtinplpcobmbekaaKSync
import Derived.Laws.CopyOwn
import Derived.Below
import Derived.Test.YtinplpcobmbekaaProg
import Derived.Handy
import Derived.Deep.QuietTactic
import Derived.WalkSpells
import Derived.WalkLawsBesides
import Derived.BigQuiet
import Derived.PlainAid
import Derived.Deep.RegionWith
import Derived.Laws.BitsAllLaws
import Derived.OwnWalk
import Derived.Laws.OwnMore
import Derived.Deep.RegionHeld3
import Derived.WalkSmall
import Derived.Deep.CutRange
import Derived.BigRegion
import Derived.OneCell
import Derived.Sort.Row
import Derived.ChangeSlices
import Derived.OpenShut
import Derived.Deep.AppendLies
import Derived.Laws.BytesArg
import Derived.Laws.CopyRow
import Derived.Laws.IdiomCopy
import Derived.Deep.OwnRows
import Derived.Deep.RegionLaw
namespace Go.Proofs.Ytinplpcobmbekaa
open Go.RowKit

/-- A block of its own beside two rows just made. -/
theorem copy_kv {w wx : World} {C : Nat} {N M : List Int} {l : Int} {n : Nat} {vn vl : Value} (hn : n ≤ 1000000) (rN : wx.ownsRow w.heap.size 5 1 vn n (bV N)) (rL : wx.ownsRow w.heap.size 5 1 vl n (bV M)) (hne : ∀ z, vn.ownBlock = some z → vl.ownBlock ≠ some z) (hN : ∀ z, vn.ownBlock = some z → z ≠ C) (hL : ∀ z, vl.ownBlock = some z → z ≠ C)
    (hB : KB wx C vn vl (.slice none 0 0) 0 l) (hC : w.heap.size ≤ C) (nb : ∀ x ∈ N, 0 ≤ x ∧ x < 256) (lb : ∀ x ∈ M, 0 ≤ x ∧ x < 256) :
    ∃ G, KV wx C N M [] 0 l n G vn vl (.slice none 0 0) ∧ ∀ z, G z → w.heap.size ≤ z :=
  ⟨fun z => z = C ∨ vn.ownBlock = some z ∨ vl.ownBlock = some z, ⟨hB, own_low rN, own_low rL, World.ownsRow_nil _ _ _ _, fun x hx => by simp at hx, .inl rfl, fun z e => ⟨.inr (.inl e), hN z e, hne z e, by simp [Value.ownBlock]⟩, fun z e => ⟨.inr (.inr e), hL z e, by simp [Value.ownBlock]⟩, fun z e => by simp [Value.ownBlock] at e,
    fun z hz => by
      rcases hz with rfl | e | e
      · exact hB.lt
      · exact (rN.lt z e).2
      · exact (rL.lt z e).2, nb, lb, hn⟩, fun z hz => by
      rcases hz with rfl | e | e
      · exact hC
      · exact (rN.lt z e).1
      · exact (rL.lt z e).1⟩

theorem own_opt {w : World} {base : Nat} {e : TypeId} {size n : Nat} {v : Value} {xs : List Value} (h : w.ownsRow base e size v n xs) : v = .slice none 0 0 ∨ ∃ a m c, v = .slice (some a) m c := by
  rcases h.2 with ⟨rfl, _⟩ | ⟨g, c, cur, rfl, _⟩
  · exact .inl rfl
  · exact .inr ⟨_, _, _, rfl⟩

theorem own_lst {w : World} {base n : Nat} {v : Value} {L : List Int} (h : w.ownsRow base 5 1 v n (bV L)) : LstB w v L := by
  have hl : L.length = n := by have := h.1; rw [bV_len] at this; omega
  rcases h.2 with ⟨rfl, h0⟩ | ⟨g, c, cur, rfl, _⟩
  · exact ⟨none, 0, by rw [hl, h0], fun h => by omega⟩
  · exact ⟨_, c, by rw [hl], fun _ => ⟨g, 0, rfl, fun j hj => by rw [Nat.zero_add]; exact bytes_at h j hj⟩⟩

theorem keepThreeB {w0 w w' : World} {p q r : Addr} {a b c : Value} (hb : Below w.heap.size w w') (h : w.cell? p = some a ∧ w.cell? q = some b ∧ w.cell? r = some c ∧ Below w0.heap.size w0 w) : w'.cell? p = some a ∧ w'.cell? q = some b ∧ w'.cell? r = some c ∧ Below w0.heap.size w0 w' :=
  ⟨keepCell hb h.1, keepCell hb h.2.1, keepCell hb h.2.2.1, belowT h.2.2.2 hb⟩

/-- All that waits is added to another disk's. -/
theorem k_all_add {w : World} {P C : Nat} {N M N2 M2 : List Int} {ws : List Wt} {m l l2 : Int} {n : Nat} {F G : Nat → Prop} {vn vl vw un ul : Value} (h : KV w P N M ws m l n F vn vl vw) (hC : KV w C N2 M2 [] 0 l2 n G un ul (.slice none 0 0)) (hFG : ∀ z, F z → ¬ G z) (hlen : (flatW ws).length ≤ 2000000000) (B : Nat) (hB : B ≤ w.heap.size) (hG : ∀ z, G z → B ≤ z) :
    Calls Try.prog 28 #[.pointer (some ⟨P, 2, none⟩), .func (.func 26) #[.pointer (some ⟨C, 2, none⟩)] #[]] w fun e w' => e = .returned (.tuple #[]) ∧ ∃ G' uw ws', KV w' C N2 M2 ws' ((flatW ws).length : Int) l2 n G' un ul uw ∧ flatW ws' = flatW ws ∧ (∀ z, G' z → B ≤ z) ∧ Below B w w' := by
  obtain ⟨p, c, ev⟩ := row_any h.wait
  have hfew := h.few
  refine (k_each_add (fun i wr => KV wr P N M ws m l n F vn vl vw ∧ ∃ G' uw ws', KV wr C N2 M2 ws' ((flatW (ws.take i)).length : Int) l2 n G' un ul uw ∧ flatW ws' = flatW (ws.take i) ∧ (∀ z, G' z → G z ∨ w.heap.size ≤ z) ∧ Frm G w wr) (L := ws) h.blk.cells.2.2.1 ⟨p, c, ev⟩
    (fun i a b hR hb => ⟨hR.1.below hb, ?_⟩)
    (fun i hi wr hR => hR.1.cellsAt i hi) (fun i hi wr hR => ?_) (fun i hi => h.ones i hi) ⟨h, G, .slice none 0 0, [], by simpa [flatW] using hC, by simp [flatW], fun z hz => .inl hz, Frm.refl _ _⟩ (by omega)).mono ?_
  · obtain ⟨G', uw, ws', k, f, g, r⟩ := hR.2
    exact ⟨G', uw, ws', k.below hb, f, g, r.trans (Frm.of_below (F := G) hb) fun z hz => .inl hz⟩
  · obtain ⟨k0, G', uw, ws', k, f, g, r⟩ := hR
    obtain ⟨a, b, c⟩ := k0.lstAt i hi
    have hle := flatW_le ws i
    have hle2 := flatW_le ws (i + 1)
    have hnx : (flatW (ws.take (i + 1))).length = (flatW (ws.take i)).length + ws[i].bs.length := by rw [flatW_next hi, List.length_append, zipAt_len]
    refine (k_add k b a c (by have := k.size; omega) (by omega) (by omega) (by have := k.few; rw [f] at this; omega)).mono ?_
    rintro e w2 ⟨rfl, G2, uw2, ws2, q1, q2, q3, q4⟩
    have hg2 : ∀ z, G2 z → G z ∨ w.heap.size ≤ z := fun z hz => (q4 z hz).elim (g z) fun e => .inr (Nat.le_trans r.size e)
    refine ⟨rfl, k0.frm q3 fun z hz hz' => (g z hz').elim (hFG z hz) fun e => by have := h.lt z hz; omega, G2, uw2, ws2, ?_, ?_, hg2, r.trans q3 g⟩
    · rw [hnx]
      simpa using q1
    · rw [q2, f, flatW_next hi]
  · rintro e w2 ⟨rfl, -, G', uw, ws', k, f, g, r⟩
    rw [List.take_length] at k f
    exact ⟨rfl, G', uw, ws', k, f, fun z hz => (g z hz).elim (hG z) fun e => Nat.le_trans hB e, r.below hG hB⟩

set_option maxRecDepth 100000 in
set_option maxHeartbeats 4000000 in
theorem c_copy {w : World} {P : Nat} {s : DS} {n : Nat} {F : Nat → Prop} (h : CD w P s n F) : Calls Try.prog 15 #[.pointer (some ⟨P, 0, none⟩)] w fun e w' => TellsND s n w e w' := by
  obtain ⟨vn, vl, vw, ws, l, kv, hfl, heq, hlr, hok, hfew⟩ := h
  obtain ⟨c0, c1, -, -, c4⟩ := kv.blk.cells
  have hnl := kv.nlen
  have hll := kv.llen
  have hsz := kv.size
  have CN := hidd fun (w2 : World) (hb : Below w.heap.size w w2) => k_clone (own_lst (own_keep hb kv.now)) (own_opt kv.now) (by omega)
  have CL := hidd fun (w2 : World) (hb : Below w.heap.size w w2) => k_clone (own_lst (own_keep hb kv.last)) (own_opt kv.last) (by omega)
  have ADD := hidd fun (w2 : World) (hb : Below w.heap.size w w2) (C : Nat) (G : Nat → Prop) (un ul : Value) (hC : KV w2 C s.now s.last [] 0 l n G un ul (.slice none 0 0)) (hG : ∀ z, G z → w.heap.size ≤ z) => k_all_add (kv.below hb) hC (fun z hz hz' => by have := kv.lt z hz; have := hG z hz'; omega) (by rw [← hfl]; exact hfew) w.heap.size hb.size hG
  have FIN : Hid (∀ (w2 : World) (C : Nat) (G : Nat → Prop) (un ul uw : Value) (ws' : List Wt), KV w2 C s.now s.last ws' ((flatW ws).length : Int) l n G un ul uw → flatW ws' = flatW ws → CD w2 C s n G) := hidd fun w2 C G un ul uw ws' k f => ⟨un, ul, uw, ws', l, by rw [hfl]; exact k, by rw [hfl, f], heq, hlr, hok, hfew⟩
  have MK : Hid (∀ (wx : World) (C : Nat) (un ul : Value), wx.ownsRow w.heap.size 5 1 un n (bV s.now) → wx.ownsRow w.heap.size 5 1 ul n (bV s.last) → (∀ z, un.ownBlock = some z → ul.ownBlock ≠ some z) → (∀ z, un.ownBlock = some z → z ≠ C) → (∀ z, ul.ownBlock = some z → z ≠ C) → KB wx C un ul (.slice none 0 0) 0 l → w.heap.size ≤ C →
      ∃ G, KV wx C s.now s.last [] 0 l n G un ul (.slice none 0 0) ∧ ∀ z, G z → w.heap.size ≤ z) := hidd fun wx C un ul r1 r2 h1 h2 h3 h4 h5 => copy_kv hsz r1 r2 h1 h2 h3 h4 h5 kv.nb kv.lb
  have HN := hidd hnl
  have HL := hidd hll
  obtain ⟨pn, cn, rfl⟩ := row_any kv.now
  obtain ⟨pl, cl, rfl⟩ := row_any kv.last
  clear kv hfl heq hlr hok hfew hnl hll
  go_enter Try.func15, Try.ntmps15
  go_wp2_with fail
  go_cut [3] from 4 to 19 (fun v3 wx => ∃ C G un ul, v3 = .pointer (some ⟨C, 0, none⟩) ∧ Hid (KV wx C s.now s.last [] 0 l n G un ul (.slice none 0 0)) ∧ Hid (∀ z, G z → w.heap.size ≤ z) ∧ Below w.heap.size w wx)
  case first =>
    have hS0 : w.drew.cell? ⟨P, 0, none⟩ = some (.slice pn n cn) ∧ w.drew.cell? ⟨P, 1, none⟩ = some (.slice pl n cl) ∧ w.drew.cell? ⟨P, 4, none⟩ = some (.int .i64 l) ∧ Below w.heap.size w w.drew := ⟨c0, c1, c4, drewB w⟩
    go_region_held3 (fun w' => w'.cell? ⟨P, 0, none⟩ = some (.slice pn n cn) ∧ w'.cell? ⟨P, 1, none⟩ = some (.slice pl n cl) ∧ w'.cell? ⟨P, 4, none⟩ = some (.int .i64 l) ∧ Below w.heap.size w w')
      (first | exact hS0 | exact keepThreeB dN (by assumption) | exact keepThreeB dL (by assumption) | exact keepThreeB (allocB _ _) (by assumption))
      (first
        | (go_at_call_of 32 pn; with_reducible refine (CN.out _ (by first | exact drewB _ | exact bL)).mono ?_; rintro e wN ⟨un, rfl, rN, dN⟩; rw [HN.out] at rN; have bN : Below w.heap.size w wN := (by first | exact belowT (drewB _) dN | exact belowT bL dN); obtain ⟨qn, kn, rfl⟩ := row_any rN)
        | (go_at_call_of 32 pl; with_reducible refine (CL.out _ (by first | exact drewB _ | exact bN)).mono ?_; rintro e wL ⟨ul, rfl, rL, dL⟩; rw [HL.out] at rL; have bL : Below w.heap.size w wL := (by first | exact belowT (drewB _) dL | exact belowT bN dL); obtain ⟨ql, kl, rfl⟩ := row_any rL))
    all_goals
      go_wp2_with fail
      go_meet
      first
        | (obtain ⟨G, k1, k2⟩ := MK.out (wL.alloc (.cells #[.slice qn n kn, .slice ql n kl, .slice none 0 0, .int .i64 0, .int .i64 l] 59)) wL.heap.size _ _ (own_keep (belowT dL (allocB wL _)) rN) (own_le (own_keep (allocB wL _) rL) bN.size)
            (fun z e e' => by have := (rN.lt z e).2; have := (rL.lt z e').1; omega) (fun z e => by have := (rN.lt z e).2; have := dL.size; omega) (fun z e => by have := (rL.lt z e).2; omega) (heap_alloc_new wL _) bL.size
           exact ⟨_, G, _, _, rfl, hidd k1, hidd k2, belowT bL (allocB wL _)⟩)
        | (obtain ⟨G, k1, k2⟩ := MK.out (wN.alloc (.cells #[.slice qn n kn, .slice ql n kl, .slice none 0 0, .int .i64 0, .int .i64 l] 59)) wN.heap.size _ _ (own_le (own_keep (allocB wN _) rN) bL.size) (own_keep (belowT dN (allocB wN _)) rL)
            (fun z e e' => by have := (rL.lt z e').2; have := (rN.lt z e).1; omega) (fun z e => by have := (rN.lt z e).2; omega) (fun z e => by have := (rL.lt z e).2; have := dN.size; omega) (heap_alloc_new wN _) bN.size
           exact ⟨_, G, _, _, rfl, hidd k1, hidd k2, belowT bN (allocB wN _)⟩)
  case rest =>
    obtain ⟨C, G, un, ul, rfl, K, HG, B⟩ := hcut
    have AD := hidd (ADD.out _ B.drew C G un ul K.out.drew HG.out)
    have BB := hidd B
    clear c0 c1 c4 CN CL ADD MK B
    go_wp2_with fail
    go_region_with (go_at_call 28; refine AD.out.mono ?_; rintro e w2 ⟨rfl, G', uw, ws', k, f, g, b⟩; have D := hidd (FIN.out _ _ _ _ _ _ _ k f); have HG2 := hidd g; have B2 := hidd b; clear k f g b)
    all_goals
      go_wp2
      go_ret
      exact ⟨C, G', rfl, D.out, (BB.out.drew).trans B2.out, HG2.out⟩

end Go.Proofs.Ytinplpcobmbekaa
