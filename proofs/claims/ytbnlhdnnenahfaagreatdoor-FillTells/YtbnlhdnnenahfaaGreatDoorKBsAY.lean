/-
  What the library's binary search tells of a rising row of words, as package fill asks it; in whatever memory.
-/
import Derived.Test.YtbnlhdnnenahfaaGreatDoorSPY
import Derived.Deep.OwnRows
set_option maxHeartbeats 4000000
set_option maxRecDepth 20000
namespace Go.Proofs.YtbnlhdnnenahfaaGreatDoor
section
open Go.RowKit
theorem Je {x y:Int}(h:Sort.ltInt x y=true):x<y:=by simpa[Sort.ltInt]using h
theorem Jd {x y:Int}(h:Sort.ltInt x y=false):y<=x:=by simp[Sort.ltInt]at h;omega
theorem GP (x:Int)(w:World):Calls Tryz.prog 159 #[.int .u64 x] w fun e w'=>e=.returned (.bool false)/\w'=w:=by
 go_enter Tryz.func159,Tryz.ntmps159
 go_wp2;go_ret;exact⟨by simp,rfl⟩
theorem xV (s:Value)(L:List Int)(x:Int)(hR:aq L)(hn:L.length<=100000)(w:World)(h1:Lst w s L) :
 Calls Tryz.prog 109 #[s,.int .u64 x] w fun e w'=>(∃k:Int,e=.returned (.tuple #[.int .i64 k,.bool (decide (x∈L))]))/\w'=w:=by
 obtain⟨p,c,rfl,-,hp⟩:=h1;obtain⟨n,en⟩:∃n,L.length=n:=⟨_,rfl⟩
 have HP:=ab hp;have EN:=ab en;have HR:=ab hR;rw[en]at hn ⊢;clear hp en hR
 go_enter Tryz.func109,Tryz.ntmps109
 go_wp2_with fail;go_loopw [7,8] (fun v7 v8 wr=>∃lo hi:Nat,lo<=hi/\hi<=n/\v7=.int .i64 (lo:Int)/\v8=.int .i64 (hi:Int)/\Hid (Seek L x lo hi)/\wr=w) (fun v7 v8 _=>(intOf v8-intOf v7).toNat)
 case atStart=>exact⟨0,n,by omega,by omega,rfl,rfl,ab ⟨fun t ht hl=>by omega,fun t ht hl=>by have:=EN.out;omega⟩,rfl⟩
 case round =>
  obtain⟨lo,hi,h1,h2,rfl,rfl,hS,rfl⟩:=hrel;by_cases hlh:lo<hi
  · obtain⟨mid,hmid⟩:∃mid,(lo+hi) / 2=mid:=⟨_,rfl⟩
    have m1:lo<=mid:=by omega
    have m2:mid<hi:=by omega
    have m3:mid<n:=by omega
    have em:((lo:Int)+(hi:Int)) / 2=(mid:Int):=by omega
    clear hmid;have hmL:mid<L.length:=by rw[EN.out];exact m3
    obtain⟨g,o,rfl,cy⟩:=HP.out mid hmL;have hUp:=ab (fun h=>hS.out.up HR.out hmL h);have hDn:=ab (fun h=>hS.out.down HR.out hmL h);generalize L[mid]=y at *;have hlh':(lo:Int)<(hi:Int):=by omega
    cases hq:Sort.ltInt y x
    · have LS:=ab (aL y x wr);rw[hq]at LS;have hq':=ab (Jd hq);clear hq;go_wp2_with fail;refine LS.out.mono ?_;rintro e w1 ⟨rfl,rfl⟩;clear LS;go_wp2_with fail;go_roundw
      case rel=>exact⟨lo,mid,by omega,by omega,rfl,rfl,ab (hDn.out hq'.out),trivial⟩
      case measure=>simp[intOf];omega
    · have LS:=ab (aL y x wr);rw[hq]at LS;have hq':=ab (Je hq);clear hq;go_wp2_with fail;refine LS.out.mono ?_;rintro e w1 ⟨rfl,rfl⟩;clear LS;go_wp2_with fail;go_roundw
      case rel=>exact⟨mid+1,hi,by omega,by omega,by go_num,rfl,ab (hUp.out hq'.out),trivial⟩
      case measure=>simp[intOf];omega
  · obtain rfl:lo=hi:=by omega
    have hlh':decide ((lo:Int)<(lo:Int))=false:=by simp
    by_cases hln:lo<n
    · have hmL:lo<L.length:=by rw[EN.out];exact hln
      obtain⟨g,o,rfl,cy⟩:=HP.out lo hmL;have hD:Hid (decide (x∈L)=(L[lo] == x)):=by
       refine ab ?_;by_cases e:L[lo]=x
       · rw[decide_eq_true (e ▸ List.getElem_mem hmL)];simp[e]
       · rw[decide_eq_false]
         · simp[e]
         · intro hm;obtain⟨t,ht,et⟩:=List.mem_iff_getElem.1 hm;rcases Nat.lt_or_ge t lo with k | k
           · have:=hS.out.1 t ht k;omega
           · have h3:=hS.out.2 lo hmL (Nat.le_refl _);have h4:=ga HR.out hmL ht k;omega
      have hln':(lo:Int)<(n:Int):=by omega
      generalize L[lo]=y at *;clear hS HP HR EN;cases hyx:(y == x)
      · rw[hyx]at hD;have N1:=ab fun w=>GP y w;go_wp2_with fail;refine(N1.out _).mono ?_;rintro e w1 ⟨rfl,rfl⟩;go_wp2_with fail
        go_ret2
        exact⟨⟨_,by rw[hD.out];rfl⟩,rfl⟩
      · rw[hyx]at hD;go_wp2_with fail
        go_ret2
        exact⟨⟨_,by rw[hD.out];rfl⟩,rfl⟩
    · have hD:Hid (decide (x∈L)=false):=by
       refine ab (decide_eq_false fun hm=>?_);obtain⟨t,ht,et⟩:=List.mem_iff_getElem.1 hm;have:=hS.out.1 t ht (by rw[EN.out]at ht;omega);omega
      have hln':decide ((lo:Int)<(n:Int))=false:=df (by omega);have hln2:decide (lo<n)=false:=df (by omega);clear hS HP HR EN;go_wp2_with fail
      go_ret2
      exact⟨⟨_,by rw[hD.out];rfl⟩,rfl⟩
end
end Go.Proofs.YtbnlhdnnenahfaaGreatDoor
