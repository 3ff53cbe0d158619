/- Part 33 -/
import Derived.Test.YtfjpemdejoejbaaGreatTt29
set_option maxRecDepth 100000
set_option maxHeartbeats 4000000
namespace Go.Proofs.YtfjpemdejoejbaaGreat
open Go.RowKit
theorem Qxg {s:ByteArray} (h:(Qfp s).2.2=false):Qfp s=(⟨#[]⟩,s,false)∧¬ Qne s<s.size:=by
 by_cases e:Qne s<s.size
 ·have:Qfp s=(s.extract 0 (Qne s),s.extract (Qne s+1) s.size,true):=by unfold Qfp;rw [xO e]
  rw [this] at h;cases h
 ·exact ⟨by unfold Qfp;rw [xN e],e⟩
theorem Qxh (S:Nat→Prop) (A:Option Addr) (c:Nat) (ps:List Tr) (M:Nat) (s:ByteArray) (w:World) (hp:TrAt S w (Qap ps) ⟨0,⟨#[]⟩,none,0,0,A,ps.length,c⟩) (hf:Qe9 (Qap ps)=true) (hs:s.size≤maxLen) (hM:M<ps.length) (hd:(Qfp s).2.2=false) :
  Calls Tryz.prog 39 #[.slice A ps.length c,.int .i64 M,.string s] w fun e w'=>e = .returned (.tuple #[.int .i64 (Qaw ps M s).1,.int .i64 (Qaw ps M s).2.1,.bool (Qaw ps M s).2.2])∧Below w.heap.size w w':=by
 have HP:=hQ hp;have HF:=hQ hf;have hl:=(Qbo hf).2.1;have hl':ps.length≤1900000000000:=hl;clear hp hf hl;have hdv:=Qxg hd;have hdot:Zav s = -1:=by unfold Zav;rw [xN hdv.2]
 have HC:=hQ (show ∀ w,Calls Tryz.prog 65 #[.string s] w fun e w'=>e = .returned (.int .i64 (-1))∧∃ n,w'=w.drewN n from fun w=>by have:=Qxf s w hs;rw [hdot] at this;exact this);obtain ⟨y,hy⟩:∃ y,y=s:=⟨_,rfl⟩;have HLK:=hQ (show Qaw ps M s=Qea ps M y from by unfold Qaw;rw [hdv.1,hy];rfl);obtain ⟨k,hkM⟩:∃ k,k=M:=⟨_,rfl⟩;subst hkM;obtain ⟨t,ht⟩:∃ t,ps[k]? = some t:=⟨_,xF hM⟩;have HK:=hQ ht;obtain ⟨b,off,hka⟩:∃ b off,A=some ⟨b,off,none⟩:=HP.out.addr.resolve_left (by show ¬ ps.length=0;omega);subst hka;obtain ⟨u,c0,c1,c2,c3,hu⟩:=HP.out.at rfl (show (Qap ps).kids[k]? = some t from ht);have HU:=hQ hu;have HCELL:=hQ (fun (w':World) (hb:Below w.heap.size w w') (a:Addr) (v:Value) (h:w.cell? a=some v)=>(xJ (w:=w) (a:=a) (hb.block a.block (xK w _ h))).trans h);have hl2:t.kids.length≤1900000000000:=(Qbo ((Qbo HF.out).2.2 k t ht)).2.1;have hkl:u.kl=t.kids.length:=hu.kl.1;have hk0:(0:Int)≤(k:Int):=by omega
 have hk1:(k:Int)<(ps.length:Int):=by omega
 clear hu ht;subst hy;clear hd hs hdot hdv
 go_enter Tryz.func39,Tryz.ntmps39
 go_wp2_with (go_at_call 65;refine (HC.out _).mono ?_;rintro e w1 ⟨rfl,nq,rfl⟩)
 go_wp2
 go_loopw [11] (fun i wq=>∃ d:Nat,i = .int .i64 d∧d≤t.kids.length∧Hid (Qio t.kids y d)∧Below w.heap.size w wq) (fun i _=>t.kids.length-(intOf i).toNat)
 case atStart=>exact ⟨0,rfl,xZ _,hQ fun j t hj=>absurd hj (by omega),below_drewN (xC _ _) _⟩
 case round =>
  obtain ⟨d,rfl,hd,hm,hb⟩:=hrel;have HM:=hm;have HBQ:=hQ hb;clear hm hb;have cp1:=HCELL.out _ HBQ.out _ _ c1;have cp3:=HCELL.out _ HBQ.out _ _ c3
  by_cases hdl:d<t.kids.length
  ·obtain ⟨q,hq⟩:∃ q,t.kids[d]? = some q:=⟨_,xF hdl⟩;obtain ⟨b2,off2,hua⟩:∃ b off,u.ka=some ⟨b,off,none⟩:=HU.out.addr.resolve_left (by omega);obtain ⟨v,e0,e1,e2,e3,hv⟩:=(HU.out.keep HBQ.out).at hua hq;have HVX:=hQ hv.kl.2.2.2;have HQ:=hQ hq;have el:=xK wr _ e0;have hd0:(0:Int)≤(d:Int):=by omega
   have hd1:(d:Int)<(t.kids.length:Int):=by omega
   have hd2:(d:Int)+1≤1900000000001:=by omega
   clear hv hq
   by_cases hy:v.text=y
   ·have d2:=Qjb hy;have HLR:=hQ (show Qaw ps k y=((k:Int),(d:Int),true) from HLK.out.trans (Qip HK.out HM.out HQ.out (HVX.out ▸ hy)));clear hy
    go_wp2
    refine bodyPost_ret (v:=.tuple #[.int .i64 k,.int .i64 d,.bool true]) (by simp [results,Tryz.results39,go_sem, *]) rfl ?_;rw [HLR.out];exact ⟨rfl,HBQ.out⟩
   ·have d2:=Qjc hy;have HY:=hQ (Qfb HM.out HQ.out (show q.text≠y from HVX.out ▸ hy));clear hy
    go_wp2
    go_roundw
    case measure=>first | (simp [intOf];done) | (simp [intOf];omega)
    case rel=>exact ⟨d+1,by go_num,by omega,HY,HBQ.out⟩
  ·obtain rfl:d=t.kids.length:=by omega
   have HLR:=hQ (show Qaw ps k y=(0,0,false) from HLK.out.trans (Qiq HK.out HM.out))
   go_wp2
   try rw [Exit.noGoto_ret]
   first | go_ret3 | go_ret | skip
   rw [HLR.out];exact ⟨rfl,HBQ.out⟩
theorem Qxi {s:ByteArray} (h:(Qfp s).2.2=true):Qfp s=(s.extract 0 (Qne s),s.extract (Qne s+1) s.size,true)∧Qne s<s.size:=by
 by_cases e:Qne s<s.size
 ·exact ⟨by unfold Qfp;rw [xO e],e⟩
 ·have:Qfp s=(⟨#[]⟩,s,false):=by unfold Qfp;rw [xN e]
  rw [this] at h;cases h
theorem Zaw (S:Nat→Prop) (A:Option Addr) (c:Nat) (ps:List Tr) (m:Int) (M:Nat) (s:ByteArray) (w:World) (hp:TrAt S w (Qap ps) ⟨0,⟨#[]⟩,none,0,0,A,ps.length,c⟩) (hf:Qe9 (Qap ps)=true) (hs:s.size≤maxLen) (hd:(Qfp s).2.2=true) :
  Calls Tryz.prog 39 #[.slice A ps.length c,.int .i64 m,.string s] w fun e w'=>e = .returned (.tuple #[.int .i64 (Qaw ps M s).1,.int .i64 (Qaw ps M s).2.1,.bool (Qaw ps M s).2.2])∧Below w.heap.size w w':=by
 have HP:=hQ hp;have HF:=hQ hf;have HD:=hQ hd;have hl:=(Qbo hf).2.1;have hl':ps.length≤1900000000000:=hl;clear hp hf hl;obtain ⟨D,hD⟩:∃ D,D=Qne s:=⟨_,rfl⟩;have hdv:=Qxi hd;rw [←hD] at hdv;have hds:D<s.size:=hdv.2;have hs':s.size≤9223372036854775807:=by unfold maxLen at hs;omega
 have HC:=hQ (show ∀ w,Calls Tryz.prog 65 #[.string s] w fun e w'=>e = .returned (.int .i64 (D:Int))∧∃ n,w'=w.drewN n from fun w=>by have:=Qxf s w hs;rw [show Zav s=(D:Int) from by unfold Zav;rw [←hD,xO hds]] at this;exact this);obtain ⟨x,hx⟩:∃ x,x=s.extract 0 D:=⟨_,rfl⟩;obtain ⟨y,hy⟩:∃ y,y=s.extract (D+1) s.size:=⟨_,rfl⟩;have HX:=hQ hx;have HY:=hQ hy;have HDV:=hQ (show Qfp s=(x,y,true) from by rw [hdv.1,hx,hy]);have hD1:(0:Int)≤(D:Int):=by omega
 have hD2:(D:Int)<(s.size:Int):=by omega
 have hD3:IntKind.i64.wrap ((D:Int)+1)=(D:Int)+1:=IntWalk.i64_in _ (by omega);clear hd hs hdv hD hx hy
 go_enter Tryz.func39,Tryz.ntmps39
 go_wp2_with (go_at_call 65;refine (HC.out _).mono ?_;rintro e w1 ⟨rfl,nq,rfl⟩)
 go_wp2
 go_loopw [10] (fun i wr=>∃ k n:Nat,i = .int .i64 k∧k≤ps.length∧Hid (Qio ps x k)∧wr=w.drewN n) (fun i _=>ps.length-(intOf i).toNat)
 case atStart=>exact ⟨0,_,rfl,xZ _,hQ fun j t hj=>absurd hj (by omega),rfl⟩
 case round =>
  obtain ⟨k,n,rfl,hk,hn,rfl⟩:=hrel;have HN:=hn;clear hn
  by_cases hlt:k<ps.length
  ·obtain ⟨t,ht⟩:∃ t,ps[k]? = some t:=⟨_,xF hlt⟩;have HK:=hQ ht;obtain ⟨b,off,hka⟩:∃ b off,A=some ⟨b,off,none⟩:=HP.out.addr.resolve_left (by show ¬ ps.length=0;omega);subst hka;obtain ⟨u,c0,c1,c2,c3,hu⟩:=HP.out.at rfl (show (Qap ps).kids[k]? = some t from ht);have HU:=hQ hu;have HCELL:=hQ (fun (w':World) (hb:Below w.heap.size w w') (a:Addr) (v:Value) (h:w.cell? a=some v)=>(xJ (w:=w) (a:=a) (hb.block a.block (xK w _ h))).trans h);have hlk:k<ps.length:=hlt;have hl2:t.kids.length≤1900000000000:=(Qbo ((Qbo HF.out).2.2 k t ht)).2.1;have hkl:u.kl=t.kids.length:=hu.kl.1;have hk0:(0:Int)≤(k:Int):=by omega
   have hk1:(k:Int)<(ps.length:Int):=by omega
   clear hu ht;have HTX:=hQ HU.out.kl.2.2.2
   by_cases hx:u.text=x
   ·have d1:=Qjb hx;have HXT:=hQ (show t.text=x from HTX.out ▸ hx);have HLK:=hQ (show Qaw ps M s=Qea ps k y from by have:=Qr7 (m:=M) HD.out (by rw [HDV.out];exact HN.out) HK.out (by rw [HDV.out];exact HXT.out);rw [this,HDV.out]);rw [HX.out] at d1;clear hx;have hkne:¬ (k:Int)=(ps.length:Int):=by omega
    have hkn2:=Qcm hkne
    go_wp2
    go_quiet (fail)
    go_wp2
    go_quiet (fail)
    rw [←HY.out];clear d1 hkne hkn2 hD1 hD2 hD3
    go_wp2
    go_loopw [11] (fun i wq=>∃ d:Nat,i = .int .i64 d∧d≤t.kids.length∧Hid (Qio t.kids y d)∧Below w.heap.size w wq) (fun i _=>t.kids.length-(intOf i).toNat)
    case atStart=>exact ⟨0,rfl,xZ _,hQ fun j t hj=>absurd hj (by omega),below_drewN (below_drewN (xC _ _) _) _⟩
    case round =>
     obtain ⟨d,rfl,hd,hm,hb⟩:=hrel;have HM:=hm;have HBQ:=hQ hb;clear hm hb;have cp1:=HCELL.out _ HBQ.out _ _ c1;have cp3:=HCELL.out _ HBQ.out _ _ c3
     by_cases hdl:d<t.kids.length
     ·obtain ⟨q,hq⟩:∃ q,t.kids[d]? = some q:=⟨_,xF hdl⟩;obtain ⟨b2,off2,hua⟩:∃ b off,u.ka=some ⟨b,off,none⟩:=HU.out.addr.resolve_left (by omega);obtain ⟨v,e0,e1,e2,e3,hv⟩:=(HU.out.keep HBQ.out).at hua hq;have HVX:=hQ hv.kl.2.2.2;have HQ:=hQ hq;have el:=xK wr _ e0;have hd0:(0:Int)≤(d:Int):=by omega
      have hd1:(d:Int)<(t.kids.length:Int):=by omega
      have hd2:(d:Int)+1≤1900000000001:=by omega
      clear hv hq
      by_cases hy:v.text=y
      ·have d2:=Qjb hy;have HLR:=hQ (show Qaw ps M s=((k:Int),(d:Int),true) from HLK.out.trans (Qip HK.out HM.out HQ.out (HVX.out ▸ hy)));clear hy
       go_wp2
       refine bodyPost_ret (v:=.tuple #[.int .i64 k,.int .i64 d,.bool true]) (by simp [results,Tryz.results39,go_sem, *]) rfl ?_;rw [HLR.out];exact ⟨rfl,HBQ.out⟩
      ·have d2:=Qjc hy;have HY:=hQ (Qfb HM.out HQ.out (show q.text≠y from HVX.out ▸ hy));clear hy
       go_wp2
       go_roundw
       case measure=>first | (simp [intOf];done) | (simp [intOf];omega)
       case rel=>exact ⟨d+1,by go_num,by omega,HY,HBQ.out⟩
     ·obtain rfl:d=t.kids.length:=by omega
      have HLR:=hQ (show Qaw ps M s=(0,0,false) from HLK.out.trans (Qiq HK.out HM.out))
      go_wp2
      try rw [Exit.noGoto_ret]
      first | go_ret3 | go_ret | skip
      rw [HLR.out];exact ⟨rfl,HBQ.out⟩
   ·have d1:=Qjc hx;have HNX:=hQ (Qfb HN.out HK.out (show t.text≠x from HTX.out ▸ hx));rw [HX.out] at d1;clear hx
    go_wp2
    go_quiet (fail)
    go_wp2
    go_roundw
    case measure=>first | (simp [intOf];done) | (simp [intOf];omega)
    case rel=>exact ⟨k+1,_,by go_num,by omega,HNX,rfl⟩
  ·obtain rfl:k=ps.length:=by omega
   have HV:=hQ (show Qaw ps M s=(0,0,false) from Qr8 HD.out (by rw [HDV.out];exact HN.out))
   go_wp2
   first | go_quiet (fail) | skip
   go_wp2
   refine bodyPost_ret (v:=.tuple #[.int .i64 0,.int .i64 0,.bool false]) (by simp [results,Tryz.results39,go_sem, *]) rfl ?_;rw [HV.out];exact ⟨rfl,below_drewN (xC _ _) _⟩
end Go.Proofs.YtfjpemdejoejbaaGreat
