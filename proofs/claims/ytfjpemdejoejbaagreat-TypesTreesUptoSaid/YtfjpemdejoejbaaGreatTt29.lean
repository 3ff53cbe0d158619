/- Part 29 -/
import Derived.Test.YtfjpemdejoejbaaGreatTt27
import Derived.Test.YtfjpemdejoejbaaGreatTt28
set_option maxRecDepth 100000
set_option maxHeartbeats 4000000
namespace Go.Proofs.YtfjpemdejoejbaaGreat
open Go.RowKit
def Qap (ps:List Tr):Tr:=.mk 0 ⟨#[]⟩ [] ps
def Qnf:List Tr→ByteArray→Nat
 | [],_=>0
 | t :: r,x=>if t.text=x then 0 else Qnf r x+1
def Qio (l:List Tr) (x:ByteArray) (k:Nat):Prop:=∀ (j:Nat) (t:Tr),j<k→l[j]? = some t→t.text≠x
theorem Qfb {l:List Tr} {x:ByteArray} {k:Nat} {t:Tr} (h:Qio l x k) (ht:l[k]? = some t) (hx:t.text≠x):Qio l x (k+1):=fun j u hj hu=>by
 by_cases e:j=k
 ·subst e;rw [ht] at hu;injection hu with hu;rw [←hu];exact hx
 ·exact h j u (by omega) hu
theorem Qng:(l:List Tr)→(x:ByteArray)→(k:Nat)→(t:Tr)→Qio l x k→l[k]? = some t→t.text=x→Qnf l x=k
 | [],_,k,t,_,h,_=>by simp at h
 | a :: r,x,0,t,_,h,hx=>by simp at h;subst h;rw [Qnf,xO hx]
 | a :: r,x,k+1,t,hn,h,hx=>by
  rw [Qnf,xN (hn 0 a (by omega) rfl),Qng r x k t (fun j u hj hu=>hn (j+1) u (by omega) (by simpa using hu)) (by simpa using h) hx]
theorem Qnh:(l:List Tr)→(x:ByteArray)→Qio l x l.length→Qnf l x=l.length
 | [],_,_=>rfl
 | a :: r,x,hn=>by
  rw [Qnf,xN (hn 0 a (by simp) rfl),Qnh r x (fun j u hj hu=>hn (j+1) u (by simp;omega) (by simpa using hu)),xD]
def Qea (ps:List Tr) (i:Nat) (x:ByteArray):Int × Int × Bool:=if Qnf ((ps[i]?).getD noTr).kids x<((ps[i]?).getD noTr).kids.length then ((i:Int),(Qnf ((ps[i]?).getD noTr).kids x:Nat),true) else (0,0,false)
def Qaw (ps:List Tr) (m:Nat) (s:ByteArray):Int × Int × Bool :=
 if (Qfp s).2.2 then (if Qnf ps (Qfp s).1<ps.length then Qea ps (Qnf ps (Qfp s).1) (Qfp s).2.1 else (0,0,false)) else Qea ps m (Qfp s).2.1
theorem Qr7 {ps:List Tr} {s:ByteArray} {m k:Nat} {t:Tr} (hd:(Qfp s).2.2=true) (hn:Qio ps (Qfp s).1 k) (ht:ps[k]? = some t) (hx:t.text=(Qfp s).1):Qaw ps m s=Qea ps k (Qfp s).2.1:=by
 unfold Qaw;rw [xO hd,Qng _ _ _ t hn ht hx,xO (xP.1 ht).1]
theorem Qr8 {ps:List Tr} {s:ByteArray} {m:Nat} (hd:(Qfp s).2.2=true) (hn:Qio ps (Qfp s).1 ps.length):Qaw ps m s=(0,0,false):=by
 unfold Qaw;rw [xO hd,Qnh _ _ hn,xN (Nat.lt_irrefl _)]
theorem Qip {ps:List Tr} {i d:Nat} {x:ByteArray} {t k:Tr} (ht:ps[i]? = some t) (hn:Qio t.kids x d) (hk:t.kids[d]? = some k) (hx:k.text=x):Qea ps i x=((i:Int),(d:Int),true):=by
 unfold Qea;rw [ht,Option.getD_some,Qng _ _ _ k hn hk hx,xO (xP.1 hk).1]
theorem Qiq {ps:List Tr} {i:Nat} {x:ByteArray} {t:Tr} (ht:ps[i]? = some t) (hn:Qio t.kids x t.kids.length):Qea ps i x=(0,0,false):=by
 unfold Qea;rw [ht,Option.getD_some,Qnh _ _ hn,xN (Nat.lt_irrefl _)]
theorem Qjb {x y:ByteArray} (h:x=y):(x.toList==y.toList)=true:=by subst h;simp
theorem Qjc {x y:ByteArray} (h:x≠y):(x.toList==y.toList)=false:=by
 cases e:(x.toList==y.toList) with
 | false=>rfl
 | true=>exact absurd (Qwe e) h
theorem Qwf {ps:List Tr} {i:Nat} {x:ByteArray} (h:ps.length≤i):Qea ps i x=(0,0,false):=by
 unfold Qea;rw [List.getElem?_eq_none h,Option.getD_none,xN (by simp [noTr,Tr.kids,Qnf])]
theorem Qud (S:Nat→Prop) (A:Option Addr) (c:Nat) (ps:List Tr) (m:Int) (M:Nat) (s:ByteArray) (w:World) (hp:TrAt S w (Qap ps) ⟨0,⟨#[]⟩,none,0,0,A,ps.length,c⟩) (hf:Qe9 (Qap ps)=true) (hs:s.size≤maxLen) (hd:(Qfp s).2.2=true) :
  Calls Tryz.prog 88 #[.slice A ps.length c,.int .i64 m,.string s] w fun e w'=>e = .returned (.tuple #[.int .i64 (Qaw ps M s).1,.int .i64 (Qaw ps M s).2.1,.bool (Qaw ps M s).2.2])∧Below w.heap.size w w':=by
 have HP:=hQ hp;have HF:=hQ hf;have HD:=hQ hd;have hl:=(Qbo hf).2.1;have hl':ps.length≤1900000000000:=hl;clear hp hf hl;obtain ⟨x,y,z,hdv⟩:∃ x y z,Qfp s=(x,y,z):=⟨_,_,_,rfl⟩;obtain rfl:z=true:=by rw [hdv] at hd;exact hd
 have HDV:=hQ hdv;have HC:=hQ (show ∀ w,Calls Tryz.prog 136 #[.string s] w fun e w'=>e = .returned (.tuple #[.string x,.string y,.bool true])∧∃ n,w'=w.drewN n from fun w=>by have:=Qma s w hs;rw [hdv] at this;exact this);clear hd hdv hs
 go_enter Tryz.func88,Tryz.ntmps88
 go_wp2
 go_step3
 go_wp2_with (go_at_call 136;refine (HC.out _).mono ?_;rintro e w1 ⟨rfl,nq,rfl⟩)
 go_step3
 go_wp2
 go_loopw [24] (fun i wr=>∃ k:Nat,i = .int .i64 k∧k≤ps.length∧Hid (Qio ps x k)∧Below w.heap.size w wr) (fun i _=>ps.length-(intOf i).toNat)
 case atStart=>exact ⟨0,rfl,xZ _,hQ fun j t hj=>absurd hj (by omega),below_drewN (xC _ _) _⟩
 case round =>
  obtain ⟨k,rfl,hk,hn,hb⟩:=hrel;obtain ⟨wo,hwo⟩:∃ w',w'=wr:=⟨_,rfl⟩;subst hwo;have HN:=hn;have HBR:=hQ hb;clear hn hb
  by_cases hlt:k<ps.length
  ·obtain ⟨t,ht⟩:∃ t,ps[k]? = some t:=⟨_,xF hlt⟩;obtain ⟨b,off,hka⟩:∃ b off,A=some ⟨b,off,none⟩:=HP.out.addr.resolve_left (by show ¬ ps.length=0;omega);subst hka;obtain ⟨u,c0,c1,c2,c3,hu⟩:=(HP.out.keep HBR.out).at rfl (show (Qap ps).kids[k]? = some t from ht);have HU:=hQ hu;have HTX:=hQ hu.kl.2.2.2;have HK:=hQ ht;have cl:=xK wo _ c0;have hk0:(0:Int)≤(k:Int):=by omega
   have hk1:(k:Int)<(ps.length:Int):=by omega
   have hk2:(k:Int)+1≤1900000000001:=by omega
   have HW:=hQ (HBR.out.trans (((xC wo.heap.size wo).alloc (xA _) (trO u)).mono HBR.out.size));clear hu ht
   by_cases hx:u.text=x
   ·have d1:=Qjb hx;have HX:=hQ (show t.text=x from HTX.out ▸ hx);clear hx;have hl2:t.kids.length≤1900000000000:=(Qbo ((Qbo HF.out).2.2 k t HK.out)).2.1;have hkl:u.kl=t.kids.length:=HU.out.kl.1;have HLK:=hQ (show Qaw ps M s=Qea ps k y from by have:=Qr7 (m:=M) HD.out (by rw [HDV.out];exact HN.out) HK.out (by rw [HDV.out];exact HX.out);rw [this,HDV.out])
    go_wp2
    go_loopw [48] (fun i wq=>∃ d:Nat,i = .int .i64 d∧d≤t.kids.length∧Hid (Qio t.kids y d)∧Below wo.heap.size wo wq) (fun i _=>t.kids.length-(intOf i).toNat)
    case atStart=>exact ⟨0,rfl,xZ _,hQ fun j t hj=>absurd hj (by omega),(xC wo.heap.size wo).alloc (xA _) _⟩
    case round =>
     obtain ⟨d,rfl,hd,hm,hb⟩:=hrel;have HM:=hm;have HBQ:=hQ hb;clear hm hb
     by_cases hdl:d<t.kids.length
     ·obtain ⟨q,hq⟩:∃ q,t.kids[d]? = some q:=⟨_,xF hdl⟩;obtain ⟨b2,off2,hua⟩:∃ b off,u.ka=some ⟨b,off,none⟩:=HU.out.addr.resolve_left (by omega);obtain ⟨v,e0,e1,e2,e3,hv⟩:=(HU.out.keep HBQ.out).at hua hq;have HVX:=hQ hv.kl.2.2.2;have HQ:=hQ hq;have el:=xK wr _ e0;have hd0:(0:Int)≤(d:Int):=by omega
      have hd1:(d:Int)<(t.kids.length:Int):=by omega
      have hd2:(d:Int)+1≤1900000000001:=by omega
      have HW2:=hQ (show ∀ o,Below wo.heap.size wo (wr.alloc o) from fun o=>HBQ.out.trans (((xC wr.heap.size wr).alloc (xA _) o).mono HBQ.out.size));clear hv hq
      by_cases hy:v.text=y
      ·have d2:=Qjb hy;have HLR:=hQ (show Qaw ps M s=((k:Int),(d:Int),true) from HLK.out.trans (Qip HK.out HM.out HQ.out (HVX.out ▸ hy)));clear hy
       go_wp2
       refine bodyPost_ret (v:=.tuple #[.int .i64 k,.int .i64 d,.bool true]) (by simp [results,Tryz.results88,go_sem, *]) rfl ?_;rw [HLR.out];exact ⟨rfl,HBR.out.trans ((HW2.out _).mono HBR.out.size)⟩
      ·have d2:=Qjc hy;have HY:=hQ (Qfb HM.out HQ.out (show q.text≠y from HVX.out ▸ hy));clear hy
       go_wp2
       go_roundw
       case measure=>first | (simp [intOf];done) | (simp [intOf];omega)
       case rel=>exact ⟨d+1,by go_num,by omega,HY,HW2.out _⟩
     ·obtain rfl:d=t.kids.length:=by omega
      have HLR:=hQ (show Qaw ps M s=(0,0,false) from HLK.out.trans (Qiq HK.out HM.out))
      go_wp2
      try rw [Exit.noGoto_ret]
      go_ret3
      rw [HLR.out];exact ⟨rfl,HBR.out.trans (HBQ.out.mono HBR.out.size)⟩
   ·have d1:=Qjc hx;have HX:=hQ (Qfb HN.out HK.out (show t.text≠x from HTX.out ▸ hx));clear hx
    go_wp2
    go_roundw
    case measure=>first | (simp [intOf];done) | (simp [intOf];omega)
    case rel=>exact ⟨k+1,by go_num,by omega,HX,HW.out⟩
  ·obtain rfl:k=ps.length:=by omega
   have HV:=hQ (show Qaw ps M s=(0,0,false) from Qr8 HD.out (by rw [HDV.out];exact HN.out))
   go_wp2
   try rw [Exit.noGoto_ret]
   go_ret3
   rw [HV.out];exact ⟨rfl,HBR.out⟩
theorem Qqv (S:Nat→Prop) (A:Option Addr) (c:Nat) (ps:List Tr) (M:Nat) (s:ByteArray) (w:World) (hp:TrAt S w (Qap ps) ⟨0,⟨#[]⟩,none,0,0,A,ps.length,c⟩) (hf:Qe9 (Qap ps)=true) (hs:s.size≤maxLen) (hd:(Qfp s).2.2=false) :
  Calls Tryz.prog 88 #[.slice A ps.length c,.int .i64 M,.string s] w fun e w'=>e = .returned (.tuple #[.int .i64 (Qaw ps M s).1,.int .i64 (Qaw ps M s).2.1,.bool (Qaw ps M s).2.2])∧Below w.heap.size w w':=by
 have HP:=hQ hp;have HF:=hQ hf;have HD:=hQ hd;have hl:=(Qbo hf).2.1;have hl':ps.length≤1900000000000:=hl;clear hp hf hl;obtain ⟨x,y,z,hdv⟩:∃ x y z,Qfp s=(x,y,z):=⟨_,_,_,rfl⟩;obtain rfl:z=false:=by rw [hdv] at hd;exact hd
 have HDV:=hQ hdv;have HC:=hQ (show ∀ w,Calls Tryz.prog 136 #[.string s] w fun e w'=>e = .returned (.tuple #[.string x,.string y,.bool false])∧∃ n,w'=w.drewN n from fun w=>by have:=Qma s w hs;rw [hdv] at this;exact this);clear hd hdv hs
 go_enter Tryz.func88,Tryz.ntmps88
 go_wp2
 go_step3
 go_wp2_with (go_at_call 136;refine (HC.out _).mono ?_;rintro e w1 ⟨rfl,nq,rfl⟩)
 go_step3
 go_wp2
 go_loopw [24] (fun i wr=>∃ k:Nat,i = .int .i64 k∧k≤ps.length∧k≤M∧Below w.heap.size w wr) (fun i _=>ps.length-(intOf i).toNat)
 case atStart=>exact ⟨0,rfl,xZ _,xZ _,below_drewN (xC _ _) _⟩
 case round =>
  obtain ⟨k,rfl,hk,hn,hb⟩:=hrel;obtain ⟨wo,hwo⟩:∃ w',w'=wr:=⟨_,rfl⟩;subst hwo;have HN:=hQ hn;have HBR:=hQ hb;clear hb
  by_cases hlt:k<ps.length
  ·obtain ⟨t,ht⟩:∃ t,ps[k]? = some t:=⟨_,xF hlt⟩;obtain ⟨b,off,hka⟩:∃ b off,A=some ⟨b,off,none⟩:=HP.out.addr.resolve_left (by show ¬ ps.length=0;omega);subst hka;obtain ⟨u,c0,c1,c2,c3,hu⟩:=(HP.out.keep HBR.out).at rfl (show (Qap ps).kids[k]? = some t from ht);have HU:=hQ hu;have HTX:=hQ hu.kl.2.2.2;have HK:=hQ ht;have cl:=xK wo _ c0;have hk0:(0:Int)≤(k:Int):=by omega
   have hk1:(k:Int)<(ps.length:Int):=by omega
   have hk2:(k:Int)+1≤1900000000001:=by omega
   have HW:=hQ (HBR.out.trans (((xC wo.heap.size wo).alloc (xA _) (trO u)).mono HBR.out.size));clear hu ht
   by_cases hx:k=M
   ·have HX:=hQ hx;subst hx;have hl2:t.kids.length≤1900000000000:=(Qbo ((Qbo HF.out).2.2 k t HK.out)).2.1;have hkl:u.kl=t.kids.length:=HU.out.kl.1;have HLK:=hQ (show Qaw ps k s=Qea ps k y from by unfold Qaw;rw [HDV.out];rfl)
    go_wp2
    go_loopw [48] (fun i wq=>∃ d:Nat,i = .int .i64 d∧d≤t.kids.length∧Hid (Qio t.kids y d)∧Below wo.heap.size wo wq) (fun i _=>t.kids.length-(intOf i).toNat)
    case atStart=>exact ⟨0,rfl,xZ _,hQ fun j t hj=>absurd hj (by omega),(xC wo.heap.size wo).alloc (xA _) _⟩
    case round =>
     obtain ⟨d,rfl,hd,hm,hb⟩:=hrel;have HM:=hm;have HBQ:=hQ hb;clear hm hb
     by_cases hdl:d<t.kids.length
     ·obtain ⟨q,hq⟩:∃ q,t.kids[d]? = some q:=⟨_,xF hdl⟩;obtain ⟨b2,off2,hua⟩:∃ b off,u.ka=some ⟨b,off,none⟩:=HU.out.addr.resolve_left (by omega);obtain ⟨v,e0,e1,e2,e3,hv⟩:=(HU.out.keep HBQ.out).at hua hq;have HVX:=hQ hv.kl.2.2.2;have HQ:=hQ hq;have el:=xK wr _ e0;have hd0:(0:Int)≤(d:Int):=by omega
      have hd1:(d:Int)<(t.kids.length:Int):=by omega
      have hd2:(d:Int)+1≤1900000000001:=by omega
      have HW2:=hQ (show ∀ o,Below wo.heap.size wo (wr.alloc o) from fun o=>HBQ.out.trans (((xC wr.heap.size wr).alloc (xA _) o).mono HBQ.out.size));clear hv hq
      by_cases hy:v.text=y
      ·have d2:=Qjb hy;have HLR:=hQ (show Qaw ps k s=((k:Int),(d:Int),true) from HLK.out.trans (Qip HK.out HM.out HQ.out (HVX.out ▸ hy)));clear hy
       go_wp2
       refine bodyPost_ret (v:=.tuple #[.int .i64 k,.int .i64 d,.bool true]) (by simp [results,Tryz.results88,go_sem, *]) rfl ?_;rw [HLR.out];exact ⟨rfl,HBR.out.trans ((HW2.out _).mono HBR.out.size)⟩
      ·have d2:=Qjc hy;have HY:=hQ (Qfb HM.out HQ.out (show q.text≠y from HVX.out ▸ hy));clear hy
       go_wp2
       go_roundw
       case measure=>first | (simp [intOf];done) | (simp [intOf];omega)
       case rel=>exact ⟨d+1,by go_num,by omega,HY,HW2.out _⟩
     ·obtain rfl:d=t.kids.length:=by omega
      have HLR:=hQ (show Qaw ps k s=(0,0,false) from HLK.out.trans (Qiq HK.out HM.out))
      go_wp2
      try rw [Exit.noGoto_ret]
      go_ret3
      rw [HLR.out];exact ⟨rfl,HBR.out.trans (HBQ.out.mono HBR.out.size)⟩
   ·have HX:=hQ (show k+1≤M from by omega);have hxi:¬ (k:Int)=(M:Int):=by omega
    have q1:=Qcm hxi;have q2:((k:Int) != (M:Int))=true:=by rw [bne,q1];rfl
    have q3:(decide ((k:Int)=(M:Int)))=false:=xR hxi;clear hn
    go_wp2
    go_roundw
    case measure=>first | (simp [intOf];done) | (simp [intOf];omega)
    case rel=>exact ⟨k+1,by go_num,by omega,HX.out,HW.out⟩
  ·obtain rfl:k=ps.length:=by omega
   have HV:=hQ (show Qaw ps M s=(0,0,false) from by unfold Qaw;rw [HDV.out];exact Qwf HN.out)
   go_wp2
   try rw [Exit.noGoto_ret]
   go_ret3
   rw [HV.out];exact ⟨rfl,HBR.out⟩
end Go.Proofs.YtfjpemdejoejbaaGreat
namespace Go.Proofs.YtfjpemdejoejbaaGreat
open Go.RowKit Go.ChangeShapes Go.WideShapes Go.Deep
section
variable {H:Type} {enc:TypeId × Value→H} {w:World} {base:Nat} {spare:Nat→Bool} {held:Bool}
theorem Quy {fuel:Nat} {cs:List Value} {x:DataW H × List MemPlace} (h:DataW.trod enc Tryz.prog w base spare held fuel 22 cs=some x) :
  ∃ (A:Option Addr) (c:Nat) (ks:List Tr),cs = [.slice A ks.length c]∧TrAt (fun _=>True) w (Qap ks) ⟨0,⟨#[]⟩,none,0,0,A,ks.length,c⟩∧Ql8 (Qap ks)≤Rows.uptoBulk x.1:=by
 have kids:∃ (A:Option Addr) (c:Nat) (ks:List Tr),cs = [.slice A ks.length c]∧KidsIn (fun _=>True) w A ks∧ks.length≤c∧ks.length+Qqs ks+1≤Rows.uptoBulk x.1:=by
  rcases DataW.trod_slice Tryz.underlying22 h with ⟨hcs,hx⟩|⟨a,len,cap,elems,rest,m,hm1,hcs,hx,_,hl,hm,hlen,hel,_,_⟩
  ·exact ⟨none,0,[],hcs,fun h=>absurd rfl h,xA _,by rw [hx,Qqs];exact Qj8 _⟩
  ·rw [Qja] at hel
   obtain ⟨f,hf⟩:=choose_lt (α:=Tr × TV) (n:=len) (p:=fun i t=>w.cell? (a.add (i*4))=some (.int .i64 t.2.kind)∧w.cell? ((a.add (i*4)).add 1)=some (.string t.2.text)∧w.cell? ((a.add (i*4)).add 2)=some (.slice t.2.la t.2.ll t.2.lc)∧w.cell? ((a.add (i*4)).add 3)=some (.slice t.2.ka t.2.kl t.2.kc)∧TrAt (fun _=>True) w t.1 t.2∧∀ y,elems[i]? = some y→Ql8 t.1+1≤Rows.uptoBulk y.1) (fun i hlt=>by
    have h1:=hel i hlt;rw [xF (by omega)] at h1;obtain ⟨cs',hc,ht⟩:=Qkv h1;obtain ⟨t,v,ecs,htr,hcn⟩:=Qkw m ht;subst ecs;obtain ⟨_,_,hat⟩:=World.cells?_some hc
    refine ⟨(t,v),?_,hat 1 (by omega),hat 2 (by omega),hat 3 (by omega),htr,fun y hy=>?_⟩
    ·have:=hat 0 (by omega)
     rw [show (a.add (i*4)).add 0=a.add (i*4) from by unfold Addr.add;simp] at this;exact this
    ·rw [xF (by omega)] at hy;injection hy with hy;rw [←hy];exact hcn)
   refine ⟨some a,cap,(List.range len).map (fun i=>(f i).1),by rw [hcs];simp,fun hne=>?_,by rw [List.length_map,List.length_range];exact hl,?_⟩
   ·obtain ⟨b,off,spot⟩:=a
    have h0:0<len:=by
     rcases Nat.eq_zero_or_pos len with h | h
     ·subst h;exact absurd rfl hne
     ·exact h
    have hspot:spot=none:=by
     have:=World.cell?_spot (hf 0 h0).1
     simpa [Addr.add] using this
    subst hspot;refine ⟨b,off,rfl,trivial,TrsAt.of _ off fun i t ht=>?_⟩
    have hlt:i<len:=by
     obtain ⟨h1,_⟩:=xP.1 ht
     simpa using h1
    have et:t=(f i).1:=by
     rw [List.getElem?_map,List.getElem?_range hlt] at ht
     simpa using ht.symm
    subst et;obtain ⟨g0,g1,g2,g3,g4,_⟩:=hf i hlt;rw [Qf8] at g0 g1 g2 g3;rw [Qf8] at g1 g2 g3;exact ⟨(f i).2,g0,g1,g2,g3,g4⟩
   ·rw [hx];simp only [Rows.uptoBulk]
    have:=Qku ((List.range len).map (fun i=>(f i).1)) (elems.map (·.1)) (by simp [hlen]) (fun i k d hk hd=>by
     have hlt:i<len:=by
      obtain ⟨h1,_⟩:=xP.1 hk
      simpa using h1
     have ek:k=(f i).1:=by
      rw [List.getElem?_map,List.getElem?_range hlt] at hk
      simpa using hk.symm
     subst ek;rw [List.getElem?_map,xF (show i<elems.length by omega)] at hd;simp at hd
     subst hd;exact (hf i hlt).2.2.2.2.2 _ (xF (by omega)))
    omega
 obtain ⟨ka,kc,ks,e3,hks,hkc,hkb⟩:=kids;refine ⟨ka,kc,ks,e3,TrAt.make rfl rfl rfl rfl (fun h=>absurd rfl h) hks ⟨xA _,hkc⟩,?_⟩;unfold Qap;rw [Ql8,szB];have e:(⟨#[]⟩:ByteArray).size=0:=rfl;rw [e];simp only [xG];omega
end
end Go.Proofs.YtfjpemdejoejbaaGreat
