/- Part 21 -/
import Derived.Test.YtfjpemdejoejbaaGreatTp20
set_option maxRecDepth 100000
set_option maxHeartbeats 4000000
namespace Go.Proofs.YtfjpemdejoejbaaGreat
open Go.Proofs.Tryz Go.RowKit
def Qc1(ps:List Tr):Bool:=ps.all fun t=>decide (t.kind=1) && Qam t
def Qo6(ps:List Tr)(k:Nat):Prop:=∀ (j:Nat) (t:Tr),j<k->ps[j]? = some t->t.kind=1/\Qam t=true
theorem Qno{ps:List Tr}{k:Nat}{t:Tr}(h:Qo6 ps k)(ht:ps[k]? = some t)(hk:t.kind=1)(hs:Qam t=true):Qo6 ps (k+1):=fun j u hj hu=>by
 by_cases e:j=k
 ·subst e;rw[ht]at hu;injection hu with hu;rw[<-hu];exact⟨hk,hs⟩
 ·exact h j u (by omega) hu
theorem Qqo{ps:List Tr}(h:Qo6 ps ps.length):Qc1 ps=true:=by
 unfold Qc1;rw[List.all_eq_true];intro t ht;obtain⟨j,hj,he⟩:=List.getElem_of_mem ht;have:=h j t hj (by rw[xF hj,he])
 simp[this.1,this.2]
theorem Qi9{ps:List Tr}{k:Nat}{t:Tr}(ht:ps[k]? = some t)(h:¬ (t.kind=1/\Qam t=true)):Qc1 ps=false:=by
 cases e:Qc1 ps with
 | false=>rfl
 | true =>
  unfold Qc1 at e;rw[List.all_eq_true]at e;have:=e t (yA ht)
  simp at this
  exact absurd this h
theorem Qnp(S:Nat->Prop)(A:yE)(c:Nat)(ps:List Tr)(w:World)(hp:TrAt S w (Qa9 ps) ⟨0,⟨#[]⟩,none,0,0,A,ps.length,c⟩)(hf:Qbs (Qa9 ps)=true)(hw:Qbg (Qa9 ps)=true) :
  Calls prog 87 #[.slice A ps.length c] w fun e w'=>e = .returned (.bool (Qc1 ps))/\Below w.heap.size w w':=by
 have HP:=hQ hp;have HF:=hQ (Qcc hf).2.2;have HWD:=hQ (Qa7 hw).2.2;have hl:ps.length<=140737488355328:=(Qcc hf).2.1;clear hp hf hw;go_enter func87,ntmps87;go_wp2
 go_loopw [7] (fun i wr=>∃ k:Nat,i = .int .i64 k/\k<=ps.length/\Hid (Qo6 ps k)/\Below w.heap.size w wr) (fun i _=>ps.length-(intOf i).toNat)
 case atStart=>exact⟨0,rfl,xZ _,hQ fun j t hj=>absurd hj (by omega),xC _ _⟩
 case round =>
  obtain⟨k,rfl,hk,hn,hb⟩:=hrel;have HN:=hn;have HBR:=hQ hb;clear hn hb
  by_cases hlt:k<ps.length
  ·obtain⟨t,ht⟩:∃ t,ps[k]? = some t:=⟨_,xF hlt⟩;obtain⟨b,off,hka⟩:∃ b off,A=some ⟨b,off,none⟩:=HP.out.addr.resolve_left (by show ¬ ps.length=0;omega);subst hka;obtain⟨u,c0,c1,c2,c3,hu⟩:=(HP.out.keep HBR.out).at rfl (show(Qa9 ps).kids[k]? = some t from ht);have HU:=hQ hu;have HTX:=hQ hu.kl.2.2.1;have HK:=hQ ht;have cl:=xK wr _ c0;have hk0:(0:Int)<=(k:Int):=by omega
   have hk1:(k:Int)<(ps.length:Int):=by omega
   have hk2:(k:Int)+1<=1900000000000001:=by omega
   have HA:=hQ ((xC wr.heap.size wr).alloc (xA _) (trO u));have HC:=hQ (Qlk _ S t u (wr.alloc (trO u)) (xA _) (HU.out.keep HA.out) (HF.out k t HK.out) (HWD.out k t HK.out));clear hu ht;obtain⟨vk,vx,vla,vll,vlc,vka,vkl,vkc⟩:=u
   by_cases hx:vk=1
   ·subst hx;have HX:=hQ (show t.kind=1 from HTX.out.symm)
    by_cases hs:Qam t=true
    ·have HS:=hQ hs;rw[hs]at HC;clear hs;go_wp2_with (go_at_call 62;refine HC.out.mono ?_;rintro e w1⟨rfl,hb⟩;have HB1:=hQ (yC HA.out hb);clear hb)
     go_roundw
     case measure=>first | (simp[intOf];done) | (simp[intOf];omega)
     case rel=>exact⟨k+1,by go_num,by omega,hQ (Qno HN.out HK.out HX.out HS.out),yC HBR.out HB1.out⟩
    ·have hs':Qam t=false:=by simpa using hs
     have HV:=hQ (Qi9 HK.out (fun h=>hs h.2));rw[hs']at HC;clear hs hs';go_wp2_with (go_at_call 62;refine HC.out.mono ?_;rintro e w1⟨rfl,hb⟩;have HB1:=hQ (yC HA.out hb);clear hb)
     refine bodyPost_ret (v:=.bool false) (by simp[results,results87,go_sem, *]) rfl ?_;rw[HV.out];exact⟨rfl,yC HBR.out HB1.out⟩
   ·have q1:=Qcr hx;have HV:=hQ (Qi9 HK.out (fun h=>hx (HTX.out.trans h.1)));go_wp2;refine bodyPost_ret (v:=.bool false) (by simp[results,results87,go_sem, *]) rfl ?_;rw[HV.out];exact⟨rfl,yC HBR.out HA.out⟩
  ·obtain rfl:k=ps.length:=by omega
   have HV:=hQ (Qqo HN.out);go_wp2
   try rw[Exit.noGoto_ret]
   first | go_ret3 | go_ret
   rw[HV.out];exact⟨rfl,HBR.out⟩
theorem Qnq(S:Nat->Prop)(A:yE)(c:Nat)(ps:List Tr)(w:World)(hp:TrAt S w (Qa9 ps) ⟨0,⟨#[]⟩,none,0,0,A,ps.length,c⟩)(hf:Qbs (Qa9 ps)=true)(hz:∀ t∈ps,Qai t<=1000)(hw:Qbg (Qa9 ps)=true) :
  Calls prog 29 #[.slice A ps.length c] w fun e w'=>e = .returned (.bool (Qc1 ps))/\Below w.heap.size w w':=by
 have HP:=hQ hp;have HF:=hQ (Qcc hf).2.2;have HWD:=hQ (Qa7 hw).2.2;have hl:ps.length<=140737488355328:=(Qcc hf).2.1;have HZ:=hQ hz;clear hp hf hw hz;go_enter func29,ntmps29;go_wp2
 go_loopw [3] (fun i wr=>∃ k:Nat,i = .int .i64 k/\k<=ps.length/\Hid (Qo6 ps k)/\Below w.heap.size w wr) (fun i _=>ps.length-(intOf i).toNat)
 case atStart=>exact⟨0,rfl,xZ _,hQ fun j t hj=>absurd hj (by omega),xC _ _⟩
 case round =>
  obtain⟨k,rfl,hk,hn,hb⟩:=hrel;have HN:=hn;have HBR:=hQ hb;clear hn hb
  by_cases hlt:k<ps.length
  ·obtain⟨t,ht⟩:∃ t,ps[k]? = some t:=⟨_,xF hlt⟩;obtain⟨b,off,hka⟩:∃ b off,A=some ⟨b,off,none⟩:=HP.out.addr.resolve_left (by show ¬ ps.length=0;omega);subst hka;obtain⟨u,c0,c1,c2,c3,hu⟩:=(HP.out.keep HBR.out).at rfl (show(Qa9 ps).kids[k]? = some t from ht);have HU:=hQ hu;have HTX:=hQ hu.kl.2.2.1;have HK:=hQ ht;have cl:=xK wr _ c0;have hk0:(0:Int)<=(k:Int):=by omega
   have hk1:(k:Int)<(ps.length:Int):=by omega
   have hk2:(k:Int)+1<=1900000000000001:=by omega
   have HE:=hQ (Qce _ t (xA _) (HZ.out t (yA ht)));have HC:=hQ (fun w' (hb:Below wr.heap.size wr w')=>Qft _ S t u w' (xA _) (HU.out.keep hb) (HZ.out t (yA ht)) (HWD.out k t HK.out));clear hu ht;obtain⟨vk,vx,vla,vll,vlc,vka,vkl,vkc⟩:=u
   by_cases hx:vk=1
   ·subst hx;have HX:=hQ (show t.kind=1 from HTX.out.symm)
    by_cases hs:Qam t=true
    ·have HS:=hQ hs;rw[HE.out,hs]at HC;clear hs;go_wp2_with (go_at_call 31;refine(HC.out _ (xC _ _)).mono ?_;rintro e w1⟨rfl,hb⟩;have HB1:=hQ hb;clear hb)
     go_roundw
     case measure=>first | (simp[intOf];done) | (simp[intOf];omega)
     case rel=>exact⟨k+1,by go_num,by omega,hQ (Qno HN.out HK.out HX.out HS.out),yC HBR.out HB1.out⟩
    ·have hs':Qam t=false:=by simpa using hs
     have HV:=hQ (Qi9 HK.out (fun h=>hs h.2));rw[HE.out,hs']at HC;clear hs hs';go_wp2_with (go_at_call 31;refine(HC.out _ (xC _ _)).mono ?_;rintro e w1⟨rfl,hb⟩;have HB1:=hQ hb;clear hb)
     refine bodyPost_ret (v:=.bool false) (by simp[results,results29,go_sem, *]) rfl ?_;rw[HV.out];exact⟨rfl,yC HBR.out HB1.out⟩
   ·have q1:=Qcr hx;have HV:=hQ (Qi9 HK.out (fun h=>hx (HTX.out.trans h.1)));go_wp2;refine bodyPost_ret (v:=.bool false) (by simp[results,results29,go_sem, *]) rfl ?_;rw[HV.out];exact⟨rfl,HBR.out⟩
  ·obtain rfl:k=ps.length:=by omega
   have HV:=hQ (Qqo HN.out);go_wp2
   try rw[Exit.noGoto_ret]
   first | go_ret3 | go_ret
   rw[HV.out];exact⟨rfl,HBR.out⟩
abbrev Tgt:=List Int × Int × Int × Bool
def Zcu(ps:List Tr)(m:Nat)(t:Tr)(p:List Int):List Tgt:=if t.kind=16\/t.kind=9 then [(p,(Qbb ps m t.text).1,(Qbb ps m t.text).2.1,!(Qbb ps m t.text).2.2)] else []
mutual
def Zfb(ps:List Tr)(m:Nat):Tr->List Int->List Tgt
 | .mk k x ls ks,p=>Zcu ps m (.mk k x ls ks) p ++ Qnz ps m ks 0 p
def Qnz(ps:List Tr)(m:Nat):List Tr->Nat->List Int->List Tgt
 | [],_,_=>[]
 | t :: r,i,p=>Zfb ps m t (p ++ [(i:Int)]) ++ Qnz ps m r (i+1) p
end
theorem Qn0(ps:List Tr)(m:Nat)(t:Tr)(p:List Int):Zfb ps m t p=Zcu ps m t p ++ Qnz ps m t.kids 0 p:=by cases t;rw[Zfb];rfl
theorem Qsj(ps:List Tr)(m:Nat)(t:Tr)(p:List Int):(l:List Tr)->(i:Nat)->Qnz ps m (l ++ [t]) i p=Qnz ps m l i p ++ Zfb ps m t (p ++ [((i+l.length:Nat):Int)])
 | [],i=>by simp[Qnz]
 | a :: r,i=>by
  have h:=Qsj ps m t p r (i+1);rw[xV,Qnz,h,Qnz,xT,show i+1+r.length=i+(a :: r).length from by simp;omega]
theorem Zcv(ps:List Tr)(m:Nat)(l:List Tr)(p:List Int)(k:Nat)(t:Tr)(h:l[k]? = some t):Qnz ps m (l.take (k+1)) 0 p=Qnz ps m (l.take k) 0 p ++ Zfb ps m t (p ++ [(k:Int)]):=by
 have hk:k<l.length:=(xP.1 h).1;rw[List.take_add_one,h,Option.toList_some,Qsj,List.length_take,Nat.min_eq_left (Nat.le_of_lt hk),Nat.zero_add]
theorem Qv8(ps:List Tr)(m:Nat)(t:Tr)(p:List Int):(Zcu ps m t p).length<=1:=by unfold Zcu;split <;> simp
mutual
theorem Qv9(ps:List Tr)(m:Nat):(t:Tr)->(p:List Int)->(Zfb ps m t p).length<=Qai t
 | .mk k x ls ks,p=>by
  rw[Zfb,xB];have h1:=Qv8 ps m (.mk k x ls ks) p;have h2:=Qqt ps m ks 0 p;rw[Qai];omega
theorem Qqt(ps:List Tr)(m:Nat):(l:List Tr)->(i:Nat)->(p:List Int)->(Qnz ps m l i p).length<=Qal l
 | [],_,_=>by rw[Qnz,Qal];simp
 | t :: r,i,p=>by
  rw[Qnz,xB,Qal];have h1:=Qv9 ps m t (p ++ [(i:Int)]);have h2:=Qqt ps m r (i+1) p;omega
end
theorem Zcx{s:yD}(h:(Qg5 s).2.2=false):Qg5 s=(⟨#[]⟩,s,false)/\¬ Qqi s<s.size:=by
 by_cases e:Qqi s<s.size
 ·have:Qg5 s=(s.extract 0 (Qqi s),s.extract (Qqi s+1) s.size,true):=by unfold Qg5;rw[xO e]
  rw[this]at h;cases h
 ·exact⟨by unfold Qg5;rw[xN e],e⟩
theorem Zcy(S:Nat->Prop)(A:yE)(c:Nat)(ps:List Tr)(M:Nat)(s:yD)(w:World)(hp:TrAt S w (Qa9 ps) ⟨0,⟨#[]⟩,none,0,0,A,ps.length,c⟩)(hf:Qgm (Qa9 ps)=true)(hs:s.size<=maxLen)(hM:M<ps.length)(hd:(Qg5 s).2.2=false) :
  Calls prog 39 #[.slice A ps.length c,.int .i64 M,.string s] w fun e w'=>e = .returned (.tuple #[.int .i64 (Qbb ps M s).1,.int .i64 (Qbb ps M s).2.1,.bool (Qbb ps M s).2.2])/\Below w.heap.size w w':=by
 have HP:=hQ hp;have HF:=hQ hf;have hl:=(Qb2 hf).2.1;have hl':ps.length<=1900000000000:=hl;clear hp hf hl;have hdv:=Zcx hd;have hdot:Zha s = -1:=by unfold Zha;rw[xN hdv.2]
 have HC:=hQ (show ∀ w,Calls prog 65 #[.string s] w fun e w'=>e = .returned (.int .i64 (-1))/\∃ n,w'=w.drewN n from fun w=>by have:=Zcw s w hs;rw[hdot]at this;exact this);obtain⟨y,hy⟩:∃ y,y=s:=⟨_,rfl⟩;have HLK:=hQ (show Qbb ps M s=Qfa ps M y from by unfold Qbb;rw[hdv.1,hy];rfl);obtain⟨k,hkM⟩:∃ k,k=M:=⟨_,rfl⟩;subst hkM;obtain⟨t,ht⟩:∃ t,ps[k]? = some t:=⟨_,xF hM⟩;have HK:=hQ ht;obtain⟨b,off,hka⟩:∃ b off,A=some ⟨b,off,none⟩:=HP.out.addr.resolve_left (by show ¬ ps.length=0;omega);subst hka;obtain⟨u,c0,c1,c2,c3,hu⟩:=HP.out.at rfl (show(Qa9 ps).kids[k]? = some t from ht);have HU:=hQ hu;have HCELL:=hQ (fun(w':World) (hb:Below w.heap.size w w') (a:Addr) (v:Value) (h:w.cell? a=some v)=>(xJ (w:=w) (a:=a) (hb.block a.block (xK w _ h))).trans h);have hl2:t.kids.length<=1900000000000:=(Qb2 ((Qb2 HF.out).2.2 k t ht)).2.1;have hkl:u.kl=t.kids.length:=hu.kl.1;have hk0:(0:Int)<=(k:Int):=by omega
 have hk1:(k:Int)<(ps.length:Int):=by omega
 clear hu ht;subst hy;clear hd hs hdot hdv;go_enter func39,ntmps39;go_wp2_with (go_at_call 65;refine(HC.out _).mono ?_;rintro e w1⟨rfl,nq,rfl⟩)
 go_wp2
 go_loopw [11] (fun i wq=>∃ d:Nat,i = .int .i64 d/\d<=t.kids.length/\Hid (Qks t.kids y d)/\Below w.heap.size w wq) (fun i _=>t.kids.length-(intOf i).toNat)
 case atStart=>exact⟨0,rfl,xZ _,hQ fun j t hj=>absurd hj (by omega),below_drewN (xC _ _) _⟩
 case round =>
  obtain⟨d,rfl,hd,hm,hb⟩:=hrel;have HM:=hm;have HBQ:=hQ hb;clear hm hb;have cp1:=HCELL.out _ HBQ.out _ _ c1;have cp3:=HCELL.out _ HBQ.out _ _ c3
  by_cases hdl:d<t.kids.length
  ·obtain⟨q,hq⟩:∃ q,t.kids[d]? = some q:=⟨_,xF hdl⟩;obtain⟨b2,off2,hua⟩:∃ b off,u.ka=some ⟨b,off,none⟩:=HU.out.addr.resolve_left (by omega);obtain⟨v,e0,e1,e2,e3,hv⟩:=(HU.out.keep HBQ.out).at hua hq;have HVX:=hQ hv.kl.2.2.2;have HQ:=hQ hq;have el:=xK wr _ e0;have hd0:(0:Int)<=(d:Int):=by omega
   have hd1:(d:Int)<(t.kids.length:Int):=by omega
   have hd2:(d:Int)+1<=1900000000001:=by omega
   clear hv hq
   by_cases hy:v.text=y
   ·have d2:=Qlm hy;have HLR:=hQ (show Qbb ps k y=((k:Int),(d:Int),true) from HLK.out.trans (Qkt HK.out HM.out HQ.out (HVX.out ▸ hy)));clear hy;go_wp2;refine bodyPost_ret (v:=.tuple #[.int .i64 k,.int .i64 d,.bool true]) (by simp[results,results39,go_sem, *]) rfl ?_;rw[HLR.out];exact⟨rfl,HBQ.out⟩
   ·have d2:=Qln hy;have HY:=hQ (Qgn HM.out HQ.out (show q.text≠y from HVX.out ▸ hy));clear hy;go_wp2;go_roundw
    case measure=>first | (simp[intOf];done) | (simp[intOf];omega)
    case rel=>exact⟨d+1,by go_num,by omega,HY,HBQ.out⟩
  ·obtain rfl:d=t.kids.length:=by omega
   have HLR:=hQ (show Qbb ps k y=(0,0,false) from HLK.out.trans (Qku HK.out HM.out));go_wp2
   try rw[Exit.noGoto_ret]
   first | go_ret3 | go_ret | skip
   rw[HLR.out];exact⟨rfl,HBQ.out⟩
theorem Zcz{s:yD}(h:(Qg5 s).2.2=true):Qg5 s=(s.extract 0 (Qqi s),s.extract (Qqi s+1) s.size,true)/\Qqi s<s.size:=by
 by_cases e:Qqi s<s.size
 ·exact⟨by unfold Qg5;rw[xO e],e⟩
 ·have:Qg5 s=(⟨#[]⟩,s,false):=by unfold Qg5;rw[xN e]
  rw[this]at h;cases h
theorem Zhb(S:Nat->Prop)(A:yE)(c:Nat)(ps:List Tr)(m:Int)(M:Nat)(s:yD)(w:World)(hp:TrAt S w (Qa9 ps) ⟨0,⟨#[]⟩,none,0,0,A,ps.length,c⟩)(hf:Qgm (Qa9 ps)=true)(hs:s.size<=maxLen)(hd:(Qg5 s).2.2=true) :
  Calls prog 39 #[.slice A ps.length c,.int .i64 m,.string s] w fun e w'=>e = .returned (.tuple #[.int .i64 (Qbb ps M s).1,.int .i64 (Qbb ps M s).2.1,.bool (Qbb ps M s).2.2])/\Below w.heap.size w w':=by
 have HP:=hQ hp;have HF:=hQ hf;have HD:=hQ hd;have hl:=(Qb2 hf).2.1;have hl':ps.length<=1900000000000:=hl;clear hp hf hl;obtain⟨D,hD⟩:∃ D,D=Qqi s:=⟨_,rfl⟩;have hdv:=Zcz hd;rw[<-hD]at hdv;have hds:D<s.size:=hdv.2;have hs':s.size<=9223372036854775807:=by unfold maxLen at hs;omega
 have HC:=hQ (show ∀ w,Calls prog 65 #[.string s] w fun e w'=>e = .returned (.int .i64 (D:Int))/\∃ n,w'=w.drewN n from fun w=>by have:=Zcw s w hs;rw[show Zha s=(D:Int) from by unfold Zha;rw[<-hD,xO hds]]at this;exact this);obtain⟨x,hx⟩:∃ x,x=s.extract 0 D:=⟨_,rfl⟩;obtain⟨y,hy⟩:∃ y,y=s.extract (D+1) s.size:=⟨_,rfl⟩;have HX:=hQ hx;have HY:=hQ hy;have HDV:=hQ (show Qg5 s=(x,y,true) from by rw[hdv.1,hx,hy]);have hD1:(0:Int)<=(D:Int):=by omega
 have hD2:(D:Int)<(s.size:Int):=by omega
 have hD3:IntKind.i64.wrap ((D:Int)+1)=(D:Int)+1:=IntWalk.i64_in _ (by omega);clear hd hs hdv hD hx hy;go_enter func39,ntmps39;go_wp2_with (go_at_call 65;refine(HC.out _).mono ?_;rintro e w1⟨rfl,nq,rfl⟩)
 go_wp2
 go_loopw [10] (fun i wr=>∃ k n:Nat,i = .int .i64 k/\k<=ps.length/\Hid (Qks ps x k)/\wr=w.drewN n) (fun i _=>ps.length-(intOf i).toNat)
 case atStart=>exact⟨0,_,rfl,xZ _,hQ fun j t hj=>absurd hj (by omega),rfl⟩
 case round =>
  obtain⟨k,n,rfl,hk,hn,rfl⟩:=hrel;have HN:=hn;clear hn
  by_cases hlt:k<ps.length
  ·obtain⟨t,ht⟩:∃ t,ps[k]? = some t:=⟨_,xF hlt⟩;have HK:=hQ ht;obtain⟨b,off,hka⟩:∃ b off,A=some ⟨b,off,none⟩:=HP.out.addr.resolve_left (by show ¬ ps.length=0;omega);subst hka;obtain⟨u,c0,c1,c2,c3,hu⟩:=HP.out.at rfl (show(Qa9 ps).kids[k]? = some t from ht);have HU:=hQ hu;have HCELL:=hQ (fun(w':World) (hb:Below w.heap.size w w') (a:Addr) (v:Value) (h:w.cell? a=some v)=>(xJ (w:=w) (a:=a) (hb.block a.block (xK w _ h))).trans h);have hlk:k<ps.length:=hlt;have hl2:t.kids.length<=1900000000000:=(Qb2 ((Qb2 HF.out).2.2 k t ht)).2.1;have hkl:u.kl=t.kids.length:=hu.kl.1;have hk0:(0:Int)<=(k:Int):=by omega
   have hk1:(k:Int)<(ps.length:Int):=by omega
   clear hu ht;have HTX:=hQ HU.out.kl.2.2.2
   by_cases hx:u.text=x
   ·have d1:=Qlm hx;have HXT:=hQ (show t.text=x from HTX.out ▸ hx);have HLK:=hQ (show Qbb ps M s=Qfa ps k y from by have:=Qvr (m:=M) HD.out (by rw[HDV.out];exact HN.out) HK.out (by rw[HDV.out];exact HXT.out);rw[this,HDV.out]);rw[HX.out]at d1;clear hx;have hkne:¬ (k:Int)=(ps.length:Int):=by omega
    have hkn2:=Qcr hkne;go_wp2
    go_quiet (fail)
    go_wp2
    go_quiet (fail)
    rw[<-HY.out];clear d1 hkne hkn2 hD1 hD2 hD3;go_wp2
    go_loopw [11] (fun i wq=>∃ d:Nat,i = .int .i64 d/\d<=t.kids.length/\Hid (Qks t.kids y d)/\Below w.heap.size w wq) (fun i _=>t.kids.length-(intOf i).toNat)
    case atStart=>exact⟨0,rfl,xZ _,hQ fun j t hj=>absurd hj (by omega),below_drewN (below_drewN (xC _ _) _) _⟩
    case round =>
     obtain⟨d,rfl,hd,hm,hb⟩:=hrel;have HM:=hm;have HBQ:=hQ hb;clear hm hb;have cp1:=HCELL.out _ HBQ.out _ _ c1;have cp3:=HCELL.out _ HBQ.out _ _ c3
     by_cases hdl:d<t.kids.length
     ·obtain⟨q,hq⟩:∃ q,t.kids[d]? = some q:=⟨_,xF hdl⟩;obtain⟨b2,off2,hua⟩:∃ b off,u.ka=some ⟨b,off,none⟩:=HU.out.addr.resolve_left (by omega);obtain⟨v,e0,e1,e2,e3,hv⟩:=(HU.out.keep HBQ.out).at hua hq;have HVX:=hQ hv.kl.2.2.2;have HQ:=hQ hq;have el:=xK wr _ e0;have hd0:(0:Int)<=(d:Int):=by omega
      have hd1:(d:Int)<(t.kids.length:Int):=by omega
      have hd2:(d:Int)+1<=1900000000001:=by omega
      clear hv hq
      by_cases hy:v.text=y
      ·have d2:=Qlm hy;have HLR:=hQ (show Qbb ps M s=((k:Int),(d:Int),true) from HLK.out.trans (Qkt HK.out HM.out HQ.out (HVX.out ▸ hy)));clear hy;go_wp2;refine bodyPost_ret (v:=.tuple #[.int .i64 k,.int .i64 d,.bool true]) (by simp[results,results39,go_sem, *]) rfl ?_;rw[HLR.out];exact⟨rfl,HBQ.out⟩
      ·have d2:=Qln hy;have HY:=hQ (Qgn HM.out HQ.out (show q.text≠y from HVX.out ▸ hy));clear hy;go_wp2;go_roundw
       case measure=>first | (simp[intOf];done) | (simp[intOf];omega)
       case rel=>exact⟨d+1,by go_num,by omega,HY,HBQ.out⟩
     ·obtain rfl:d=t.kids.length:=by omega
      have HLR:=hQ (show Qbb ps M s=(0,0,false) from HLK.out.trans (Qku HK.out HM.out));go_wp2
      try rw[Exit.noGoto_ret]
      first | go_ret3 | go_ret | skip
      rw[HLR.out];exact⟨rfl,HBQ.out⟩
   ·have d1:=Qln hx;have HNX:=hQ (Qgn HN.out HK.out (show t.text≠x from HTX.out ▸ hx));rw[HX.out]at d1;clear hx;go_wp2
    go_quiet (fail)
    go_wp2;go_roundw
    case measure=>first | (simp[intOf];done) | (simp[intOf];omega)
    case rel=>exact⟨k+1,_,by go_num,by omega,HNX,rfl⟩
  ·obtain rfl:k=ps.length:=by omega
   have HV:=hQ (show Qbb ps M s=(0,0,false) from Qvs HD.out (by rw[HDV.out];exact HN.out));go_wp2
   first | go_quiet (fail) | skip
   go_wp2;refine bodyPost_ret (v:=.tuple #[.int .i64 0,.int .i64 0,.bool false]) (by simp[results,results39,go_sem, *]) rfl ?_;rw[HV.out];exact⟨rfl,below_drewN (xC _ _) _⟩
def Qfw(ps:List Tr)(m:Int)(s:yD):Int × Int × Bool:=if Qc1 ps=false\/m<0\/(ps.length:Int)<=m then (0,0,false) else Qbb ps m.toNat s
theorem Qpa(S:Nat->Prop)(A:yE)(c:Nat)(ps:List Tr)(M:Nat)(s:yD)(w:World)(hp:TrAt S w (Qa9 ps) ⟨0,⟨#[]⟩,none,0,0,A,ps.length,c⟩)(hf:Qgm (Qa9 ps)=true)(hs:s.size<=maxLen)(_hM:M<ps.length) :
  Calls prog 88 #[.slice A ps.length c,.int .i64 M,.string s] w fun e w'=>e = .returned (.tuple #[.int .i64 (Qbb ps M s).1,.int .i64 (Qbb ps M s).2.1,.bool (Qbb ps M s).2.2])/\Below w.heap.size w w':=by
 cases hd:(Qg5 s).2.2 with
 | true=>exact Qx6 S A c ps M M s w hp hf hs hd
 | false=>exact Qt7 S A c ps M s w hp hf hs hd
theorem Qwa(S:Nat->Prop)(A:yE)(c:Nat)(ps:List Tr)(M:Nat)(s:yD)(w:World)(hp:TrAt S w (Qa9 ps) ⟨0,⟨#[]⟩,none,0,0,A,ps.length,c⟩)(hf:Qgm (Qa9 ps)=true)(hs:s.size<=maxLen)(hM:M<ps.length) :
  Calls prog 39 #[.slice A ps.length c,.int .i64 M,.string s] w fun e w'=>e = .returned (.tuple #[.int .i64 (Qbb ps M s).1,.int .i64 (Qbb ps M s).2.1,.bool (Qbb ps M s).2.2])/\Below w.heap.size w w':=by
 cases hd:(Qg5 s).2.2 with
 | true=>exact Zhb S A c ps M M s w hp hf hs hd
 | false=>exact Zcy S A c ps M s w hp hf hs hM hd
theorem Qyr(S:Nat->Prop)(A:yE)(c:Nat)(ps:List Tr)(m:Int)(s:yD)(w:World)(hp:TrAt S w (Qa9 ps) ⟨0,⟨#[]⟩,none,0,0,A,ps.length,c⟩)(hf:Qgm (Qa9 ps)=true)(hsm:Qbs (Qa9 ps)=true)(hw:Qbg (Qa9 ps)=true)(hs:s.size<=maxLen) :
  Calls prog 56 #[.slice A ps.length c,.int .i64 m,.string s] w fun e w'=>e = .returned (.tuple #[.int .i64 (Qfw ps m s).1,.int .i64 (Qfw ps m s).2.1,.bool (Qfw ps m s).2.2])/\Below w.heap.size w w':=by
 have HC:=hQ (fun w' (hb:Below w.heap.size w w')=>Qnp S A c ps w' (hp.keep hb) hsm hw);have HM:=hQ (fun(M:Nat) (hM:M<ps.length) w' (hb:Below w.heap.size w w')=>Qpa S A c ps M s w' (hp.keep hb) hf hs hM);have hl:ps.length<=1900000000000:=(Qb2 hf).2.1;clear hp hf hsm hw hs;cases hg:Qc1 ps with
 | false =>
  have HV:=hQ (show Qfw ps m s=(0,0,false) from by unfold Qfw;rw[hg];simp);rw[hg]at HC;clear hg HM;go_enter func56,ntmps56;go_wp2_with (go_at_call 87;refine(HC.out _ (by first | exact xC _ _ | exact below_drewN (xC _ _) _)).mono ?_;rintro e w1⟨rfl,hb⟩;have HB1:=hQ hb;clear hb)
  refine bodyPost_ret (v:=.tuple #[.int .i64 0,.int .i64 0,.bool false]) (by simp[results,results56,go_sem, *]) rfl ?_;rw[HV.out];exact⟨rfl,HB1.out⟩
 | true =>
  rw[hg]at HC
  by_cases h0:m<0
  ·have HV:=hQ (show Qfw ps m s=(0,0,false) from by unfold Qfw;rw[xO (.inr (.inl h0))]);clear hg HM;go_enter func56,ntmps56;go_wp2_with (go_at_call 87;refine(HC.out _ (by first | exact xC _ _ | exact below_drewN (xC _ _) _)).mono ?_;rintro e w1⟨rfl,hb⟩;have HB1:=hQ hb;clear hb)
   refine bodyPost_ret (v:=.tuple #[.int .i64 0,.int .i64 0,.bool false]) (by simp[results,results56,go_sem, *]) rfl ?_;rw[HV.out];exact⟨rfl,HB1.out⟩
  ·by_cases h1:(ps.length:Int)<=m
   ·have HV:=hQ (show Qfw ps m s=(0,0,false) from by unfold Qfw;rw[xO (.inr (.inr h1))]);clear hg HM;go_enter func56,ntmps56;go_wp2_with (go_at_call 87;refine(HC.out _ (by first | exact xC _ _ | exact below_drewN (xC _ _) _)).mono ?_;rintro e w1⟨rfl,hb⟩;have HB1:=hQ hb;clear hb)
    refine bodyPost_ret (v:=.tuple #[.int .i64 0,.int .i64 0,.bool false]) (by simp[results,results56,go_sem, *]) rfl ?_;rw[HV.out];exact⟨rfl,HB1.out⟩
   ·obtain⟨M,rfl⟩:∃ M:Nat,m=(M:Int):=⟨m.toNat,by omega⟩;have HV:=hQ (show Qfw ps M s=Qbb ps M s from by unfold Qfw;rw[xN (by rw[hg];simp;omega)];rfl);have HI:=hQ (HM.out M (by omega));have hnn:(0:Int)<=(M:Int):=by omega
    have hlt:(M:Int)<(ps.length:Int):=by omega
    rw[HV.out];obtain⟨r0,hr0⟩:∃ r,r=Qbb ps M s:=⟨_,rfl⟩;rw[<-hr0]at HI |-;clear hg HM hr0 HV;go_enter func56,ntmps56;go_wp2_with (first | (go_at_call 87;refine(HC.out _ (by first | exact xC _ _ | exact below_drewN (xC _ _) _)).mono ?_;rintro e w1⟨rfl,hb⟩;have HB1:=hQ hb;clear hb) | (go_at_call 88;refine(HI.out _ HB1.out).mono ?_;rintro e w2⟨rfl,hb⟩;have HB2:=hQ hb;clear hb))
    refine bodyPost_ret (v:=.tuple #[.int .i64 r0.1,.int .i64 r0.2.1,.bool r0.2.2]) (by simp[results,results56,go_sem, *]) rfl ?_;exact⟨rfl,yC HB1.out HB2.out⟩
end Go.Proofs.YtfjpemdejoejbaaGreat
namespace Go.Proofs.YtfjpemdejoejbaaGreat
open Go.Proofs.Tryz Go.RowKit Go.Shelf
def Qk0(lv:Value)(a:Nat)(pv:Value)(b:Nat)(sv:Value)(c:Nat):Nat->Option Nat:=fun k=>if lv.ownBlock=some k then some a else if pv.ownBlock=some k then some b else if sv.ownBlock=some k then some c else none
def Qok(v v':Value):Prop:=∀ g,v.ownBlock=some g->v'.ownBlock≠some g
theorem Qys{w:World}{B B':Nat}{e e':TypeId}{s s':Nat}{v v':Value}{n n':Nat}{xs xs':List Value}(h:w.ownsRow B e s v n xs)(h':w.ownsRow B' e' s' v' n' xs')(hne:e≠e'):Qok v v':=fun g hg hg'=>by
 rcases h.2 with⟨rfl,_⟩|⟨a,cap,cur,rfl,_,hh,_⟩
 ·cases hg
 ·rcases h'.2 with⟨rfl,_⟩|⟨a',cap',cur',rfl,_,hh',_⟩
  ·cases hg'
  ·injection hg with hg;injection hg' with hg';have e1:a=g:=hg;have e2:a'=g:=hg';subst e1 e2;rw[hh]at hh';injection hh' with hh';injection hh' with _ h2;exact hne h2
theorem Qqu{lv pv sv:Value}{a b c k:Nat}(h:lv.ownBlock=some k):Qk0 lv a pv b sv c k=some a:=xO h
theorem Qup{lv pv sv:Value}{a b c k:Nat}(h:pv.ownBlock=some k)(hd:Qok lv pv):Qk0 lv a pv b sv c k=some b:=by
 unfold Qk0;rw[xN (fun e=>hd k e h),xO h]
theorem Zki{lv pv sv:Value}{a b c k:Nat}(h:sv.ownBlock=some k)(hd:Qok lv sv)(hd':Qok pv sv):Qk0 lv a pv b sv c k=some c:=by
 unfold Qk0;rw[xN (fun e=>hd k e h),xN (fun e=>hd' k e h),xO h]
theorem Qg8{lv pv sv:Value}{a b c k:Nat}(h1:lv.ownBlock≠some k)(h2:pv.ownBlock≠some k)(h3:sv.ownBlock≠some k):Qk0 lv a pv b sv c k=none:=by
 unfold Qk0;rw[xN h1,xN h2,xN h3]
theorem Qyt{w:World}{lv lv' pv pv' sv sv':Value}{a a' b b' c c':Nat}(hl:Later w lv lv')(hp:Later w pv pv')(hs:Later w sv sv')(ha:a<=a')(hb:b<=b')(hc:c<=c')
  (d1:Qok lv pv) (d2:Qok lv sv) (d3:Qok pv sv):Qja w.heap.size (Qk0 lv a pv b sv c) (Qk0 lv' a' pv' b' sv' c'):=fun k hk=>by
 by_cases h1:lv'.ownBlock=some k
 ·rcases hl k h1 with h | h
  ·exact .inr ⟨a,a',Qqu h,Qqu h1,ha⟩
  ·omega
 ·by_cases h2:pv'.ownBlock=some k
  ·rcases hp k h2 with h | h
   ·exact .inr ⟨b,b',Qup h d1,by unfold Qk0;rw[xN h1,xO h2],hb⟩
   ·omega
  ·by_cases h3:sv'.ownBlock=some k
   ·rcases hs k h3 with h | h
    ·exact .inr ⟨c,c',Zki h d2 d3,by unfold Qk0;rw[xN h1,xN h2,xO h3],hc⟩
    ·omega
   ·exact .inl (Qg8 h1 h2 h3)
theorem Later.refl(w:World)(v:Value):Later w v v:=fun _ h=>.inl h
theorem Later.trans{w w':World}{a b c:Value}(h:Later w a b)(h':Later w' b c)(hs:w.heap.size<=w'.heap.size):Later w a c:=fun g hg=>by
 rcases h' g hg with h1 | h1
 ·exact h g h1
 ·exact .inr (xQ hs h1)
theorem Zl5{lv pv sv:Value}{a b c N:Nat}(d1:Qok lv pv):Qja N (Qk0 lv a pv b sv c) (pre pv b):=fun k _=>by
 by_cases h:pv.ownBlock=some k
 ·exact .inr ⟨b,b,Qup h d1,Qmt h,xA _⟩
 ·exact .inl (Qch h)
theorem Zl6{lv pv sv:Value}{a b c N:Nat}:Qja N (Qk0 lv a pv b sv c) (pre lv a):=fun k _=>by
 by_cases h:lv.ownBlock=some k
 ·exact .inr ⟨a,a,Qqu h,Qmt h,xA _⟩
 ·exact .inl (Qch h)
section
variable {B:Nat} {w w':World} {lv pv sv:Value} {ws:List (Value × Value × Bool)} {p:List Int} {us:List (yD × Value)}
theorem Qk1(N:Nat)(P:Nat->Option Nat):Qja N P P:=fun k _=>by
 cases h:P k with
 | none=>exact .inl rfl
 | some n=>exact .inr ⟨n,n,rfl,rfl,xA _⟩
end
theorem Qhv{w:World}{B:Nat}{e:TypeId}{s:Nat}{v:Value}{n:Nat}{xs:List Value}(h:w.ownsRow B e s v n xs):∃ A c,v = .slice A n c:=by
 rcases h.2 with⟨rfl,rfl⟩|⟨g,cap,cur,rfl,_⟩
 ·exact⟨_,_,rfl⟩
 ·exact⟨_,_,rfl⟩
theorem Qe8(w:World)(o:Obj):Below w.heap.size w (w.alloc o):=(xC w.heap.size w).alloc (xA _) o
theorem Qlt{w:World}{v:Value}{g n c:Nat}(h:v.ownBlock=some g\/w.heap.size<=g):Later w v (.slice (some ⟨g,0,none⟩) n c):=fun k hk=>by
 injection hk with hk;have e:g=k:=hk;subst e;exact h
theorem IRow.intsAt{w:World}{B n c:Nat}{A:yE}{p:List Int}(h:IRow w B (.slice A n c) p):Ql9 w A p:=h.ints.2
theorem IRow.app{w:World}{B:Nat}{v:Value}{p:List Int}{P:Nat->Option Nat}{w':World}(h:IRow w B v p)(hk:Keeps P w w')(hp:∀ g,B<=g->g<w.heap.size->P g=none):IRow w' B v p :=
 hk.row h fun g hg=>.inl (hp g (h.lt g hg).1 (h.lt g hg).2)
theorem Qwb:(l:List Tr)->(j:Nat)->(k:Tr)->l[j]? = some k->Qai k+l.length<=Qal l+1
 | [],_,_,h=>by simp at h
 | a :: r,0,k,h=>by
  injection h with h;subst h;have:=Qa0 r
  rw[Qal,xD];omega
 | a :: r,j+1,k,h=>by
  have ih:=Qwb r j k h;have:=Qa5 a
  rw[Qal,xD];omega
theorem Qsk{t k:Tr}{j:Nat}(h:t.kids[j]? = some k):Qai k+t.kids.length<=Qai t:=by
 have h1:=Qwb _ _ _ h;have h2:=Qa5 t;omega
theorem Qsl{w:World}{B:Nat}{v:Value}{p:List Int}{q:Int}(h:w.ownsRow B 3 1 v (p.length+1) (p.map (Value.int .i64) ++ [.int .i64 q])):IRow w B v (p ++ [q]):=by
 unfold IRow;rw[xB,List.length_singleton,List.map_append];exact h
theorem Qg9{w:World}{B:Nat}{e:TypeId}{s:Nat}{v:Value}{n:Nat}{xs:List Value}(h:w.ownsRow B e s v n xs){g:Nat}{cur:Array Value}{ty:TypeId}{fr:Nat × Nat}(hg:w.heap[g]? = some (.cells cur ty fr))(ht:ty≠e):v.ownBlock≠some g:=fun k=>by
 rcases h.2 with⟨rfl,_⟩|⟨g',cap,cur',rfl,_,hh,_⟩
 ·cases k
 ·injection k with k;have k':g'=g:=k;subst k';rw[hg]at hh;injection hh with hh;injection hh with _ h2;exact ht h2
theorem Qlu{w:World}{B:Nat}{v:Value}{p:List Int}{g:Nat}(h:IRow w B v p)(hg:v.ownBlock=some g):∃ cur,w.heap[g]? = some (.cells cur 3 (0,0)):=by
 rcases h.2 with⟨rfl,_⟩|⟨g',cap,cur,rfl,_,hh,_⟩
 ·cases hg
 ·injection hg with hg;have e:g'=g:=hg;subst e;exact⟨cur,hh⟩
theorem Zhc:(prog.info? 103).map (fun i=>(i.zero,i.size,i.bytes))=some (some (.agg #[.int .i64 0,.slice none 0 0,.int .i64 0,.int .i64 0,.bool false]),5,56):=by kernel_rfl
abbrev TgV:=Int × Value × Int × Int × Bool
abbrev Tgm:=Int × Tgt
def tgC(u:TgV):List Value:=[.int .i64 u.1,u.2.1,.int .i64 u.2.2.1,.int .i64 u.2.2.2.1,.bool u.2.2.2.2]
def Qfm(ws:List TgV):List Value:=ws.flatMap tgC
theorem Qqv(a b:List TgV):Qfm (a ++ b)=Qfm a ++ Qfm b:=by unfold Qfm;rw[List.flatMap_append]
def TRow(w:World)(B:Nat)(v:Value)(ws:List TgV):Prop:=w.ownsRow B 103 5 v ws.length (Qfm ws)
def Zkj(w:World)(lo:Nat)(y:TgV)(z:Tgm):Prop:=y.1=z.1/\IRow w lo y.2.1 z.2.1/\y.2.2=z.2.2
def TarsAt(w:World)(lo:Nat)(ws:List TgV)(zs:List Tgm):Prop:=ws.length=zs.length/\∀ (j:Nat) (y:TgV) (z:Tgm),ws[j]? = some y->zs[j]? = some z->Zkj w lo y z
theorem TarsAt.nil(w:World)(lo:Nat):TarsAt w lo [] []:=⟨rfl,fun j y z h=>by simp at h⟩
theorem TarsAt.app{w:World}{lo:Nat}{a b:List TgV}{c d:List Tgm}(h:TarsAt w lo a c)(k:TarsAt w lo b d):TarsAt w lo (a ++ b) (c ++ d):=by
 refine⟨by rw[xB,xB,h.1,k.1],fun j y z hy hz=>?_⟩
 by_cases hj:j<a.length
 ·rw[yB hj]at hy;rw[yB (by rw[<-h.1];exact hj)]at hz;exact h.2 j y z hy hz
 ·rw[xX (by omega)]at hy;rw[xX (by rw[<-h.1];omega),<-h.1]at hz;exact k.2 _ y z hy hz
theorem TarsAt.one{w:World}{lo:Nat}{y:TgV}{z:Tgm}(h:Zkj w lo y z):TarsAt w lo [y] [z]:=by
 refine⟨rfl,fun j y' z' hy hz=>?_⟩
 match j,hy,hz with
 | 0,hy,hz =>
  injection hy with hy;injection hz with hz;subst hy hz;exact h
theorem TarsAt.step{w w':World}{lo lo':Nat}{ws:List TgV}{vs:List Tgm}(h:TarsAt w lo ws vs)(hk:∀ v p,IRow w lo v p->IRow w' lo' v p):TarsAt w' lo' ws vs :=
 ⟨h.1,fun j y z hy hz=>⟨(h.2 j y z hy hz).1,hk _ _ (h.2 j y z hy hz).2.1,(h.2 j y z hy hz).2.2⟩⟩
theorem Qsm(v:Value):Qok v (.slice none 0 0):=fun _ _ h=>by cases h
structure HandT (B:Nat) (w:World) (lv:Value) (ws:List TgV) (pv:Value) (p:List Int):Prop where
 hl:TRow w B lv ws
 hp:IRow w B pv p
 hb:B<=w.heap.size
abbrev Qj4(lv:Value)(a:Nat)(pv:Value)(b:Nat):Nat->Option Nat:=Qk0 lv a pv b (.slice none 0 0) 0
section
variable {B:Nat} {w w':World} {lv pv:Value} {ws:List TgV} {p:List Int}
theorem HandT.apart(h:HandT B w lv ws pv p):Qok lv pv:=Qys h.hl h.hp (by decide)
theorem HandT.keep(h:HandT B w lv ws pv p)(hk:Keeps (Qj4 lv (ws.length*5) pv p.length) w w'):HandT B w' lv ws pv p :=
 ⟨hk.row h.hl (fun _ hk=>.inr ⟨_,Qqu hk,xA _⟩),hk.row h.hp (fun _ hk=>.inr ⟨_,Qup hk h.apart,by omega⟩),xQ h.hb hk.size⟩
theorem HandT.later(h:HandT B w lv ws pv p)(hb:Below w.heap.size w w'):HandT B w' lv ws pv p:=h.keep (Keeps.of_below hb)
theorem HandT.path(h:HandT B w lv ws pv p){pv':Value}{q:Int}(hk:Keeps (pre pv (p.length*1)) w w')(hp:IRow w' B pv' (p ++ [q])) :
  HandT B w' lv ws pv' (p ++ [q])/\Keeps (Qj4 lv (ws.length*5) pv p.length) w w':=by
 have hK:Keeps (Qj4 lv (ws.length*5) pv p.length) w w':=by
  refine(Keeps.refl _ w).trans hk ?_;rw[Nat.mul_one];exact Zl5 h.apart
 exact⟨⟨(h.keep hK).hl,hp,(h.keep hK).hb⟩,hK⟩
theorem Qih{a b k:Nat}{v:TV}(h:HandT B w lv ws pv p)(hk:w.heap[k]? = some (trO v)):Qj4 lv a pv b k=none :=
 Qg8 (Qg9 h.hl hk (by decide)) (Qg9 h.hp hk (by decide)) (by intro h;cases h)
theorem Qii{a b k:Nat}{cur:Array Value}(h:HandT B w lv ws pv p)(hk:w.heap[k]? = some (.cells cur 101 (0,0))):Qj4 lv a pv b k=none :=
 Qg8 (Qg9 h.hl hk (by decide)) (Qg9 h.hp hk (by decide)) (by intro h;cases h)
theorem Qhw{a b k:Nat}(h:HandT B w lv ws pv p)(hk:k<B):Qj4 lv a pv b k=none :=
 Qg8 (fun e=>by have:=(h.hl.lt k e).1;omega) (fun e=>by have:=(h.hp.lt k e).1;omega) (by intro h;cases h)
theorem Qk2{a b k:Nat}(h:HandT B w lv ws pv p)(hk:w.heap.size<=k):Qj4 lv a pv b k=none :=
 Qg8 (fun e=>by have:=(h.hl.lt k e).2;omega) (fun e=>by have:=(h.hp.lt k e).2;omega) (by intro h;cases h)
theorem Qjb{lv' pv':Value}{a a' b b':Nat}(h:HandT B w lv ws pv p)(hl:Later w lv lv')(hp:Later w pv pv')(ha:a<=a')(hb:b<=b'):Qja w.heap.size (Qj4 lv a pv b) (Qj4 lv' a' pv' b') :=
 Qyt hl hp (Later.refl _ _) ha hb (xA _) h.apart (Qsm _) (Qsm _)
end
def Qwc(ps:List Tr)(m:Nat)(t:Tr)(p:List Int):List Tgm:=(Zfb ps m t p).map fun z=>((m:Int),z)
def Qzq(ps:List Tr)(m:Nat)(t:Tr)(p:List Int):List Tgm:=(Zcu ps m t p).map fun z=>((m:Int),z)
def Zc0(ps:List Tr)(m:Nat)(l:List Tr)(p:List Int):List Tgm:=(Qnz ps m l 0 p).map fun z=>((m:Int),z)
theorem Zc1(ps:List Tr)(m:Nat)(t:Tr)(p:List Int):Qwc ps m t p=Qzq ps m t p ++ Zc0 ps m t.kids p:=by unfold Qwc Qzq Zc0;rw[Qn0,List.map_append]
theorem Qsn{ps:List Tr}{m:Nat}{l:List Tr}{p:List Int}{k:Nat}{t:Tr}(h:l[k]? = some t):Zc0 ps m (l.take (k+1)) p=Zc0 ps m (l.take k) p ++ Qwc ps m t (p ++ [(k:Int)]):=by unfold Zc0 Qwc;rw[Zcv ps m l p k t h,List.map_append]
theorem Zkk{ps:List Tr}{m:Nat}{t:Tr}{p:List Int}(h:¬ (t.kind=16\/t.kind=9)):Qzq ps m t p = []:=by unfold Qzq Zcu;rw[xN h];rfl
theorem Zhd{ps:List Tr}{m:Nat}{t:Tr}{p:List Int}(h:t.kind=16\/t.kind=9):Qzq ps m t p = [((m:Int),p,(Qbb ps m t.text).1,(Qbb ps m t.text).2.1,!(Qbb ps m t.text).2.2)]:=by unfold Qzq Zcu;rw[xO h];rfl
theorem Qwd(ps:List Tr)(m:Nat)(t:Tr)(p:List Int):(Qzq ps m t p).length<=1:=by unfold Qzq;rw[List.length_map];exact Qv8 ps m t p
theorem Qwe(ps:List Tr)(m:Nat)(l:List Tr)(p:List Int):(Zc0 ps m l p).length<=Qal l:=by unfold Zc0;rw[List.length_map];exact Qqt ps m l 0 p
def Znc(B:Nat)(lv:Value)(ws:List TgV)(pv:Value)(p:List Int)(ps:List Tr)(m:Nat)(t:Tr)(w:World)(e:Ending)(w':World):Prop :=
 ∃ v' vs',e = .returned v'/\TRow w' B v' (ws ++ vs')/\TarsAt w' w.heap.size vs' (Qwc ps m t p)/\Keeps (Qj4 lv (ws.length*5) pv p.length) w w'/\Later w lv v'
def Zl7(B:Nat)(lv:Value)(ws:List TgV)(pv:Value)(p:List Int)(zs:List Tgm)(w0:World)(l:Value)(wr:World):Prop :=
 ∃ vs',TRow wr B l (ws ++ vs')/\TarsAt wr w0.heap.size vs' zs/\Keeps (Qj4 lv (ws.length*5) pv p.length) w0 wr/\Later w0 lv l
theorem Zkl{B:Nat}{lv v' pv:Value}{ws:List TgV}{p:List Int}{w w2 w3:World}{y:TgV}{z:Tgm}{o:Obj}
  (hh:HandT B w lv ws pv p) (hb:Below w.heap.size w w2) (hv:Zkj w2 w.heap.size y z) (hown:w3.ownsRow B 103 5 v' (ws.length+1) (Qfm ws ++ tgC y)) (hk:Keeps (pre lv (ws.length*5)) (w2.alloc o) w3)
  (hl:Later (w2.alloc o) lv v'):Zl7 B lv ws pv p [z] w v' w3:=by
 have hb3:=hb.trans ((Qe8 w2 o).mono hb.size)
 refine⟨[y],?_,?_,(Keeps.of_below hb3).trans hk Zl6,fun g hg=>(hl g hg).imp id fun h=>xQ hb3.size h⟩
 ·unfold TRow;rw[xB,Qqv];exact(show Qfm ws ++ tgC y=Qfm ws ++ Qfm [y] from by simp[Qfm]) ▸ hown
 ·refine(TarsAt.one hv).step fun v q h=>?_
  exact(h.keep (Qe8 w2 o)).app hk fun g hg _=>Qch fun e=>by
   have:=(hh.hl.lt g e).2
   omega
end Go.Proofs.YtfjpemdejoejbaaGreat
