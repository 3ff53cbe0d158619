/- Part 15 -/
import Derived.Test.YtfjpemdejoejbaaGreatTp14
import Derived.ChangeSlices
import Derived.ProofKit
import Derived.Deep.Slices
set_option maxRecDepth 100000
set_option maxHeartbeats 4000000
namespace Go.Proofs.YtfjpemdejoejbaaGreat
open Go.Proofs.Tryz Go.RowKit Go.ChangeShapes Go.WideShapes
def Ql9(w:World)(A:yE)(zs:List Int):Prop:=zs≠[]->∃ b off,A=some ⟨b,off,none⟩/\b<w.heap.size/\∀ (i:Nat) (x:Int),zs[i]? = some x->w.cell? ⟨b,off+i,none⟩=some (.int .i64 x)
section
variable {H:Type} {enc:TypeId × Value->H} {w:World} {base:Nat} {spare:Nat->Bool} {held:Bool}
theorem Qxz:prog.cellsOf 3=1:=by kernel_rfl
theorem Qx0{fuel:Nat}{cs:List Value}{x:DataW H × List MemPlace}(h:DataW.trod enc prog w base spare held fuel 35 cs=some x) :
  ∃ (A:yE) (c:Nat) (zs:List Int),cs = [.slice A zs.length c]/\Ql9 w A zs/\zs.length<=maxLen/\zs.length<=c/\∀ z∈zs,(Lit.int .i64 z).wf=true:=by
 rcases open_ints underlying35 underlying3 Qxz h with⟨hcs,_⟩|⟨a,len,cap,zs,hcs,_,hl,hm,hz,_,hc,hwf⟩
 ·exact⟨none,0,[],hcs,fun h=>absurd rfl h,xZ _,xZ _,fun z h=>by simp at h⟩
 ·have hlz:len<=zs.length:=by rw[hz];split <;> omega
  have hlen:(zs.take len).length=len:=by rw[List.length_take];omega
  refine⟨some a,cap,zs.take len,by rw[hlen];exact hcs,fun hne=>?_,by rw[hlen];omega,by rw[hlen];exact hl,fun z hz=>hwf z (List.mem_of_mem_take hz)⟩
  have h0:0<len:=by
   rcases Nat.eq_zero_or_pos len with h | h
   ·subst h;exact absurd rfl hne
   ·exact h
  obtain⟨b,off,spot⟩:=a
  have hspot:spot=none:=by
   have:=World.cell?_spot (hc 0 (by omega))
   simpa [Addr.add] using this
  subst hspot;have hadd:∀ n:Nat,((⟨b,off,none⟩:Addr).add n)=⟨b,off+n,none⟩:=fun n=>by unfold Addr.add;split <;> simp_all
  refine⟨b,off,rfl,?_,fun i x hx=>?_⟩
  ·have:=hc 0 (by omega)
   rw[hadd]at this;exact xK w _ this
  ·have hi:=(xP.1 hx).1;rw[hlen]at hi;have:=hc i (by omega)
   rw[hadd]at this;rw[this];rw[List.getElem?_take_of_lt hi]at hx;rw[List.getD_eq_getElem?_getD,hx];rfl
end
end Go.Proofs.YtfjpemdejoejbaaGreat
namespace Go.Proofs.YtfjpemdejoejbaaGreat
open Go.Proofs.Tryz Go.RowKit
def Zjn(w:World)(b o:Nat)(y:TV):Prop:=w.cell? ⟨b,o,none⟩=some (.int .i64 y.kind)/\w.cell? ⟨b,o+1,none⟩=some (.string y.text)/\w.cell? ⟨b,o+2,none⟩=some (.slice y.la y.ll y.lc)/\w.cell? ⟨b,o+3,none⟩=some (.slice y.ka y.kl y.kc)
theorem Qkq{α:Type}{l:List α}{j:Nat}{x:α}(h:l[j]? = some x):l.drop j=x :: l.drop (j+1):=by
 obtain⟨hj,he⟩:=xP.1 h;rw[List.drop_eq_getElem_cons hj,he]
end Go.Proofs.YtfjpemdejoejbaaGreat
namespace Go.Proofs.YtfjpemdejoejbaaGreat
open Go.Proofs.Tryz Go.RowKit Go.Shelf
theorem mixed:prog.follows Departure.mixedOrders=true:=by kernel_rfl
def Qc6:List yD->List yD->Bool
 | [],[]=>true
 | a :: r,b :: s=>(a.toList==b.toList) && Qc6 r s
 | _,_=>false
mutual
def Qg1:Tr->Tr->Bool
 | .mk k x ls ks,.mk k' x' ls' ks'=>(k==k') && (x.toList==x'.toList) && Qc6 ls ls' && Qf4 ks ks'
def Qf4:List Tr->List Tr->Bool
 | [],[]=>true
 | a :: r,b :: s=>Qg1 a b && Qf4 r s
 | _,_=>false
end
theorem Qkr(a b:Tr):Qg1 a b=((a.kind==b.kind) && (a.text.toList==b.text.toList) && Qc6 a.leads b.leads && Qf4 a.kids b.kids):=by
 cases a;cases b;rw[Qg1];rfl
theorem Qne:(a b:List yD)->a.length≠b.length->Qc6 a b=false
 | [],[],h=>absurd rfl h
 | [],_ :: _,_=>rfl
 | _ :: _,[],_=>rfl
 | a :: r,b :: s,h=>by
  unfold Qc6;rw[Qne r s (by simpa using h),Bool.and_false]
theorem Qrv:(a b:List Tr)->a.length≠b.length->Qf4 a b=false
 | [],[],h=>absurd rfl h
 | [],_ :: _,_=>by unfold Qf4;rfl
 | _ :: _,[],_=>by unfold Qf4;rfl
 | a :: r,b :: s,h=>by
  rw[Qf4,Qrv r s (by simpa using h),Bool.and_false]
theorem Zaz:Qf4 [] [] = true:=by rw[Qf4]
theorem Qrw(a b:yD)(r s:List yD):Qc6 (a :: r) (b :: s)=((a.toList==b.toList) && Qc6 r s):=rfl
theorem Qx1(a b:Tr)(r s:List Tr):Qf4 (a :: r) (b :: s)=(Qg1 a b && Qf4 r s):=by rw[Qf4]
theorem StrsAt.at{S:Nat->Prop}{w:World}{A:yE}{l:List yD}(h:StrsAt S w A l){j:Nat}(hj:j<l.length):∃ b off,A=some ⟨b,off,none⟩/\∀ (i:Nat) (x:yD),l[i]? = some x->w.cell? ⟨b,off+i,none⟩=some (.string x):=by
 obtain⟨b,off,hA,_,hc⟩:=h (fun e=>by rw[e]at hj;simp at hj);exact⟨b,off,hA,hc⟩
theorem StrsAt.keep{S:Nat->Prop}{w w':World}{A:yE}{l:List yD}(h:StrsAt S w A l)(hb:Below w.heap.size w w'):StrsAt S w' A l:=h.move (fun _ h=>h) (fun k _ hlt=>hb.block k hlt)
def Zjo(a b:List yD)(w:World)(i:Value)(wr:World):Prop:=∃ j:Nat,i = .int .i64 j/\j<=a.length/\Qc6 a b=Qc6 (a.drop j) (b.drop j)/\Below w.heap.size w wr
theorem Qll(S S':Nat->Prop)(A B:yE)(ca cb:Nat)(a b:List yD)(w:World)(ha:StrsAt S w A a)(hb:StrsAt S' w B b)(hm:a.length<=140737488355328) :
  Calls prog 33 #[.slice A a.length ca,.slice B b.length cb] w fun e w'=>e = .returned (.bool (Qc6 a b))/\Below w.heap.size w w':=by
 have HA:=hQ ha;have HB:=hQ hb;clear ha hb
 by_cases hl:a.length=b.length
 ·have hne:((a.length:Int) != (b.length:Int))=false:=by rw[hl];simp
  go_enter func33,ntmps33;go_wp2
  go_loopw [5] (fun i wr=>Zjo a b w i wr) (fun i _=>a.length-(intOf i).toNat)
  case atStart=>exact⟨0,rfl,xZ _,rfl,xC _ _⟩
  case round =>
   obtain⟨j,rfl,hj,hf,hbr⟩:=hrel;have HF:=hQ hf;have HBR:=hQ hbr;clear hf hbr
   by_cases hlt:j<a.length
   ·obtain⟨x,hx⟩:∃ x,a[j]? = some x:=⟨_,xF hlt⟩;obtain⟨y,hy⟩:∃ y,b[j]? = some y:=⟨_,xF (by omega)⟩;obtain⟨xb,xo,rfl,hxc⟩:=(HA.out.keep HBR.out).at hlt;obtain⟨yb,yo,rfl,hyc⟩:=(HB.out.keep HBR.out).at (j:=j) (by omega);have c0:=hxc j x hx;have d0:=hyc j y hy;have HD:=hQ (show Qc6 a b=((x.toList==y.toList) && Qc6 (a.drop (j+1)) (b.drop (j+1))) from by rw[HF.out,Qkq hx,Qkq hy,Qrw]);have hjb:(j:Int)<(b.length:Int):=by omega
    have hja:(j:Int)<(a.length:Int):=by omega
    have hj0:(0:Int)<=(j:Int):=by omega
    clear hxc hyc hx hy
    cases hxy:(x.toList==y.toList)
    ·have HR:=hQ (show Qc6 a b=false from by rw[HD.out,hxy,Bool.false_and]);go_wp2_with fail
     first | go_region_o | go_region
     all_goals
      go_simp;go_wp2;go_ret;exact⟨by rw[HR.out];rfl,HBR.out.drew⟩
    ·have HR:=hQ (show Qc6 a b=Qc6 (a.drop (j+1)) (b.drop (j+1)) from by rw[HD.out,hxy,Bool.true_and]);go_wp2_with fail
     first | go_region_o | go_region
     all_goals
      go_wp2;go_roundw
      case measure=>simp[intOf];omega
      case rel=>exact⟨j+1,by go_num,by omega,HR.out,HBR.out.drew⟩
   ·have HR:=hQ (show Qc6 a b=true from by rw[HF.out,List.drop_eq_nil_of_le (by omega),List.drop_eq_nil_of_le (by omega)];rfl);go_wp2;go_ret;exact⟨by rw[HR.out];rfl,HBR.out⟩
 ·have hne:((a.length:Int) != (b.length:Int))=true:=by simp;omega
  have HR:=hQ (Qne a b hl);go_enter func33,ntmps33;go_wp2;go_ret;exact⟨by rw[HR.out];rfl,xC _ _⟩
def KidsIn(S:Nat->Prop)(w:World)(A:yE)(l:List Tr):Prop:=l≠[]->∃ b off,A=some ⟨b,off,none⟩/\S b/\TrsAt S w b off l
theorem TrAt.kidsIn{S:Nat->Prop}{w:World}{t:Tr}{v:TV}(h:TrAt S w t v):KidsIn S w v.ka t.kids:=by
 cases t with
 | mk k x ls ks =>
  unfold TrAt at h;exact h.2.2.2.2.2.1
theorem TrAt.strsIn{S:Nat->Prop}{w:World}{t:Tr}{v:TV}(h:TrAt S w t v):StrsAt S w v.la t.leads:=by
 cases t with
 | mk k x ls ks =>
  unfold TrAt at h;exact h.2.2.2.2.1
theorem KidsIn.at{S:Nat->Prop}{w:World}{A:yE}{l:List Tr}(h:KidsIn S w A l){j:Nat}{k:Tr}(hk:l[j]? = some k):∃ b off,A=some ⟨b,off,none⟩/\∃ u:TV,w.cell? ⟨b,off+j*4,none⟩=some (.int .i64 u.kind)/\w.cell? ⟨b,off+j*4+1,none⟩=some (.string u.text)/\w.cell? ⟨b,off+j*4+2,none⟩=some (.slice u.la u.ll u.lc)/\w.cell? ⟨b,off+j*4+3,none⟩=some (.slice u.ka u.kl u.kc)/\TrAt S w k u:=by
 obtain⟨b,off,hA,hS,ht⟩:=h (fun e=>by rw[e]at hk;simp at hk);exact⟨b,off,hA,TrsAt.get l off ht j k hk⟩
def Qx2(f:Nat)(N:Nat):Prop:=∀ (S S':Nat->Prop) (a b:Tr) (u v:TV) (w:World),SizeOf.sizeOf a<=N->TrAt S w a u->TrAt S' w b v->Qbs a=true ->
  Calls prog f #[.agg #[.int .i64 u.kind,.string u.text,.slice u.la u.ll u.lc,.slice u.ka u.kl u.kc],.agg #[.int .i64 v.kind,.string v.text,.slice v.la v.ll v.lc,.slice v.ka v.kl v.kc]] w fun e w'=>e = .returned (.bool (Qg1 a b))/\Below w.heap.size w w'
def EqAt(a b:List Tr)(w:World)(i:Value)(wr:World):Prop:=∃ j:Nat,i = .int .i64 j/\j<=a.length/\Qf4 a b=Qf4 (a.drop j) (b.drop j)/\Below w.heap.size w wr
theorem Zjp{N:Nat}(ih:Qx2 10 N)(S S':Nat->Prop)(a b:Tr)(u v:TV)(w:World)(hN:SizeOf.sizeOf a<=N+1)(ha:TrAt S w a u)(hb:TrAt S' w b v)(hs:Qbs a=true)(hq:(u.kind==v.kind)=false) :
  Calls prog 10 #[.agg #[.int .i64 u.kind,.string u.text,.slice u.la u.ll u.lc,.slice u.ka u.kl u.kc],.agg #[.int .i64 v.kind,.string v.text,.slice v.la v.ll v.lc,.slice v.ka v.kl v.kc]] w fun e w'=>e = .returned (.bool (Qg1 a b))/\Below w.heap.size w w':=by
  have HIH:=hQ ih;have HXQ:=hQ hq;obtain⟨ua,ub,uk,ux⟩:=ha.kl;obtain⟨va,vb,vk,vx⟩:=hb.kl;have hba:Below w.heap.size w ((w.alloc (trO u)).alloc (trO v)):=((xC _ _).alloc (xA _) _).alloc (by rw[xI];omega) _;have HBA:=hQ hba;have HTA:=hQ (ha.keep hba);have HTB:=hQ (hb.keep hba);have hX:((w.alloc (trO u)).alloc (trO v)).heap[w.heap.size]? = some (trO u):=(((xC (w.alloc (trO u)).heap.size (w.alloc (trO u))).alloc (xA _) (trO v)).block w.heap.size (by simp)).trans (xH w (trO u));have hY:((w.alloc (trO u)).alloc (trO v)).heap[w.heap.size+1]? = some (trO v):=by rw[<-xI w (trO u)];exact xH _ _
  have HX:=hQ hX;have HY:=hQ hY;obtain⟨hl1,hl2,hl3⟩:=Qcc hs;have HL1:=hQ hl1;have HL2:=hQ hl2
  have HNK:=hQ (show ∀ k∈a.kids,SizeOf.sizeOf k<=N/\Qbs k=true from fun k hk=>by
   obtain⟨j,hj⟩:=List.getElem?_of_mem hk;exact⟨by have:=Qar hj;omega,hl3 j k hj⟩)
  have HE:=hQ (Qkr a b);rw[<-uk,<-vk,<-ux,<-vx]at HE;clear HXQ;obtain⟨uk',ux',ula,ull,ulc,uka,ukl,ukc⟩:=u;obtain⟨vk',vx',vla,vll,vlc,vka,vkl,vkc⟩:=v;simp only at ua ub va vb HE;subst ua ub va vb;have a0:=Qab hX 0 _ rfl;have a1:=Qab hX 1 _ rfl;have a2:=Qab hX 2 _ rfl;have a3:=Qab hX 3 _ rfl;have b0:=Qab hY 0 _ rfl;have b1:=Qab hY 1 _ rfl;have b2:=Qab hY 2 _ rfl;have b3:=Qab hY 3 _ rfl;clear ha hb hs hba hX hY hl1 hl2 hl3 ih uk vk ux vx hN;simp only at hq;have hk:=hq;have hk':(uk' != vk')=true:=by simp[bne,hk]
  have HR:=hQ (show Qg1 a b=false from by rw[HE.out,hk];rfl);go_enter func10,ntmps10;go_wp2;go_ret;exact⟨by rw[HR.out];rfl,HBA.out⟩
theorem Zjq{N:Nat}(ih:Qx2 10 N)(S S':Nat->Prop)(a b:Tr)(u v:TV)(w:World)(hN:SizeOf.sizeOf a<=N+1)(ha:TrAt S w a u)(hb:TrAt S' w b v)(hs:Qbs a=true)(hq:(u.kind==v.kind)=true/\(u.text.toList==v.text.toList)=false) :
  Calls prog 10 #[.agg #[.int .i64 u.kind,.string u.text,.slice u.la u.ll u.lc,.slice u.ka u.kl u.kc],.agg #[.int .i64 v.kind,.string v.text,.slice v.la v.ll v.lc,.slice v.ka v.kl v.kc]] w fun e w'=>e = .returned (.bool (Qg1 a b))/\Below w.heap.size w w':=by
  have HIH:=hQ ih;have HXQ:=hQ hq;obtain⟨ua,ub,uk,ux⟩:=ha.kl;obtain⟨va,vb,vk,vx⟩:=hb.kl;have hba:Below w.heap.size w ((w.alloc (trO u)).alloc (trO v)):=((xC _ _).alloc (xA _) _).alloc (by rw[xI];omega) _;have HBA:=hQ hba;have HTA:=hQ (ha.keep hba);have HTB:=hQ (hb.keep hba);have hX:((w.alloc (trO u)).alloc (trO v)).heap[w.heap.size]? = some (trO u):=(((xC (w.alloc (trO u)).heap.size (w.alloc (trO u))).alloc (xA _) (trO v)).block w.heap.size (by simp)).trans (xH w (trO u));have hY:((w.alloc (trO u)).alloc (trO v)).heap[w.heap.size+1]? = some (trO v):=by rw[<-xI w (trO u)];exact xH _ _
  have HX:=hQ hX;have HY:=hQ hY;obtain⟨hl1,hl2,hl3⟩:=Qcc hs;have HL1:=hQ hl1;have HL2:=hQ hl2
  have HNK:=hQ (show ∀ k∈a.kids,SizeOf.sizeOf k<=N/\Qbs k=true from fun k hk=>by
   obtain⟨j,hj⟩:=List.getElem?_of_mem hk;exact⟨by have:=Qar hj;omega,hl3 j k hj⟩)
  have HE:=hQ (Qkr a b);rw[<-uk,<-vk,<-ux,<-vx]at HE;clear HXQ;obtain⟨uk',ux',ula,ull,ulc,uka,ukl,ukc⟩:=u;obtain⟨vk',vx',vla,vll,vlc,vka,vkl,vkc⟩:=v;simp only at ua ub va vb HE;subst ua ub va vb;have a0:=Qab hX 0 _ rfl;have a1:=Qab hX 1 _ rfl;have a2:=Qab hX 2 _ rfl;have a3:=Qab hX 3 _ rfl;have b0:=Qab hY 0 _ rfl;have b1:=Qab hY 1 _ rfl;have b2:=Qab hY 2 _ rfl;have b3:=Qab hY 3 _ rfl;clear ha hb hs hba hX hY hl1 hl2 hl3 ih uk vk ux vx hN;simp only at hq;obtain⟨hk,hx⟩:=hq;have hk':(uk' != vk')=false:=by simp[bne,hk]
  have HR:=hQ (show Qg1 a b=false from by rw[HE.out,hx,Bool.and_false];rfl);go_enter func10,ntmps10;go_wp2;go_ret;exact⟨by rw[HR.out];rfl,HBA.out⟩
theorem Zjr{N:Nat}(ih:Qx2 10 N)(S S':Nat->Prop)(a b:Tr)(u v:TV)(w:World)(hN:SizeOf.sizeOf a<=N+1)(ha:TrAt S w a u)(hb:TrAt S' w b v)(hs:Qbs a=true)(hq:(u.kind==v.kind)=true/\(u.text.toList==v.text.toList)=true/\Qc6 a.leads b.leads=false) :
  Calls prog 10 #[.agg #[.int .i64 u.kind,.string u.text,.slice u.la u.ll u.lc,.slice u.ka u.kl u.kc],.agg #[.int .i64 v.kind,.string v.text,.slice v.la v.ll v.lc,.slice v.ka v.kl v.kc]] w fun e w'=>e = .returned (.bool (Qg1 a b))/\Below w.heap.size w w':=by
  have HIH:=hQ ih;have HXQ:=hQ hq;obtain⟨ua,ub,uk,ux⟩:=ha.kl;obtain⟨va,vb,vk,vx⟩:=hb.kl;have hba:Below w.heap.size w ((w.alloc (trO u)).alloc (trO v)):=((xC _ _).alloc (xA _) _).alloc (by rw[xI];omega) _;have HBA:=hQ hba;have HTA:=hQ (ha.keep hba);have HTB:=hQ (hb.keep hba);have hX:((w.alloc (trO u)).alloc (trO v)).heap[w.heap.size]? = some (trO u):=(((xC (w.alloc (trO u)).heap.size (w.alloc (trO u))).alloc (xA _) (trO v)).block w.heap.size (by simp)).trans (xH w (trO u));have hY:((w.alloc (trO u)).alloc (trO v)).heap[w.heap.size+1]? = some (trO v):=by rw[<-xI w (trO u)];exact xH _ _
  have HX:=hQ hX;have HY:=hQ hY;obtain⟨hl1,hl2,hl3⟩:=Qcc hs;have HL1:=hQ hl1;have HL2:=hQ hl2
  have HNK:=hQ (show ∀ k∈a.kids,SizeOf.sizeOf k<=N/\Qbs k=true from fun k hk=>by
   obtain⟨j,hj⟩:=List.getElem?_of_mem hk;exact⟨by have:=Qar hj;omega,hl3 j k hj⟩)
  have HE:=hQ (Qkr a b);rw[<-uk,<-vk,<-ux,<-vx]at HE;clear HXQ;obtain⟨uk',ux',ula,ull,ulc,uka,ukl,ukc⟩:=u;obtain⟨vk',vx',vla,vll,vlc,vka,vkl,vkc⟩:=v;simp only at ua ub va vb HE;subst ua ub va vb;have a0:=Qab hX 0 _ rfl;have a1:=Qab hX 1 _ rfl;have a2:=Qab hX 2 _ rfl;have a3:=Qab hX 3 _ rfl;have b0:=Qab hY 0 _ rfl;have b1:=Qab hY 1 _ rfl;have b2:=Qab hY 2 _ rfl;have b3:=Qab hY 3 _ rfl;clear ha hb hs hba hX hY hl1 hl2 hl3 ih uk vk ux vx hN;simp only at hq;obtain⟨hk,hx,ht⟩:=hq;have hk':(uk' != vk')=false:=by simp[bne,hk]
  have HR:=hQ (show Qg1 a b=false from by rw[HE.out,ht,Bool.and_false];rfl);go_enter func10,ntmps10;go_wp2_with (go_at_call 33;refine(Qll _ _ _ _ _ _ _ _ _ HTA.out.strsIn HTB.out.strsIn HL1.out).mono ?_;rw[ht];rintro e w2⟨rfl,hb2⟩;have HB2:=hQ (yC HBA.out hb2);clear hb2)
  go_ret;exact⟨by rw[HR.out];rfl,HB2.out⟩
theorem Zjs{N:Nat}(ih:Qx2 10 N)(S S':Nat->Prop)(a b:Tr)(u v:TV)(w:World)(hN:SizeOf.sizeOf a<=N+1)(ha:TrAt S w a u)(hb:TrAt S' w b v)(hs:Qbs a=true)(hq:(u.kind==v.kind)=true/\(u.text.toList==v.text.toList)=true/\Qc6 a.leads b.leads=true/\a.kids.length≠b.kids.length) :
  Calls prog 10 #[.agg #[.int .i64 u.kind,.string u.text,.slice u.la u.ll u.lc,.slice u.ka u.kl u.kc],.agg #[.int .i64 v.kind,.string v.text,.slice v.la v.ll v.lc,.slice v.ka v.kl v.kc]] w fun e w'=>e = .returned (.bool (Qg1 a b))/\Below w.heap.size w w':=by
  have HIH:=hQ ih;have HXQ:=hQ hq;obtain⟨ua,ub,uk,ux⟩:=ha.kl;obtain⟨va,vb,vk,vx⟩:=hb.kl;have hba:Below w.heap.size w ((w.alloc (trO u)).alloc (trO v)):=((xC _ _).alloc (xA _) _).alloc (by rw[xI];omega) _;have HBA:=hQ hba;have HTA:=hQ (ha.keep hba);have HTB:=hQ (hb.keep hba);have hX:((w.alloc (trO u)).alloc (trO v)).heap[w.heap.size]? = some (trO u):=(((xC (w.alloc (trO u)).heap.size (w.alloc (trO u))).alloc (xA _) (trO v)).block w.heap.size (by simp)).trans (xH w (trO u));have hY:((w.alloc (trO u)).alloc (trO v)).heap[w.heap.size+1]? = some (trO v):=by rw[<-xI w (trO u)];exact xH _ _
  have HX:=hQ hX;have HY:=hQ hY;obtain⟨hl1,hl2,hl3⟩:=Qcc hs;have HL1:=hQ hl1;have HL2:=hQ hl2
  have HNK:=hQ (show ∀ k∈a.kids,SizeOf.sizeOf k<=N/\Qbs k=true from fun k hk=>by
   obtain⟨j,hj⟩:=List.getElem?_of_mem hk;exact⟨by have:=Qar hj;omega,hl3 j k hj⟩)
  have HE:=hQ (Qkr a b);rw[<-uk,<-vk,<-ux,<-vx]at HE;clear HXQ;obtain⟨uk',ux',ula,ull,ulc,uka,ukl,ukc⟩:=u;obtain⟨vk',vx',vla,vll,vlc,vka,vkl,vkc⟩:=v;simp only at ua ub va vb HE;subst ua ub va vb;have a0:=Qab hX 0 _ rfl;have a1:=Qab hX 1 _ rfl;have a2:=Qab hX 2 _ rfl;have a3:=Qab hX 3 _ rfl;have b0:=Qab hY 0 _ rfl;have b1:=Qab hY 1 _ rfl;have b2:=Qab hY 2 _ rfl;have b3:=Qab hY 3 _ rfl;clear ha hb hs hba hX hY hl1 hl2 hl3 ih uk vk ux vx hN;simp only at hq;obtain⟨hk,hx,ht,hl⟩:=hq;have hk':(uk' != vk')=false:=by simp[bne,hk]
  have HRR:=hQ (show Qg1 a b=Qf4 a.kids b.kids from by rw[HE.out,hk,hx,ht];rfl);have hne:((a.kids.length:Int) != (b.kids.length:Int))=true:=by simp;omega
  have HR:=hQ (Qrv a.kids b.kids hl);go_enter func10,ntmps10;go_wp2_with (go_at_call 33;refine(Qll _ _ _ _ _ _ _ _ _ HTA.out.strsIn HTB.out.strsIn HL1.out).mono ?_;rw[ht];rintro e w2⟨rfl,hb2⟩;have HB2:=hQ (yC HBA.out hb2);have HX2:=hQ ((hb2.block w.heap.size (Qaa HX.out)).trans HX.out);have HY2:=hQ ((hb2.block (w.heap.size+1) (Qaa HY.out)).trans HY.out);clear hb2 a0 a1 a2 a3 b0 b1 b2 b3;have a3:=Qab HX2.out 3 _ rfl;have b3:=Qab HY2.out 3 _ rfl;have alt:=Qaa HX2.out;have blt:=Qaa HY2.out)
  go_ret;exact⟨by rw[HRR.out,HR.out];rfl,HB2.out⟩
theorem Zjt{N:Nat}(ih:Qx2 10 N)(S S':Nat->Prop)(a b:Tr)(u v:TV)(w:World)(hN:SizeOf.sizeOf a<=N+1)(ha:TrAt S w a u)(hb:TrAt S' w b v)(hs:Qbs a=true)(hq:(u.kind==v.kind)=true/\(u.text.toList==v.text.toList)=true/\Qc6 a.leads b.leads=true/\a.kids.length=b.kids.length) :
  Calls prog 10 #[.agg #[.int .i64 u.kind,.string u.text,.slice u.la u.ll u.lc,.slice u.ka u.kl u.kc],.agg #[.int .i64 v.kind,.string v.text,.slice v.la v.ll v.lc,.slice v.ka v.kl v.kc]] w fun e w'=>e = .returned (.bool (Qg1 a b))/\Below w.heap.size w w':=by
  have HIH:=hQ ih;have HXQ:=hQ hq;obtain⟨ua,ub,uk,ux⟩:=ha.kl;obtain⟨va,vb,vk,vx⟩:=hb.kl;have hba:Below w.heap.size w ((w.alloc (trO u)).alloc (trO v)):=((xC _ _).alloc (xA _) _).alloc (by rw[xI];omega) _;have HBA:=hQ hba;have HTA:=hQ (ha.keep hba);have HTB:=hQ (hb.keep hba);have hX:((w.alloc (trO u)).alloc (trO v)).heap[w.heap.size]? = some (trO u):=(((xC (w.alloc (trO u)).heap.size (w.alloc (trO u))).alloc (xA _) (trO v)).block w.heap.size (by simp)).trans (xH w (trO u));have hY:((w.alloc (trO u)).alloc (trO v)).heap[w.heap.size+1]? = some (trO v):=by rw[<-xI w (trO u)];exact xH _ _
  have HX:=hQ hX;have HY:=hQ hY;obtain⟨hl1,hl2,hl3⟩:=Qcc hs;have HL1:=hQ hl1;have HL2:=hQ hl2
  have HNK:=hQ (show ∀ k∈a.kids,SizeOf.sizeOf k<=N/\Qbs k=true from fun k hk=>by
   obtain⟨j,hj⟩:=List.getElem?_of_mem hk;exact⟨by have:=Qar hj;omega,hl3 j k hj⟩)
  have HE:=hQ (Qkr a b);rw[<-uk,<-vk,<-ux,<-vx]at HE;clear HXQ;obtain⟨uk',ux',ula,ull,ulc,uka,ukl,ukc⟩:=u;obtain⟨vk',vx',vla,vll,vlc,vka,vkl,vkc⟩:=v;simp only at ua ub va vb HE;subst ua ub va vb;have a0:=Qab hX 0 _ rfl;have a1:=Qab hX 1 _ rfl;have a2:=Qab hX 2 _ rfl;have a3:=Qab hX 3 _ rfl;have b0:=Qab hY 0 _ rfl;have b1:=Qab hY 1 _ rfl;have b2:=Qab hY 2 _ rfl;have b3:=Qab hY 3 _ rfl;clear ha hb hs hba hX hY hl1 hl2 hl3 ih uk vk ux vx hN;simp only at hq;obtain⟨hk,hx,ht,hl⟩:=hq;have hk':(uk' != vk')=false:=by simp[bne,hk]
  have HRR:=hQ (show Qg1 a b=Qf4 a.kids b.kids from by rw[HE.out,hk,hx,ht];rfl);have hne:((a.kids.length:Int) != (b.kids.length:Int))=false:=by rw[hl];simp
  have HLN:=hQ hl;clear hl;go_enter func10,ntmps10;go_wp2_with fail;go_at_call 33;refine(Qll _ _ _ _ _ _ _ _ _ HTA.out.strsIn HTB.out.strsIn HL1.out).mono ?_;rw[ht];rintro e w2⟨rfl,hb2⟩;have HB2:=hQ (yC HBA.out hb2);have HTA2:=hQ (HTA.out.keep hb2);have HTB2:=hQ (HTB.out.keep hb2);have HX2:=hQ ((hb2.block w.heap.size (Qaa HX.out)).trans HX.out);have HY2:=hQ ((hb2.block (w.heap.size+1) (Qaa HY.out)).trans HY.out);clear hb2 a0 a1 a2 a3 b0 b1 b2 b3;have a3:=Qab HX2.out 3 _ rfl;have b3:=Qab HY2.out 3 _ rfl;have alt:=Qaa HX2.out;have blt:=Qaa HY2.out;go_wp2;clear a3 b3 alt blt
  go_loopw [5] (fun i wr=>EqAt a.kids b.kids w2 i wr) (fun i _=>a.kids.length-(intOf i).toNat)
  case atStart=>exact⟨0,rfl,xZ _,rfl,xC _ _⟩
  case round =>
   obtain⟨j,rfl,hj,hf,hbr⟩:=hrel;have HF:=hQ hf;have HBR:=hQ hbr;have hX3:=(hbr.block w.heap.size (Qaa HX2.out)).trans HX2.out;have hY3:=(hbr.block (w.heap.size+1) (Qaa HY2.out)).trans HY2.out;have a3:=Qab hX3 3 _ rfl;have b3:=Qab hY3 3 _ rfl;have alt:=Qaa hX3;have blt:=Qaa hY3;clear hf hbr hX3 hY3
   by_cases hlt:j<a.kids.length
   ·obtain⟨x,hxj⟩:∃ x,a.kids[j]? = some x:=⟨_,xF hlt⟩;obtain⟨y,hy⟩:∃ y,b.kids[j]? = some y:=⟨_,xF (by have:=HLN.out;omega)⟩;obtain⟨xb,xo,rfl,u,c0,c1,c2,c3,hu⟩:=(HTA2.out.keep HBR.out).kidsIn.at hxj;obtain⟨yb,yo,rfl,v,d0,d1,d2,d3,hv⟩:=(HTB2.out.keep HBR.out).kidsIn.at hy;have cbl:xb<wr.heap.size:=xK wr _ c3;have dbl:yb<wr.heap.size:=xK wr _ d3;obtain⟨hn1,hn2⟩:=HNK.out x (yA hxj);have HN1:=hQ hn1;have HN2:=hQ hn2;have HU:=hQ hu;have HV:=hQ hv;have HD:=hQ (show Qf4 a.kids b.kids=(Qg1 x y && Qf4 (a.kids.drop (j+1)) (b.kids.drop (j+1))) from by rw[HF.out,Qkq hxj,Qkq hy,Qx1]);have hjb:(j:Int)<(b.kids.length:Int):=by have:=HLN.out;omega
    have hja:(j:Int)<(a.kids.length:Int):=by omega
    have hj0:(0:Int)<=(j:Int):=by omega
    have HW:=hQ (show wrap64 ((j:Int)+1)=(j:Int)+1 from by have:=HL2.out;unfold wrap64;omega);clear hxj hy hu hv hn1 hn2 hk hx ht;have HJ1:=hQ (show j+1<=a.kids.length from by omega)
    cases hxy:Qg1 x y
    ·have HR:=hQ (show Qf4 a.kids b.kids=false from by rw[HD.out,hxy,Bool.false_and]);go_wp2_with fail
     go_still_tail 10,(by kernel_rfl)
     change wpList _ _ _ _ _ wr.drew
     have HBD:=hQ (show Below wr.heap.size wr wr.drew from(xC _ _).drew);clear c0 c1 c2 c3 d0 d1 d2 d3 a3 b3 alt blt cbl dbl hja hjb hj0;generalize wr.drew=wd at HBD |-
     repeat (first | go_values | go_skip | go_guarded | go_step | go_upon)
     go_at_call 10;refine(HIH.out S S' x y u v _ HN1.out (HU.out.keep HBD.out) (HV.out.keep HBD.out) HN2.out).mono ?_;rw[hxy];rintro e w4⟨rfl,hb4⟩;have HB4:=hQ (HBR.out.trans ((yC HBD.out hb4).mono HBR.out.size));clear hb4;dsimp only
     go_step
     go_step
     go_step
     go_step
     go_step
     go_step
     go_step
     go_wp2;go_ret;exact⟨by rw[HRR.out,HR.out];rfl,yC HB2.out HB4.out⟩
    ·have HR:=hQ (show Qf4 a.kids b.kids=Qf4 (a.kids.drop (j+1)) (b.kids.drop (j+1)) from by rw[HD.out,hxy,Bool.true_and]);go_wp2_with fail
     go_still_tail 10,(by kernel_rfl)
     change wpList _ _ _ _ _ wr.drew
     have HBD:=hQ (show Below wr.heap.size wr wr.drew from(xC _ _).drew);clear c0 c1 c2 c3 d0 d1 d2 d3 a3 b3 alt blt cbl dbl hja hjb hj0;generalize wr.drew=wd at HBD |-
     repeat (first | go_values | go_skip | go_guarded | go_step | go_upon)
     go_at_call 10;refine(HIH.out S S' x y u v _ HN1.out (HU.out.keep HBD.out) (HV.out.keep HBD.out) HN2.out).mono ?_;rw[hxy];rintro e w4⟨rfl,hb4⟩;have HB4:=hQ (HBR.out.trans ((yC HBD.out hb4).mono HBR.out.size));clear hb4;dsimp only
     go_step
     go_step
     go_step
     go_step
     go_step
     go_step
     go_step
     have hj2:(j:Int)+1<=140737488355328:=by have:=HL2.out;have:=HJ1.out;omega
     go_wp2;clear hj2;go_roundw
     case measure=>simp[intOf];omega
     case rel=>exact⟨j+1,by go_num,HJ1.out,HR.out,HB4.out⟩
   ·have HR:=hQ (show Qf4 a.kids b.kids=true from by rw[HF.out,List.drop_eq_nil_of_le (by omega),List.drop_eq_nil_of_le (by have:=HLN.out;omega),Zaz]);go_wp2;go_ret;exact⟨by rw[HRR.out,HR.out];rfl,yC HB2.out HBR.out⟩
theorem Za0(N:Nat):Qx2 10 N:=by
 induction N with
 | zero=>intro S S' a b u v w h;have:=Qf3 a;omega
 | succ N ih =>
  intro S S' a b u v w hN ha hb hs
  cases hk:(u.kind==v.kind)
  ·exact Zjp ih S S' a b u v w hN ha hb hs hk
  ·cases hx:(u.text.toList==v.text.toList)
   ·exact Zjq ih S S' a b u v w hN ha hb hs ⟨hk,hx⟩
   ·cases ht:Qc6 a.leads b.leads
    ·exact Zjr ih S S' a b u v w hN ha hb hs ⟨hk,hx,ht⟩
    ·by_cases hl:a.kids.length=b.kids.length
     ·exact Zjt ih S S' a b u v w hN ha hb hs ⟨hk,hx,ht,hl⟩
     ·exact Zjs ih S S' a b u v w hN ha hb hs ⟨hk,hx,ht,hl⟩
mutual
def Qgm:Tr->Bool
 | .mk _ _ ls ks=>decide (ls.length<=8796093022208) && decide (ks.length<=1900000000000) && Qzo ks
def Qzo:List Tr->Bool
 | []=>true
 | t :: r=>Qgm t && Qzo r
end
theorem Qvl:(l:List Tr)->(j:Nat)->(k:Tr)->Qzo l=true->l[j]? = some k->Qgm k=true
 | [],j,k,_,h=>by simp at h
 | a :: r,j,k,hs,h=>by
  unfold Qzo at hs;rw[Bool.and_eq_true]at hs;cases j with
  | zero=>simp at h;subst h;exact hs.1
  | succ j=>exact Qvl r j k hs.2 (by simpa using h)
theorem Qb2{t:Tr}(h:Qgm t=true):t.leads.length<=8796093022208/\t.kids.length<=1900000000000/\∀ (j:Nat) (k:Tr),t.kids[j]? = some k->Qgm k=true:=by
 cases t with
 | mk kd tx ls ks =>
  unfold Qgm at h;simp only[Bool.and_eq_true,decide_eq_true_eq]at h;exact⟨h.1.1,h.1.2,fun j k hk=>Qvl ks j k h.2 hk⟩
theorem TrsAt.vals{S:Nat->Prop}{w:World}{b:Nat}:(l:List Tr)->(off:Nat)->TrsAt S w b off l->∃ us:List TV,us.length=l.length/\(∀ (i:Nat) (k:Tr) (u:TV),l[i]? = some k->us[i]? = some u->TrAt S w k u)/\∀ (j:Nat) (x:Value),(Qag us)[j]? = some x->w.cell? ⟨b,off+j,none⟩=some x
 | [],off,h=>⟨[],rfl,fun i k u h=>by simp at h,fun j x h=>by simp[Qag]at h⟩
 | t :: r,off,h=>by
  unfold TrsAt at h;obtain⟨v,c0,c1,c2,c3,ht,hr⟩:=h;obtain⟨us,h1,h2,h3⟩:=TrsAt.vals r (off+4) hr
  refine⟨v :: us,by simp[h1],fun i k u hk hu=>?_,fun j x hx=>?_⟩
  ·cases i with
   | zero=>simp at hk hu;subst hk hu;exact ht
   | succ i=>exact h2 i k u (by simpa using hk) (by simpa using hu)
  ·have hs:Qag (v :: us)=v.cells ++ Qag us:=by unfold Qag;rw[List.flatMap_cons]
   rw[hs]at hx;have h4:v.cells.length=4:=rfl
   rcases Nat.lt_or_ge j 4 with hj | hj
   ·rw[yB (by omega)]at hx
    rcases(show j=0\/j=1\/j=2\/j=3 from by omega) with rfl | rfl | rfl | rfl
    ·simp[TV.cells]at hx;subst hx;exact c0
    ·simp[TV.cells]at hx;subst hx;exact c1
    ·simp[TV.cells]at hx;subst hx;exact c2
    ·simp[TV.cells]at hx;subst hx;exact c3
   ·rw[xX (by omega),h4]at hx;have:=h3 (j-4) x hx
    rw[show off+4+(j-4)=off+j from by omega]at this;exact this
theorem KidsIn.vals{S:Nat->Prop}{w:World}{t:Tr}{v:TV}(h:TrAt S w t v):∃ us:List TV,us.length=t.kids.length/\(∀ (i:Nat) (k:Tr) (u:TV),t.kids[i]? = some k->us[i]? = some u->TrAt S w k u)/\(0<t.kids.length->∃ b off,v.ka=some ⟨b,off,none⟩/\∀ (j:Nat) (x:Value),(Qag us)[j]? = some x->w.cell? ⟨b,off+j,none⟩=some x):=by
 cases t with
 | mk k x ls ks =>
  unfold TrAt at h
  by_cases hk:ks = []
  ·subst hk;exact⟨[],rfl,(fun i k u h _=>by simp[Tr.kids]at h),(fun h=>absurd h (by simp[Tr.kids]))⟩
  ·obtain⟨b,off,hA,_,ht⟩:=h.2.2.2.2.2.1 hk;obtain⟨us,h1,h2,h3⟩:=TrsAt.vals ks off ht;exact⟨us,h1,h2,fun _=>⟨b,off,hA,h3⟩⟩
theorem StrsAt.vals{S:Nat->Prop}{w:World}{A:yE}{l:List yD}(h:StrsAt S w A l):0<l.length->∃ b off,A=some ⟨b,off,none⟩/\∀ (j:Nat) (x:Value),(l.map Value.string)[j]? = some x->w.cell? ⟨b,off+j,none⟩=some x:=fun h0=>by
 obtain⟨b,off,hA,_,hc⟩:=h (fun e=>by rw[e]at h0;simp at h0);refine⟨b,off,hA,fun j x hx=>?_⟩;rw[List.getElem?_map]at hx;cases hl:l[j]? with
 | none=>rw[hl]at hx;cases hx
 | some y =>
  rw[hl]at hx;simp at hx
  subst hx;exact hc j y hl
theorem Qnf(l:List yD):∀ u∈l.map Value.string,u.oneCell'=true:=by
 intro u hu;obtain⟨x,_,rfl⟩:=List.mem_map.1 hu;rfl
theorem Qng{w w':World}(h:w.grownBy w' none):Below w.heap.size w w':=⟨h.os,h.tape,h.output,h.size,fun k hk=>h.block k hk (by simp)⟩
def RowIs(cs:Array Value)(vs:List TV):Prop:=∀ i v,vs[i]? = some v->cs[i*4]? = some (.int .i64 v.kind)/\cs[i*4+1]? = some (.string v.text)/\cs[i*4+2]? = some (.slice v.la v.ll v.lc)/\cs[i*4+3]? = some (.slice v.ka v.kl v.kc)
def Znu(cs:Array Value)(j:Nat)(y:TV):Array Value:=(((cs.setIfInBounds (j*4) (.int .i64 y.kind)).setIfInBounds (j*4+1) (.string y.text)).setIfInBounds (j*4+2) (.slice y.la y.ll y.lc)).setIfInBounds (j*4+3) (.slice y.ka y.kl y.kc)
theorem RowIs.set{cs:Array Value}{vs:List TV}(h:RowIs cs vs){j:Nat}(hj:j<vs.length)(y:TV):RowIs (Znu cs j y) (vs.set j y):=by
 obtain⟨x,hx⟩:∃ x,vs[j]? = some x:=⟨_,xF hj⟩;obtain⟨g0,g1,g2,g3⟩:=h j x hx;have l0:=(Array.getElem?_eq_some_iff.1 g0).1;have l1:=(Array.getElem?_eq_some_iff.1 g1).1;have l2:=(Array.getElem?_eq_some_iff.1 g2).1;have l3:=(Array.getElem?_eq_some_iff.1 g3).1;intro i v hv;unfold Znu
 by_cases hij:i=j
 ·subst hij;rw[List.getElem?_set_self hj]at hv;injection hv with hv;subst hv;refine⟨?_,?_,?_,?_⟩ <;> simp[Array.getElem?_setIfInBounds] <;> omega
 ·rw[List.getElem?_set_ne (fun e=>hij e.symm)]at hv;obtain⟨f0,f1,f2,f3⟩:=h i v hv
  refine⟨?_,?_,?_,?_⟩
  ·rw[xY (by omega),xY (by omega),xY (by omega),xY (by omega)];exact f0
  ·rw[xY (by omega),xY (by omega),xY (by omega),xY (by omega)];exact f1
  ·rw[xY (by omega),xY (by omega),xY (by omega),xY (by omega)];exact f2
  ·rw[xY (by omega),xY (by omega),xY (by omega),xY (by omega)];exact f3
structure Rest1 (g:Nat) (w w':World):Prop where
 os:w'.os=w.os
 tape:w'.tape=w.tape
 output:w'.output=w.output
 size:w.heap.size<=w'.heap.size
 block:∀ k,k<w.heap.size->k≠g->w'.heap[k]? = w.heap[k]?
theorem Rest1.trans{g:Nat}{u v w:World}(h:Rest1 g u v)(k:Rest1 g v w):Rest1 g u w:=⟨k.os.trans h.os,k.tape.trans h.tape,k.output.trans h.output,xQ h.size k.size,fun i hi hx=>(k.block i (xE hi h.size) hx).trans (h.block i hi hx)⟩
theorem Rest1.below{g:Nat}{w w':World}(h:Below w.heap.size w w'):Rest1 g w w':=⟨h.os,h.tape,h.output,h.size,fun k hk _=>h.block k hk⟩
theorem Rest1.set(w:World)(g o:Nat)(u:Value):Rest1 g w (w.setCell ⟨g,o,none⟩ u):=⟨rfl,rfl,rfl,by simp[World.setCell],fun k _ hk=>Below.heap_setCell _ _ _ _ (fun e:k=g=>hk e)⟩
theorem Rest1.down{g B:Nat}{w w':World}(h:Rest1 g w w')(hg:B<=g)(hB:B<=w.heap.size):Below B w w':=⟨h.os,h.tape,h.output,h.size,fun k hk=>h.block k (xE hk hB) (by omega)⟩
theorem TrAt.make{S:Nat->Prop}{w:World}{t:Tr}{v:TV}(h1:v.kind=t.kind)(h2:v.text=t.text)(h3:v.ll=t.leads.length)(h4:v.kl=t.kids.length)(h5:StrsAt S w v.la t.leads)(h6:KidsIn S w v.ka t.kids)(h7:v.ll<=v.lc/\v.kl<=v.kc):TrAt S w t v:=by
 cases t
 unfold TrAt;exact⟨h1,h2,h3,h4,h5,h6,h7⟩
theorem Qaq{w:World}{b o k:Nat}{u:Value}(h:k≠b):(w.setCell ⟨b,o,none⟩ u).heap[k]? = w.heap[k]?:=Below.heap_setCell _ _ _ _ (fun e:k=b=>h e)
theorem Qa3{w:World}{b k:Nat}(u:TV)(h:k≠b):(Qek w b u).heap[k]? = w.heap[k]?:=(((Qaq h).trans (Qaq h)).trans (Qaq h)).trans (Qaq h)
theorem Qb7(w:World)(b:Nat)(u:TV):(Qek w b u).heap.size=w.heap.size:=by simp[Qek,World.setCell]
end Go.Proofs.YtfjpemdejoejbaaGreat
namespace Go.Proofs.YtfjpemdejoejbaaGreat
open Go.Proofs.Tryz Go.RowKit Go.ChangeShapes Go.WideShapes Go.Deep
def szB:List yD->Nat
 | []=>0
 | y :: r=>y.size+szB r
mutual
def Qt6:Tr->Nat
 | .mk _ x ls ks=>1+x.size+szB ls+ls.length+ks.length+Qx3 ks
def Qx3:List Tr->Nat
 | []=>0
 | t :: r=>Qt6 t+Qx3 r
end
mutual
theorem Za1:(t:Tr)->Qt6 t<=1048576->Qgm t=true
 | .mk _ _ ls ks,h=>by
  rw[Qt6]at h;rw[Qgm,Qvm ks (by omega),xS (by omega),xS (by omega)];rfl
theorem Qvm:(l:List Tr)->Qx3 l<=1048576->Qzo l=true
 | [],_=>by rw[Qzo]
 | t :: r,h=>by
  rw[Qx3]at h;rw[Qzo,Za1 t (by omega),Qvm r (by omega)];rfl
end
mutual
theorem Qrx:(t:Tr)->Qt6 t<=1048576->Qbs t=true
 | .mk _ _ ls ks,h=>by
  rw[Qt6]at h;rw[Qbs,Qo0 ks (by omega),xS (by omega),xS (by omega)];rfl
theorem Qo0:(l:List Tr)->Qx3 l<=1048576->Qdf l=true
 | [],_=>by rw[Qdf]
 | t :: r,h=>by
  rw[Qx3]at h;rw[Qdf,Qrx t (by omega),Qo0 r (by omega)];rfl
end
section
variable {H:Type} {enc:TypeId × Value->H} {w:World} {base:Nat} {spare:Nat->Bool} {held:Bool}
instance:Inhabited Tr:=⟨noTr⟩
instance:Inhabited TV:=⟨⟨0,⟨#[]⟩,none,0,0,none,0,0⟩⟩
theorem Za2(b off n:Nat):((⟨b,off,none⟩:Addr).add n)=⟨b,off+n,none⟩:=by unfold Addr.add;split <;> simp_all
end
end Go.Proofs.YtfjpemdejoejbaaGreat
