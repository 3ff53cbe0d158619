/- Part 12 -/
import Derived.Test.YtfjpemdejoejbaaGreatTp10
import Derived.Test.YtfjpemdejoejbaaGreatTp11
import Derived.Deep.Cut
set_option maxRecDepth 100000
set_option maxHeartbeats 4000000
namespace Go.Proofs.YtfjpemdejoejbaaGreat
open Go.Proofs.Tryz Go.RowKit
theorem TrAt.keep{S:Nat->Prop}{w w':World}{t:Tr}{v:TV}(h:TrAt S w t v)(hb:Below w.heap.size w w'):TrAt S w' t v:=TrAt.move (fun _ h=>h) (fun k _ hlt=>hb.block k hlt) t v h
theorem TrAt.kid{S:Nat->Prop}{w:World}{t:Tr}{v:TV}(h:TrAt S w t v){j:Nat}{k:Tr}(hk:t.kids[j]? = some k) :
  v.kl=t.kids.length/\∃ b off,v.ka=some ⟨b,off,none⟩/\S b/\∃ u:TV,w.cell? ⟨b,off+j*4,none⟩=some (.int .i64 u.kind)/\w.cell? ⟨b,off+j*4+1,none⟩=some (.string u.text)/\w.cell? ⟨b,off+j*4+2,none⟩=some (.slice u.la u.ll u.lc)/\w.cell? ⟨b,off+j*4+3,none⟩=some (.slice u.ka u.kl u.kc)/\TrAt S w k u:=by
 cases t with
 | mk kd tx ls ks =>
  unfold TrAt at h;obtain⟨_,_,_,h4,_,h6,_⟩:=h;obtain⟨b,off,hA,hb,hc⟩:=h6 (by intro e;rw[show(Tr.mk kd tx ls ks).kids=ks from rfl,e]at hk;simp at hk);exact⟨h4,b,off,hA,hb,TrsAt.get ks off hc j k hk⟩
theorem TrAt.addr{S:Nat->Prop}{w:World}{t:Tr}{v:TV}(h:TrAt S w t v):t.kids.length=0\/∃ b off,v.ka=some ⟨b,off,none⟩:=by
 cases t with
 | mk kd tx ls ks =>
  unfold TrAt at h;cases ks with
  | nil=>exact .inl rfl
  | cons a r =>
   obtain⟨b,off,hA,_⟩:=h.2.2.2.2.2.1 (by simp);exact .inr ⟨b,off,hA⟩
theorem TrAt.at{S:Nat->Prop}{w:World}{t:Tr}{v:TV}{b off:Nat}(h:TrAt S w t v)(hA:v.ka=some ⟨b,off,none⟩){j:Nat}{k:Tr}(hk:t.kids[j]? = some k) :
  ∃ u:TV,w.cell? ⟨b,off+j*4,none⟩=some (.int .i64 u.kind)/\w.cell? ⟨b,off+j*4+1,none⟩=some (.string u.text)/\w.cell? ⟨b,off+j*4+2,none⟩=some (.slice u.la u.ll u.lc)/\w.cell? ⟨b,off+j*4+3,none⟩=some (.slice u.ka u.kl u.kc)/\TrAt S w k u:=by
 obtain⟨_,b',off',hA',_,u,hu⟩:=h.kid hk;rw[hA]at hA';injection hA' with e;injection e with e1 e2 _;subst e1 e2;exact⟨u,hu⟩
theorem TrAt.kl{S:Nat->Prop}{w:World}{t:Tr}{v:TV}(h:TrAt S w t v):v.kl=t.kids.length/\v.ll=t.leads.length/\v.kind=t.kind/\v.text=t.text:=by
 cases t with
 | mk kd tx ls ks =>
  unfold TrAt at h;exact⟨h.2.2.2.1,h.2.2.1,h.1,h.2.1⟩
theorem TrAt.caps{S:Nat->Prop}{w:World}{t:Tr}{v:TV}(h:TrAt S w t v):v.ll<=v.lc/\v.kl<=v.kc:=by
 cases t with
 | mk kd tx ls ks =>
  unfold TrAt at h;exact h.2.2.2.2.2.2
theorem Ql6(t:Tr)(n:Nat):Qds t (n+1)=Qfg t.kids n:=by
 cases t with
 | mk kd tx ls ks=>rw[Qds];rfl
theorem Qrn(t:Tr):Qds t 0=false:=by
 cases t with
 | mk kd tx ls ks=>rw[Qds]
theorem Qxp(l:List Tr)(n j:Nat)(k:Tr)(hk:l[j]? = some k):Qfg (l.drop j) n=(Qds k n && Qfg (l.drop (j+1)) n):=by
 obtain⟨hj,he⟩:=xP.1 hk;rw[List.drop_eq_getElem_cons hj,he,Qfg]
theorem Qm6(l:List Tr)(n j:Nat)(h:l.length<=j):Qfg (l.drop j) n=true:=by
 rw[List.drop_eq_nil_of_le h,Qfg]
mutual
def Qbs:Tr->Bool
 | .mk _ _ ls ks=>decide (ls.length<=140737488355328) && decide (ks.length<=140737488355328) && Qdf ks
def Qdf:List Tr->Bool
 | []=>true
 | t :: r=>Qbs t && Qdf r
end
theorem Qou:(l:List Tr)->(j:Nat)->(k:Tr)->Qdf l=true->l[j]? = some k->Qbs k=true
 | [],j,k,_,h=>by simp at h
 | a :: r,j,k,hs,h=>by
  unfold Qdf at hs;rw[Bool.and_eq_true]at hs;cases j with
  | zero=>simp at h;subst h;exact hs.1
  | succ j=>exact Qou r j k hs.2 (by simpa using h)
theorem Qcc{t:Tr}(h:Qbs t=true):t.leads.length<=140737488355328/\t.kids.length<=140737488355328/\∀ (j:Nat) (k:Tr),t.kids[j]? = some k->Qbs k=true:=by
 cases t with
 | mk kd tx ls ks =>
  unfold Qbs at h;simp only[Bool.and_eq_true,decide_eq_true_eq]at h;exact⟨h.1.1,h.1.2,fun j k hk=>Qou ks j k h.2 hk⟩
theorem Qxq(n:Nat):∀ (S:Nat->Prop) (t:Tr) (v:TV) (w:World),n<=60->TrAt S w t v->Qbs t=true ->
  Calls prog 53 #[.agg #[.int .i64 v.kind,.string v.text,.slice v.la v.ll v.lc,.slice v.ka v.kl v.kc],.int .i64 n] w fun e w'=>e = .returned (.bool (Qds t n))/\Below w.heap.size w w':=by
 induction n with
 | zero =>
  intro S t v w _ _ _;have HR:=hQ (Qrn t);go_enter func53,ntmps53;go_wp2;go_ret;exact⟨by rw[HR.out];rfl,(xC _ _).alloc (xA _) _⟩
 | succ n ih =>
  intro S t v w hn h hs;obtain⟨_,hk1,hk2⟩:=Qcc hs;have HK2:=hQ hk2;have HIH:=hQ ih;have hkl:=h.kl.1;have hadr:=h.addr;obtain⟨vk,vx,vla,vll,vlc,vka,vkl,vkc⟩:=v;simp only at hkl hadr;subst hkl;have HN:=hQ (show n<=60 from by omega);have hn0:((n:Int)+1==0)=false:=Qcr (by omega);have hn60:(n:Int)<=60:=by omega
  have hnw:(n:Int)+1-1=(n:Int):=by omega
  have HT:=hQ h;clear h hs hk2 ih hn
  rcases hadr with h0|⟨b,off,rfl⟩
  ·have HKL:=hQ h0;clear h0;go_enter func53,ntmps53;go_wp2
   go_loopg [12] t.kids.length (fun g u12 wr=>∃ j:Nat,u12 = .int .i64 j/\j+g=t.kids.length/\Below w.heap.size w wr/\Qds t (n+1)=Qfg (t.kids.drop j) n)
   case atStart=>exact⟨0,rfl,by omega,(xC _ _).alloc (xA _) _,Ql6 t n⟩
   case round =>
    obtain⟨j,rfl,hj,hb,hw⟩:=hrel;have HB:=hQ hb;have HJ:=hQ hj;have HW:=hQ hw;clear hj hb hw;have hlt:¬ j<t.kids.length:=by have:=HKL.out;omega
    have HR:=hQ (HW.out.trans (Qm6 t.kids n j (by omega)));go_wp2;go_ret;exact⟨by rw[HR.out];rfl,HB.out⟩
  ·skip
   go_enter func53,ntmps53;go_wp2
   go_loopg [12] t.kids.length (fun g u12 wr=>∃ j:Nat,u12 = .int .i64 j/\j+g=t.kids.length/\Below w.heap.size w wr/\Qds t (n+1)=Qfg (t.kids.drop j) n)
   case atStart=>exact⟨0,rfl,by omega,(xC _ _).alloc (xA _) _,Ql6 t n⟩
   case round =>
    obtain⟨j,rfl,hj,hb,hw⟩:=hrel;have HB:=hQ hb;have HJ:=hQ hj;have HW:=hQ hw;clear hj hb hw
    by_cases hlt:j<t.kids.length
    ·obtain⟨k,hk⟩:∃ k,t.kids[j]? = some k:=⟨_,xF hlt⟩;obtain⟨u,c0,c1,c2,c3,hu⟩:=(HT.out.keep HB.out).at rfl hk;have HU:=hQ hu;have HSK:=hQ (HK2.out j k hk);have HLT:=hQ hlt;have HAT:=hQ (HW.out.trans (Qxp t.kids n j k hk));have hj0:(0:Int)<=(j:Int):=by omega
     have hj1:(j:Int)<(t.kids.length:Int):=by omega
     have hj2:(j:Int)+1<=140737488355328:=by omega
     clear hk hu
     cases hwk:Qds k n
     ·have HR:=hQ (show Qds t (n+1)=false from by rw[HAT.out,hwk];rfl);go_wp2_with (go_at_call 53;refine(HIH.out S k u _ HN.out (HU.out.keep ((xC _ _).alloc (xA _) _)) HSK.out).mono ?_;rintro e w2⟨rfl,hb2⟩;have HB2:=hQ ((HB.out.alloc HB.out.size (.cells #[.int .i64 u.kind,.string u.text,.slice u.la u.ll u.lc,.slice u.ka u.kl u.kc] 25)).trans (hb2.mono (by have:=HB.out.size;simp;omega)));clear hb2)
      go_ret;exact⟨by rw[HR.out];rfl,HB2.out⟩
     ·have HR:=hQ (show Qds t (n+1)=Qfg (t.kids.drop (j+1)) n from by rw[HAT.out,hwk,Bool.true_and]);go_wp2_with (go_at_call 53;refine(HIH.out S k u _ HN.out (HU.out.keep ((xC _ _).alloc (xA _) _)) HSK.out).mono ?_;rintro e w2⟨rfl,hb2⟩;have HB2:=hQ ((HB.out.alloc HB.out.size (.cells #[.int .i64 u.kind,.string u.text,.slice u.la u.ll u.lc,.slice u.ka u.kl u.kc] 25)).trans (hb2.mono (by have:=HB.out.size;simp;omega)));clear hb2)
      go_roundg (gk-1)
      case measure=>have:=HJ.out;have:=HLT.out;omega
      case rel=>exact⟨j+1,by go_num,by have:=HJ.out;have:=HLT.out;omega,HB2.out,HR.out⟩
    ·have HR:=hQ (HW.out.trans (Qm6 t.kids n j (by omega)));go_wp2;go_ret;exact⟨by rw[HR.out];rfl,HB.out⟩
end Go.Proofs.YtfjpemdejoejbaaGreat
namespace Go.Proofs.YtfjpemdejoejbaaGreat
open Go.Proofs.Tryz
def Qer:List Part->Int->List Int
 | [],_=>[]
 | x :: r,n=>List.replicate (Qb9 x n).toNat x.kids ++ Qer r n
mutual
def Qam:Tr->Bool
 | .mk kd x _ ks=>(Qca (Qae kd) ks.length).2 && Qba (Qae kd) x && Qej ks (Qer (Qae kd) (Qca (Qae kd) ks.length).1)
def Qej:List Tr->List Int->Bool
 | [],_=>true
 | _ :: _,[]=>true
 | k :: r,s :: ss=>Qfd s k.kind && Qam k && Qej r ss
end
theorem Qi8(t:Tr):Qam t=((Qca (Qae t.kind) t.kids.length).2 && Qba (Qae t.kind) t.text && Qej t.kids (Qer (Qae t.kind) (Qca (Qae t.kind) t.kids.length).1)):=by
 cases t with
 | mk kd x ls ks=>rw[Qam];rfl
theorem Ql7(k:Tr)(r:List Tr)(s:Int)(ss:List Int):Qej (k :: r) (s :: ss)=(Qfd s k.kind && Qam k && Qej r ss):=by rw[Qej]
theorem Qjy(ss:List Int):Qej [] ss=true:=by rw[Qej]
def Qqg:List Part->Nat
 | []=>0
 | x :: r=>(if x.series then 0 else if x.kids≠0 then 1 else 0)+Qqg r
def Qgw:List Part->Nat
 | []=>0
 | x :: r=>(if x.series then 1 else 0)+Qgw r
def Qvi:List Part->Int->Int
 | [],_=>0
 | x :: r,n=>Qb9 x n+Qvi r n
theorem Zar(l:List Part)(n:Int):Qvi l n=Qqg l+Qgw l*n:=by
 induction l with
 | nil=>simp[Qvi,Qqg,Qgw]
 | cons x r ih =>
  rw[Qvi,Qqg,Qgw,ih];unfold Qb9
  cases hs:x.series
  ·by_cases hk:x.kids≠0
   ·rw[xN (by decide),xO hk,xN (by decide),xO hk,xN (by decide),Nat.zero_add];omega
   ·rw[xN (by decide),xN hk,xN (by decide),xN hk,xN (by decide),Nat.zero_add,Nat.zero_add];omega
  ·rw[xO rfl,xO rfl,xO rfl];rw[show((1+Qgw r:Nat):Int)=1+(Qgw r:Int) from by omega,Int.add_mul,Int.one_mul];omega
theorem Qlj(l:List Part):∀ a b k,(Qea l a b k).2.2=k-Qqg l:=by
 induction l with
 | nil=>intro a b k;simp[Qea,Qqg]
 | cons x r ih =>
  intro a b k;rw[Qea,Qqg]
  cases hs:x.series
  ·by_cases hk:x.kids≠0
   ·rw[xN (by decide),xO hk,ih,xN (by decide),xO hk];omega
   ·rw[xN (by decide),xN hk,ih,xN (by decide),xN hk];omega
  ·rw[xO rfl,ih,xO rfl];omega
theorem Qxr(l:List Part)(h:Qgw l=0):∀ a b k,(Qea l a b k).1=a/\(Qea l a b k).2.1=b:=by
 induction l with
 | nil=>intro a b k;exact⟨rfl,rfl⟩
 | cons x r ih =>
  intro a b k;rw[Qgw]at h;rw[Qea]
  cases hs:x.series
  ·rw[hs]at h;have hr:=ih (by simpa using h)
   by_cases hk:x.kids≠0
   ·rw[xN (by decide),xO hk];exact hr _ _ _
   ·rw[xN (by decide),xN hk];exact hr _ _ _
  ·rw[hs]at h;simp at h
theorem Zas(l:List Part)(hl:∀ x∈l,0<=x.least):∀ a b k,0<=a->0<=(Qea l a b k).1:=by
 induction l with
 | nil=>intro a b k h;exact h
 | cons x r ih =>
  intro a b k h;have hr:=ih (fun y hy=>hl y (List.mem_cons_of_mem _ hy));have hx:=hl x (List.mem_cons_self ..);rw[Qea]
  split
  ·exact hr _ _ _ hx
  ·split
   ·exact hr _ _ _ h
   ·exact hr _ _ _ h
theorem Qtz:∀ n:Fin 23,Qgw (Qae ((n.val:Nat):Int))<=1/\∀ x∈Qae ((n.val:Nat):Int),0<=x.least:=by decide
theorem Qxs(k:Int):Qgw (Qae k)<=1/\∀ x∈Qae k,0<=x.least:=by
 by_cases h:k<=0\/23<=k
 ·rw[Qd0 h];exact⟨by decide,fun x hx=>by simp at hx⟩
 ·have:=Qtz ⟨k.toNat,by omega⟩
  rw[show(((⟨k.toNat,by omega⟩:Fin 23).val:Nat):Int)=k from by show((k.toNat:Nat):Int)=k;omega]at this;exact this
theorem Qvj{kd k:Int}(h:(Qca (Qae kd) k).2=true):0<=(Qca (Qae kd) k).1/\Qvi (Qae kd) (Qca (Qae kd) k).1=k:=by
 obtain⟨_,hk0,hne⟩:=Qqf _ _ h;obtain⟨hs,hl⟩:=Qxs kd;have h0:=Zas _ hl 0 0 k (Int.le_refl _);have h1:=Qlj (Qae kd) 0 0 k
 have hf:Qca (Qae kd) k=((Qea (Qae kd) 0 0 k).2.2,decide ((Qea (Qae kd) 0 0 k).1<=(Qea (Qae kd) 0 0 k).2.2) && decide ((Qea (Qae kd) 0 0 k).2.2<=(Qea (Qae kd) 0 0 k).2.1)):=by
  unfold Qca;rw[xN (by intro e;rcases e with e | e;exact hne e;omega)]
 rw[hf]at h |-;simp only[Bool.and_eq_true,decide_eq_true_eq]at h;rw[Zar];show 0<=(Qea (Qae kd) 0 0 k).2.2/\_+_*(Qea (Qae kd) 0 0 k).2.2=k
 refine⟨by omega,?_⟩
 rcases Nat.le_one_iff_eq_zero_or_eq_one.1 hs with hz | hz
 ·obtain⟨e1,e2⟩:=Qxr _ hz 0 0 k;rw[hz];rw[e1,e2]at h;omega
 ·rw[hz,h1];omega
theorem Qm7(l:List Part)(n:Int)(hn:0<=n):0<=Qvi l n:=by
 rw[Zar];have:0<=(Qgw l:Int)*n:=Int.mul_nonneg (by omega) hn
 omega
theorem Qkn(x:Part)(n:Int)(hn:0<=n):0<=Qb9 x n:=by
 unfold Qb9
 split
 ·exact hn
 ·split <;> decide
theorem Zfx{t k:Tr}{j:Nat}(h:t.kids[j]? = some k):SizeOf.sizeOf k<SizeOf.sizeOf t:=by
 cases t with
 | mk kd x ls ks =>
  have:=List.sizeOf_lt_of_mem (yA (show ks[j]? = some k from h))
  rw[Tr.mk.sizeOf_spec];omega
end Go.Proofs.YtfjpemdejoejbaaGreat
namespace Go.Proofs.YtfjpemdejoejbaaGreat
open Go.Proofs.Tryz Go.RowKit
theorem Qrr{T:Int->PS->Option (Tr × PS)}{s:Int}{n:Nat}{t:Tr}{p:PS}{r:Tr × PS}(h:Ze8 T s (n+1) t p=some r) :
  (((s==5)=true/\opB (Qad p).text=true/\∃ u q,T 7 (Qha p)=some (u,q)/\Ze8 T s n (.mk 21 (Qad p).text [(Qad p).lead] [t,u]) q=some r)\/((s==5)=true/\opB (Qad p).text=false/\(t,p)=r))\/((s==5)=false/\(t,p)=r):=by
 unfold Ze8 at h
 by_cases hs:s=5
 ·by_cases ho:opB (Qad p).text=true
  ·rw[xO ⟨hs,ho⟩]at h;cases hT:T 7 (Qha p) with
   | none=>rw[hT]at h;cases h
   | some uq =>
    rw[hT]at h;exact .inl (.inl ⟨by simpa using hs,ho,uq.1,uq.2,rfl,h⟩)
  ·rw[xN (fun e=>ho e.2)]at h;exact .inl (.inr ⟨by simpa using hs,by simpa using ho,by simpa using h⟩)
 ·rw[xN (fun e=>hs e.1)]at h;exact .inr ⟨by simpa using hs,by simpa using h⟩
def Zln(T:Int->PS->Option (Tr × PS))(s:Int)(r:Tr × PS)(b tb:Nat)(w:World)(g:Nat)(wr:World):Prop :=
 ∃ (t:Tr) (v:TV) (p:PS),Ze8 T s g t p=some r/\wr.heap[tb]? = some (.cells #[.int .i64 v.kind,.string v.text,.slice v.la v.ll v.lc,.slice v.ka v.kl v.kc] 25 (0,0))/\TrAt (fun k=>w.heap.size+1<=k/\k<wr.heap.size/\k≠tb) wr t v/\PIn wr b p/\Off b w wr/\wr.heap[w.heap.size]? = some (.cells #[.int .i64 0,.string ⟨#[]⟩,.slice none 0 0,.slice none 0 0] 25 (0,0))
theorem Qvk{S S':Nat->Prop}{b:Nat}{w w':World}{t:Tr}{v:TV}(h:TrAt S w t v)(ho:Off b w w')(hb:∀ k,S k->k≠b)(hS:∀ k,S k->S' k):TrAt S' w' t v:=TrAt.move hS (fun k hk hlt=>ho.block k hlt (hb k hk)) t v h
theorem Zlo{w:World}{L tb x1 x2:Nat}{text lead:yD}{t u:Tr}{v1 v2:TV}(hl:w.cell? ⟨x1,0,none⟩=some (.string lead))(h1:L<=x1/\x1≠tb)(h2:L<=x2/\x2≠tb)
  (hk:w.heap[x2]? = some (.cells #[.int .i64 v1.kind,.string v1.text,.slice v1.la v1.ll v1.lc,.slice v1.ka v1.kl v1.kc,.int .i64 v2.kind,.string v2.text,.slice v2.la v2.ll v2.lc,.slice v2.ka v2.kl v2.kc] 25 (0,0)))
  (ht:TrAt (fun k=>L<=k/\k<w.heap.size/\k≠tb) w t v1) (hu:TrAt (fun k=>L<=k/\k<w.heap.size/\k≠tb) w u v2) :
  TrAt (fun k=>L<=k/\k<w.heap.size/\k≠tb) w (.mk 21 text [lead] [t,u]) ⟨21,text,some ⟨x1,0,none⟩,1,1,some ⟨x2,0,none⟩,2,2⟩:=by
 have hx1:x1<w.heap.size:=xK w _ hl;have hx2:=Qaa hk;unfold TrAt
 refine⟨rfl,rfl,rfl,rfl,fun _=>⟨x1,0,rfl,⟨h1.1,hx1,h1.2⟩,fun i x hx=>?_⟩,fun _=>⟨x2,0,rfl,⟨h2.1,hx2,h2.2⟩,?_⟩,xA _,xA _⟩
 ·cases i with
  | zero=>simp at hx;subst hx;exact hl
  | succ i=>simp at hx
 ·unfold TrsAt;refine⟨v1,Qab hk 0 _ rfl,Qab hk 1 _ rfl,Qab hk 2 _ rfl,Qab hk 3 _ rfl,ht,?_⟩;unfold TrsAt;exact⟨v2,Qab hk 4 _ rfl,Qab hk 5 _ rfl,Qab hk 6 _ rfl,Qab hk 7 _ rfl,hu,trivial⟩
theorem Qow{n:Nat}{s:Int}{p:PS}{r:Tr × PS}(h:Qh6 (n+1) s p=some r) :
  ((Qbw s p==0)=true/\(noTr,Qkd p 2)=r)\/((Qbw s p==0)=false/\∃ t q,Qgr (Qh6 n) n (Qbw s p) (Qae (Qbw s p)) ⟨#[]⟩ [] [] [] p=some (t,q)/\Ze8 (Qh6 n) s n t q=some r):=by
 unfold Qh6 at h
 by_cases hb:Qbw s p=0
 ·rw[xO hb]at h;exact .inl ⟨by simpa using hb,by simpa using h⟩
 ·rw[xN hb]at h;refine .inr ⟨by simpa using hb,?_⟩;cases hN:Qgr (Qh6 n) n (Qbw s p) (Qae (Qbw s p)) ⟨#[]⟩ [] [] [] p with
  | none=>rw[hN]at h;cases h
  | some tq=>rw[hN]at h;exact⟨tq.1,tq.2,rfl,h⟩
theorem Zjh{n:Nat}(hT:Qxl (Qh6 n))(hN:Zi9 (fun k p=>Qgr (Qh6 n) n k (Qae k) ⟨#[]⟩ [] [] [] p)):Qxl (Qh6 (n+1)):=by
 intro b s p t q w hr h;have HI:=hQ h;have HTC:=hQ hT;have HNC:=hQ hN;have HW0:=hQ ((xC w.heap.size w).alloc (xA _) (.cells #[.int .i64 0,.string ⟨#[]⟩,.slice none 0 0,.slice none 0 0] 25));have HG0:=hQ (xH w (.cells #[.int .i64 0,.string ⟨#[]⟩,.slice none 0 0,.slice none 0 0] 25));have HLT:=hQ h.lt;clear h hT hN
 rcases Qow hr with⟨hb,he⟩|⟨hb,t0,q0,hn,ho⟩
 ·have HE:=hQ he;clear he hr;go_enter func85,ntmps85;go_wp2_with fail;go_at_call 130;refine(Qc5 s _ (HI.out.keep HW0.out)).mono ?_;rintro e w1⟨rfl,hb1⟩;have HB1:=hQ hb1;have HO1:=hQ (yC HW0.out hb1);clear hb1;go_wp2_with fail;go_at_call 131;refine(Qmr (x:=2) _ (HI.out.keep HO1.out)).mono ?_;rintro e w2⟨rfl,hp2,ho2⟩;have HP2:=hQ hp2;have HO2:=hQ ((Off.of HO1.out).trans ho2);have g2:=(ho2.block w.heap.size (by have:=HB1.out.size;rw[xI]at this;omega) (by have:=HLT.out;omega)).trans ((HB1.out.block w.heap.size (by simp)).trans HG0.out);have HG2:=hQ g2;clear hp2 ho2;have r0:=Qab g2 0 _ rfl;have r1:=Qab g2 1 _ rfl;have r2:=Qab g2 2 _ rfl;have r3:=Qab g2 3 _ rfl;have rf:=xL g2;clear g2;go_wp2;refine bodyPost_ret (v:=.agg #[.int .i64 0,.string ⟨#[]⟩,.slice none 0 0,.slice none 0 0]) (by simp[results,results85,go_sem, *]) rfl ?_;have he:=HE.out;injection he with he1 he2;subst he1 he2;have hoff:=(((HO2.out.setNew (xA _) 0 (.int .i64 0)).setNew (xA _) 1 (.string ⟨#[]⟩)).setNew (xA _) 2 (.slice none 0 0)).setNew (xA _) 3 (.slice none 0 0)
  refine⟨⟨0,⟨#[]⟩,none,0,0,none,0,0⟩,rfl,?_,?_,hoff⟩
  ·unfold noTr TrAt;exact⟨rfl,rfl,rfl,rfl,fun h=>absurd rfl h,fun h=>absurd rfl h,xA _,xA _⟩
  ·have hl:=HP2.out.lt;have hl2:=HLT.out;exact HP2.out.upto fun k hk=>(((Rest.set1 w.heap.size 0 (.int .i64 0)).trans (Rest.set1 w.heap.size 1 (.string ⟨#[]⟩))).trans ((Rest.set1 w.heap.size 2 (.slice none 0 0)).trans (Rest.set1 w.heap.size 3 (.slice none 0 0)))).block k (by omega) (fun e:k=w.heap.size=>by omega)
 ·have HN0:=hQ hn;have HOP:=hQ ho;clear hn ho hr;go_enter func85,ntmps85;go_wp2_with fail;go_at_call 130;refine(Qc5 s _ (HI.out.keep HW0.out)).mono ?_;rintro e w1⟨rfl,hb1⟩;have HB1:=hQ hb1;have HO1:=hQ (yC HW0.out hb1);clear hb1;go_wp2_with fail;go_at_call 52;refine(HNC.out b _ p t0 q0 _ HN0.out (HI.out.keep HO1.out)).mono ?_;rintro e w2⟨v0,rfl,htr,hp2,ho2⟩;have HP2:=hQ hp2;have HTR0:=hQ htr;have HON:=hQ ho2;have HW1:=hQ (show w.heap.size+1<=w1.heap.size from by have:=HB1.out.size;rw[xI]at this;omega);have HO2:=hQ ((Off.of HO1.out).trans ho2);have HG2:=hQ ((ho2.block w.heap.size (by have:=HW1.out;omega) (by have:=HLT.out;omega)).trans ((HB1.out.block w.heap.size (by simp)).trans HG0.out));clear hp2 ho2 htr;go_wp2_with fail;generalize htb:w2.heap.size=tb;have HTB:=hQ htb;clear htb
  go_loopg [] n (fun g wr=>Zln (Qh6 n) s (t,q) b tb w g wr)
  case atStart =>
   have hS:Off b w2 (w2.alloc (.cells #[.int .i64 v0.kind,.string v0.text,.slice v0.la v0.ll v0.lc,.slice v0.ka v0.kl v0.kc] 25)):=Off.alloc _;refine⟨t0,v0,q0,HOP.out,by rw[<-HTB.out];exact xH w2 _,Qvk HTR0.out hS (fun k hk=>by have:=HLT.out;have:=HW1.out;have:=hk.1;omega) (fun k hk=>⟨by have:=HW1.out;have:=hk.1;omega,by rw[xI];have:=hk.2;omega,by have:=hk.2;have:=HTB.out;omega⟩),HP2.out.keep ((xC _ _).alloc (xA _) _),HO2.out.trans hS,(hS.block w.heap.size (Qaa HG2.out) (by have:=HLT.out;omega)).trans HG2.out⟩
  case round =>
   obtain⟨tt,v,p',hop,hv,htr,hp,hof,hrb⟩:=hrel;have HV:=hQ hv;have HTR:=hQ htr;have HPP:=hQ hp;have HOF:=hQ hof;have HRB:=hQ hrb
   obtain⟨g,hg⟩:∃ g,gk=g+1:=by
    cases gk with
    | zero=>unfold Ze8 at hop;cases hop
    | succ g=>exact⟨g,rfl⟩
   rw[hg]at hop;have HG:=hQ hg;clear hv htr hp hof hrb hg
   rcases Qrr hop with(⟨hs5,hob,u,q1,hu,hnx⟩|⟨hs5,hob,he⟩) | ⟨hs5,he⟩
   ·have HU:=hQ hu;have HNX:=hQ hnx;clear hu hnx hop;go_wp2_with fail;go_at_call 132;refine(Qbe _ HPP.out).mono ?_;rintro e w3⟨rfl,hb3⟩;have HB3:=hQ hb3;clear hb3;go_wp2_with fail;go_at_call 134;refine(Qg2 (Qad p') _).mono ?_;rintro e w4⟨rfl,hb4⟩;have HB4:=hQ hb4;clear hb4;go_wp2_with fail;go_at_call 133;refine(Qg3 _ ((HPP.out.keep HB3.out).keep HB4.out)).mono ?_;rintro e w5⟨rfl,hp5,ho5⟩;have HP5:=hQ hp5;have HO5:=hQ (((Off.of HB3.out).trans (Off.of HB4.out)).trans ho5);clear hp5 ho5;go_wp2_with fail;go_at_call 85;have HA5:=hQ ((xC w5.heap.size w5).alloc (xA _) (.cells #[.int .i64 (Qad p').kind,.string (Qad p').lead,.string (Qad p').text] 88));refine(HTC.out b 7 _ u q1 _ HU.out (HP5.out.keep HA5.out)).mono ?_;rintro e w6⟨v6,rfl,htr6,hp6,ho6⟩;have HP6:=hQ hp6;have HT6:=hQ htr6;have HTK:=hQ ((ho6.block w5.heap.size (by simp) (by have:=HP5.out.lt;omega)).trans (xH w5 _));have HO6:=hQ (HO5.out.trans ((Off.alloc _).trans ho6));have HS6:=hQ (show wr.heap.size<=w5.heap.size/\w5.heap.size+1<=w6.heap.size from⟨HO5.out.size,by have:=ho6.size;rw[xI]at this;omega⟩);clear hp6 htr6 ho6;go_upto_region 9 with fail
    have HD7:=hQ (Off.alloc (b:=b) (w:=w6) (.cells #[.int .i64 v6.kind,.string v6.text,.slice v6.la v6.ll v6.lc,.slice v6.ka v6.kl v6.kc] 25));have HB7:=hQ ((xC w6.heap.size w6).alloc (xA _) (.cells #[.int .i64 v6.kind,.string v6.text,.slice v6.la v6.ll v6.lc,.slice v6.ka v6.kl v6.kc] 25));have HS7:=hQ (show(w6.alloc (.cells #[.int .i64 v6.kind,.string v6.text,.slice v6.la v6.ll v6.lc,.slice v6.ka v6.kl v6.kc] 25)).heap.size=w6.heap.size+1 from by simp);have G8:=xH w6 (.cells #[.int .i64 v6.kind,.string v6.text,.slice v6.la v6.ll v6.lc,.slice v6.ka v6.kl v6.kc] 25);generalize (w6.alloc (.cells #[.int .i64 v6.kind,.string v6.text,.slice v6.la v6.ll v6.lc,.slice v6.ka v6.kl v6.kc] 25))=w7 at HD7 HB7 HS7 G8 |-;generalize ht8:w6.heap.size=t8 at G8 |-;have HT8:=hQ ht8;have HV6:=hQ (((HO6.out.trans HD7.out).block tb (Qaa HV.out) (by have:=HTB.out;have:=HP2.out.lt;omega)).trans HV.out);have HRB6:=hQ (((HO6.out.trans HD7.out).block w.heap.size (Qaa HRB.out) (by have:=HLT.out;omega)).trans HRB.out);have HTK7:=hQ ((HD7.out.block w5.heap.size (Qaa HTK.out) (by have:=HP5.out.lt;omega)).trans HTK.out);have y1:w7.cell? ⟨w5.heap.size,1,none⟩=some (.string (Qad p').lead):=Qab HTK7.out 1 _ rfl;have y2:w7.cell? ⟨w5.heap.size,2,none⟩=some (.string (Qad p').text):=Qab HTK7.out 2 _ rfl;have k0:w7.cell? ⟨tb,0,none⟩=some (.int .i64 v.kind):=Qab HV6.out 0 _ rfl;have k1:w7.cell? ⟨tb,1,none⟩=some (.string v.text):=Qab HV6.out 1 _ rfl;have k2:w7.cell? ⟨tb,2,none⟩=some (.slice v.la v.ll v.lc):=Qab HV6.out 2 _ rfl;have k3:w7.cell? ⟨tb,3,none⟩=some (.slice v.ka v.kl v.kc):=Qab HV6.out 3 _ rfl;have j0:w7.cell? ⟨t8,0,none⟩=some (.int .i64 v6.kind):=Qab G8 0 _ rfl;have j1:w7.cell? ⟨t8,1,none⟩=some (.string v6.text):=Qab G8 1 _ rfl;have j2:w7.cell? ⟨t8,2,none⟩=some (.slice v6.la v6.ll v6.lc):=Qab G8 2 _ rfl;have j3:w7.cell? ⟨t8,3,none⟩=some (.slice v6.ka v6.kl v6.kc):=Qab G8 3 _ rfl;have e1:=Qaa HTK7.out;have e2:=Qaa HV6.out;have e3:=Qaa G8;have hd:Off b w7 ((w7.alloc (.cells #[.string (Qad p').lead] 9)).alloc (.cells #[.int .i64 v.kind,.string v.text,.slice v.la v.ll v.lc,.slice v.ka v.kl v.kc,.int .i64 v6.kind,.string v6.text,.slice v6.la v6.ll v6.lc,.slice v6.ka v6.kl v6.kc] 25)):=(Off.alloc _).trans (Off.alloc _);have HD:=hQ (HD7.out.trans hd);have hx1:((w7.alloc (.cells #[.string (Qad p').lead] 9)).alloc (.cells #[.int .i64 v.kind,.string v.text,.slice v.la v.ll v.lc,.slice v.ka v.kl v.kc,.int .i64 v6.kind,.string v6.text,.slice v6.la v6.ll v6.lc,.slice v6.ka v6.kl v6.kc] 25)).heap[w7.heap.size]? = some (.cells #[.string (Qad p').lead] 9 (0,0)):=(Below.heap_alloc _ _ _ (by simp)).trans (xH w7 _);have hx2:((w7.alloc (.cells #[.string (Qad p').lead] 9)).alloc (.cells #[.int .i64 v.kind,.string v.text,.slice v.la v.ll v.lc,.slice v.ka v.kl v.kc,.int .i64 v6.kind,.string v6.text,.slice v6.la v6.ll v6.lc,.slice v6.ka v6.kl v6.kc] 25)).heap[w7.heap.size+1]? = some (.cells #[.int .i64 v.kind,.string v.text,.slice v.la v.ll v.lc,.slice v.ka v.kl v.kc,.int .i64 v6.kind,.string v6.text,.slice v6.la v6.ll v6.lc,.slice v6.ka v6.kl v6.kc] 25 (0,0)):=Qjx w7 _ _ _;have HX1:=hQ hx1;have HX2:=hQ hx2;have HSA:=hQ (show((w7.alloc (.cells #[.string (Qad p').lead] 9)).alloc (.cells #[.int .i64 v.kind,.string v.text,.slice v.la v.ll v.lc,.slice v.ka v.kl v.kc,.int .i64 v6.kind,.string v6.text,.slice v6.la v6.ll v6.lc,.slice v6.ka v6.kl v6.kc] 25)).heap.size=w7.heap.size+1+1 from by simp);have HV7:=hQ ((hd.block tb (Qaa HV6.out) (by have:=HTB.out;have:=HP2.out.lt;omega)).trans HV6.out);have kf7:=xL HV7.out;have kf6:=xL HV6.out;clear hd hx1 hx2 G8 ht8;go_wp2_with fail
    go_roundg g
    case measure=>have:=HG.out;omega
    case rel =>
     have hR:Rest (fun k=>k=tb) w7 ((((w7.setCell ⟨tb,0,none⟩ (.int .i64 21)).setCell ⟨tb,1,none⟩ (.string (Qad p').text)).setCell ⟨tb,2,none⟩ (.slice (some ⟨w7.heap.size,0,none⟩) 1 1)).setCell ⟨tb,3,none⟩ (.slice (some ⟨w7.heap.size+1,0,none⟩) 2 2)):=(((Rest.set1 _ _ _).trans (Rest.set1 _ _ _)).trans (Rest.set1 _ _ _)).trans (Rest.set1 _ _ _);have g0:(w7.setCell ⟨tb,0,none⟩ (.int .i64 21)).heap[tb]? = some (.cells #[.int .i64 21,.string v.text,.slice v.la v.ll v.lc,.slice v.ka v.kl v.kc] 25 (0,0)):=Qa1 HV6.out rfl;have g1:((w7.setCell ⟨tb,0,none⟩ (.int .i64 21)).setCell ⟨tb,1,none⟩ (.string (Qad p').text)).heap[tb]? = some (.cells #[.int .i64 21,.string (Qad p').text,.slice v.la v.ll v.lc,.slice v.ka v.kl v.kc] 25 (0,0)):=Qa1 g0 rfl;have g2:(((w7.setCell ⟨tb,0,none⟩ (.int .i64 21)).setCell ⟨tb,1,none⟩ (.string (Qad p').text)).setCell ⟨tb,2,none⟩ (.slice (some ⟨w7.heap.size,0,none⟩) 1 1)).heap[tb]? = some (.cells #[.int .i64 21,.string (Qad p').text,.slice (some ⟨w7.heap.size,0,none⟩) 1 1,.slice v.ka v.kl v.kc] 25 (0,0)):=Qa1 g1 rfl;have g3:((((w7.setCell ⟨tb,0,none⟩ (.int .i64 21)).setCell ⟨tb,1,none⟩ (.string (Qad p').text)).setCell ⟨tb,2,none⟩ (.slice (some ⟨w7.heap.size,0,none⟩) 1 1)).setCell ⟨tb,3,none⟩ (.slice (some ⟨w7.heap.size+1,0,none⟩) 2 2)).heap[tb]? = some (.cells #[.int .i64 21,.string (Qad p').text,.slice (some ⟨w7.heap.size,0,none⟩) 1 1,.slice (some ⟨w7.heap.size+1,0,none⟩) 2 2] 25 (0,0)):=Qa1 g2 rfl;have hs4:((((w7.setCell ⟨tb,0,none⟩ (.int .i64 21)).setCell ⟨tb,1,none⟩ (.string (Qad p').text)).setCell ⟨tb,2,none⟩ (.slice (some ⟨w7.heap.size,0,none⟩) 1 1)).setCell ⟨tb,3,none⟩ (.slice (some ⟨w7.heap.size+1,0,none⟩) 2 2)).heap.size=w7.heap.size:=by simp[World.setCell]
     clear g0 g1 g2;generalize ((((w7.setCell ⟨tb,0,none⟩ (.int .i64 21)).setCell ⟨tb,1,none⟩ (.string (Qad p').text)).setCell ⟨tb,2,none⟩ (.slice (some ⟨w7.heap.size,0,none⟩) 1 1)).setCell ⟨tb,3,none⟩ (.slice (some ⟨w7.heap.size+1,0,none⟩) 2 2))=s4 at hR g3 hs4 |-;have htb1:tb<w7.heap.size:=Qaa HV6.out;have hwtb:w.heap.size+1<=tb:=by have:=HTB.out;have:=HON.out.size;have:=HW1.out;omega
     have hbw:=HLT.out;have h6:=HS6.out;have h7:=HS7.out;have h8:=HT8.out;have hb2:b<tb:=by omega
     have hA:Rest (fun _=>False) s4 ((s4.alloc (.cells #[.string (Qad p').lead] 9)).alloc (.cells #[.int .i64 v.kind,.string v.text,.slice v.la v.ll v.lc,.slice v.ka v.kl v.kc,.int .i64 v6.kind,.string v6.text,.slice v6.la v6.ll v6.lc,.slice v6.ka v6.kl v6.kc] 25)):=(Rest.alloc _).trans (Rest.alloc _);have hsz:((s4.alloc (.cells #[.string (Qad p').lead] 9)).alloc (.cells #[.int .i64 v.kind,.string v.text,.slice v.la v.ll v.lc,.slice v.ka v.kl v.kc,.int .i64 v6.kind,.string v6.text,.slice v6.la v6.ll v6.lc,.slice v6.ka v6.kl v6.kc] 25)).heap.size=w7.heap.size+1+1:=by rw[xI,xI,hs4]
     have hx1:((s4.alloc (.cells #[.string (Qad p').lead] 9)).alloc (.cells #[.int .i64 v.kind,.string v.text,.slice v.la v.ll v.lc,.slice v.ka v.kl v.kc,.int .i64 v6.kind,.string v6.text,.slice v6.la v6.ll v6.lc,.slice v6.ka v6.kl v6.kc] 25)).heap[w7.heap.size]? = some (.cells #[.string (Qad p').lead] 9 (0,0)):=(Below.heap_alloc _ _ _ (by rw[xI];omega)).trans (by rw[<-hs4];exact xH s4 _);have hx2:((s4.alloc (.cells #[.string (Qad p').lead] 9)).alloc (.cells #[.int .i64 v.kind,.string v.text,.slice v.la v.ll v.lc,.slice v.ka v.kl v.kc,.int .i64 v6.kind,.string v6.text,.slice v6.la v6.ll v6.lc,.slice v6.ka v6.kl v6.kc] 25)).heap[w7.heap.size+1]? = some (.cells #[.int .i64 v.kind,.string v.text,.slice v.la v.ll v.lc,.slice v.ka v.kl v.kc,.int .i64 v6.kind,.string v6.text,.slice v6.la v6.ll v6.lc,.slice v6.ka v6.kl v6.kc] 25 (0,0)):=by rw[<-hs4];exact Qjx s4 _ _ _
     have hg3:((s4.alloc (.cells #[.string (Qad p').lead] 9)).alloc (.cells #[.int .i64 v.kind,.string v.text,.slice v.la v.ll v.lc,.slice v.ka v.kl v.kc,.int .i64 v6.kind,.string v6.text,.slice v6.la v6.ll v6.lc,.slice v6.ka v6.kl v6.kc] 25)).heap[tb]? = _:=(hA.block tb (by omega) (fun h=>h)).trans g3;have hRA:Rest (fun k=>k=tb) w7 ((s4.alloc (.cells #[.string (Qad p').lead] 9)).alloc (.cells #[.int .i64 v.kind,.string v.text,.slice v.la v.ll v.lc,.slice v.ka v.kl v.kc,.int .i64 v6.kind,.string v6.text,.slice v6.la v6.ll v6.lc,.slice v6.ka v6.kl v6.kc] 25)):=hR.trans (hA.mono (fun _ _ h=>h.elim));generalize ((s4.alloc (.cells #[.string (Qad p').lead] 9)).alloc (.cells #[.int .i64 v.kind,.string v.text,.slice v.la v.ll v.lc,.slice v.ka v.kl v.kc,.int .i64 v6.kind,.string v6.text,.slice v6.la v6.ll v6.lc,.slice v6.ka v6.kl v6.kc] 25))=wf at hsz hx1 hx2 hg3 hRA |-
     have ht':TrAt (fun k=>w.heap.size+1<=k/\k<wf.heap.size/\k≠tb) wf tt v:=by
      have t1:=Qvk (S':=fun k=>w.heap.size+1<=k/\k<w7.heap.size/\k≠tb) HTR.out (HO6.out.trans HD7.out) (fun k hk=>by have:=hk.1;omega) (fun k hk=>⟨hk.1,by have:=hk.2.1;omega,hk.2.2⟩);exact TrAt.move (fun k hk=>⟨hk.1,by have:=hk.2.1;omega,hk.2.2⟩) (fun k hk hlt=>hRA.block k hlt hk.2.2) _ _ t1
     have hu':TrAt (fun k=>w.heap.size+1<=k/\k<wf.heap.size/\k≠tb) wf u v6:=by
      have t1:=Qvk (S':=fun k=>w.heap.size+1<=k/\k<w7.heap.size/\k≠tb) HT6.out HD7.out (fun k hk=>by have:=hk.1;rw[xI]at this;have:=HP5.out.lt;omega) (fun k hk=>⟨by have:=hk.1;rw[xI]at this;have:=HOF.out.size;have:=HON.out.size;have:=HW1.out;omega,by have:=hk.2;omega,by have:=hk.1;rw[xI]at this;have:=Qaa HV.out;omega⟩);exact TrAt.move (fun k hk=>⟨hk.1,by have:=hk.2.1;omega,hk.2.2⟩) (fun k hk hlt=>hRA.block k hlt hk.2.2) _ _ t1
     refine⟨.mk 21 (Qad p').text [(Qad p').lead] [tt,u],⟨21,(Qad p').text,some ⟨w7.heap.size,0,none⟩,1,1,some ⟨w7.heap.size+1,0,none⟩,2,2⟩,q1,HNX.out,hg3,Zlo (Qab hx1 0 _ rfl) ⟨by omega,by omega⟩ ⟨by omega,by omega⟩ hx2 ht' hu',?_,?_,(hRA.block w.heap.size (by omega) (by omega)).trans HRB6.out⟩
     ·exact(HP6.out.keep HB7.out).upto fun k hk=>hRA.block k (by omega) (by omega)
     ·have hOA:=HOF.out.trans (HO6.out.trans HD7.out);exact⟨hRA.os.trans hOA.os,hRA.tape.trans hOA.tape,hRA.output.trans hOA.output,xQ hOA.size hRA.size,fun k hk hkb=>(hRA.block k (xE hk hOA.size) (by omega)).trans (hOA.block k hk hkb)⟩
   ·have HE:=hQ he;clear he hop;go_wp2_with fail;go_at_call 132;refine(Qbe _ HPP.out).mono ?_;rintro e w3⟨rfl,hb3⟩;have HB3:=hQ hb3;clear hb3;go_wp2_with fail;go_at_call 134;refine(Qg2 (Qad p') _).mono ?_;rintro e w4⟨rfl,hb4⟩;have HB4:=hQ (yC HB3.out hb4);clear hb4;replace HV:=hQ ((HB4.out.block tb (Qaa HV.out)).trans HV.out);replace HRB:=hQ ((HB4.out.block w.heap.size (Qaa HRB.out)).trans HRB.out);replace HTR:=hQ (Qvk (S':=fun k=>w.heap.size+1<=k/\k<w4.heap.size/\k≠tb) HTR.out (Off.of (b:=b) HB4.out) (fun k hk=>by have:=HLT.out;have:=hk.1;omega) (fun k hk=>⟨hk.1,xE hk.2.1 HB4.out.size,hk.2.2⟩));replace HPP:=hQ (HPP.out.keep HB4.out);replace HOF:=hQ (HOF.out.trans (Off.of HB4.out));have he:=HE.out;injection he with he1 he2;subst he1 he2;have k0:=Qab HV.out 0 _ rfl;have k1:=Qab HV.out 1 _ rfl;have k2:=Qab HV.out 2 _ rfl;have k3:=Qab HV.out 3 _ rfl;have r0:=Qab HRB.out 0 _ rfl;have r1:=Qab HRB.out 1 _ rfl;have r2:=Qab HRB.out 2 _ rfl;have r3:=Qab HRB.out 3 _ rfl;have rf:=xL HRB.out;go_wp2;refine bodyPost_ret (v:=.agg #[.int .i64 v.kind,.string v.text,.slice v.la v.ll v.lc,.slice v.ka v.kl v.kc]) (by simp[results,results85,go_sem, *]) rfl ?_;have hoff:=(((HOF.out.setNew (xA _) 0 (.int .i64 v.kind)).setNew (xA _) 1 (.string v.text)).setNew (xA _) 2 (.slice v.la v.ll v.lc)).setNew (xA _) 3 (.slice v.ka v.kl v.kc);have hR:=(((Rest.set1 (w:=w4) w.heap.size 0 (.int .i64 v.kind)).trans (Rest.set1 w.heap.size 1 (.string v.text))).trans (Rest.set1 w.heap.size 2 (.slice v.la v.ll v.lc))).trans (Rest.set1 w.heap.size 3 (.slice v.ka v.kl v.kc));refine⟨v,rfl,TrAt.move (fun k hk=>⟨by have:=hk.1;omega,xE hk.2.1 hR.size⟩) (fun k hk hlt=>hR.block k hlt (fun e:k=w.heap.size=>by have:=hk.1;omega)) _ _ HTR.out,HPP.out.upto fun k hk=>hR.block k (by have:=HPP.out.lt;omega) (fun e:k=w.heap.size=>by have:=HLT.out;omega),hoff⟩
   ·have HE:=hQ he;clear he hop;have he:=HE.out;injection he with he1 he2;subst he1 he2;have k0:=Qab HV.out 0 _ rfl;have k1:=Qab HV.out 1 _ rfl;have k2:=Qab HV.out 2 _ rfl;have k3:=Qab HV.out 3 _ rfl;have r0:=Qab HRB.out 0 _ rfl;have r1:=Qab HRB.out 1 _ rfl;have r2:=Qab HRB.out 2 _ rfl;have r3:=Qab HRB.out 3 _ rfl;have rf:=xL HRB.out;go_wp2;refine bodyPost_ret (v:=.agg #[.int .i64 v.kind,.string v.text,.slice v.la v.ll v.lc,.slice v.ka v.kl v.kc]) (by simp[results,results85,go_sem, *]) rfl ?_;have hoff:=(((HOF.out.setNew (xA _) 0 (.int .i64 v.kind)).setNew (xA _) 1 (.string v.text)).setNew (xA _) 2 (.slice v.la v.ll v.lc)).setNew (xA _) 3 (.slice v.ka v.kl v.kc);have hR:=(((Rest.set1 (w:=wr) w.heap.size 0 (.int .i64 v.kind)).trans (Rest.set1 w.heap.size 1 (.string v.text))).trans (Rest.set1 w.heap.size 2 (.slice v.la v.ll v.lc))).trans (Rest.set1 w.heap.size 3 (.slice v.ka v.kl v.kc));refine⟨v,rfl,TrAt.move (fun k hk=>⟨by have:=hk.1;omega,xE hk.2.1 hR.size⟩) (fun k hk hlt=>hR.block k hlt (fun e:k=w.heap.size=>by have:=hk.1;omega)) _ _ HTR.out,HPP.out.upto fun k hk=>hR.block k (by have:=HPP.out.lt;omega) (fun e:k=w.heap.size=>by have:=HLT.out;omega),hoff⟩
end Go.Proofs.YtfjpemdejoejbaaGreat
namespace Go.Proofs.YtfjpemdejoejbaaGreat
open Go.Proofs.Tryz
theorem Qgl:(a b:List Tr)->Qdf (a ++ b)=(Qdf a && Qdf b)
 | [],b=>by rw[xU,Qdf,Bool.true_and]
 | t :: r,b=>by rw[xV,Qdf,Qdf,Qgl r b,Bool.and_assoc]
theorem Qox(t:Tr)(h:Qbs t=true):Qdf [t] = true:=by rw[Qdf,h,Qdf];rfl
def Qrs(T:Int->PS->Option (Tr × PS)):Prop:=∀ s p t q,T s p=some (t,q)->Qbs t=true
theorem Qrt{T:Int->PS->Option (Tr × PS)}(hT:Qrs T){x:Part}:∀ (n:Nat) (more:Bool) (ks:List Tr) (cs:List yD) (p:PS) (r:List Tr × List yD × PS),Qdj T x n more ks cs p=some r->Qdf ks=true->Qdf r.1=true:=by
 intro n
 induction n with
 | zero =>
  intro more ks cs p r h hs
  cases more
  ·have:=Qfq h
   subst this;exact hs
  ·unfold Qdj at h;cases h
 | succ n ih =>
  intro more ks cs p r h hs
  cases more
  ·have:=Qfq h
   subst this;exact hs
  ·obtain⟨t,q,ht,hw⟩:=Qh9 h;have h1:Qdf (ks ++ [t])=true:=by rw[Qgl,hs,Qox t (hT _ _ _ _ ht)];rfl
   rcases hw with⟨_,_,hs'⟩|⟨_,_,hs'⟩|⟨_,hs'⟩
   ·exact ih _ _ _ _ _ hs' h1
   ·exact ih _ _ _ _ _ hs' h1
   ·exact ih _ _ _ _ _ hs' h1
theorem Qxu{T:Int->PS->Option (Tr × PS)}(hT:Qrs T){n:Nat}(hn:n<=65536){kind:Int}:∀ (l:List Part) (text:yD) (leads:List yD) (kids:List Tr) (commas:List yD) (p:PS) (r:Tr × PS),Qgr T n kind l text leads kids commas p=some r ->
  leads.length+l.length<=100->kids.length+l.length*65536<=1000000->commas.length<=65536->Qdf kids=true->Qbs r.1=true:=by
 intro l
 induction l with
 | nil =>
  intro text leads kids commas p r h h1 h2 h3 h4;have:=Qrm h
  subst this;rw[xG]at h1 h2;unfold Qbs;simp only[Bool.and_eq_true,decide_eq_true_eq,xB];exact⟨⟨by omega,by omega⟩,h4⟩
 | cons x l ih =>
  intro text leads kids commas p r h h1 h2 h3 h4;rw[xD]at h1 h2
  rcases Qos h with⟨_,s,hs,hg⟩|⟨_,_,t,q,ht,hg⟩|⟨_,_,hg⟩
  ·have hl:=Qm5 _ _ _ _ _ _ hs;simp only[xG]at hl;refine ih _ _ _ _ _ _ hg (by omega) (by rw[xB];omega) (by omega) ?_;rw[Qgl,h4,Qrt hT _ _ _ _ _ _ hs (by rw[Qdf])];rfl
  ·refine ih _ _ _ _ _ _ hg (by omega) (by rw[xB,List.length_singleton];omega) h3 ?_;rw[Qgl,h4,Qox t (hT _ _ _ _ ht)];rfl
  ·have key:∀ s:yD × List yD × PS,s.2.1.length<=leads.length+1->Qgr T n kind l s.1 s.2.1 kids commas s.2.2=some r->Qbs r.1=true:=fun s h5 h6=>ih s.1 s.2.1 kids commas s.2.2 r h6 (xQ (Nat.add_le_add_right h5 _) (by omega)) (xQ (Nat.add_le_add_left (Nat.mul_le_mul_right 65536 (Nat.le_succ l.length)) kids.length) h2) h3 h4
   exact key _ (Qot x text leads p) hg
theorem Qna{T:Int->PS->Option (Tr × PS)}(hT:Qrs T){n:Nat}(hn:n<=65536){kind:Int}{p:PS}{r:Tr × PS}(h:Qgr T n kind (Qae kind) ⟨#[]⟩ [] [] [] p=some r):Qbs r.1=true:=by
 have:=Qi6 kind
 have h1:([]:List yD).length+(Qae kind).length<=100:=by rw[xG];omega
 have h2:([]:List Tr).length+(Qae kind).length*65536<=1000000:=by rw[xG];omega
 exact Qxu hT hn (Qae kind) ⟨#[]⟩ [] [] [] p r h h1 h2 (xZ _) (by rw[Qdf])
theorem Zaw{T:Int->PS->Option (Tr × PS)}(hT:Qrs T){s:Int}:∀ (n:Nat) (t:Tr) (p:PS) (r:Tr × PS),Ze8 T s n t p=some r->Qbs t=true->Qbs r.1=true:=by
 intro n
 induction n with
 | zero=>intro t p r h _;unfold Ze8 at h;cases h
 | succ n ih =>
  intro t p r h ht
  rcases Qrr h with(⟨_,_,u,q,hu,hn⟩|⟨_,_,he⟩) | ⟨_,he⟩
  ·refine ih _ _ _ hn ?_;have h1:=hT _ _ _ _ hu;unfold Qbs;simp only[xD,xG];rw[Qdf,ht,Qdf,h1,Qdf];rfl
  ·subst he;exact ht
  ·subst he;exact ht
theorem Qxv:∀ n,n<=65536->Qrs (Qh6 n):=by
 intro n
 induction n with
 | zero=>intro _ s p t q h;unfold Qh6 at h;cases h
 | succ n ih =>
  intro hn s p t q h;have hT:=ih (by omega)
  rcases Qow h with⟨_,he⟩|⟨_,t0,q0,hN,ho⟩
  ·injection he with h1 _;subst h1;rfl
  ·exact Zaw hT _ _ _ _ ho (Qna hT (by omega) hN)
theorem Zji:∀ n,n<=65536->Qxl (Qh6 n):=by
 intro n
 induction n with
 | zero=>intro _ b s p t q w h;unfold Qh6 at h;cases h
 | succ n ih =>
  intro hn;have hT:=ih (by omega);exact Zjh hT (Zav hT (by omega))
theorem Zjj{n:Nat}(hn:n<=65536):Zi9 (fun k p=>Qgr (Qh6 n) n k (Qae k) ⟨#[]⟩ [] [] [] p):=Zav (Zji n hn) hn
theorem Qxw:Qap [] = 0:=by decide
theorem Zax(ts:List Tok)(tail:List UInt8):(Qlg ts tail).length=(ts.map fun t=>t.lead.size+t.text.size).sum+tail.length:=by
 induction ts with
 | nil=>simp[Qlg]
 | cons t r ih =>
  unfold Qlg at ih |-;rw[List.flatMap_cons,xT,xB,ih,xB,Qf0,Qf0,List.map_cons,List.sum_cons];omega
theorem Zjk(ts:List Tok)(h:∀ t∈ts,Qp1 t):ts.length<=(ts.map fun t=>t.lead.size+t.text.size).sum:=by
 induction ts with
 | nil=>simp
 | cons t r ih =>
  have h1:=ih (fun u hu=>h u (List.mem_cons_of_mem _ hu));obtain⟨h2,h3,_⟩:=h t (List.mem_cons_self ..)
  have h4:0<t.text.size:=by
   rcases Nat.eq_zero_or_pos t.text.size with h0 | h0
   ·exfalso
    have:bl t.text = []:=List.eq_nil_of_length_eq_zero (by rw[Qf0];exact h0)
    rw[this,Qxw]at h2;exact h3 h2.symm
   ·exact h0
  rw[xD,List.map_cons,List.sum_cons];omega
theorem Qoy{s:yD}(h:(Qbp s).e=0):s.size<=4096:=by
 rcases Nat.lt_or_ge 4096 s.size with h' | h'
 ·unfold Qbp at h;rw[xO h']at h;cases h
 ·exact h'
def Qoh(s:yD):PS:=⟨(Qbp s).toks ++ [⟨0,(Qbp s).tail,⟨#[]⟩⟩],0,0,0⟩
theorem Qoz{s:yD}(h:(Qbp s).e=0):(Qbp s).toks.length<=4096/\((Qbp s).toks.map fun t=>t.lead.size+t.text.size).sum+(Qbp s).tail.size=s.size:=by
 obtain⟨h1,h2,_⟩:=(Qi5 s).1 h;have h3:=Zax (Qbp s).toks (bl (Qbp s).tail);rw[h2,Qf0,Qf0]at h3;have h4:=Zjk _ h1;have h5:=Qoy h;exact⟨by omega,h3.symm⟩
theorem Zjl{s:yD}(h:(Qbp s).e=0):PSok (Qoh s):=by
 obtain⟨h1,h2⟩:=Qoz h;have h5:=Qoy h
 refine⟨⟨(Qbp s).toks,_,rfl,rfl⟩,?_,?_,xZ _⟩
 ·show((Qbp s).toks ++ [_]).length<=_
  rw[xB,List.length_singleton];omega
 ·show 0+(((Qbp s).toks ++ [_]).map _).sum<=_
  rw[List.map_append,List.sum_append];simp only[List.map_cons,List.map_nil,List.sum_cons,List.sum_nil];show 0+(_+((Qbp s).tail.size+0+0))<=_
  omega
end Go.Proofs.YtfjpemdejoejbaaGreat
