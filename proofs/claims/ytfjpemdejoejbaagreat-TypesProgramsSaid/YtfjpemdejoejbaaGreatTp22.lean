/- Part 22 -/
import Derived.Test.YtfjpemdejoejbaaGreatTp19
set_option maxRecDepth 100000
set_option maxHeartbeats 4000000
namespace Go.Proofs.YtfjpemdejoejbaaGreat
open Go.Proofs.Tryz Go.RowKit
theorem Qbm:(prog.info? 148).map (fun i=>(i.zero,i.size,i.bytes))=some (some (.agg #[.string ByteArray.empty,.string ByteArray.empty]),2,32):=by kernel_rfl
def Qao(ps:List Qbt):List Value:=ps.flatMap fun p=>[.string p.1,.string p.2]
theorem Qoj(a b:List Qbt):Qao (a ++ b)=Qao a ++ Qao b:=by unfold Qao;rw[List.flatMap_append]
theorem Qav(a:List Qbt):∀ u∈Qao a,u.oneCell'=true:=by
 intro u hu;unfold Qao at hu;rw[List.mem_flatMap]at hu;obtain⟨p,_,hp⟩:=hu;simp at hp
 rcases hp with rfl | rfl <;> rfl
theorem Qj1(a:List Qbt):∀ (i:Nat) (p:Qbt),a[i]? = some p->(Qao a)[i*2]? = some (.string p.1)/\(Qao a)[i*2+1]? = some (.string p.2):=by
 induction a with
 | nil=>intro i p h;simp at h
 | cons q r ih =>
  intro i p h;rw[show Qao (q :: r) = [.string q.1,.string q.2] ++ Qao r from rfl];cases i with
  | zero =>
   simp at h
   subst h;exact⟨rfl,rfl⟩
  | succ i =>
   have:=ih i p (by simpa using h)
   rw[xX (by simp;omega),xX (by simp;omega)];rw[show(i+1)*2 - [Value.string q.1,Value.string q.2].length=i*2 from by simp;omega,show(i+1)*2+1 - [Value.string q.1,Value.string q.2].length=i*2+1 from by simp;omega];exact this
def PRow(w:World)(B:Nat)(l:Value)(ps:List Qbt):Prop:=w.ownsRow B 148 2 l ps.length (Qao ps)
theorem PRow.keep{w w':World}{B:Nat}{l:Value}{ps:List Qbt}(h:PRow w B l ps)(hb:Below w.heap.size w w'):PRow w' B l ps:=by
 refine⟨h.1,?_⟩
 rcases h.2 with h0|⟨g,cap,cur,hv,hb',hh,hr⟩
 ·exact .inl h0
 ·exact .inr ⟨g,cap,cur,hv,hb',(hb.block g (Qaa hh)).trans hh,hr⟩
def Qd3(B:Nat)(ps qs:List Qbt)(l:Value)(w:World)(e:Ending)(w':World):Prop :=
 ∃ l',e = .returned l'/\PRow w' B l' (ps ++ qs)/\w.grownBy w' l.ownBlock/\∀ k,l'.ownBlock=some k->w.heap.size<=k\/l.ownBlock=some k
structure PSt (B:Nat) (l0:Value) (w0:World) (t:Tr) (v:TV) (l:Value) (ps:List Qbt) (w:World):Prop where
 box:w.heap[w0.heap.size]? = some (trO v)
 tree:TrAt (fun k=>k<B) w t v
 row:PRow w B l ps
 base:B<=w0.heap.size
 grow:w0.grownBy w l0.ownBlock
 own:∀ k,l.ownBlock=some k->w0.heap.size<k\/l0.ownBlock=some k
 low:∀ k,l0.ownBlock=some k->k<w0.heap.size
section
variable {B:Nat} {l0:Value} {w0:World} {t:Tr} {v:TV} {l:Value} {ps:List Qbt} {w:World}
theorem PSt.start{w:World}(hl:PRow w B l ps)(ht:TrAt (fun k=>k<B) w t v)(hB:B<=w.heap.size):PSt B l w t v l ps (w.alloc (trO v)) :=
 ⟨xH w _,ht.keep ((xC _ _).alloc (xA _) _),hl.keep ((xC _ _).alloc (xA _) _),hB,World.grownBy_alloc _ _ _,fun _ hk=>.inr hk,fun k hk=>(World.ownsRow.lt hl k hk).2⟩
theorem PSt.lt(h:PSt B l0 w0 t v l ps w):w0.heap.size<w.heap.size:=Qaa h.box
theorem PSt.le(h:PSt B l0 w0 t v l ps w):B<=w.heap.size:=xQ h.base (Nat.le_of_lt h.lt)
theorem PSt.below{w':World}(h:PSt B l0 w0 t v l ps w)(hb:Below w.heap.size w w'):PSt B l0 w0 t v l ps w' :=
 ⟨(hb.block _ h.lt).trans h.box,h.tree.keep hb,h.row.keep hb,h.base,⟨hb.os.trans h.grow.os,hb.tape.trans h.grow.tape,hb.output.trans h.grow.output,xQ h.grow.size hb.size,fun k hk hne=>(hb.block k (xE hk h.grow.size)).trans (h.grow.block k hk hne)⟩,h.own,h.low⟩
theorem PSt.drew(h:PSt B l0 w0 t v l ps w):PSt B l0 w0 t v l ps w.drew:=h.below ((xC _ _).drew)
theorem PSt.alloc(h:PSt B l0 w0 t v l ps w)(o:Obj):PSt B l0 w0 t v l ps (w.alloc o):=h.below ((xC _ _).alloc (xA _) o)
theorem PSt.call{w':World}{l':Value}{qs:List Qbt}(h:PSt B l0 w0 t v l ps w)(hr:PRow w' B l' (ps ++ qs))(hg:w.grownBy w' l.ownBlock)(ho:∀ k,l'.ownBlock=some k->w.heap.size<=k\/l.ownBlock=some k):PSt B l0 w0 t v l' (ps ++ qs) w':=by
 have hne:l.ownBlock≠some w0.heap.size:=fun e=>by
  rcases h.own _ e with h1 | h1
  ·omega
  ·have:=h.low _ h1;omega
 have hB:∀ k,k<B->w'.heap[k]? = w.heap[k]?:=fun k hk=>hg.block k (xE hk h.le) (fun e=>by have:=(World.ownsRow.lt h.row k e.symm).1;omega)
 refine⟨(hg.block _ h.lt (fun e=>hne e.symm)).trans h.box,TrAt.move (fun _ h=>h) (fun k hk _=>hB k hk) _ _ h.tree,hr,h.base,?_,fun k hk=>?_,h.low⟩
 ·refine⟨hg.os.trans h.grow.os,hg.tape.trans h.grow.tape,hg.output.trans h.grow.output,xQ h.grow.size hg.size,fun k hk hn=>?_⟩;refine(hg.block k (xE hk h.grow.size) (fun e=>?_)).trans (h.grow.block k hk hn)
  rcases h.own k e.symm with h1 | h1
  ·omega
  ·exact hn h1.symm
 ·rcases ho k hk with h1 | h1
  ·exact .inl (xE h.lt h1)
  ·exact h.own k h1
theorem PSt.keepB{w':World}(h:PSt B l0 w0 t v l ps w)(hg:w.grownBy w' l.ownBlock)(k:Nat)(hk:k<B):w'.heap[k]? = w.heap[k]? :=
 hg.block k (xE hk h.le) (fun e=>by have:=(World.ownsRow.lt h.row k e.symm).1;omega)
theorem PSt.app{w':World}{g m c H:Nat}{qs:List Qbt}(h:PSt B l0 w0 t v l ps w)(hm:m=qs.length)(hown:w'.ownsRow B 148 2 (.slice (some ⟨g,0,none⟩) (ps.length+m) c) (ps.length+m) (Qao ps ++ Qao qs))(hg:w.grownBy w' l.ownBlock)(hat:l.ownBlock=some g\/g=H)(hH:w.heap.size<=H):PSt B l0 w0 t v (.slice (some ⟨g,0,none⟩) (ps.length+m) c) (ps ++ qs) w':=by
 refine h.call ?_ hg (fun k hk=>?_)
 ·unfold PRow;rw[xB,<-hm,Qoj];exact hown
 ·injection hk with hk;subst hk
  rcases hat with h1 | h1
  ·exact .inr h1
  ·exact .inl (by show w.heap.size<=g;omega)
theorem PSt.rowN(h:PSt B l0 w0 t v l ps w){n:Nat}(hn:ps.length=n):w.ownsRow B 148 2 l n (Qao ps):=hn ▸ h.row
theorem PSt.appN{w':World}{g m c H n:Nat}{qs:List Qbt}(h:PSt B l0 w0 t v l ps w)(hn:ps.length=n)(hm:m=qs.length)(hown:w'.ownsRow B 148 2 (.slice (some ⟨g,0,none⟩) (n+m) c) (n+m) (Qao ps ++ Qao qs))(hg:w.grownBy w' l.ownBlock)(hat:l.ownBlock=some g\/g=H)(hH:w.heap.size<=H):PSt B l0 w0 t v (.slice (some ⟨g,0,none⟩) (n+m) c) (ps ++ qs) w':=by
 subst hn;exact h.app hm hown hg hat hH
theorem PSt.post{e:Ending}(h:PSt B l0 w0 t v l ps w){ps0 qs:List Qbt}(he:ps=ps0 ++ qs)(hr:e = .returned l):Qd3 B ps0 qs l0 w0 e w :=
 ⟨l,hr,he ▸ h.row,h.grow,fun k hk=>(h.own k hk).imp Nat.le_of_lt id⟩
theorem PSt.cells(h:PSt B l0 w0 t v l ps w):w.cell? ⟨w0.heap.size,0,none⟩=some (.int .i64 v.kind)/\w.cell? ⟨w0.heap.size,1,none⟩=some (.string v.text)/\w.cell? ⟨w0.heap.size,2,none⟩=some (.slice v.la v.ll v.lc)/\w.cell? ⟨w0.heap.size,3,none⟩=some (.slice v.ka v.kl v.kc) :=
 ⟨Qab h.box 0 _ rfl,Qab h.box 1 _ rfl,Qab h.box 2 _ rfl,Qab h.box 3 _ rfl⟩
theorem PSt.c4{k:Int}{x:yD}{la ka:yE}{ll lc kl kc:Nat}(h:PSt B l0 w0 t ⟨k,x,la,ll,lc,ka,kl,kc⟩ l ps w):w.cell? ⟨w0.heap.size,0,none⟩=some (.int .i64 k)/\w.cell? ⟨w0.heap.size,1,none⟩=some (.string x)/\w.cell? ⟨w0.heap.size,2,none⟩=some (.slice la ll lc)/\w.cell? ⟨w0.heap.size,3,none⟩=some (.slice ka kl kc):=h.cells
end
theorem Qsb(S:Nat->Prop)(t:Tr)(v:TV)(k:Nat)(w:World)(h:TrAt S w t v)(hk:k<=100000):Calls prog 168 #[.agg #[.int .i64 v.kind,.string v.text,.slice v.la v.ll v.lc,.slice v.ka v.kl v.kc],.int .i64 k] w fun e w'=>e = .returned (.string (ldR t.leads k))/\Below w.heap.size w w':=by
 have hll:=h.kl.2.1;have HB0:=hQ ((xC w.heap.size w).alloc (xA _) (trO v));have HX:=hQ (xH w (trO v));have HT:=hQ h;have k2:(w.alloc (trO v)).cell? ⟨w.heap.size,2,none⟩=some (.slice v.la v.ll v.lc):=Qab HX.out 2 _ rfl;obtain⟨vk,vx,vla,vll,vlc,vka,vkl,vkc⟩:=v;simp only at hll;subst hll;clear h
 by_cases hlt:k<t.leads.length
 ·obtain⟨y,hy⟩:∃ y,t.leads[k]? = some y:=⟨_,xF hlt⟩;have HR:=hQ (show ldR t.leads k=y from by unfold ldR;rw[hy];rfl);obtain⟨b,off,hla⟩:∃ b off,vla=some ⟨b,off,none⟩:=HT.out.laddr.resolve_left (by omega);subst hla;have y0:=HT.out.lat rfl hy;have hk0:(0:Int)<=(k:Int):=by omega
  have hk1:(k:Int)<(t.leads.length:Int):=by omega
  clear hy;have ybl:=xK _ _ y0;go_enter func168,ntmps168;go_wp2;go_ret;exact⟨by rw[HR.out];rfl,HB0.out⟩
 ·have HR:=hQ (show ldR t.leads k=⟨#[]⟩ from by unfold ldR;rw[List.getElem?_eq_none (by omega)];rfl);go_enter func168,ntmps168;go_wp2;go_ret;exact⟨by rw[HR.out];rfl,HB0.out⟩
theorem Qiy(co:Bool)(cs:List yD):∀ (a b:List (List Qbt)) (i:Nat),Qbh co cs i (a ++ b)=Qbh co cs i a ++ Qbh co cs (i+a.length) b
 | [],b,i=>by rw[xU,Qbh,xU,xG,Nat.add_zero]
 | p :: r,b,i=>by rw[xV,Qbh,Qbh,Qiy co cs r b (i+1),xD,show i+1+r.length=i+(r.length+1) from by omega];simp only[xT]
theorem Qsc(ls:List yD)(c:Nat)(ks:List Tr)(i:Nat):(Qgd ls c (ks.take i)).length<=(Qgd ls c ks).length:=by
 unfold Qgd
 conv=>rhs;rw[<-List.take_append_drop i ks,List.map_append,Qiy,xB]
 omega
theorem Qay(S:Nat->Prop)(t:Tr)(v:TV)(z:Int)(k:Nat)(hz:z=(k:Int))(w:World)(h:TrAt S w t v)(hk:k<=100000):Calls prog 168 #[.agg #[.int .i64 v.kind,.string v.text,.slice v.la v.ll v.lc,.slice v.ka v.kl v.kc],.int .i64 z] w fun e w'=>e = .returned (.string (ldR t.leads k))/\Below w.heap.size w w':=by
 subst hz;exact Qsb S t v k w h hk
def PcC(N:Nat):Prop:=∀ (B:Nat) (l:Value) (ps:List Qbt) (t:Tr) (v:TV) (w:World),SizeOf.sizeOf t<=N->TrAt (fun k=>k<B) w t v->Qam t=true->Qai t<=1000->PRow w B l ps->B<=w.heap.size->ps.length+(Qaf t).length<=1000000 ->
  Calls prog 144 #[l,.agg #[.int .i64 v.kind,.string v.text,.slice v.la v.ll v.lc,.slice v.ka v.kl v.kc]] w (Qd3 B ps (Qaf t) l w)
def Zna(B:Nat)(l0:Value)(w0:World)(t:Tr)(v:TV)(ps:List Qbt)(comma to:Nat)(l i:Value)(w:World):Prop :=
 ∃ j:Nat,i = .int .i64 j/\j<=to/\PSt B l0 w0 t v l (ps ++ Qgd t.leads comma (t.kids.take j)) w
def Znb(B:Nat)(l0:Value)(w0:World)(t:Tr)(v:TV)(ps:List Qbt)(l i:Value)(w:World):Prop :=
 ∃ j:Nat,i = .int .i64 j/\j<=t.kids.length/\PSt B l0 w0 t v l (ps ++ (List.map Qaf (List.take j t.kids)).flatten) w
theorem Qqp{N:Nat}(ih:PcC N)(B:Nat)(l:Value)(ps:List Qbt)(t:Tr)(v:TV)(to comma:Nat)(w:World)(hN:SizeOf.sizeOf t<=N+1)(ht:TrAt (fun k=>k<B) w t v)(hz:Qai t<=1000)(hto:to<=t.kids.length)(hc:comma<=10)
  (hsh:∀ (j:Nat) (k:Tr),t.kids[j]? = some k->Qam k=true) (hl:PRow w B l ps) (hB:B<=w.heap.size) (hb:ps.length+(Qgd t.leads comma (t.kids.take to)).length<=1000000) :
  Calls prog 169 #[l,.agg #[.int .i64 v.kind,.string v.text,.slice v.la v.ll v.lc,.slice v.ka v.kl v.kc],.int .i64 0,.int .i64 to,.int .i64 comma] w (Qd3 B ps (Qgd t.leads comma (t.kids.take to)) l w):=by
 have hkl:=ht.kl;obtain⟨vk,vx,vla,vll,vlc,vka,vkl,vkc⟩:=v;simp only at hkl;obtain⟨rfl,rfl,rfl,rfl⟩:=hkl;have HIH:=hQ ih;have HN:=hQ hN;have HZ:=hQ hz;have HTO:=hQ hto;have HSH:=hQ hsh;have HBD:=hQ hb;have HST:=hQ (PSt.start hl ht hB);have hkn:t.kids.length<=1000:=by have:=Qa0 t.kids;have:=Qa5 t;omega
 have hto2:(to:Int)<=1000:=by omega
 have hc2:(comma:Int)<=10:=by omega
 obtain⟨ip,hip,pz0,pz1,pz2⟩:=info_parts Qbm;clear ih hN ht hz hsh hl hB hb hto;go_enter func169,ntmps169;go_wp2
 go_loopw [0,11] (fun l' i wr=>Zna B l w t ⟨t.kind,t.text,vla,t.leads.length,vlc,vka,t.kids.length,vkc⟩ ps comma to l' i wr) (fun _ i _=>to-(intOf i).toNat)
 case atStart=>exact⟨0,rfl,xZ _,by rw[List.take_zero,Zgu,List.append_nil];exact HST.out⟩
 case round =>
  obtain⟨j,rfl,hj,hst⟩:=hrel;have HS1:=hQ hst;clear hst
  by_cases hlt:j<to
  ·obtain⟨a,ha⟩:∃ a,t.kids[j]? = some a:=⟨_,xF (by have:=HTO.out;omega)⟩
   have HRW:=hQ (show Qgd t.leads comma (t.kids.take (j+1))=Qgd t.leads comma (t.kids.take j) ++ ((if 0<j then [(ldR t.leads (comma+j-1),⟨#[44]⟩)] else []) ++ Qaf a) from by
    rw[Qhr ha,Zb0,List.length_take,Nat.min_eq_left (by have:=HTO.out;omega)])
   have HLE:=hQ (show ps.length+(Qgd t.leads comma (t.kids.take (j+1))).length<=1000000 from by
    have h1:=Qsc t.leads comma (t.kids.take to) (j+1);rw[List.take_take,Nat.min_eq_left (by omega)]at h1;have:=HBD.out
    omega)
   obtain⟨xb,xo,hka⟩:∃ b off,vka=some ⟨b,off,none⟩:=HS1.out.tree.addr.resolve_left (by show t.kids.length≠0;have:=HTO.out;omega);subst hka;obtain⟨u,c0,c1,c2,c3,hu⟩:=HS1.out.tree.at rfl ha;obtain⟨k0,k1,k2,k3⟩:=HS1.out.c4;have HNA:=hQ (show SizeOf.sizeOf a<=N from by have:=Qar ha;have:=HN.out;omega);have HZA:=hQ (show Qai a<=1000 from by have:=Qbi ha;have:=HZ.out;omega);have HSA:=hQ (HSH.out j a ha);have HU:=hQ hu;have HA:=hQ ha;have hj0:(0:Int)<=(j:Int):=by omega
   have hj1:(j:Int)<(t.kids.length:Int):=by have:=HTO.out;omega
   have hj2:(j:Int)+1<=1000:=by omega
   generalize hPS:ps ++ Qgd t.leads comma (t.kids.take j)=PS at HS1;have HPS:=hQ hPS
   have HPL:=hQ (show PS.length+((if 0<j then [(ldR t.leads (comma+j-1),(⟨#[44]⟩:yD))] else []) ++ Qaf a).length<=1000000 from by
    have h1:=HLE.out;rw[HRW.out,xB]at h1;rw[<-hPS,xB];omega)
   clear ha hu hPS
   by_cases h0:j=0
   ·have d0:decide (0<j)=false:=xR (by omega);have d1:decide ((0:Int)<(j:Int))=false:=xR (by omega);have hbl:=HPL.out;rw[xN (by omega),xU]at hbl;have HBL:=hQ hbl;have H0:=hQ h0;clear hbl h0;go_wp2_with (go_at_call 144;refine(HIH.out B _ PS a u _ HNA.out HU.out HSA.out HZA.out HS1.out.row HS1.out.le HBL.out).mono ?_;rintro e w4⟨l4,rfl,hr4,hg4,ho4⟩;have HS4:=hQ (HS1.out.call hr4 hg4 ho4);clear hr4 hg4 ho4 k0 k1 k2 k3 c0 c1 c2 c3)
    go_roundw
    case measure=>simp[intOf];omega
    case rel=>exact⟨j+1,by go_num,by omega,by
     have h4:=HS4.out;rw[<-HPS.out,xT]at h4;rw[HRW.out,xN (by have:=H0.out;omega),xU];exact h4⟩
   ·have d0:decide (0<j)=true:=xS (by omega);have d1:decide ((0:Int)<(j:Int))=true:=xS (by omega);have hbl:=HPL.out;rw[xO (by omega),xB,xD,xG]at hbl;have HBL:=hQ (show(PS ++ [(ldR t.leads (comma+j-1),(⟨#[44]⟩:yD))]).length+(Qaf a).length<=1000000 from by rw[xB,xD,xG];omega);have hb1:PS.length+1<=1000000:=by omega
    have HLD:=hQ (fun(w:World) (h:TrAt (fun k=>k<B) w t ⟨t.kind,t.text,vla,t.leads.length,vlc,some ⟨xb,xo,none⟩,t.kids.length,vkc⟩)=>by
     have h1:=Qsb _ t ⟨t.kind,t.text,vla,t.leads.length,vlc,some ⟨xb,xo,none⟩,t.kids.length,vkc⟩ (comma+j-1) w h (by omega);rw[show((comma+j-1:Nat):Int)=(comma:Int)+(j:Int)-1 from by omega]at h1;exact h1)
    clear hbl
    go_wp2_with (first
     | (go_at_call 168;refine(HLD.out _ HS1.out.tree).mono ?_;rintro e w2⟨rfl,hb2⟩;have HS2:=hQ (HS1.out.below hb2);clear hb2 k0 k1 k2 k3 c0 c1 c2 c3)
     | (at_builtin;refine wpList_append_lies _ rfl _ _ 145 rfl B 148 ip _ 2 32 underlying145 hip pz0 pz1 pz2 rfl (by decide) u0 PS.length (Qao PS) rfl (HS2.out.alloc _).row ⟨w2.heap.size,0,none⟩ 1 1 (Qao [(ldR t.leads (comma+j-1),(⟨#[44]⟩:yD))]) rfl rfl (xM (cs:=#[.string (ldR t.leads (comma+j-1)),.string ⟨#[44]⟩]) (t:=148) (fr:=(0,0)) (xH w2 _)) (Qav _) (by decide) (by unfold maxLen;omega) (by omega) (HS2.out.alloc _).le _ rfl ?_;intro g3 c3 w3 hown hgr hat hlt3;have HS3:=hQ ((HS2.out.alloc _).app (qs:=[(ldR t.leads (comma+j-1),(⟨#[44]⟩:yD))]) rfl hown hgr hat (xA _));clear hown hgr hat hlt3;obtain⟨k0,k1,k2,k3⟩:=HS3.out.c4;obtain⟨u3,c0,c1,c2,c3',hu⟩:=HS3.out.tree.at rfl HA.out;have HU3:=hQ hu;clear hu)
     | (go_at_call 144;refine(HIH.out B _ (PS ++ [(ldR t.leads (comma+j-1),(⟨#[44]⟩:yD))]) a u3 _ HNA.out HU3.out HSA.out HZA.out HS3.out.row HS3.out.le HBL.out).mono ?_;rintro e w4⟨l4,rfl,hr4,hg4,ho4⟩;have HS4:=hQ (HS3.out.call hr4 hg4 ho4);clear hr4 hg4 ho4 k0 k1 k2 k3 c0 c1 c2 c3'))
    go_roundw
    case measure=>simp[intOf];omega
    case rel=>exact⟨j+1,by go_num,by omega,by
     have h4:=HS4.out;rw[<-HPS.out,xT,xT]at h4;rw[HRW.out,xO (by omega)];exact h4⟩
  ·have hje:j=to:=by omega
   subst hje;go_wp2;go_ret;exact HS1.out.post rfl rfl
theorem Zcd{N:Nat}(ih:PcC N)(B:Nat)(l:Value)(ps:List Qbt)(x:yD)(ls:List yD)(vla vka:yE)(vlc vkc:Nat)(w:World)(_hN:SizeOf.sizeOf (Tr.mk 5 x ls [])<=N+1)(ht:TrAt (fun k=>k<B) w (Tr.mk 5 x ls []) ⟨5,x,vla,ls.length,vlc,vka,0,vkc⟩)
  (_hz:Qai (Tr.mk 5 x ls [])<=1000) (hl:PRow w B l ps) (hB:B<=w.heap.size) (hb:ps.length+(Qaf (Tr.mk 5 x ls [])).length<=1000000) :
  Calls prog 144 #[l,.agg #[.int .i64 5,.string x,.slice vla ls.length vlc,.slice vka 0 vkc]] w (Qd3 B ps (Qaf (Tr.mk 5 x ls [])) l w):=by
 have HIH:=hQ ih;have HBD:=hQ hb;have HEQ:=hQ (Qfs x ls 5 ⟨#[73,110,116]⟩ rfl);have HST:=hQ (PSt.start hl ht hB);obtain⟨ip,hip,pz0,pz1,pz2⟩:=info_parts Qbm;clear ih ht hl hB hb ;go_enter func144,ntmps144;go_wp2_with fail;generalize hW0:w.alloc (.cells #[.int .i64 5,.string x,.slice vla ls.length vlc,.slice vka 0 vkc] 25)=W0 at |-;have HS0:=hQ (show PSt B l w (Tr.mk 5 x ls []) ⟨5,x,vla,ls.length,vlc,vka,0,vkc⟩ l ps W0 from hW0 ▸ HST.out);clear HST hW0;obtain⟨k0,k1,k2,k3⟩:=HS0.out.c4;obtain⟨n1,hn1⟩:∃ n,(ps).length=n:=⟨_,rfl⟩;have HQ1:=hQ hn1;clear hn1;have HM1:=hQ (show n1+1<=1000000 from by have h:=HBD.out;rw[<-HQ1.out];rw[HEQ.out]at h;(try simp only[xD,xG]at h |-);omega);have HL1:=hQ (show(ps).length+1<=1000000 from by have h:=HBD.out;rw[HEQ.out]at h;(try simp only[xD,xG]at h |-);omega)
 go_wp2_with (first
  | (go_at_call 168;((with_reducible refine(Qay _ (Tr.mk 5 x ls []) ⟨5,x,vla,ls.length,vlc,vka,0,vkc⟩ 0 0 rfl _ HS0.out.tree (by decide)).mono ?_);rintro e w1⟨rfl,hb⟩;have HS1:=hQ (HS0.out.below hb);clear k0 k1 k2 k3;obtain⟨k0,k1,k2,k3⟩:=HS1.out.c4;clear hb))
  | (at_builtin;refine wpList_append_lies _ (by rfl) _ _ 145 (by rfl) B 148 ip _ 2 32 underlying145 hip pz0 pz1 pz2 rfl (by decide) _ n1 (Qao (ps)) (by rfl) ((HS1.out.alloc _).rowN HQ1.out) ⟨w1.heap.size,0,none⟩ 1 1 (Qao [(ldR ls 0,(⟨#[73,110,116]⟩:yD))]) (by rfl) (by rfl) (xM (cs:=#[.string (ldR ls 0),.string ⟨#[73,110,116]⟩]) (t:=148) (fr:=(0,0)) (xH w1 _)) (Qav _) (by decide) (by unfold maxLen;have:=HM1.out;omega) (by have:=HM1.out;omega) (HS1.out.alloc _).le _ (by rfl) ?_;intro g cw2 w2 hown hgr hat hlt;have HS2:=hQ ((HS1.out.alloc _).appN HQ1.out (qs:=[(ldR ls 0,(⟨#[73,110,116]⟩:yD))]) rfl hown hgr hat (xA _));clear k0 k1 k2 k3;obtain⟨k0,k1,k2,k3⟩:=HS2.out.c4;clear hown hgr hat hlt))
 go_ret;exact HS2.out.post (by rw[HEQ.out];first | done | (simp only[xT,xV,xU];done) | (simp only[xT,xV,xU];rfl) | (simp;done)) rfl
theorem Zce{N:Nat}(ih:PcC N)(B:Nat)(l:Value)(ps:List Qbt)(x:yD)(ls:List yD)(vla vka:yE)(vlc vkc:Nat)(w:World)(_hN:SizeOf.sizeOf (Tr.mk 6 x ls [])<=N+1)(ht:TrAt (fun k=>k<B) w (Tr.mk 6 x ls []) ⟨6,x,vla,ls.length,vlc,vka,0,vkc⟩)
  (_hz:Qai (Tr.mk 6 x ls [])<=1000) (hl:PRow w B l ps) (hB:B<=w.heap.size) (hb:ps.length+(Qaf (Tr.mk 6 x ls [])).length<=1000000) :
  Calls prog 144 #[l,.agg #[.int .i64 6,.string x,.slice vla ls.length vlc,.slice vka 0 vkc]] w (Qd3 B ps (Qaf (Tr.mk 6 x ls [])) l w):=by
 have HIH:=hQ ih;have HBD:=hQ hb;have HEQ:=hQ (Qfs x ls 6 ⟨#[84,101,120,116]⟩ rfl);have HST:=hQ (PSt.start hl ht hB);obtain⟨ip,hip,pz0,pz1,pz2⟩:=info_parts Qbm;clear ih ht hl hB hb ;go_enter func144,ntmps144;go_wp2_with fail;generalize hW0:w.alloc (.cells #[.int .i64 6,.string x,.slice vla ls.length vlc,.slice vka 0 vkc] 25)=W0 at |-;have HS0:=hQ (show PSt B l w (Tr.mk 6 x ls []) ⟨6,x,vla,ls.length,vlc,vka,0,vkc⟩ l ps W0 from hW0 ▸ HST.out);clear HST hW0;obtain⟨k0,k1,k2,k3⟩:=HS0.out.c4;obtain⟨n1,hn1⟩:∃ n,(ps).length=n:=⟨_,rfl⟩;have HQ1:=hQ hn1;clear hn1;have HM1:=hQ (show n1+1<=1000000 from by have h:=HBD.out;rw[<-HQ1.out];rw[HEQ.out]at h;(try simp only[xD,xG]at h |-);omega);have HL1:=hQ (show(ps).length+1<=1000000 from by have h:=HBD.out;rw[HEQ.out]at h;(try simp only[xD,xG]at h |-);omega)
 go_wp2_with (first
  | (go_at_call 168;((with_reducible refine(Qay _ (Tr.mk 6 x ls []) ⟨6,x,vla,ls.length,vlc,vka,0,vkc⟩ 0 0 rfl _ HS0.out.tree (by decide)).mono ?_);rintro e w1⟨rfl,hb⟩;have HS1:=hQ (HS0.out.below hb);clear k0 k1 k2 k3;obtain⟨k0,k1,k2,k3⟩:=HS1.out.c4;clear hb))
  | (at_builtin;refine wpList_append_lies _ (by rfl) _ _ 145 (by rfl) B 148 ip _ 2 32 underlying145 hip pz0 pz1 pz2 rfl (by decide) _ n1 (Qao (ps)) (by rfl) ((HS1.out.alloc _).rowN HQ1.out) ⟨w1.heap.size,0,none⟩ 1 1 (Qao [(ldR ls 0,(⟨#[84,101,120,116]⟩:yD))]) (by rfl) (by rfl) (xM (cs:=#[.string (ldR ls 0),.string ⟨#[84,101,120,116]⟩]) (t:=148) (fr:=(0,0)) (xH w1 _)) (Qav _) (by decide) (by unfold maxLen;have:=HM1.out;omega) (by have:=HM1.out;omega) (HS1.out.alloc _).le _ (by rfl) ?_;intro g cw2 w2 hown hgr hat hlt;have HS2:=hQ ((HS1.out.alloc _).appN HQ1.out (qs:=[(ldR ls 0,(⟨#[84,101,120,116]⟩:yD))]) rfl hown hgr hat (xA _));clear k0 k1 k2 k3;obtain⟨k0,k1,k2,k3⟩:=HS2.out.c4;clear hown hgr hat hlt))
 go_ret;exact HS2.out.post (by rw[HEQ.out];first | done | (simp only[xT,xV,xU];done) | (simp only[xT,xV,xU];rfl) | (simp;done)) rfl
theorem Zcf{N:Nat}(ih:PcC N)(B:Nat)(l:Value)(ps:List Qbt)(x:yD)(ls:List yD)(vla vka:yE)(vlc vkc:Nat)(w:World)(_hN:SizeOf.sizeOf (Tr.mk 7 x ls [])<=N+1)(ht:TrAt (fun k=>k<B) w (Tr.mk 7 x ls []) ⟨7,x,vla,ls.length,vlc,vka,0,vkc⟩)
  (_hz:Qai (Tr.mk 7 x ls [])<=1000) (hl:PRow w B l ps) (hB:B<=w.heap.size) (hb:ps.length+(Qaf (Tr.mk 7 x ls [])).length<=1000000) :
  Calls prog 144 #[l,.agg #[.int .i64 7,.string x,.slice vla ls.length vlc,.slice vka 0 vkc]] w (Qd3 B ps (Qaf (Tr.mk 7 x ls [])) l w):=by
 have HIH:=hQ ih;have HBD:=hQ hb;have HEQ:=hQ (Qfs x ls 7 ⟨#[66,111,111,108]⟩ rfl);have HST:=hQ (PSt.start hl ht hB);obtain⟨ip,hip,pz0,pz1,pz2⟩:=info_parts Qbm;clear ih ht hl hB hb ;go_enter func144,ntmps144;go_wp2_with fail;generalize hW0:w.alloc (.cells #[.int .i64 7,.string x,.slice vla ls.length vlc,.slice vka 0 vkc] 25)=W0 at |-;have HS0:=hQ (show PSt B l w (Tr.mk 7 x ls []) ⟨7,x,vla,ls.length,vlc,vka,0,vkc⟩ l ps W0 from hW0 ▸ HST.out);clear HST hW0;obtain⟨k0,k1,k2,k3⟩:=HS0.out.c4;obtain⟨n1,hn1⟩:∃ n,(ps).length=n:=⟨_,rfl⟩;have HQ1:=hQ hn1;clear hn1;have HM1:=hQ (show n1+1<=1000000 from by have h:=HBD.out;rw[<-HQ1.out];rw[HEQ.out]at h;(try simp only[xD,xG]at h |-);omega);have HL1:=hQ (show(ps).length+1<=1000000 from by have h:=HBD.out;rw[HEQ.out]at h;(try simp only[xD,xG]at h |-);omega)
 go_wp2_with (first
  | (go_at_call 168;((with_reducible refine(Qay _ (Tr.mk 7 x ls []) ⟨7,x,vla,ls.length,vlc,vka,0,vkc⟩ 0 0 rfl _ HS0.out.tree (by decide)).mono ?_);rintro e w1⟨rfl,hb⟩;have HS1:=hQ (HS0.out.below hb);clear k0 k1 k2 k3;obtain⟨k0,k1,k2,k3⟩:=HS1.out.c4;clear hb))
  | (at_builtin;refine wpList_append_lies _ (by rfl) _ _ 145 (by rfl) B 148 ip _ 2 32 underlying145 hip pz0 pz1 pz2 rfl (by decide) _ n1 (Qao (ps)) (by rfl) ((HS1.out.alloc _).rowN HQ1.out) ⟨w1.heap.size,0,none⟩ 1 1 (Qao [(ldR ls 0,(⟨#[66,111,111,108]⟩:yD))]) (by rfl) (by rfl) (xM (cs:=#[.string (ldR ls 0),.string ⟨#[66,111,111,108]⟩]) (t:=148) (fr:=(0,0)) (xH w1 _)) (Qav _) (by decide) (by unfold maxLen;have:=HM1.out;omega) (by have:=HM1.out;omega) (HS1.out.alloc _).le _ (by rfl) ?_;intro g cw2 w2 hown hgr hat hlt;have HS2:=hQ ((HS1.out.alloc _).appN HQ1.out (qs:=[(ldR ls 0,(⟨#[66,111,111,108]⟩:yD))]) rfl hown hgr hat (xA _));clear k0 k1 k2 k3;obtain⟨k0,k1,k2,k3⟩:=HS2.out.c4;clear hown hgr hat hlt))
 go_ret;exact HS2.out.post (by rw[HEQ.out];first | done | (simp only[xT,xV,xU];done) | (simp only[xT,xV,xU];rfl) | (simp;done)) rfl
theorem Qye{N:Nat}(ih:PcC N)(B:Nat)(l:Value)(ps:List Qbt)(x:yD)(ls:List yD)(vla vka:yE)(vlc vkc:Nat)(w:World)(_hN:SizeOf.sizeOf (Tr.mk 13 x ls [])<=N+1)(ht:TrAt (fun k=>k<B) w (Tr.mk 13 x ls []) ⟨13,x,vla,ls.length,vlc,vka,0,vkc⟩)
  (_hz:Qai (Tr.mk 13 x ls [])<=1000) (hl:PRow w B l ps) (hB:B<=w.heap.size) (hb:ps.length+(Qaf (Tr.mk 13 x ls [])).length<=1000000) :
  Calls prog 144 #[l,.agg #[.int .i64 13,.string x,.slice vla ls.length vlc,.slice vka 0 vkc]] w (Qd3 B ps (Qaf (Tr.mk 13 x ls [])) l w):=by
 have HIH:=hQ ih;have HBD:=hQ hb;have HEQ:=hQ (Qfs x ls 13 ⟨#[116,114,117,101]⟩ rfl);have HST:=hQ (PSt.start hl ht hB);obtain⟨ip,hip,pz0,pz1,pz2⟩:=info_parts Qbm;clear ih ht hl hB hb ;go_enter func144,ntmps144;go_wp2_with fail;generalize hW0:w.alloc (.cells #[.int .i64 13,.string x,.slice vla ls.length vlc,.slice vka 0 vkc] 25)=W0 at |-;have HS0:=hQ (show PSt B l w (Tr.mk 13 x ls []) ⟨13,x,vla,ls.length,vlc,vka,0,vkc⟩ l ps W0 from hW0 ▸ HST.out);clear HST hW0;obtain⟨k0,k1,k2,k3⟩:=HS0.out.c4;obtain⟨n1,hn1⟩:∃ n,(ps).length=n:=⟨_,rfl⟩;have HQ1:=hQ hn1;clear hn1;have HM1:=hQ (show n1+1<=1000000 from by have h:=HBD.out;rw[<-HQ1.out];rw[HEQ.out]at h;(try simp only[xD,xG]at h |-);omega);have HL1:=hQ (show(ps).length+1<=1000000 from by have h:=HBD.out;rw[HEQ.out]at h;(try simp only[xD,xG]at h |-);omega)
 go_wp2_with (first
  | (go_at_call 168;((with_reducible refine(Qay _ (Tr.mk 13 x ls []) ⟨13,x,vla,ls.length,vlc,vka,0,vkc⟩ 0 0 rfl _ HS0.out.tree (by decide)).mono ?_);rintro e w1⟨rfl,hb⟩;have HS1:=hQ (HS0.out.below hb);clear k0 k1 k2 k3;obtain⟨k0,k1,k2,k3⟩:=HS1.out.c4;clear hb))
  | (at_builtin;refine wpList_append_lies _ (by rfl) _ _ 145 (by rfl) B 148 ip _ 2 32 underlying145 hip pz0 pz1 pz2 rfl (by decide) _ n1 (Qao (ps)) (by rfl) ((HS1.out.alloc _).rowN HQ1.out) ⟨w1.heap.size,0,none⟩ 1 1 (Qao [(ldR ls 0,(⟨#[116,114,117,101]⟩:yD))]) (by rfl) (by rfl) (xM (cs:=#[.string (ldR ls 0),.string ⟨#[116,114,117,101]⟩]) (t:=148) (fr:=(0,0)) (xH w1 _)) (Qav _) (by decide) (by unfold maxLen;have:=HM1.out;omega) (by have:=HM1.out;omega) (HS1.out.alloc _).le _ (by rfl) ?_;intro g cw2 w2 hown hgr hat hlt;have HS2:=hQ ((HS1.out.alloc _).appN HQ1.out (qs:=[(ldR ls 0,(⟨#[116,114,117,101]⟩:yD))]) rfl hown hgr hat (xA _));clear k0 k1 k2 k3;obtain⟨k0,k1,k2,k3⟩:=HS2.out.c4;clear hown hgr hat hlt))
 go_ret;exact HS2.out.post (by rw[HEQ.out];first | done | (simp only[xT,xV,xU];done) | (simp only[xT,xV,xU];rfl) | (simp;done)) rfl
theorem Qyf{N:Nat}(ih:PcC N)(B:Nat)(l:Value)(ps:List Qbt)(x:yD)(ls:List yD)(vla vka:yE)(vlc vkc:Nat)(w:World)(_hN:SizeOf.sizeOf (Tr.mk 14 x ls [])<=N+1)(ht:TrAt (fun k=>k<B) w (Tr.mk 14 x ls []) ⟨14,x,vla,ls.length,vlc,vka,0,vkc⟩)
  (_hz:Qai (Tr.mk 14 x ls [])<=1000) (hl:PRow w B l ps) (hB:B<=w.heap.size) (hb:ps.length+(Qaf (Tr.mk 14 x ls [])).length<=1000000) :
  Calls prog 144 #[l,.agg #[.int .i64 14,.string x,.slice vla ls.length vlc,.slice vka 0 vkc]] w (Qd3 B ps (Qaf (Tr.mk 14 x ls [])) l w):=by
 have HIH:=hQ ih;have HBD:=hQ hb;have HEQ:=hQ (Qfs x ls 14 ⟨#[102,97,108,115,101]⟩ rfl);have HST:=hQ (PSt.start hl ht hB);obtain⟨ip,hip,pz0,pz1,pz2⟩:=info_parts Qbm;clear ih ht hl hB hb ;go_enter func144,ntmps144;go_wp2_with fail;generalize hW0:w.alloc (.cells #[.int .i64 14,.string x,.slice vla ls.length vlc,.slice vka 0 vkc] 25)=W0 at |-;have HS0:=hQ (show PSt B l w (Tr.mk 14 x ls []) ⟨14,x,vla,ls.length,vlc,vka,0,vkc⟩ l ps W0 from hW0 ▸ HST.out);clear HST hW0;obtain⟨k0,k1,k2,k3⟩:=HS0.out.c4;obtain⟨n1,hn1⟩:∃ n,(ps).length=n:=⟨_,rfl⟩;have HQ1:=hQ hn1;clear hn1;have HM1:=hQ (show n1+1<=1000000 from by have h:=HBD.out;rw[<-HQ1.out];rw[HEQ.out]at h;(try simp only[xD,xG]at h |-);omega);have HL1:=hQ (show(ps).length+1<=1000000 from by have h:=HBD.out;rw[HEQ.out]at h;(try simp only[xD,xG]at h |-);omega)
 go_wp2_with (first
  | (go_at_call 168;((with_reducible refine(Qay _ (Tr.mk 14 x ls []) ⟨14,x,vla,ls.length,vlc,vka,0,vkc⟩ 0 0 rfl _ HS0.out.tree (by decide)).mono ?_);rintro e w1⟨rfl,hb⟩;have HS1:=hQ (HS0.out.below hb);clear k0 k1 k2 k3;obtain⟨k0,k1,k2,k3⟩:=HS1.out.c4;clear hb))
  | (at_builtin;refine wpList_append_lies _ (by rfl) _ _ 145 (by rfl) B 148 ip _ 2 32 underlying145 hip pz0 pz1 pz2 rfl (by decide) _ n1 (Qao (ps)) (by rfl) ((HS1.out.alloc _).rowN HQ1.out) ⟨w1.heap.size,0,none⟩ 1 1 (Qao [(ldR ls 0,(⟨#[102,97,108,115,101]⟩:yD))]) (by rfl) (by rfl) (xM (cs:=#[.string (ldR ls 0),.string ⟨#[102,97,108,115,101]⟩]) (t:=148) (fr:=(0,0)) (xH w1 _)) (Qav _) (by decide) (by unfold maxLen;have:=HM1.out;omega) (by have:=HM1.out;omega) (HS1.out.alloc _).le _ (by rfl) ?_;intro g cw2 w2 hown hgr hat hlt;have HS2:=hQ ((HS1.out.alloc _).appN HQ1.out (qs:=[(ldR ls 0,(⟨#[102,97,108,115,101]⟩:yD))]) rfl hown hgr hat (xA _));clear k0 k1 k2 k3;obtain⟨k0,k1,k2,k3⟩:=HS2.out.c4;clear hown hgr hat hlt))
 go_ret;exact HS2.out.post (by rw[HEQ.out];first | done | (simp only[xT,xV,xU];done) | (simp only[xT,xV,xU];rfl) | (simp;done)) rfl
theorem Qyg{N:Nat}(ih:PcC N)(B:Nat)(l:Value)(ps:List Qbt)(x:yD)(ls:List yD)(vla vka:yE)(vlc vkc:Nat)(w:World)(_hN:SizeOf.sizeOf (Tr.mk 15 x ls [])<=N+1)(ht:TrAt (fun k=>k<B) w (Tr.mk 15 x ls []) ⟨15,x,vla,ls.length,vlc,vka,0,vkc⟩)
  (_hz:Qai (Tr.mk 15 x ls [])<=1000) (hl:PRow w B l ps) (hB:B<=w.heap.size) (hb:ps.length+(Qaf (Tr.mk 15 x ls [])).length<=1000000) :
  Calls prog 144 #[l,.agg #[.int .i64 15,.string x,.slice vla ls.length vlc,.slice vka 0 vkc]] w (Qd3 B ps (Qaf (Tr.mk 15 x ls [])) l w):=by
 have HIH:=hQ ih;have HBD:=hQ hb;have HEQ:=hQ (Qfs x ls 15 ⟨#[63]⟩ rfl);have HST:=hQ (PSt.start hl ht hB);obtain⟨ip,hip,pz0,pz1,pz2⟩:=info_parts Qbm;clear ih ht hl hB hb ;go_enter func144,ntmps144;go_wp2_with fail;generalize hW0:w.alloc (.cells #[.int .i64 15,.string x,.slice vla ls.length vlc,.slice vka 0 vkc] 25)=W0 at |-;have HS0:=hQ (show PSt B l w (Tr.mk 15 x ls []) ⟨15,x,vla,ls.length,vlc,vka,0,vkc⟩ l ps W0 from hW0 ▸ HST.out);clear HST hW0;obtain⟨k0,k1,k2,k3⟩:=HS0.out.c4;obtain⟨n1,hn1⟩:∃ n,(ps).length=n:=⟨_,rfl⟩;have HQ1:=hQ hn1;clear hn1;have HM1:=hQ (show n1+1<=1000000 from by have h:=HBD.out;rw[<-HQ1.out];rw[HEQ.out]at h;(try simp only[xD,xG]at h |-);omega);have HL1:=hQ (show(ps).length+1<=1000000 from by have h:=HBD.out;rw[HEQ.out]at h;(try simp only[xD,xG]at h |-);omega)
 go_wp2_with (first
  | (go_at_call 168;((with_reducible refine(Qay _ (Tr.mk 15 x ls []) ⟨15,x,vla,ls.length,vlc,vka,0,vkc⟩ 0 0 rfl _ HS0.out.tree (by decide)).mono ?_);rintro e w1⟨rfl,hb⟩;have HS1:=hQ (HS0.out.below hb);clear k0 k1 k2 k3;obtain⟨k0,k1,k2,k3⟩:=HS1.out.c4;clear hb))
  | (at_builtin;refine wpList_append_lies _ (by rfl) _ _ 145 (by rfl) B 148 ip _ 2 32 underlying145 hip pz0 pz1 pz2 rfl (by decide) _ n1 (Qao (ps)) (by rfl) ((HS1.out.alloc _).rowN HQ1.out) ⟨w1.heap.size,0,none⟩ 1 1 (Qao [(ldR ls 0,(⟨#[63]⟩:yD))]) (by rfl) (by rfl) (xM (cs:=#[.string (ldR ls 0),.string ⟨#[63]⟩]) (t:=148) (fr:=(0,0)) (xH w1 _)) (Qav _) (by decide) (by unfold maxLen;have:=HM1.out;omega) (by have:=HM1.out;omega) (HS1.out.alloc _).le _ (by rfl) ?_;intro g cw2 w2 hown hgr hat hlt;have HS2:=hQ ((HS1.out.alloc _).appN HQ1.out (qs:=[(ldR ls 0,(⟨#[63]⟩:yD))]) rfl hown hgr hat (xA _));clear k0 k1 k2 k3;obtain⟨k0,k1,k2,k3⟩:=HS2.out.c4;clear hown hgr hat hlt))
 go_ret;exact HS2.out.post (by rw[HEQ.out];first | done | (simp only[xT,xV,xU];done) | (simp only[xT,xV,xU];rfl) | (simp;done)) rfl
theorem Zcg{N:Nat}(ih:PcC N)(B:Nat)(l:Value)(ps:List Qbt)(x:yD)(ls:List yD)(vla vka:yE)(vlc vkc:Nat)(w:World)(_hN:SizeOf.sizeOf (Tr.mk 9 x ls [])<=N+1)(ht:TrAt (fun k=>k<B) w (Tr.mk 9 x ls []) ⟨9,x,vla,ls.length,vlc,vka,0,vkc⟩)
  (_hz:Qai (Tr.mk 9 x ls [])<=1000) (hl:PRow w B l ps) (hB:B<=w.heap.size) (hb:ps.length+(Qaf (Tr.mk 9 x ls [])).length<=1000000) :
  Calls prog 144 #[l,.agg #[.int .i64 9,.string x,.slice vla ls.length vlc,.slice vka 0 vkc]] w (Qd3 B ps (Qaf (Tr.mk 9 x ls [])) l w):=by
 have HIH:=hQ ih;have HBD:=hQ hb;have HEQ:=hQ (Qid x ls 9 (by decide));have HST:=hQ (PSt.start hl ht hB);obtain⟨ip,hip,pz0,pz1,pz2⟩:=info_parts Qbm;clear ih ht hl hB hb ;go_enter func144,ntmps144;go_wp2_with fail;generalize hW0:w.alloc (.cells #[.int .i64 9,.string x,.slice vla ls.length vlc,.slice vka 0 vkc] 25)=W0 at |-;have HS0:=hQ (show PSt B l w (Tr.mk 9 x ls []) ⟨9,x,vla,ls.length,vlc,vka,0,vkc⟩ l ps W0 from hW0 ▸ HST.out);clear HST hW0;obtain⟨k0,k1,k2,k3⟩:=HS0.out.c4;obtain⟨n1,hn1⟩:∃ n,(ps).length=n:=⟨_,rfl⟩;have HQ1:=hQ hn1;clear hn1;have HM1:=hQ (show n1+1<=1000000 from by have h:=HBD.out;rw[<-HQ1.out];rw[HEQ.out]at h;(try simp only[xD,xG]at h |-);omega);have HL1:=hQ (show(ps).length+1<=1000000 from by have h:=HBD.out;rw[HEQ.out]at h;(try simp only[xD,xG]at h |-);omega)
 go_region_held3 (fun w'=>w'.cell? ⟨w.heap.size,0,none⟩=some (.int .i64 9)/\w'.cell? ⟨w.heap.size,1,none⟩=some (.string x)/\w'.cell? ⟨w.heap.size,2,none⟩=some (.slice vla ls.length vlc)/\w'.cell? ⟨w.heap.size,3,none⟩=some (.slice vka 0 vkc)) (first | with_reducible exact⟨k0,k1,k2,k3⟩ | go_keep) (first
  | (go_at_call 168;((with_reducible refine(Qay _ (Tr.mk 9 x ls []) ⟨9,x,vla,ls.length,vlc,vka,0,vkc⟩ 0 0 rfl _ HS0.out.drew.tree (by decide)).mono ?_);rintro e w1⟨rfl,hb⟩;have HS1:=hQ (HS0.out.drew.below hb);clear k0 k1 k2 k3;obtain⟨k0,k1,k2,k3⟩:=HS1.out.c4;clear hb))
  | (refine step_append_lies _ (by rfl) _ _ _ (by rfl) B 148 ip _ 2 32 underlying145 hip pz0 pz1 pz2 rfl (by decide) _ n1 (Qao (ps)) (by rfl) ((HS1.out.alloc _).rowN HQ1.out) ⟨w1.heap.size,0,none⟩ 1 1 (Qao [(ldR ls 0,(x:yD))]) (by rfl) (by rfl) (xM (cs:=#[.string (ldR ls 0),.string x]) (t:=148) (fr:=(0,0)) (xH w1 _)) (Qav _) (by decide) (by unfold maxLen;have:=HM1.out;omega) (by have:=HM1.out;omega) (HS1.out.alloc _).le _ (by rfl) ?_;intro g cw2 w2 hown hgr hat hlt;have HS2:=hQ ((HS1.out.alloc _).appN HQ1.out (qs:=[(ldR ls 0,(x:yD))]) rfl hown hgr hat (xA _));clear k0 k1 k2 k3;obtain⟨k0,k1,k2,k3⟩:=HS2.out.c4;clear hown hgr hat hlt)
  | fail)
 all_goals
  go_wp2;go_ret;exact HS2.out.post (by rw[HEQ.out];first | done | (simp only[xT,xV,xU];done) | (simp only[xT,xV,xU];rfl) | (simp;done)) rfl
theorem Qyh{N:Nat}(ih:PcC N)(B:Nat)(l:Value)(ps:List Qbt)(x:yD)(ls:List yD)(vla vka:yE)(vlc vkc:Nat)(w:World)(_hN:SizeOf.sizeOf (Tr.mk 10 x ls [])<=N+1)(ht:TrAt (fun k=>k<B) w (Tr.mk 10 x ls []) ⟨10,x,vla,ls.length,vlc,vka,0,vkc⟩)
  (_hz:Qai (Tr.mk 10 x ls [])<=1000) (hl:PRow w B l ps) (hB:B<=w.heap.size) (hb:ps.length+(Qaf (Tr.mk 10 x ls [])).length<=1000000) :
  Calls prog 144 #[l,.agg #[.int .i64 10,.string x,.slice vla ls.length vlc,.slice vka 0 vkc]] w (Qd3 B ps (Qaf (Tr.mk 10 x ls [])) l w):=by
 have HIH:=hQ ih;have HBD:=hQ hb;have HEQ:=hQ (Qid x ls 10 (by decide));have HST:=hQ (PSt.start hl ht hB);obtain⟨ip,hip,pz0,pz1,pz2⟩:=info_parts Qbm;clear ih ht hl hB hb ;go_enter func144,ntmps144;go_wp2_with fail;generalize hW0:w.alloc (.cells #[.int .i64 10,.string x,.slice vla ls.length vlc,.slice vka 0 vkc] 25)=W0 at |-;have HS0:=hQ (show PSt B l w (Tr.mk 10 x ls []) ⟨10,x,vla,ls.length,vlc,vka,0,vkc⟩ l ps W0 from hW0 ▸ HST.out);clear HST hW0;obtain⟨k0,k1,k2,k3⟩:=HS0.out.c4;obtain⟨n1,hn1⟩:∃ n,(ps).length=n:=⟨_,rfl⟩;have HQ1:=hQ hn1;clear hn1;have HM1:=hQ (show n1+1<=1000000 from by have h:=HBD.out;rw[<-HQ1.out];rw[HEQ.out]at h;(try simp only[xD,xG]at h |-);omega);have HL1:=hQ (show(ps).length+1<=1000000 from by have h:=HBD.out;rw[HEQ.out]at h;(try simp only[xD,xG]at h |-);omega)
 go_region_held3 (fun w'=>w'.cell? ⟨w.heap.size,0,none⟩=some (.int .i64 10)/\w'.cell? ⟨w.heap.size,1,none⟩=some (.string x)/\w'.cell? ⟨w.heap.size,2,none⟩=some (.slice vla ls.length vlc)/\w'.cell? ⟨w.heap.size,3,none⟩=some (.slice vka 0 vkc)) (first | with_reducible exact⟨k0,k1,k2,k3⟩ | go_keep) (first
  | (go_at_call 168;((with_reducible refine(Qay _ (Tr.mk 10 x ls []) ⟨10,x,vla,ls.length,vlc,vka,0,vkc⟩ 0 0 rfl _ HS0.out.drew.tree (by decide)).mono ?_);rintro e w1⟨rfl,hb⟩;have HS1:=hQ (HS0.out.drew.below hb);clear k0 k1 k2 k3;obtain⟨k0,k1,k2,k3⟩:=HS1.out.c4;clear hb))
  | (refine step_append_lies _ (by rfl) _ _ _ (by rfl) B 148 ip _ 2 32 underlying145 hip pz0 pz1 pz2 rfl (by decide) _ n1 (Qao (ps)) (by rfl) ((HS1.out.alloc _).rowN HQ1.out) ⟨w1.heap.size,0,none⟩ 1 1 (Qao [(ldR ls 0,(x:yD))]) (by rfl) (by rfl) (xM (cs:=#[.string (ldR ls 0),.string x]) (t:=148) (fr:=(0,0)) (xH w1 _)) (Qav _) (by decide) (by unfold maxLen;have:=HM1.out;omega) (by have:=HM1.out;omega) (HS1.out.alloc _).le _ (by rfl) ?_;intro g cw2 w2 hown hgr hat hlt;have HS2:=hQ ((HS1.out.alloc _).appN HQ1.out (qs:=[(ldR ls 0,(x:yD))]) rfl hown hgr hat (xA _));clear k0 k1 k2 k3;obtain⟨k0,k1,k2,k3⟩:=HS2.out.c4;clear hown hgr hat hlt)
  | fail)
 all_goals
  go_wp2;go_ret;exact HS2.out.post (by rw[HEQ.out];first | done | (simp only[xT,xV,xU];done) | (simp only[xT,xV,xU];rfl) | (simp;done)) rfl
theorem Qyi{N:Nat}(ih:PcC N)(B:Nat)(l:Value)(ps:List Qbt)(x:yD)(ls:List yD)(vla vka:yE)(vlc vkc:Nat)(w:World)(_hN:SizeOf.sizeOf (Tr.mk 11 x ls [])<=N+1)(ht:TrAt (fun k=>k<B) w (Tr.mk 11 x ls []) ⟨11,x,vla,ls.length,vlc,vka,0,vkc⟩)
  (_hz:Qai (Tr.mk 11 x ls [])<=1000) (hl:PRow w B l ps) (hB:B<=w.heap.size) (hb:ps.length+(Qaf (Tr.mk 11 x ls [])).length<=1000000) :
  Calls prog 144 #[l,.agg #[.int .i64 11,.string x,.slice vla ls.length vlc,.slice vka 0 vkc]] w (Qd3 B ps (Qaf (Tr.mk 11 x ls [])) l w):=by
 have HIH:=hQ ih;have HBD:=hQ hb;have HEQ:=hQ (Qid x ls 11 (by decide));have HST:=hQ (PSt.start hl ht hB);obtain⟨ip,hip,pz0,pz1,pz2⟩:=info_parts Qbm;clear ih ht hl hB hb ;go_enter func144,ntmps144;go_wp2_with fail;generalize hW0:w.alloc (.cells #[.int .i64 11,.string x,.slice vla ls.length vlc,.slice vka 0 vkc] 25)=W0 at |-;have HS0:=hQ (show PSt B l w (Tr.mk 11 x ls []) ⟨11,x,vla,ls.length,vlc,vka,0,vkc⟩ l ps W0 from hW0 ▸ HST.out);clear HST hW0;obtain⟨k0,k1,k2,k3⟩:=HS0.out.c4;obtain⟨n1,hn1⟩:∃ n,(ps).length=n:=⟨_,rfl⟩;have HQ1:=hQ hn1;clear hn1;have HM1:=hQ (show n1+1<=1000000 from by have h:=HBD.out;rw[<-HQ1.out];rw[HEQ.out]at h;(try simp only[xD,xG]at h |-);omega);have HL1:=hQ (show(ps).length+1<=1000000 from by have h:=HBD.out;rw[HEQ.out]at h;(try simp only[xD,xG]at h |-);omega)
 go_region_held3 (fun w'=>w'.cell? ⟨w.heap.size,0,none⟩=some (.int .i64 11)/\w'.cell? ⟨w.heap.size,1,none⟩=some (.string x)/\w'.cell? ⟨w.heap.size,2,none⟩=some (.slice vla ls.length vlc)/\w'.cell? ⟨w.heap.size,3,none⟩=some (.slice vka 0 vkc)) (first | with_reducible exact⟨k0,k1,k2,k3⟩ | go_keep) (first
  | (go_at_call 168;((with_reducible refine(Qay _ (Tr.mk 11 x ls []) ⟨11,x,vla,ls.length,vlc,vka,0,vkc⟩ 0 0 rfl _ HS0.out.drew.tree (by decide)).mono ?_);rintro e w1⟨rfl,hb⟩;have HS1:=hQ (HS0.out.drew.below hb);clear k0 k1 k2 k3;obtain⟨k0,k1,k2,k3⟩:=HS1.out.c4;clear hb))
  | (refine step_append_lies _ (by rfl) _ _ _ (by rfl) B 148 ip _ 2 32 underlying145 hip pz0 pz1 pz2 rfl (by decide) _ n1 (Qao (ps)) (by rfl) ((HS1.out.alloc _).rowN HQ1.out) ⟨w1.heap.size,0,none⟩ 1 1 (Qao [(ldR ls 0,(x:yD))]) (by rfl) (by rfl) (xM (cs:=#[.string (ldR ls 0),.string x]) (t:=148) (fr:=(0,0)) (xH w1 _)) (Qav _) (by decide) (by unfold maxLen;have:=HM1.out;omega) (by have:=HM1.out;omega) (HS1.out.alloc _).le _ (by rfl) ?_;intro g cw2 w2 hown hgr hat hlt;have HS2:=hQ ((HS1.out.alloc _).appN HQ1.out (qs:=[(ldR ls 0,(x:yD))]) rfl hown hgr hat (xA _));clear k0 k1 k2 k3;obtain⟨k0,k1,k2,k3⟩:=HS2.out.c4;clear hown hgr hat hlt)
  | fail)
 all_goals
  go_wp2;go_ret;exact HS2.out.post (by rw[HEQ.out];first | done | (simp only[xT,xV,xU];done) | (simp only[xT,xV,xU];rfl) | (simp;done)) rfl
theorem Qyj{N:Nat}(ih:PcC N)(B:Nat)(l:Value)(ps:List Qbt)(x:yD)(ls:List yD)(vla vka:yE)(vlc vkc:Nat)(w:World)(_hN:SizeOf.sizeOf (Tr.mk 12 x ls [])<=N+1)(ht:TrAt (fun k=>k<B) w (Tr.mk 12 x ls []) ⟨12,x,vla,ls.length,vlc,vka,0,vkc⟩)
  (_hz:Qai (Tr.mk 12 x ls [])<=1000) (hl:PRow w B l ps) (hB:B<=w.heap.size) (hb:ps.length+(Qaf (Tr.mk 12 x ls [])).length<=1000000) :
  Calls prog 144 #[l,.agg #[.int .i64 12,.string x,.slice vla ls.length vlc,.slice vka 0 vkc]] w (Qd3 B ps (Qaf (Tr.mk 12 x ls [])) l w):=by
 have HIH:=hQ ih;have HBD:=hQ hb;have HEQ:=hQ (Qid x ls 12 (by decide));have HST:=hQ (PSt.start hl ht hB);obtain⟨ip,hip,pz0,pz1,pz2⟩:=info_parts Qbm;clear ih ht hl hB hb ;go_enter func144,ntmps144;go_wp2_with fail;generalize hW0:w.alloc (.cells #[.int .i64 12,.string x,.slice vla ls.length vlc,.slice vka 0 vkc] 25)=W0 at |-;have HS0:=hQ (show PSt B l w (Tr.mk 12 x ls []) ⟨12,x,vla,ls.length,vlc,vka,0,vkc⟩ l ps W0 from hW0 ▸ HST.out);clear HST hW0;obtain⟨k0,k1,k2,k3⟩:=HS0.out.c4;obtain⟨n1,hn1⟩:∃ n,(ps).length=n:=⟨_,rfl⟩;have HQ1:=hQ hn1;clear hn1;have HM1:=hQ (show n1+1<=1000000 from by have h:=HBD.out;rw[<-HQ1.out];rw[HEQ.out]at h;(try simp only[xD,xG]at h |-);omega);have HL1:=hQ (show(ps).length+1<=1000000 from by have h:=HBD.out;rw[HEQ.out]at h;(try simp only[xD,xG]at h |-);omega)
 go_region_held3 (fun w'=>w'.cell? ⟨w.heap.size,0,none⟩=some (.int .i64 12)/\w'.cell? ⟨w.heap.size,1,none⟩=some (.string x)/\w'.cell? ⟨w.heap.size,2,none⟩=some (.slice vla ls.length vlc)/\w'.cell? ⟨w.heap.size,3,none⟩=some (.slice vka 0 vkc)) (first | with_reducible exact⟨k0,k1,k2,k3⟩ | go_keep) (first
  | (go_at_call 168;((with_reducible refine(Qay _ (Tr.mk 12 x ls []) ⟨12,x,vla,ls.length,vlc,vka,0,vkc⟩ 0 0 rfl _ HS0.out.drew.tree (by decide)).mono ?_);rintro e w1⟨rfl,hb⟩;have HS1:=hQ (HS0.out.drew.below hb);clear k0 k1 k2 k3;obtain⟨k0,k1,k2,k3⟩:=HS1.out.c4;clear hb))
  | (refine step_append_lies _ (by rfl) _ _ _ (by rfl) B 148 ip _ 2 32 underlying145 hip pz0 pz1 pz2 rfl (by decide) _ n1 (Qao (ps)) (by rfl) ((HS1.out.alloc _).rowN HQ1.out) ⟨w1.heap.size,0,none⟩ 1 1 (Qao [(ldR ls 0,(x:yD))]) (by rfl) (by rfl) (xM (cs:=#[.string (ldR ls 0),.string x]) (t:=148) (fr:=(0,0)) (xH w1 _)) (Qav _) (by decide) (by unfold maxLen;have:=HM1.out;omega) (by have:=HM1.out;omega) (HS1.out.alloc _).le _ (by rfl) ?_;intro g cw2 w2 hown hgr hat hlt;have HS2:=hQ ((HS1.out.alloc _).appN HQ1.out (qs:=[(ldR ls 0,(x:yD))]) rfl hown hgr hat (xA _));clear k0 k1 k2 k3;obtain⟨k0,k1,k2,k3⟩:=HS2.out.c4;clear hown hgr hat hlt)
  | fail)
 all_goals
  go_wp2;go_ret;exact HS2.out.post (by rw[HEQ.out];first | done | (simp only[xT,xV,xU];done) | (simp only[xT,xV,xU];rfl) | (simp;done)) rfl
end Go.Proofs.YtfjpemdejoejbaaGreat
