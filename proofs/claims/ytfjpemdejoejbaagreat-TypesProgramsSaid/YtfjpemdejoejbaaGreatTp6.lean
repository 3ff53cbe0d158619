/- Part 6 -/
import Derived.Test.YtfjpemdejoejbaaGreatTp5
import Derived.Deep.RegionLaw
import Derived.Deep.DrawnRows
set_option maxRecDepth 100000
set_option maxHeartbeats 4000000
namespace Go.Proofs.YtfjpemdejoejbaaGreat
open Go.Proofs.Tryz Go.RowKit
def StrsAt(S:Nat->Prop)(w:World)(A:yE)(l:List yD):Prop :=
 l≠[]->∃ b off,A=some ⟨b,off,none⟩/\S b/\∀ (i:Nat) (x:yD),l[i]? = some x->w.cell? ⟨b,off+i,none⟩=some (.string x)
structure TV where
 kind:Int
 text:yD
 la:yE
 ll:Nat
 lc:Nat
 ka:yE
 kl:Nat
 kc:Nat
def TV.cells(v:TV):List Value:=[.int .i64 v.kind,.string v.text,.slice v.la v.ll v.lc,.slice v.ka v.kl v.kc]
mutual
def TrAt(S:Nat->Prop)(w:World):Tr->TV->Prop
 | .mk k x ls ks,v=>v.kind=k/\v.text=x/\v.ll=ls.length/\v.kl=ks.length/\StrsAt S w v.la ls/\(ks≠[]->∃ b off,v.ka=some ⟨b,off,none⟩/\S b/\TrsAt S w b off ks)/\v.ll<=v.lc/\v.kl<=v.kc
def TrsAt(S:Nat->Prop)(w:World)(b:Nat):Nat->List Tr->Prop
 | _,[]=>True
 | off,t :: r=>∃ v:TV,w.cell? ⟨b,off,none⟩=some (.int .i64 v.kind)/\w.cell? ⟨b,off+1,none⟩=some (.string v.text)/\w.cell? ⟨b,off+2,none⟩=some (.slice v.la v.ll v.lc)/\w.cell? ⟨b,off+3,none⟩=some (.slice v.ka v.kl v.kc)/\TrAt S w t v/\TrsAt S w b (off+4) r
end
theorem StrsAt.move{S S':Nat->Prop}{w w':World}{A:yE}{l:List yD}(h:StrsAt S w A l)(hS:∀ b,S b->S' b)(hw:∀ b,S b->b<w.heap.size->w'.heap[b]? = w.heap[b]?):StrsAt S' w' A l:=fun hne=>by
 obtain⟨b,off,hA,hb,hc⟩:=h hne;refine⟨b,off,hA,hS b hb,fun i x hx=>?_⟩;have h1:=hc i x hx;have hlt:b<w.heap.size:=xK w _ h1;exact(xJ (w:=w) (a:=⟨b,off+i,none⟩) (hw b hb hlt)).trans h1
mutual
theorem TrAt.move{S S':Nat->Prop}{w w':World}(hS:∀ b,S b->S' b)(hw:∀ b,S b->b<w.heap.size->w'.heap[b]? = w.heap[b]?):(t:Tr)->(v:TV)->TrAt S w t v->TrAt S' w' t v
 | .mk k x ls ks,v,h=>by
  unfold TrAt at h |-;obtain⟨h1,h2,h3,h4,h5,h6,h7⟩:=h;refine⟨h1,h2,h3,h4,h5.move hS hw,fun hne=>?_,h7⟩;obtain⟨b,off,hA,hb,hc⟩:=h6 hne;exact⟨b,off,hA,hS b hb,TrsAt.move hS hw b hb ks off hc⟩
theorem TrsAt.move{S S':Nat->Prop}{w w':World}(hS:∀ b,S b->S' b)(hw:∀ b,S b->b<w.heap.size->w'.heap[b]? = w.heap[b]?)(b:Nat)(hb:S b):(l:List Tr)->(off:Nat)->TrsAt S w b off l->TrsAt S' w' b off l
 | [],off,h=>trivial
 | t :: r,off,h=>by
  unfold TrsAt at h |-;obtain⟨v,c0,c1,c2,c3,ht,hr⟩:=h;have hlt:b<w.heap.size:=xK w _ c0;have hk:∀ o,w'.cell? ⟨b,o,none⟩=w.cell? ⟨b,o,none⟩:=fun o=>xJ (w:=w) (a:=⟨b,o,none⟩) (hw b hb hlt)
  exact⟨v,(hk _).trans c0,(hk _).trans c1,(hk _).trans c2,(hk _).trans c3,TrAt.move hS hw t v ht,TrsAt.move hS hw b hb r _ hr⟩
end
theorem TrsAt.get{S:Nat->Prop}{w:World}{b:Nat}:(l:List Tr)->(off:Nat)->TrsAt S w b off l->(i:Nat)->(t:Tr)->l[i]? = some t ->
  ∃ v:TV,w.cell? ⟨b,off+i*4,none⟩=some (.int .i64 v.kind)/\w.cell? ⟨b,off+i*4+1,none⟩=some (.string v.text)/\w.cell? ⟨b,off+i*4+2,none⟩=some (.slice v.la v.ll v.lc)/\w.cell? ⟨b,off+i*4+3,none⟩=some (.slice v.ka v.kl v.kc)/\TrAt S w t v
 | [],_,_,i,t,ht=>by simp at ht
 | a :: r,off,h,i,t,ht=>by
  unfold TrsAt at h;obtain⟨v,c0,c1,c2,c3,hv,hr⟩:=h;cases i with
  | zero =>
   simp at ht
   subst ht;simp only[Nat.zero_mul,Nat.add_zero];exact⟨v,c0,c1,c2,c3,hv⟩
  | succ i =>
   have:=TrsAt.get r (off+4) hr i t (by simpa using ht)
   rw[show off+(i+1)*4=off+4+i*4 from by omega];exact this
theorem TrsAt.of{S:Nat->Prop}{w:World}{b:Nat}:(l:List Tr)->(off:Nat)->(∀ (i:Nat) (t:Tr),l[i]? = some t ->
  ∃ v:TV,w.cell? ⟨b,off+i*4,none⟩=some (.int .i64 v.kind)/\w.cell? ⟨b,off+i*4+1,none⟩=some (.string v.text)/\w.cell? ⟨b,off+i*4+2,none⟩=some (.slice v.la v.ll v.lc)/\w.cell? ⟨b,off+i*4+3,none⟩=some (.slice v.ka v.kl v.kc)/\TrAt S w t v)->TrsAt S w b off l
 | [],_,_=>trivial
 | a :: r,off,h=>by
  unfold TrsAt;obtain⟨v,c0,c1,c2,c3,hv⟩:=h 0 a rfl;simp only[Nat.zero_mul,Nat.add_zero]at c0 c1 c2 c3;refine⟨v,c0,c1,c2,c3,hv,TrsAt.of r (off+4) fun i t ht=>?_⟩;have:=h (i+1) t (by simpa using ht)
  rw[show off+(i+1)*4=off+4+i*4 from by omega]at this;exact this
def Qag(vs:List TV):List Value:=vs.flatMap TV.cells
theorem Qd6(vs:List TV):(Qag vs).length=vs.length*4:=by
 induction vs with
 | nil=>rfl
 | cons v r ih =>
  unfold Qag at ih |-;rw[List.flatMap_cons,xB,ih,xD];show 4+_=_
  omega
theorem Qfy(vs us:List TV):Qag (vs ++ us)=Qag vs ++ Qag us:=by
 unfold Qag;rw[List.flatMap_append]
theorem Qd1(vs:List TV):∀ (i:Nat) (v:TV),vs[i]? = some v->(Qag vs)[i*4]? = some (.int .i64 v.kind)/\(Qag vs)[i*4+1]? = some (.string v.text)/\(Qag vs)[i*4+2]? = some (.slice v.la v.ll v.lc)/\(Qag vs)[i*4+3]? = some (.slice v.ka v.kl v.kc):=by
 induction vs with
 | nil=>intro i v h;simp at h
 | cons a r ih =>
  intro i v h;have hs:Qag (a :: r)=a.cells ++ Qag r:=by unfold Qag;rw[List.flatMap_cons]
  rw[hs];cases i with
  | zero =>
   simp at h
   subst h;exact⟨rfl,rfl,rfl,rfl⟩
  | succ i =>
   have h4:a.cells.length=4:=rfl;have:=ih i v (by simpa using h)
   rw[xX (by omega),xX (by omega),xX (by omega),xX (by omega),h4];rw[show(i+1)*4-4=i*4 from by omega,show(i+1)*4+1-4=i*4+1 from by omega,show(i+1)*4+2-4=i*4+2 from by omega,show(i+1)*4+3-4=i*4+3 from by omega];exact this
theorem Qdk(vs:List TV):∀ u∈Qag vs,u.oneCell'=true:=by
 intro u hu;unfold Qag at hu;rw[List.mem_flatMap]at hu;obtain⟨v,_,hv⟩:=hu;simp[TV.cells]at hv
 rcases hv with rfl | rfl | rfl | rfl <;> rfl
theorem Qdl:(prog.info? 9).map (fun i=>(i.zero,i.size,i.bytes))=some (some (.string ByteArray.empty),1,16):=by kernel_rfl
structure Rest (X:Nat->Prop) (w w':World):Prop where
 os:w'.os=w.os
 tape:w'.tape=w.tape
 output:w'.output=w.output
 size:w.heap.size<=w'.heap.size
 block:∀ k,k<w.heap.size->¬ X k->w'.heap[k]? = w.heap[k]?
theorem Rest.refl(X:Nat->Prop)(w:World):Rest X w w:=⟨rfl,rfl,rfl,xA _,fun _ _ _=>rfl⟩
theorem Rest.trans{X:Nat->Prop}{u v w:World}(h:Rest X u v)(k:Rest X v w):Rest X u w :=
 ⟨k.os.trans h.os,k.tape.trans h.tape,k.output.trans h.output,xQ h.size k.size,fun i hi hx=>(k.block i (xE hi h.size) hx).trans (h.block i hi hx)⟩
theorem Rest.mono{X Y:Nat->Prop}{u v:World}(h:Rest X u v)(hXY:∀ k,k<u.heap.size->X k->Y k):Rest Y u v:=⟨h.os,h.tape,h.output,h.size,fun k hk hy=>h.block k hk fun hx=>hy (hXY k hk hx)⟩
theorem Rest.off{b:Nat}{w w':World}(h:Off b w w'):Rest (fun k=>k=b) w w':=⟨h.os,h.tape,h.output,h.size,h.block⟩
theorem Rest.below{X:Nat->Prop}{w w':World}(h:Below w.heap.size w w'):Rest X w w':=⟨h.os,h.tape,h.output,h.size,fun k hk _=>h.block k hk⟩
theorem Rest.alloc{X:Nat->Prop}{w:World}(o:Obj):Rest X w (w.alloc o):=.below ((xC _ _).alloc (xA _) o)
theorem Rest.drew{X:Nat->Prop}{w:World}:Rest X w w.drew:=⟨rfl,rfl,rfl,xA _,fun _ _ _=>rfl⟩
theorem Rest.set{X:Nat->Prop}{w:World}{b:Nat}(hb:X b)(o:Nat)(u:Value):Rest X w (w.setCell ⟨b,o,none⟩ u) :=
 ⟨rfl,rfl,rfl,by simp[World.setCell],fun k _ hk=>Below.heap_setCell _ _ _ _ (fun e:k=b=>hk (e ▸ hb))⟩
theorem Rest.grown{X:Nat->Prop}{w w':World}{row:Option Nat}(hg:w.grownBy w' row)(hr:∀ k,row=some k->X k):Rest X w w' :=
 ⟨hg.os,hg.tape,hg.output,hg.size,fun k hk hx=>hg.block k hk (fun e=>hx (hr k e.symm))⟩
theorem Qde{X:Nat->Prop}{w w':World}{base:Nat}{e:TypeId}{size:Nat}{v:Value}{n:Nat}{xs:List Value}(h:w.ownsRow base e size v n xs)(hw:Rest X w w')(hx:∀ k,v.ownBlock=some k->¬ X k):w'.ownsRow base e size v n xs:=by
 obtain⟨h1,h2⟩:=h;refine⟨h1,?_⟩
 rcases h2 with h2|⟨g,cap,cur,hv,hg,hh,r⟩
 ·exact Or.inl h2
 ·exact Or.inr ⟨g,cap,cur,hv,hg,by rw[hw.block g (Qaa hh) (hx g (by rw[hv];rfl))];exact hh,r⟩
theorem Qrg{w:World}{base base':Nat}{e:TypeId}{size:Nat}{v:Value}{n:Nat}{xs:List Value}(h:w.ownsRow base e size v n xs)(hb:∀ k,v.ownBlock=some k->base'<=k):w.ownsRow base' e size v n xs:=by
 obtain⟨h1,h2⟩:=h;refine⟨h1,?_⟩
 rcases h2 with h2|⟨g,cap,cur,hv,hg,hh,r⟩
 ·exact Or.inl h2
 ·exact Or.inr ⟨g,cap,cur,hv,hb g (by rw[hv];rfl),hh,r⟩
def blk(a:yE):Option Nat:=a.map (·.block)
theorem Qjo(a:yE)(n c:Nat):(Value.slice a n c).ownBlock=blk a:=by cases a <;> rfl
theorem Zh9(n:Nat)(h:n<=7)(w:World):(binOp .neq 129 (fnV n) .nilFunc).run prog w = .ok (.bool (n != 0)) w:=by
 match n,h with
 | 0,_=>exact Zag w
 | 1,_=>exact Qhc _ w
 | 2,_=>exact Qhc _ w
 | 3,_=>exact Qhc _ w
 | 4,_=>exact Qhc _ w
 | 5,_=>exact Qhc _ w
 | 6,_=>exact Qhc _ w
 | 7,_=>exact Qhc _ w
 | n+8,h=>exact absurd h (by omega)
theorem Qvc(n:Nat)(a c:Operand)(w:World):(eqGuard .neq 129 a c (fnV n) .nilFunc).run prog w = .ok () w:=by
 match n with
 | 0=>rfl
 | 1=>rfl
 | 2=>rfl
 | 3=>rfl
 | 4=>rfl
 | 5=>rfl
 | 6=>rfl
 | n+7=>rfl
def LeadsAt(B:Nat)(w:World)(la:yE)(lc:Nat)(ls:List yD):Prop:=w.ownsRow B 9 1 (.slice la ls.length lc) ls.length (ls.map Value.string)
theorem Qb1{w:World}{xb:Nat}{x:Part}(h:w.heap[xb]? = some (.cells #[.string x.word,fnV x.nm,.int .i64 x.kids,.int .i64 x.least,.int .i64 x.most,.bool x.series,.bool x.commas] 132 (0,0))) :
  w.cell? ⟨xb,0,none⟩=some (.string x.word)/\w.cell? ⟨xb,1,none⟩=some (fnV x.nm)/\w.cell? ⟨xb,2,none⟩=some (.int .i64 x.kids)/\w.cell? ⟨xb,3,none⟩=some (.int .i64 x.least)/\w.cell? ⟨xb,4,none⟩=some (.int .i64 x.most)/\w.cell? ⟨xb,5,none⟩=some (.bool x.series)/\w.cell? ⟨xb,6,none⟩=some (.bool x.commas) :=
 ⟨Qab h 0 _ rfl,Qab h 1 _ rfl,Qab h 2 _ rfl,Qab h 3 _ rfl,Qab h 4 _ rfl,Qab h 5 _ rfl,Qab h 6 _ rfl⟩
theorem LeadsAt.blk{B:Nat}{w:World}{la:yE}{lc:Nat}{ls:List yD}(h:LeadsAt B w la lc ls){k:Nat}(hk:blk la=some k):B<=k/\k<w.heap.size:=by
 rcases h.2 with⟨hv,_⟩|⟨g,cap,cur,hv,hg,hh,_⟩
 ·injection hv with h1;rw[h1]at hk;exact absurd hk (by simp[Go.Proofs.YtfjpemdejoejbaaGreat.blk])
 ·injection hv with h1;rw[h1]at hk;have:g=k:=by simpa [Go.Proofs.YtfjpemdejoejbaaGreat.blk] using hk
  subst this;exact⟨hg,Qaa hh⟩
def Qkg(b tb B:Nat)(kind:Int)(kv:Value)(la:yE)(r:yD × List yD × PS)(w:World)(e:Ending)(w':World):Prop :=
 ∃ la' lc',e = .returned (.tuple #[])/\w'.heap[tb]? = some (.cells #[.int .i64 kind,.string r.1,.slice la' r.2.1.length lc',kv] 25 (0,0))/\LeadsAt B w' la' lc' r.2.1/\PIn w' b r.2.2 /\
  Rest (fun k=>k=b\/k=tb\/blk la=some k) w w'/\(∀ k,blk la'=some k->blk la=some k\/w.heap.size<=k)
theorem Zah{b tb B:Nat}{p:PS}{kind:Int}{text:yD}{leads:List yD}{la:yE}{lc:Nat}{kv:Value}(x:Part)(hx:x.nm<=7)(w:World)(h:PIn w b p)
  (ht:w.heap[tb]? = some (.cells #[.int .i64 kind,.string text,.slice la leads.length lc,kv] 25 (0,0))) (hl:LeadsAt B w la lc leads) (hne:b<tb) (htB:tb<B) (hB:B<=w.heap.size) (hf:Qfe x (Qad p)=false) :
  Calls prog 86 #[.pointer (some ⟨b,0,none⟩),.pointer (some ⟨tb,0,none⟩),.agg #[.string x.word,fnV x.nm,.int .i64 x.kids,.int .i64 x.least,.int .i64 x.most,.bool x.series,.bool x.commas]] w (Qkg b tb B kind kv la (Qei x text leads p) w):=by
 have HI:=hQ h;have HX:=hQ hx;have HL:=hQ hl;have HT:=hQ ht;have HN:=hQ hne;have HLB:=hQ (show ∀ k,blk la=some k->k≠b/\k≠tb/\b<k/\k<w.heap.size from fun k hk=>by have:=hl.blk hk;exact⟨by omega,by omega,by omega,this.2⟩);have HBB:=hQ hB;have HTB:=hQ htB;have HR:=hQ (show Qei x text leads p=(text,leads,Qkd p 2) from by unfold Qei;rw[hf];rfl);clear h hx hl ht hne htB hB;go_enter func86,ntmps86;go_wp2_with fail;have GX:=xH w (.cells #[.string x.word,fnV x.nm,.int .i64 x.kids,.int .i64 x.least,.int .i64 x.most,.bool x.series,.bool x.commas] 132);have HW1:=hQ ((xC w.heap.size w).alloc (xA _) (.cells #[.string x.word,fnV x.nm,.int .i64 x.kids,.int .i64 x.least,.int .i64 x.most,.bool x.series,.bool x.commas] 132));have HS1:=hQ (show w.heap.size<(w.alloc (.cells #[.string x.word,fnV x.nm,.int .i64 x.kids,.int .i64 x.least,.int .i64 x.most,.bool x.series,.bool x.commas] 132)).heap.size from by simp);generalize w.alloc (.cells #[.string x.word,fnV x.nm,.int .i64 x.kids,.int .i64 x.least,.int .i64 x.most,.bool x.series,.bool x.commas] 132)=W1 at GX HW1 HS1 |-;generalize hxb:w.heap.size=xb at GX HS1 |-
 go_region_held3 (fun w'=>w'.cell? ⟨xb,0,none⟩=some (.string x.word)/\w'.cell? ⟨xb,1,none⟩=some (fnV x.nm)/\w'.cell? ⟨xb,2,none⟩=some (.int .i64 x.kids)/\w'.cell? ⟨xb,3,none⟩=some (.int .i64 x.least)/\w'.cell? ⟨xb,4,none⟩=some (.int .i64 x.most)/\w'.cell? ⟨xb,5,none⟩=some (.bool x.series)/\w'.cell? ⟨xb,6,none⟩=some (.bool x.commas)) (first | exact Qb1 (w:=W1.drew) GX | exact Qb1 (by assumption))
  (first | (go_at_call 132;refine(Qbe _ (HI.out.keep HW1.out.drew)).mono ?_;rintro e w2⟨rfl,hb2⟩;have G2:=(hb2.block xb HS1.out).trans GX;have HB2:=hQ hb2;clear hb2) | (go_at_call 135;refine(Qvb x HX.out (Qad p) _).mono ?_;rintro e w3⟨rfl,hb3⟩;have G3:=(hb3.block xb (xE HS1.out HB2.out.size)).trans G2;have HB3:=hQ hb3;clear hb3))
 have HO3:=hQ (show Off b w w3 from(Off.of HW1.out.drew).trans ((Off.of HB2.out).trans (Off.of HB3.out)));have HP3:=hQ (((HI.out.keep HW1.out.drew).keep HB2.out).keep HB3.out);clear GX G2 G3;go_wp2_with (go_at_call 131;refine(Qmr (x:=2) _ HP3.out).mono ?_;rintro e w4⟨rfl,hp4,ho4⟩;have HP4:=hQ hp4;have HO4:=hQ ho4;clear hp4 ho4)
 have hoff:=HO3.out.trans HO4.out;refine bodyPost_ret (v:=.tuple #[]) (by simp[results,results86,go_sem]) rfl ?_;rw[HR.out];exact⟨la,lc,rfl,(hoff.block tb (Qaa HT.out) (Ne.symm (Nat.ne_of_lt HN.out))).trans HT.out,Qde HL.out (Rest.off hoff) (fun k hk=>(HLB.out k (by rwa[Qjo]at hk)).1),HP4.out,(Rest.off hoff).mono (fun k _ h=>.inl h),fun k h=>.inl h⟩
theorem Qxg{b tb B:Nat}{p:PS}{kind:Int}{text:yD}{leads:List yD}{la:yE}{lc:Nat}{kv:Value}(x:Part)(hx:x.nm<=7)(w:World)(h:PIn w b p)
  (ht:w.heap[tb]? = some (.cells #[.int .i64 kind,.string text,.slice la leads.length lc,kv] 25 (0,0))) (hl:LeadsAt B w la lc leads) (hne:b<tb) (htB:tb<B) (hB:B<=w.heap.size) (hf:Qfe x (Qad p)=true) (hlen:leads.length<65536) :
  Calls prog 86 #[.pointer (some ⟨b,0,none⟩),.pointer (some ⟨tb,0,none⟩),.agg #[.string x.word,fnV x.nm,.int .i64 x.kids,.int .i64 x.least,.int .i64 x.most,.bool x.series,.bool x.commas]] w (Qkg b tb B kind kv la (Qei x text leads p) w):=by
 have HI:=hQ h;have HX:=hQ hx;have HL:=hQ hl;have HT:=hQ ht;have HN:=hQ hne;have HLB:=hQ (show ∀ k,blk la=some k->k≠b/\k≠tb/\b<k/\k<w.heap.size from fun k hk=>by have:=hl.blk hk;exact⟨by omega,by omega,by omega,this.2⟩);have HBB:=hQ hB;have HTB:=hQ htB;have HR:=hQ (show Qei x text leads p=(if x.nm=0 then text else (Qad p).text,leads ++ [(Qad p).lead],Qha p) from by unfold Qei;rw[hf];rfl);have HLN:=hQ hlen;clear h hx hl ht hne htB hB hlen;go_enter func86,ntmps86;go_wp2_with fail;have GX:=xH w (.cells #[.string x.word,fnV x.nm,.int .i64 x.kids,.int .i64 x.least,.int .i64 x.most,.bool x.series,.bool x.commas] 132);have HW1:=hQ ((xC w.heap.size w).alloc (xA _) (.cells #[.string x.word,fnV x.nm,.int .i64 x.kids,.int .i64 x.least,.int .i64 x.most,.bool x.series,.bool x.commas] 132));have HS1:=hQ (show w.heap.size<(w.alloc (.cells #[.string x.word,fnV x.nm,.int .i64 x.kids,.int .i64 x.least,.int .i64 x.most,.bool x.series,.bool x.commas] 132)).heap.size from by simp);generalize w.alloc (.cells #[.string x.word,fnV x.nm,.int .i64 x.kids,.int .i64 x.least,.int .i64 x.most,.bool x.series,.bool x.commas] 132)=W1 at GX HW1 HS1 |-;generalize hxb:w.heap.size=xb at GX HS1 |-
 go_region_held3 (fun w'=>w'.cell? ⟨xb,0,none⟩=some (.string x.word)/\w'.cell? ⟨xb,1,none⟩=some (fnV x.nm)/\w'.cell? ⟨xb,2,none⟩=some (.int .i64 x.kids)/\w'.cell? ⟨xb,3,none⟩=some (.int .i64 x.least)/\w'.cell? ⟨xb,4,none⟩=some (.int .i64 x.most)/\w'.cell? ⟨xb,5,none⟩=some (.bool x.series)/\w'.cell? ⟨xb,6,none⟩=some (.bool x.commas)) (first | exact Qb1 (w:=W1.drew) GX | exact Qb1 (by assumption))
  (first | (go_at_call 132;refine(Qbe _ (HI.out.keep HW1.out.drew)).mono ?_;rintro e w2⟨rfl,hb2⟩;have G2:=(hb2.block xb HS1.out).trans GX;have HB2:=hQ hb2;clear hb2) | (go_at_call 135;refine(Qvb x HX.out (Qad p) _).mono ?_;rintro e w3⟨rfl,hb3⟩;have G3:=(hb3.block xb (xE HS1.out HB2.out.size)).trans G2;have HB3:=hQ hb3;clear hb3))
 have HO3:=hQ (show Off b w w3 from(Off.of HW1.out.drew).trans ((Off.of HB2.out).trans (Off.of HB3.out)));have HP3:=hQ (((HI.out.keep HW1.out.drew).keep HB2.out).keep HB3.out);have HX3:=hQ (show xb<w3.heap.size from Qaa G3);have HG3:=hQ G3;clear GX G2 G3;go_wp2_with fail;go_at_call 133;refine(Qg3 _ HP3.out).mono ?_;rintro e w4⟨rfl,hp4,ho4⟩;have HP4:=hQ hp4;have HO4:=hQ ho4;clear hp4 ho4;go_wp2_with fail;have HO4':=hQ (HO3.out.trans HO4.out);have G5t:(w4.alloc (.cells #[.int .i64 (Qad p).kind,.string (Qad p).lead,.string (Qad p).text] 88)).heap[tb]? = some (.cells #[.int .i64 kind,.string text,.slice la leads.length lc,kv] 25 (0,0)):=(((HO4'.out.trans (Off.alloc _)).block tb (Qaa HT.out) (Ne.symm (Nat.ne_of_lt HN.out))).trans HT.out);have G5k:=xH w4 (.cells #[.int .i64 (Qad p).kind,.string (Qad p).lead,.string (Qad p).text] 88);have HW5:=hQ (HO4'.out.trans (Off.alloc (b:=b) (w:=w4) (.cells #[.int .i64 (Qad p).kind,.string (Qad p).lead,.string (Qad p).text] 88)));have HP5:=hQ (HP4.out.keep ((xC w4.heap.size w4).alloc (xA _) (.cells #[.int .i64 (Qad p).kind,.string (Qad p).lead,.string (Qad p).text] 88)));have G5x:=hQ (((HO4.out.trans (Off.alloc (.cells #[.int .i64 (Qad p).kind,.string (Qad p).lead,.string (Qad p).text] 88))).block xb HX3.out (by have:=HI.out.lt;omega)).trans HG3.out);generalize w4.alloc (.cells #[.int .i64 (Qad p).kind,.string (Qad p).lead,.string (Qad p).text] 88)=W5 at G5t G5k HW5 HP5 G5x |-;have HS4:=hQ HO4'.out.size;generalize w4.heap.size=tk at G5k HS4 |-;have HL5:=hQ (Qde HL.out (Rest.off HW5.out) (fun k hk=>(HLB.out k (by rwa[Qjo]at hk)).1));have k2:=Qab G5t 2 _ rfl;have e1:=Qaa G5t;have l1:=Qab G5k 1 _ rfl;have e2:=Qaa G5k;obtain⟨i0,hi,hz0,hz1,hz2⟩:=info_parts Qdl;have hcap:=Zh9 x.nm HX.out;have hgrd:=Qvc x.nm;have n1:tb≠tk:=by have:=HS4.out;have:=Qaa HT.out;omega
 have HTL:=hQ (show blk la≠some tb from fun e=>(HLB.out _ e).2.1 rfl);have HKL:=hQ (show blk la≠some tk from fun e=>by have:=(HLB.out _ e).2.2.2;have:=HS4.out;omega);have HXL:=hQ (show blk la≠some xb from fun e=>by have:=(HLB.out _ e).2.2.2;omega)
 go_region_law ((refine step_append_lies _ (by rfl) _ _ _ (by rfl) B 9 i0 _ 1 16 underlying23 hi hz0 hz1 hz2 rfl (by decide) (.slice la leads.length lc) leads.length (leads.map Value.string) (by rfl) ((HL5.out.alloc _).drew) ⟨W5.heap.size,0,none⟩ 1 1 [.string (Qad p).lead] (by rfl) (by rfl) (xM (cs:=#[.string (Qad p).lead]) (t:=9) (fr:=(0,0)) (xH W5 _)) (fun u hu=>by simp at hu;subst hu;rfl) (by decide) (by have:=HLN.out;unfold maxLen;omega) (by have:=HLN.out;omega) (xQ HBB.out (xQ HW5.out.size (by simp))) (W5.heap.size+1) (by simp) ?_;intro gg cap w6 hown6 hgrow hat6 hlt6;have G6t:=(hgrow.block tb (by simp;omega) (by rw[Qjo];exact Ne.symm HTL.out)).trans ((Below.heap_alloc W5 _ tb e1).trans G5t);have G6k:=(hgrow.block tk (by simp;omega) (by rw[Qjo];exact Ne.symm HKL.out)).trans ((Below.heap_alloc W5 _ tk e2).trans G5k);have G6x:=(hgrow.block xb (by have:=Qaa G5x.out;simp;omega) (by rw[Qjo];exact Ne.symm HXL.out)).trans ((Below.heap_alloc W5 _ xb (Qaa G5x.out)).trans G5x.out);have m1:=Qab G6k 1 _ rfl;have m2:=Qab G6k 2 _ rfl;have j2:=Qab G6t 2 _ rfl;have jf:=xL G6t;have HG:=hQ hgrow;have HO6:=hQ hown6;have HT6:=hQ G6t;have HX6:=hQ G6x;have HK6:=hQ G6k;clear G6t G6k G6x hgrow hown6))
 all_goals
  have x1:=(Qb1 HX6.out).2.1;have j1:=Qab HT6.out 1 _ rfl;have n2:tb≠xb:=by have:=Qaa HT.out;omega
  have hE:(Qei x text leads p).2.1.map Value.string=leads.map Value.string ++ [.string (Qad p).lead]:=by rw[HR.out];simp
  have hLn:(Qei x text leads p).2.1.length=leads.length+1:=by rw[HR.out];simp
  have hP:(Qei x text leads p).2.2=Qha p:=by rw[HR.out]
  have HE:=hQ hE;have HLn:=hQ hLn;have HPp:=hQ hP
  have hgB:B<=gg:=by
   rcases HO6.out.2 with⟨hv,_⟩|⟨g,cap',cur,hv,hg,_⟩
   ·simp at hv
   ·simp at hv
    omega
  have HR6:=hQ (show Rest (fun k=>blk la=some k) W5 w6 from(Rest.alloc _).trans (Rest.drew.trans (Rest.grown HG.out (fun k hk=>by rwa[Qjo]at hk))));clear hE hLn hP
  cases hz:(x.nm != 0)
  ·have HTx:=hQ (show(Qei x text leads p).1=text from by rw[HR.out];simp only[bne_eq_false_iff_eq]at hz;simp[hz]);go_wp2;refine bodyPost_end (v:=.tuple #[]) (by simp[results,results86,go_sem]) rfl ?_;have HRW:Rest (fun k=>k=b\/k=tb\/blk la=some k) w w6:=((Rest.off HW5.out).mono (fun k _ h=>Or.inl h)).trans (HR6.out.mono (fun k _ h=>Or.inr (Or.inr h)));have HRU:Rest (fun k=>k=tb) w6 (w6.setCell ⟨tb,2,none⟩ (.slice (some ⟨gg,0,none⟩) (leads.length+1) cap)):=Rest.set (X:=fun k=>k=tb) rfl _ _
   refine⟨some ⟨gg,0,none⟩,cap,rfl,?_,?_,?_,HRW.trans (HRU.mono (fun k _ h=>Or.inr (Or.inl h))),?_⟩
   ·rw[HTx.out,HLn.out];exact Qa1 HT6.out rfl
   ·unfold LeadsAt;rw[HLn.out,HE.out];exact Qde HO6.out HRU (fun k hk he=>by rw[Qjo]at hk;injection hk with hk;have:=HTB.out;have:gg=tb:=hk.trans he;omega)
   ·rw[HPp.out];exact HP5.out.upto fun k hk=>(HRU.block k (by have:=HP5.out.lt;have:=HR6.out.size;omega) (by have:=HN.out;omega)).trans (HR6.out.block k (by have:=HP5.out.lt;omega) (fun e=>by have:=(HLB.out k e).2.2.1;omega))
   ·intro k hk;have hk:gg=k:=by simpa [blk] using hk
    subst hk
    rcases hat6 with h | h
    ·rw[Qjo]at h;exact .inl h
    ·have:=HW5.out.size
     exact .inr (by omega)
  ·have HTx:=hQ (show(Qei x text leads p).1=(Qad p).text from by rw[HR.out];simp only[bne_iff_ne]at hz;simp[hz]);go_wp2;refine bodyPost_end (v:=.tuple #[]) (by simp[results,results86,go_sem]) rfl ?_;have HRW:Rest (fun k=>k=b\/k=tb\/blk la=some k) w w6:=((Rest.off HW5.out).mono (fun k _ h=>Or.inl h)).trans (HR6.out.mono (fun k _ h=>Or.inr (Or.inr h)));have HRU:Rest (fun k=>k=tb) w6 ((w6.setCell ⟨tb,2,none⟩ (.slice (some ⟨gg,0,none⟩) (leads.length+1) cap)).setCell ⟨tb,1,none⟩ (.string (Qad p).text)):=(Rest.set (X:=fun k=>k=tb) rfl _ _).trans (Rest.set (X:=fun k=>k=tb) rfl _ _)
   refine⟨some ⟨gg,0,none⟩,cap,rfl,?_,?_,?_,HRW.trans (HRU.mono (fun k _ h=>Or.inr (Or.inl h))),?_⟩
   ·rw[HTx.out,HLn.out];exact Qa1 (Qa1 HT6.out rfl) rfl
   ·unfold LeadsAt;rw[HLn.out,HE.out];exact Qde HO6.out HRU (fun k hk he=>by rw[Qjo]at hk;injection hk with hk;have:=HTB.out;have:gg=tb:=hk.trans he;omega)
   ·rw[HPp.out];exact HP5.out.upto fun k hk=>(HRU.block k (by have:=HP5.out.lt;have:=HR6.out.size;omega) (by have:=HN.out;omega)).trans (HR6.out.block k (by have:=HP5.out.lt;omega) (fun e=>by have:=(HLB.out k e).2.2.1;omega))
   ·intro k hk;have hk:gg=k:=by simpa [blk] using hk
    subst hk
    rcases hat6 with h | h
    ·rw[Qjo]at h;exact .inl h
    ·have:=HW5.out.size
     exact .inr (by omega)
theorem Zai{b tb B:Nat}{p:PS}{kind:Int}{text:yD}{leads:List yD}{la:yE}{lc:Nat}{kv:Value}(x:Part)(hx:x.nm<=7)(w:World)(h:PIn w b p)
  (ht:w.heap[tb]? = some (.cells #[.int .i64 kind,.string text,.slice la leads.length lc,kv] 25 (0,0))) (hl:LeadsAt B w la lc leads) (hne:b<tb) (htB:tb<B) (hB:B<=w.heap.size) (hlen:leads.length<65536) :
  Calls prog 86 #[.pointer (some ⟨b,0,none⟩),.pointer (some ⟨tb,0,none⟩),.agg #[.string x.word,fnV x.nm,.int .i64 x.kids,.int .i64 x.least,.int .i64 x.most,.bool x.series,.bool x.commas]] w (Qkg b tb B kind kv la (Qei x text leads p) w):=by
 cases hf:Qfe x (Qad p)
 ·exact Zah x hx w h ht hl hne htB hB hf
 ·exact Qxg x hx w h ht hl hne htB hB hf hlen
end Go.Proofs.YtfjpemdejoejbaaGreat
