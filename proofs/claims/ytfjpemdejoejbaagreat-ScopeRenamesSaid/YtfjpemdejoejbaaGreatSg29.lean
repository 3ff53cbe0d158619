/- Part 29 -/
import Derived.Test.YtfjpemdejoejbaaGreatSg28
set_option maxRecDepth 100000
set_option maxHeartbeats 4000000
namespace Go.Proofs.YtfjpemdejoejbaaGreat
open Go.RowKit
theorem Qbf:(Tryz.prog.info? 148).map (fun i=>(i.zero,i.size,i.bytes))=some (some (.agg #[.string ByteArray.empty,.string ByteArray.empty]),2,32):=by kernel_rfl
def Qam (ps:List Qbl):List Value:=ps.flatMap fun p=>[.string p.1,.string p.2]
theorem Qnl (a b:List Qbl):Qam (a ++ b)=Qam a ++ Qam b:=by unfold Qam;rw [List.flatMap_append]
theorem Qat (a:List Qbl):∀ u∈Qam a,u.oneCell'=true:=by
 intro u hu;unfold Qam at hu;rw [List.mem_flatMap] at hu;obtain ⟨p,_,hp⟩:=hu;simp at hp
 rcases hp with rfl | rfl <;> rfl
theorem Qjq (a:List Qbl):∀ (i:Nat) (p:Qbl),a[i]? = some p→(Qam a)[i*2]? = some (.string p.1)∧(Qam a)[i*2+1]? = some (.string p.2):=by
 induction a with
 | nil=>intro i p h;simp at h
 | cons q r ih =>
  intro i p h;rw [show Qam (q :: r) = [.string q.1,.string q.2] ++ Qam r from rfl];cases i with
  | zero =>
   simp at h
   subst h;exact ⟨rfl,rfl⟩
  | succ i =>
   have:=ih i p (by simpa using h)
   rw [xX (by simp;omega),xX (by simp;omega)];rw [show (i+1)*2 - [Value.string q.1,Value.string q.2].length=i*2 from by simp;omega,show (i+1)*2+1 - [Value.string q.1,Value.string q.2].length=i*2+1 from by simp;omega];exact this
def PRow (w:World) (B:Nat) (l:Value) (ps:List Qbl):Prop:=w.ownsRow B 148 2 l ps.length (Qam ps)
theorem PRow.keep {w w':World} {B:Nat} {l:Value} {ps:List Qbl} (h:PRow w B l ps) (hb:Below w.heap.size w w'):PRow w' B l ps:=by
 refine ⟨h.1,?_⟩
 rcases h.2 with h0|⟨g,cap,cur,hv,hb',hh,hr⟩
 ·exact .inl h0
 ·exact .inr ⟨g,cap,cur,hv,hb',(hb.block g (Qaa hh)).trans hh,hr⟩
def Qdy (B:Nat) (ps qs:List Qbl) (l:Value) (w:World) (e:Ending) (w':World):Prop :=
 ∃ l',e = .returned l'∧PRow w' B l' (ps ++ qs)∧w.grownBy w' l.ownBlock∧∀ k,l'.ownBlock=some k→w.heap.size≤k∨l.ownBlock=some k
structure PSt (B:Nat) (l0:Value) (w0:World) (t:Tr) (v:TV) (l:Value) (ps:List Qbl) (w:World):Prop where
 box:w.heap[w0.heap.size]? = some (trO v)
 tree:TrAt (fun k=>k<B) w t v
 row:PRow w B l ps
 base:B≤w0.heap.size
 grow:w0.grownBy w l0.ownBlock
 own:∀ k,l.ownBlock=some k→w0.heap.size<k∨l0.ownBlock=some k
 low:∀ k,l0.ownBlock=some k→k<w0.heap.size
section
variable {B:Nat} {l0:Value} {w0:World} {t:Tr} {v:TV} {l:Value} {ps:List Qbl} {w:World}
theorem PSt.start {w:World} (hl:PRow w B l ps) (ht:TrAt (fun k=>k<B) w t v) (hB:B≤w.heap.size):PSt B l w t v l ps (w.alloc (trO v)) :=
 ⟨xH w _,ht.keep ((xC _ _).alloc (xA _) _),hl.keep ((xC _ _).alloc (xA _) _),hB,World.grownBy_alloc _ _ _,fun _ hk=>.inr hk,fun k hk=>(World.ownsRow.lt hl k hk).2⟩
theorem PSt.lt (h:PSt B l0 w0 t v l ps w):w0.heap.size<w.heap.size:=Qaa h.box
theorem PSt.le (h:PSt B l0 w0 t v l ps w):B≤w.heap.size:=xQ h.base (Nat.le_of_lt h.lt)
theorem PSt.below {w':World} (h:PSt B l0 w0 t v l ps w) (hb:Below w.heap.size w w'):PSt B l0 w0 t v l ps w' :=
 ⟨(hb.block _ h.lt).trans h.box,h.tree.keep hb,h.row.keep hb,h.base,⟨hb.os.trans h.grow.os,hb.tape.trans h.grow.tape,hb.output.trans h.grow.output,xQ h.grow.size hb.size,fun k hk hne=>(hb.block k (xE hk h.grow.size)).trans (h.grow.block k hk hne)⟩,h.own,h.low⟩
theorem PSt.drew (h:PSt B l0 w0 t v l ps w):PSt B l0 w0 t v l ps w.drew:=h.below ((xC _ _).drew)
theorem PSt.alloc (h:PSt B l0 w0 t v l ps w) (o:Obj):PSt B l0 w0 t v l ps (w.alloc o):=h.below ((xC _ _).alloc (xA _) o)
theorem PSt.call {w':World} {l':Value} {qs:List Qbl} (h:PSt B l0 w0 t v l ps w) (hr:PRow w' B l' (ps ++ qs)) (hg:w.grownBy w' l.ownBlock) (ho:∀ k,l'.ownBlock=some k→w.heap.size≤k∨l.ownBlock=some k):PSt B l0 w0 t v l' (ps ++ qs) w':=by
 have hne:l.ownBlock≠some w0.heap.size:=fun e=>by
  rcases h.own _ e with h1 | h1
  ·omega
  ·have:=h.low _ h1;omega
 have hB:∀ k,k<B→w'.heap[k]? = w.heap[k]?:=fun k hk=>hg.block k (xE hk h.le) (fun e=>by have:=(World.ownsRow.lt h.row k e.symm).1;omega)
 refine ⟨(hg.block _ h.lt (fun e=>hne e.symm)).trans h.box,TrAt.move (fun _ h=>h) (fun k hk _=>hB k hk) _ _ h.tree,hr,h.base,?_,fun k hk=>?_,h.low⟩
 ·refine ⟨hg.os.trans h.grow.os,hg.tape.trans h.grow.tape,hg.output.trans h.grow.output,xQ h.grow.size hg.size,fun k hk hn=>?_⟩;refine (hg.block k (xE hk h.grow.size) (fun e=>?_)).trans (h.grow.block k hk hn)
  rcases h.own k e.symm with h1 | h1
  ·omega
  ·exact hn h1.symm
 ·rcases ho k hk with h1 | h1
  ·exact .inl (xE h.lt h1)
  ·exact h.own k h1
theorem PSt.keepB {w':World} (h:PSt B l0 w0 t v l ps w) (hg:w.grownBy w' l.ownBlock) (k:Nat) (hk:k<B):w'.heap[k]? = w.heap[k]? :=
 hg.block k (xE hk h.le) (fun e=>by have:=(World.ownsRow.lt h.row k e.symm).1;omega)
theorem PSt.app {w':World} {g m c H:Nat} {qs:List Qbl} (h:PSt B l0 w0 t v l ps w) (hm:m=qs.length) (hown:w'.ownsRow B 148 2 (.slice (some ⟨g,0,none⟩) (ps.length+m) c) (ps.length+m) (Qam ps ++ Qam qs)) (hg:w.grownBy w' l.ownBlock) (hat:l.ownBlock=some g∨g=H) (hH:w.heap.size≤H):PSt B l0 w0 t v (.slice (some ⟨g,0,none⟩) (ps.length+m) c) (ps ++ qs) w':=by
 refine h.call ?_ hg (fun k hk=>?_)
 ·unfold PRow;rw [xB,←hm,Qnl];exact hown
 ·injection hk with hk;subst hk
  rcases hat with h1 | h1
  ·exact .inr h1
  ·exact .inl (by show w.heap.size≤g;omega)
theorem PSt.rowN (h:PSt B l0 w0 t v l ps w) {n:Nat} (hn:ps.length=n):w.ownsRow B 148 2 l n (Qam ps):=hn ▸ h.row
theorem PSt.appN {w':World} {g m c H n:Nat} {qs:List Qbl} (h:PSt B l0 w0 t v l ps w) (hn:ps.length=n) (hm:m=qs.length) (hown:w'.ownsRow B 148 2 (.slice (some ⟨g,0,none⟩) (n+m) c) (n+m) (Qam ps ++ Qam qs)) (hg:w.grownBy w' l.ownBlock) (hat:l.ownBlock=some g∨g=H) (hH:w.heap.size≤H):PSt B l0 w0 t v (.slice (some ⟨g,0,none⟩) (n+m) c) (ps ++ qs) w':=by
 subst hn;exact h.app hm hown hg hat hH
theorem PSt.post {e:Ending} (h:PSt B l0 w0 t v l ps w) {ps0 qs:List Qbl} (he:ps=ps0 ++ qs) (hr:e = .returned l):Qdy B ps0 qs l0 w0 e w :=
 ⟨l,hr,he ▸ h.row,h.grow,fun k hk=>(h.own k hk).imp Nat.le_of_lt id⟩
theorem PSt.cells (h:PSt B l0 w0 t v l ps w):w.cell? ⟨w0.heap.size,0,none⟩=some (.int .i64 v.kind)∧w.cell? ⟨w0.heap.size,1,none⟩=some (.string v.text)∧w.cell? ⟨w0.heap.size,2,none⟩=some (.slice v.la v.ll v.lc)∧w.cell? ⟨w0.heap.size,3,none⟩=some (.slice v.ka v.kl v.kc) :=
 ⟨Qab h.box 0 _ rfl,Qab h.box 1 _ rfl,Qab h.box 2 _ rfl,Qab h.box 3 _ rfl⟩
theorem PSt.c4 {k:Int} {x:ByteArray} {la ka:Option Addr} {ll lc kl kc:Nat} (h:PSt B l0 w0 t ⟨k,x,la,ll,lc,ka,kl,kc⟩ l ps w):w.cell? ⟨w0.heap.size,0,none⟩=some (.int .i64 k)∧w.cell? ⟨w0.heap.size,1,none⟩=some (.string x)∧w.cell? ⟨w0.heap.size,2,none⟩=some (.slice la ll lc)∧w.cell? ⟨w0.heap.size,3,none⟩=some (.slice ka kl kc):=h.cells
end
theorem Qq4 (S:Nat→Prop) (t:Tr) (v:TV) (k:Nat) (w:World) (h:TrAt S w t v) (hk:k≤100000):Calls Tryz.prog 168 #[.agg #[.int .i64 v.kind,.string v.text,.slice v.la v.ll v.lc,.slice v.ka v.kl v.kc],.int .i64 k] w fun e w'=>e = .returned (.string (ldR t.leads k))∧Below w.heap.size w w':=by
 have hll:=h.kl.2.1;have HB0:=hQ ((xC w.heap.size w).alloc (xA _) (trO v));have HX:=hQ (xH w (trO v));have HT:=hQ h;have k2:(w.alloc (trO v)).cell? ⟨w.heap.size,2,none⟩=some (.slice v.la v.ll v.lc):=Qab HX.out 2 _ rfl;obtain ⟨vk,vx,vla,vll,vlc,vka,vkl,vkc⟩:=v;simp only at hll;subst hll;clear h
 by_cases hlt:k<t.leads.length
 ·obtain ⟨y,hy⟩:∃ y,t.leads[k]? = some y:=⟨_,xF hlt⟩;have HR:=hQ (show ldR t.leads k=y from by unfold ldR;rw [hy];rfl);obtain ⟨b,off,hla⟩:∃ b off,vla=some ⟨b,off,none⟩:=HT.out.laddr.resolve_left (by omega);subst hla;have y0:=HT.out.lat rfl hy;have hk0:(0:Int)≤(k:Int):=by omega
  have hk1:(k:Int)<(t.leads.length:Int):=by omega
  clear hy;have ybl:=xK _ _ y0
  go_enter Tryz.func168,Tryz.ntmps168
  go_wp2
  go_ret
  exact ⟨by rw [HR.out];rfl,HB0.out⟩
 ·have HR:=hQ (show ldR t.leads k=⟨#[]⟩ from by unfold ldR;rw [List.getElem?_eq_none (by omega)];rfl)
  go_enter Tryz.func168,Tryz.ntmps168
  go_wp2
  go_ret
  exact ⟨by rw [HR.out];rfl,HB0.out⟩
theorem Qio (co:Bool) (cs:List ByteArray):∀ (a b:List (List Qbl)) (i:Nat),Qa9 co cs i (a ++ b)=Qa9 co cs i a ++ Qa9 co cs (i+a.length) b
 | [],b,i=>by rw [xU,Qa9,xU,xG,Nat.add_zero]
 | p :: r,b,i=>by rw [xV,Qa9,Qa9,Qio co cs r b (i+1),xD,show i+1+r.length=i+(r.length+1) from by omega];simp only [xT]
theorem Qq5 (ls:List ByteArray) (c:Nat) (ks:List Tr) (i:Nat):(Qf3 ls c (ks.take i)).length≤(Qf3 ls c ks).length:=by
 unfold Qf3
 conv=>rhs;rw [←List.take_append_drop i ks,List.map_append,Qio,xB]
 omega
theorem Qaw (S:Nat→Prop) (t:Tr) (v:TV) (z:Int) (k:Nat) (hz:z=(k:Int)) (w:World) (h:TrAt S w t v) (hk:k≤100000):Calls Tryz.prog 168 #[.agg #[.int .i64 v.kind,.string v.text,.slice v.la v.ll v.lc,.slice v.ka v.kl v.kc],.int .i64 z] w fun e w'=>e = .returned (.string (ldR t.leads k))∧Below w.heap.size w w':=by
 subst hz;exact Qq4 S t v k w h hk
def PcC (N:Nat):Prop:=∀ (B:Nat) (l:Value) (ps:List Qbl) (t:Tr) (v:TV) (w:World),SizeOf.sizeOf t≤N→TrAt (fun k=>k<B) w t v→Qan t=true→Qak t≤1000→PRow w B l ps→B≤w.heap.size→ps.length+(Qaf t).length≤1000000 →
  Calls Tryz.prog 144 #[l,.agg #[.int .i64 v.kind,.string v.text,.slice v.la v.ll v.lc,.slice v.ka v.kl v.kc]] w (Qdy B ps (Qaf t) l w)
def RowAt (B:Nat) (l0:Value) (w0:World) (t:Tr) (v:TV) (ps:List Qbl) (comma to:Nat) (l i:Value) (w:World):Prop :=
 ∃ j:Nat,i = .int .i64 j∧j≤to∧PSt B l0 w0 t v l (ps ++ Qf3 t.leads comma (t.kids.take j)) w
def ModAt (B:Nat) (l0:Value) (w0:World) (t:Tr) (v:TV) (ps:List Qbl) (l i:Value) (w:World):Prop :=
 ∃ j:Nat,i = .int .i64 j∧j≤t.kids.length∧PSt B l0 w0 t v l (ps ++ (List.map Qaf (List.take j t.kids)).flatten) w
theorem Qpl {N:Nat} (ih:PcC N) (B:Nat) (l:Value) (ps:List Qbl) (t:Tr) (v:TV) (to comma:Nat) (w:World) (hN:SizeOf.sizeOf t≤N+1) (ht:TrAt (fun k=>k<B) w t v) (hz:Qak t≤1000) (hto:to≤t.kids.length) (hc:comma≤10)
  (hsh:∀ (j:Nat) (k:Tr),t.kids[j]? = some k→Qan k=true) (hl:PRow w B l ps) (hB:B≤w.heap.size) (hb:ps.length+(Qf3 t.leads comma (t.kids.take to)).length≤1000000) :
  Calls Tryz.prog 169 #[l,.agg #[.int .i64 v.kind,.string v.text,.slice v.la v.ll v.lc,.slice v.ka v.kl v.kc],.int .i64 0,.int .i64 to,.int .i64 comma] w (Qdy B ps (Qf3 t.leads comma (t.kids.take to)) l w):=by
 have hkl:=ht.kl;obtain ⟨vk,vx,vla,vll,vlc,vka,vkl,vkc⟩:=v;simp only at hkl;obtain ⟨rfl,rfl,rfl,rfl⟩:=hkl;have HIH:=hQ ih;have HN:=hQ hN;have HZ:=hQ hz;have HTO:=hQ hto;have HSH:=hQ hsh;have HBD:=hQ hb;have HST:=hQ (PSt.start hl ht hB);have hkn:t.kids.length≤1000:=by have:=Qba t.kids;have:=Qa7 t;omega
 have hto2:(to:Int)≤1000:=by omega
 have hc2:(comma:Int)≤10:=by omega
 obtain ⟨ip,hip,pz0,pz1,pz2⟩:=info_parts Qbf;clear ih hN ht hz hsh hl hB hb hto
 go_enter Tryz.func169,Tryz.ntmps169
 go_wp2
 go_loopw [0,11] (fun l' i wr=>RowAt B l w t ⟨t.kind,t.text,vla,t.leads.length,vlc,vka,t.kids.length,vkc⟩ ps comma to l' i wr) (fun _ i _=>to-(intOf i).toNat)
 case atStart=>exact ⟨0,rfl,xZ _,by rw [List.take_zero,Zd6,List.append_nil];exact HST.out⟩
 case round =>
  obtain ⟨j,rfl,hj,hst⟩:=hrel;have HS1:=hQ hst;clear hst
  by_cases hlt:j<to
  ·obtain ⟨a,ha⟩:∃ a,t.kids[j]? = some a:=⟨_,xF (by have:=HTO.out;omega)⟩
   have HRW:=hQ (show Qf3 t.leads comma (t.kids.take (j+1))=Qf3 t.leads comma (t.kids.take j) ++ ((if 0<j then [(ldR t.leads (comma+j-1),⟨#[44]⟩)] else []) ++ Qaf a) from by
    rw [Qeu ha,Zak,List.length_take,Nat.min_eq_left (by have:=HTO.out;omega)])
   have HLE:=hQ (show ps.length+(Qf3 t.leads comma (t.kids.take (j+1))).length≤1000000 from by
    have h1:=Qq5 t.leads comma (t.kids.take to) (j+1);rw [List.take_take,Nat.min_eq_left (by omega)] at h1;have:=HBD.out
    omega)
   obtain ⟨xb,xo,hka⟩:∃ b off,vka=some ⟨b,off,none⟩:=HS1.out.tree.addr.resolve_left (by show t.kids.length≠0;have:=HTO.out;omega);subst hka;obtain ⟨u,c0,c1,c2,c3,hu⟩:=HS1.out.tree.at rfl ha;obtain ⟨k0,k1,k2,k3⟩:=HS1.out.c4;have HNA:=hQ (show SizeOf.sizeOf a≤N from by have:=Qa0 ha;have:=HN.out;omega);have HZA:=hQ (show Qak a≤1000 from by have:=Qbe ha;have:=HZ.out;omega);have HSA:=hQ (HSH.out j a ha);have HU:=hQ hu;have HA:=hQ ha;have hj0:(0:Int)≤(j:Int):=by omega
   have hj1:(j:Int)<(t.kids.length:Int):=by have:=HTO.out;omega
   have hj2:(j:Int)+1≤1000:=by omega
   generalize hPS:ps ++ Qf3 t.leads comma (t.kids.take j)=PS at HS1
   have HPS:=hQ hPS
   have HPL:=hQ (show PS.length+((if 0<j then [(ldR t.leads (comma+j-1),(⟨#[44]⟩:ByteArray))] else []) ++ Qaf a).length≤1000000 from by
    have h1:=HLE.out;rw [HRW.out,xB] at h1;rw [←hPS,xB];omega)
   clear ha hu hPS
   by_cases h0:j=0
   ·have d0:decide (0<j)=false:=xR (by omega);have d1:decide ((0:Int)<(j:Int))=false:=xR (by omega);have hbl:=HPL.out;rw [xN (by omega),xU] at hbl;have HBL:=hQ hbl;have H0:=hQ h0;clear hbl h0;go_wp2_with (go_at_call 144;refine (HIH.out B _ PS a u _ HNA.out HU.out HSA.out HZA.out HS1.out.row HS1.out.le HBL.out).mono ?_;rintro e w4 ⟨l4,rfl,hr4,hg4,ho4⟩;have HS4:=hQ (HS1.out.call hr4 hg4 ho4);clear hr4 hg4 ho4 k0 k1 k2 k3 c0 c1 c2 c3)
    go_roundw
    case measure=>simp [intOf];omega
    case rel=>exact ⟨j+1,by go_num,by omega,by
     have h4:=HS4.out;rw [←HPS.out,xT] at h4;rw [HRW.out,xN (by have:=H0.out;omega),xU];exact h4⟩
   ·have d0:decide (0<j)=true:=xS (by omega);have d1:decide ((0:Int)<(j:Int))=true:=xS (by omega);have hbl:=HPL.out;rw [xO (by omega),xB,xD,xG] at hbl;have HBL:=hQ (show (PS ++ [(ldR t.leads (comma+j-1),(⟨#[44]⟩:ByteArray))]).length+(Qaf a).length≤1000000 from by rw [xB,xD,xG];omega);have hb1:PS.length+1≤1000000:=by omega
    have HLD:=hQ (fun (w:World) (h:TrAt (fun k=>k<B) w t ⟨t.kind,t.text,vla,t.leads.length,vlc,some ⟨xb,xo,none⟩,t.kids.length,vkc⟩)=>by
     have h1:=Qq4 _ t ⟨t.kind,t.text,vla,t.leads.length,vlc,some ⟨xb,xo,none⟩,t.kids.length,vkc⟩ (comma+j-1) w h (by omega);rw [show ((comma+j-1:Nat):Int)=(comma:Int)+(j:Int)-1 from by omega] at h1;exact h1)
    clear hbl
    go_wp2_with (first
     | (go_at_call 168;refine (HLD.out _ HS1.out.tree).mono ?_;rintro e w2 ⟨rfl,hb2⟩;have HS2:=hQ (HS1.out.below hb2);clear hb2 k0 k1 k2 k3 c0 c1 c2 c3)
     | (at_builtin;refine wpList_append_lies _ rfl _ _ 145 rfl B 148 ip _ 2 32 Tryz.underlying145 hip pz0 pz1 pz2 rfl (by decide) u0 PS.length (Qam PS) rfl (HS2.out.alloc _).row ⟨w2.heap.size,0,none⟩ 1 1 (Qam [(ldR t.leads (comma+j-1),(⟨#[44]⟩:ByteArray))]) rfl rfl (xM (cs:=#[.string (ldR t.leads (comma+j-1)),.string ⟨#[44]⟩]) (t:=148) (fr:=(0,0)) (xH w2 _)) (Qat _) (by decide) (by unfold maxLen;omega) (by omega) (HS2.out.alloc _).le _ rfl ?_;intro g3 c3 w3 hown hgr hat hlt3;have HS3:=hQ ((HS2.out.alloc _).app (qs:=[(ldR t.leads (comma+j-1),(⟨#[44]⟩:ByteArray))]) rfl hown hgr hat (xA _));clear hown hgr hat hlt3;obtain ⟨k0,k1,k2,k3⟩:=HS3.out.c4;obtain ⟨u3,c0,c1,c2,c3',hu⟩:=HS3.out.tree.at rfl HA.out;have HU3:=hQ hu;clear hu)
     | (go_at_call 144;refine (HIH.out B _ (PS ++ [(ldR t.leads (comma+j-1),(⟨#[44]⟩:ByteArray))]) a u3 _ HNA.out HU3.out HSA.out HZA.out HS3.out.row HS3.out.le HBL.out).mono ?_;rintro e w4 ⟨l4,rfl,hr4,hg4,ho4⟩;have HS4:=hQ (HS3.out.call hr4 hg4 ho4);clear hr4 hg4 ho4 k0 k1 k2 k3 c0 c1 c2 c3'))
    go_roundw
    case measure=>simp [intOf];omega
    case rel=>exact ⟨j+1,by go_num,by omega,by
     have h4:=HS4.out;rw [←HPS.out,xT,xT] at h4;rw [HRW.out,xO (by omega)];exact h4⟩
  ·have hje:j=to:=by omega
   subst hje
   go_wp2
   go_ret
   exact HS1.out.post rfl rfl
end Go.Proofs.YtfjpemdejoejbaaGreat
