/- Part 39 -/
import Derived.Test.YtfjpemdejoejbaaGreatTp38
set_option maxRecDepth 100000
set_option maxHeartbeats 4000000
namespace Go.Proofs.YtfjpemdejoejbaaGreat
open Go.Proofs.Tryz Go.RowKit
theorem Qme{t:Tr}(h:Qam t=true):Qba (Qae t.kind) t.text=true:=by
 rw[Qi8]at h;simp at h
 exact h.1.2
theorem Qpg{t k:Tr}{d:Nat}(hz:Qai t<=1000)(h:Qam t=true)(hk:t.kind=1)(ht:t.kids[d]? = some k):k.kind=2\/k.kind=3:=by
 rw[<-Qce _ t (xA _) hz,Qd8]at h;simp only[Bool.and_eq_true]at h;have h2:=h.2
 have key:∀ (l:List Tr) (n i j:Nat),Qbo 1 n i l=true->∀ a,l[j]? = some a->a.kind=2\/a.kind=3:=by
  intro l
  induction l with
  | nil=>intro n i j _ a ha;simp at ha
  | cons b r ih =>
   intro n i j hr a ha;rw[Qbo]at hr;simp only[Bool.and_eq_true]at hr
   match j,ha with
   | 0,ha =>
    injection ha with ha;subst ha;have:=hr.1.1
    unfold Qg0 at this;rw[xO rfl]at this
    simpa using this
   | j+1,ha=>exact ih n (i+1) j hr.2 a (by simpa using ha)
 rw[hk]at h2;exact key _ _ _ d h2 k ht
theorem Quu{ps:List Tr}{m d:Nat}{t u k:Tr}(hs:Qam u=true)(hu:u.kind=16\/u.kind=9)(_ht:ps[m]? = some t)(hT:Qam t=true)(hk1:t.kind=1)(hz:Qai t<=1000)(hk:t.kids[d]? = some k)(hx:k.text=(Qg5 u.text).2.1):(u.kind=16 ↔ k.kind=2):=by
 have hks:Qam k=true:=(Qnr hz hT).2 _ (yA hk);have hkk:=Qpg hz hT hk1 hk;have hun:=Qme hs;have hkn:=Qme hks
 have ck:Qap (bl k.text)=1/\k.kind=2\/Qap (bl k.text)=2/\k.kind=3:=by
  rcases hkk with e | e
  ·rw[e]at hkn;exact .inl ⟨Zdh hkn,e⟩
  ·rw[e]at hkn;exact .inr ⟨Qyx hkn,e⟩
 have cu:(Qap (bl u.text)=1\/Qap (bl u.text)=3)/\u.kind=16\/(Qap (bl u.text)=2\/Qap (bl u.text)=4)/\u.kind=9:=by
  rcases hu with e | e
  ·rw[e]at hun;exact .inl ⟨Zdg hun,e⟩
  ·rw[e]at hun;exact .inr ⟨Qyw hun,e⟩
 by_cases hd:Qqi u.text<u.text.size
 ·have hdv:(Qg5 u.text).2.1=u.text.extract (Qqi u.text+1) u.text.size:=by unfold Qg5;rw[xO hd]
  rw[hdv]at hx
  have hb:bl k.text=(bl u.text).drop (Qq6 (bl u.text)+1):=by
   rw[hx,Zko];rfl
  have hdl:Qq6 (bl u.text)<(bl u.text).length:=by rw[Qf0];exact hd
  have c1:1<=Qap (bl u.text)/\Qap (bl u.text)<=4:=by omega
  have hcd:=Zdf c1.1 c1.2 hdl;have hcf:=Qus (l:=bl k.text) (by omega);rw[hb,Qut,<-hb]at hcf
  rcases hcd with⟨a1,a2⟩|⟨a1,a2⟩
  ·rw[a2]at hcf;have:=of_decide_eq_true hcf.symm
   omega
  ·rw[a2]at hcf;have:=of_decide_eq_false hcf.symm
   omega
 ·have hdv:(Qg5 u.text).2.1=u.text:=by unfold Qg5;rw[xN hd]
  rw[hdv]at hx;rw[hx]at ck;omega
theorem Qss(N:Nat):∀ t:Tr,SizeOf.sizeOf t<=N->Qa2 t=true->5<=t.kind/\t.kind<=9->Qai (Qbd t)<=Qai t:=by
 induction N with
 | zero=>intro t h;have:=Qf3 t;omega
 | succ N ih =>
  intro t hN h hk
  rcases Qfu h hk with⟨h8,k,hkk,h1,h2⟩|⟨h8,_,_⟩
  ·have hj:t.kids[0]? = some k:=by rw[hkk];rfl
   rw[(Qfj h8 hkk).1];exact xQ (ih k (by have:=Qar hj;omega) h2 h1) (Qbi hj)
  ·rw[(Qfk h8).1];exact xA _
def Zkp(ps:List Tr)(r:Int × Int × Bool):Prop:=(r.2.2=false/\r=(0,0,false))\/∃ (M D:Nat) (t k:Tr),r=((M:Int),(D:Int),true)/\ps[M]? = some t/\t.kids[D]? = some k/\k.kind=3
theorem Qje{ps:List Tr}(hz:∀ t∈ps,Qai t<=1000)(hg:Qc1 ps=true){i:Nat}{u:Tr}(hu:Qa2 u=true)(h9:u.kind=9)(hs:Qai u<=1000):Zkp ps (Qbb ps i u.text):=by
 cases hf:(Qbb ps i u.text).2.2 with
 | false=>exact .inl ⟨hf,Zcl hf⟩
 | true =>
  obtain⟨M,D,t,k,h1,h2,h3,h4⟩:=Qvz hf;refine .inr ⟨M,D,t,k,h4,h1,h2,?_⟩;obtain⟨q1,q2⟩:=Qgo hg h1;have hzt:=hz t (yA h1);have hk:=Qpg hzt q2 q1 h2;have hus:Qam u=true:=by rw[<-Qce _ u (xA _) hs];exact hu
  have:=Quu hus (.inr h9) h1 q2 q1 hzt h2 h3
  omega
theorem Zig{ps:List Tr}{f n:Nat}{r:Int × Int × Bool}{met:List (Int × Int)}{R:Int × Nat × Int}(h:goL ps f r met n=some R)(hr:r.2.2=false):R=(7,0,0):=by
 cases f with
 | zero=>rw[goL]at h;cases h
 | succ f =>
  rw[goL,xN (by rw[hr];decide)]at h;injection h with h;exact h.symm
theorem Zdi{ps:List Tr}{f n:Nat}{r:Int × Int × Bool}{met:List (Int × Int)}{R:Int × Nat × Int}(h:goL ps f r met n=some R)(hr:r.2.2=true)(hm:(r.1,r.2.1)∈met):R=(19,0,0):=by
 cases f with
 | zero=>rw[goL]at h;cases h
 | succ f =>
  rw[goL,xO hr,xO hm]at h;injection h with h;exact h.symm
theorem Qwk{ps:List Tr}{f n M D:Nat}{met:List (Int × Int)}{R:Int × Nat × Int}(h:goL ps f ((M:Int),(D:Int),true) met n=some R)(hm:((M:Int),(D:Int)) ∉ met)(h9:(Qd4 (Qjj ps M D)).kind≠9):R=(0,n+Qbn (Qlr ps M D),(Qd4 (Qjj ps M D)).kind):=by
 cases f with
 | zero=>rw[goL]at h;cases h
 | succ f =>
  rw[goL,xO rfl,xN hm,xN (by simp only[Int.toNat_natCast];exact h9)]at h;injection h with h;simp only[Int.toNat_natCast]at h;exact h.symm
theorem Qwl{ps:List Tr}{f n M D:Nat}{met:List (Int × Int)}{R:Int × Nat × Int}(h:goL ps f ((M:Int),(D:Int),true) met n=some R)(hm:((M:Int),(D:Int)) ∉ met)(h9:(Qd4 (Qjj ps M D)).kind=9) :
  ∃ f',f=f'+1/\goL ps f' (Qbb ps M (Qd4 (Qjj ps M D)).text) (met ++ [((M:Int),(D:Int))]) (n+Qbn (Qlr ps M D))=some R:=by
 cases f with
 | zero=>rw[goL]at h;cases h
 | succ f =>
  refine⟨f,rfl,?_⟩;rw[goL,xO rfl,xN hm,xO (by simp only[Int.toNat_natCast];exact h9)]at h;simp only[Int.toNat_natCast]at h;exact h
theorem Quv{ps:List Tr}(hz:∀ t∈ps,Qai t<=1000)(hg:Qc1 ps=true){M D:Nat}{t k:Tr}(ht:ps[M]? = some t)(hk:t.kids[D]? = some k)(h3:k.kind=3) :
  ∃ a,k.kids = [a]/\Qlr ps M D=a/\Qd4 (Qjj ps M D)=Qbd a/\Qa2 a=true/\(5<=a.kind/\a.kind<=9)/\Qai a<=1000:=by
 have hok:=Qwf hz hg ht hk;obtain⟨a,h1,h2,h4⟩:=Qnu hok.2.1 h3;have hd:=Qk4 ht hk;have haj:k.kids[0]? = some a:=by rw[h1];rfl
 refine⟨a,h1,by unfold Qlr;rw[hd,haj,Option.getD_some],by unfold Qd4;rw[hd,haj,Option.getD_some],h4,h2,?_⟩;have:=Qbi haj
 have:=hok.2.2
 omega
end Go.Proofs.YtfjpemdejoejbaaGreat
namespace Go.Proofs.YtfjpemdejoejbaaGreat
open Go.Proofs.Tryz Go.RowKit Go.Shelf
theorem Qs4{w:World}{B n k:Nat}{r:Value}{xs:List Value}{cs:Array Value}(h:w.ownsRow B 25 4 r n xs)(hk:w.heap[k]? = some (.cells cs 9 (0,0))):r.ownBlock≠some k:=fun e=>by
 rcases h.2 with⟨rfl,_⟩|⟨g',cap,cur',rfl,_,hh,_⟩
 ·cases e
 ·injection e with e;subst e;rw[hk]at hh;injection hh with hh;injection hh with _ h2;exact absurd h2 (by decide)
def PrL(B NBK:Nat)(w:World)(r k:Value)(wr:World):Prop:=∃ (j:Nat) (ps:List Tr) (us:List TV) (A:yE) (c:Nat),k = .int .i64 j/\r = .slice A ps.length c/\j+ps.length<=3/\PrW B w wr ps us A c/\wr.heap[NBK]? = some (.cells #[.string ⟨#[65]⟩,.string ⟨#[66]⟩,.string ⟨#[67]⟩] 9 (0,0))
theorem Qu4(A:yE)(c:Nat)(xs:List Int)(w:World)(hx:Ql9 w A xs)(hl:xs.length<=120):Calls prog 16 #[.slice A xs.length c] w (Znq w):=by
 obtain⟨it,hit,ht0,ht1,ht2⟩:=info_parts Qcm;go_enter func16,ntmps16;go_wp2_with fail;go_at_call 41;refine(Zhy A c xs w hx hl).mono ?_;rintro e w1⟨B,rfl,hB,hd1,hb1⟩;have HWB:=hQ hB;have HD1:=hQ hd1;have HB1:=hQ hb1;have HWN:=hQ ((xC w1.heap.size w1).alloc (xA _) (.cells #[.string ⟨#[65]⟩,.string ⟨#[66]⟩,.string ⟨#[67]⟩] 9));have HNB:=hQ (xH w1 (.cells #[.string ⟨#[65]⟩,.string ⟨#[66]⟩,.string ⟨#[67]⟩] 9));have HDN:=hQ (HD1.out.keep HWN.out);clear hB hd1 hb1;go_wp2_with fail;go_at_call 42;refine(Qci B 4 _ HDN.out (by decide) (by decide)).mono ?_;rintro e w2⟨q,rfl,q0,q1,hrest,hd2⟩;obtain⟨NBK,hnbk⟩:∃ n,n=w1.heap.size:=⟨_,rfl⟩;have HN2:=hQ (show w2.heap[w1.heap.size]? = some (.cells #[.string ⟨#[65]⟩,.string ⟨#[66]⟩,.string ⟨#[67]⟩] 9 (0,0)) from(hrest.block w1.heap.size (Qaa HNB.out) (by have:=HD1.out.lt;omega)).trans HNB.out);have HP2:=hQ (show PrW B w w2 [] [] none 0 from⟨fun t h=>by simp at h,rfl,World.ownsRow_nil _ _ _ _,fun i k u h=>by simp at h,(HB1.out.trans (HWN.out.mono HB1.out.size)).trans (hrest.down HWB.out (by have:=HB1.out.size;have:=HWN.out.size;omega)),hd2,HWB.out⟩);have HNBK:=hQ hnbk;rw[<-hnbk]at HN2 |-;clear hrest hd2 hnbk;obtain⟨q,rfl⟩:∃ z:Nat,q=(z:Int):=⟨q.toNat,by omega⟩;go_wp2
 go_loopw [4,6] (fun r k wr=>PrL B NBK w r k wr) (fun _ k _=>(intOf k).toNat)
 case atStart=>exact⟨q,[],[],none,0,rfl,rfl,by simp;omega,HP2.out,HN2.out⟩
 case round =>
  obtain⟨j,ps,us,A,c,rfl,rfl,hj,hp,hnb⟩:=hrel;have HJ:=hQ hj;have HP:=hQ hp;have HNB3:=hQ hnb;cases j with
  | zero =>
   clear hj hp hnb;go_wp2;go_ret;exact⟨_,ps,rfl,HP.out.mods,by have:=HJ.out;omega,HP.out.good,HP.out.below⟩
  | succ i =>
   have hp1:(ps.length:Int)<3:=by omega
   have hp2:ps.length<3:=by omega
   have hp0:(0:Int)<=(ps.length:Int):=by omega
   obtain⟨nm,hnm,hnc⟩:∃ nm:yD,szq nm<=7/\wr.cell? ⟨NBK,ps.length,none⟩=some (.string nm):=by
    have h3:ps.length=0\/ps.length=1\/ps.length=2:=by omega
    rcases h3 with h | h | h
    ·exact⟨⟨#[65]⟩,by decide,by rw[h];exact Qab hnb 0 _ rfl⟩
    ·exact⟨⟨#[66]⟩,by decide,by rw[h];exact Qab hnb 1 _ rfl⟩
    ·exact⟨⟨#[67]⟩,by decide,by rw[h];exact Qab hnb 2 _ rfl⟩
   have nbl:=Qaa hnb;have hi0:(0:Int)<=(i:Int):=by omega
   have hi1:(i:Int)<=3:=by omega
   clear hj hp hnb;go_wp2_with fail;go_at_call 43;refine(Qzj B nm wr HP.out.dice hnm).mono ?_;rintro e w5⟨t1,u1,rfl,ht,hz,hy,hrest,hd5,hk5⟩;have HZ1:=hQ hz;have HY1:=hQ hy;have HK1:=hQ (show t1.kind=1\/t1.kind=0 from hk5);have HWL:=hQ ((xC w5.heap.size w5).alloc (xA _) (trO u1));have HR5:=hQ (hrest.trans (Rest1.below HWL.out));have HD5:=hQ (hd5.keep HWL.out);have HL5:=hQ (xH w5 (trO u1));have HN5:=hQ ((HWL.out.block NBK (xE nbl hrest.size)).trans ((hrest.block NBK nbl (by have h1:=HNBK.out;have h2:=HD1.out.lt;omega)).trans HNB3.out));have HT5:=hQ (TrAt.move (w':=w5.alloc (trO u1)) (S':=fun b=>wr.heap.size<=b/\b<w5.heap.size) (fun _ h=>h) (fun b hb _=>HWL.out.block b hb.2) _ _ ht);have HBL:=hQ HP.out.dice.lt;have HSW:=hQ hrest.size;clear ht hz hy hrest hd5 hk5 hnc nbl hnm;go_wp2_with fail;go_at_call 42;refine(Qci B 8 _ HD5.out (by decide) (by decide)).mono ?_;rintro e w6⟨r,rfl,r0,r1,hrest,hd6⟩;have HR6:=hQ (HR5.out.trans hrest);have HD6:=hQ hd6;have HL6:=hQ ((hrest.block w5.heap.size (Qaa HL5.out) (by have h1:=HBL.out;have h2:=HSW.out;omega)).trans HL5.out);have HN6:=hQ ((hrest.block NBK (Qaa HN5.out) (by have h1:=HNBK.out;have h2:=HD1.out.lt;omega)).trans HN5.out);have HT6:=hQ (TrAt.move (w':=w6) (S':=fun b=>wr.heap.size<=b/\b<w5.heap.size) (fun _ h=>h) (fun b hb hl=>hrest.block b hl (by have h1:=HBL.out;omega)) _ _ HT5.out);have HS6:=hQ (show w5.heap.size<w6.heap.size from Qaa HL6.out);clear hrest hd6;have y0:w6.cell? ⟨w5.heap.size,0,none⟩=some (.int .i64 u1.kind):=Qab HL6.out 0 _ rfl;have y1:w6.cell? ⟨w5.heap.size,1,none⟩=some (.string u1.text):=Qab HL6.out 1 _ rfl;have y2:w6.cell? ⟨w5.heap.size,2,none⟩=some (.slice u1.la u1.ll u1.lc):=Qab HL6.out 2 _ rfl;have y3:w6.cell? ⟨w5.heap.size,3,none⟩=some (.slice u1.ka u1.kl u1.kc):=Qab HL6.out 3 _ rfl;have yl:w5.heap.size<w6.heap.size:=Qaa HL6.out;have yf:∀ o,w6.frozen? ⟨w5.heap.size,o,none⟩=false:=fun o=>xL HL6.out _
   by_cases hr:r=7
   ·subst hr;have kL:(w6.setCell ⟨w5.heap.size,1,none⟩ (.string ⟨#[65]⟩)).heap[w5.heap.size]? = some (trO (⟨u1.kind,⟨#[65]⟩,u1.la,u1.ll,u1.lc,u1.ka,u1.kl,u1.kc⟩:TV)):=Qa1 HL6.out rfl;have kD:DiceAt B (w6.setCell ⟨w5.heap.size,1,none⟩ (.string ⟨#[65]⟩)):=HD6.out.other fun k hk=>Qaq (by have h1:=HBL.out;have h2:=HSW.out;omega)
    have kR:Rest1 B wr (w6.setCell ⟨w5.heap.size,1,none⟩ (.string ⟨#[65]⟩)):=⟨HR6.out.os,HR6.out.tape,HR6.out.output,by have:=HR6.out.size;simpa [World.setCell] using this,fun k hk hne=>(Qaq (by have h2:=HSW.out;omega)).trans (HR6.out.block k hk hne)⟩;have kN:(w6.setCell ⟨w5.heap.size,1,none⟩ (.string ⟨#[65]⟩)).heap[NBK]? = some (.cells #[.string ⟨#[65]⟩,.string ⟨#[66]⟩,.string ⟨#[67]⟩] 9 (0,0)):=(Qaq (fun e=>by have h1:=HL6.out;rw[<-e,HN6.out]at h1;injection h1 with h1;injection h1 with _ h2;exact absurd h2 (by decide))).trans HN6.out;have kT:TrAt (fun b=>wr.heap.size<=b/\b<(w6.setCell ⟨w5.heap.size,1,none⟩ (.string ⟨#[65]⟩)).heap.size) (w6.setCell ⟨w5.heap.size,1,none⟩ (.string ⟨#[65]⟩)) (.mk t1.kind ⟨#[65]⟩ t1.leads t1.kids) (⟨u1.kind,⟨#[65]⟩,u1.la,u1.ll,u1.lc,u1.ka,u1.kl,u1.kc⟩:TV):=TrAt.text (TrAt.move (w:=w6) (fun b hb=>⟨hb.1,by have h1:=HS6.out;have h2:(w6.setCell ⟨w5.heap.size,1,none⟩ (.string ⟨#[65]⟩)).heap.size=w6.heap.size:=(by simp[World.setCell]);omega⟩) (fun b hb _=>Qaq (by omega)) _ _ HT6.out) ⟨#[65]⟩;have HK7:=hQ (show((.mk t1.kind ⟨#[65]⟩ t1.leads t1.kids):Tr).kind=1\/((.mk t1.kind ⟨#[65]⟩ t1.leads t1.kids):Tr).kind=0 from HK1.out);have HY7:=hQ (Zen HY1.out (x:=⟨#[65]⟩) (by decide));have HZ7:=hQ (show Qai (.mk t1.kind ⟨#[65]⟩ t1.leads t1.kids)<=352 from by rw[Zeo];exact HZ1.out);go_upto_region 10 with fail
    generalize w6.setCell ⟨w5.heap.size,1,none⟩ (.string ⟨#[65]⟩)=w7 at kL kD kR kN kT |-;have HL7:=hQ kL;have HD7:=hQ kD;have HR7:=hQ kR;have HNB7:=hQ kN;have HT7:=hQ kT;clear kL kD kR kN kT y0 y1 y2 y3 yl yf;have y0:w7.cell? ⟨w5.heap.size,0,none⟩=some (.int .i64 u1.kind):=Qab HL7.out 0 _ rfl;have y1:w7.cell? ⟨w5.heap.size,1,none⟩=some (.string ⟨#[65]⟩):=Qab HL7.out 1 _ rfl;have y2:w7.cell? ⟨w5.heap.size,2,none⟩=some (.slice u1.la u1.ll u1.lc):=Qab HL7.out 2 _ rfl;have y3:w7.cell? ⟨w5.heap.size,3,none⟩=some (.slice u1.ka u1.kl u1.kc):=Qab HL7.out 3 _ rfl;have yl:w5.heap.size<w7.heap.size:=Qaa HL7.out;have yf:∀ o,w7.frozen? ⟨w5.heap.size,o,none⟩=false:=fun o=>xL HL7.out _
    go_wp2_with fail;go_at_call 44;refine(Qpw _ (.mk t1.kind ⟨#[65]⟩ t1.leads t1.kids) (⟨u1.kind,⟨#[65]⟩,u1.la,u1.ll,u1.lc,u1.ka,u1.kl,u1.kc⟩:TV) w7 HT7.out HY7.out HZ7.out).mono ?_;rintro e w8⟨rfl,hb8⟩;have HR8:=hQ (HR7.out.trans (Rest1.below hb8));have HD8:=hQ (HD7.out.keep hb8);have HL8:=hQ ((hb8.block w5.heap.size (Qaa HL7.out)).trans HL7.out);have HN8:=hQ ((hb8.block NBK (Qaa HNB7.out)).trans HNB7.out);have HT8:=hQ (TrAt.move (S':=fun b=>wr.heap.size<=b/\b<w8.heap.size) (fun b hb=>⟨hb.1,xE hb.2 hb8.size⟩) (fun b _ hl=>hb8.block b hl) _ _ HT7.out);clear hb8 y0 y1 y2 y3 yl yf;cases hv:Qgi (.mk t1.kind ⟨#[65]⟩ t1.leads t1.kids) with
    | false =>
     have HV:=hQ hv;clear hv;go_wp2;go_roundw
     case measure=>first | (simp[intOf];done) | (simp[intOf];omega)
     case rel=>exact⟨i,ps,us,A,c,by go_num,rfl,by have:=HJ.out;omega,HP.out.keep HR8.out HD8.out,HN8.out⟩
    | true =>
     have HG:=hQ (Zep hv HY7.out HZ7.out HK7.out);clear hv;have y0:w8.cell? ⟨w5.heap.size,0,none⟩=some (.int .i64 u1.kind):=Qab HL8.out 0 _ rfl;have y1:w8.cell? ⟨w5.heap.size,1,none⟩=some (.string ⟨#[65]⟩):=Qab HL8.out 1 _ rfl;have y2:w8.cell? ⟨w5.heap.size,2,none⟩=some (.slice u1.la u1.ll u1.lc):=Qab HL8.out 2 _ rfl;have y3:w8.cell? ⟨w5.heap.size,3,none⟩=some (.slice u1.ka u1.kl u1.kc):=Qab HL8.out 3 _ rfl;have yl:w5.heap.size<w8.heap.size:=Qaa HL8.out;have yf:∀ o,w8.frozen? ⟨w5.heap.size,o,none⟩=false:=fun o=>xL HL8.out _
     have HB1:=hQ (show ps.length+1<=maxLen from by have:=HJ.out;unfold maxLen;omega);have HB2:=hQ (show(ps.length+1)*72<=140737488355328 from by have:=HJ.out;omega);have HO8:=hQ (Qdn HP.out.row HR8.out (xW _));have HNW:=hQ (xM (cs:=(Qag [((⟨u1.kind,⟨#[65]⟩,u1.la,u1.ll,u1.lc,u1.ka,u1.kl,u1.kc⟩:TV):TV)]).toArray) (t:=25) (fr:=(0,0)) (xH w8 (.cells (Qag [((⟨u1.kind,⟨#[65]⟩,u1.la,u1.ll,u1.lc,u1.ka,u1.kl,u1.kc⟩:TV):TV)]).toArray 25)));have HON:=hQ (Qdk [((⟨u1.kind,⟨#[65]⟩,u1.la,u1.ll,u1.lc,u1.ka,u1.kl,u1.kc⟩:TV):TV)]);have HSZ:=hQ (show B+1<=(w8.alloc (.cells (Qag [((⟨u1.kind,⟨#[65]⟩,u1.la,u1.ll,u1.lc,u1.ka,u1.kl,u1.kc⟩:TV):TV)]).toArray 25)).heap.size from by rw[xI];have:=HD8.out.lt;omega);go_wp2_with (at_builtin;refine wpList_append_lies _ rfl _ _ 22 rfl (B+1) 25 it _ 4 72 underlying22 hit ht0 ht1 ht2 rfl (by decide) (.slice A ps.length c) ps.length (Qag us) rfl (HO8.out.alloc _) ⟨w8.heap.size,0,none⟩ 1 1 (Qag [((⟨u1.kind,⟨#[65]⟩,u1.la,u1.ll,u1.lc,u1.ka,u1.kl,u1.kc⟩:TV):TV)]) rfl rfl HNW.out HON.out (by decide) HB1.out HB2.out HSZ.out (w8.heap.size+1) (xI _ _) ?_;intro g cap w9 hown hgr hat hlt9;have HO9:=hQ hown;have HG9:=hQ hgr;have HA9:=hQ hat;have HN9:=hQ (Qgb HN8.out hgr (Qs4 HP.out.row HNB3.out));clear hown hgr hat hlt9 y0 y1 y2 y3 yl yf)
     go_roundw
     case measure=>first | (simp[intOf];done) | (simp[intOf];omega)
     case rel=>exact⟨i,ps ++ [(.mk t1.kind ⟨#[65]⟩ t1.leads t1.kids)],us ++ [(⟨u1.kind,⟨#[65]⟩,u1.la,u1.ll,u1.lc,u1.ka,u1.kl,u1.kc⟩:TV)],some ⟨g,0,none⟩,cap,by go_num,by rw[xB];rfl,by rw[xB,List.length_singleton];have:=HJ.out;omega,HP.out.next HR8.out HD8.out HT8.out HG.out rfl HO9.out HG9.out HA9.out,HN9.out⟩
   ·have hr2:decide (r=7)=false:=xR hr;have hr3:(r==7)=false:=by simpa using hr
    have HT7:=hQ (TrAt.move (S':=fun b=>wr.heap.size<=b/\b<w6.heap.size) (fun b hb=>⟨hb.1,Nat.lt_trans hb.2 HS6.out⟩) (fun _ _ _=>rfl) _ _ HT6.out);have HL7:=HL6;have HD7:=HD6;have HR7:=HR6;have HNB7:=HN6;have HK7:=HK1;have HY7:=HY1;have HZ7:=HZ1;go_wp2_with fail;go_at_call 44;refine(Qpw _ t1 u1 w6 HT7.out HY7.out HZ7.out).mono ?_;rintro e w8⟨rfl,hb8⟩;have HR8:=hQ (HR7.out.trans (Rest1.below hb8));have HD8:=hQ (HD7.out.keep hb8);have HL8:=hQ ((hb8.block w5.heap.size (Qaa HL7.out)).trans HL7.out);have HN8:=hQ ((hb8.block NBK (Qaa HNB7.out)).trans HNB7.out);have HT8:=hQ (TrAt.move (S':=fun b=>wr.heap.size<=b/\b<w8.heap.size) (fun b hb=>⟨hb.1,xE hb.2 hb8.size⟩) (fun b _ hl=>hb8.block b hl) _ _ HT7.out);clear hb8 y0 y1 y2 y3 yl yf;cases hv:Qgi t1 with
    | false =>
     have HV:=hQ hv;clear hv;go_wp2;go_roundw
     case measure=>first | (simp[intOf];done) | (simp[intOf];omega)
     case rel=>exact⟨i,ps,us,A,c,by go_num,rfl,by have:=HJ.out;omega,HP.out.keep HR8.out HD8.out,HN8.out⟩
    | true =>
     have HG:=hQ (Zep hv HY7.out HZ7.out HK7.out);clear hv;have y0:w8.cell? ⟨w5.heap.size,0,none⟩=some (.int .i64 u1.kind):=Qab HL8.out 0 _ rfl;have y1:w8.cell? ⟨w5.heap.size,1,none⟩=some (.string u1.text):=Qab HL8.out 1 _ rfl;have y2:w8.cell? ⟨w5.heap.size,2,none⟩=some (.slice u1.la u1.ll u1.lc):=Qab HL8.out 2 _ rfl;have y3:w8.cell? ⟨w5.heap.size,3,none⟩=some (.slice u1.ka u1.kl u1.kc):=Qab HL8.out 3 _ rfl;have yl:w5.heap.size<w8.heap.size:=Qaa HL8.out;have yf:∀ o,w8.frozen? ⟨w5.heap.size,o,none⟩=false:=fun o=>xL HL8.out _
     have HB1:=hQ (show ps.length+1<=maxLen from by have:=HJ.out;unfold maxLen;omega);have HB2:=hQ (show(ps.length+1)*72<=140737488355328 from by have:=HJ.out;omega);have HO8:=hQ (Qdn HP.out.row HR8.out (xW _));have HNW:=hQ (xM (cs:=(Qag [(u1:TV)]).toArray) (t:=25) (fr:=(0,0)) (xH w8 (.cells (Qag [(u1:TV)]).toArray 25)));have HON:=hQ (Qdk [(u1:TV)]);have HSZ:=hQ (show B+1<=(w8.alloc (.cells (Qag [(u1:TV)]).toArray 25)).heap.size from by rw[xI];have:=HD8.out.lt;omega);go_wp2_with (at_builtin;refine wpList_append_lies _ rfl _ _ 22 rfl (B+1) 25 it _ 4 72 underlying22 hit ht0 ht1 ht2 rfl (by decide) (.slice A ps.length c) ps.length (Qag us) rfl (HO8.out.alloc _) ⟨w8.heap.size,0,none⟩ 1 1 (Qag [(u1:TV)]) rfl rfl HNW.out HON.out (by decide) HB1.out HB2.out HSZ.out (w8.heap.size+1) (xI _ _) ?_;intro g cap w9 hown hgr hat hlt9;have HO9:=hQ hown;have HG9:=hQ hgr;have HA9:=hQ hat;have HN9:=hQ (Qgb HN8.out hgr (Qs4 HP.out.row HNB3.out));clear hown hgr hat hlt9 y0 y1 y2 y3 yl yf)
     go_roundw
     case measure=>first | (simp[intOf];done) | (simp[intOf];omega)
     case rel=>exact⟨i,ps ++ [t1],us ++ [u1],some ⟨g,0,none⟩,cap,by go_num,by rw[xB];rfl,by rw[xB,List.length_singleton];have:=HJ.out;omega,HP.out.next HR8.out HD8.out HT8.out HG.out rfl HO9.out HG9.out HA9.out,HN9.out⟩
end Go.Proofs.YtfjpemdejoejbaaGreat
namespace Go.Proofs.YtfjpemdejoejbaaGreat
open Go.Proofs.Tryz Go.RowKit
theorem Qoc:(ps:List Tr)->(∀ t∈ps,Qs3 t)->Qal ps<=352*ps.length
 | [],_=>by rw[Qal];simp
 | t :: r,h=>by
  rw[Qal,xD];have h1:=(h t (by simp)).2.2.1;have h2:=Qoc r (fun u hu=>h u (by simp[hu]));omega
theorem Qs5:(ps:List Tr)->(∀ t∈ps,Qs3 t)->Qbu ps=true
 | [],_=>rfl
 | t :: r,h=>by
  rw[Qbu,(h t (by simp)).2.1,Qs5 r (fun u hu=>h u (by simp[hu]))];rfl
theorem Zhz{ps:List Tr}(h3:ps.length<=3)(hg:∀ t∈ps,Qs3 t):Qt6 (Qa9 ps)<=70000:=by
 have h1:Qf6 (Qa9 ps)=true:=Qcp.2 ⟨by decide,by simp,by simp,Qs5 ps hg⟩;have h2:=Qmu _ h1;have h4:Qai (Qa9 ps)=1+Qal ps:=by unfold Qa9;rw[Qai] <;> omega
 have h5:=Qoc ps hg;have h6:352*ps.length<=352*3:=Nat.mul_le_mul_left _ h3;omega
theorem Zeq{lo c:Nat}{A:yE}{w:World}{ps:List Tr}{us:List TV}(hc:ps.length<=c)(hlen:us.length=ps.length)
  (hrow:ps≠[]->∃ g cs,A=some ⟨g,0,none⟩/\lo<=g/\w.heap[g]? = some (.cells cs 25 (0,0))/\RowIs cs us)
  (hat:∀ (i:Nat) (k:Tr) (u:TV),ps[i]? = some k->us[i]? = some u->TrAt (fun b=>lo<=b/\b<w.heap.size) w k u) :
  TrAt (fun b=>lo<=b/\b<w.heap.size) w (Qa9 ps) ⟨0,⟨#[]⟩,none,0,0,A,ps.length,c⟩:=by
 refine TrAt.make rfl rfl rfl rfl (fun h=>absurd rfl h) (fun h0=>?_) ⟨xA _,hc⟩;obtain⟨g,cs,hA,hg,hh,hr⟩:=hrow h0;refine⟨g,0,hA,⟨hg,Qaa hh⟩,TrsAt.of _ 0 fun i t ht=>?_⟩;have hi:i<us.length:=by rw[hlen];exact(xP.1 ht).1
 obtain⟨u,hu⟩:∃ u,us[i]? = some u:=⟨_,xF hi⟩;obtain⟨r0,r1,r2,r3⟩:=hr i u hu
 refine⟨u,?_,?_,?_,?_,hat i t u ht hu⟩
 ·rw[show 0+i*4=i*4 from by omega];exact Qab hh _ _ r0
 ·rw[show 0+i*4+1=i*4+1 from by omega];exact Qab hh _ _ r1
 ·rw[show 0+i*4+2=i*4+2 from by omega];exact Qab hh _ _ r2
 ·rw[show 0+i*4+3=i*4+3 from by omega];exact Qab hh _ _ r3
end Go.Proofs.YtfjpemdejoejbaaGreat
namespace Go.Proofs.YtfjpemdejoejbaaGreat
open Go.Proofs.Tryz Go.RowKit Go.Shelf
theorem Zh0{w:World}{a b:Tr}{va vb:TV}{S S':Nat->Prop}{g:Nat}(ha:TrAt S w a va)(hb:TrAt S' w b vb)(hS:∀ k,S k->k<w.heap.size)(hS':∀ k,S' k->k<w.heap.size)
  (hh:w.heap[g]? = some (.cells #[.int .i64 va.kind,.string va.text,.slice va.la va.ll va.lc,.slice va.ka va.kl va.kc,.int .i64 vb.kind,.string vb.text,.slice vb.la vb.ll vb.lc,.slice vb.ka vb.kl vb.kc] 25 (0,0))) :
  TrAt (fun b=>0<=b/\b<w.heap.size) w (Qa9 [a,b]) ⟨0,⟨#[]⟩,none,0,0,some ⟨g,0,none⟩,2,2⟩:=by
 refine Zeq (ps:=[a,b]) (us:=[va,vb]) (xA _) rfl (fun _=>⟨g,_,rfl,xZ _,hh,fun i v hv=>?_⟩) (fun i k u hk hu=>?_)
 ·match i,hv with
  | 0,hv =>
   injection hv with hv;subst hv;exact⟨rfl,rfl,rfl,rfl⟩
  | 1,hv =>
   injection hv with hv;subst hv;exact⟨rfl,rfl,rfl,rfl⟩
  | i+2,hv=>simp at hv
 ·match i,hk,hu with
  | 0,hk,hu =>
   injection hk with hk;injection hu with hu;subst hk hu;exact TrAt.move (fun k h=>⟨xZ _,hS k h⟩) (fun _ _ _=>rfl) _ _ ha
  | 1,hk,hu =>
   injection hk with hk;injection hu with hu;subst hk hu;exact TrAt.move (fun k h=>⟨xZ _,hS' k h⟩) (fun _ _ _=>rfl) _ _ hb
  | i+2,hk,_=>simp at hk
end Go.Proofs.YtfjpemdejoejbaaGreat
