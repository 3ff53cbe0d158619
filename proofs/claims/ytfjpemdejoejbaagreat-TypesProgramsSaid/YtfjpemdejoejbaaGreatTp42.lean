/- Part 42 -/
import Derived.Test.YtfjpemdejoejbaaGreatTp41
import Derived.ChangeKeysEq
set_option maxRecDepth 100000
set_option maxHeartbeats 4000000
namespace Go.Proofs.YtfjpemdejoejbaaGreat
open Go.Proofs.Tryz Go.RowKit
def Zmz(k:Int):Prop:=k=5\/k=6\/k=7
theorem Zd3{k:Int}(hk:Zmz k):(n:Nat)->Qbd (Qcz n (Qem k))=Qem k/\Qbn (Qcz n (Qem k))=n
 | 0=>Qfk (by show k≠8;rcases hk with h | h | h <;> omega)
 | n+1=>by
  obtain⟨h1,h2⟩:=Zd3 hk n;have h:=Qfj (t:=Qcz (n+1) (Qem k)) (k:=Qcz n (Qem k)) (r:=[]) rfl rfl;rw[h.1,h.2,h1,h2];exact⟨rfl,rfl⟩
theorem Qwo(k:Int):(n:Nat)->Qgm (Qcz n (Qem k))=true
 | 0=>Qlw (by simp) (by simp) (fun t ht=>by simp at ht)
 | n+1=>Qlw (by simp) (by simp) fun t ht=>by
  obtain rfl:=List.mem_singleton.1 ht;exact Qwo k n
theorem Qsz(k:Int):(n:Nat)->Qg1 (Qcz n (Qem k)) (Qcz n (Qem k))=true
 | 0=>by unfold Qcz Qem;rw[Qg1,Qf4];simp[Qc6]
 | n+1=>by rw[Qcz,Qg1,Qf4,Qf4,Qsz k n];simp[Qc6]
theorem Zd4{t:Tr}(hs:Qa2 t=true)(hk:5<=t.kind/\t.kind<=9)(h9:(Qbd t).kind≠9):Zmz (Qbd t).kind:=by
 have:=(Qhu _ t (xA _) hs hk).1
 unfold Zmz;omega
end Go.Proofs.YtfjpemdejoejbaaGreat
namespace Go.Proofs.YtfjpemdejoejbaaGreat
open Go.Proofs.Tryz Go.RowKit Go.Shelf
def Qhf(f:Pr->Option Pr):Nat->Option Pr->List Pr->Option (List Pr)
 | 0,_,_=>none
 | n+1,oa,met=>match oa with
  | none=>some met
  | some a=>if a∈met then some met else Qhf f n (f a) (met ++ [a])
theorem Qh0{f:Pr->Option Pr}{n:Nat}{met L:List Pr}(h:Qhf f n none met=some L):L=met:=by
 cases n with
 | zero=>rw[Qhf]at h;cases h
 | succ n=>rw[Qhf]at h;injection h with h;exact h.symm
theorem Qn6{f:Pr->Option Pr}{n:Nat}{a:Pr}{met L:List Pr}(h:Qhf f n (some a) met=some L)(hm:a∈met):L=met:=by
 cases n with
 | zero=>rw[Qhf]at h;cases h
 | succ n =>
  rw[Qhf]at h;rw[xO hm]at h;injection h with h;exact h.symm
theorem Qjg{f:Pr->Option Pr}{n:Nat}{a:Pr}{met L:List Pr}(h:Qhf f n (some a) met=some L)(hm:a ∉ met):∃ n',n=n'+1/\Qhf f n' (f a) (met ++ [a])=some L:=by
 cases n with
 | zero=>rw[Qhf]at h;cases h
 | succ n =>
  rw[Qhf]at h;rw[xN hm]at h;exact⟨n,rfl,h⟩
theorem Qq1{ps:List Tr}{a b:Pr}(h:Qec ps a=some b):InD ps b:=by
 unfold Qec at h
 split at h
 ·rename_i hc;injection h with h;rw[<-h];exact Qum hc.2.2.2.2
 ·cases h
theorem Qn7(ps:List Tr):(n:Nat)->(oa:Option Pr)->(met:List Pr)->met.Nodup->(∀ a∈met,InD ps a)->(∀ a,oa=some a->InD ps a)->Qal ps+1<=n+met.length->∃ L,Qhf (Qec ps) n oa met=some L
 | 0,oa,met,hn,hm,_,hf=>by
  have:=Zck hn hm
  omega
 | n+1,none,met,_,_,_,_=>⟨met,by rw[Qhf]⟩
 | n+1,some a,met,hn,hm,ho,hf=>by
  rw[Qhf]
  split
  ·exact⟨_,rfl⟩
  ·rename_i hx;refine Qn7 ps n _ _ (Qo7 hn hx) (fun b hb=>?_) (fun b hb=>Qq1 hb) (by rw[xB,List.length_singleton];omega)
   rcases List.mem_append.1 hb with hb | hb
   ·exact hm b hb
   ·simp at hb
    subst hb;exact ho b rfl
def Zd5(ps:List Tr)(a:Pr):List Pr:=(Qhf (Qec ps) (Qal ps+1) (Qec ps a) []).getD []
theorem Qq2(ps:List Tr)(a:Pr):Qhf (Qec ps) (Qal ps+1) (Qec ps a) [] = some (Zd5 ps a):=by
 obtain⟨L,hL⟩:=Qn7 ps (Qal ps+1) (Qec ps a) [] List.nodup_nil (by simp) (fun b hb=>Qq1 hb) (by simp);unfold Zd5;rw[hL];rfl
def Qjl(ps:List Tr)(m d:Int):Bool:=Qc1 ps && decide ((m,d)∈Zd5 ps (m,d))
theorem Zmc{ps:List Tr}{a:Pr}(hz:∀ t∈ps,Qai t<=1000)(hl:Qal ps<=90000)(h:InD ps a):W64 a.1/\W64 a.2:=by
 obtain⟨m,d,t,k,rfl,h1,h2⟩:=h;have e1:=(xP.1 h1).1;have e2:=(xP.1 h2).1;have e3:=Qa0 ps;have e4:=Qa0 t.kids;have e5:=hz t (yA h1);have e6:=Qa5 t;exact⟨Qil (by omega),Qil (by omega)⟩
def CiL(ps:List Tr)(L:List Pr)(a0:Pr)(w:World)(fb mb:Nat)(v9 v10 v11:Value)(wr:World):Prop :=
 ∃ (n ab mc:Nat) (MA:yE) (met:List Pr) (oa:Option Pr),v9 = .slice MA met.length mc/\v10 = .pointer (some ⟨ab,0,none⟩)/\v11 = .bool oa.isSome/\wr.heap[ab]? = some (prO (oa.getD (0,0))) /\
  QRow wr w.heap.size (.slice MA met.length mc) met/\(Value.slice MA met.length mc).ownBlock≠some ab/\(Value.slice MA met.length mc).ownBlock≠some fb/\AMap wr mb 90001 (Qec ps)/\wr.heap[fb]? = some (prO a0) /\
  (∀ a,oa=some a->InD ps a)/\Qhf (Qec ps) n oa met=some L/\n+met.length=Qal ps+1/\Below w.heap.size w wr
theorem Qi1(S:Nat->Prop)(A:yE)(c:Nat)(ps:List Tr)(m d:Int)(w:World)(hp:TrAt S w (Qa9 ps) ⟨0,⟨#[]⟩,none,0,0,A,ps.length,c⟩)(hf:Qgm (Qa9 ps)=true)(hw:Qbg (Qa9 ps)=true)
  (hz:∀ t∈ps,Qai t<=1000) (hl:Qal ps<=90000) (wm:W64 m) (wd:W64 d) :
  Calls prog 11 #[.slice A ps.length c,.int .i64 m,.int .i64 d] w fun e w'=>e = .returned (.bool (Qjl ps m d))/\Below w.heap.size w w':=by
 have hsm:=Qf9 _ hf;have HPL:=hQ (TrAt.low _ _ hp);have HF:=hQ hf;have HW:=hQ hw;have HZ:=hQ hz;have HL:=hQ hl;have WM:=hQ wm;have WD:=hQ wd;have HCP:=hQ (Qnv S A c ps w hp hsm hw);clear hp hf hw hz hsm hl wm wd;cases hg:Qc1 ps with
 | false =>
  have HV:=hQ (show Qjl ps m d=false from by unfold Qjl;rw[hg];rfl);rw[hg]at HCP;clear hg;go_enter func11,ntmps11;go_wp2_with (go_at_call 34;refine HCP.out.mono ?_;rintro e w1⟨rfl,hb⟩;have HB1:=hQ hb;clear hb)
  go_ret;rw[HV.out];exact⟨rfl,HB1.out⟩
 | true =>
  rw[hg]at HCP;have HG:=hQ hg;have HGO:=hQ (Qq2 ps (m,d));obtain⟨L,hL⟩:∃ L,L=Zd5 ps (m,d):=⟨_,rfl⟩;rw[<-hL]at HGO;have HV:=hQ (show Qjl ps m d=decide ((m,d)∈L) from by unfold Qjl;rw[hg,hL];rfl);obtain⟨oa,hoa⟩:∃ oa,oa=Qec ps (m,d):=⟨_,rfl⟩;rw[<-hoa]at HGO;have HOI:=hQ (show ∀ a,oa=some a->InD ps a from fun a h=>Qq1 (hoa.symm.trans h));have HOE:=hQ hoa;clear hg hL hoa;rw[HV.out];go_enter func11,ntmps11
  go_wp2_with (first
   | (go_at_call 34;refine HCP.out.mono ?_;rintro e w1⟨rfl,hb⟩;have HB1:=hQ hb;have HBX:=hQ (hb.alloc hb.size (prO (m,d)));have HF1:=hQ (xH w1 (prO (m,d)));clear hb)
   | (go_at_call 36;refine(Qpk _ A c ps _ (HPL.out.keep HBX.out) HG.out HZ.out HL.out HF.out HW.out).mono ?_;rintro e w4⟨QA,qc,rfl,hq,hb⟩;have HQ:=hQ hq;have HB4:=hQ (HBX.out.trans (hb.mono HBX.out.size));have HF4:=hQ ((hb.block _ (Qaa HF1.out)).trans HF1.out);clear hq hb)
   | (go_at_call 35;refine(Qjt _ QA qc (Qig ps) _ HQ.out.at' HQ.out.fit HQ.out.small HQ.out.words HQ.out.size (Zdu HZ.out HG.out HQ.out.prog HL.out)).mono ?_;rintro e w5⟨mb,rfl,hm,hmb,hb⟩;rw[Qwh HZ.out HG.out HQ.out.prog]at hm;have HM5:=hQ hm;have HB5:=hQ (HB4.out.trans (hb.mono HB4.out.size));have HF5:=hQ ((hb.block _ (Qaa HF4.out)).trans HF4.out);have f0:w5.cell? ⟨w1.heap.size,0,none⟩=some (.int .i64 m):=Qab HF5.out 0 _ rfl;have f1:w5.cell? ⟨w1.heap.size,1,none⟩=some (.int .i64 d):=Qab HF5.out 1 _ rfl;have fbl:=Qaa HF5.out;clear hm hmb hb)
   | (at_lookup;refine Qgg rfl _ _ rfl mb 90001 (Qec ps) rfl HM5.out m d rfl WM.out WD.out ?_))
  go_loopw [9,10,11] (fun v9 v10 v11 wr=>CiL ps L (m,d) w w1.heap.size mb v9 v10 v11 wr) (fun v9 _ _ _=>Qal ps+1-Zmy v9)
  case atStart =>
   refine⟨Qal ps+1,w5.heap.size,0,none,[],oa,rfl,rfl,by rw[HOE.out],?_,QRow.nil _ _,fun e=>(by cases e),fun e=>(by cases e),HM5.out.below (Qcs w5 _),((Qcs w5 _).block _ (Qaa HF5.out)).trans HF5.out,HOI.out,HGO.out,rfl,HB5.out.alloc HB5.out.size _⟩;rw[HOE.out];exact xH w5 _
  case round =>
   obtain⟨n,ab,mc,MA,met,ob,rfl,rfl,rfl,hab,hq,hoa,hof,hm,hfb,hin,hgo,hnm,hb⟩:=hrel;have HAB:=hQ hab;have HQR:=hQ hq;have HOA:=hQ hoa;have HOF:=hQ hof;have HMR:=hQ hm;have HFB:=hQ hfb;have HIN:=hQ hin;have HGR:=hQ hgo;have HNM:=hQ hnm;have HBR:=hQ hb;have hmet:met.length<=90001:=by have:=HNM.out;have:=HL.out;omega
   have HCE:=hQ (Qfv w.heap.size mc MA met m d wr HQR.out (by omega));have f0:wr.cell? ⟨w1.heap.size,0,none⟩=some (.int .i64 m):=Qab hfb 0 _ rfl;have f1:wr.cell? ⟨w1.heap.size,1,none⟩=some (.int .i64 d):=Qab hfb 1 _ rfl;have fbl:=Qaa hfb;clear hab hq hoa hof hm hfb hin hgo hnm hb;cases ob with
   | none =>
    have HE:=hQ (Qh0 HGR.out);go_wp2_with (go_at_call 37;refine HCE.out.mono ?_;rintro e w7⟨rfl,hb⟩;have HB7:=hQ (HBR.out.trans (hb.mono HBR.out.size));clear hb)
    go_ret;rw[HE.out];exact⟨rfl,HB7.out⟩
   | some a =>
    obtain⟨x,y⟩:=a;have a0:wr.cell? ⟨ab,0,none⟩=some (.int .i64 x):=Qab HAB.out 0 _ rfl;have a1:wr.cell? ⟨ab,1,none⟩=some (.int .i64 y):=Qab HAB.out 1 _ rfl;have abl:=Qaa HAB.out
    by_cases hmem:(x,y)∈met
    ·have HE:=hQ (Qn6 HGR.out hmem);have HCN:=hQ (show Calls prog 37 #[.slice MA met.length mc,.agg #[.int .i64 x,.int .i64 y]] wr fun e w'=>e = .returned (.bool true)/\Below wr.heap.size wr w' from by have h:=Qfv w.heap.size mc MA met x y wr HQR.out (by omega);rw[xS hmem]at h;exact h);clear hmem
     go_wp2_with (first
      | (go_at_call 37;refine HCN.out.mono ?_;rintro e w7⟨rfl,hb⟩;have HB7:=hQ (HBR.out.trans (hb.mono HBR.out.size));have HCF:=hQ (Qfv w.heap.size mc MA met m d w7 (HQR.out.keep hb) (by omega));have HF7:=hQ ((hb.block _ (Qaa HFB.out)).trans HFB.out);clear f0 f1 fbl a0 a1 abl;have f0:w7.cell? ⟨w1.heap.size,0,none⟩=some (.int .i64 m):=Qab HF7.out 0 _ rfl;have f1:w7.cell? ⟨w1.heap.size,1,none⟩=some (.int .i64 d):=Qab HF7.out 1 _ rfl;have fbl:=Qaa HF7.out;clear hb)
      | (go_at_call 37;refine HCF.out.mono ?_;rintro e w8⟨rfl,hb⟩;have HB8:=hQ (HB7.out.trans (hb.mono HB7.out.size));clear hb))
     go_ret;rw[HE.out];exact⟨rfl,HB8.out⟩
    ·obtain⟨n',hn',hgo'⟩:=Qjg HGR.out hmem;have HN:=hQ hn';have HGN:=hQ hgo';have HCN:=hQ (show Calls prog 37 #[.slice MA met.length mc,.agg #[.int .i64 x,.int .i64 y]] wr fun e w'=>e = .returned (.bool false)/\Below wr.heap.size wr w' from by have h:=Qfv w.heap.size mc MA met x y wr HQR.out (by omega);rw[xR hmem]at h;exact h);have WX:=hQ (Zmc HZ.out HL.out (HIN.out _ rfl)).1;have WY:=hQ (Zmc HZ.out HL.out (HIN.out _ rfl)).2;have HM1:=hQ (show met.length+1<=maxLen from by unfold maxLen;omega);have HM2:=hQ (show(met.length+1)*16<=140737488355328 from by omega);obtain⟨pz,hpz,pz0,pz1,pz2⟩:=info_parts Zcq;clear hmem hn' hgo'
     go_wp2_with (first
      | (go_at_call 37;refine HCN.out.mono ?_;rintro e w7⟨rfl,hb⟩;have HB7:=hQ (HBR.out.trans (hb.mono HBR.out.size));have HF7:=hQ ((hb.block _ (Qaa HFB.out)).trans HFB.out);have HA7:=hQ ((hb.block _ (Qaa HAB.out)).trans HAB.out);have HQ7:=hQ ((HQR.out.keep hb).keep (Qcs w7 (prO (x,y))));have HM7:=hQ (HMR.out.below hb);clear f0 f1 fbl a0 a1 abl;have a0:w7.cell? ⟨ab,0,none⟩=some (.int .i64 x):=Qab HA7.out 0 _ rfl;have a1:w7.cell? ⟨ab,1,none⟩=some (.int .i64 y):=Qab HA7.out 1 _ rfl;have abl:=Qaa HA7.out;have HS7:=hQ (show w.heap.size<=(w7.alloc (prO (x,y))).heap.size from by rw[xI];exact Nat.le_succ_of_le HB7.out.size);clear hb)
      | (at_builtin;refine Qep _ rfl _ _ 64 rfl w.heap.size 60 pz _ 2 16 underlying64 hpz pz0 pz1 pz2 rfl (by decide) _ met.length (Qeu met) rfl HQ7.out ⟨w7.heap.size,0,none⟩ 1 1 [.int .i64 x,.int .i64 y] rfl rfl (Zdv w7 x y) (Zdw x y) (by decide) HM1.out HM2.out HS7.out ?_;intro g8 c8 w8 hown hk8 hg8 hlt8;have HO8:=hQ hown;have HK8:=hQ hk8;have HG8:=hQ hg8;have HA8:=hQ (Qhz HK8.out HOA.out HA7.out);have HMX:=hQ ((Qq0 HQ7.out HM7.out HK8.out).below (Qcs w8 (prO (x,y))));clear hown hk8 hg8 hlt8 a0 a1 abl;have a0:w8.cell? ⟨ab,0,none⟩=some (.int .i64 x):=Qab HA8.out 0 _ rfl;have a1:w8.cell? ⟨ab,1,none⟩=some (.int .i64 y):=Qab HA8.out 1 _ rfl;have abl:=Qaa HA8.out)
      | (at_lookup;refine Qgg rfl _ _ rfl mb 90001 (Qec ps) rfl HMX.out x y rfl WX.out WY.out ?_))
     go_roundw
     case measure =>
      show Qal ps+1-(met.length+1)<Qal ps+1-met.length
      have h1:=HNM.out;have h2:=HN.out;omega
     case rel =>
      have hg8:(Value.slice MA met.length mc).ownBlock=some g8\/(w7.alloc (prO (x,y))).heap.size<=g8:=HG8.out;have hl8:=World.ownsRow.lt HO8.out g8 rfl;have h1:=HNM.out;have h2:=HN.out;have HF8:=Qhz HK8.out HOF.out HF7.out;have HB8:=Qlx HB7.out HK8.out fun k hk=>(World.ownsRow.lt HQ7.out k hk).1
      refine⟨n',w8.heap.size,c8,some ⟨g8,0,none⟩,met ++ [(x,y)],Qec ps (x,y),by rw[xB];rfl,rfl,rfl,xH w8 _,?_,?_,?_,(Qq0 HQ7.out HM7.out HK8.out).below (Qcs w8 _),((Qcs w8 _).block _ (Qaa HF8)).trans HF8,fun b hb=>Qq1 hb,HGN.out,by rw[xB,List.length_singleton];omega,HB8.alloc HB8.size _⟩
      ·have h:=Qf8 HO8.out (Qcs w8 (.cells #[.int .i64 (Qls (Qec ps) (x,y)).1,.int .i64 (Qls (Qec ps) (x,y)).2] 60));unfold QRow;rw[xB,Qfz];exact h
      ·intro e;have e2:g8=w8.heap.size:=by simpa [Value.ownBlock] using e
       omega
      ·intro e;have e2:g8=w1.heap.size:=by simpa [Value.ownBlock] using e
       rcases hg8 with h | h
       ·exact HOF.out (h.trans (by rw[e2]))
       ·have h5:=Qaa HF7.out;rw[xI]at h;omega
def Zmg:yD:=⟨#[109,111,100,117,108,101,32,65,32,116,121,112,101,32,84,32,61,32,91,66,46,85,93]⟩
def Zmh:yD:=⟨#[109,111,100,117,108,101,32,66,32,116,121,112,101,32,85,32,61,32,73,110,116,32,116,121,112,101,32,86,32,61,32,86]⟩
def Qmp:Tr:=((Qho 200 Zmg).getD (noTr,0,0)).1
def Qmq:Tr:=((Qho 200 Zmh).getD (noTr,0,0)).1
theorem Zmi:Qho 200 Zmg=some (Qmp,0,0):=by kernel_rfl
theorem Zmj:Qho 200 Zmh=some (Qmq,0,0):=by kernel_rfl
theorem Zk1:Qgm (Qa9 [Qmp,Qmq])=true:=by kernel_rfl
theorem Zer:Qbg (Qa9 [Qmp,Qmq])=true:=by kernel_rfl
theorem Zh1:Qal [Qmp,Qmq] = 9:=by kernel_rfl
theorem Zmk:Qai Qmp=4:=by kernel_rfl
theorem Zml:Qai Qmq=5:=by kernel_rfl
def Qh1(x:yD):Tr:=.mk 9 x [] []
theorem Zim:Qdu [Qmp,Qmq] 0 (Qh1 ⟨#[84]⟩)=(0,1,5):=by kernel_rfl
theorem Zmm:Qdu [Qmp,Qmq] 1 (Qh1 ⟨#[86]⟩)=(19,0,0):=by kernel_rfl
theorem Zmn:Qjl [Qmp,Qmq] 1 1=true:=by kernel_rfl
theorem Zmo:Qjl [Qmp,Qmq] 1 0=false:=by kernel_rfl
theorem Znr{ps:List Tr}{m:Int}{t:Tr}{n:Nat}{k:Int}(h:Qdu ps m t=(0,n,k)):exT ps m t=Qcz n (Qem k):=by
 have h1:(Qdu ps m t).1=0:=by rw[h]
 rw[Zd0 h1,h]
theorem Zh2(k:Int):Qcz 1 (Qem k) = .mk 8 ⟨#[]⟩ [] [Qem k]:=by rw[Qcz,Qcz]
theorem Zmp:exT [Qmp,Qmq] 0 (Qh1 ⟨#[84]⟩) = .mk 8 ⟨#[]⟩ [] [Qem 5]:=(Znr Zim).trans (Zh2 5)
theorem Zmq:∀ t∈[Qmp,Qmq],Qai t<=1000:=fun t ht=>by
 rcases List.mem_cons.1 ht with h | h
 ·rw[h,Zmk];decide
 ·rw[List.mem_singleton.1 h,Zml];decide
theorem Zk2:∃ a b:Tr,Qho 200 ⟨#[109,111,100,117,108,101,32,65,32,116,121,112,101,32,84,32,61,32,91,66,46,85,93]⟩=some (a,0,0)/\Qho 200 ⟨#[109,111,100,117,108,101,32,66,32,116,121,112,101,32,85,32,61,32,73,110,116,32,116,121,112,101,32,86,32,61,32,86]⟩=some (b,0,0)/\Qgm (Qa9 [a,b])=true/\Qbg (Qa9 [a,b])=true/\Qal [a,b]<=90000/\(∀ t∈[a,b],Qai t<=1000)/\Qdu [a,b] 0 (Qh1 ⟨#[84]⟩)=(0,1,5)/\Qdu [a,b] 1 (Qh1 ⟨#[86]⟩)=(19,0,0)/\Qjl [a,b] 1 1=true/\Qjl [a,b] 1 0=false/\exT [a,b] 0 (Qh1 ⟨#[84]⟩) = .mk 8 ⟨#[]⟩ [] [Qem 5] :=
 ⟨Qmp,Qmq,Zmi,Zmj,Zk1,Zer,by rw[Zh1];decide,Zmq,Zim,Zmm,Zmn,Zmo,Zmp⟩
theorem Qpx(x:yD):Qbs (Qh1 x)=true:=by unfold Qh1;rw[Qbs,Qdf];rfl
theorem Qs6(x:yD):Qai (Qh1 x)<=1000:=by unfold Qh1;rw[Qai,Qal];decide
theorem Qpy{x:yD}(h:x.size<maxLen):Qbg (Qh1 x)=true:=Qk6 h (fun t ht=>by simp at ht)
theorem Qs7(w:World):Calls prog 7 #[] w fun e w'=>e = .returned (.bool true)/\Below w.heap.size w w':=by
 obtain⟨a,b,hpa,hpb,hf,hw,hz,hzs,hf1,hf2,hc1,hc0,hex⟩:=Zk2;have HPA:=hQ hpa;have HPB:=hQ hpb;have HF:=hQ hf;have HW:=hQ hw;have HZ:=hQ hz;have HZS:=hQ hzs;have HF1:=hQ hf1;have HF2:=hQ hf2;have HC1:=hQ hc1;have HC0:=hQ hc0;have HEX:=hQ hex;have HSA:=hQ (show(⟨#[109,111,100,117,108,101,32,65,32,116,121,112,101,32,84,32,61,32,91,66,46,85,93]⟩:yD).size<=maxLen from Nat.le_of_ble_eq_true rfl);have HSB:=hQ (show(⟨#[109,111,100,117,108,101,32,66,32,116,121,112,101,32,85,32,61,32,73,110,116,32,116,121,112,101,32,86,32,61,32,86]⟩:yD).size<=maxLen from Nat.le_of_ble_eq_true rfl);have HNT:=hQ (Qpy (x:=⟨#[84]⟩) (Nat.lt_of_le_of_lt (show _<=1 from xA _) (by unfold maxLen;omega)));have HNV:=hQ (Qpy (x:=⟨#[86]⟩) (Nat.lt_of_le_of_lt (show _<=1 from xA _) (by unfold maxLen;omega)));clear hpa hpb hf hw hz hzs hf1 hf2 hc1 hc0 hex;go_enter func7,ntmps7;go_wp2_with fail;go_at_call 26;refine(Qru (n:=200) (Nat.le_of_ble_eq_true rfl) _ HSA.out HPA.out).mono ?_;rintro e w1⟨va,rfl,hta,hb1⟩;obtain⟨ak,ax,ala,all',alc,aka,akl,akc⟩:=va;have HTA:=hQ hta;have HB1:=hQ hb1;have HBA:=hQ (Qcs w1 (trO ⟨ak,ax,ala,all',alc,aka,akl,akc⟩));have HXA:=hQ (xH w1 (trO ⟨ak,ax,ala,all',alc,aka,akl,akc⟩));clear hta hb1;go_wp2_with fail;go_at_call 26;refine(Qru (n:=200) (Nat.le_of_ble_eq_true rfl) _ HSB.out HPB.out).mono ?_;rintro e w2⟨vb,rfl,htb,hb2⟩;obtain⟨bk,bx,bla,bll,blc,bka,bkl,bkc⟩:=vb;have HTB:=hQ htb;have HB2:=hQ hb2;have HXA2:=hQ ((hb2.block _ (Qaa HXA.out)).trans HXA.out);have HB12:=hQ (HBA.out.trans (hb2.mono HBA.out.size));have a0:w2.cell? ⟨w1.heap.size,0,none⟩=some (.int .i64 ak):=Qab HXA2.out 0 _ rfl;have a1:w2.cell? ⟨w1.heap.size,1,none⟩=some (.string ax):=Qab HXA2.out 1 _ rfl;have a2:w2.cell? ⟨w1.heap.size,2,none⟩=some (.slice ala all' alc):=Qab HXA2.out 2 _ rfl;have a3:w2.cell? ⟨w1.heap.size,3,none⟩=some (.slice aka akl akc):=Qab HXA2.out 3 _ rfl;have al:=Qaa HXA2.out;clear htb hb2;go_wp2_with fail;go_at_call 8;obtain⟨W3,hW3⟩:∃ W3,W3=(w2.alloc (.cells #[.int .i64 bk,.string bx,.slice bla bll blc,.slice bka bkl bkc] 25)).alloc (.cells #[.int .i64 ak,.string ax,.slice ala all' alc,.slice aka akl akc,.int .i64 bk,.string bx,.slice bla bll blc,.slice bka bkl bkc] 25):=⟨_,rfl⟩;rw[<-hW3];have hrow3:W3.heap[w2.heap.size+1]? = some (.cells #[.int .i64 ak,.string ax,.slice ala all' alc,.slice aka akl akc,.int .i64 bk,.string bx,.slice bla bll blc,.slice bka bkl bkc] 25 (0,0)):=by rw[hW3];exact(Qdv w2 _ _).2
 have hb3:Below w2.heap.size w2 W3:=by rw[hW3];exact Qe0 w2 _ _
 have HB3:=hQ hb3;have HTA3:=hQ (HTA.out.keep (HB12.out.trans (hb3.mono HB12.out.size)));have HTB3:=hQ (HTB.out.keep hb3);have HLA:=hQ (show ∀ k,(w.heap.size<=k/\k<w1.heap.size)->k<W3.heap.size from fun k h=>xE h.2 (xQ HB12.out.size hb3.size));have HLB:=hQ (show ∀ k,((w1.alloc (trO ⟨ak,ax,ala,all',alc,aka,akl,akc⟩)).heap.size<=k/\k<w2.heap.size)->k<W3.heap.size from fun k h=>xE h.2 hb3.size);have HR3:=hQ (Zh0 HTA3.out HTB3.out HLA.out HLB.out hrow3);have HBW:=hQ (HB1.out.trans ((HB12.out.trans (hb3.mono HB12.out.size)).mono HB1.out.size));clear hrow3 hb3 hW3 a0 a1 a2 a3 al;refine(Qpn _ (fun _=>False) (some ⟨w2.heap.size+1,0,none⟩) 2 [a,b] 0 (Qh1 ⟨#[84]⟩) ⟨9,⟨#[84]⟩,none,0,0,none,0,0⟩ W3 HR3.out HF.out HW.out HZS.out HZ.out (Qj2 _ _ _ _) (Qpx _) HNT.out (Qs6 _)).mono ?_;rintro e w4⟨u,rfl,hu,hb4⟩;rw[HEX.out]at hu;rw[HF1.out];have q1:=hu.kl.1;have q3:=hu.kl.2.2.1;obtain⟨g,o,hka⟩:∃ b off,u.ka=some ⟨b,off,none⟩:=hu.addr.resolve_left (by simp[Tr.kids]);obtain⟨kv,k0,j1,j2,j3,hkv⟩:=hu.at (j:=0) hka rfl;have q4:=hkv.kl.2.2.1;clear j1 j2 j3;obtain⟨uk,ux,ula,ull,ulc,uka,ukl,ukc⟩:=u;simp only at q1 q3 hka;subst hka;have e1:ukl=1:=q1;have e3:uk=8:=q3;have e4:kv.kind=5:=q4;subst e1 e3;rw[e4]at k0;simp only[Nat.zero_mul,Nat.add_zero]at k0;have kl:=xK w4 _ k0;have HB4:=hQ hb4;have HX4:=hQ (xH w4 (trO ⟨8,ux,ula,ull,ulc,some ⟨g,o,none⟩,1,ukc⟩));have HB4A:=hQ (hb4.alloc hb4.size (trO ⟨8,ux,ula,ull,ulc,some ⟨g,o,none⟩,1,ukc⟩));have HK4:=hQ k0;have HKL:=hQ kl;clear hu hb4 hkv q4 e4 q1 q3 k0 kl;go_wp2_with fail;go_at_call 8;refine(Qpn _ (fun _=>False) (some ⟨w2.heap.size+1,0,none⟩) 2 [a,b] 1 (Qh1 ⟨#[86]⟩) ⟨9,⟨#[86]⟩,none,0,0,none,0,0⟩ _ (HR3.out.keep HB4A.out) HF.out HW.out HZS.out HZ.out (Qj2 _ _ _ _) (Qpx _) HNV.out (Qs6 _)).mono ?_;rintro e w5⟨u2,rfl,hu2,hb5⟩;clear hu2;rw[HF2.out];have HB5:=hQ (HB4A.out.trans (hb5.mono HB4A.out.size));have HX5:=hQ ((hb5.block _ (Qaa HX4.out)).trans HX4.out);have HK5:=hQ (Qaw hb5 (by rw[xI];exact Nat.lt_succ_of_lt HKL.out) (Qaw (Qcs w4 (trO ⟨8,ux,ula,ull,ulc,some ⟨g,o,none⟩,1,ukc⟩)) HKL.out HK4.out));have x0:w5.cell? ⟨w4.heap.size,0,none⟩=some (.int .i64 8):=Qab HX5.out 0 _ rfl;have x3:w5.cell? ⟨w4.heap.size,3,none⟩=some (.slice (some ⟨g,o,none⟩) 1 ukc):=Qab HX5.out 3 _ rfl;have xl:=Qaa HX5.out;have k0:w5.cell? ⟨g,o,none⟩=some (.int .i64 5):=HK5.out;have kl:=xK w5 _ k0;have HB5A:=hQ (HB5.out.alloc HB5.out.size (trO u2));have HCA:=hQ (fun w' (hb:Below W3.heap.size W3 w')=>Qi1 _ (some ⟨w2.heap.size+1,0,none⟩) 2 [a,b] 1 1 w' (HR3.out.keep hb) HF.out HW.out HZS.out HZ.out (Qil (n:=1) (by omega)) (Qil (n:=1) (by omega)));have HCB:=hQ (fun w' (hb:Below W3.heap.size W3 w')=>Qi1 _ (some ⟨w2.heap.size+1,0,none⟩) 2 [a,b] 1 0 w' (HR3.out.keep hb) HF.out HW.out HZS.out HZ.out (Qil (n:=1) (by omega)) (Qil (n:=0) (by omega)));rw[HC1.out]at HCA;rw[HC0.out]at HCB;clear hb5
 go_wp2_with (first
  | (go_at_call 11;refine(HCA.out _ HB5A.out).mono ?_;rintro e w6⟨rfl,hb⟩;have HB6:=hQ (HB5A.out.trans (hb.mono HB5A.out.size));clear hb HCA)
  | (go_at_call 11;refine(HCB.out _ HB6.out).mono ?_;rintro e w7⟨rfl,hb⟩;have HB7:=hQ (HB6.out.trans (hb.mono HB6.out.size));clear hb HCB))
 go_ret;exact⟨rfl,HBW.out.trans (HB7.out.mono HBW.out.size)⟩
theorem Qs8(A:yE)(n c:Nat)(w:World):Calls prog 15 #[.slice A n c] w fun e w'=>e = .returned (.bool (decide (n<=120)))/\w'=w:=by
 have h:(decide ((n:Int)<=120))=decide (n<=120):=by simp;omega
 go_enter func15,ntmps15;go_wp2;go_ret
 first | exact⟨rfl,rfl⟩ | (rw[<-h];exact⟨rfl,rfl⟩) | (simp;done) | (simp;omega)
theorem Zes{ps:List Tr}(hg:∀ t∈ps,Qs3 t):Qc1 ps=true:=by
 unfold Qc1;rw[List.all_eq_true];intro t ht;obtain⟨h1,_,_,h4⟩:=hg t ht;unfold Qgi at h1;simp only[Bool.and_eq_true]at h1;rw[h4,h1.1.1.1.1];rfl
mutual
theorem Qs9:(t a:Tr)->a∈Qim t->Qgm t=true->Qbg t=true->Qgm a=true/\Qbg a=true/\Qai a<=Qai t
 | .mk k x l ks,a,ha,hf,hw=>by
  rw[Qim]at ha
  rcases List.mem_cons.1 ha with h | h
  ·subst h;exact⟨hf,hw,xA _⟩
  ·have:=Qpz ks a h (fun b j hb=>(Qb2 hf).2.2 j b hb) (fun b j hb=>(Qa7 hw).2.2 j b hb)
   exact⟨this.1,this.2.1,by rw[Qai];omega⟩
theorem Qpz:(l:List Tr)->(a:Tr)->a∈Qga l->(∀ (b:Tr) (j:Nat),l[j]? = some b->Qgm b=true)->(∀ (b:Tr) (j:Nat),l[j]? = some b->Qbg b=true)->Qgm a=true/\Qbg a=true/\Qai a<=Qal l
 | [],a,ha,_,_=>by rw[Qga]at ha;simp at ha
 | c :: r,a,ha,hf,hw=>by
  rw[Qga]at ha
  rcases List.mem_append.1 ha with h | h
  ·have:=Qs9 c a h (hf c 0 rfl) (hw c 0 rfl)
   exact⟨this.1,this.2.1,by rw[Qal];omega⟩
  ·have:=Qpz r a h (fun b j hb=>hf b (j+1) hb) (fun b j hb=>hw b (j+1) hb)
   exact⟨this.1,this.2.1,by rw[Qal];omega⟩
end
theorem NR.at{S:Nat->Prop}{lo:Nat}{w:World}{A:yE}{n c:Nat}{ts:List Tr}(h:NR S lo w (.slice A n c) ts){j:Nat}{k:Tr}(hk:ts[j]? = some k):n=ts.length/\∃ (g:Nat) (u:TV),A=some ⟨g,0,none⟩/\lo<=g/\g<w.heap.size /\
  w.cell? ⟨g,j*4,none⟩=some (.int .i64 u.kind)/\w.cell? ⟨g,j*4+1,none⟩=some (.string u.text)/\w.cell? ⟨g,j*4+2,none⟩=some (.slice u.la u.ll u.lc)/\w.cell? ⟨g,j*4+3,none⟩=some (.slice u.ka u.kl u.kc)/\TrAt S w k u:=by
 obtain⟨vs,h1,h2,h3⟩:=h;have hj:=(xP.1 hk).1;obtain⟨g,cap,hv,hg,hl⟩:=World.ownsRow.form h2 (by omega);injection hv with hv1 hv2 hv3;subst hv1;have hcs:=h2.cells (g:=g) rfl
 have hc:∀ (j:Nat) (x:Value),(Qag vs)[j]? = some x->w.cell? ⟨g,j,none⟩=some x:=fun j x hx=>by
  have h:=hcs j x hx;rw[Addr.add_lit]at h;simp only[Nat.zero_add]at h;exact h
 obtain⟨u,hu⟩:∃ u,vs[j]? = some u:=⟨_,xF (by rw[h1];exact hj)⟩;obtain⟨q0,q1,q2,q3⟩:=Qd1 vs j u hu;exact⟨hv2,g,u,rfl,hg,hl,hc _ _ q0,hc _ _ q1,hc _ _ q2,hc _ _ q3,h3 j k u hk hu⟩
theorem NR.in{S:Nat->Prop}{lo g:Nat}{w:World}{n c:Nat}{ts:List Tr}(h:NR S lo w (.slice (some ⟨g,0,none⟩) n c) ts){j:Nat}{k:Tr}(hk:ts[j]? = some k):lo<=g/\g<w.heap.size/\∃ u:TV,
  w.cell? ⟨g,j*4,none⟩=some (.int .i64 u.kind)/\w.cell? ⟨g,j*4+1,none⟩=some (.string u.text)/\w.cell? ⟨g,j*4+2,none⟩=some (.slice u.la u.ll u.lc)/\w.cell? ⟨g,j*4+3,none⟩=some (.slice u.ka u.kl u.kc)/\TrAt S w k u:=by
 obtain⟨_,g2,u,hA,h1,h2,h3⟩:=h.at hk;injection hA with hA;injection hA with hA;subst hA;exact⟨h1,h2,u,h3⟩
def arO(a:Pr):Obj:=.cells #[.int .i64 a.1,.int .i64 a.2] 67
def MRow(w:World)(B:Nat)(v:Value)(l:List Pr):Prop:=w.ownsRow B 67 2 v l.length (Qeu l)
theorem MRow.nil(w:World)(B:Nat):MRow w B (.slice none 0 0) []:=World.ownsRow_nil _ _ _ _
theorem MRow.keep{w w':World}{B:Nat}{v:Value}{l:List Pr}(h:MRow w B v l)(hb:Below w.heap.size w w'):MRow w' B v l:=(Keeps.of_below (P:=fun _=>none) hb).row h fun _ _=>.inl rfl
theorem MRow.at{w:World}{B c:Nat}{A:yE}{l:List Pr}(h:MRow w B (.slice A l.length c) l){j:Nat}{y:Pr}(hy:l[j]? = some y):∃ g,A=some ⟨g,0,none⟩/\B<=g/\g<w.heap.size/\w.cell? ⟨g,j*2,none⟩=some (.int .i64 y.1)/\w.cell? ⟨g,j*2+1,none⟩=some (.int .i64 y.2):=by
 have hj:=(xP.1 hy).1;obtain⟨g,cap,e,hg,hlt⟩:=World.ownsRow.form h (by omega);injection e with e _ _;subst e;have hc:=World.ownsRow.cells h (g:=g) rfl;obtain⟨q0,q1⟩:=Qj3 hy;have e0:=hc _ _ q0;have e1:=hc _ _ q1;rw[Addr.add_lit]at e0 e1;simp only[Nat.zero_add]at e0 e1;exact⟨g,rfl,hg,hlt,e0,e1⟩
theorem Zet:(prog.info? 67).map (fun i=>(i.zero,i.size,i.bytes))=some (some (.agg #[.int .i64 0,.int .i64 0]),2,16):=by kernel_rfl
theorem Zk3{B:Nat}{a w:World}(h:Below B a w)(n:Nat):Below B a (w.drewN n):=h.trans ⟨rfl,rfl,rfl,xA _,fun _ _=>rfl⟩
theorem Qwu:prog.eqGuardType prog.depth 67=false:=by kernel_rfl
theorem Zmt:(prog.info? 3).isSome=true:=by kernel_rfl
theorem Zh3(a b c d:Int)(w:World):(Op.equalIn 10000 67 (.agg #[.int .i64 a,.int .i64 b]) (.agg #[.int .i64 c,.int .i64 d])).run prog w = .ok (a==c && b==d) w:=by
 obtain⟨i,hi⟩:=Option.isSome_iff_exists.1 Zmt;have hc:prog.cellsOf 3=1:=by kernel_rfl
 rw[run_equalIn_array w 9999 (t:=67) (e:=3) (n:=2) _ _ underlying67 hi,hc];have hr:List.range 2 = [0,1]:=rfl;simp only[hr,Op.eqItems,Sem.run_bind,Nat.zero_mul,Nat.one_mul,Zl2,Result.andThen_ok,run_equalIn_int _ 9998 3 _ _ _ _ underlying3];cases h1:(a==c) <;> cases h2:(b==d) <;> simp[Zl3,h2,run_equalIn_int _ 9998 3 _ _ _ _ underlying3]
theorem Zin(a b c d:Int)(w:World):(binOp .eql 67 (.agg #[.int .i64 a,.int .i64 b]) (.agg #[.int .i64 c,.int .i64 d])).run prog w = .ok (.bool (a==c && b==d)) w:=by
 rw[run_eql_struct,Zh3];rfl
theorem Qq4(B c:Nat)(A:yE)(l:List Pr)(x y:Int)(w:World)(h:MRow w B (.slice A l.length c) l)(hl:l.length<=1000000) :
  Calls prog 40 #[.slice A l.length c,.agg #[.int .i64 x,.int .i64 y]] w fun e w'=>e = .returned (.bool (decide ((x,y)∈l)))/\Below w.heap.size w w':=by
 have HBA:=hQ (Qcs w (arO (x,y)));have HX:=xH w (arO (x,y));have HR:=hQ (h.keep HBA.out);clear h;go_enter func40,ntmps40;go_wp2
 go_loopw [5] (fun i wr=>∃ (k n:Nat),i = .int .i64 k/\k<=l.length/\Hid (Zcr l (x,y) k)/\wr=(w.alloc (arO (x,y))).drewN n) (fun i _=>l.length-(intOf i).toNat)
 case atStart=>exact⟨0,0,rfl,xZ _,hQ fun j z hj=>absurd hj (by omega),rfl⟩
 case round =>
  obtain⟨k,n,rfl,hk,hn,rfl⟩:=hrel;have HN:=hn;clear hn;have b0:(w.alloc (arO (x,y))).cell? ⟨w.heap.size,0,none⟩=some (.int .i64 x):=Qab HX 0 _ rfl;have b1:(w.alloc (arO (x,y))).cell? ⟨w.heap.size,1,none⟩=some (.int .i64 y):=Qab HX 1 _ rfl
  by_cases hlt:k<l.length
  ·obtain⟨z,hz⟩:∃ z,l[k]? = some z:=⟨_,xF hlt⟩;obtain⟨g,rfl,_,gl,c0,c1⟩:=HR.out.at hz;have HZ:=hQ hz;obtain⟨z1,z2⟩:=z;simp only at c0 c1;have hk0:(0:Int)<=(k:Int):=by omega
   have hk1:(k:Int)<(l.length:Int):=by omega
   have hk2:(k:Int)+1<=1000001:=by omega
   have hG:=fun(w:World) (p q:Operand)=>run_eqGuard_agg w .eql 67 p q #[.int .i64 z1,.int .i64 z2] #[.int .i64 x,.int .i64 y] Qwu
   have hE:=fun(w:World)=>Zin z1 z2 x y w
   clear hz HX
   by_cases he:(z1,z2)=(x,y)
   ·have HM:=hQ (show(x,y)∈l from he ▸ yA HZ.out);have hq:(z1==x && z2==y)=true:=by injection he with e1 e2;subst e1 e2;simp
    clear he;go_wp2_with fail
    go_quiet (fail)
    go_wp2;go_ret;exact⟨by rw[xS HM.out];rfl,Zk3 (Zk3 HBA.out _) _⟩
   ·have HS:=hQ (Qo9 HN.out HZ.out he);have hq:(z1==x && z2==y)=false:=Zcs (fun e=>he e.symm);clear he;go_wp2_with fail
    go_quiet (fail)
    go_wp2;go_roundw
    case rel=>exact⟨k+1,_,by go_num,by omega,HS,rfl⟩
    case measure=>simp[intOf];omega
  ·obtain rfl:k=l.length:=by omega
   have HM:=hQ (Qsi HN.out);clear HX;go_wp2;go_ret;exact⟨by rw[xR HM.out];rfl,Zk3 HBA.out _⟩
mutual
def Qin:Tr->Tr
 | .mk k x _ ks=>.mk k x [] (Qu6 ks)
def Qu6:List Tr->List Tr
 | []=>[]
 | t :: r=>Qin t :: Qu6 r
end
theorem Qta:(l:List Tr)->Qu6 l=l.map Qin
 | []=>rfl
 | t :: r=>by unfold Qu6;rw[Qta r];rfl
theorem Zeu{S:Nat->Prop}{w:World}{t:Tr}{c:Nat}{kd:Int}{x:yD}{ka:yE}(h1:kd=t.kind)(h2:x=t.text)(h6:t.kids≠[]->∃ b off,ka=some ⟨b,off,none⟩/\S b/\TrsAt S w b off (t.kids.map Qin))(h7:t.kids.length<=c):TrAt S w (Qin t) ⟨kd,x,none,0,0,ka,t.kids.length,c⟩:=by
 cases t with
 | mk a b l ks =>
  unfold Qin;rw[Qta];refine TrAt.make h1 h2 rfl (List.length_map ..).symm (fun h=>absurd rfl h) (fun h=>?_) ⟨xA _,h7⟩;exact h6 (fun e=>h (by rw[show ks = [] from e];rfl))
theorem Zk4{w:World}{B:Nat}{e:TypeId}{size n:Nat}{v:Value}{xs:List Value}(h:w.ownsRow B e size v n xs){b o:Nat}{u:Value}(hb:b<B):(w.setCell ⟨b,o,none⟩ u).ownsRow B e size v n xs :=
 ⟨h.1,h.2.imp id fun⟨g,cap,cur,hv,hB,hh,r⟩=>⟨g,cap,cur,hv,hB,(Qaq (by omega)).trans hh,r⟩⟩
theorem Zk5{w w1:World}{base:Nat}{e:TypeId}{size n:Nat}{v:Value}{xs:List Value}(h:w.ownsRow base e size v n xs)(hb:Below w.heap.size w w1):w1.ownsRow base e size v n xs :=
 ⟨h.1,h.2.imp id fun⟨g,cap,cur,hv,hB,hh,r⟩=>⟨g,cap,cur,hv,hB,(hb.block g (Qaa hh)).trans hh,r⟩⟩
def Zns(t:Tr)(v:TV)(w:World)(i:Value)(wr:World):Prop :=
 ∃ (j:Nat) (vs:List TV) (ka:yE) (kc:Nat),i = .int .i64 j/\j<=t.kids.length/\vs.length=j/\wr.heap[w.heap.size]? = some (trO v)/\wr.heap[w.heap.size+1]? = some (.cells #[.int .i64 0,.string ⟨#[]⟩,.slice none 0 0,.slice none 0 0] 25 (0,0)) /\
  wr.heap[w.heap.size+2]? = some (.cells #[.int .i64 v.kind,.string v.text,.slice none 0 0,.slice ka j kc] 25 (0,0))/\wr.ownsRow (w.heap.size+3) 25 4 (.slice ka j kc) j (Qag vs) /\
  (∀ (i:Nat) (k:Tr) (u:TV),t.kids[i]? = some k->vs[i]? = some u->TrAt (fun b=>w.heap.size+3<=b/\b<wr.heap.size/\(Value.slice ka j kc).ownBlock≠some b) wr (Qin k) u)/\Below w.heap.size w wr
theorem Zk6{t k:Tr}{v y:TV}{w wr w5 w6:World}{j g cap kc:Nat}{vs:List TV}{ka:yE}{o:Obj}(hk:t.kids[j]? = some k)(hvl:vs.length=j)
  (h0:wr.heap[w.heap.size]? = some (trO v)) (h1:wr.heap[w.heap.size+1]? = some (.cells #[.int .i64 0,.string ⟨#[]⟩,.slice none 0 0,.slice none 0 0] 25 (0,0)))
  (h2:wr.heap[w.heap.size+2]? = some (.cells #[.int .i64 v.kind,.string v.text,.slice none 0 0,.slice ka j kc] 25 (0,0))) (how:wr.ownsRow (w.heap.size+3) 25 4 (.slice ka j kc) j (Qag vs))
  (hts:∀ (i:Nat) (k:Tr) (u:TV),t.kids[i]? = some k->vs[i]? = some u->TrAt (fun b=>w.heap.size+3<=b/\b<wr.heap.size/\(Value.slice ka j kc).ownBlock≠some b) wr (Qin k) u) (hb:Below w.heap.size w wr)
  (hb5:Below wr.heap.size wr w5) (hty:TrAt (fun b=>wr.heap.size<=b/\b<w5.heap.size) w5 (Qin k) y) (ho:w6.ownsRow (w.heap.size+3) 25 4 (.slice (some ⟨g,0,none⟩) (j+1) cap) (j+1) (Qag vs ++ y.cells))
  (hg:(w5.alloc o).grownBy w6 (Value.slice ka j kc).ownBlock) (hat:(Value.slice ka j kc).ownBlock=some g\/g=w5.heap.size+1) :
  Zns t v w (.int .i64 ((j:Int)+1)) (w6.setCell ⟨w.heap.size+2,3,none⟩ (.slice (some ⟨g,0,none⟩) ((j+1:Nat):Nat) cap)):=by
 have hlt:=(xP.1 hk).1;have hrow:∀ b,(Value.slice ka j kc).ownBlock=some b->w.heap.size+3<=b/\b<wr.heap.size:=how.lt;have hs5:=hb5.size;have hs6:w5.heap.size+1<=w6.heap.size:=by have:=hg.size;rwa[xI]at this
 have hsz:(w6.setCell ⟨w.heap.size+2,3,none⟩ (.slice (some ⟨g,0,none⟩) ((j+1:Nat):Nat) cap)).heap.size=w6.heap.size:=by simp[World.setCell]
 have h56:∀ b,b<w5.heap.size->(Value.slice ka j kc).ownBlock≠some b->w6.heap[b]? = w5.heap[b]?:=fun b hl hn=>(hg.block b (by rw[xI];omega) (Ne.symm hn)).trans (Below.heap_alloc w5 _ b hl)
 have hr6:∀ b,b<wr.heap.size->(Value.slice ka j kc).ownBlock≠some b->w6.heap[b]? = wr.heap[b]?:=fun b hl hn=>(h56 b (by omega) hn).trans (hb5.block b hl)
 have hlow:∀ b,b<w.heap.size+3->(Value.slice ka j kc).ownBlock≠some b:=fun b hl e=>by have:=hrow b e;omega
 have hge:∀ b,(Value.slice ka j kc).ownBlock≠some b->b<w5.heap.size->b≠g:=fun b hn hl e=>by
  rcases hat with h | h
  ·exact hn (by rw[h,e])
  ·omega
 have e6:Below w.heap.size wr w6:=⟨(hg.os.trans rfl).trans hb5.os,(hg.tape.trans rfl).trans hb5.tape,(hg.output.trans rfl).trans hb5.output,by omega,fun b hl=>hr6 b (by have:=hb.size;omega) (hlow b (by omega))⟩
 refine⟨j+1,vs ++ [y],some ⟨g,0,none⟩,cap,by go_num,by omega,by simp[hvl],(Qaq (by omega)).trans ((hr6 _ (Qaa h0) (hlow _ (by omega))).trans h0),(Qaq (by omega)).trans ((hr6 _ (Qaa h1) (hlow _ (by omega))).trans h1),Qa1 ((hr6 _ (Qaa h2) (hlow _ (by omega))).trans h2) rfl,Zk4 ?_ (by omega),fun i k' u hk' hu=>?_,(hb.trans e6).setCell (p:=⟨w.heap.size+2,3,none⟩) (by show w.heap.size<=w.heap.size+2;omega) _⟩
 ·have e:Qag (vs ++ [y])=Qag vs ++ y.cells:=by unfold Qag;simp
  rw[e];exact ho
 ·by_cases hi:i<j
  ·rw[yB (by omega)]at hu;refine TrAt.move (fun b hb'=>⟨hb'.1,by rw[hsz];omega,fun e=>?_⟩) (fun b hb' hl=>(Qaq (by omega)).trans (hr6 b hl hb'.2.2)) _ _ (hts i k' u hk' hu);have:g=b:=by simpa [Value.ownBlock] using e
   exact hge b hb'.2.2 (by omega) this.symm
  ·rw[xX (by omega)]at hu
   have hij:i=j:=by
    have h3:=(xP.1 hu).1;simp at h3
    omega
   subst hij;rw[hvl,Nat.sub_self]at hu;simp at hu
   subst hu;have:=hk.symm.trans hk'
   injection this with this;subst this;have hw3:w.heap.size+3<=wr.heap.size:=by have:=Qaa h2;omega
   have hn:∀ b,wr.heap.size<=b->(Value.slice ka i kc).ownBlock≠some b:=fun b hl e=>by have:=hrow b e;omega
   refine TrAt.move (fun b hb'=>⟨by omega,by rw[hsz];omega,fun e=>?_⟩) (fun b hb' hl=>(Qaq (by omega)).trans (h56 b hl (hn b hb'.1))) _ _ hty;have:g=b:=by simpa [Value.ownBlock] using e
   exact hge b (hn b hb'.1) hb'.2 this.symm
theorem Zmu{w wr w5 w6:World}{j kc:Nat}{ka:yE}{xs:List Value}{o x:Obj}(how:wr.ownsRow (w.heap.size+3) 25 4 (.slice ka j kc) j xs)(h2:wr.heap[w.heap.size+2]? = some x)(hb5:Below wr.heap.size wr w5)(hg:(w5.alloc o).grownBy w6 (Value.slice ka j kc).ownBlock):w6.heap[w.heap.size+2]? = some x:=by
 have hl:=Qaa h2;have h5:=hb5.size;exact(hg.block _ (by rw[xI];omega) (fun e=>by have:=(how.lt _ e.symm).1;omega)).trans ((Below.heap_alloc w5 _ _ (by omega)).trans ((hb5.block _ hl).trans h2))
theorem Zh4(w:World)(t:Tr)(v:TV):Zns t v w (.int .i64 0) (((w.alloc (trO v)).alloc (.cells #[.int .i64 0,.string ⟨#[]⟩,.slice none 0 0,.slice none 0 0] 25)).alloc (.cells #[.int .i64 v.kind,.string v.text,.slice none 0 0,.slice none 0 0] 25)):=by
 have z1:(w.alloc (trO v)).heap.size=w.heap.size+1:=by simp
 have z2:((w.alloc (trO v)).alloc (.cells #[.int .i64 0,.string ⟨#[]⟩,.slice none 0 0,.slice none 0 0] 25)).heap.size=w.heap.size+2:=by simp
 refine⟨0,[],none,0,rfl,xZ _,rfl,?_,?_,?_,World.ownsRow_nil _ _ _ _,fun i k u _ h=>by simp at h,?_⟩
 ·exact(Below.heap_alloc _ _ _ (by omega)).trans ((Below.heap_alloc _ _ _ (by omega)).trans (xH w _))
 ·refine(Below.heap_alloc _ _ _ (by omega)).trans ?_;rw[<-z1];exact xH _ _
 ·rw[<-z2];exact xH _ _
 ·exact(((xC w.heap.size w).alloc (xA _) _).alloc (by omega) _).alloc (by omega) _
theorem Qtb(N:Nat):∀ (S:Nat->Prop) (t:Tr) (v:TV) (w:World),SizeOf.sizeOf t<=N->TrAt S w t v->Qgm t=true ->
  Calls prog 60 #[.agg #[.int .i64 v.kind,.string v.text,.slice v.la v.ll v.lc,.slice v.ka v.kl v.kc]] w fun e w'=>∃ u:TV,e = .returned (.agg #[.int .i64 u.kind,.string u.text,.slice u.la u.ll u.lc,.slice u.ka u.kl u.kc])/\TrAt (fun k=>w.heap.size<=k/\k<w'.heap.size) w' (Qin t) u/\Below w.heap.size w w':=by
 induction N with
 | zero=>intro S t v w h;have:=Qf3 t;omega
 | succ N ih =>
  intro S t v w hN h hz;have HIH:=hQ ih;obtain⟨hf1,hf2,hf3⟩:=Qb2 hz;have HF2:=hQ hf2;have HF3:=hQ hf3;have HN:=hQ hN;obtain⟨e1,e2,e3,e4⟩:=h.kl;have HT:=hQ h;obtain⟨vk,vx,vla,vll,vlc,vka,vkl,vkc⟩:=v;simp only at e1 e2 e3 e4;subst e1 e2;have HE3:=hQ e3;have HE4:=hQ e4;have hw1:=(xC w.heap.size w).alloc (xA _) (trO ⟨vk,vx,vla,t.leads.length,vlc,vka,t.kids.length,vkc⟩);have hw2:=hw1.alloc (by rw[xI];omega) (.cells #[.int .i64 0,.string ⟨#[]⟩,.slice none 0 0,.slice none 0 0] 25);have hw3:=hw2.alloc (by rw[xI,xI];omega) (.cells #[.int .i64 vk,.string vx,.slice none 0 0,.slice none 0 0] 25);have HB0:=hQ hw3;have HK0:=hQ (xH w (trO ⟨vk,vx,vla,t.leads.length,vlc,vka,t.kids.length,vkc⟩));obtain⟨it,hit,ht0,ht1,ht2⟩:=info_parts Qcm;have k0:=Qab HK0.out 0 _ rfl;have k1:=Qab HK0.out 1 _ rfl;have k2:=Qab HK0.out 2 _ rfl;have k3:=Qab HK0.out 3 _ rfl;clear ih hf1 hf2 hf3 h hz hN hw1 hw2 hw3 e3 e4;go_enter func60,ntmps60;go_wp2_with fail;have HS0:=hQ (show(((w.alloc (trO ⟨vk,vx,vla,t.leads.length,vlc,vka,t.kids.length,vkc⟩)).alloc (.cells #[.int .i64 0,.string ⟨#[]⟩,.slice none 0 0,.slice none 0 0] 25)).alloc (.cells #[.int .i64 vk,.string vx,.slice none 0 0,.slice none 0 0] 25)).heap.size=w.heap.size+3 from by simp);clear k0 k1 k2 k3
  go_loopw [4] (fun i wr=>Zns t ⟨vk,vx,vla,t.leads.length,vlc,vka,t.kids.length,vkc⟩ w i wr) (fun i _=>t.kids.length-(intOf i).toNat)
  case atStart=>exact Zh4 w t ⟨vk,vx,vla,t.leads.length,vlc,vka,t.kids.length,vkc⟩
  case round =>
   obtain⟨j,vs,ka,kc,rfl,hj,hvl,h0,h1,h2,how,hts,hb⟩:=hrel;have HVL:=hQ hvl;have H0:=hQ h0;have H1:=hQ h1;have H2:=hQ h2;have HOW:=hQ how;have HTS:=hQ hts;have HBR:=hQ hb;clear hvl how hts hb
   by_cases hlt:j<t.kids.length
   ·obtain⟨k,hk⟩:∃ k,t.kids[j]? = some k:=⟨_,xF hlt⟩;obtain⟨b,off,hka⟩:∃ b off,vka=some ⟨b,off,none⟩:=HT.out.addr.resolve_left (by omega);subst hka;have hut:=(HT.out.keep HBR.out).at rfl hk;obtain⟨u,c0,c1,c2,c3,hu⟩:=hut;have HU:=hQ hu;have HK:=hQ hk;have HNK:=hQ (show SizeOf.sizeOf k<=N from by have:=Qar hk;have:=HN.out;omega);have HFK:=hQ (HF3.out j k hk);have k3:=Qab h0 3 _ rfl;have x3:wr.cell? ⟨w.heap.size+1+1,3,none⟩=some (.slice ka j kc):=Qab h2 3 _ rfl;have xl:w.heap.size+1+1<wr.heap.size:=Qaa h2;have xf:wr.frozen? ⟨w.heap.size+1+1,3,none⟩=false:=xL h2 _;have hj0:(0:Int)<=(j:Int):=by omega
    have hj1:(j:Int)<(t.kids.length:Int):=by omega
    clear hk hu h0 h1 h2;have HBA:=hQ ((xC wr.heap.size wr).drew);have HJ:=hQ (show j+1<=1900000000000 from by have:=HF2.out;omega);have HB1:=hQ (show j+1<=maxLen from by have:=HJ.out;unfold maxLen;omega);have HB2:=hQ (show(j+1)*72<=140737488355328 from by have:=HJ.out;omega);have HB3:=hQ (show w.heap.size+3<=wr.heap.size from xl);go_wp2_with fail
    go_region_law (first
     | (go_simp;go_at_call 60;refine(HIH.out S k u _ HNK.out (HU.out.keep HBA.out) HFK.out).mono ?_;rintro e w5⟨y,rfl,hty,hb5⟩;have HTY:=hQ hty;have HB5:=hQ (HBA.out.trans hb5);have HO5:=hQ (Zk5 HOW.out HB5.out);have g2:=(HB5.out.block _ xl).trans H2.out;clear hty hb5 c0 c1 c2 c3 k3 x3 xl xf;have x3:w5.cell? ⟨w.heap.size+1+1,3,none⟩=some (.slice ka j kc):=Qab g2 3 _ rfl;have xl:w.heap.size+1+1<w5.heap.size:=Qaa g2;have xf:w5.frozen? ⟨w.heap.size+1+1,3,none⟩=false:=xL g2 _;clear g2)
     | (refine step_append_lies _ (by rfl) _ _ _ (by rfl) (w.heap.size+3) 25 it _ 4 72 underlying22 hit ht0 ht1 ht2 rfl (by decide) (.slice ka j kc) j (Qag vs) (by rfl) (HO5.out.alloc _) ⟨w5.heap.size,0,none⟩ 1 1 y.cells (by rfl) (by rfl) (xM (cs:=y.cells.toArray) (t:=25) (fr:=(0,0)) (xH w5 _)) (Qgu y) (by decide) HB1.out HB2.out (by rw[xI];have:=HB3.out;have:=HB5.out.size;omega) (w5.heap.size+1) (by simp) ?_;intro g cap w6 ho6 hg6 hat6 hlt6;have HO6:=hQ ho6;have HG6:=hQ hg6;have HAT6:=hQ hat6;have hx6:=Zmu HOW.out H2.out HB5.out hg6;clear ho6 hg6 hat6 hlt6 x3 xl xf;have x3:w6.cell? ⟨w.heap.size+1+1,3,none⟩=some (.slice ka j kc):=Qab hx6 3 _ rfl;have xl:w.heap.size+1+1<w6.heap.size:=Qaa hx6;have xf:w6.frozen? ⟨w.heap.size+1+1,3,none⟩=false:=xL hx6 _;clear hx6))
    all_goals
     have hj2:(j:Int)+1<=1900000000001:=by have:=HF2.out;omega
     go_wp2;go_roundw
     case measure=>simp[intOf];omega
     case rel=>exact Zk6 HK.out HVL.out H0.out H1.out H2.out HOW.out HTS.out HBR.out HB5.out HTY.out HO6.out HG6.out HAT6.out
   ·have hjn:j=t.kids.length:=by omega
    subst hjn;have k3:=Qab h0 3 _ rfl;have tbl:=Qaa h0;have r0:=Qab h1 0 _ rfl;have r1:=Qab h1 1 _ rfl;have r2:=Qab h1 2 _ rfl;have r3:=Qab h1 3 _ rfl;have rbl:=Qaa h1;have rrf:=xL h1;have x0:wr.cell? ⟨w.heap.size+1+1,0,none⟩=some (.int .i64 vk):=Qab h2 0 _ rfl;have x1:wr.cell? ⟨w.heap.size+1+1,1,none⟩=some (.string vx):=Qab h2 1 _ rfl;have x2:wr.cell? ⟨w.heap.size+1+1,2,none⟩=some (.slice none 0 0):=Qab h2 2 _ rfl;have x3:wr.cell? ⟨w.heap.size+1+1,3,none⟩=some (.slice ka t.kids.length kc):=Qab h2 3 _ rfl;have xl:w.heap.size+1+1<wr.heap.size:=Qaa h2;clear h0 h1 h2;go_wp2;refine bodyPost_ret (v:=.agg #[.int .i64 vk,.string vx,.slice none 0 0,.slice ka t.kids.length kc]) (by simp[results,results60,go_sem, *]) rfl ?_
    refine⟨⟨vk,vx,none,0,0,ka,t.kids.length,kc⟩,rfl,?_,?_⟩
    ·have hsz:(Qek wr (w.heap.size+1) ⟨vk,vx,none,0,0,ka,t.kids.length,kc⟩).heap.size=wr.heap.size:=Qb7 _ _ _;show TrAt _ (Qek wr (w.heap.size+1) ⟨vk,vx,none,0,0,ka,t.kids.length,kc⟩) (Qin t) _
     have hrow:=HOW.out.lt;refine Zeu HE3.out HE4.out (fun hne=>?_) (Qgv HOW.out);have hn:0<t.kids.length:=List.length_pos_iff.2 hne;obtain⟨g,cap,hv,hg1,hg2⟩:=World.ownsRow.form HOW.out hn;injection hv with hv1 hv2 hv3;subst hv1 hv3;have hcs:=HOW.out.cells (g:=g) rfl;have hadd:∀ j,((⟨g,0,none⟩:Addr).add j)=⟨g,j,none⟩:=fun j=>by unfold Addr.add;split <;> simp_all
     have hgc:∀ (j:Nat) (x:Value),(Qag vs)[j]? = some x->(Qek wr (w.heap.size+1) ⟨vk,vx,none,0,0,some ⟨g,0,none⟩,t.kids.length,kc⟩).cell? ⟨g,j,none⟩=some x:=fun j x hx=>by
      have h:=hcs j x hx;rw[hadd]at h;exact(xJ (a:=⟨g,j,none⟩) (Qa3 _ (by show g≠_;omega))).trans h
     refine⟨g,0,rfl,⟨by omega,xE hg2 (Nat.le_of_eq hsz.symm)⟩,TrsAt.of (t.kids.map Qin) 0 (fun i k' hk'=>?_)⟩;obtain⟨k,hk,rfl⟩:∃ k,t.kids[i]? = some k/\Qin k=k':=by rw[List.getElem?_map]at hk';exact Option.map_eq_some_iff.1 hk'
     have hi:=(xP.1 hk).1;obtain⟨u,hu⟩:∃ u,vs[i]? = some u:=⟨_,xF (by rw[HVL.out];exact hi)⟩;obtain⟨q0,q1,q2,q3⟩:=Qd1 vs i u hu
     refine⟨u,?_,?_,?_,?_,TrAt.move (fun b hb=>⟨by omega,xE hb.2.1 (Nat.le_of_eq hsz.symm)⟩) (fun b hb _=>Qa3 _ (by omega)) _ _ (HTS.out i k u hk hu)⟩
     ·rw[Nat.zero_add];exact hgc _ _ q0
     ·rw[Nat.zero_add];exact hgc _ _ q1
     ·rw[Nat.zero_add];exact hgc _ _ q2
     ·rw[Nat.zero_add];exact hgc _ _ q3
    ·exact HBR.out.trans ((Qb6 wr (w.heap.size+1) ⟨vk,vx,none,0,0,ka,t.kids.length,kc⟩).mono (Nat.le_succ _))
end Go.Proofs.YtfjpemdejoejbaaGreat
namespace Go.Proofs.YtfjpemdejoejbaaGreat
open Go.Proofs.Tryz Go.RowKit
def Qj7(c:Tr):Tr:=.mk c.kind c.text [] []
theorem Zh5(n m:Nat)(c:Tr):Qcz n (Qcz m c)=Qcz (n+m) c:=by
 induction n with
 | zero=>rw[Nat.zero_add];rfl
 | succ n ih=>rw[Qcz,ih,show n+1+m=(n+m)+1 from by omega,Qcz]
theorem Qtc(N:Nat):∀ t:Tr,SizeOf.sizeOf t<=N->LsT t->Qin t=Qcz (Qbn t) (Qj7 (Qbd t)):=by
 induction N with
 | zero=>intro t h;have:=Qf3 t;omega
 | succ N ih =>
  intro t hN h
  rcases Qfu h.1 h.2 with⟨h8,k,hkk,h1,h2⟩|⟨h8,hk,_⟩
  ·have hj:t.kids[0]? = some k:=by rw[hkk];rfl
   have hi:=ih k (by have:=Qar hj;omega) ⟨h2,h1⟩;obtain⟨q1,q2⟩:=Qfj h8 hkk
   have hx:t.text=⟨#[]⟩:=by
    have h3:=(Qf5 h.1).2.1;rw[h8]at h3;have e2:Qba (Qae 8) t.text=is t.text []:=rfl;rw[e2]at h3;have h4:=eq_of_beq (show(t.text.data.toList==([]:List UInt8))=true from h3);cases hx:t.text with
    | mk d=>rw[hx]at h4;cases d;simp at h4;subst h4;rfl
   cases t with
   | mk kd x ls ks =>
    have e1:kd=8:=h8;have e2:ks = [k]:=hkk;have e3:x=⟨#[]⟩:=hx;subst e1 e2 e3;rw[Qin,Qu6,Qu6,hi,q1,q2,Qcz]
  ·obtain⟨q1,q2⟩:=Qfk h8;rw[q1,q2];cases t with
   | mk kd x ls ks =>
    have e2:ks = []:=hk;subst e2;rw[Qin,Qu6];rfl
end Go.Proofs.YtfjpemdejoejbaaGreat
