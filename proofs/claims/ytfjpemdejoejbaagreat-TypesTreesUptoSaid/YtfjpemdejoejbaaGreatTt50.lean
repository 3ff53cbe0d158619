/- Part 50 -/
import Derived.Test.YtfjpemdejoejbaaGreatTt49
set_option maxRecDepth 100000
set_option maxHeartbeats 4000000
namespace Go.Proofs.YtfjpemdejoejbaaGreat
open Go.RowKit Go.Shelf
def Qfz (f:Pr→Option Pr):Nat→Option Pr→List Pr→Option (List Pr)
 | 0,_,_=>none
 | n+1,oa,met=>match oa with
  | none=>some met
  | some a=>if a∈met then some met else Qfz f n (f a) (met ++ [a])
theorem Qgf {f:Pr→Option Pr} {n:Nat} {met L:List Pr} (h:Qfz f n none met=some L):L=met:=by
 cases n with
 | zero=>rw [Qfz] at h;cases h
 | succ n=>rw [Qfz] at h;injection h with h;exact h.symm
theorem Qli {f:Pr→Option Pr} {n:Nat} {a:Pr} {met L:List Pr} (h:Qfz f n (some a) met=some L) (hm:a∈met):L=met:=by
 cases n with
 | zero=>rw [Qfz] at h;cases h
 | succ n =>
  rw [Qfz] at h;rw [xO hm] at h;injection h with h;exact h.symm
theorem Qhm {f:Pr→Option Pr} {n:Nat} {a:Pr} {met L:List Pr} (h:Qfz f n (some a) met=some L) (hm:a ∉ met):∃ n',n=n'+1∧Qfz f n' (f a) (met ++ [a])=some L:=by
 cases n with
 | zero=>rw [Qfz] at h;cases h
 | succ n =>
  rw [Qfz] at h;rw [xN hm] at h;exact ⟨n,rfl,h⟩
theorem Qnz {ps:List Tr} {a b:Pr} (h:Qdc ps a=some b):InD ps b:=by
 unfold Qdc at h
 split at h
 ·rename_i hc
  injection h with h;rw [←h];exact Qra hc.2.2.2.2
 ·cases h
theorem Qlj (ps:List Tr):(n:Nat)→(oa:Option Pr)→(met:List Pr)→met.Nodup→(∀ a∈met,InD ps a)→(∀ a,oa=some a→InD ps a)→Qak ps+1≤n+met.length→∃ L,Qfz (Qdc ps) n oa met=some L
 | 0,oa,met,hn,hm,_,hf=>by
  have:=Qw6 hn hm
  omega
 | n+1,none,met,_,_,_,_=>⟨met,by rw [Qfz]⟩
 | n+1,some a,met,hn,hm,ho,hf=>by
  rw [Qfz]
  split
  ·exact ⟨_,rfl⟩
  ·rename_i hx
   refine Qlj ps n _ _ (Qme hn hx) (fun b hb=>?_) (fun b hb=>Qnz hb) (by rw [xB,List.length_singleton];omega)
   rcases List.mem_append.1 hb with hb | hb
   ·exact hm b hb
   ·simp at hb
    subst hb;exact ho b rfl
def Qyl (ps:List Tr) (a:Pr):List Pr:=(Qfz (Qdc ps) (Qak ps+1) (Qdc ps a) []).getD []
theorem Qn0 (ps:List Tr) (a:Pr):Qfz (Qdc ps) (Qak ps+1) (Qdc ps a) [] = some (Qyl ps a):=by
 obtain ⟨L,hL⟩:=Qlj ps (Qak ps+1) (Qdc ps a) [] List.nodup_nil (by simp) (fun b hb=>Qnz hb) (by simp);unfold Qyl;rw [hL];rfl
def Qh3 (ps:List Tr) (m d:Int):Bool:=Qb4 ps && decide ((m,d)∈Qyl ps (m,d))
theorem Ze3 {ps:List Tr} {a:Pr} (hz:∀ t∈ps,Qal t≤1000) (hl:Qak ps≤90000) (h:InD ps a):W64 a.1∧W64 a.2:=by
 obtain ⟨m,d,t,k,rfl,h1,h2⟩:=h;have e1:=(xP.1 h1).1;have e2:=(xP.1 h2).1;have e3:=Qa4 ps;have e4:=Qa4 t.kids;have e5:=hz t (yA h1);have e6:=Qa9 t;exact ⟨Qhw (by omega),Qhw (by omega)⟩
def CiL (ps:List Tr) (L:List Pr) (a0:Pr) (w:World) (fb mb:Nat) (v9 v10 v11:Value) (wr:World):Prop :=
 ∃ (n ab mc:Nat) (MA:Option Addr) (met:List Pr) (oa:Option Pr),v9 = .slice MA met.length mc∧v10 = .pointer (some ⟨ab,0,none⟩)∧v11 = .bool oa.isSome∧wr.heap[ab]? = some (prO (oa.getD (0,0))) ∧
  QRow wr w.heap.size (.slice MA met.length mc) met∧(Value.slice MA met.length mc).ownBlock≠some ab∧(Value.slice MA met.length mc).ownBlock≠some fb∧AMap wr mb 90001 (Qdc ps)∧wr.heap[fb]? = some (prO a0) ∧
  (∀ a,oa=some a→InD ps a)∧Qfz (Qdc ps) n oa met=some L∧n+met.length=Qak ps+1∧Below w.heap.size w wr
theorem Qhc (S:Nat→Prop) (A:Option Addr) (c:Nat) (ps:List Tr) (m d:Int) (w:World) (hp:TrAt S w (Qap ps) ⟨0,⟨#[]⟩,none,0,0,A,ps.length,c⟩) (hf:Qe9 (Qap ps)=true) (hw:Qaz (Qap ps)=true)
  (hz:∀ t∈ps,Qal t≤1000) (hl:Qak ps≤90000) (wm:W64 m) (wd:W64 d) :
  Calls Tryz.prog 11 #[.slice A ps.length c,.int .i64 m,.int .i64 d] w fun e w'=>e = .returned (.bool (Qh3 ps m d))∧Below w.heap.size w w':=by
 have hsm:=Qdy _ hf;have HPL:=hQ (TrAt.low _ _ hp);have HF:=hQ hf;have HW:=hQ hw;have HZ:=hQ hz;have HL:=hQ hl;have WM:=hQ wm;have WD:=hQ wd;have HCP:=hQ (Qk7 S A c ps w hp hsm hw);clear hp hf hw hz hsm hl wm wd;cases hg:Qb4 ps with
 | false =>
  have HV:=hQ (show Qh3 ps m d=false from by unfold Qh3;rw [hg];rfl);rw [hg] at HCP;clear hg
  go_enter Tryz.func11,Tryz.ntmps11
  go_wp2_with (go_at_call 34;refine HCP.out.mono ?_;rintro e w1 ⟨rfl,hb⟩;have HB1:=hQ hb;clear hb)
  go_ret
  rw [HV.out];exact ⟨rfl,HB1.out⟩
 | true =>
  rw [hg] at HCP;have HG:=hQ hg;have HGO:=hQ (Qn0 ps (m,d));obtain ⟨L,hL⟩:∃ L,L=Qyl ps (m,d):=⟨_,rfl⟩;rw [←hL] at HGO;have HV:=hQ (show Qh3 ps m d=decide ((m,d)∈L) from by unfold Qh3;rw [hg,hL];rfl);obtain ⟨oa,hoa⟩:∃ oa,oa=Qdc ps (m,d):=⟨_,rfl⟩;rw [←hoa] at HGO;have HOI:=hQ (show ∀ a,oa=some a→InD ps a from fun a h=>Qnz (hoa.symm.trans h));have HOE:=hQ hoa;clear hg hL hoa;rw [HV.out]
  go_enter Tryz.func11,Tryz.ntmps11
  go_wp2_with (first
   | (go_at_call 34;refine HCP.out.mono ?_;rintro e w1 ⟨rfl,hb⟩;have HB1:=hQ hb;have HBX:=hQ (hb.alloc hb.size (prO (m,d)));have HF1:=hQ (xH w1 (prO (m,d)));clear hb)
   | (go_at_call 36;refine (Qmr _ A c ps _ (HPL.out.keep HBX.out) HG.out HZ.out HL.out HF.out HW.out).mono ?_;rintro e w4 ⟨QA,qc,rfl,hq,hb⟩;have HQ:=hQ hq;have HB4:=hQ (HBX.out.trans (hb.mono HBX.out.size));have HF4:=hQ ((hb.block _ (Qab HF1.out)).trans HF1.out);clear hq hb)
   | (go_at_call 35;refine (Qhv _ QA qc (Qgr ps) _ HQ.out.at' HQ.out.fit HQ.out.small HQ.out.words HQ.out.size (Qyc HZ.out HG.out HQ.out.prog HL.out)).mono ?_;rintro e w5 ⟨mb,rfl,hm,hmb,hb⟩;rw [Qsu HZ.out HG.out HQ.out.prog] at hm;have HM5:=hQ hm;have HB5:=hQ (HB4.out.trans (hb.mono HB4.out.size));have HF5:=hQ ((hb.block _ (Qab HF4.out)).trans HF4.out);have f0:w5.cell? ⟨w1.heap.size,0,none⟩=some (.int .i64 m):=Qaa HF5.out 0 _ rfl;have f1:w5.cell? ⟨w1.heap.size,1,none⟩=some (.int .i64 d):=Qaa HF5.out 1 _ rfl;have fbl:=Qab HF5.out;clear hm hmb hb)
   | (at_lookup;refine Qe6 rfl _ _ rfl mb 90001 (Qdc ps) rfl HM5.out m d rfl WM.out WD.out ?_))
  go_loopw [9,10,11] (fun v9 v10 v11 wr=>CiL ps L (m,d) w w1.heap.size mb v9 v10 v11 wr) (fun v9 _ _ _=>Qak ps+1-lenV v9)
  case atStart =>
   refine ⟨Qak ps+1,w5.heap.size,0,none,[],oa,rfl,rfl,by rw [HOE.out],?_,QRow.nil _ _,fun e=>(by cases e),fun e=>(by cases e),HM5.out.below (Qbq w5 _),((Qbq w5 _).block _ (Qab HF5.out)).trans HF5.out,HOI.out,HGO.out,rfl,HB5.out.alloc HB5.out.size _⟩;rw [HOE.out];exact xH w5 _
  case round =>
   obtain ⟨n,ab,mc,MA,met,ob,rfl,rfl,rfl,hab,hq,hoa,hof,hm,hfb,hin,hgo,hnm,hb⟩:=hrel;have HAB:=hQ hab;have HQR:=hQ hq;have HOA:=hQ hoa;have HOF:=hQ hof;have HMR:=hQ hm;have HFB:=hQ hfb;have HIN:=hQ hin;have HGR:=hQ hgo;have HNM:=hQ hnm;have HBR:=hQ hb;have hmet:met.length≤90001:=by have:=HNM.out;have:=HL.out;omega
   have HCE:=hQ (Qev w.heap.size mc MA met m d wr HQR.out (by omega));have f0:wr.cell? ⟨w1.heap.size,0,none⟩=some (.int .i64 m):=Qaa hfb 0 _ rfl;have f1:wr.cell? ⟨w1.heap.size,1,none⟩=some (.int .i64 d):=Qaa hfb 1 _ rfl;have fbl:=Qab hfb;clear hab hq hoa hof hm hfb hin hgo hnm hb;cases ob with
   | none =>
    have HE:=hQ (Qgf HGR.out);go_wp2_with (go_at_call 37;refine HCE.out.mono ?_;rintro e w7 ⟨rfl,hb⟩;have HB7:=hQ (HBR.out.trans (hb.mono HBR.out.size));clear hb)
    go_ret
    rw [HE.out];exact ⟨rfl,HB7.out⟩
   | some a =>
    obtain ⟨x,y⟩:=a;have a0:wr.cell? ⟨ab,0,none⟩=some (.int .i64 x):=Qaa HAB.out 0 _ rfl;have a1:wr.cell? ⟨ab,1,none⟩=some (.int .i64 y):=Qaa HAB.out 1 _ rfl;have abl:=Qab HAB.out
    by_cases hmem:(x,y)∈met
    ·have HE:=hQ (Qli HGR.out hmem);have HCN:=hQ (show Calls Tryz.prog 37 #[.slice MA met.length mc,.agg #[.int .i64 x,.int .i64 y]] wr fun e w'=>e = .returned (.bool true)∧Below wr.heap.size wr w' from by have h:=Qev w.heap.size mc MA met x y wr HQR.out (by omega);rw [xS hmem] at h;exact h);clear hmem
     go_wp2_with (first
      | (go_at_call 37;refine HCN.out.mono ?_;rintro e w7 ⟨rfl,hb⟩;have HB7:=hQ (HBR.out.trans (hb.mono HBR.out.size));have HCF:=hQ (Qev w.heap.size mc MA met m d w7 (HQR.out.keep hb) (by omega));have HF7:=hQ ((hb.block _ (Qab HFB.out)).trans HFB.out);clear f0 f1 fbl a0 a1 abl;have f0:w7.cell? ⟨w1.heap.size,0,none⟩=some (.int .i64 m):=Qaa HF7.out 0 _ rfl;have f1:w7.cell? ⟨w1.heap.size,1,none⟩=some (.int .i64 d):=Qaa HF7.out 1 _ rfl;have fbl:=Qab HF7.out;clear hb)
      | (go_at_call 37;refine HCF.out.mono ?_;rintro e w8 ⟨rfl,hb⟩;have HB8:=hQ (HB7.out.trans (hb.mono HB7.out.size));clear hb))
     go_ret
     rw [HE.out];exact ⟨rfl,HB8.out⟩
    ·obtain ⟨n',hn',hgo'⟩:=Qhm HGR.out hmem;have HN:=hQ hn';have HGN:=hQ hgo';have HCN:=hQ (show Calls Tryz.prog 37 #[.slice MA met.length mc,.agg #[.int .i64 x,.int .i64 y]] wr fun e w'=>e = .returned (.bool false)∧Below wr.heap.size wr w' from by have h:=Qev w.heap.size mc MA met x y wr HQR.out (by omega);rw [xR hmem] at h;exact h);have WX:=hQ (Ze3 HZ.out HL.out (HIN.out _ rfl)).1;have WY:=hQ (Ze3 HZ.out HL.out (HIN.out _ rfl)).2;have HM1:=hQ (show met.length+1≤maxLen from by unfold maxLen;omega);have HM2:=hQ (show (met.length+1)*16≤140737488355328 from by omega);obtain ⟨pz,hpz,pz0,pz1,pz2⟩:=info_parts Qw9;clear hmem hn' hgo'
     go_wp2_with (first
      | (go_at_call 37;refine HCN.out.mono ?_;rintro e w7 ⟨rfl,hb⟩;have HB7:=hQ (HBR.out.trans (hb.mono HBR.out.size));have HF7:=hQ ((hb.block _ (Qab HFB.out)).trans HFB.out);have HA7:=hQ ((hb.block _ (Qab HAB.out)).trans HAB.out);have HQ7:=hQ ((HQR.out.keep hb).keep (Qbq w7 (prO (x,y))));have HM7:=hQ (HMR.out.below hb);clear f0 f1 fbl a0 a1 abl;have a0:w7.cell? ⟨ab,0,none⟩=some (.int .i64 x):=Qaa HA7.out 0 _ rfl;have a1:w7.cell? ⟨ab,1,none⟩=some (.int .i64 y):=Qaa HA7.out 1 _ rfl;have abl:=Qab HA7.out;have HS7:=hQ (show w.heap.size≤(w7.alloc (prO (x,y))).heap.size from by rw [xI];exact Nat.le_succ_of_le HB7.out.size);clear hb)
      | (at_builtin;refine Qec _ rfl _ _ 64 rfl w.heap.size 60 pz _ 2 16 Tryz.underlying64 hpz pz0 pz1 pz2 rfl (by decide) _ met.length (Qds met) rfl HQ7.out ⟨w7.heap.size,0,none⟩ 1 1 [.int .i64 x,.int .i64 y] rfl rfl (Qyd w7 x y) (Qye x y) (by decide) HM1.out HM2.out HS7.out ?_;intro g8 c8 w8 hown hk8 hg8 hlt8;have HO8:=hQ hown;have HK8:=hQ hk8;have HG8:=hQ hg8;have HA8:=hQ (Qge HK8.out HOA.out HA7.out);have HMX:=hQ ((Qnx HQ7.out HM7.out HK8.out).below (Qbq w8 (prO (x,y))));clear hown hk8 hg8 hlt8 a0 a1 abl;have a0:w8.cell? ⟨ab,0,none⟩=some (.int .i64 x):=Qaa HA8.out 0 _ rfl;have a1:w8.cell? ⟨ab,1,none⟩=some (.int .i64 y):=Qaa HA8.out 1 _ rfl;have abl:=Qab HA8.out)
      | (at_lookup;refine Qe6 rfl _ _ rfl mb 90001 (Qdc ps) rfl HMX.out x y rfl WX.out WY.out ?_))
     go_roundw
     case measure =>
      show Qak ps+1-(met.length+1)<Qak ps+1-met.length
      have h1:=HNM.out;have h2:=HN.out;omega
     case rel =>
      have hg8:(Value.slice MA met.length mc).ownBlock=some g8∨(w7.alloc (prO (x,y))).heap.size≤g8:=HG8.out;have hl8:=World.ownsRow.lt HO8.out g8 rfl;have h1:=HNM.out;have h2:=HN.out;have HF8:=Qge HK8.out HOF.out HF7.out;have HB8:=Qjn HB7.out HK8.out fun k hk=>(World.ownsRow.lt HQ7.out k hk).1
      refine ⟨n',w8.heap.size,c8,some ⟨g8,0,none⟩,met ++ [(x,y)],Qdc ps (x,y),by rw [xB];rfl,rfl,rfl,xH w8 _,?_,?_,?_,(Qnx HQ7.out HM7.out HK8.out).below (Qbq w8 _),((Qbq w8 _).block _ (Qab HF8)).trans HF8,fun b hb=>Qnz hb,HGN.out,by rw [xB,List.length_singleton];omega,HB8.alloc HB8.size _⟩
      ·have h:=Qe4 HO8.out (Qbq w8 (.cells #[.int .i64 (Qji (Qdc ps) (x,y)).1,.int .i64 (Qji (Qdc ps) (x,y)).2] 60));unfold QRow;rw [xB,Qez];exact h
      ·intro e;have e2:g8=w8.heap.size:=by simpa [Value.ownBlock] using e
       omega
      ·intro e;have e2:g8=w1.heap.size:=by simpa [Value.ownBlock] using e
       rcases hg8 with h | h
       ·exact HOF.out (h.trans (by rw [e2]))
       ·have h5:=Qab HF7.out;rw [xI] at h;omega
end Go.Proofs.YtfjpemdejoejbaaGreat
namespace Go.Proofs.YtfjpemdejoejbaaGreat
open Go.RowKit
theorem Qpx {f:Pr→Option Pr}:(n:Nat)→(oa:Option Pr)→(met L:List Pr)→Qfz f n oa met=some L→∀ x∈met,x∈L
 | 0,_,_,_,h=>by rw [Qfz] at h;cases h
 | n+1,none,met,L,h=>fun x hx=>by rw [Qgf h];exact hx
 | n+1,some a,met,L,h=>fun x hx=>by
  by_cases hm:a∈met
  ·rw [Qli h hm];exact hx
  ·obtain ⟨n',hn,h'⟩:=Qhm h hm;injection hn with hn;subst hn;exact Qpx n _ _ L h' x (List.mem_append_left _ hx)
theorem Qyu {f:Pr→Option Pr} {n:Nat} {a:Pr} {met L:List Pr} (h:Qfz f n (some a) met=some L) (hm:a ∉ met):a∈L:=by
 obtain ⟨n',_,h'⟩:=Qhm h hm;exact Qpx n' _ _ L h' a (by simp)
theorem Qjp {ps:List Tr} {m d:Int} (h:Qb4 ps=false∨Qdc ps (m,d)=none):Qh3 ps m d=false:=by
 unfold Qh3
 rcases h with h | h
 ·rw [h];rfl
 ·have hg:=Qn0 ps (m,d);rw [h] at hg;rw [Qgf hg];simp
theorem Qi4 {ps:List Tr} {m d:Int} (h:m<0∨d<0∨(Qg9 ps m.toNat d.toNat).kind≠3):Qdc ps (m,d)=none:=by
 unfold Qdc;rw [xN];rintro ⟨h1,h2,h3,_⟩;simp only at h1 h2 h3
 rcases h with h | h | h
 ·omega
 ·omega
 ·exact h h3
theorem Qyv {ps:List Tr} {M D:Nat} (h9:(Qc0 (Qg9 ps M D)).kind≠9):Qdc ps ((M:Int),(D:Int))=none:=by
 unfold Qdc;rw [xN];rintro ⟨_,_,_,h,_⟩;exact h9 h
theorem Qyw {ps:List Tr} {M D:Nat} (hf:Qaw ps M (Qc0 (Qg9 ps M D)).text=(0,0,false)):Qdc ps ((M:Int),(D:Int))=none:=by
 unfold Qdc;rw [xN];rintro ⟨_,_,_,_,h⟩;simp only [Int.toNat_natCast] at h;rw [hf] at h;cases h
theorem Qyx {ps:List Tr} {M D:Nat} {r:Int × Int} (h3:(Qg9 ps M D).kind=3) (h9:(Qc0 (Qg9 ps M D)).kind=9) (hf:Qaw ps M (Qc0 (Qg9 ps M D)).text=(r.1,r.2,true)):Qdc ps ((M:Int),(D:Int))=some r:=by
 unfold Qdc;simp only [Int.toNat_natCast];rw [hf,xO ⟨by omega,by omega,h3,h9,rfl⟩]
theorem Zbo {ps:List Tr} {m d:Nat} (h:ps.length≤m):(Qg9 ps m d).kind≠3:=by
 unfold Qg9;rw [List.getElem?_eq_none h]
 show ((noTr.kids)[d]?.getD noTr).kind≠3
 have e:noTr.kids = []:=rfl;rw [e]
 show noTr.kind≠3
 decide
theorem Qyy {ps:List Tr} {m d:Nat} {t:Tr} (ht:ps[m]? = some t) (h:t.kids.length≤d):(Qg9 ps m d).kind≠3:=by
 unfold Qg9;rw [ht,Option.getD_some,List.getElem?_eq_none h]
 show noTr.kind≠3
 decide
end Go.Proofs.YtfjpemdejoejbaaGreat
