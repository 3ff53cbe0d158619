/- Part 53 -/
import Derived.Test.YtclkilljmdkfaaaGreatTf52
set_option maxRecDepth 100000
set_option maxHeartbeats 4000000
namespace Go.Proofs.YtclkilljmdkfaaaGreat
open Go.RowKit Go.Shelf
def Qir (f:Pr→Option Pr):Nat→Option Pr→List Pr→Option (List Pr)
 | 0,_,_=>none
 | n+1,oa,met=>match oa with
  | none=>some met
  | some a=>if a∈met then some met else Qir f n (f a) (met ++ [a])
theorem Qyh {f:Pr→Option Pr} {n:Nat} {met L:List Pr} (h:Qir f n none met=some L):L=met:=by
 cases n with
 | zero=>rw [Qir] at h;cases h
 | succ n=>rw [Qir] at h;injection h with h;exact h.symm
theorem Zde {f:Pr→Option Pr} {n:Nat} {a:Pr} {met L:List Pr} (h:Qir f n (some a) met=some L) (hm:a∈met):L=met:=by
 cases n with
 | zero=>rw [Qir] at h;cases h
 | succ n =>
  rw [Qir] at h
  rw [xO hm] at h
  injection h with h
  exact h.symm
theorem Qyi {f:Pr→Option Pr} {n:Nat} {a:Pr} {met L:List Pr} (h:Qir f n (some a) met=some L) (hm:a ∉ met):∃ n',n=n'+1∧Qir f n' (f a) (met ++ [a])=some L:=by
 cases n with
 | zero=>rw [Qir] at h;cases h
 | succ n =>
  rw [Qir] at h
  rw [xN hm] at h
  exact ⟨n,rfl,h⟩
theorem Qqm {ps:List Tr} {a b:Pr} (h:Qfy ps a=some b):InD ps b:=by
 unfold Qfy at h
 split at h
 ·rename_i hc
  injection h with h
  rw [←h]
  exact Qt6 hc.2.2.2.2
 ·cases h
theorem Qnr (ps:List Tr):(n:Nat)→(oa:Option Pr)→(met:List Pr)→met.Nodup→(∀ a∈met,InD ps a)→(∀ a,oa=some a→InD ps a)→Qam ps+1≤n+met.length→∃ L,Qir (Qfy ps) n oa met=some L
 | 0,oa,met,hn,hm,_,hf=>by
  have:=Zbx hn hm
  omega
 | n+1,none,met,_,_,_,_=>⟨met,by rw [Qir]⟩
 | n+1,some a,met,hn,hm,ho,hf=>by
  rw [Qir]
  split
  ·exact ⟨_,rfl⟩
  ·rename_i hx
   refine Qnr ps n _ _ (Qop hn hx) (fun b hb=>?_) (fun b hb=>Qqm hb) (by rw [xB,List.length_singleton];omega)
   rcases List.mem_append.1 hb with hb | hb
   ·exact hm b hb
   ·simp at hb
    subst hb
    exact ho b rfl
def Zgv (ps:List Tr) (a:Pr):List Pr:=(Qir (Qfy ps) (Qam ps+1) (Qfy ps a) []).getD []
theorem Zgw (ps:List Tr) (a:Pr):Qir (Qfy ps) (Qam ps+1) (Qfy ps a) [] = some (Zgv ps a):=by
 obtain ⟨L,hL⟩:=Qnr ps (Qam ps+1) (Qfy ps a) [] List.nodup_nil (by simp) (fun b hb=>Qqm hb) (by simp)
 unfold Zgv
 rw [hL]
 rfl
def Qqn (ps:List Tr) (m d:Int):Bool:=Qc1 ps && decide ((m,d)∈Zgv ps (m,d))
theorem Zk7 {ps:List Tr} {a:Pr} (hz:∀ t∈ps,Qah t≤1000) (hl:Qam ps≤90000) (h:InD ps a):W64 a.1∧W64 a.2:=by
 obtain ⟨m,d,t,k,rfl,h1,h2⟩:=h
 have e1:=(xP.1 h1).1
 have e2:=(xP.1 h2).1
 have e3:=Qa0 ps
 have e4:=Qa0 t.kids
 have e5:=hz t (yA h1)
 have e6:=Qa3 t
 exact ⟨Qjl (by omega),Qjl (by omega)⟩
def CiL (ps:List Tr) (L:List Pr) (a0:Pr) (w:World) (fb mb:Nat) (v9 v10 v11:Value) (wr:World):Prop :=
 ∃ (n ab mc:Nat) (MA:Option Addr) (met:List Pr) (oa:Option Pr),v9 = .slice MA met.length mc∧v10 = .pointer (some ⟨ab,0,none⟩)∧v11 = .bool oa.isSome∧wr.heap[ab]? = some (prO (oa.getD (0,0))) ∧
  QRow wr w.heap.size (.slice MA met.length mc) met∧(Value.slice MA met.length mc).ownBlock≠some ab∧(Value.slice MA met.length mc).ownBlock≠some fb∧AMap wr mb 90001 (Qfy ps)∧wr.heap[fb]? = some (prO a0) ∧
  (∀ a,oa=some a→InD ps a)∧Qir (Qfy ps) n oa met=some L∧n+met.length=Qam ps+1∧Below w.heap.size w wr
theorem Qlw (S:Nat→Prop) (A:Option Addr) (c:Nat) (ps:List Tr) (m d:Int) (w:World) (hp:TrAt S w (Qbp ps) ⟨0,⟨#[]⟩,none,0,0,A,ps.length,c⟩) (hf:Qhs (Qbp ps)=true) (hw:Qbh (Qbp ps)=true)
  (hz:∀ t∈ps,Qah t≤1000) (hl:Qam ps≤90000) (wm:W64 m) (wd:W64 d) :
  Calls Tryz.prog 17 #[.slice A ps.length c,.int .i64 m,.int .i64 d] w fun e w'=>e = .returned (.bool (Qqn ps m d))∧Below w.heap.size w w':=by
 have hsm:=Qfz _ hf
 have HPL:=hQ (TrAt.low _ _ hp)
 have HF:=hQ hf
 have HW:=hQ hw
 have HZ:=hQ hz
 have HL:=hQ hl
 have WM:=hQ wm
 have WD:=hQ wd
 have HCP:=hQ (Qnc S A c ps w hp hsm hw)
 clear hp hf hw hz hsm hl wm wd
 cases hg:Qc1 ps with
 | false =>
  have HV:=hQ (show Qqn ps m d=false from by unfold Qqn;rw [hg];rfl)
  rw [hg] at HCP
  clear hg
  go_enter Tryz.func17,Tryz.ntmps17
  go_wp2_with (go_at_call 52;refine HCP.out.mono ?_;rintro e w1 ⟨rfl,hb⟩;have HB1:=hQ hb;clear hb)
  go_ret
  rw [HV.out]
  exact ⟨rfl,HB1.out⟩
 | true =>
  rw [hg] at HCP
  have HG:=hQ hg
  have HGO:=hQ (Zgw ps (m,d))
  obtain ⟨L,hL⟩:∃ L,L=Zgv ps (m,d):=⟨_,rfl⟩
  rw [←hL] at HGO
  have HV:=hQ (show Qqn ps m d=decide ((m,d)∈L) from by unfold Qqn;rw [hg,hL];rfl)
  obtain ⟨oa,hoa⟩:∃ oa,oa=Qfy ps (m,d):=⟨_,rfl⟩
  rw [←hoa] at HGO
  have HOI:=hQ (show ∀ a,oa=some a→InD ps a from fun a h=>Qqm (hoa.symm.trans h))
  have HOE:=hQ hoa
  clear hg hL hoa
  rw [HV.out]
  go_enter Tryz.func17,Tryz.ntmps17
  go_wp2_with (first
   | (go_at_call 52;refine HCP.out.mono ?_;rintro e w1 ⟨rfl,hb⟩;have HB1:=hQ hb;have HBX:=hQ (hb.alloc hb.size (prO (m,d)));have HF1:=hQ (xH w1 (prO (m,d)));clear hb)
   | (go_at_call 54;refine (Qo2 _ A c ps _ (HPL.out.keep HBX.out) HG.out HZ.out HL.out HF.out HW.out).mono ?_;rintro e w4 ⟨QA,qc,rfl,hq,hb⟩;have HQ:=hQ hq;have HB4:=hQ (HBX.out.trans (hb.mono HBX.out.size));have HF4:=hQ ((hb.block _ (Qaa HF1.out)).trans HF1.out);clear hq hb)
   | (go_at_call 53;refine (Qjk _ QA qc (Qh5 ps) _ HQ.out.at' HQ.out.fit HQ.out.small HQ.out.words HQ.out.size (Zc5 HZ.out HG.out HQ.out.prog HL.out)).mono ?_;rintro e w5 ⟨mb,rfl,hm,hmb,hb⟩;rw [Qvt HZ.out HG.out HQ.out.prog] at hm;have HM5:=hQ hm;have HB5:=hQ (HB4.out.trans (hb.mono HB4.out.size));have HF5:=hQ ((hb.block _ (Qaa HF4.out)).trans HF4.out);have f0:w5.cell? ⟨w1.heap.size,0,none⟩=some (.int .i64 m):=Qab HF5.out 0 _ rfl;have f1:w5.cell? ⟨w1.heap.size,1,none⟩=some (.int .i64 d):=Qab HF5.out 1 _ rfl;have fbl:=Qaa HF5.out;clear hm hmb hb)
   | (at_lookup;refine Qf8 rfl _ _ rfl mb 90001 (Qfy ps) rfl HM5.out m d rfl WM.out WD.out ?_))
  go_loopw [9,10,11] (fun v9 v10 v11 wr=>CiL ps L (m,d) w w1.heap.size mb v9 v10 v11 wr) (fun v9 _ _ _=>Qam ps+1-lenV v9)
  case atStart =>
   refine ⟨Qam ps+1,w5.heap.size,0,none,[],oa,rfl,rfl,by rw [HOE.out],?_,QRow.nil _ _,fun e=>(by cases e),fun e=>(by cases e),HM5.out.below (Qc3 w5 _),((Qc3 w5 _).block _ (Qaa HF5.out)).trans HF5.out,HOI.out,HGO.out,rfl,HB5.out.alloc HB5.out.size _⟩
   rw [HOE.out]
   exact xH w5 _
  case round =>
   obtain ⟨n,ab,mc,MA,met,ob,rfl,rfl,rfl,hab,hq,hoa,hof,hm,hfb,hin,hgo,hnm,hb⟩:=hrel
   have HAB:=hQ hab
   have HQR:=hQ hq
   have HOA:=hQ hoa
   have HOF:=hQ hof
   have HMR:=hQ hm
   have HFB:=hQ hfb
   have HIN:=hQ hin
   have HGR:=hQ hgo
   have HNM:=hQ hnm
   have HBR:=hQ hb
   have hmet:met.length≤90001:=by have:=HNM.out;have:=HL.out;omega
   have HCE:=hQ (Qfo w.heap.size mc MA met m d wr HQR.out (by omega))
   have f0:wr.cell? ⟨w1.heap.size,0,none⟩=some (.int .i64 m):=Qab hfb 0 _ rfl
   have f1:wr.cell? ⟨w1.heap.size,1,none⟩=some (.int .i64 d):=Qab hfb 1 _ rfl
   have fbl:=Qaa hfb
   clear hab hq hoa hof hm hfb hin hgo hnm hb
   cases ob with
   | none =>
    have HE:=hQ (Qyh HGR.out)
    go_wp2_with (go_at_call 55;refine HCE.out.mono ?_;rintro e w7 ⟨rfl,hb⟩;have HB7:=hQ (HBR.out.trans (hb.mono HBR.out.size));clear hb)
    go_ret
    rw [HE.out]
    exact ⟨rfl,HB7.out⟩
   | some a =>
    obtain ⟨x,y⟩:=a
    have a0:wr.cell? ⟨ab,0,none⟩=some (.int .i64 x):=Qab HAB.out 0 _ rfl
    have a1:wr.cell? ⟨ab,1,none⟩=some (.int .i64 y):=Qab HAB.out 1 _ rfl
    have abl:=Qaa HAB.out
    by_cases hmem:(x,y)∈met
    ·have HE:=hQ (Zde HGR.out hmem)
     have HCN:=hQ (show Calls Tryz.prog 55 #[.slice MA met.length mc,.agg #[.int .i64 x,.int .i64 y]] wr fun e w'=>e = .returned (.bool true)∧Below wr.heap.size wr w' from by have h:=Qfo w.heap.size mc MA met x y wr HQR.out (by omega);rw [xS hmem] at h;exact h)
     clear hmem
     go_wp2_with (first
      | (go_at_call 55;refine HCN.out.mono ?_;rintro e w7 ⟨rfl,hb⟩;have HB7:=hQ (HBR.out.trans (hb.mono HBR.out.size));have HCF:=hQ (Qfo w.heap.size mc MA met m d w7 (HQR.out.keep hb) (by omega));have HF7:=hQ ((hb.block _ (Qaa HFB.out)).trans HFB.out);clear f0 f1 fbl a0 a1 abl;have f0:w7.cell? ⟨w1.heap.size,0,none⟩=some (.int .i64 m):=Qab HF7.out 0 _ rfl;have f1:w7.cell? ⟨w1.heap.size,1,none⟩=some (.int .i64 d):=Qab HF7.out 1 _ rfl;have fbl:=Qaa HF7.out;clear hb)
      | (go_at_call 55;refine HCF.out.mono ?_;rintro e w8 ⟨rfl,hb⟩;have HB8:=hQ (HB7.out.trans (hb.mono HB7.out.size));clear hb))
     go_ret
     rw [HE.out]
     exact ⟨rfl,HB8.out⟩
    ·obtain ⟨n',hn',hgo'⟩:=Qyi HGR.out hmem
     have HN:=hQ hn'
     have HGN:=hQ hgo'
     have HCN:=hQ (show Calls Tryz.prog 55 #[.slice MA met.length mc,.agg #[.int .i64 x,.int .i64 y]] wr fun e w'=>e = .returned (.bool false)∧Below wr.heap.size wr w' from by have h:=Qfo w.heap.size mc MA met x y wr HQR.out (by omega);rw [xR hmem] at h;exact h)
     have WX:=hQ (Zk7 HZ.out HL.out (HIN.out _ rfl)).1
     have WY:=hQ (Zk7 HZ.out HL.out (HIN.out _ rfl)).2
     have HM1:=hQ (show met.length+1≤maxLen from by unfold maxLen;omega)
     have HM2:=hQ (show (met.length+1)*16≤140737488355328 from by omega)
     obtain ⟨pz,hpz,pz0,pz1,pz2⟩:=info_parts Zb4
     clear hmem hn' hgo'
     go_wp2_with (first
      | (go_at_call 55;refine HCN.out.mono ?_;rintro e w7 ⟨rfl,hb⟩;have HB7:=hQ (HBR.out.trans (hb.mono HBR.out.size));have HF7:=hQ ((hb.block _ (Qaa HFB.out)).trans HFB.out);have HA7:=hQ ((hb.block _ (Qaa HAB.out)).trans HAB.out);have HQ7:=hQ ((HQR.out.keep hb).keep (Qc3 w7 (prO (x,y))));have HM7:=hQ (HMR.out.below hb);clear f0 f1 fbl a0 a1 abl;have a0:w7.cell? ⟨ab,0,none⟩=some (.int .i64 x):=Qab HA7.out 0 _ rfl;have a1:w7.cell? ⟨ab,1,none⟩=some (.int .i64 y):=Qab HA7.out 1 _ rfl;have abl:=Qaa HA7.out;have HS7:=hQ (show w.heap.size≤(w7.alloc (prO (x,y))).heap.size from by rw [xI];exact Nat.le_succ_of_le HB7.out.size);clear hb)
      | (at_builtin;refine Qfn _ rfl _ _ 75 rfl w.heap.size 71 pz _ 2 16 Tryz.underlying75 hpz pz0 pz1 pz2 rfl (by decide) _ met.length (Qf7 met) rfl HQ7.out ⟨w7.heap.size,0,none⟩ 1 1 [.int .i64 x,.int .i64 y] rfl rfl (Zc6 w7 x y) (Zc7 x y) (by decide) HM1.out HM2.out HS7.out ?_;intro g8 c8 w8 hown hk8 hg8 hlt8;have HO8:=hQ hown;have HK8:=hQ hk8;have HG8:=hQ hg8;have HA8:=hQ (Qi7 HK8.out HOA.out HA7.out);have HMX:=hQ ((Qqj HQ7.out HM7.out HK8.out).below (Qc3 w8 (prO (x,y))));clear hown hk8 hg8 hlt8 a0 a1 abl;have a0:w8.cell? ⟨ab,0,none⟩=some (.int .i64 x):=Qab HA8.out 0 _ rfl;have a1:w8.cell? ⟨ab,1,none⟩=some (.int .i64 y):=Qab HA8.out 1 _ rfl;have abl:=Qaa HA8.out)
      | (at_lookup;refine Qf8 rfl _ _ rfl mb 90001 (Qfy ps) rfl HMX.out x y rfl WX.out WY.out ?_))
     go_roundw
     case measure =>
      show Qam ps+1-(met.length+1)<Qam ps+1-met.length
      have h1:=HNM.out
      have h2:=HN.out
      omega
     case rel =>
      have hg8:(Value.slice MA met.length mc).ownBlock=some g8∨(w7.alloc (prO (x,y))).heap.size≤g8:=HG8.out
      have hl8:=World.ownsRow.lt HO8.out g8 rfl
      have h1:=HNM.out
      have h2:=HN.out
      have HF8:=Qi7 HK8.out HOF.out HF7.out
      have HB8:=Qo4 HB7.out HK8.out fun k hk=>(World.ownsRow.lt HQ7.out k hk).1
      refine ⟨n',w8.heap.size,c8,some ⟨g8,0,none⟩,met ++ [(x,y)],Qfy ps (x,y),by rw [xB];rfl,rfl,rfl,xH w8 _,?_,?_,?_,(Qqj HQ7.out HM7.out HK8.out).below (Qc3 w8 _),((Qc3 w8 _).block _ (Qaa HF8)).trans HF8,fun b hb=>Qqm hb,HGN.out,by rw [xB,List.length_singleton];omega,HB8.alloc HB8.size _⟩
      ·have h:=Qho HO8.out (Qc3 w8 (.cells #[.int .i64 (Qlb (Qfy ps) (x,y)).1,.int .i64 (Qlb (Qfy ps) (x,y)).2] 71))
       unfold QRow
       rw [xB,Qjj]
       exact h
      ·intro e
       have e2:g8=w8.heap.size:=by simpa [Value.ownBlock] using e
       omega
      ·intro e
       have e2:g8=w1.heap.size:=by simpa [Value.ownBlock] using e
       rcases hg8 with h | h
       ·exact HOF.out (h.trans (by rw [e2]))
       ·have h5:=Qaa HF7.out
        rw [xI] at h
        omega
def Zlb:ByteArray:=⟨#[109,111,100,117,108,101,32,65,32,116,121,112,101,32,84,32,61,32,91,66,46,85,93]⟩
def Zlc:ByteArray:=⟨#[109,111,100,117,108,101,32,66,32,116,121,112,101,32,85,32,61,32,73,110,116,32,116,121,112,101,32,86,32,61,32,86]⟩
def Ql7:Tr:=((Qhd 200 Zlb).getD (Qiw,0,0)).1
def Ql8:Tr:=((Qhd 200 Zlc).getD (Qiw,0,0)).1
theorem Zld:Qhd 200 Zlb=some (Ql7,0,0):=by kernel_rfl
theorem Zle:Qhd 200 Zlc=some (Ql8,0,0):=by kernel_rfl
theorem Zj1:Qhs (Qbp [Ql7,Ql8])=true:=by kernel_rfl
theorem Zd0:Qbh (Qbp [Ql7,Ql8])=true:=by kernel_rfl
theorem Zg6:Qam [Ql7,Ql8] = 9:=by kernel_rfl
theorem Zlf:Qah Ql7=4:=by kernel_rfl
theorem Zlg:Qah Ql8=5:=by kernel_rfl
def Qhr (x:ByteArray):Tr:=.mk 9 x [] []
theorem Zhm:Qcm [Ql7,Ql8] 0 (Qhr ⟨#[84]⟩)=(0,1,5):=by kernel_rfl
theorem Zlh:Qcm [Ql7,Ql8] 1 (Qhr ⟨#[86]⟩)=(19,0,0):=by kernel_rfl
theorem Zli:Qqn [Ql7,Ql8] 1 1=true:=by kernel_rfl
theorem Zlj:Qqn [Ql7,Ql8] 1 0=false:=by kernel_rfl
theorem ex_of {ps:List Tr} {m:Int} {t:Tr} {n:Nat} {k:Int} (h:Qcm ps m t=(0,n,k)):exT ps m t=Qcl n (Qbu k):=by
 have h1:(Qcm ps m t).1=0:=by rw [h]
 rw [Qqk h1,h]
theorem Zg7 (k:Int):Qcl 1 (Qbu k) = .mk 8 ⟨#[]⟩ [] [Qbu k]:=by rw [Qcl,Qcl]
theorem Zlk:exT [Ql7,Ql8] 0 (Qhr ⟨#[84]⟩) = .mk 8 ⟨#[]⟩ [] [Qbu 5]:=(ex_of Zhm).trans (Zg7 5)
theorem Zll:∀ t∈[Ql7,Ql8],Qah t≤1000:=fun t ht=>by
 rcases List.mem_cons.1 ht with h | h
 ·rw [h,Zlf];decide
 ·rw [List.mem_singleton.1 h,Zlg];decide
theorem Zj2:∃ a b:Tr,Qhd 200 ⟨#[109,111,100,117,108,101,32,65,32,116,121,112,101,32,84,32,61,32,91,66,46,85,93]⟩=some (a,0,0)∧Qhd 200 ⟨#[109,111,100,117,108,101,32,66,32,116,121,112,101,32,85,32,61,32,73,110,116,32,116,121,112,101,32,86,32,61,32,86]⟩=some (b,0,0)∧Qhs (Qbp [a,b])=true∧Qbh (Qbp [a,b])=true∧Qam [a,b]≤90000∧(∀ t∈[a,b],Qah t≤1000)∧Qcm [a,b] 0 (Qhr ⟨#[84]⟩)=(0,1,5)∧Qcm [a,b] 1 (Qhr ⟨#[86]⟩)=(19,0,0)∧Qqn [a,b] 1 1=true∧Qqn [a,b] 1 0=false∧exT [a,b] 0 (Qhr ⟨#[84]⟩) = .mk 8 ⟨#[]⟩ [] [Qbu 5] :=
 ⟨Ql7,Ql8,Zld,Zle,Zj1,Zd0,by rw [Zg6];decide,Zll,Zhm,Zlh,Zli,Zlj,Zlk⟩
theorem Qpg (x:ByteArray):Qbg (Qhr x)=true:=by unfold Qhr;rw [Qbg,Qdf];rfl
theorem Qst (x:ByteArray):Qah (Qhr x)≤1000:=by unfold Qhr;rw [Qah,Qam];decide
theorem Qph {x:ByteArray} (h:x.size<maxLen):Qbh (Qhr x)=true:=Qhp h (fun t ht=>by simp at ht)
theorem Qsu (w:World):Calls Tryz.prog 13 #[] w fun e w'=>e = .returned (.bool true)∧Below w.heap.size w w':=by
 obtain ⟨a,b,hpa,hpb,hf,hw,hz,hzs,hf1,hf2,hc1,hc0,hex⟩:=Zj2
 have HPA:=hQ hpa
 have HPB:=hQ hpb
 have HF:=hQ hf
 have HW:=hQ hw
 have HZ:=hQ hz
 have HZS:=hQ hzs
 have HF1:=hQ hf1
 have HF2:=hQ hf2
 have HC1:=hQ hc1
 have HC0:=hQ hc0
 have HEX:=hQ hex
 have HSA:=hQ (show (⟨#[109,111,100,117,108,101,32,65,32,116,121,112,101,32,84,32,61,32,91,66,46,85,93]⟩:ByteArray).size≤maxLen from Nat.le_of_ble_eq_true rfl)
 have HSB:=hQ (show (⟨#[109,111,100,117,108,101,32,66,32,116,121,112,101,32,85,32,61,32,73,110,116,32,116,121,112,101,32,86,32,61,32,86]⟩:ByteArray).size≤maxLen from Nat.le_of_ble_eq_true rfl)
 have HNT:=hQ (Qph (x:=⟨#[84]⟩) (Nat.lt_of_le_of_lt (show _≤1 from xA _) (by unfold maxLen;omega)))
 have HNV:=hQ (Qph (x:=⟨#[86]⟩) (Nat.lt_of_le_of_lt (show _≤1 from xA _) (by unfold maxLen;omega)))
 clear hpa hpb hf hw hz hzs hf1 hf2 hc1 hc0 hex
 go_enter Tryz.func13,Tryz.ntmps13
 go_wp2_with fail
 go_at_call 26
 refine (Qrc (n:=200) (Nat.le_of_ble_eq_true rfl) _ HSA.out HPA.out).mono ?_
 rintro e w1 ⟨va,rfl,hta,hb1⟩
 obtain ⟨ak,ax,ala,all',alc,aka,akl,akc⟩:=va
 have HTA:=hQ hta
 have HB1:=hQ hb1
 have HBA:=hQ (Qc3 w1 (trO ⟨ak,ax,ala,all',alc,aka,akl,akc⟩))
 have HXA:=hQ (xH w1 (trO ⟨ak,ax,ala,all',alc,aka,akl,akc⟩))
 clear hta hb1
 go_wp2_with fail
 go_at_call 26
 refine (Qrc (n:=200) (Nat.le_of_ble_eq_true rfl) _ HSB.out HPB.out).mono ?_
 rintro e w2 ⟨vb,rfl,htb,hb2⟩
 obtain ⟨bk,bx,bla,bll,blc,bka,bkl,bkc⟩:=vb
 have HTB:=hQ htb
 have HB2:=hQ hb2
 have HXA2:=hQ ((hb2.block _ (Qaa HXA.out)).trans HXA.out)
 have HB12:=hQ (HBA.out.trans (hb2.mono HBA.out.size))
 have a0:w2.cell? ⟨w1.heap.size,0,none⟩=some (.int .i64 ak):=Qab HXA2.out 0 _ rfl
 have a1:w2.cell? ⟨w1.heap.size,1,none⟩=some (.string ax):=Qab HXA2.out 1 _ rfl
 have a2:w2.cell? ⟨w1.heap.size,2,none⟩=some (.slice ala all' alc):=Qab HXA2.out 2 _ rfl
 have a3:w2.cell? ⟨w1.heap.size,3,none⟩=some (.slice aka akl akc):=Qab HXA2.out 3 _ rfl
 have al:=Qaa HXA2.out
 clear htb hb2
 go_wp2_with fail
 go_at_call 14
 obtain ⟨W3,hW3⟩:∃ W3,W3=(w2.alloc (.cells #[.int .i64 bk,.string bx,.slice bla bll blc,.slice bka bkl bkc] 25)).alloc (.cells #[.int .i64 ak,.string ax,.slice ala all' alc,.slice aka akl akc,.int .i64 bk,.string bx,.slice bla bll blc,.slice bka bkl bkc] 25):=⟨_,rfl⟩
 rw [←hW3]
 have hrow3:W3.heap[w2.heap.size+1]? = some (.cells #[.int .i64 ak,.string ax,.slice ala all' alc,.slice aka akl akc,.int .i64 bk,.string bx,.slice bla bll blc,.slice bka bkl bkc] 25 (0,0)):=by rw [hW3];exact (Qet w2 _ _).2
 have hb3:Below w2.heap.size w2 W3:=by rw [hW3];exact Qfx w2 _ _
 have HB3:=hQ hb3
 have HTA3:=hQ (HTA.out.keep (HB12.out.trans (hb3.mono HB12.out.size)))
 have HTB3:=hQ (HTB.out.keep hb3)
 have HLA:=hQ (show ∀ k,(w.heap.size≤k∧k<w1.heap.size)→k<W3.heap.size from fun k h=>xE h.2 (xQ HB12.out.size hb3.size))
 have HLB:=hQ (show ∀ k,((w1.alloc (trO ⟨ak,ax,ala,all',alc,aka,akl,akc⟩)).heap.size≤k∧k<w2.heap.size)→k<W3.heap.size from fun k h=>xE h.2 hb3.size)
 have HR3:=hQ (Zg5 HTA3.out HTB3.out HLA.out HLB.out hrow3)
 have HBW:=hQ (HB1.out.trans ((HB12.out.trans (hb3.mono HB12.out.size)).mono HB1.out.size))
 clear hrow3 hb3 hW3 a0 a1 a2 a3 al
 refine (Qo5 _ (fun _=>False) (some ⟨w2.heap.size+1,0,none⟩) 2 [a,b] 0 (Qhr ⟨#[84]⟩) ⟨9,⟨#[84]⟩,none,0,0,none,0,0⟩ W3 HR3.out HF.out HW.out HZS.out HZ.out (Qju _ _ _ _) (Qpg _) HNT.out (Qst _)).mono ?_
 rintro e w4 ⟨u,rfl,hu,hb4⟩
 rw [HEX.out] at hu
 rw [HF1.out]
 have q1:=hu.kl.1
 have q3:=hu.kl.2.2.1
 obtain ⟨g,o,hka⟩:∃ b off,u.ka=some ⟨b,off,none⟩:=hu.addr.resolve_left (by simp [Tr.kids])
 obtain ⟨kv,k0,j1,j2,j3,hkv⟩:=hu.at (j:=0) hka rfl
 have q4:=hkv.kl.2.2.1
 clear j1 j2 j3
 obtain ⟨uk,ux,ula,ull,ulc,uka,ukl,ukc⟩:=u
 simp only at q1 q3 hka
 subst hka
 have e1:ukl=1:=q1
 have e3:uk=8:=q3
 have e4:kv.kind=5:=q4
 subst e1 e3
 rw [e4] at k0
 simp only [Nat.zero_mul,Nat.add_zero] at k0
 have kl:=xK w4 _ k0
 have HB4:=hQ hb4
 have HX4:=hQ (xH w4 (trO ⟨8,ux,ula,ull,ulc,some ⟨g,o,none⟩,1,ukc⟩))
 have HB4A:=hQ (hb4.alloc hb4.size (trO ⟨8,ux,ula,ull,ulc,some ⟨g,o,none⟩,1,ukc⟩))
 have HK4:=hQ k0
 have HKL:=hQ kl
 clear hu hb4 hkv q4 e4 q1 q3 k0 kl
 go_wp2_with fail
 go_at_call 14
 refine (Qo5 _ (fun _=>False) (some ⟨w2.heap.size+1,0,none⟩) 2 [a,b] 1 (Qhr ⟨#[86]⟩) ⟨9,⟨#[86]⟩,none,0,0,none,0,0⟩ _ (HR3.out.keep HB4A.out) HF.out HW.out HZS.out HZ.out (Qju _ _ _ _) (Qpg _) HNV.out (Qst _)).mono ?_
 rintro e w5 ⟨u2,rfl,hu2,hb5⟩
 clear hu2
 rw [HF2.out]
 have HB5:=hQ (HB4A.out.trans (hb5.mono HB4A.out.size))
 have HX5:=hQ ((hb5.block _ (Qaa HX4.out)).trans HX4.out)
 have HK5:=hQ (Qcu hb5 (by rw [xI];exact Nat.lt_succ_of_lt HKL.out) (Qcu (Qc3 w4 (trO ⟨8,ux,ula,ull,ulc,some ⟨g,o,none⟩,1,ukc⟩)) HKL.out HK4.out))
 have x0:w5.cell? ⟨w4.heap.size,0,none⟩=some (.int .i64 8):=Qab HX5.out 0 _ rfl
 have x3:w5.cell? ⟨w4.heap.size,3,none⟩=some (.slice (some ⟨g,o,none⟩) 1 ukc):=Qab HX5.out 3 _ rfl
 have xl:=Qaa HX5.out
 have k0:w5.cell? ⟨g,o,none⟩=some (.int .i64 5):=HK5.out
 have kl:=xK w5 _ k0
 have HB5A:=hQ (HB5.out.alloc HB5.out.size (trO u2))
 have HCA:=hQ (fun w' (hb:Below W3.heap.size W3 w')=>Qlw _ (some ⟨w2.heap.size+1,0,none⟩) 2 [a,b] 1 1 w' (HR3.out.keep hb) HF.out HW.out HZS.out HZ.out (Qjl (n:=1) (by omega)) (Qjl (n:=1) (by omega)))
 have HCB:=hQ (fun w' (hb:Below W3.heap.size W3 w')=>Qlw _ (some ⟨w2.heap.size+1,0,none⟩) 2 [a,b] 1 0 w' (HR3.out.keep hb) HF.out HW.out HZS.out HZ.out (Qjl (n:=1) (by omega)) (Qjl (n:=0) (by omega)))
 rw [HC1.out] at HCA
 rw [HC0.out] at HCB
 clear hb5
 go_wp2_with (first
  | (go_at_call 17;refine (HCA.out _ HB5A.out).mono ?_;rintro e w6 ⟨rfl,hb⟩;have HB6:=hQ (HB5A.out.trans (hb.mono HB5A.out.size));clear hb HCA)
  | (go_at_call 17;refine (HCB.out _ HB6.out).mono ?_;rintro e w7 ⟨rfl,hb⟩;have HB7:=hQ (HB6.out.trans (hb.mono HB6.out.size));clear hb HCB))
 go_ret
 exact ⟨rfl,HBW.out.trans (HB7.out.mono HBW.out.size)⟩
end Go.Proofs.YtclkilljmdkfaaaGreat
