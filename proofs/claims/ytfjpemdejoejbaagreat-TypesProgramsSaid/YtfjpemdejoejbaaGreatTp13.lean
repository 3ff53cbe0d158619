/- Part 13 -/
import Derived.Test.YtfjpemdejoejbaaGreatTp12
set_option maxRecDepth 100000
set_option maxHeartbeats 4000000
namespace Go.Proofs.YtfjpemdejoejbaaGreat
open Go.Proofs.Tryz Go.RowKit
mutual
def Qbg:Tr->Bool
 | .mk _ x ls ks=>decide (x.size<maxLen) && ls.all (fun y=>decide (y.size<maxLen)) && Qjp ks
def Qjp:List Tr->Bool
 | []=>true
 | t :: r=>Qbg t && Qjp r
end
theorem Qov:(l:List Tr)->(j:Nat)->(k:Tr)->Qjp l=true->l[j]? = some k->Qbg k=true
 | [],j,k,_,h=>by simp at h
 | a :: r,j,k,hs,h=>by
  unfold Qjp at hs;rw[Bool.and_eq_true]at hs;cases j with
  | zero=>simp at h;subst h;exact hs.1
  | succ j=>exact Qov r j k hs.2 (by simpa using h)
theorem Qa7{t:Tr}(h:Qbg t=true):t.text.size<maxLen/\(∀ y∈t.leads,y.size<maxLen)/\∀ (j:Nat) (k:Tr),t.kids[j]? = some k->Qbg k=true:=by
 cases t with
 | mk kd tx ls ks =>
  unfold Qbg at h;simp only[Bool.and_eq_true,decide_eq_true_eq,List.all_eq_true]at h;exact⟨h.1.1,h.1.2,fun j k hk=>Qov ks j k h.2 hk⟩
def KSl(S:Nat->Prop)(w:World)(b o:Nat)(ks:List Tr):Prop:=ks≠[]->TrsAt S w b o ks
theorem TrsAt.drop{S:Nat->Prop}{w:World}{b:Nat}:(l:List Tr)->(o c:Nat)->TrsAt S w b o l->TrsAt S w b (o+c*4) (l.drop c)
 | [],o,c,h=>by rw[List.drop_nil];trivial
 | a :: r,o,0,h=>by simpa using h
 | a :: r,o,c+1,h=>by
  unfold TrsAt at h;obtain⟨v,_,_,_,_,_,hr⟩:=h;rw[List.drop_succ_cons,show o+(c+1)*4=o+4+c*4 from by omega];exact TrsAt.drop r (o+4) c hr
theorem TrsAt.keep{S:Nat->Prop}{w w':World}{b o:Nat}{l:List Tr}(h:TrsAt S w b o l)(hb:Below w.heap.size w w'):TrsAt S w' b o l:=by
 refine TrsAt.of l o fun i t ht=>?_
 obtain⟨v,c0,c1,c2,c3,hv⟩:=TrsAt.get l o h i t ht;have hlt:b<w.heap.size:=xK w _ c0;have hk:∀ p,w'.cell? ⟨b,p,none⟩=w.cell? ⟨b,p,none⟩:=fun p=>xJ (w:=w) (a:=⟨b,p,none⟩) (hb.block b hlt)
 exact⟨v,(hk _).trans c0,(hk _).trans c1,(hk _).trans c2,(hk _).trans c3,hv.keep hb⟩
theorem TrAt.trs{S:Nat->Prop}{w:World}{t:Tr}{v:TV}{b off:Nat}(h:TrAt S w t v)(hA:v.ka=some ⟨b,off,none⟩)(hne:t.kids≠[]):TrsAt S w b off t.kids:=by
 cases t with
 | mk kd tx ls ks =>
  unfold TrAt at h;obtain⟨b',off',hA',_,hc⟩:=h.2.2.2.2.2.1 hne;rw[hA]at hA';injection hA' with e;injection e with e1 e2 _;subst e1 e2;exact hc
theorem Qt0(x:Part)(l:List Part)(n:Int):Qer (x :: l) n=List.replicate (Qb9 x n).toNat x.kids ++ Qer l n:=by rw[Qer]
theorem Qro{ks:List Tr}{d i c:Nat}{k:Tr}{s:Int}{rest:List Int}(hk:ks[d+i]? = some k)(hi:i<c):Qej (ks.drop (d+i)) (List.replicate (c-i) s ++ rest)=(Qfd s k.kind && Qam k && Qej (ks.drop (d+(i+1))) (List.replicate (c-(i+1)) s ++ rest)):=by
 obtain⟨hl,he⟩:=xP.1 hk;rw[List.drop_eq_getElem_cons hl,he,show c-i=(c-(i+1))+1 from by omega,List.replicate_succ,xV,Ql7];rfl
theorem Qt1{N:Nat}(ih:∀ (S:Nat->Prop) (t:Tr) (v:TV) (w:World),SizeOf.sizeOf t<=N->TrAt S w t v->Qbs t=true->Qbg t=true ->
   Calls prog 62 #[.agg #[.int .i64 v.kind,.string v.text,.slice v.la v.ll v.lc,.slice v.ka v.kl v.kc]] w fun e w'=>e = .returned (.bool (Qam t))/\Below w.heap.size w w')
  (S:Nat->Prop) (t:Tr) (vk:Int) (vx:yD) (vla:yE) (vll vlc b0 off0 vkc:Nat) (w:World) (hN:SizeOf.sizeOf t<=N+1) (h:TrAt S w t ⟨vk,vx,vla,vll,vlc,some ⟨b0,off0,none⟩,t.kids.length,vkc⟩) (hs:Qbs t=true) (hw:Qbg t=true) (hcap:t.kids.length<=vkc) (hne:t.kids≠[]) :
  Calls prog 62 #[.agg #[.int .i64 vk,.string vx,.slice vla vll vlc,.slice (some ⟨b0,off0,none⟩) t.kids.length vkc]] w fun e w'=>e = .returned (.bool (Qam t))/\Below w.heap.size w w':=by
 obtain⟨_,hk1,hk2⟩:=Qcc hs;obtain⟨htx,hly,hkw⟩:=Qa7 hw;obtain⟨hv1,hv2,hvk,hvx⟩:=h.kl;clear hv1 hv2;simp only at hvk hvx;subst hvk hvx;have HT:=hQ h;have HK2:=hQ hk2;have HKW:=hQ hkw;have HTX:=hQ htx;have HPL:=hQ (Qi6 t.kind);have HKI:=hQ (show(t.kids.length:Int)<=140737488355328 from by omega);have HIH:=hQ ih;have HCAP:=hQ hcap;have HKE:=hQ hne;have HSZ:=hQ hN;have HW0:=hQ ((xC w.heap.size w).alloc (xA _) (.cells #[.int .i64 t.kind,.string t.text,.slice vla vll vlc,.slice (some ⟨b0,off0,none⟩) t.kids.length vkc] 25));have HG0:=hQ (xH w (.cells #[.int .i64 t.kind,.string t.text,.slice vla vll vlc,.slice (some ⟨b0,off0,none⟩) t.kids.length vkc] 25));have HSE:=hQ (Qi8 t);have hkk:(t.kids.length:Int)<=140737488355328:=by omega
 generalize hfp:Qca (Qae t.kind) t.kids.length=fr at HSE;have HFE:=hQ hfp;obtain⟨n,ok⟩:=fr;clear h hs hw hk1 hk2 htx hly hkw ih hcap hne hN hfp
 cases ok
 ·have HR:=hQ (show Qam t=false from by rw[HSE.out];rfl);go_enter func62,ntmps62;go_wp2_with fail;go_at_call 83;refine(Qgs t.kind _).mono ?_;rintro e w1⟨A,c,rfl,hp,hb⟩;have HP:=hQ hp;have HB1:=hQ (yC HW0.out hb);have HG1:=hQ ((hb.block w.heap.size (by simp)).trans HG0.out);clear hp hb;have k0:w1.cell? ⟨w.heap.size,0,none⟩=some (.int .i64 t.kind):=Qab HG1.out 0 _ rfl;have k1:w1.cell? ⟨w.heap.size,1,none⟩=some (.string t.text):=Qab HG1.out 1 _ rfl;have k2:w1.cell? ⟨w.heap.size,2,none⟩=some (.slice vla vll vlc):=Qab HG1.out 2 _ rfl;have k3:w1.cell? ⟨w.heap.size,3,none⟩=some (.slice (some ⟨b0,off0,none⟩) t.kids.length vkc):=Qab HG1.out 3 _ rfl;go_wp2_with fail;go_at_call 94;refine(Qi7 A c _ t.kids.length _ HP.out HPL.out HKI.out).mono ?_;rw[HFE.out];rintro e w2⟨rfl,hb2⟩;have HB2:=hQ (yC HB1.out hb2);have HG2:=hQ ((hb2.block w.heap.size (Qaa HG1.out)).trans HG1.out);have HP2:=hQ (HP.out.keep hb2);clear hb2 k0 k1 k2 k3;have k0:w2.cell? ⟨w.heap.size,0,none⟩=some (.int .i64 t.kind):=Qab HG2.out 0 _ rfl;have k1:w2.cell? ⟨w.heap.size,1,none⟩=some (.string t.text):=Qab HG2.out 1 _ rfl;have k2:w2.cell? ⟨w.heap.size,2,none⟩=some (.slice vla vll vlc):=Qab HG2.out 2 _ rfl;have k3:w2.cell? ⟨w.heap.size,3,none⟩=some (.slice (some ⟨b0,off0,none⟩) t.kids.length vkc):=Qab HG2.out 3 _ rfl;go_wp2;go_ret;exact⟨by rw[HR.out];rfl,HB2.out⟩
 ·cases hnm:Qba (Qae t.kind) t.text
  ·have HNE:=hQ hnm;have HR:=hQ (show Qam t=false from by rw[HSE.out,hnm];rfl);clear hnm;go_enter func62,ntmps62;go_wp2_with fail;go_at_call 83;refine(Qgs t.kind _).mono ?_;rintro e w1⟨A,c,rfl,hp,hb⟩;have HP:=hQ hp;have HB1:=hQ (yC HW0.out hb);have HG1:=hQ ((hb.block w.heap.size (by simp)).trans HG0.out);clear hp hb;have k0:w1.cell? ⟨w.heap.size,0,none⟩=some (.int .i64 t.kind):=Qab HG1.out 0 _ rfl;have k1:w1.cell? ⟨w.heap.size,1,none⟩=some (.string t.text):=Qab HG1.out 1 _ rfl;have k2:w1.cell? ⟨w.heap.size,2,none⟩=some (.slice vla vll vlc):=Qab HG1.out 2 _ rfl;have k3:w1.cell? ⟨w.heap.size,3,none⟩=some (.slice (some ⟨b0,off0,none⟩) t.kids.length vkc):=Qab HG1.out 3 _ rfl;go_wp2_with fail;go_at_call 94;refine(Qi7 A c _ t.kids.length _ HP.out HPL.out HKI.out).mono ?_;rw[HFE.out];rintro e w2⟨rfl,hb2⟩;have HB2:=hQ (yC HB1.out hb2);have HG2:=hQ ((hb2.block w.heap.size (Qaa HG1.out)).trans HG1.out);have HP2:=hQ (HP.out.keep hb2);clear hb2 k0 k1 k2 k3;have k0:w2.cell? ⟨w.heap.size,0,none⟩=some (.int .i64 t.kind):=Qab HG2.out 0 _ rfl;have k1:w2.cell? ⟨w.heap.size,1,none⟩=some (.string t.text):=Qab HG2.out 1 _ rfl;have k2:w2.cell? ⟨w.heap.size,2,none⟩=some (.slice vla vll vlc):=Qab HG2.out 2 _ rfl;have k3:w2.cell? ⟨w.heap.size,3,none⟩=some (.slice (some ⟨b0,off0,none⟩) t.kids.length vkc):=Qab HG2.out 3 _ rfl;go_wp2_with fail;go_at_call 95;refine(Qkm A c _ ⟨t.kind,t.text,vla,vll,vlc,some ⟨b0,off0,none⟩,t.kids.length,vkc⟩ _ HP2.out HPL.out (Qit _) HTX.out).mono ?_;rw[HNE.out];rintro e w3⟨rfl,hb3⟩;have HB3:=hQ (yC HB2.out hb3);have HP3:=hQ (HP2.out.keep hb3);have HG3:=hQ ((hb3.block w.heap.size (Qaa HG2.out)).trans HG2.out);clear hb3 k0 k1 k2 k3;go_wp2;go_ret;exact⟨by rw[HR.out];rfl,HB3.out⟩
  ·have HNE:=hQ hnm;have HR:=hQ (show Qam t=Qej t.kids (Qer (Qae t.kind) n) from by rw[HSE.out,hnm];rfl);have hfs:=Qvj (kd:=t.kind) (k:=t.kids.length) (by rw[HFE.out]);rw[HFE.out]at hfs;have hn0:0<=n:=hfs.1;have HN0:=hQ hn0;have HSUM:=hQ (show Qvi (Qae t.kind) n=t.kids.length from hfs.2);have HPN:=hQ (show Qae t.kind≠[] from(Qqf _ _ (show(Qca (Qae t.kind) t.kids.length).2=true from by rw[HFE.out])).2.2);clear hnm hfs hn0;go_enter func62,ntmps62;go_wp2_with fail;go_at_call 83;refine(Qgs t.kind _).mono ?_;rintro e w1⟨A,c,rfl,hp,hb⟩;have HP:=hQ hp;have HB1:=hQ (yC HW0.out hb);have HG1:=hQ ((hb.block w.heap.size (by simp)).trans HG0.out);clear hp hb;have k0:w1.cell? ⟨w.heap.size,0,none⟩=some (.int .i64 t.kind):=Qab HG1.out 0 _ rfl;have k1:w1.cell? ⟨w.heap.size,1,none⟩=some (.string t.text):=Qab HG1.out 1 _ rfl;have k2:w1.cell? ⟨w.heap.size,2,none⟩=some (.slice vla vll vlc):=Qab HG1.out 2 _ rfl;have k3:w1.cell? ⟨w.heap.size,3,none⟩=some (.slice (some ⟨b0,off0,none⟩) t.kids.length vkc):=Qab HG1.out 3 _ rfl;go_wp2_with fail;go_at_call 94;refine(Qi7 A c _ t.kids.length _ HP.out HPL.out HKI.out).mono ?_;rw[HFE.out];rintro e w2⟨rfl,hb2⟩;have HB2:=hQ (yC HB1.out hb2);have HG2:=hQ ((hb2.block w.heap.size (Qaa HG1.out)).trans HG1.out);have HP2:=hQ (HP.out.keep hb2);clear hb2 k0 k1 k2 k3;have k0:w2.cell? ⟨w.heap.size,0,none⟩=some (.int .i64 t.kind):=Qab HG2.out 0 _ rfl;have k1:w2.cell? ⟨w.heap.size,1,none⟩=some (.string t.text):=Qab HG2.out 1 _ rfl;have k2:w2.cell? ⟨w.heap.size,2,none⟩=some (.slice vla vll vlc):=Qab HG2.out 2 _ rfl;have k3:w2.cell? ⟨w.heap.size,3,none⟩=some (.slice (some ⟨b0,off0,none⟩) t.kids.length vkc):=Qab HG2.out 3 _ rfl;go_wp2_with fail;go_at_call 95;refine(Qkm A c _ ⟨t.kind,t.text,vla,vll,vlc,some ⟨b0,off0,none⟩,t.kids.length,vkc⟩ _ HP2.out HPL.out (Qit _) HTX.out).mono ?_;rw[HNE.out];rintro e w3⟨rfl,hb3⟩;have HB3:=hQ (yC HB2.out hb3);have HP3:=hQ (HP2.out.keep hb3);have HG3:=hQ ((hb3.block w.heap.size (Qaa HG2.out)).trans HG2.out);clear hb3 k0 k1 k2 k3;obtain⟨pk,pcs,rfl,_,hph,hpc⟩:=HP3.out HPN.out;have HPH:=hQ hph;have HPC:=hQ hpc;have HT3:=hQ (HT.out.keep HB3.out);clear hph hpc;have k0:w3.cell? ⟨w.heap.size,0,none⟩=some (.int .i64 t.kind):=Qab HG3.out 0 _ rfl;have k1:w3.cell? ⟨w.heap.size,1,none⟩=some (.string t.text):=Qab HG3.out 1 _ rfl;have k2:w3.cell? ⟨w.heap.size,2,none⟩=some (.slice vla vll vlc):=Qab HG3.out 2 _ rfl;have k3:w3.cell? ⟨w.heap.size,3,none⟩=some (.slice (some ⟨b0,off0,none⟩) t.kids.length vkc):=Qab HG3.out 3 _ rfl;go_wp2_with fail;clear k0 k1 k2 k3
   go_loopg [6,34] (Qae t.kind).length (fun g u6 u34 wr=>∃ (j d m o cap:Nat),u6 = .slice (some ⟨b0,o,none⟩) m cap/\u34 = .int .i64 j/\j+g=(Qae t.kind).length/\d+m=t.kids.length/\m<=cap/\KSl S w3 b0 o (t.kids.drop d)/\Qvi ((Qae t.kind).drop j) n=m/\Qam t=Qej (t.kids.drop d) (Qer ((Qae t.kind).drop j) n)/\Below w3.heap.size w3 wr)
   case atStart=>exact⟨0,0,t.kids.length,off0,vkc,rfl,rfl,by omega,by omega,HCAP.out,fun _=>HT3.out.trs rfl HKE.out,HSUM.out,HR.out,xC _ _⟩
   case round =>
    obtain⟨j,d,m,o,cap,rfl,rfl,hj,hd,hm,hks,hsm,hsh,hb⟩:=hrel;have HJ:=hQ hj;have HD:=hQ hd;have HM:=hQ hm;have HKS:=hQ hks;have HSM:=hQ hsm;have HSH:=hQ hsh;have HBR:=hQ hb;clear hj hd hm hks hsm hsh hb
    by_cases hlt:j<(Qae t.kind).length
    ·obtain⟨x,hx⟩:∃ x,(Qae t.kind)[j]? = some x:=⟨_,xF hlt⟩;have hpc:=Qkk ((HBR.out.block pk (Qaa HPH.out)).trans HPH.out) HPC.out j x hx;obtain⟨hjl,hje⟩:=xP.1 hx;have hsm:=HSM.out;have hsh:=HSH.out;rw[List.drop_eq_getElem_cons hjl,hje]at hsm hsh;rw[Qvi]at hsm;rw[Qt0]at hsh;have hc0:=Qkn x n HN0.out;have hr0:=Qm7 ((Qae t.kind).drop (j+1)) n HN0.out;obtain⟨cn,hcn⟩:∃ cn:Nat,Qb9 x n=cn:=⟨(Qb9 x n).toNat,by omega⟩;rw[hcn]at hsm hsh;rw[Int.toNat_natCast]at hsh;have HCN:=hQ hcn;have HSUM2:=hQ hsm;have HSH2:=hQ hsh;have HCM:=hQ (show cn<=m from by omega);have hj0:(0:Int)<=(j:Int):=by omega
     have hj1:(j:Int)<((Qae t.kind).length:Int):=by omega
     have hj2:(j:Int)+1<=10:=by have:=HPL.out;omega
     have hcc0:(0:Int)<=(cn:Int):=by omega
     have hcc1:(cn:Int)<=(m:Int):=by omega
     have hcc2:(cn:Int)<=(cap:Int):=by have:=HM.out;omega
     have hcc3:(m:Int)<=(cap:Int):=by have:=HM.out;omega
     have hcc4:(cn:Int)<=140737488355328:=by have:=HD.out;omega
     have HLT:=hQ hlt;obtain⟨go,hgo⟩:∃ go,go=gk:=⟨_,rfl⟩;have HGO:=hQ hgo;clear hx hjl hje hsm hsh hc0 hr0 hcn hgo;obtain⟨wd,nm,kd,lst,mst,se,co⟩:=x;obtain⟨p0,p1,p2,p3,p4,p5,p6⟩:=hpc;have HX0:=hQ (xH wr (.cells #[.string wd,fnV nm,.int .i64 kd,.int .i64 lst,.int .i64 mst,.bool se,.bool co] 132));have HBX:=hQ (HBR.out.alloc HBR.out.size (.cells #[.string wd,fnV nm,.int .i64 kd,.int .i64 lst,.int .i64 mst,.bool se,.bool co] 132));go_wp2_with fail;go_at_call 96;refine(Qkl ⟨wd,nm,kd,lst,mst,se,co⟩ n _).mono ?_;rw[HCN.out];rintro e w4⟨rfl,hb4⟩;have HX4:=hQ ((hb4.block wr.heap.size (by simp)).trans HX0.out);have HB4:=hQ (yC HBX.out hb4);clear hb4 p0 p1 p2 p3 p4 p5 p6;go_wp2_with fail;generalize hxb:wr.heap.size=xb at HX4
     go_loopg [44] cn (fun g u44 wi=>∃ i:Nat,u44 = .int .i64 i/\i+g=cn/\Qam t=Qej (t.kids.drop (d+i)) (List.replicate (cn-i) kd ++ Qer ((Qae t.kind).drop (j+1)) n)/\Below w4.heap.size w4 wi)
     case atStart=>exact⟨0,rfl,by omega,HSH2.out,xC _ _⟩
     case round =>
      obtain⟨i,rfl,hi,hsi,hbi⟩:=hrel;have HI:=hQ hi;have HSI0:=hQ hsi;have HBI:=hQ hbi;clear hi hsi hbi;have HXI:=hQ ((HBI.out.block xb (Qaa HX4.out)).trans HX4.out)
      by_cases hil:i<cn
      ·have hdi:d+i<t.kids.length:=by have:=HD.out;have:=HCM.out;omega
       obtain⟨k,hk⟩:∃ k,t.kids[d+i]? = some k:=⟨_,xF hdi⟩;have htr:=(HKS.out (by intro e;have:=congrArg List.length e;rw[List.length_drop,xG]at this;omega)).keep (yC HB4.out HBI.out);obtain⟨u,c0,c1,c2,c3,hu⟩:=TrsAt.get _ _ htr i k (by rw[List.getElem?_drop];exact hk);have HU:=hQ hu;have hst:=Qro (s:=kd) (rest:=Qer ((Qae t.kind).drop (j+1)) n) hk hil;have HST:=hQ (HSI0.out.trans hst);have HSK:=hQ (HK2.out _ k hk);have HWK:=hQ (HKW.out _ k hk);have HZK:=hQ (show SizeOf.sizeOf k<=N from by have:=Zfx hk;have:=HSZ.out;omega);have huk:=hu.kl.2.2.1;have HUK:=hQ huk;have hi0:(0:Int)<=(i:Int):=by omega
       have hi1:(i:Int)<(cn:Int):=by omega
       have hi2:(i:Int)+1<=140737488355328:=by omega
       have HIL:=hQ hil;have HGU:=hQ (xH wr (.cells #[.int .i64 u.kind,.string u.text,.slice u.la u.ll u.lc,.slice u.ka u.kl u.kc] 25));have HBU:=hQ (HBI.out.alloc HBI.out.size (.cells #[.int .i64 u.kind,.string u.text,.slice u.la u.ll u.lc,.slice u.ka u.kl u.kc] 25));clear hk htr hu hst hdi huk;obtain⟨x0,x1,x2,x3,x4,x5,x6⟩:=Qb1 (x:=⟨wd,nm,kd,lst,mst,se,co⟩) HXI.out;have xlt:=Qaa HXI.out
       cases hh:Qfd kd u.kind
       ·have HRR:=hQ (show Qam t=false from by rw[HST.out,<-HUK.out,hh];rfl);go_wp2_with fail;go_at_call 97;refine(Qhb kd u.kind _).mono ?_;rw[hh];rintro e w5⟨rfl,rfl⟩;go_wp2;go_ret;exact⟨by rw[HRR.out];rfl,HB3.out.trans ((yC HB4.out HBU.out).mono HB3.out.size)⟩
       ·cases hsk:Qam k
        ·have HRR:=hQ (show Qam t=false from by rw[HST.out,<-HUK.out,hh,hsk];rfl);go_wp2_with fail;go_at_call 97;refine(Qhb kd u.kind _).mono ?_;rw[hh];rintro e w5⟨rfl,rfl⟩;go_wp2_with fail;go_at_call 62;refine(HIH.out S k u _ HZK.out (HU.out.keep ((xC _ _).alloc (xA _) _)) HSK.out HWK.out).mono ?_;rw[hsk];rintro e w7⟨rfl,hb7⟩;have HB7:=hQ (HB3.out.trans ((HB4.out.trans ((yC HBU.out hb7).mono HB4.out.size)).mono HB3.out.size));clear hb7;go_wp2;go_ret;exact⟨by rw[HRR.out];rfl,HB7.out⟩
        ·have HRR:=hQ (show Qam t=Qej (t.kids.drop (d+(i+1))) (List.replicate (cn-(i+1)) kd ++ Qer ((Qae t.kind).drop (j+1)) n) from by rw[HST.out,<-HUK.out,hh,hsk];rfl);go_wp2_with fail;go_at_call 97;refine(Qhb kd u.kind _).mono ?_;rw[hh];rintro e w5⟨rfl,rfl⟩;go_wp2_with fail;go_at_call 62;refine(HIH.out S k u _ HZK.out (HU.out.keep ((xC _ _).alloc (xA _) _)) HSK.out HWK.out).mono ?_;rw[hsk];rintro e w7⟨rfl,hb7⟩;have HB7:=hQ (yC HBU.out hb7);clear hb7 x0 x1 x2 x3 x4 x5 x6 xlt;go_wp2
         go_roundg (gk-1)
         case measure=>have:=HI.out;have:=HIL.out;omega
         case rel=>exact⟨i+1,by go_num,by have:=HI.out;have:=HIL.out;omega,HRR.out,HB7.out⟩
      ·have HSI:=hQ (show Qam t=Qej (t.kids.drop (d+cn)) (Qer ((Qae t.kind).drop (j+1)) n) from by have h1:=HSI0.out;have h2:i=cn:=(by have:=HI.out;omega);rw[h2,Nat.sub_self,List.replicate_zero,xU]at h1;exact h1);obtain⟨x0,x1,x2,x3,x4,x5,x6⟩:=Qb1 (x:=⟨wd,nm,kd,lst,mst,se,co⟩) HXI.out;go_wp2_with fail;go_at_call 96;refine(Qkl ⟨wd,nm,kd,lst,mst,se,co⟩ n _).mono ?_;rw[HCN.out];rintro e w6⟨rfl,hb6⟩;have HB6:=hQ (HB4.out.trans ((yC HBI.out hb6).mono HB4.out.size));clear hb6 x0 x1 x2 x3 x4 x5 x6
       by_cases hcc:cap=cn
       ·have HCC:=hQ hcc;have hcc':(cap:Int)=(cn:Int):=by omega
        go_wp2
        go_roundg (go-1)
        case measure=>have:=HGO.out;have:=HJ.out;have:=HLT.out;omega
        case rel=>exact⟨j+1,d+cn,m-cn,o,cap-cn,by simp;have:=HCC.out;omega,by go_num,by have:=HGO.out;have:=HJ.out;have:=HLT.out;omega,by have:=HD.out;have:=HCM.out;omega,by have:=HM.out;omega,fun hne=>absurd (List.drop_eq_nil_of_le (by have:=HD.out;have:=HCM.out;have:=HM.out;have:=HCC.out;omega)) hne,by have:=HSUM2.out;have:=HCM.out;omega,HSI.out,HB6.out⟩
       ·have HCC:=hQ hcc;go_wp2
        go_roundg (go-1)
        case measure=>have:=HGO.out;have:=HJ.out;have:=HLT.out;omega
        case rel=>exact⟨j+1,d+cn,m-cn,o+cn*4,cap-cn,rfl,by go_num,by have:=HGO.out;have:=HJ.out;have:=HLT.out;omega,by have:=HD.out;have:=HCM.out;omega,by have:=HM.out;omega,fun hne=>by have h1:=TrsAt.drop _ _ cn (HKS.out (fun e=>hne (by rw[<-List.drop_drop,e,List.drop_nil])));rwa[List.drop_drop]at h1,by have:=HSUM2.out;have:=HCM.out;omega,HSI.out,HB6.out⟩
    ·have hm0:Qvi ((Qae t.kind).drop j) n=0:=by rw[List.drop_eq_nil_of_le (by omega)];rfl
     have HRR:=hQ (show Qam t=true from by rw[HSH.out,List.drop_eq_nil_of_le (show t.kids.length<=d by have:=HSM.out;have:=HD.out;omega),Qjy]);clear hm0;go_wp2;go_ret;exact⟨by rw[HRR.out];rfl,yC HB3.out HBR.out⟩
theorem Qrp
  (S:Nat->Prop) (t:Tr) (vk:Int) (vx:yD) (vla:yE) (vll vlc:Nat) (vka:yE) (vkc:Nat) (w:World) (h:TrAt S w t ⟨vk,vx,vla,vll,vlc,vka,t.kids.length,vkc⟩) (hs:Qbs t=true) (hw:Qbg t=true) (hne:t.kids.length=0) :
  Calls prog 62 #[.agg #[.int .i64 vk,.string vx,.slice vla vll vlc,.slice vka t.kids.length vkc]] w fun e w'=>e = .returned (.bool (Qam t))/\Below w.heap.size w w':=by
 obtain⟨_,hk1,hk2⟩:=Qcc hs;obtain⟨htx,hly,hkw⟩:=Qa7 hw;obtain⟨hv1,hv2,hvk,hvx⟩:=h.kl;clear hv1 hv2;simp only at hvk hvx;subst hvk hvx;have HT:=hQ h;have HK2:=hQ hk2;have HKW:=hQ hkw;have HTX:=hQ htx;have HPL:=hQ (Qi6 t.kind);have HKI:=hQ (show(t.kids.length:Int)<=140737488355328 from by omega);have HKE:=hQ hne;have HW0:=hQ ((xC w.heap.size w).alloc (xA _) (.cells #[.int .i64 t.kind,.string t.text,.slice vla vll vlc,.slice vka t.kids.length vkc] 25));have HG0:=hQ (xH w (.cells #[.int .i64 t.kind,.string t.text,.slice vla vll vlc,.slice vka t.kids.length vkc] 25));have HSE:=hQ (Qi8 t);have hkk:(t.kids.length:Int)<=140737488355328:=by omega
 generalize hfp:Qca (Qae t.kind) t.kids.length=fr at HSE;have HFE:=hQ hfp;obtain⟨n,ok⟩:=fr;clear h hs hw hk1 hk2 htx hly hkw hne hfp
 cases ok
 ·have HR:=hQ (show Qam t=false from by rw[HSE.out];rfl);go_enter func62,ntmps62;go_wp2_with fail;go_at_call 83;refine(Qgs t.kind _).mono ?_;rintro e w1⟨A,c,rfl,hp,hb⟩;have HP:=hQ hp;have HB1:=hQ (yC HW0.out hb);have HG1:=hQ ((hb.block w.heap.size (by simp)).trans HG0.out);clear hp hb;have k0:w1.cell? ⟨w.heap.size,0,none⟩=some (.int .i64 t.kind):=Qab HG1.out 0 _ rfl;have k1:w1.cell? ⟨w.heap.size,1,none⟩=some (.string t.text):=Qab HG1.out 1 _ rfl;have k2:w1.cell? ⟨w.heap.size,2,none⟩=some (.slice vla vll vlc):=Qab HG1.out 2 _ rfl;have k3:w1.cell? ⟨w.heap.size,3,none⟩=some (.slice vka t.kids.length vkc):=Qab HG1.out 3 _ rfl;go_wp2_with fail;go_at_call 94;refine(Qi7 A c _ t.kids.length _ HP.out HPL.out HKI.out).mono ?_;rw[HFE.out];rintro e w2⟨rfl,hb2⟩;have HB2:=hQ (yC HB1.out hb2);have HG2:=hQ ((hb2.block w.heap.size (Qaa HG1.out)).trans HG1.out);have HP2:=hQ (HP.out.keep hb2);clear hb2 k0 k1 k2 k3;have k0:w2.cell? ⟨w.heap.size,0,none⟩=some (.int .i64 t.kind):=Qab HG2.out 0 _ rfl;have k1:w2.cell? ⟨w.heap.size,1,none⟩=some (.string t.text):=Qab HG2.out 1 _ rfl;have k2:w2.cell? ⟨w.heap.size,2,none⟩=some (.slice vla vll vlc):=Qab HG2.out 2 _ rfl;have k3:w2.cell? ⟨w.heap.size,3,none⟩=some (.slice vka t.kids.length vkc):=Qab HG2.out 3 _ rfl;go_wp2;go_ret;exact⟨by rw[HR.out];rfl,HB2.out⟩
 ·cases hnm:Qba (Qae t.kind) t.text
  ·have HNE:=hQ hnm;have HR:=hQ (show Qam t=false from by rw[HSE.out,hnm];rfl);clear hnm;go_enter func62,ntmps62;go_wp2_with fail;go_at_call 83;refine(Qgs t.kind _).mono ?_;rintro e w1⟨A,c,rfl,hp,hb⟩;have HP:=hQ hp;have HB1:=hQ (yC HW0.out hb);have HG1:=hQ ((hb.block w.heap.size (by simp)).trans HG0.out);clear hp hb;have k0:w1.cell? ⟨w.heap.size,0,none⟩=some (.int .i64 t.kind):=Qab HG1.out 0 _ rfl;have k1:w1.cell? ⟨w.heap.size,1,none⟩=some (.string t.text):=Qab HG1.out 1 _ rfl;have k2:w1.cell? ⟨w.heap.size,2,none⟩=some (.slice vla vll vlc):=Qab HG1.out 2 _ rfl;have k3:w1.cell? ⟨w.heap.size,3,none⟩=some (.slice vka t.kids.length vkc):=Qab HG1.out 3 _ rfl;go_wp2_with fail;go_at_call 94;refine(Qi7 A c _ t.kids.length _ HP.out HPL.out HKI.out).mono ?_;rw[HFE.out];rintro e w2⟨rfl,hb2⟩;have HB2:=hQ (yC HB1.out hb2);have HG2:=hQ ((hb2.block w.heap.size (Qaa HG1.out)).trans HG1.out);have HP2:=hQ (HP.out.keep hb2);clear hb2 k0 k1 k2 k3;have k0:w2.cell? ⟨w.heap.size,0,none⟩=some (.int .i64 t.kind):=Qab HG2.out 0 _ rfl;have k1:w2.cell? ⟨w.heap.size,1,none⟩=some (.string t.text):=Qab HG2.out 1 _ rfl;have k2:w2.cell? ⟨w.heap.size,2,none⟩=some (.slice vla vll vlc):=Qab HG2.out 2 _ rfl;have k3:w2.cell? ⟨w.heap.size,3,none⟩=some (.slice vka t.kids.length vkc):=Qab HG2.out 3 _ rfl;go_wp2_with fail;go_at_call 95;refine(Qkm A c _ ⟨t.kind,t.text,vla,vll,vlc,vka,t.kids.length,vkc⟩ _ HP2.out HPL.out (Qit _) HTX.out).mono ?_;rw[HNE.out];rintro e w3⟨rfl,hb3⟩;have HB3:=hQ (yC HB2.out hb3);have HP3:=hQ (HP2.out.keep hb3);have HG3:=hQ ((hb3.block w.heap.size (Qaa HG2.out)).trans HG2.out);clear hb3 k0 k1 k2 k3;go_wp2;go_ret;exact⟨by rw[HR.out];rfl,HB3.out⟩
  ·have HNE:=hQ hnm;have HR:=hQ (show Qam t=Qej t.kids (Qer (Qae t.kind) n) from by rw[HSE.out,hnm];rfl);have hfs:=Qvj (kd:=t.kind) (k:=t.kids.length) (by rw[HFE.out]);rw[HFE.out]at hfs;have hn0:0<=n:=hfs.1;have HN0:=hQ hn0;have HSUM:=hQ (show Qvi (Qae t.kind) n=t.kids.length from hfs.2);have HPN:=hQ (show Qae t.kind≠[] from(Qqf _ _ (show(Qca (Qae t.kind) t.kids.length).2=true from by rw[HFE.out])).2.2);clear hnm hfs hn0;go_enter func62,ntmps62;go_wp2_with fail;go_at_call 83;refine(Qgs t.kind _).mono ?_;rintro e w1⟨A,c,rfl,hp,hb⟩;have HP:=hQ hp;have HB1:=hQ (yC HW0.out hb);have HG1:=hQ ((hb.block w.heap.size (by simp)).trans HG0.out);clear hp hb;have k0:w1.cell? ⟨w.heap.size,0,none⟩=some (.int .i64 t.kind):=Qab HG1.out 0 _ rfl;have k1:w1.cell? ⟨w.heap.size,1,none⟩=some (.string t.text):=Qab HG1.out 1 _ rfl;have k2:w1.cell? ⟨w.heap.size,2,none⟩=some (.slice vla vll vlc):=Qab HG1.out 2 _ rfl;have k3:w1.cell? ⟨w.heap.size,3,none⟩=some (.slice vka t.kids.length vkc):=Qab HG1.out 3 _ rfl;go_wp2_with fail;go_at_call 94;refine(Qi7 A c _ t.kids.length _ HP.out HPL.out HKI.out).mono ?_;rw[HFE.out];rintro e w2⟨rfl,hb2⟩;have HB2:=hQ (yC HB1.out hb2);have HG2:=hQ ((hb2.block w.heap.size (Qaa HG1.out)).trans HG1.out);have HP2:=hQ (HP.out.keep hb2);clear hb2 k0 k1 k2 k3;have k0:w2.cell? ⟨w.heap.size,0,none⟩=some (.int .i64 t.kind):=Qab HG2.out 0 _ rfl;have k1:w2.cell? ⟨w.heap.size,1,none⟩=some (.string t.text):=Qab HG2.out 1 _ rfl;have k2:w2.cell? ⟨w.heap.size,2,none⟩=some (.slice vla vll vlc):=Qab HG2.out 2 _ rfl;have k3:w2.cell? ⟨w.heap.size,3,none⟩=some (.slice vka t.kids.length vkc):=Qab HG2.out 3 _ rfl;go_wp2_with fail;go_at_call 95;refine(Qkm A c _ ⟨t.kind,t.text,vla,vll,vlc,vka,t.kids.length,vkc⟩ _ HP2.out HPL.out (Qit _) HTX.out).mono ?_;rw[HNE.out];rintro e w3⟨rfl,hb3⟩;have HB3:=hQ (yC HB2.out hb3);have HP3:=hQ (HP2.out.keep hb3);have HG3:=hQ ((hb3.block w.heap.size (Qaa HG2.out)).trans HG2.out);clear hb3 k0 k1 k2 k3;obtain⟨pk,pcs,rfl,_,hph,hpc⟩:=HP3.out HPN.out;have HPH:=hQ hph;have HPC:=hQ hpc;have HT3:=hQ (HT.out.keep HB3.out);clear hph hpc;have k0:w3.cell? ⟨w.heap.size,0,none⟩=some (.int .i64 t.kind):=Qab HG3.out 0 _ rfl;have k1:w3.cell? ⟨w.heap.size,1,none⟩=some (.string t.text):=Qab HG3.out 1 _ rfl;have k2:w3.cell? ⟨w.heap.size,2,none⟩=some (.slice vla vll vlc):=Qab HG3.out 2 _ rfl;have k3:w3.cell? ⟨w.heap.size,3,none⟩=some (.slice vka t.kids.length vkc):=Qab HG3.out 3 _ rfl;go_wp2_with fail;clear k0 k1 k2 k3
   go_loopg [6,34] (Qae t.kind).length (fun g u6 u34 wr=>∃ (j cap:Nat) (A:yE),u6 = .slice A 0 cap/\u34 = .int .i64 j/\j+g=(Qae t.kind).length/\Qvi ((Qae t.kind).drop j) n=0/\Below w3.heap.size w3 wr)
   case atStart=>exact⟨0,vkc,vka,by rw[HKE.out],rfl,by omega,by have:=HSUM.out;rw[HKE.out]at this;exact this,xC _ _⟩
   case round =>
    obtain⟨j,cap,A,rfl,rfl,hj,hsm,hb⟩:=hrel;have HJ:=hQ hj;have HSM:=hQ hsm;have HBR:=hQ hb;clear hj hsm hb
    by_cases hlt:j<(Qae t.kind).length
    ·obtain⟨x,hx⟩:∃ x,(Qae t.kind)[j]? = some x:=⟨_,xF hlt⟩;have hpc:=Qkk ((HBR.out.block pk (Qaa HPH.out)).trans HPH.out) HPC.out j x hx;obtain⟨hjl,hje⟩:=xP.1 hx;have hsm:=HSM.out;rw[List.drop_eq_getElem_cons hjl,hje,Qvi]at hsm;have hc0:=Qkn x n HN0.out;have hr0:=Qm7 ((Qae t.kind).drop (j+1)) n HN0.out;have HCN:=hQ (show Qb9 x n=((0:Nat):Int) from by omega);have HSUM2:=hQ (show Qvi ((Qae t.kind).drop (j+1)) n=0 from by omega);have hj0:(0:Int)<=(j:Int):=by omega
     have hj1:(j:Int)<((Qae t.kind).length:Int):=by omega
     have hj2:(j:Int)+1<=10:=by have:=HPL.out;omega
     have HLT:=hQ hlt;obtain⟨go,hgo⟩:∃ go,go=gk:=⟨_,rfl⟩;have HGO:=hQ hgo;clear hx hjl hje hsm hc0 hr0 hgo;obtain⟨wd,nm,kd,lst,mst,se,co⟩:=x;obtain⟨p0,p1,p2,p3,p4,p5,p6⟩:=hpc;have HX0:=hQ (xH wr (.cells #[.string wd,fnV nm,.int .i64 kd,.int .i64 lst,.int .i64 mst,.bool se,.bool co] 132));have HBX:=hQ (HBR.out.alloc HBR.out.size (.cells #[.string wd,fnV nm,.int .i64 kd,.int .i64 lst,.int .i64 mst,.bool se,.bool co] 132));go_wp2_with fail;go_at_call 96;refine(Qkl ⟨wd,nm,kd,lst,mst,se,co⟩ n _).mono ?_;rw[HCN.out];rintro e w4⟨rfl,hb4⟩;have HX4:=hQ ((hb4.block wr.heap.size (by simp)).trans HX0.out);have HB4:=hQ (yC HBX.out hb4);clear hb4 p0 p1 p2 p3 p4 p5 p6;go_wp2_with fail;generalize hxb:wr.heap.size=xb at HX4
     go_loopg [44] 0 (fun _ u44 wi=>u44 = .int .i64 0/\wi=w4)
     case atStart=>exact⟨rfl,rfl⟩
     case round =>
      obtain⟨rfl,rfl⟩:=hrel;obtain⟨x0,x1,x2,x3,x4,x5,x6⟩:=Qb1 (x:=⟨wd,nm,kd,lst,mst,se,co⟩) HX4.out;go_wp2_with fail;go_at_call 96;refine(Qkl ⟨wd,nm,kd,lst,mst,se,co⟩ n _).mono ?_;rw[HCN.out];rintro e w6⟨rfl,hb6⟩;have HB6:=hQ (yC HB4.out hb6);clear hb6 x0 x1 x2 x3 x4 x5 x6;go_wp2
      go_roundg (go-1)
      case measure=>have:=HGO.out;have:=HJ.out;have:=HLT.out;omega
      case rel=>exact⟨j+1,_,_,rfl,by go_num,by have:=HGO.out;have:=HJ.out;have:=HLT.out;omega,HSUM2.out,HB6.out⟩
    ·have HRR:=hQ (show Qam t=true from by rw[HR.out,List.eq_nil_of_length_eq_zero HKE.out,Qjy]);go_wp2;go_ret;exact⟨by rw[HRR.out];rfl,yC HB3.out HBR.out⟩
theorem Qlk(N:Nat):∀ (S:Nat->Prop) (t:Tr) (v:TV) (w:World),SizeOf.sizeOf t<=N->TrAt S w t v->Qbs t=true->Qbg t=true ->
   Calls prog 62 #[.agg #[.int .i64 v.kind,.string v.text,.slice v.la v.ll v.lc,.slice v.ka v.kl v.kc]] w fun e w'=>e = .returned (.bool (Qam t))/\Below w.heap.size w w':=by
 induction N with
 | zero =>
  intro S t v w hN
  exfalso
  cases t with
  | mk kd tx ls ks=>rw[Tr.mk.sizeOf_spec]at hN;omega
 | succ N ih =>
  intro S t v w hN h hs hw;have hkl:=h.kl.1;have hadr:=h.addr;have hcap:=h.caps.2;obtain⟨vk,vx,vla,vll,vlc,vka,vkl,vkc⟩:=v;simp only at hkl hadr hcap;subst hkl
  by_cases h0:t.kids.length=0
  ·exact Qrp S t vk vx vla vll vlc vka vkc w h hs hw h0
  ·rcases hadr with h1|⟨b,off,rfl⟩
   ·exact absurd h1 h0
   ·exact Qt1 ih S t vk vx vla vll vlc b off vkc w hN h hs hw hcap (fun e=>h0 (by rw[e];rfl))
end Go.Proofs.YtfjpemdejoejbaaGreat
