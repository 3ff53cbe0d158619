/- Part 36 -/
import Derived.Test.YtfjpemdejoejbaaGreatTp26
set_option maxRecDepth 100000
set_option maxHeartbeats 4000000
namespace Go.Proofs.YtfjpemdejoejbaaGreat
open Go.Proofs.Tryz Go.RowKit
theorem Zhu(w:World)(B:Nat):PRow w B (.slice none 0 0) []:=World.ownsRow_nil _ _ _ _
theorem Qu1(B:Nat)(t:Tr)(v:TV)(w:World)(ht:TrAt (fun k=>k<B) w t v)(hs:Qam t=true)(hz:Qai t<=1000)(hB:B<=w.heap.size)(hb:(Qaf t).length<=1000000) :
  Calls prog 104 #[.agg #[.int .i64 v.kind,.string v.text,.slice v.la v.ll v.lc,.slice v.ka v.kl v.kc]] w fun e w'=>∃ l,e = .returned l/\PRow w' w.heap.size l (Qaf t)/\Below w.heap.size w w':=by
 have HB0:=hQ ((xC w.heap.size w).alloc (xA _) (trO v));have HT:=hQ (TrAt.move (S':=fun k=>k<w.heap.size) (fun k h=>xE h hB) (fun k hk _=>HB0.out.block k (xE hk hB)) _ _ ht);have HS:=hQ hs;have HZ:=hQ hz;have HBD:=hQ hb;have hsz:(w.alloc (trO v)).heap.size=w.heap.size+1:=by simp
 have HSZ:=hQ (show w.heap.size<=(w.alloc (trO v)).heap.size from by rw[hsz];omega);clear ht hs hz hB hb hsz;go_enter func104,ntmps104;go_wp2_with (go_at_call 144;refine(Qns _ w.heap.size _ [] t v _ (xA _) HT.out HS.out HZ.out (Zhu _ _) HSZ.out (by have:=HBD.out;simpa using this)).mono ?_;rintro e w2⟨l2,rfl,hr,hg,ho⟩;have HR:=hQ hr;have HG:=hQ hg;clear hr hg ho)
 go_ret;exact⟨_,rfl,HR.out,HB0.out.grown HG.out HSZ.out (fun k hk=>by cases hk)⟩
theorem Qlz{z:List UInt8 × yD}{ps:List Qbt}{i:Nat}{p:Qbt}(h:ps[i]? = some p):Qib z (ps.take (i+1))=Zf0 (Qib z (ps.take i)) p.1 p.2:=by
 rw[Qhr h,Qrq,Zau]
theorem Qzd{z:List UInt8 × yD}{ps:List Qbt}{i:Nat}{p:Qbt}(h:ps[i]? = some p):(Qib z (ps.take (i+1))).2=p.2:=by rw[Qlz h];rfl
theorem Ql0(s:yD):bl s=s.data.toList:=by unfold bl suf;rw[List.drop_zero]
theorem Zef(x:yD):Qgh ⟨#[]⟩ x=false:=by
 have:Qap (suf ⟨#[]⟩ 0)=0:=rfl
 unfold Qgh;simp[this]
theorem Qs0{ps:List Qbt}{i:Nat}{p:Qbt}(h:ps[i]? = some p):Qgx (ps.take i)+(p.1.size+p.2.size+1)<=Qgx ps:=by
 conv=>rhs;rw[<-List.take_append_drop i ps,Ql8]
 obtain⟨hi,he⟩:=xP.1 h;rw[List.drop_eq_getElem_cons hi,he,Qgx];omega
theorem Zeg{ps:List Qbt}{i:Nat}{p q:Qbt}(h:ps[i]? = some p)(k:ps[i+1]? = some q):p.2.size+q.2.size<=Qgx ps:=by
 have h1:=Qs0 k;rw[Qhr h,Ql8]at h1;simp only[Qgx]at h1;omega
theorem Zky{ps:List Qbt}(i:Nat):(Qib ([],⟨#[]⟩) (ps.take i)).1.length<=Qgx (ps.take i):=by
 have:=Zf1 (ps.take i) ([],⟨#[]⟩)
 simpa using this
def PrAt(ps:List Qbt)(W:World)(v i:Value)(wr:World):Prop:=∃ (j:Nat) (s:yD),v = .string s/\i = .int .i64 j/\j<=ps.length/\bl s=(Qib ([],⟨#[]⟩) (ps.take j)).1/\Below W.heap.size W wr
theorem Ql1{ps:List Qbt}{j:Nat}{p:Qbt}{s:yD}(hp:ps[j]? = some p)(hs:bl s=(Qib ([],⟨#[]⟩) (ps.take j)).1)(h:Qxt (Qib ([],⟨#[]⟩) (ps.take j)).2 p.1 p.2=p.1):bl (s ++ p.1 ++ p.2)=(Qib ([],⟨#[]⟩) (ps.take (j+1))).1:=by
 rw[Qlz hp,Qhk,Qhk,hs];unfold Zf0;rw[h,Ql0,Ql0]
theorem Qze{ps:List Qbt}{j:Nat}{p:Qbt}{s:yD}(hp:ps[j]? = some p)(hs:bl s=(Qib ([],⟨#[]⟩) (ps.take j)).1)(h:Qxt (Qib ([],⟨#[]⟩) (ps.take j)).2 p.1 p.2=⟨#[32]⟩)(h0:p.1.size=0):bl (s ++ ⟨#[32]⟩ ++ p.1 ++ p.2)=(Qib ([],⟨#[]⟩) (ps.take (j+1))).1:=by
 rw[Qlz hp,Qhk,Qhk,Qhk,hs,Qm8 h0];unfold Zf0;rw[Qm8 h0]at h;rw[h,Ql0,Ql0,Ql0];simp
theorem Qws{a b:yD}(h:a=b):Ending.returned (.string a) = .returned (.string b):=by rw[h]
theorem Qn9(b n:Nat):((⟨b,0,none⟩:Addr).add n)=⟨b,n,none⟩:=by unfold Addr.add;split <;> simp_all
theorem Qpq(S:Nat->Prop)(t:Tr)(v:TV)(w:World)(h:TrAt S w t v)(hz:Qai t<=1000)(hs:Qbs t=true)(hw:Qbg t=true)(hb:(Qaf t).length<=1000000)(hsz:Qgx (Qaf t)<=10000000000000) :
  Calls prog 72 #[.agg #[.int .i64 v.kind,.string v.text,.slice v.la v.ll v.lc,.slice v.ka v.kl v.kc]] w fun e w'=>e = .returned (.string (Qjq t))/\Below w.heap.size w w':=by
 have HB0:=hQ ((xC w.heap.size w).alloc (xA _) (trO v));have HX:=hQ (xH w (trO v));have HT:=hQ (h.keep HB0.out);have HTL:=hQ (TrAt.low t v h);have HZ:=hQ hz;have HS:=hQ hs;have HW:=hQ hw;have HBD:=hQ hb;have HSZ:=hQ hsz;have HPT:=hQ (show Qjq t=(if Qam t && Qj8 t then ⟨(Qog t).toArray⟩ else ⟨#[]⟩) from rfl);clear h hz hs hw hb hsz;go_enter func72,ntmps72;go_wp2_with fail;generalize hW0:w.alloc (.cells #[.int .i64 v.kind,.string v.text,.slice v.la v.ll v.lc,.slice v.ka v.kl v.kc] 25)=W0 at |-;have HB0':=hQ (show Below w.heap.size w W0 from hW0 ▸ HB0.out);have HX':=hQ (show W0.heap[w.heap.size]? = some (trO v) from hW0 ▸ HX.out);have HT':=hQ (show TrAt S W0 t v from hW0 ▸ HT.out);clear HB0 HX HT hW0;have k0:W0.cell? ⟨w.heap.size,0,none⟩=some (.int .i64 v.kind):=Qab HX'.out 0 _ rfl;have k1:W0.cell? ⟨w.heap.size,1,none⟩=some (.string v.text):=Qab HX'.out 1 _ rfl;have k2:W0.cell? ⟨w.heap.size,2,none⟩=some (.slice v.la v.ll v.lc):=Qab HX'.out 2 _ rfl;have k3:W0.cell? ⟨w.heap.size,3,none⟩=some (.slice v.ka v.kl v.kc):=Qab HX'.out 3 _ rfl
 cases hp:(Qam t && Qj8 t)
 ·have HR:=hQ (show Qjq t=⟨#[]⟩ from by rw[HPT.out,hp];rfl);go_wp2_with (go_at_call 69;refine(Qdm S t v _ HT'.out HZ.out HS.out HW.out).mono ?_;rw[hp];rintro e w2⟨rfl,hb2⟩;have HB2:=hQ (yC HB0'.out hb2);clear hb2 k0 k1 k2 k3)
  go_ret;exact⟨Qws HR.out.symm,HB2.out⟩
 ·have HR:=hQ (show Qjq t=⟨(Qog t).toArray⟩ from by rw[HPT.out,hp];rfl);have HSH:=hQ (show Qam t=true from by rw[Bool.and_eq_true]at hp;exact hp.1)
  go_wp2_with (first
   | (go_at_call 69;refine(Qdm S t v _ HT'.out HZ.out HS.out HW.out).mono ?_;rw[hp];rintro e w2⟨rfl,hb2⟩;have HB2:=hQ (yC HB0'.out hb2);have HX2:=hQ ((hb2.block w.heap.size (Qaa HX'.out)).trans HX'.out);clear hb2 k0 k1 k2 k3;have k0:w2.cell? ⟨w.heap.size,0,none⟩=some (.int .i64 v.kind):=Qab HX2.out 0 _ rfl;have k1:w2.cell? ⟨w.heap.size,1,none⟩=some (.string v.text):=Qab HX2.out 1 _ rfl;have k2:w2.cell? ⟨w.heap.size,2,none⟩=some (.slice v.la v.ll v.lc):=Qab HX2.out 2 _ rfl;have k3:w2.cell? ⟨w.heap.size,3,none⟩=some (.slice v.ka v.kl v.kc):=Qab HX2.out 3 _ rfl)
   | (go_at_call 104;refine(Qu1 w.heap.size t v _ (TrAt.move (fun _ h=>h) (fun k hk _=>HB2.out.block k hk) _ _ HTL.out) HSH.out HZ.out HB2.out.size HBD.out).mono ?_;rintro e w3⟨l3,rfl,hr3,hb3⟩;have HR3:=hQ hr3;have HB3:=hQ (yC HB2.out hb3);clear hr3 hb3 k0 k1 k2 k3))
  clear hp;obtain⟨PS,hPS⟩:∃ PS,PS=Qaf t:=⟨_,rfl⟩;have HPS:=hQ hPS;have HBP:=hQ (show PS.length<=1000000 from by rw[hPS];exact HBD.out);have HSP:=hQ (show Qgx PS<=10000000000000 from by rw[hPS];exact HSZ.out);have HR4:=hQ (show PRow w3 w2.heap.size l3 PS from by rw[hPS];exact HR3.out);obtain⟨LA,LC,hl3⟩:=Qhp (show w3.ownsRow w2.heap.size 148 2 l3 PS.length (Qao PS) from HR4.out);subst hl3;have hpn:(PS.length:Int)<=1000000:=by have:=HBP.out;omega
  clear hPS HR3
  go_loopw [4,5] (fun s i wr=>PrAt PS w3 s i wr) (fun _ i _=>PS.length-(intOf i).toNat)
  case atStart=>exact⟨0,⟨#[]⟩,rfl,rfl,xZ _,rfl,xC _ _⟩
  case round =>
   obtain⟨j,s,rfl,rfl,hj,hs,hbr⟩:=hrel;have HSB:=hQ hs;have HBR:=hQ hbr;have HR5:=hQ (HR4.out.keep hbr);clear hs hbr
   by_cases hlt:j<PS.length
   ·obtain⟨⟨pl,px⟩,hp⟩:∃ p,PS[j]? = some p:=⟨_,xF hlt⟩;obtain⟨g,cg,hlv,_⟩:=World.ownsRow.form HR5.out (by omega);injection hlv with e1 e2 e3;subst e1;clear e2 e3;have hcs:=World.ownsRow.cells (g:=g) HR5.out rfl;have p0:wr.cell? ⟨g,j*2,none⟩=some (.string pl):=by have:=hcs (j*2) _ (Qj1 PS j _ hp).1;rw[Qn9]at this;exact this
    have p1:wr.cell? ⟨g,j*2+1,none⟩=some (.string px):=by have:=hcs (j*2+1) _ (Qj1 PS j _ hp).2;rw[Qn9]at this;exact this
    have HP:=hQ hp;have hsg:=Qs0 hp;have hfl:=Zky (ps:=PS) j;have hsl:s.size<=Qgx (PS.take j):=by have h1:=Qf0 s;rw[HSB.out]at h1;omega
    have hmx:=HSP.out;simp only at hsg;have hq0:=fun w:World=>run_string_add_sum (P:=prog) w s ⟨#[32]⟩ (by have:(⟨#[32]⟩:yD).size=1:=rfl;omega)
    have hq1:=fun w:World=>run_string_add_sum (P:=prog) w s pl (by omega)
    have hq2:=fun w:World=>run_string_add_sum (P:=prog) w (s ++ pl) px (by rw[ByteArray.size_append];omega)
    have hj0:(0:Int)<=(j:Int):=by omega
    have hj1:(j:Int)<(PS.length:Int):=by omega
    have hj2:(j:Int)+1<=1000000:=by omega
    have HLE:=hQ (show s.size+pl.size+px.size+1<=10000000000000 from by omega);clear hcs hsg hfl hsl hmx
    by_cases h0:j=0
    ·have HE:=hQ (Ql1 hp HSB.out (by subst h0;show Qxt ⟨#[]⟩ pl px=pl;unfold Qxt;rw[xN (fun h=>by rw[Zef]at h;exact absurd h.2 (by decide))]));have d0:decide (0<j)=false:=xR (by omega);have d1:decide ((0:Int)<(j:Int))=false:=xR (by omega);clear hp h0 hq0;go_wp2_with fail
     go_quiet (fail)
     go_wp2_with fail
     go_quiet (fail)
     go_wp2;go_roundw
     case measure=>simp[intOf];omega
     case rel=>exact⟨j+1,s ++ pl ++ px,rfl,by go_num,by omega,HE.out,below_drewN HBR.out _⟩
    ·obtain⟨m,hm⟩:∃ m,j=m+1:=⟨j-1,by omega⟩;have d0:decide (0<j)=true:=xS (by omega);have d1:decide ((0:Int)<(j:Int))=true:=xS (by omega)
     by_cases hl0:pl.size=0
     ·have:=Qm8 hl0
      subst this;obtain⟨⟨ql,qx⟩,hq⟩:∃ p,PS[m]? = some p:=⟨_,xF (by omega)⟩;have q1:wr.cell? ⟨g,m*2+1,none⟩=some (.string qx):=by have:=World.ownsRow.cells (g:=g) HR5.out rfl (m*2+1) _ (Qj1 PS m _ hq).2;rw[Qn9]at this;exact this
      have HLS:=hQ (show(Qib ([],⟨#[]⟩) (PS.take j)).2=qx from by rw[hm];exact Qzd hq);have HFS:=hQ (show qx.size+px.size<maxLen from by have h1:=Zeg hq (show PS[m+1]? = some (⟨#[]⟩,px) from hm ▸ hp);have h2:=HSP.out;unfold maxLen;simp only at h1;omega);have hw1:IntKind.i64.wrap ((j:Int)-1)=(m:Int):=by rw[show(j:Int)-1=(m:Int) from by omega];exact IntWalk.i64_in _ (by omega)
      have hw3:(m:Int)<(PS.length:Int):=by omega
      have hw4:(0:Int)<=(m:Int):=by omega
      clear hq hm h0
      cases hf:Qgh qx px
      ·have HE:=hQ (Ql1 hp HSB.out (by rw[HLS.out];unfold Qxt;rw[xN (fun h=>by rw[hf]at h;exact absurd h.2 (by decide))]));clear hp hl0 hq0;go_wp2_with fail
       go_region_held3 (fun w'=>w'.cell? ⟨g,j*2,none⟩=some (.string ⟨#[]⟩)/\w'.cell? ⟨g,j*2+1,none⟩=some (.string px)/\w'.cell? ⟨g,m*2+1,none⟩=some (.string qx)) (first | with_reducible exact⟨p0,p1,q1⟩ | go_keep) (first | (go_at_call 105;((with_reducible refine(Qpp qx px _ HFS.out).mono ?_);rw[hf];rintro e w5⟨rfl,hb5⟩;have hb6:Below wr.heap.size wr w5:=((xC wr.heap.size wr).drew).trans hb5;have HB5:=hQ (yC HBR.out hb6);have gl:=xK wr _ p1;have e0:=(xJ (w:=wr) (a:=⟨g,j*2,none⟩) (hb6.block g gl)).trans p0;have e1:=(xJ (w:=wr) (a:=⟨g,j*2+1,none⟩) (hb6.block g gl)).trans p1;have e2:=(xJ (w:=wr) (a:=⟨g,m*2+1,none⟩) (hb6.block g gl)).trans q1;clear hb5 hb6 gl p0 p1 q1;have p0:=e0;have p1:=e1;have q1:=e2;clear e0 e1 e2)) | fail)
       all_goals
        clear q1 hw1 hw3 hw4 d0 d1;go_wp2_with fail
        go_quiet (fail)
        go_wp2;go_roundw
        case measure=>simp[intOf];omega
        case rel=>exact⟨j+1,s ++ ⟨#[]⟩ ++ px,rfl,by go_num,by omega,HE.out,below_drewN HB5.out _⟩
      ·have HE:=hQ (Qze hp HSB.out (by rw[HLS.out];unfold Qxt;rw[xO ⟨rfl,hf⟩]) rfl);have hq1:=fun w:World=>run_string_add_sum (P:=prog) w (s ++ ⟨#[32]⟩) ⟨#[]⟩ (by rw[ByteArray.size_append];have h1:(⟨#[32]⟩:yD).size=1:=rfl;have h2:(⟨#[]⟩:yD).size=0:=rfl;have:=HLE.out;omega)
       have hq2:=fun w:World=>run_string_add_sum (P:=prog) w (s ++ ⟨#[32]⟩ ++ ⟨#[]⟩) px (by rw[ByteArray.size_append,ByteArray.size_append];have h1:(⟨#[32]⟩:yD).size=1:=rfl;have h2:(⟨#[]⟩:yD).size=0:=rfl;have:=HLE.out;omega)
       clear hp hl0;go_wp2_with fail
       go_region_held3 (fun w'=>w'.cell? ⟨g,j*2,none⟩=some (.string ⟨#[]⟩)/\w'.cell? ⟨g,j*2+1,none⟩=some (.string px)/\w'.cell? ⟨g,m*2+1,none⟩=some (.string qx)) (first | with_reducible exact⟨p0,p1,q1⟩ | go_keep) (first | (go_at_call 105;((with_reducible refine(Qpp qx px _ HFS.out).mono ?_);rw[hf];rintro e w5⟨rfl,hb5⟩;have hb6:Below wr.heap.size wr w5:=((xC wr.heap.size wr).drew).trans hb5;have HB5:=hQ (yC HBR.out hb6);have gl:=xK wr _ p1;have e0:=(xJ (w:=wr) (a:=⟨g,j*2,none⟩) (hb6.block g gl)).trans p0;have e1:=(xJ (w:=wr) (a:=⟨g,j*2+1,none⟩) (hb6.block g gl)).trans p1;have e2:=(xJ (w:=wr) (a:=⟨g,m*2+1,none⟩) (hb6.block g gl)).trans q1;clear hb5 hb6 gl p0 p1 q1;have p0:=e0;have p1:=e1;have q1:=e2;clear e0 e1 e2)) | fail)
       all_goals
        clear q1 hw1 hw3 hw4 d0 d1;go_wp2_with fail
        go_quiet (fail)
        go_wp2;go_roundw
        case measure=>simp[intOf];omega
        case rel=>exact⟨j+1,s ++ ⟨#[32]⟩ ++ ⟨#[]⟩ ++ px,rfl,by go_num,by omega,HE.out,below_drewN HB5.out _⟩
     ·have HE:=hQ (Ql1 hp HSB.out (by unfold Qxt;rw[xN (fun h=>hl0 h.1)]));have hne:pl.toList.isEmpty=false:=by have h1:=Qrh (s:=pl) (by omega);rw[Qdz]at h1;simpa using h1
      clear hp hm h0 hq0 hl0;go_wp2_with fail
      go_quiet (fail)
      go_wp2_with fail
      go_quiet (fail)
      go_wp2;go_roundw
      case measure=>simp[intOf];omega
      case rel=>exact⟨j+1,s ++ pl ++ px,rfl,by go_num,by omega,HE.out,below_drewN HBR.out _⟩
   ·have hje:j=PS.length:=by omega
    have HF:=hQ (show(⟨(Qog t).toArray⟩:yD)=s from Zld (by rw[HSB.out,hje,List.take_length,Ql0];unfold Qog;rw[HPS.out]));go_wp2;go_ret;exact⟨Qws (HF.out.symm.trans HR.out.symm),yC HB3.out HBR.out⟩
theorem Qzf(t:Tr):Qgi t=((Qam t && Qj8 t) && Qgk t && decide (Qex t<=40) && decide ((Qog t).length<=4096)):=by
 unfold Qgi;rw[Qmb]
theorem Qzg(S:Nat->Prop)(t:Tr)(v:TV)(w:World)(h:TrAt S w t v)(hz:Qai t<=1000)(hs:Qbs t=true)(hw:Qbg t=true)(hb:(Qaf t).length<=1000000)(hsz:Qgx (Qaf t)<=10000000000000) :
  Calls prog 44 #[.agg #[.int .i64 v.kind,.string v.text,.slice v.la v.ll v.lc,.slice v.ka v.kl v.kc]] w fun e w'=>e = .returned (.bool (Qgi t))/\Below w.heap.size w w':=by
 have HB0:=hQ ((xC w.heap.size w).alloc (xA _) (trO v));have HX:=hQ (xH w (trO v));have HT:=hQ (h.keep HB0.out);have HZ:=hQ hz;have HZ2:=hQ (show Qai t<=140737488355328 from by omega);have HS:=hQ hs;have HW:=hQ hw;have HBD:=hQ hb;have HSZ:=hQ hsz;have HV:=hQ (Qzf t);clear h hz hs hw hb hsz;go_enter func44,ntmps44;go_wp2_with fail;generalize hW0:w.alloc (.cells #[.int .i64 v.kind,.string v.text,.slice v.la v.ll v.lc,.slice v.ka v.kl v.kc] 25)=w1 at |-;have HB1:=hQ (show Below w.heap.size w w1 from hW0 ▸ HB0.out);have HX1:=hQ (show w1.heap[w.heap.size]? = some (trO v) from hW0 ▸ HX.out);have HT1:=hQ (show TrAt S w1 t v from hW0 ▸ HT.out);clear HB0 HX HT hW0;have k0:w1.cell? ⟨w.heap.size,0,none⟩=some (.int .i64 v.kind):=Qab HX1.out 0 _ rfl;have k1:w1.cell? ⟨w.heap.size,1,none⟩=some (.string v.text):=Qab HX1.out 1 _ rfl;have k2:w1.cell? ⟨w.heap.size,2,none⟩=some (.slice v.la v.ll v.lc):=Qab HX1.out 2 _ rfl;have k3:w1.cell? ⟨w.heap.size,3,none⟩=some (.slice v.ka v.kl v.kc):=Qab HX1.out 3 _ rfl
 cases hp:(Qam t && Qj8 t)
 ·have HR:=hQ (show Qgi t=false from by rw[HV.out,hp];rfl)
  go_wp2_with (first
   | (go_at_call 69;refine(Qdm S t v _ HT1.out HZ.out HS.out HW.out).mono ?_;rw[hp];rintro e w2⟨rfl,hb⟩;have HB2:=hQ (yC HB1.out hb);have HX2:=hQ ((hb.block w.heap.size (Qaa HX1.out)).trans HX1.out);have HT2:=hQ (HT1.out.keep hb);clear hb k0 k1 k2 k3;have k0:w2.cell? ⟨w.heap.size,0,none⟩=some (.int .i64 v.kind):=Qab HX2.out 0 _ rfl;have k1:w2.cell? ⟨w.heap.size,1,none⟩=some (.string v.text):=Qab HX2.out 1 _ rfl;have k2:w2.cell? ⟨w.heap.size,2,none⟩=some (.slice v.la v.ll v.lc):=Qab HX2.out 2 _ rfl;have k3:w2.cell? ⟨w.heap.size,3,none⟩=some (.slice v.ka v.kl v.kc):=Qab HX2.out 3 _ rfl)
   | fail)
  go_ret;exact⟨Qaj (by first | exact HR.out.symm | (rw[HR.out];simp_all;done)),HB2.out⟩
 ·cases hl:Qgk t
  ·have HR:=hQ (show Qgi t=false from by rw[HV.out,hp,hl];rfl)
   go_wp2_with (first
    | (go_at_call 69;refine(Qdm S t v _ HT1.out HZ.out HS.out HW.out).mono ?_;rw[hp];rintro e w2⟨rfl,hb⟩;have HB2:=hQ (yC HB1.out hb);have HX2:=hQ ((hb.block w.heap.size (Qaa HX1.out)).trans HX1.out);have HT2:=hQ (HT1.out.keep hb);clear hb k0 k1 k2 k3;have k0:w2.cell? ⟨w.heap.size,0,none⟩=some (.int .i64 v.kind):=Qab HX2.out 0 _ rfl;have k1:w2.cell? ⟨w.heap.size,1,none⟩=some (.string v.text):=Qab HX2.out 1 _ rfl;have k2:w2.cell? ⟨w.heap.size,2,none⟩=some (.slice v.la v.ll v.lc):=Qab HX2.out 2 _ rfl;have k3:w2.cell? ⟨w.heap.size,3,none⟩=some (.slice v.ka v.kl v.kc):=Qab HX2.out 3 _ rfl)
    | (go_at_call 70;refine(Qie _ S t v _ (xA _) HT2.out HZ.out).mono ?_;rw[hl];rintro e w3⟨rfl,hb⟩;have HB3:=hQ (yC HB2.out hb);have HX3:=hQ ((hb.block w.heap.size (Qaa HX2.out)).trans HX2.out);have HT3:=hQ (HT2.out.keep hb);clear hb k0 k1 k2 k3;have k0:w3.cell? ⟨w.heap.size,0,none⟩=some (.int .i64 v.kind):=Qab HX3.out 0 _ rfl;have k1:w3.cell? ⟨w.heap.size,1,none⟩=some (.string v.text):=Qab HX3.out 1 _ rfl;have k2:w3.cell? ⟨w.heap.size,2,none⟩=some (.slice v.la v.ll v.lc):=Qab HX3.out 2 _ rfl;have k3:w3.cell? ⟨w.heap.size,3,none⟩=some (.slice v.ka v.kl v.kc):=Qab HX3.out 3 _ rfl)
    | fail)
   go_ret;exact⟨Qaj (by first | exact HR.out.symm | (rw[HR.out];simp_all;done)),HB3.out⟩
  ·by_cases hd:Qex t<=40
   ·have HR:=hQ (show Qgi t=decide ((Qog t).length<=4096) from by rw[HV.out,hp,hl,xS hd];rfl);have HPT:=hQ (show(Qjq t).size=(Qog t).length from by unfold Qjq;rw[hp];rfl);have d1:decide ((Qex t:Int)<=40)=true:=xS (by omega);have d2:decide (Qex t<=40)=true:=xS hd;clear hd
    by_cases hx:(Qog t).length<=4096
    ·have x1:decide (((Qjq t).size:Int)<=4096)=true:=xS (by rw[HPT.out];omega);have x2:decide ((Qjq t).size<=4096)=true:=xS (by rw[HPT.out];omega);have HR2:=hQ (show Qgi t=true from by rw[HR.out];exact xS hx);clear hx HR
     go_wp2_with (first
      | (go_at_call 69;refine(Qdm S t v _ HT1.out HZ.out HS.out HW.out).mono ?_;rw[hp];rintro e w2⟨rfl,hb⟩;have HB2:=hQ (yC HB1.out hb);have HX2:=hQ ((hb.block w.heap.size (Qaa HX1.out)).trans HX1.out);have HT2:=hQ (HT1.out.keep hb);clear hb k0 k1 k2 k3;have k0:w2.cell? ⟨w.heap.size,0,none⟩=some (.int .i64 v.kind):=Qab HX2.out 0 _ rfl;have k1:w2.cell? ⟨w.heap.size,1,none⟩=some (.string v.text):=Qab HX2.out 1 _ rfl;have k2:w2.cell? ⟨w.heap.size,2,none⟩=some (.slice v.la v.ll v.lc):=Qab HX2.out 2 _ rfl;have k3:w2.cell? ⟨w.heap.size,3,none⟩=some (.slice v.ka v.kl v.kc):=Qab HX2.out 3 _ rfl)
      | (go_at_call 70;refine(Qie _ S t v _ (xA _) HT2.out HZ.out).mono ?_;rw[hl];rintro e w3⟨rfl,hb⟩;have HB3:=hQ (yC HB2.out hb);have HX3:=hQ ((hb.block w.heap.size (Qaa HX2.out)).trans HX2.out);have HT3:=hQ (HT2.out.keep hb);clear hb k0 k1 k2 k3;have k0:w3.cell? ⟨w.heap.size,0,none⟩=some (.int .i64 v.kind):=Qab HX3.out 0 _ rfl;have k1:w3.cell? ⟨w.heap.size,1,none⟩=some (.string v.text):=Qab HX3.out 1 _ rfl;have k2:w3.cell? ⟨w.heap.size,2,none⟩=some (.slice v.la v.ll v.lc):=Qab HX3.out 2 _ rfl;have k3:w3.cell? ⟨w.heap.size,3,none⟩=some (.slice v.ka v.kl v.kc):=Qab HX3.out 3 _ rfl)
      | (go_at_call 71;refine(Qjz _ S t v _ (xA _) HT3.out HZ2.out).mono ?_;rintro e w4⟨rfl,hb⟩;have HB4:=hQ (yC HB3.out hb);have HX4:=hQ ((hb.block w.heap.size (Qaa HX3.out)).trans HX3.out);have HT4:=hQ (HT3.out.keep hb);clear hb k0 k1 k2 k3;have k0:w4.cell? ⟨w.heap.size,0,none⟩=some (.int .i64 v.kind):=Qab HX4.out 0 _ rfl;have k1:w4.cell? ⟨w.heap.size,1,none⟩=some (.string v.text):=Qab HX4.out 1 _ rfl;have k2:w4.cell? ⟨w.heap.size,2,none⟩=some (.slice v.la v.ll v.lc):=Qab HX4.out 2 _ rfl;have k3:w4.cell? ⟨w.heap.size,3,none⟩=some (.slice v.ka v.kl v.kc):=Qab HX4.out 3 _ rfl)
      | (go_at_call 72;refine(Qpq S t v _ HT4.out HZ.out HS.out HW.out HBD.out HSZ.out).mono ?_;rintro e w5⟨rfl,hb⟩;have HB5:=hQ (yC HB4.out hb);have HX5:=hQ ((hb.block w.heap.size (Qaa HX4.out)).trans HX4.out);have HT5:=hQ (HT4.out.keep hb);clear hb k0 k1 k2 k3;have k0:w5.cell? ⟨w.heap.size,0,none⟩=some (.int .i64 v.kind):=Qab HX5.out 0 _ rfl;have k1:w5.cell? ⟨w.heap.size,1,none⟩=some (.string v.text):=Qab HX5.out 1 _ rfl;have k2:w5.cell? ⟨w.heap.size,2,none⟩=some (.slice v.la v.ll v.lc):=Qab HX5.out 2 _ rfl;have k3:w5.cell? ⟨w.heap.size,3,none⟩=some (.slice v.ka v.kl v.kc):=Qab HX5.out 3 _ rfl)
      | fail)
     go_ret;exact⟨Qaj (by first | exact HR2.out.symm | (rw[HR2.out];simp_all;done)),HB5.out⟩
    ·have x1:decide (((Qjq t).size:Int)<=4096)=false:=xR (by rw[HPT.out];omega);have x2:decide ((Qjq t).size<=4096)=false:=xR (by rw[HPT.out];omega);have HR2:=hQ (show Qgi t=false from by rw[HR.out];exact xR hx);clear hx HR
     go_wp2_with (first
      | (go_at_call 69;refine(Qdm S t v _ HT1.out HZ.out HS.out HW.out).mono ?_;rw[hp];rintro e w2⟨rfl,hb⟩;have HB2:=hQ (yC HB1.out hb);have HX2:=hQ ((hb.block w.heap.size (Qaa HX1.out)).trans HX1.out);have HT2:=hQ (HT1.out.keep hb);clear hb k0 k1 k2 k3;have k0:w2.cell? ⟨w.heap.size,0,none⟩=some (.int .i64 v.kind):=Qab HX2.out 0 _ rfl;have k1:w2.cell? ⟨w.heap.size,1,none⟩=some (.string v.text):=Qab HX2.out 1 _ rfl;have k2:w2.cell? ⟨w.heap.size,2,none⟩=some (.slice v.la v.ll v.lc):=Qab HX2.out 2 _ rfl;have k3:w2.cell? ⟨w.heap.size,3,none⟩=some (.slice v.ka v.kl v.kc):=Qab HX2.out 3 _ rfl)
      | (go_at_call 70;refine(Qie _ S t v _ (xA _) HT2.out HZ.out).mono ?_;rw[hl];rintro e w3⟨rfl,hb⟩;have HB3:=hQ (yC HB2.out hb);have HX3:=hQ ((hb.block w.heap.size (Qaa HX2.out)).trans HX2.out);have HT3:=hQ (HT2.out.keep hb);clear hb k0 k1 k2 k3;have k0:w3.cell? ⟨w.heap.size,0,none⟩=some (.int .i64 v.kind):=Qab HX3.out 0 _ rfl;have k1:w3.cell? ⟨w.heap.size,1,none⟩=some (.string v.text):=Qab HX3.out 1 _ rfl;have k2:w3.cell? ⟨w.heap.size,2,none⟩=some (.slice v.la v.ll v.lc):=Qab HX3.out 2 _ rfl;have k3:w3.cell? ⟨w.heap.size,3,none⟩=some (.slice v.ka v.kl v.kc):=Qab HX3.out 3 _ rfl)
      | (go_at_call 71;refine(Qjz _ S t v _ (xA _) HT3.out HZ2.out).mono ?_;rintro e w4⟨rfl,hb⟩;have HB4:=hQ (yC HB3.out hb);have HX4:=hQ ((hb.block w.heap.size (Qaa HX3.out)).trans HX3.out);have HT4:=hQ (HT3.out.keep hb);clear hb k0 k1 k2 k3;have k0:w4.cell? ⟨w.heap.size,0,none⟩=some (.int .i64 v.kind):=Qab HX4.out 0 _ rfl;have k1:w4.cell? ⟨w.heap.size,1,none⟩=some (.string v.text):=Qab HX4.out 1 _ rfl;have k2:w4.cell? ⟨w.heap.size,2,none⟩=some (.slice v.la v.ll v.lc):=Qab HX4.out 2 _ rfl;have k3:w4.cell? ⟨w.heap.size,3,none⟩=some (.slice v.ka v.kl v.kc):=Qab HX4.out 3 _ rfl)
      | (go_at_call 72;refine(Qpq S t v _ HT4.out HZ.out HS.out HW.out HBD.out HSZ.out).mono ?_;rintro e w5⟨rfl,hb⟩;have HB5:=hQ (yC HB4.out hb);have HX5:=hQ ((hb.block w.heap.size (Qaa HX4.out)).trans HX4.out);have HT5:=hQ (HT4.out.keep hb);clear hb k0 k1 k2 k3;have k0:w5.cell? ⟨w.heap.size,0,none⟩=some (.int .i64 v.kind):=Qab HX5.out 0 _ rfl;have k1:w5.cell? ⟨w.heap.size,1,none⟩=some (.string v.text):=Qab HX5.out 1 _ rfl;have k2:w5.cell? ⟨w.heap.size,2,none⟩=some (.slice v.la v.ll v.lc):=Qab HX5.out 2 _ rfl;have k3:w5.cell? ⟨w.heap.size,3,none⟩=some (.slice v.ka v.kl v.kc):=Qab HX5.out 3 _ rfl)
      | fail)
     go_ret;exact⟨Qaj (by first | exact HR2.out.symm | (rw[HR2.out];simp_all;done)),HB5.out⟩
   ·have HR:=hQ (show Qgi t=false from by rw[HV.out,hp,hl,xR hd];rfl);have d1:decide ((Qex t:Int)<=40)=false:=xR (by omega);have d2:decide (Qex t<=40)=false:=xR hd;clear hd
    go_wp2_with (first
     | (go_at_call 69;refine(Qdm S t v _ HT1.out HZ.out HS.out HW.out).mono ?_;rw[hp];rintro e w2⟨rfl,hb⟩;have HB2:=hQ (yC HB1.out hb);have HX2:=hQ ((hb.block w.heap.size (Qaa HX1.out)).trans HX1.out);have HT2:=hQ (HT1.out.keep hb);clear hb k0 k1 k2 k3;have k0:w2.cell? ⟨w.heap.size,0,none⟩=some (.int .i64 v.kind):=Qab HX2.out 0 _ rfl;have k1:w2.cell? ⟨w.heap.size,1,none⟩=some (.string v.text):=Qab HX2.out 1 _ rfl;have k2:w2.cell? ⟨w.heap.size,2,none⟩=some (.slice v.la v.ll v.lc):=Qab HX2.out 2 _ rfl;have k3:w2.cell? ⟨w.heap.size,3,none⟩=some (.slice v.ka v.kl v.kc):=Qab HX2.out 3 _ rfl)
     | (go_at_call 70;refine(Qie _ S t v _ (xA _) HT2.out HZ.out).mono ?_;rw[hl];rintro e w3⟨rfl,hb⟩;have HB3:=hQ (yC HB2.out hb);have HX3:=hQ ((hb.block w.heap.size (Qaa HX2.out)).trans HX2.out);have HT3:=hQ (HT2.out.keep hb);clear hb k0 k1 k2 k3;have k0:w3.cell? ⟨w.heap.size,0,none⟩=some (.int .i64 v.kind):=Qab HX3.out 0 _ rfl;have k1:w3.cell? ⟨w.heap.size,1,none⟩=some (.string v.text):=Qab HX3.out 1 _ rfl;have k2:w3.cell? ⟨w.heap.size,2,none⟩=some (.slice v.la v.ll v.lc):=Qab HX3.out 2 _ rfl;have k3:w3.cell? ⟨w.heap.size,3,none⟩=some (.slice v.ka v.kl v.kc):=Qab HX3.out 3 _ rfl)
     | (go_at_call 71;refine(Qjz _ S t v _ (xA _) HT3.out HZ2.out).mono ?_;rintro e w4⟨rfl,hb⟩;have HB4:=hQ (yC HB3.out hb);have HX4:=hQ ((hb.block w.heap.size (Qaa HX3.out)).trans HX3.out);have HT4:=hQ (HT3.out.keep hb);clear hb k0 k1 k2 k3;have k0:w4.cell? ⟨w.heap.size,0,none⟩=some (.int .i64 v.kind):=Qab HX4.out 0 _ rfl;have k1:w4.cell? ⟨w.heap.size,1,none⟩=some (.string v.text):=Qab HX4.out 1 _ rfl;have k2:w4.cell? ⟨w.heap.size,2,none⟩=some (.slice v.la v.ll v.lc):=Qab HX4.out 2 _ rfl;have k3:w4.cell? ⟨w.heap.size,3,none⟩=some (.slice v.ka v.kl v.kc):=Qab HX4.out 3 _ rfl)
     | fail)
    go_ret;exact⟨Qaj (by first | exact HR.out.symm | (rw[HR.out];simp_all;done)),HB4.out⟩
end Go.Proofs.YtfjpemdejoejbaaGreat
