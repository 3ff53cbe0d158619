/- Part 20 -/
import Derived.Test.YtfjpemdejoejbaaGreatTp19
set_option maxRecDepth 100000
set_option maxHeartbeats 4000000
namespace Go.Proofs.YtfjpemdejoejbaaGreat
open Go.Proofs.Tryz Go.RowKit
def Zm7(t:Tr)(W:World)(i:Value)(wr:World):Prop:=∃ j:Nat,i = .int .i64 j/\j<=t.kids.length/\Qa2 t=Qbo t.kind t.kids.length j (t.kids.drop j)/\Below W.heap.size W wr
theorem Qft(N:Nat):∀ (S:Nat->Prop) (t:Tr) (v:TV) (w:World),SizeOf.sizeOf t<=N->TrAt S w t v->Qai t<=1000->Qbg t=true ->
  Calls prog 31 #[.agg #[.int .i64 v.kind,.string v.text,.slice v.la v.ll v.lc,.slice v.ka v.kl v.kc]] w fun e w'=>e = .returned (.bool (Qa2 t))/\Below w.heap.size w w':=by
 induction N with
 | zero=>intro S t v w h;have:=Qf3 t;omega
 | succ N ih =>
  intro S t v w hN h hz hw;obtain⟨htx,_,hkw⟩:=Qa7 hw;have hkl:=h.kl;obtain⟨vk,vx,vla,vll,vlc,vka,vkl,vkc⟩:=v;simp only at hkl;obtain⟨rfl,rfl,rfl,rfl⟩:=hkl;have HIH:=hQ ih;have HN:=hQ hN;have HZ:=hQ hz;have HKW:=hQ hkw;have HTX:=hQ htx;have hkn:t.kids.length<=1000:=by have:=Qa0 t.kids;have:=Qa5 t;omega
  have HKN:=hQ hkn;have HKI:=hQ (show(t.kids.length:Int)<=1000 from by omega);have HB0:=hQ ((xC w.heap.size w).alloc (xA _) (trO ⟨t.kind,t.text,vla,t.leads.length,vlc,vka,t.kids.length,vkc⟩));have HX:=hQ (xH w (trO ⟨t.kind,t.text,vla,t.leads.length,vlc,vka,t.kids.length,vkc⟩));have HT:=hQ (h.keep HB0.out);have HSE:=hQ (Qd8 t);clear ih h hz hw hN hkw htx;go_enter func31,ntmps31;go_wp2_with fail;generalize hW0:w.alloc (.cells #[.int .i64 t.kind,.string t.text,.slice vla t.leads.length vlc,.slice vka t.kids.length vkc] 25)=W0 at |-;have HB0':=hQ (show Below w.heap.size w W0 from hW0 ▸ HB0.out);have HX':=hQ (show W0.heap[w.heap.size]? = some (trO ⟨t.kind,t.text,vla,t.leads.length,vlc,vka,t.kids.length,vkc⟩) from hW0 ▸ HX.out);have HT':=hQ (show TrAt S W0 t ⟨t.kind,t.text,vla,t.leads.length,vlc,vka,t.kids.length,vkc⟩ from hW0 ▸ HT.out);clear HB0 HX HT hW0;have k0:W0.cell? ⟨w.heap.size,0,none⟩=some (.int .i64 t.kind):=Qab HX'.out 0 _ rfl;have k1:W0.cell? ⟨w.heap.size,1,none⟩=some (.string t.text):=Qab HX'.out 1 _ rfl;have k3:W0.cell? ⟨w.heap.size,3,none⟩=some (.slice vka t.kids.length vkc):=Qab HX'.out 3 _ rfl
  by_cases hl:Qat t.kind t.kids.length<0
  ·have d0:=xS hl;have HR:=hQ (show Qa2 t=false from by rw[HSE.out,d0];rfl);go_wp2_with (go_at_call 57;refine(Qhs t.kind t.kids.length _ HKI.out).mono ?_;rintro e w1⟨rfl,rfl⟩)
   go_ret;exact⟨Qaj HR.out.symm,HB0'.out⟩
  ·have d0:=xR hl
   cases hx:Qba (Qae t.kind) t.text
   ·have HR:=hQ (show Qa2 t=false from by rw[HSE.out,hx,Bool.and_false];rfl);go_wp2_with (first | (go_at_call 57;refine(Qhs t.kind t.kids.length _ HKI.out).mono ?_;rintro e w1⟨rfl,rfl⟩) | (go_at_call 58;refine(Qkv t.kind t.text _ HTX.out).mono ?_;rw[hx];rintro e w2⟨rfl,hb2⟩;have HB2:=hQ (yC HB0'.out hb2);clear hb2))
    go_ret;exact⟨Qaj HR.out.symm,HB2.out⟩
   ·have HR:=hQ (show Qa2 t=Qbo t.kind t.kids.length 0 t.kids from by rw[HSE.out,hx,d0];rfl);go_wp2_with (first | (go_at_call 57;refine(Qhs t.kind t.kids.length _ HKI.out).mono ?_;rintro e w1⟨rfl,rfl⟩) | (go_at_call 58;refine(Qkv t.kind t.text _ HTX.out).mono ?_;rw[hx];rintro e w2⟨rfl,hb2⟩;have HB2:=hQ (yC HB0'.out hb2);have HX2:=hQ ((hb2.block w.heap.size (Qaa HX'.out)).trans HX'.out);have HT2:=hQ (HT'.out.keep hb2);clear hb2 k0 k1 k3))
    clear d0 hx
    go_loopw [3] (fun i wr=>Zm7 t w2 i wr) (fun i _=>t.kids.length-(intOf i).toNat)
    case atStart=>exact⟨0,rfl,xZ _,HR.out,xC _ _⟩
    case round =>
     obtain⟨j,rfl,hj,hf,hbr⟩:=hrel;have HF:=hQ hf;have HBR:=hQ hbr;have HX3:=hQ ((hbr.block w.heap.size (Qaa HX2.out)).trans HX2.out);have HT3:=hQ (HT2.out.keep hbr);have k0:wr.cell? ⟨w.heap.size,0,none⟩=some (.int .i64 t.kind):=Qab HX3.out 0 _ rfl;have k1:wr.cell? ⟨w.heap.size,1,none⟩=some (.string t.text):=Qab HX3.out 1 _ rfl;have k2:wr.cell? ⟨w.heap.size,2,none⟩=some (.slice vla t.leads.length vlc):=Qab HX3.out 2 _ rfl;have k3:wr.cell? ⟨w.heap.size,3,none⟩=some (.slice vka t.kids.length vkc):=Qab HX3.out 3 _ rfl;have kbl:=Qaa HX3.out;clear hf hbr
     by_cases hlt:j<t.kids.length
     ·obtain⟨a,ha⟩:∃ a,t.kids[j]? = some a:=⟨_,xF hlt⟩;obtain⟨xb,xo,hka⟩:∃ b off,vka=some ⟨b,off,none⟩:=HT3.out.addr.resolve_left (by show t.kids.length≠0;omega);subst hka;obtain⟨u,c0,c1,c2,c3,hu⟩:=HT3.out.at rfl ha;have cbl:xb<wr.heap.size:=xK wr _ c3;have huk:=hu.kl.2.2.1;have HU:=hQ hu;have HD:=hQ (show Qa2 t=(Qg0 t.kind t.kids.length j u.kind && Qa2 a && Qbo t.kind t.kids.length (j+1) (t.kids.drop (j+1))) from by rw[HF.out,Qul _ _ _ _ _ ha,huk]);have HNA:=hQ (show SizeOf.sizeOf a<=N from by have:=Qar ha;have:=HN.out;omega);have HZA:=hQ (show Qai a<=1000 from by have:=Qbi ha;have:=HZ.out;omega);have HWA:=hQ (HKW.out j a ha);have HJN:=hQ (show j<1000 from by omega);have hja:(j:Int)<(t.kids.length:Int):=by omega
      have hj0:(0:Int)<=(j:Int):=by omega
      have hj1:(j:Int)+1<=1000:=by omega
      clear ha hu huk
      cases hkd:Qg0 t.kind t.kids.length j u.kind
      ·have HRR:=hQ (show Qa2 t=false from by rw[HD.out,hkd];rfl);go_wp2_with fail
       first | go_region_law (go_simp;go_at_call 59;refine(Qqm t.kind t.text vla _ vlc _ _ vkc j u.kind _ HJN.out HKN.out).mono ?_;rw[hkd];rintro e w4⟨rfl,hb4⟩;have HB4:=hQ (show Below wr.heap.size wr w4 from((xC wr.heap.size wr).drew).trans hb4);clear hb4) | fail
       all_goals
        go_wp2;go_ret;exact⟨Qaj HRR.out.symm,HB2.out.trans ((yC HBR.out HB4.out).mono HB2.out.size)⟩
      ·cases hsa:Qa2 a
       ·have HRR:=hQ (show Qa2 t=false from by rw[HD.out,hkd,hsa];rfl);go_wp2_with fail
        go_region_held3 (fun w'=>w'.cell? ⟨w.heap.size,0,none⟩=some (.int .i64 t.kind)/\w'.cell? ⟨w.heap.size,1,none⟩=some (.string t.text)/\w'.cell? ⟨w.heap.size,2,none⟩=some (.slice vla t.leads.length vlc)/\w'.cell? ⟨w.heap.size,3,none⟩=some (.slice (some ⟨xb,xo,none⟩) t.kids.length vkc)/\w'.cell? ⟨xb,xo+j*4,none⟩=some (.int .i64 u.kind)/\w'.cell? ⟨xb,xo+j*4+1,none⟩=some (.string u.text)/\w'.cell? ⟨xb,xo+j*4+2,none⟩=some (.slice u.la u.ll u.lc)/\w'.cell? ⟨xb,xo+j*4+3,none⟩=some (.slice u.ka u.kl u.kc)) (first | with_reducible exact⟨k0,k1,k2,k3,c0,c1,c2,c3⟩ | go_keep) (first
         | (go_at_call 59;refine(Qqm t.kind t.text vla _ vlc _ _ vkc j u.kind _ HJN.out HKN.out).mono ?_;rw[hkd];rintro e w4⟨rfl,hb4⟩;have hb5:Below wr.heap.size wr w4:=((xC wr.heap.size wr).drew).trans hb4;have HB4:=hQ hb5;have e0:=(xJ (w:=wr) (a:=⟨xb,xo+j*4,none⟩) (hb5.block xb cbl)).trans c0;have e1:=(xJ (w:=wr) (a:=⟨xb,xo+j*4+1,none⟩) (hb5.block xb cbl)).trans c1;have e2:=(xJ (w:=wr) (a:=⟨xb,xo+j*4+2,none⟩) (hb5.block xb cbl)).trans c2;have e3:=(xJ (w:=wr) (a:=⟨xb,xo+j*4+3,none⟩) (hb5.block xb cbl)).trans c3;have f0:=(xJ (w:=wr) (a:=⟨w.heap.size,0,none⟩) (hb5.block w.heap.size kbl)).trans k0;have f1:=(xJ (w:=wr) (a:=⟨w.heap.size,1,none⟩) (hb5.block w.heap.size kbl)).trans k1;have f2:=(xJ (w:=wr) (a:=⟨w.heap.size,2,none⟩) (hb5.block w.heap.size kbl)).trans k2;have f3:=(xJ (w:=wr) (a:=⟨w.heap.size,3,none⟩) (hb5.block w.heap.size kbl)).trans k3;have HU4:=hQ (HU.out.keep hb5);clear hb4 hb5 c0 c1 c2 c3 k0 k1 k2 k3;have c0:=e0;have c1:=e1;have c2:=e2;have c3:=e3;have k0:=f0;have k1:=f1;have k2:=f2;have k3:=f3;clear e0 e1 e2 e3 f0 f1 f2 f3)
         | (go_at_call 31;refine(HIH.out S a u _ HNA.out HU4.out HZA.out HWA.out).mono ?_;rw[hsa];rintro e w5⟨rfl,hb5⟩;have HB5:=hQ (show Below wr.heap.size wr w5 from yC HB4.out hb5);have h5:=HB5.out;have e0:=(xJ (w:=w4) (a:=⟨xb,xo+j*4,none⟩) (hb5.block xb (xK w4 _ c0))).trans c0;have e1:=(xJ (w:=w4) (a:=⟨xb,xo+j*4+1,none⟩) (hb5.block xb (xK w4 _ c0))).trans c1;have e2:=(xJ (w:=w4) (a:=⟨xb,xo+j*4+2,none⟩) (hb5.block xb (xK w4 _ c0))).trans c2;have e3:=(xJ (w:=w4) (a:=⟨xb,xo+j*4+3,none⟩) (hb5.block xb (xK w4 _ c0))).trans c3;have f0:=(xJ (w:=w4) (a:=⟨w.heap.size,0,none⟩) (hb5.block w.heap.size (xK w4 _ k0))).trans k0;have f1:=(xJ (w:=w4) (a:=⟨w.heap.size,1,none⟩) (hb5.block w.heap.size (xK w4 _ k0))).trans k1;have f2:=(xJ (w:=w4) (a:=⟨w.heap.size,2,none⟩) (hb5.block w.heap.size (xK w4 _ k0))).trans k2;have f3:=(xJ (w:=w4) (a:=⟨w.heap.size,3,none⟩) (hb5.block w.heap.size (xK w4 _ k0))).trans k3;clear hb5 h5 c0 c1 c2 c3 k0 k1 k2 k3;have c0:=e0;have c1:=e1;have c2:=e2;have c3:=e3;have k0:=f0;have k1:=f1;have k2:=f2;have k3:=f3;clear e0 e1 e2 e3 f0 f1 f2 f3))
        all_goals
         clear c0 c1 c2 c3 k0 k1 k2 k3;go_wp2;go_ret;exact⟨Qaj HRR.out.symm,HB2.out.trans ((yC HBR.out HB5.out).mono HB2.out.size)⟩
       ·have HRR:=hQ (show Qa2 t=Qbo t.kind t.kids.length (j+1) (t.kids.drop (j+1)) from by rw[HD.out,hkd,hsa];rfl);go_wp2_with fail
        go_region_held3 (fun w'=>w'.cell? ⟨w.heap.size,0,none⟩=some (.int .i64 t.kind)/\w'.cell? ⟨w.heap.size,1,none⟩=some (.string t.text)/\w'.cell? ⟨w.heap.size,2,none⟩=some (.slice vla t.leads.length vlc)/\w'.cell? ⟨w.heap.size,3,none⟩=some (.slice (some ⟨xb,xo,none⟩) t.kids.length vkc)/\w'.cell? ⟨xb,xo+j*4,none⟩=some (.int .i64 u.kind)/\w'.cell? ⟨xb,xo+j*4+1,none⟩=some (.string u.text)/\w'.cell? ⟨xb,xo+j*4+2,none⟩=some (.slice u.la u.ll u.lc)/\w'.cell? ⟨xb,xo+j*4+3,none⟩=some (.slice u.ka u.kl u.kc)) (first | with_reducible exact⟨k0,k1,k2,k3,c0,c1,c2,c3⟩ | go_keep) (first
         | (go_at_call 59;refine(Qqm t.kind t.text vla _ vlc _ _ vkc j u.kind _ HJN.out HKN.out).mono ?_;rw[hkd];rintro e w4⟨rfl,hb4⟩;have hb5:Below wr.heap.size wr w4:=((xC wr.heap.size wr).drew).trans hb4;have HB4:=hQ hb5;have e0:=(xJ (w:=wr) (a:=⟨xb,xo+j*4,none⟩) (hb5.block xb cbl)).trans c0;have e1:=(xJ (w:=wr) (a:=⟨xb,xo+j*4+1,none⟩) (hb5.block xb cbl)).trans c1;have e2:=(xJ (w:=wr) (a:=⟨xb,xo+j*4+2,none⟩) (hb5.block xb cbl)).trans c2;have e3:=(xJ (w:=wr) (a:=⟨xb,xo+j*4+3,none⟩) (hb5.block xb cbl)).trans c3;have f0:=(xJ (w:=wr) (a:=⟨w.heap.size,0,none⟩) (hb5.block w.heap.size kbl)).trans k0;have f1:=(xJ (w:=wr) (a:=⟨w.heap.size,1,none⟩) (hb5.block w.heap.size kbl)).trans k1;have f2:=(xJ (w:=wr) (a:=⟨w.heap.size,2,none⟩) (hb5.block w.heap.size kbl)).trans k2;have f3:=(xJ (w:=wr) (a:=⟨w.heap.size,3,none⟩) (hb5.block w.heap.size kbl)).trans k3;have HU4:=hQ (HU.out.keep hb5);clear hb4 hb5 c0 c1 c2 c3 k0 k1 k2 k3;have c0:=e0;have c1:=e1;have c2:=e2;have c3:=e3;have k0:=f0;have k1:=f1;have k2:=f2;have k3:=f3;clear e0 e1 e2 e3 f0 f1 f2 f3)
         | (go_at_call 31;refine(HIH.out S a u _ HNA.out HU4.out HZA.out HWA.out).mono ?_;rw[hsa];rintro e w5⟨rfl,hb5⟩;have HB5:=hQ (show Below wr.heap.size wr w5 from yC HB4.out hb5);have h5:=HB5.out;have e0:=(xJ (w:=w4) (a:=⟨xb,xo+j*4,none⟩) (hb5.block xb (xK w4 _ c0))).trans c0;have e1:=(xJ (w:=w4) (a:=⟨xb,xo+j*4+1,none⟩) (hb5.block xb (xK w4 _ c0))).trans c1;have e2:=(xJ (w:=w4) (a:=⟨xb,xo+j*4+2,none⟩) (hb5.block xb (xK w4 _ c0))).trans c2;have e3:=(xJ (w:=w4) (a:=⟨xb,xo+j*4+3,none⟩) (hb5.block xb (xK w4 _ c0))).trans c3;have f0:=(xJ (w:=w4) (a:=⟨w.heap.size,0,none⟩) (hb5.block w.heap.size (xK w4 _ k0))).trans k0;have f1:=(xJ (w:=w4) (a:=⟨w.heap.size,1,none⟩) (hb5.block w.heap.size (xK w4 _ k0))).trans k1;have f2:=(xJ (w:=w4) (a:=⟨w.heap.size,2,none⟩) (hb5.block w.heap.size (xK w4 _ k0))).trans k2;have f3:=(xJ (w:=w4) (a:=⟨w.heap.size,3,none⟩) (hb5.block w.heap.size (xK w4 _ k0))).trans k3;clear hb5 h5 c0 c1 c2 c3 k0 k1 k2 k3;have c0:=e0;have c1:=e1;have c2:=e2;have c3:=e3;have k0:=f0;have k1:=f1;have k2:=f2;have k3:=f3;clear e0 e1 e2 e3 f0 f1 f2 f3))
        all_goals
         clear c0 c1 c2 c3 k0 k1 k2 k3;go_wp2;go_roundw
         case measure=>simp[intOf];omega
         case rel=>exact⟨j+1,by go_num,by omega,HRR.out,yC HBR.out HB5.out⟩
     ·have HRR:=hQ (show Qa2 t=true from by rw[HF.out,Qr9 _ _ _ _ (by omega)]);go_wp2;go_ret;exact⟨Qaj HRR.out.symm,yC HB2.out HBR.out⟩
def Zm8(t:Tr)(W:World)(i:Value)(wr:World):Prop:=∃ j:Nat,i = .int .i64 j/\j<=t.leads.length/\Qj8 t=(Qmk t.kind j (t.leads.drop j) && Qtf t.kids)/\Below W.heap.size W wr
def Zm9(t:Tr)(W:World)(i:Value)(wr:World):Prop:=∃ j:Nat,i = .int .i64 j/\j<=t.kids.length/\Qj8 t=Qtf (t.kids.drop j)/\Below W.heap.size W wr
def Zb7(t:Tr)(W:World)(i:Value)(wr:World):Prop:=∃ j:Nat,i = .int .i64 j/\j<=t.kids.length/\Qgk t=Qmm (t.kids.drop j)/\Below W.heap.size W wr
theorem Zg1(N:Nat):∀ (S:Nat->Prop) (t:Tr) (v:TV) (w:World),SizeOf.sizeOf t<=N->TrAt S w t v->Qai t<=1000->Qbs t=true->Qbg t=true ->
  Calls prog 103 #[.agg #[.int .i64 v.kind,.string v.text,.slice v.la v.ll v.lc,.slice v.ka v.kl v.kc]] w fun e w'=>e = .returned (.bool (Qj8 t))/\Below w.heap.size w w':=by
 induction N with
 | zero=>intro S t v w h;have:=Qf3 t;omega
 | succ N ih =>
  intro S t v w hN h hz hs hw;have hkl:=h.kl;obtain⟨vk,vx,vla,vll,vlc,vka,vkl,vkc⟩:=v;simp only at hkl;obtain⟨rfl,rfl,rfl,rfl⟩:=hkl;have HIH:=hQ ih;have HN:=hQ hN;have HZ:=hQ hz;have hkn:t.kids.length<=1000:=by have:=Qa0 t.kids;have:=Qa5 t;omega
  have HKN:=hQ hkn;have HKI:=hQ (show(t.kids.length:Int)<=1000 from by omega);have HB0:=hQ ((xC w.heap.size w).alloc (xA _) (trO ⟨t.kind,t.text,vla,t.leads.length,vlc,vka,t.kids.length,vkc⟩));have HX:=hQ (xH w (trO ⟨t.kind,t.text,vla,t.leads.length,vlc,vka,t.kids.length,vkc⟩));have HT:=hQ (h.keep HB0.out);obtain⟨hk0,_,hk2⟩:=Qcc hs;obtain⟨_,hly,hkw⟩:=Qa7 hw;have HK2:=hQ hk2;have HKW:=hQ hkw;have HLY:=hQ hly;have hll:(t.leads.length:Int)<=140737488355328:=by omega
  have HSE:=hQ ((Zjd t).trans (by rw[Qvv t.kind t.kids.length (by omega)]));have HRL:=hQ (fun(w:World)=>Qhs t.kind t.kids.length w HKI.out);clear ih h hz hw hN hkw hs hk0 hk2 hly;go_enter func103,ntmps103;go_wp2_with fail;generalize hW0:w.alloc (.cells #[.int .i64 t.kind,.string t.text,.slice vla t.leads.length vlc,.slice vka t.kids.length vkc] 25)=W0 at |-;have HB0':=hQ (show Below w.heap.size w W0 from hW0 ▸ HB0.out);have HX':=hQ (show W0.heap[w.heap.size]? = some (trO ⟨t.kind,t.text,vla,t.leads.length,vlc,vka,t.kids.length,vkc⟩) from hW0 ▸ HX.out);have HT':=hQ (show TrAt S W0 t ⟨t.kind,t.text,vla,t.leads.length,vlc,vka,t.kids.length,vkc⟩ from hW0 ▸ HT.out);clear HB0 HX HT hW0;have k0:W0.cell? ⟨w.heap.size,0,none⟩=some (.int .i64 t.kind):=Qab HX'.out 0 _ rfl;have k2:W0.cell? ⟨w.heap.size,2,none⟩=some (.slice vla t.leads.length vlc):=Qab HX'.out 2 _ rfl;have k3:W0.cell? ⟨w.heap.size,3,none⟩=some (.slice vka t.kids.length vkc):=Qab HX'.out 3 _ rfl
  cases hlq:((t.leads.length:Int)==Qat t.kind t.kids.length)
  ·have hlq':((t.leads.length:Int) != Qat t.kind t.kids.length)=true:=by simpa using hlq
   have HR:=hQ (show Qj8 t=false from by rw[HSE.out,hlq];rfl)
   go_quiet ((go_at_call 57;exact Calls.quiet_of_same ((HRL.out _).mono fun _ _ h=>⟨h.1,h.2.symm⟩)))
   go_wp2;go_ret;exact⟨Qaj HR.out.symm,below_drewN HB0'.out _⟩
  ·have hlq':((t.leads.length:Int) != Qat t.kind t.kids.length)=false:=by simpa using hlq
   have HR:=hQ (show Qj8 t=(Qmk t.kind 0 t.leads && Qtf t.kids) from by rw[HSE.out,hlq,Bool.true_and]);clear hlq
   go_quiet ((go_at_call 57;exact Calls.quiet_of_same ((HRL.out _).mono fun _ _ h=>⟨h.1,h.2.symm⟩)))
   go_wp2;clear k0 k2 k3 hlq'
   go_loopw [3] (fun i wr=>Zm8 t W0 i wr) (fun i _=>t.leads.length-(intOf i).toNat)
   case atStart=>exact⟨0,rfl,xZ _,HR.out,⟨rfl,rfl,rfl,xA _,fun _ _=>rfl⟩⟩
   case round =>
    obtain⟨j,rfl,hj,hf,hbr⟩:=hrel;have HF:=hQ hf;have HBR:=hQ hbr;have HX3:=hQ ((hbr.block w.heap.size (Qaa HX'.out)).trans HX'.out);have HT3:=hQ (HT'.out.keep hbr);have k0:wr.cell? ⟨w.heap.size,0,none⟩=some (.int .i64 t.kind):=Qab HX3.out 0 _ rfl;have k2:wr.cell? ⟨w.heap.size,2,none⟩=some (.slice vla t.leads.length vlc):=Qab HX3.out 2 _ rfl;have kbl:=Qaa HX3.out;clear hf hbr
    by_cases hlt:j<t.leads.length
    ·obtain⟨y,hy⟩:∃ y,t.leads[j]? = some y:=⟨_,xF hlt⟩;obtain⟨lb,lo,hla⟩:∃ b off,vla=some ⟨b,off,none⟩:=HT3.out.laddr.resolve_left (by omega);subst hla;have cy:=HT3.out.lat rfl hy;have cbl:=xK _ _ cy;have HYS:=hQ (Nat.le_of_lt (HLY.out y (yA hy)));have HAT:=hQ (HF.out.trans (by rw[Zfy t.kind t.leads j y hy]));have hi0:(0:Int)<=(j:Int):=by omega
     have hi1:(j:Int)<(t.leads.length:Int):=by omega
     have hi2:(j:Int)+1<=140737488355328:=by omega
     clear hy
     cases hkd:(t.kind==1)
     ·have hbb:(t.kind==1 && (j:Int)==2)=false:=by rw[hkd];rfl
      have HTV:=hQ (fun(w:World)=>Qni y false w HYS.out)
      cases hty:Qge y false
      ·have HRR:=hQ (show Qj8 t=false from by rw[HAT.out,hbb,hty];rfl);rw[hty]at HTV;clear hbb hty;go_wp2_with fail
       go_quiet ((go_at_call 143;exact Calls.quiet_of_same ((HTV.out _).mono fun _ _ h=>⟨h.1,h.2.symm⟩)))
       go_wp2;go_ret;exact⟨Qaj HRR.out.symm,below_drewN (yC HB0'.out HBR.out) _⟩
      ·have HRR:=hQ (show Qj8 t=(Qmk t.kind (j+1) (t.leads.drop (j+1)) && Qtf t.kids) from by rw[HAT.out,hbb,hty,Bool.true_and]);rw[hty]at HTV;clear hbb hty;go_wp2_with fail
       go_quiet ((go_at_call 143;exact Calls.quiet_of_same ((HTV.out _).mono fun _ _ h=>⟨h.1,h.2.symm⟩)))
       go_wp2;go_roundw
       case measure=>simp[intOf];omega
       case rel=>exact⟨j+1,by go_num,by omega,HRR.out,below_drewN HBR.out _⟩
     ·have hbb:(t.kind==1 && (j:Int)==2)=((j:Int)==2):=by rw[hkd];rfl
      have HTV:=hQ (fun(w:World)=>Qni y ((j:Int)==2) w HYS.out)
      cases hty:Qge y ((j:Int)==2)
      ·have HRR:=hQ (show Qj8 t=false from by rw[HAT.out,hbb,hty];rfl);rw[hty]at HTV;clear hbb hty;go_wp2_with fail
       go_quiet ((go_at_call 143;exact Calls.quiet_of_same ((HTV.out _).mono fun _ _ h=>⟨h.1,h.2.symm⟩)))
       go_wp2;go_ret;exact⟨Qaj HRR.out.symm,below_drewN (yC HB0'.out HBR.out) _⟩
      ·have HRR:=hQ (show Qj8 t=(Qmk t.kind (j+1) (t.leads.drop (j+1)) && Qtf t.kids) from by rw[HAT.out,hbb,hty,Bool.true_and]);rw[hty]at HTV;clear hbb hty;go_wp2_with fail
       go_quiet ((go_at_call 143;exact Calls.quiet_of_same ((HTV.out _).mono fun _ _ h=>⟨h.1,h.2.symm⟩)))
       go_wp2;go_roundw
       case measure=>simp[intOf];omega
       case rel=>exact⟨j+1,by go_num,by omega,HRR.out,below_drewN HBR.out _⟩
    ·have HKR:=hQ (show Qj8 t=Qtf t.kids from by rw[HF.out,Zat t.kind t.leads j (by omega),Bool.true_and]);go_wp2;clear k0 k2 kbl;obtain⟨wq,rfl⟩:∃ wq,wq=wr:=⟨_,rfl⟩
     go_loopw [4] (fun i w5=>Zm9 t wq i w5) (fun i _=>t.kids.length-(intOf i).toNat)
     case atStart=>exact⟨0,rfl,xZ _,HKR.out,xC _ _⟩
     case round =>
      obtain⟨l,rfl,hl,hf,hb5⟩:=hrel;obtain⟨w5,rfl⟩:∃ w5,w5=wr:=⟨_,rfl⟩;have HF5:=hQ hf;have HB5:=hQ hb5;have HX5:=hQ ((hb5.block w.heap.size (Qaa HX3.out)).trans HX3.out);have HT5:=hQ (HT3.out.keep hb5);have k3:w5.cell? ⟨w.heap.size,3,none⟩=some (.slice vka t.kids.length vkc):=Qab HX5.out 3 _ rfl;clear hf hb5
      by_cases hlk:l<t.kids.length
      ·obtain⟨a,ha⟩:∃ a,t.kids[l]? = some a:=⟨_,xF hlk⟩;obtain⟨xb,xo,hka⟩:∃ b off,vka=some ⟨b,off,none⟩:=HT5.out.addr.resolve_left (by omega);subst hka;obtain⟨u,c0,c1,c2,c3,hu⟩:=HT5.out.at rfl ha;have HU:=hQ hu;have HD:=hQ (show Qj8 t=(Qj8 a && Qtf (t.kids.drop (l+1))) from by rw[HF5.out,Zje _ _ _ ha]);have HNA:=hQ (show SizeOf.sizeOf a<=N from by have:=Qar ha;have:=HN.out;omega);have HZA:=hQ (show Qai a<=1000 from by have:=Qbi ha;have:=HZ.out;omega);have HSA:=hQ (HK2.out l a ha);have HWA:=hQ (HKW.out l a ha);have hl0:(0:Int)<=(l:Int):=by omega
       have hl1:(l:Int)<(t.kids.length:Int):=by omega
       have hl2:(l:Int)+1<=140737488355328:=by omega
       clear ha hu
       cases hla:Qj8 a
       ·have HRR:=hQ (show Qj8 t=false from by rw[HD.out,hla];rfl);go_wp2_with (go_at_call 103;refine(HIH.out S a u _ HNA.out HU.out HZA.out HSA.out HWA.out).mono ?_;rw[hla];rintro e w6⟨rfl,hb6⟩;have HB6:=hQ (yC HB5.out hb6);clear hb6)
        go_ret;exact⟨Qaj HRR.out.symm,HB0'.out.trans ((yC HBR.out HB6.out).mono HB0'.out.size)⟩
       ·have HRR:=hQ (show Qj8 t=Qtf (t.kids.drop (l+1)) from by rw[HD.out,hla];rfl);go_wp2_with (go_at_call 103;refine(HIH.out S a u _ HNA.out HU.out HZA.out HSA.out HWA.out).mono ?_;rw[hla];rintro e w6⟨rfl,hb6⟩;have HB6:=hQ (yC HB5.out hb6);clear hb6)
        go_roundw
        case measure=>simp[intOf];omega
        case rel=>exact⟨l+1,by go_num,by omega,HRR.out,HB6.out⟩
      ·have HRR:=hQ (show Qj8 t=true from by rw[HF5.out,Zfz _ _ (by omega)]);go_wp2;go_ret;exact⟨Qaj HRR.out.symm,HB0'.out.trans ((yC HBR.out HB5.out).mono HB0'.out.size)⟩
theorem Qdm(S:Nat->Prop)(t:Tr)(v:TV)(w:World)(h:TrAt S w t v)(hz:Qai t<=1000)(hs:Qbs t=true)(hw:Qbg t=true) :
  Calls prog 69 #[.agg #[.int .i64 v.kind,.string v.text,.slice v.la v.ll v.lc,.slice v.ka v.kl v.kc]] w fun e w'=>e = .returned (.bool (Qam t && Qj8 t))/\Below w.heap.size w w':=by
 have HB0:=hQ ((xC w.heap.size w).alloc (xA _) (trO v));have HX:=hQ (xH w (trO v));have HT:=hQ (h.keep HB0.out);have HZ:=hQ hz;have HS:=hQ hs;have HW:=hQ hw;have HSH:=hQ (Qce (SizeOf.sizeOf t) t (xA _) hz);clear h hz hs hw;go_enter func69,ntmps69;go_wp2_with fail;generalize hW0:w.alloc (.cells #[.int .i64 v.kind,.string v.text,.slice v.la v.ll v.lc,.slice v.ka v.kl v.kc] 25)=W0 at |-;have HB0':=hQ (show Below w.heap.size w W0 from hW0 ▸ HB0.out);have HX':=hQ (show W0.heap[w.heap.size]? = some (trO v) from hW0 ▸ HX.out);have HT':=hQ (show TrAt S W0 t v from hW0 ▸ HT.out);clear HB0 HX HT hW0;have k0:W0.cell? ⟨w.heap.size,0,none⟩=some (.int .i64 v.kind):=Qab HX'.out 0 _ rfl;have k1:W0.cell? ⟨w.heap.size,1,none⟩=some (.string v.text):=Qab HX'.out 1 _ rfl;have k2:W0.cell? ⟨w.heap.size,2,none⟩=some (.slice v.la v.ll v.lc):=Qab HX'.out 2 _ rfl;have k3:W0.cell? ⟨w.heap.size,3,none⟩=some (.slice v.ka v.kl v.kc):=Qab HX'.out 3 _ rfl
 cases hsh:Qa2 t
 ·have HR:=hQ (show(Qam t && Qj8 t)=false from by rw[<-HSH.out,hsh];rfl);go_wp2_with (go_at_call 31;refine(Qft _ S t v _ (xA _) HT'.out HZ.out HW.out).mono ?_;rw[hsh];rintro e w2⟨rfl,hb2⟩;have HB2:=hQ (yC HB0'.out hb2);clear hb2 k0 k1 k2 k3)
  go_ret;exact⟨Qaj HR.out.symm,HB2.out⟩
 ·have HR:=hQ (show(Qam t && Qj8 t)=Qj8 t from by rw[<-HSH.out,hsh];rfl);go_wp2_with (first | (go_at_call 31;refine(Qft _ S t v _ (xA _) HT'.out HZ.out HW.out).mono ?_;rw[hsh];rintro e w2⟨rfl,hb2⟩;have HB2:=hQ (yC HB0'.out hb2);have HX2:=hQ ((hb2.block w.heap.size (Qaa HX'.out)).trans HX'.out);have HT2:=hQ (HT'.out.keep hb2);clear hb2 k0 k1 k2 k3;have k0:=Qab HX2.out 0 _ rfl;have k1:=Qab HX2.out 1 _ rfl;have k2:=Qab HX2.out 2 _ rfl;have k3:=Qab HX2.out 3 _ rfl) | (go_at_call 103;refine(Zg1 _ S t v _ (xA _) HT2.out HZ.out HS.out HW.out).mono ?_;rintro e w3⟨rfl,hb3⟩;have HB3:=hQ (yC HB2.out hb3);clear hb3))
  go_ret;exact⟨Qaj HR.out.symm,HB3.out⟩
theorem Qie(N:Nat):∀ (S:Nat->Prop) (t:Tr) (v:TV) (w:World),SizeOf.sizeOf t<=N->TrAt S w t v->Qai t<=1000 ->
  Calls prog 70 #[.agg #[.int .i64 v.kind,.string v.text,.slice v.la v.ll v.lc,.slice v.ka v.kl v.kc]] w fun e w'=>e = .returned (.bool (Qgk t))/\Below w.heap.size w w':=by
 induction N with
 | zero=>intro S t v w h;have:=Qf3 t;omega
 | succ N ih =>
  intro S t v w hN h hz;have hkl:=h.kl;obtain⟨vk,vx,vla,vll,vlc,vka,vkl,vkc⟩:=v;simp only at hkl;obtain⟨rfl,rfl,rfl,rfl⟩:=hkl;have HIH:=hQ ih;have HN:=hQ hN;have HZ:=hQ hz;have hkn:t.kids.length<=1000:=by have:=Qa0 t.kids;have:=Qa5 t;omega
  have HKN:=hQ hkn;have HKI:=hQ (show(t.kids.length:Int)<=1000 from by omega);have HB0:=hQ ((xC w.heap.size w).alloc (xA _) (trO ⟨t.kind,t.text,vla,t.leads.length,vlc,vka,t.kids.length,vkc⟩));have HX:=hQ (xH w (trO ⟨t.kind,t.text,vla,t.leads.length,vlc,vka,t.kids.length,vkc⟩));have HT:=hQ (h.keep HB0.out);have HSE:=hQ (Zbz t);have HLR:=hQ (show Qmn t.kind t.kids.length=((t.kind==1 && decide (40<t.kids.length)) || (t.kind==2 && decide (10<t.kids.length)) || (t.kind==16 && decide (8<t.kids.length)) || (t.kind==18 && decide (16<t.kids.length))) from rfl);clear ih h hz hN
  by_cases hk:t.kind=1\/t.kind=2\/t.kind=16\/t.kind=18
  ·rcases hk with hk | hk | hk | hk
   ·have e1:(t.kind==1)=true:=beq_iff_eq.2 hk;have e2:(t.kind==2)=false:=Qcr (by omega);have e16:(t.kind==16)=false:=Qcr (by omega);have e18:(t.kind==18)=false:=Qcr (by omega)
    by_cases hd:40<t.kids.length
    ·have HR:=hQ (show Qgk t=false from by rw[HSE.out,HLR.out,e1,e2,e16,e18,xS hd];simp);have d1:decide ((40:Int)<(t.kids.length:Int))=true:=xS (by omega);have d2:decide (40<t.kids.length)=true:=xS hd;clear hk hd;go_enter func70,ntmps70;go_wp2;go_ret;exact⟨Qaj HR.out.symm,HB0.out⟩
    ·have HR:=hQ (show Qgk t=Qmm t.kids from by rw[HSE.out,HLR.out,e1,e2,e16,e18,xR hd];simp);have d1:decide ((40:Int)<(t.kids.length:Int))=false:=xR (by omega);have d2:decide (40<t.kids.length)=false:=xR hd;clear hk hd;go_enter func70,ntmps70;go_wp2;clear e1 e2 e16 e18 d1 d2;generalize hW0:w.alloc (.cells #[.int .i64 t.kind,.string t.text,.slice vla t.leads.length vlc,.slice vka t.kids.length vkc] 25)=W0 at |-;have HB0':=hQ (show Below w.heap.size w W0 from hW0 ▸ HB0.out);have HX':=hQ (show W0.heap[w.heap.size]? = some (trO ⟨t.kind,t.text,vla,t.leads.length,vlc,vka,t.kids.length,vkc⟩) from hW0 ▸ HX.out);have HT':=hQ (show TrAt S W0 t ⟨t.kind,t.text,vla,t.leads.length,vlc,vka,t.kids.length,vkc⟩ from hW0 ▸ HT.out);clear HB0 HX HT hW0
     go_loopw [4] (fun i wr=>Zb7 t W0 i wr) (fun i _=>t.kids.length-(intOf i).toNat)
     case atStart=>exact⟨0,rfl,xZ _,HR.out,xC _ _⟩
     case round =>
      obtain⟨l,rfl,hl,hf,hb5⟩:=hrel;have HF5:=hQ hf;have HB5:=hQ hb5;have HX5:=hQ ((hb5.block w.heap.size (Qaa HX'.out)).trans HX'.out);have HT5:=hQ (HT'.out.keep hb5);have k3:wr.cell? ⟨w.heap.size,3,none⟩=some (.slice vka t.kids.length vkc):=Qab HX5.out 3 _ rfl;clear hf hb5
      by_cases hlk:l<t.kids.length
      ·obtain⟨a,ha⟩:∃ a,t.kids[l]? = some a:=⟨_,xF hlk⟩;obtain⟨xb,xo,hka⟩:∃ b off,vka=some ⟨b,off,none⟩:=HT5.out.addr.resolve_left (by omega);subst hka;obtain⟨u,c0,c1,c2,c3,hu⟩:=HT5.out.at rfl ha;have HU:=hQ hu;have HD:=hQ (show Qgk t=(Qgk a && Qmm (t.kids.drop (l+1))) from by rw[HF5.out,Qm9 _ _ _ ha]);have HNA:=hQ (show SizeOf.sizeOf a<=N from by have:=Qar ha;have:=HN.out;omega);have HZA:=hQ (show Qai a<=1000 from by have:=Qbi ha;have:=HZ.out;omega);have hl0:(0:Int)<=(l:Int):=by omega
       have hl1:(l:Int)<(t.kids.length:Int):=by omega
       have hl2:(l:Int)+1<=140737488355328:=by omega
       clear ha hu
       cases hla:Qgk a
       ·have HRR:=hQ (show Qgk t=false from by rw[HD.out,hla];rfl);go_wp2_with (go_at_call 70;refine(HIH.out S a u _ HNA.out HU.out HZA.out).mono ?_;rw[hla];rintro e w6⟨rfl,hb6⟩;have HB6:=hQ (yC HB5.out hb6);clear hb6)
        go_ret;exact⟨Qaj HRR.out.symm,yC HB0'.out HB6.out⟩
       ·have HRR:=hQ (show Qgk t=Qmm (t.kids.drop (l+1)) from by rw[HD.out,hla];rfl);go_wp2_with (go_at_call 70;refine(HIH.out S a u _ HNA.out HU.out HZA.out).mono ?_;rw[hla];rintro e w6⟨rfl,hb6⟩;have HB6:=hQ (yC HB5.out hb6);clear hb6)
        go_roundw
        case measure=>simp[intOf];omega
        case rel=>exact⟨l+1,by go_num,by omega,HRR.out,HB6.out⟩
      ·have HRR:=hQ (show Qgk t=true from by rw[HF5.out,Qko _ _ (by omega)]);go_wp2;go_ret;exact⟨Qaj HRR.out.symm,yC HB0'.out HB5.out⟩
   ·have e1:(t.kind==1)=false:=Qcr (by omega);have e2:(t.kind==2)=true:=beq_iff_eq.2 hk;have e16:(t.kind==16)=false:=Qcr (by omega);have e18:(t.kind==18)=false:=Qcr (by omega)
    by_cases hd:10<t.kids.length
    ·have HR:=hQ (show Qgk t=false from by rw[HSE.out,HLR.out,e1,e2,e16,e18,xS hd];simp);have d1:decide ((10:Int)<(t.kids.length:Int))=true:=xS (by omega);have d2:decide (10<t.kids.length)=true:=xS hd;clear hk hd;go_enter func70,ntmps70;go_wp2;go_ret;exact⟨Qaj HR.out.symm,HB0.out⟩
    ·have HR:=hQ (show Qgk t=Qmm t.kids from by rw[HSE.out,HLR.out,e1,e2,e16,e18,xR hd];simp);have d1:decide ((10:Int)<(t.kids.length:Int))=false:=xR (by omega);have d2:decide (10<t.kids.length)=false:=xR hd;clear hk hd;go_enter func70,ntmps70;go_wp2;clear e1 e2 e16 e18 d1 d2;generalize hW0:w.alloc (.cells #[.int .i64 t.kind,.string t.text,.slice vla t.leads.length vlc,.slice vka t.kids.length vkc] 25)=W0 at |-;have HB0':=hQ (show Below w.heap.size w W0 from hW0 ▸ HB0.out);have HX':=hQ (show W0.heap[w.heap.size]? = some (trO ⟨t.kind,t.text,vla,t.leads.length,vlc,vka,t.kids.length,vkc⟩) from hW0 ▸ HX.out);have HT':=hQ (show TrAt S W0 t ⟨t.kind,t.text,vla,t.leads.length,vlc,vka,t.kids.length,vkc⟩ from hW0 ▸ HT.out);clear HB0 HX HT hW0
     go_loopw [4] (fun i wr=>Zb7 t W0 i wr) (fun i _=>t.kids.length-(intOf i).toNat)
     case atStart=>exact⟨0,rfl,xZ _,HR.out,xC _ _⟩
     case round =>
      obtain⟨l,rfl,hl,hf,hb5⟩:=hrel;have HF5:=hQ hf;have HB5:=hQ hb5;have HX5:=hQ ((hb5.block w.heap.size (Qaa HX'.out)).trans HX'.out);have HT5:=hQ (HT'.out.keep hb5);have k3:wr.cell? ⟨w.heap.size,3,none⟩=some (.slice vka t.kids.length vkc):=Qab HX5.out 3 _ rfl;clear hf hb5
      by_cases hlk:l<t.kids.length
      ·obtain⟨a,ha⟩:∃ a,t.kids[l]? = some a:=⟨_,xF hlk⟩;obtain⟨xb,xo,hka⟩:∃ b off,vka=some ⟨b,off,none⟩:=HT5.out.addr.resolve_left (by omega);subst hka;obtain⟨u,c0,c1,c2,c3,hu⟩:=HT5.out.at rfl ha;have HU:=hQ hu;have HD:=hQ (show Qgk t=(Qgk a && Qmm (t.kids.drop (l+1))) from by rw[HF5.out,Qm9 _ _ _ ha]);have HNA:=hQ (show SizeOf.sizeOf a<=N from by have:=Qar ha;have:=HN.out;omega);have HZA:=hQ (show Qai a<=1000 from by have:=Qbi ha;have:=HZ.out;omega);have hl0:(0:Int)<=(l:Int):=by omega
       have hl1:(l:Int)<(t.kids.length:Int):=by omega
       have hl2:(l:Int)+1<=140737488355328:=by omega
       clear ha hu
       cases hla:Qgk a
       ·have HRR:=hQ (show Qgk t=false from by rw[HD.out,hla];rfl);go_wp2_with (go_at_call 70;refine(HIH.out S a u _ HNA.out HU.out HZA.out).mono ?_;rw[hla];rintro e w6⟨rfl,hb6⟩;have HB6:=hQ (yC HB5.out hb6);clear hb6)
        go_ret;exact⟨Qaj HRR.out.symm,yC HB0'.out HB6.out⟩
       ·have HRR:=hQ (show Qgk t=Qmm (t.kids.drop (l+1)) from by rw[HD.out,hla];rfl);go_wp2_with (go_at_call 70;refine(HIH.out S a u _ HNA.out HU.out HZA.out).mono ?_;rw[hla];rintro e w6⟨rfl,hb6⟩;have HB6:=hQ (yC HB5.out hb6);clear hb6)
        go_roundw
        case measure=>simp[intOf];omega
        case rel=>exact⟨l+1,by go_num,by omega,HRR.out,HB6.out⟩
      ·have HRR:=hQ (show Qgk t=true from by rw[HF5.out,Qko _ _ (by omega)]);go_wp2;go_ret;exact⟨Qaj HRR.out.symm,yC HB0'.out HB5.out⟩
   ·have e1:(t.kind==1)=false:=Qcr (by omega);have e2:(t.kind==2)=false:=Qcr (by omega);have e16:(t.kind==16)=true:=beq_iff_eq.2 hk;have e18:(t.kind==18)=false:=Qcr (by omega)
    by_cases hd:8<t.kids.length
    ·have HR:=hQ (show Qgk t=false from by rw[HSE.out,HLR.out,e1,e2,e16,e18,xS hd];simp);have d1:decide ((8:Int)<(t.kids.length:Int))=true:=xS (by omega);have d2:decide (8<t.kids.length)=true:=xS hd;clear hk hd;go_enter func70,ntmps70;go_wp2;go_ret;exact⟨Qaj HR.out.symm,HB0.out⟩
    ·have HR:=hQ (show Qgk t=Qmm t.kids from by rw[HSE.out,HLR.out,e1,e2,e16,e18,xR hd];simp);have d1:decide ((8:Int)<(t.kids.length:Int))=false:=xR (by omega);have d2:decide (8<t.kids.length)=false:=xR hd;clear hk hd;go_enter func70,ntmps70;go_wp2;clear e1 e2 e16 e18 d1 d2;generalize hW0:w.alloc (.cells #[.int .i64 t.kind,.string t.text,.slice vla t.leads.length vlc,.slice vka t.kids.length vkc] 25)=W0 at |-;have HB0':=hQ (show Below w.heap.size w W0 from hW0 ▸ HB0.out);have HX':=hQ (show W0.heap[w.heap.size]? = some (trO ⟨t.kind,t.text,vla,t.leads.length,vlc,vka,t.kids.length,vkc⟩) from hW0 ▸ HX.out);have HT':=hQ (show TrAt S W0 t ⟨t.kind,t.text,vla,t.leads.length,vlc,vka,t.kids.length,vkc⟩ from hW0 ▸ HT.out);clear HB0 HX HT hW0
     go_loopw [4] (fun i wr=>Zb7 t W0 i wr) (fun i _=>t.kids.length-(intOf i).toNat)
     case atStart=>exact⟨0,rfl,xZ _,HR.out,xC _ _⟩
     case round =>
      obtain⟨l,rfl,hl,hf,hb5⟩:=hrel;have HF5:=hQ hf;have HB5:=hQ hb5;have HX5:=hQ ((hb5.block w.heap.size (Qaa HX'.out)).trans HX'.out);have HT5:=hQ (HT'.out.keep hb5);have k3:wr.cell? ⟨w.heap.size,3,none⟩=some (.slice vka t.kids.length vkc):=Qab HX5.out 3 _ rfl;clear hf hb5
      by_cases hlk:l<t.kids.length
      ·obtain⟨a,ha⟩:∃ a,t.kids[l]? = some a:=⟨_,xF hlk⟩;obtain⟨xb,xo,hka⟩:∃ b off,vka=some ⟨b,off,none⟩:=HT5.out.addr.resolve_left (by omega);subst hka;obtain⟨u,c0,c1,c2,c3,hu⟩:=HT5.out.at rfl ha;have HU:=hQ hu;have HD:=hQ (show Qgk t=(Qgk a && Qmm (t.kids.drop (l+1))) from by rw[HF5.out,Qm9 _ _ _ ha]);have HNA:=hQ (show SizeOf.sizeOf a<=N from by have:=Qar ha;have:=HN.out;omega);have HZA:=hQ (show Qai a<=1000 from by have:=Qbi ha;have:=HZ.out;omega);have hl0:(0:Int)<=(l:Int):=by omega
       have hl1:(l:Int)<(t.kids.length:Int):=by omega
       have hl2:(l:Int)+1<=140737488355328:=by omega
       clear ha hu
       cases hla:Qgk a
       ·have HRR:=hQ (show Qgk t=false from by rw[HD.out,hla];rfl);go_wp2_with (go_at_call 70;refine(HIH.out S a u _ HNA.out HU.out HZA.out).mono ?_;rw[hla];rintro e w6⟨rfl,hb6⟩;have HB6:=hQ (yC HB5.out hb6);clear hb6)
        go_ret;exact⟨Qaj HRR.out.symm,yC HB0'.out HB6.out⟩
       ·have HRR:=hQ (show Qgk t=Qmm (t.kids.drop (l+1)) from by rw[HD.out,hla];rfl);go_wp2_with (go_at_call 70;refine(HIH.out S a u _ HNA.out HU.out HZA.out).mono ?_;rw[hla];rintro e w6⟨rfl,hb6⟩;have HB6:=hQ (yC HB5.out hb6);clear hb6)
        go_roundw
        case measure=>simp[intOf];omega
        case rel=>exact⟨l+1,by go_num,by omega,HRR.out,HB6.out⟩
      ·have HRR:=hQ (show Qgk t=true from by rw[HF5.out,Qko _ _ (by omega)]);go_wp2;go_ret;exact⟨Qaj HRR.out.symm,yC HB0'.out HB5.out⟩
   ·have e1:(t.kind==1)=false:=Qcr (by omega);have e2:(t.kind==2)=false:=Qcr (by omega);have e16:(t.kind==16)=false:=Qcr (by omega);have e18:(t.kind==18)=true:=beq_iff_eq.2 hk
    by_cases hd:16<t.kids.length
    ·have HR:=hQ (show Qgk t=false from by rw[HSE.out,HLR.out,e1,e2,e16,e18,xS hd];simp);have d1:decide ((16:Int)<(t.kids.length:Int))=true:=xS (by omega);have d2:decide (16<t.kids.length)=true:=xS hd;clear hk hd;go_enter func70,ntmps70;go_wp2;go_ret;exact⟨Qaj HR.out.symm,HB0.out⟩
    ·have HR:=hQ (show Qgk t=Qmm t.kids from by rw[HSE.out,HLR.out,e1,e2,e16,e18,xR hd];simp);have d1:decide ((16:Int)<(t.kids.length:Int))=false:=xR (by omega);have d2:decide (16<t.kids.length)=false:=xR hd;clear hk hd;go_enter func70,ntmps70;go_wp2;clear e1 e2 e16 e18 d1 d2;generalize hW0:w.alloc (.cells #[.int .i64 t.kind,.string t.text,.slice vla t.leads.length vlc,.slice vka t.kids.length vkc] 25)=W0 at |-;have HB0':=hQ (show Below w.heap.size w W0 from hW0 ▸ HB0.out);have HX':=hQ (show W0.heap[w.heap.size]? = some (trO ⟨t.kind,t.text,vla,t.leads.length,vlc,vka,t.kids.length,vkc⟩) from hW0 ▸ HX.out);have HT':=hQ (show TrAt S W0 t ⟨t.kind,t.text,vla,t.leads.length,vlc,vka,t.kids.length,vkc⟩ from hW0 ▸ HT.out);clear HB0 HX HT hW0
     go_loopw [4] (fun i wr=>Zb7 t W0 i wr) (fun i _=>t.kids.length-(intOf i).toNat)
     case atStart=>exact⟨0,rfl,xZ _,HR.out,xC _ _⟩
     case round =>
      obtain⟨l,rfl,hl,hf,hb5⟩:=hrel;have HF5:=hQ hf;have HB5:=hQ hb5;have HX5:=hQ ((hb5.block w.heap.size (Qaa HX'.out)).trans HX'.out);have HT5:=hQ (HT'.out.keep hb5);have k3:wr.cell? ⟨w.heap.size,3,none⟩=some (.slice vka t.kids.length vkc):=Qab HX5.out 3 _ rfl;clear hf hb5
      by_cases hlk:l<t.kids.length
      ·obtain⟨a,ha⟩:∃ a,t.kids[l]? = some a:=⟨_,xF hlk⟩;obtain⟨xb,xo,hka⟩:∃ b off,vka=some ⟨b,off,none⟩:=HT5.out.addr.resolve_left (by omega);subst hka;obtain⟨u,c0,c1,c2,c3,hu⟩:=HT5.out.at rfl ha;have HU:=hQ hu;have HD:=hQ (show Qgk t=(Qgk a && Qmm (t.kids.drop (l+1))) from by rw[HF5.out,Qm9 _ _ _ ha]);have HNA:=hQ (show SizeOf.sizeOf a<=N from by have:=Qar ha;have:=HN.out;omega);have HZA:=hQ (show Qai a<=1000 from by have:=Qbi ha;have:=HZ.out;omega);have hl0:(0:Int)<=(l:Int):=by omega
       have hl1:(l:Int)<(t.kids.length:Int):=by omega
       have hl2:(l:Int)+1<=140737488355328:=by omega
       clear ha hu
       cases hla:Qgk a
       ·have HRR:=hQ (show Qgk t=false from by rw[HD.out,hla];rfl);go_wp2_with (go_at_call 70;refine(HIH.out S a u _ HNA.out HU.out HZA.out).mono ?_;rw[hla];rintro e w6⟨rfl,hb6⟩;have HB6:=hQ (yC HB5.out hb6);clear hb6)
        go_ret;exact⟨Qaj HRR.out.symm,yC HB0'.out HB6.out⟩
       ·have HRR:=hQ (show Qgk t=Qmm (t.kids.drop (l+1)) from by rw[HD.out,hla];rfl);go_wp2_with (go_at_call 70;refine(HIH.out S a u _ HNA.out HU.out HZA.out).mono ?_;rw[hla];rintro e w6⟨rfl,hb6⟩;have HB6:=hQ (yC HB5.out hb6);clear hb6)
        go_roundw
        case measure=>simp[intOf];omega
        case rel=>exact⟨l+1,by go_num,by omega,HRR.out,HB6.out⟩
      ·have HRR:=hQ (show Qgk t=true from by rw[HF5.out,Qko _ _ (by omega)]);go_wp2;go_ret;exact⟨Qaj HRR.out.symm,yC HB0'.out HB5.out⟩
  ·have e1:(t.kind==1)=false:=Qcr (by omega);have e2:(t.kind==2)=false:=Qcr (by omega);have e16:(t.kind==16)=false:=Qcr (by omega);have e18:(t.kind==18)=false:=Qcr (by omega);have HR:=hQ (show Qgk t=Qmm t.kids from by rw[HSE.out,HLR.out,e1,e2,e16,e18];simp);clear hk;go_enter func70,ntmps70;go_wp2;clear e1 e2 e16 e18;generalize hW0:w.alloc (.cells #[.int .i64 t.kind,.string t.text,.slice vla t.leads.length vlc,.slice vka t.kids.length vkc] 25)=W0 at |-;have HB0':=hQ (show Below w.heap.size w W0 from hW0 ▸ HB0.out);have HX':=hQ (show W0.heap[w.heap.size]? = some (trO ⟨t.kind,t.text,vla,t.leads.length,vlc,vka,t.kids.length,vkc⟩) from hW0 ▸ HX.out);have HT':=hQ (show TrAt S W0 t ⟨t.kind,t.text,vla,t.leads.length,vlc,vka,t.kids.length,vkc⟩ from hW0 ▸ HT.out);clear HB0 HX HT hW0
   go_loopw [4] (fun i wr=>Zb7 t W0 i wr) (fun i _=>t.kids.length-(intOf i).toNat)
   case atStart=>exact⟨0,rfl,xZ _,HR.out,xC _ _⟩
   case round =>
    obtain⟨l,rfl,hl,hf,hb5⟩:=hrel;have HF5:=hQ hf;have HB5:=hQ hb5;have HX5:=hQ ((hb5.block w.heap.size (Qaa HX'.out)).trans HX'.out);have HT5:=hQ (HT'.out.keep hb5);have k3:wr.cell? ⟨w.heap.size,3,none⟩=some (.slice vka t.kids.length vkc):=Qab HX5.out 3 _ rfl;clear hf hb5
    by_cases hlk:l<t.kids.length
    ·obtain⟨a,ha⟩:∃ a,t.kids[l]? = some a:=⟨_,xF hlk⟩;obtain⟨xb,xo,hka⟩:∃ b off,vka=some ⟨b,off,none⟩:=HT5.out.addr.resolve_left (by omega);subst hka;obtain⟨u,c0,c1,c2,c3,hu⟩:=HT5.out.at rfl ha;have HU:=hQ hu;have HD:=hQ (show Qgk t=(Qgk a && Qmm (t.kids.drop (l+1))) from by rw[HF5.out,Qm9 _ _ _ ha]);have HNA:=hQ (show SizeOf.sizeOf a<=N from by have:=Qar ha;have:=HN.out;omega);have HZA:=hQ (show Qai a<=1000 from by have:=Qbi ha;have:=HZ.out;omega);have hl0:(0:Int)<=(l:Int):=by omega
     have hl1:(l:Int)<(t.kids.length:Int):=by omega
     have hl2:(l:Int)+1<=140737488355328:=by omega
     clear ha hu
     cases hla:Qgk a
     ·have HRR:=hQ (show Qgk t=false from by rw[HD.out,hla];rfl);go_wp2_with (go_at_call 70;refine(HIH.out S a u _ HNA.out HU.out HZA.out).mono ?_;rw[hla];rintro e w6⟨rfl,hb6⟩;have HB6:=hQ (yC HB5.out hb6);clear hb6)
      go_ret;exact⟨Qaj HRR.out.symm,yC HB0'.out HB6.out⟩
     ·have HRR:=hQ (show Qgk t=Qmm (t.kids.drop (l+1)) from by rw[HD.out,hla];rfl);go_wp2_with (go_at_call 70;refine(HIH.out S a u _ HNA.out HU.out HZA.out).mono ?_;rw[hla];rintro e w6⟨rfl,hb6⟩;have HB6:=hQ (yC HB5.out hb6);clear hb6)
      go_roundw
      case measure=>simp[intOf];omega
      case rel=>exact⟨l+1,by go_num,by omega,HRR.out,HB6.out⟩
    ·have HRR:=hQ (show Qgk t=true from by rw[HF5.out,Qko _ _ (by omega)]);go_wp2;go_ret;exact⟨Qaj HRR.out.symm,yC HB0'.out HB5.out⟩
end Go.Proofs.YtfjpemdejoejbaaGreat
