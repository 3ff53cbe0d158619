/- Part 32 -/
import Derived.Test.YtfjpemdejoejbaaGreatTt31
set_option maxRecDepth 100000
set_option maxHeartbeats 4000000
namespace Go.Proofs.YtfjpemdejoejbaaGreat
open Go.RowKit
def RShAt (t:Tr) (W:World) (i:Value) (wr:World):Prop:=∃ j:Nat,i = .int .i64 j∧j≤t.kids.length∧Qar t=Qbc t.kind t.kids.length j (t.kids.drop j)∧Below W.heap.size W wr
theorem Qk1 (N:Nat):∀ (S:Nat→Prop) (t:Tr) (v:TV) (w:World),SizeOf.sizeOf t≤N→TrAt S w t v→Qal t≤1000→Qaz t=true →
  Calls Tryz.prog 31 #[.agg #[.int .i64 v.kind,.string v.text,.slice v.la v.ll v.lc,.slice v.ka v.kl v.kc]] w fun e w'=>e = .returned (.bool (Qar t))∧Below w.heap.size w w':=by
 induction N with
 | zero=>intro S t v w h;have:=Qf7 t;omega
 | succ N ih =>
  intro S t v w hN h hz hw;obtain ⟨htx,_,hkw⟩:=Qa1 hw;have hkl:=h.kl;obtain ⟨vk,vx,vla,vll,vlc,vka,vkl,vkc⟩:=v;simp only at hkl;obtain ⟨rfl,rfl,rfl,rfl⟩:=hkl;have HIH:=hQ ih;have HN:=hQ hN;have HZ:=hQ hz;have HKW:=hQ hkw;have HTX:=hQ htx;have hkn:t.kids.length≤1000:=by have:=Qa4 t.kids;have:=Qa9 t;omega
  have HKN:=hQ hkn;have HKI:=hQ (show (t.kids.length:Int)≤1000 from by omega);have HB0:=hQ ((xC w.heap.size w).alloc (xA _) (trO ⟨t.kind,t.text,vla,t.leads.length,vlc,vka,t.kids.length,vkc⟩));have HX:=hQ (xH w (trO ⟨t.kind,t.text,vla,t.leads.length,vlc,vka,t.kids.length,vkc⟩));have HT:=hQ (h.keep HB0.out);have HSE:=hQ (Qdo t);clear ih h hz hw hN hkw htx
  go_enter Tryz.func31,Tryz.ntmps31
  go_wp2_with fail
  generalize hW0:w.alloc (.cells #[.int .i64 t.kind,.string t.text,.slice vla t.leads.length vlc,.slice vka t.kids.length vkc] 25)=W0 at ⊢
  have HB0':=hQ (show Below w.heap.size w W0 from hW0 ▸ HB0.out);have HX':=hQ (show W0.heap[w.heap.size]? = some (trO ⟨t.kind,t.text,vla,t.leads.length,vlc,vka,t.kids.length,vkc⟩) from hW0 ▸ HX.out);have HT':=hQ (show TrAt S W0 t ⟨t.kind,t.text,vla,t.leads.length,vlc,vka,t.kids.length,vkc⟩ from hW0 ▸ HT.out);clear HB0 HX HT hW0;have k0:W0.cell? ⟨w.heap.size,0,none⟩=some (.int .i64 t.kind):=Qaa HX'.out 0 _ rfl;have k1:W0.cell? ⟨w.heap.size,1,none⟩=some (.string t.text):=Qaa HX'.out 1 _ rfl;have k3:W0.cell? ⟨w.heap.size,3,none⟩=some (.slice vka t.kids.length vkc):=Qaa HX'.out 3 _ rfl
  by_cases hl:Qat t.kind t.kids.length<0
  ·have d0:=xS hl;have HR:=hQ (show Qar t=false from by rw [HSE.out,d0];rfl);go_wp2_with (go_at_call 57;refine (Qje t.kind t.kids.length _ HKI.out).mono ?_;rintro e w1 ⟨rfl,rfl⟩)
   go_ret
   exact ⟨Qam HR.out.symm,HB0'.out⟩
  ·have d0:=xR hl
   cases hx:Qau (Qae t.kind) t.text
   ·have HR:=hQ (show Qar t=false from by rw [HSE.out,hx,Bool.and_false];rfl);go_wp2_with (first | (go_at_call 57;refine (Qje t.kind t.kids.length _ HKI.out).mono ?_;rintro e w1 ⟨rfl,rfl⟩) | (go_at_call 58;refine (Qis t.kind t.text _ HTX.out).mono ?_;rw [hx];rintro e w2 ⟨rfl,hb2⟩;have HB2:=hQ (HB0'.out.trans (hb2.mono HB0'.out.size));clear hb2))
    go_ret
    exact ⟨Qam HR.out.symm,HB2.out⟩
   ·have HR:=hQ (show Qar t=Qbc t.kind t.kids.length 0 t.kids from by rw [HSE.out,hx,d0];rfl);go_wp2_with (first | (go_at_call 57;refine (Qje t.kind t.kids.length _ HKI.out).mono ?_;rintro e w1 ⟨rfl,rfl⟩) | (go_at_call 58;refine (Qis t.kind t.text _ HTX.out).mono ?_;rw [hx];rintro e w2 ⟨rfl,hb2⟩;have HB2:=hQ (HB0'.out.trans (hb2.mono HB0'.out.size));have HX2:=hQ ((hb2.block w.heap.size (Qab HX'.out)).trans HX'.out);have HT2:=hQ (HT'.out.keep hb2);clear hb2 k0 k1 k3))
    clear d0 hx
    go_loopw [3] (fun i wr=>RShAt t w2 i wr) (fun i _=>t.kids.length-(intOf i).toNat)
    case atStart=>exact ⟨0,rfl,xZ _,HR.out,xC _ _⟩
    case round =>
     obtain ⟨j,rfl,hj,hf,hbr⟩:=hrel;have HF:=hQ hf;have HBR:=hQ hbr;have HX3:=hQ ((hbr.block w.heap.size (Qab HX2.out)).trans HX2.out);have HT3:=hQ (HT2.out.keep hbr);have k0:wr.cell? ⟨w.heap.size,0,none⟩=some (.int .i64 t.kind):=Qaa HX3.out 0 _ rfl;have k1:wr.cell? ⟨w.heap.size,1,none⟩=some (.string t.text):=Qaa HX3.out 1 _ rfl;have k2:wr.cell? ⟨w.heap.size,2,none⟩=some (.slice vla t.leads.length vlc):=Qaa HX3.out 2 _ rfl;have k3:wr.cell? ⟨w.heap.size,3,none⟩=some (.slice vka t.kids.length vkc):=Qaa HX3.out 3 _ rfl;have kbl:=Qab HX3.out;clear hf hbr
     by_cases hlt:j<t.kids.length
     ·obtain ⟨a,ha⟩:∃ a,t.kids[j]? = some a:=⟨_,xF hlt⟩;obtain ⟨xb,xo,hka⟩:∃ b off,vka=some ⟨b,off,none⟩:=HT3.out.addr.resolve_left (by show t.kids.length≠0;omega);subst hka;obtain ⟨u,c0,c1,c2,c3,hu⟩:=HT3.out.at rfl ha;have cbl:xb<wr.heap.size:=xK wr _ c3;have huk:=hu.kl.2.2.1;have HU:=hQ hu;have HD:=hQ (show Qar t=(Qfl t.kind t.kids.length j u.kind && Qar a && Qbc t.kind t.kids.length (j+1) (t.kids.drop (j+1))) from by rw [HF.out,Qq8 _ _ _ _ _ ha,huk]);have HNA:=hQ (show SizeOf.sizeOf a≤N from by have:=Qbn ha;have:=HN.out;omega);have HZA:=hQ (show Qal a≤1000 from by have:=Qdn ha;have:=HZ.out;omega);have HWA:=hQ (HKW.out j a ha);have HJN:=hQ (show j<1000 from by omega);have hja:(j:Int)<(t.kids.length:Int):=by omega
      have hj0:(0:Int)≤(j:Int):=by omega
      have hj1:(j:Int)+1≤1000:=by omega
      clear ha hu huk
      cases hkd:Qfl t.kind t.kids.length j u.kind
      ·have HRR:=hQ (show Qar t=false from by rw [HD.out,hkd];rfl);go_wp2_with fail
       first | go_region_law (go_simp;go_at_call 59;refine (Qni t.kind t.text vla _ vlc _ _ vkc j u.kind _ HJN.out HKN.out).mono ?_;rw [hkd];rintro e w4 ⟨rfl,hb4⟩;have HB4:=hQ (show Below wr.heap.size wr w4 from ((xC wr.heap.size wr).drew).trans hb4);clear hb4) | fail
       all_goals
        go_wp2
        go_ret
        exact ⟨Qam HRR.out.symm,HB2.out.trans ((HBR.out.trans (HB4.out.mono HBR.out.size)).mono HB2.out.size)⟩
      ·cases hsa:Qar a
       ·have HRR:=hQ (show Qar t=false from by rw [HD.out,hkd,hsa];rfl);go_wp2_with fail
        go_region_held3 (fun w'=>w'.cell? ⟨w.heap.size,0,none⟩=some (.int .i64 t.kind)∧w'.cell? ⟨w.heap.size,1,none⟩=some (.string t.text)∧w'.cell? ⟨w.heap.size,2,none⟩=some (.slice vla t.leads.length vlc)∧w'.cell? ⟨w.heap.size,3,none⟩=some (.slice (some ⟨xb,xo,none⟩) t.kids.length vkc)∧w'.cell? ⟨xb,xo+j*4,none⟩=some (.int .i64 u.kind)∧w'.cell? ⟨xb,xo+j*4+1,none⟩=some (.string u.text)∧w'.cell? ⟨xb,xo+j*4+2,none⟩=some (.slice u.la u.ll u.lc)∧w'.cell? ⟨xb,xo+j*4+3,none⟩=some (.slice u.ka u.kl u.kc)) (first | with_reducible exact ⟨k0,k1,k2,k3,c0,c1,c2,c3⟩ | go_keep) (first
         | (go_at_call 59;refine (Qni t.kind t.text vla _ vlc _ _ vkc j u.kind _ HJN.out HKN.out).mono ?_;rw [hkd];rintro e w4 ⟨rfl,hb4⟩;have hb5:Below wr.heap.size wr w4:=((xC wr.heap.size wr).drew).trans hb4;have HB4:=hQ hb5;have e0:=(xJ (w:=wr) (a:=⟨xb,xo+j*4,none⟩) (hb5.block xb cbl)).trans c0;have e1:=(xJ (w:=wr) (a:=⟨xb,xo+j*4+1,none⟩) (hb5.block xb cbl)).trans c1;have e2:=(xJ (w:=wr) (a:=⟨xb,xo+j*4+2,none⟩) (hb5.block xb cbl)).trans c2;have e3:=(xJ (w:=wr) (a:=⟨xb,xo+j*4+3,none⟩) (hb5.block xb cbl)).trans c3;have f0:=(xJ (w:=wr) (a:=⟨w.heap.size,0,none⟩) (hb5.block w.heap.size kbl)).trans k0;have f1:=(xJ (w:=wr) (a:=⟨w.heap.size,1,none⟩) (hb5.block w.heap.size kbl)).trans k1;have f2:=(xJ (w:=wr) (a:=⟨w.heap.size,2,none⟩) (hb5.block w.heap.size kbl)).trans k2;have f3:=(xJ (w:=wr) (a:=⟨w.heap.size,3,none⟩) (hb5.block w.heap.size kbl)).trans k3;have HU4:=hQ (HU.out.keep hb5);clear hb4 hb5 c0 c1 c2 c3 k0 k1 k2 k3;have c0:=e0;have c1:=e1;have c2:=e2;have c3:=e3;have k0:=f0;have k1:=f1;have k2:=f2;have k3:=f3;clear e0 e1 e2 e3 f0 f1 f2 f3)
         | (go_at_call 31;refine (HIH.out S a u _ HNA.out HU4.out HZA.out HWA.out).mono ?_;rw [hsa];rintro e w5 ⟨rfl,hb5⟩;have HB5:=hQ (show Below wr.heap.size wr w5 from HB4.out.trans (hb5.mono HB4.out.size));have h5:=HB5.out;have e0:=(xJ (w:=w4) (a:=⟨xb,xo+j*4,none⟩) (hb5.block xb (xK w4 _ c0))).trans c0;have e1:=(xJ (w:=w4) (a:=⟨xb,xo+j*4+1,none⟩) (hb5.block xb (xK w4 _ c0))).trans c1;have e2:=(xJ (w:=w4) (a:=⟨xb,xo+j*4+2,none⟩) (hb5.block xb (xK w4 _ c0))).trans c2;have e3:=(xJ (w:=w4) (a:=⟨xb,xo+j*4+3,none⟩) (hb5.block xb (xK w4 _ c0))).trans c3;have f0:=(xJ (w:=w4) (a:=⟨w.heap.size,0,none⟩) (hb5.block w.heap.size (xK w4 _ k0))).trans k0;have f1:=(xJ (w:=w4) (a:=⟨w.heap.size,1,none⟩) (hb5.block w.heap.size (xK w4 _ k0))).trans k1;have f2:=(xJ (w:=w4) (a:=⟨w.heap.size,2,none⟩) (hb5.block w.heap.size (xK w4 _ k0))).trans k2;have f3:=(xJ (w:=w4) (a:=⟨w.heap.size,3,none⟩) (hb5.block w.heap.size (xK w4 _ k0))).trans k3;clear hb5 h5 c0 c1 c2 c3 k0 k1 k2 k3;have c0:=e0;have c1:=e1;have c2:=e2;have c3:=e3;have k0:=f0;have k1:=f1;have k2:=f2;have k3:=f3;clear e0 e1 e2 e3 f0 f1 f2 f3))
        all_goals
         clear c0 c1 c2 c3 k0 k1 k2 k3
         go_wp2
         go_ret
         exact ⟨Qam HRR.out.symm,HB2.out.trans ((HBR.out.trans (HB5.out.mono HBR.out.size)).mono HB2.out.size)⟩
       ·have HRR:=hQ (show Qar t=Qbc t.kind t.kids.length (j+1) (t.kids.drop (j+1)) from by rw [HD.out,hkd,hsa];rfl);go_wp2_with fail
        go_region_held3 (fun w'=>w'.cell? ⟨w.heap.size,0,none⟩=some (.int .i64 t.kind)∧w'.cell? ⟨w.heap.size,1,none⟩=some (.string t.text)∧w'.cell? ⟨w.heap.size,2,none⟩=some (.slice vla t.leads.length vlc)∧w'.cell? ⟨w.heap.size,3,none⟩=some (.slice (some ⟨xb,xo,none⟩) t.kids.length vkc)∧w'.cell? ⟨xb,xo+j*4,none⟩=some (.int .i64 u.kind)∧w'.cell? ⟨xb,xo+j*4+1,none⟩=some (.string u.text)∧w'.cell? ⟨xb,xo+j*4+2,none⟩=some (.slice u.la u.ll u.lc)∧w'.cell? ⟨xb,xo+j*4+3,none⟩=some (.slice u.ka u.kl u.kc)) (first | with_reducible exact ⟨k0,k1,k2,k3,c0,c1,c2,c3⟩ | go_keep) (first
         | (go_at_call 59;refine (Qni t.kind t.text vla _ vlc _ _ vkc j u.kind _ HJN.out HKN.out).mono ?_;rw [hkd];rintro e w4 ⟨rfl,hb4⟩;have hb5:Below wr.heap.size wr w4:=((xC wr.heap.size wr).drew).trans hb4;have HB4:=hQ hb5;have e0:=(xJ (w:=wr) (a:=⟨xb,xo+j*4,none⟩) (hb5.block xb cbl)).trans c0;have e1:=(xJ (w:=wr) (a:=⟨xb,xo+j*4+1,none⟩) (hb5.block xb cbl)).trans c1;have e2:=(xJ (w:=wr) (a:=⟨xb,xo+j*4+2,none⟩) (hb5.block xb cbl)).trans c2;have e3:=(xJ (w:=wr) (a:=⟨xb,xo+j*4+3,none⟩) (hb5.block xb cbl)).trans c3;have f0:=(xJ (w:=wr) (a:=⟨w.heap.size,0,none⟩) (hb5.block w.heap.size kbl)).trans k0;have f1:=(xJ (w:=wr) (a:=⟨w.heap.size,1,none⟩) (hb5.block w.heap.size kbl)).trans k1;have f2:=(xJ (w:=wr) (a:=⟨w.heap.size,2,none⟩) (hb5.block w.heap.size kbl)).trans k2;have f3:=(xJ (w:=wr) (a:=⟨w.heap.size,3,none⟩) (hb5.block w.heap.size kbl)).trans k3;have HU4:=hQ (HU.out.keep hb5);clear hb4 hb5 c0 c1 c2 c3 k0 k1 k2 k3;have c0:=e0;have c1:=e1;have c2:=e2;have c3:=e3;have k0:=f0;have k1:=f1;have k2:=f2;have k3:=f3;clear e0 e1 e2 e3 f0 f1 f2 f3)
         | (go_at_call 31;refine (HIH.out S a u _ HNA.out HU4.out HZA.out HWA.out).mono ?_;rw [hsa];rintro e w5 ⟨rfl,hb5⟩;have HB5:=hQ (show Below wr.heap.size wr w5 from HB4.out.trans (hb5.mono HB4.out.size));have h5:=HB5.out;have e0:=(xJ (w:=w4) (a:=⟨xb,xo+j*4,none⟩) (hb5.block xb (xK w4 _ c0))).trans c0;have e1:=(xJ (w:=w4) (a:=⟨xb,xo+j*4+1,none⟩) (hb5.block xb (xK w4 _ c0))).trans c1;have e2:=(xJ (w:=w4) (a:=⟨xb,xo+j*4+2,none⟩) (hb5.block xb (xK w4 _ c0))).trans c2;have e3:=(xJ (w:=w4) (a:=⟨xb,xo+j*4+3,none⟩) (hb5.block xb (xK w4 _ c0))).trans c3;have f0:=(xJ (w:=w4) (a:=⟨w.heap.size,0,none⟩) (hb5.block w.heap.size (xK w4 _ k0))).trans k0;have f1:=(xJ (w:=w4) (a:=⟨w.heap.size,1,none⟩) (hb5.block w.heap.size (xK w4 _ k0))).trans k1;have f2:=(xJ (w:=w4) (a:=⟨w.heap.size,2,none⟩) (hb5.block w.heap.size (xK w4 _ k0))).trans k2;have f3:=(xJ (w:=w4) (a:=⟨w.heap.size,3,none⟩) (hb5.block w.heap.size (xK w4 _ k0))).trans k3;clear hb5 h5 c0 c1 c2 c3 k0 k1 k2 k3;have c0:=e0;have c1:=e1;have c2:=e2;have c3:=e3;have k0:=f0;have k1:=f1;have k2:=f2;have k3:=f3;clear e0 e1 e2 e3 f0 f1 f2 f3))
        all_goals
         clear c0 c1 c2 c3 k0 k1 k2 k3
         go_wp2
         go_roundw
         case measure=>simp [intOf];omega
         case rel=>exact ⟨j+1,by go_num,by omega,HRR.out,HBR.out.trans (HB5.out.mono HBR.out.size)⟩
     ·have HRR:=hQ (show Qar t=true from by rw [HF.out,Qo7 _ _ _ _ (by omega)])
      go_wp2
      go_ret
      exact ⟨Qam HRR.out.symm,HB2.out.trans (HBR.out.mono HB2.out.size)⟩
end Go.Proofs.YtfjpemdejoejbaaGreat
