/- Part 24 -/
import Derived.Test.YtjidpkcjpgdafaaGreatSf18
set_option maxRecDepth 100000
set_option maxHeartbeats 4000000
namespace Go.Proofs.YtjidpkcjpgdafaaGreat
open Go.RowKit
theorem Qto {T:Int→PS→Option (Tr × PS)} (hT:Qrr T) {n:Nat} (hn:n≤65536):Qx9 (fun k p=>Qey T n k (Qae k) ⟨#[]⟩ [] [] [] p):=by
 intro b kind p t q w hr h
 have HI:=hQ h
 have HR:=hQ hr
 have HN:=hQ hn
 have HTC:=hQ hT
 have HPL:=hQ (Qgy kind)
 clear h hr hn hT
 go_enter Tryz.func78,Tryz.ntmps78
 go_wp2_with fail
 go_at_call 124
 refine (Qe0 kind _).mono ?_
 rintro e w1 ⟨A,c,rfl,hparts,hb⟩
 have HP1:=hQ hparts
 have g0:=(hb.block w.heap.size (by simp;omega)).trans ((Below.heap_alloc _ _ _ (by simp)).trans (xH w (.cells #[.int .i64 0,.string ⟨#[]⟩,.slice none 0 0,.slice none 0 0] 29)))
 have g1:=(hb.block (w.heap.size+1) (by simp)).trans (Qhe w (.cells #[.int .i64 0,.string ⟨#[]⟩,.slice none 0 0,.slice none 0 0] 29) #[.int .i64 kind,.string ⟨#[]⟩,.slice none 0 0,.slice none 0 0] 29)
 have HG0:=hQ g0
 have HG1:=hQ g1
 have HB1:=hQ ((((xC w.heap.size w).alloc (xA _) (.cells #[.int .i64 0,.string ⟨#[]⟩,.slice none 0 0,.slice none 0 0] 29)).alloc (by simp) (.cells #[.int .i64 kind,.string ⟨#[]⟩,.slice none 0 0,.slice none 0 0] 29)).trans (hb.mono (by simp;omega)))
 have HBB:=hQ (show w.heap.size+1<w1.heap.size from Qab g1)
 have HPK:=hQ (show w.heap.size+2≤((w.alloc (.cells #[.int .i64 0,.string ⟨#[]⟩,.slice none 0 0,.slice none 0 0] 29)).alloc (.cells #[.int .i64 kind,.string ⟨#[]⟩,.slice none 0 0,.slice none 0 0] 29)).heap.size from by simp)
 have HBLT:=hQ HI.out.lt
 have HP:=hQ (HI.out.keep HB1.out)
 clear hparts hb g0 g1
 go_wp2_with fail
 go_loopg [7,15] ((Qae kind).length) (fun g u7 u15 wr=>Qya T n kind (t,q) b (w.heap.size+1) w1 g u7 u15 wr)
 case atStart =>
  refine ⟨0,⟨#[]⟩,[],none,0,[],none,0,[],none,0,p,rfl,rfl,by simp,⟨HG1.out,LeadsAt.nil _ _,KidsAt.nil _ _ _,LeadsAt.nil _ _,fun k hk=>by simp [blk] at hk,HP.out,Rest.refl _ _,rfl,⟨by have:=HBLT.out;omega,HBB.out⟩⟩,HR.out,by simp,by simp,by simp,fun _=>⟨rfl,rfl⟩⟩
 case round =>
  obtain ⟨j,text,leads,la,lc,kids,ka,kc,commas,ca,cc,p',rfl,rfl,hj,hI,hG,hll,hkl,hcl,hc0⟩:=hrel
  have HJ:=hQ hj
  have HII:=hQ hI
  have HGG:=hQ hG
  have HLL:=hQ hll
  have HKL:=hQ hkl
  have HCL:=hQ hcl
  have HC0:=hQ hc0
  clear hj hI hG hll hkl hcl hc0
  by_cases hlt:j<(Qae kind).length
  ·obtain ⟨x,hx⟩:∃ x,(Qae kind)[j]? = some x:=⟨_,xF hlt⟩
   have hnm:=Qgm kind x (yA hx)
   obtain ⟨pk,pcs,hA,hpk,hph,hpc⟩:=HP1.out (by intro e;rw [e] at hlt;simp at hlt)
   subst hA
   have hpl:w.heap.size+2≤pk:=xQ HPK.out hpk
   have hwr:wr.heap[pk]? = _:=(HII.out.rest.block pk (Qab hph) (by have:=HBLT.out;intro e;rcases e with e | e <;> omega)).trans hph
   obtain ⟨p0,p1,p2,p3,p4,p5,p6⟩:=Qh0 hwr hpc j x hx
   have hG:=HGG.out
   obtain ⟨hjl,hje⟩:=xP.1 hx
   rw [List.drop_eq_getElem_cons hjl,hje] at hG
   have hst:=Qlc hG
   obtain ⟨wd,nm,kd,lst,mst,se,co⟩:=x
   have HNM:=hQ hnm
   have HLT:=hQ hlt
   have hj0:(0:Int)≤(j:Int):=by omega
   have hj1:(j:Int)<((Qae kind).length:Int):=by omega
   have hj2:(j:Int)+1≤10:=by have:=HPL.out;omega
   clear hnm hpk hph hpc hpl hwr hG hjl hje hx HGG
   rcases hst with ⟨hse,s,hS,hG⟩|⟨hse,hkd,t',q',hTt,hG⟩|⟨hse,hkd,hG⟩
   ·have hse:se=true:=hse
    subst hse
    obtain ⟨ks,cs2,q2⟩:=s
    have HG2:=hQ hG
    have HSS:=hQ hS
    have HSL:=hQ (Qj8 _ _ _ _ _ _ hS)
    clear hG hS
    have HA:=hQ (HII.out.below ((xC wr.heap.size wr).alloc (xA _) (.cells #[.string wd,fnV nm,.int .i64 kd,.int .i64 lst,.int .i64 mst,.bool true,.bool co] 176)))
    have HSZ:=hQ (show (wr.alloc (.cells #[.string wd,fnV nm,.int .i64 kd,.int .i64 lst,.int .i64 mst,.bool true,.bool co] 176)).heap.size=wr.heap.size+1 from by simp)
    go_wp2_with fail
    go_at_call 125
    refine (Qrt HTC.out ⟨wd,nm,kd,lst,mst,true,co⟩ (ks,cs2,q2) _ HA.out.state HSS.out HN.out).mono ?_
    rintro e w2 ⟨ka2,kc2,ca2,cc2,rfl,hK2,hL2,hp2,ho2,h0k,h0c⟩
    rw [HSZ.out] at hK2 hL2
    have HK2:=hQ hK2
    have HL2:=hQ hL2
    have H0K:=hQ h0k
    have H0C:=hQ h0c
    have HN2:=hQ (HA.out.keep ho2 hp2)
    have HKB:=hQ (show ∀ k,blk ka=some k→k<wr.heap.size from fun k hk=>(HII.out.kblk hk).2)
    have HLB:=hQ (show ∀ k,blk la=some k→k<wr.heap.size from fun k hk=>(HII.out.lblk hk).2)
    have HBW:=hQ (show w1.heap.size≤wr.heap.size from HII.out.rest.size)
    clear hK2 hL2 hp2 ho2 h0k h0c HA p0 p1 p2 p3 p4 p5 p6
    have k3:=Qaa HN2.out.heap 3 _ rfl
    have kf:=xL HN2.out.heap
    obtain ⟨i0,hi,hz0,hz1,hz2⟩:=info_parts Qen
    by_cases hk0:ks = []
    ·subst hk0
     obtain ⟨rfl,rfl⟩:=H0K.out rfl
     go_wp2_with (at_builtin;refine Qfs (by rfl) _ _ _ (by rfl) w1.heap.size 29 i0 4 Tryz.underlying22 hi (.slice ka kids.length kc) kids.length _ (by rfl) HN2.out.kids.choose_spec.1 (by rfl) ?_)
     go_wp2
     go_roundg (gk-1)
     case measure=>have:=HJ.out;have:=HLT.out;omega
     case rel =>
      have hn3:=(HN2.out.commas' HL2.out (fun k hk=>by have:=HLB.out k hk;omega) (by have:=HBW.out;omega)).write (Rest.set1 (w.heap.size+1) 3 (.slice ka kids.length kc)) (Qba HN2.out.heap rfl)
      refine ⟨j+1,text,leads,la,lc,kids,ka,kc,cs2,ca2,cc2,q2,by simp,by go_num,by have:=HJ.out;have:=HLT.out;omega,hn3,by have:=HG2.out;simpa using this,Nat.le_succ_of_le HLL.out,xQ HKL.out (Nat.mul_le_mul_right _ (Nat.le_succ j)),by have h1:cs2.length≤0+n:=HSL.out.2;have:=HN.out;omega,H0C.out⟩
    ·have hpos:0<ks.length:=by cases hcc:ks with
      | nil=>exact absurd hcc hk0
      | cons a r=>simp
     obtain ⟨vs2,hown2,hin2⟩:=HK2.out
     obtain ⟨kg,kcc,hkv,_,_⟩:=World.ownsRow.form hown2 hpos
     injection hkv with hkv1 _ hkv2
     subst hkv1
     have HCM:=hQ (show ∀ i u,(Qar vs2)[i]? = some u→w2.cell? ((⟨kg,0,none⟩:Addr).add i)=some u from fun i u hu=>World.ownsRow.cells (g:=kg) hown2 rfl i u hu)
     have HIN2:=hQ (hin2.move (S':=fun k=>wr.heap.size≤k∧k<w2.heap.size) (fun k hk=>⟨by have:=hk.1;omega,hk.2.1⟩) (fun _ _ _=>rfl))
     have HL2N:=hQ (show (Qar vs2).length=ks.length*4 from by rw [Qfk,hin2.1])
     obtain ⟨vs,hown,hin⟩:=HN2.out.kids
     have HOW:=hQ hown
     have HIN:=hQ hin
     clear hk0 hkv2 hown2 hin2 hown hin
     go_wp2_with (at_builtin;refine wpList_append_lies _ (by rfl) _ _ _ (by rfl) w1.heap.size 29 i0 _ 4 72 Tryz.underlying22 hi hz0 hz1 hz2 rfl (by decide) (.slice ka kids.length kc) kids.length (Qar vs) (by rfl) HOW.out ⟨kg,0,none⟩ ks.length kc2 (Qar vs2) (by rfl) HL2N.out HCM.out (Qoq vs2) hpos ?b1 ?b2 ?b3 w2.heap.size rfl ?_)
     case b1=>unfold maxLen;have h1:ks.length≤0+n:=HSL.out.1;have:=HN.out;have:=HKL.out;have:=HJ.out;have:=HPL.out;omega
     case b2=>have h1:ks.length≤0+n:=HSL.out.1;have:=HN.out;have:=HKL.out;have:=HJ.out;have:=HPL.out;omega
     case b3=>exact HN2.out.lt
     intro g cap w5 hown5 hgrow hat5 hlt5
     have HG5:=hQ ((HN2.out.grow (us:=ks) HIN.out HIN2.out HBW.out HKB.out HLB.out hown5 hgrow (hat5.elim .inl (fun e=>.inr (Nat.le_of_eq e.symm))) rfl).commas' (C:=wr.heap.size+1+1) ((HL2.out.rest (Rest.grown (X:=fun k=>blk ka=some k) hgrow (fun k hk=>by rwa [Qhb] at hk)) (fun k hk e=>by have h1:=(HL2.out.blk hk).1;have h2:=HKB.out k e;omega)).rest (Rest.set1 (w.heap.size+1) 3 _) (fun k hk e=>by have h1:=(HL2.out.blk hk).1;have:k=w.heap.size+1:=e;have:=HBB.out;have:=HBW.out;omega)) (fun k hk=>by have:=HLB.out k hk;omega) (by have:=HBW.out;omega))
     have G5:=(hgrow.block (w.heap.size+1) (Qab HN2.out.heap) (fun e=>by rw [Qhb] at e;have:=(HN2.out.kblk e.symm).1;have:=HBB.out;omega)).trans HN2.out.heap
     clear hown5 hgrow hat5 hlt5 k3 kf
     have k3:=Qaa G5 3 _ rfl
     have kf:=xL G5
     clear G5 hpos
     go_wp2
     go_roundg (gk-1)
     case measure=>have:=HJ.out;have:=HLT.out;omega
     case rel=>exact ⟨j+1,text,leads,la,lc,kids ++ ks,some ⟨g,0,none⟩,cap,cs2,ca2,cc2,q2,rfl,by go_num,by have:=HJ.out;have:=HLT.out;omega,HG5.out,HG2.out,Nat.le_succ_of_le HLL.out,by rw [xB,Nat.succ_mul];exact Nat.add_le_add HKL.out (by have h1:ks.length≤0+n:=HSL.out.1;have:=HN.out;omega),by have h1:cs2.length≤0+n:=HSL.out.2;have:=HN.out;omega,H0C.out⟩
   ·have hse:se=false:=hse
    subst hse
    have hkd:(kd != 0)=true:=hkd
    have HG2:=hQ hG
    have HTt:=hQ hTt
    clear hG hTt
    have HA:=hQ (HII.out.below ((xC wr.heap.size wr).alloc (xA _) (.cells #[.string wd,fnV nm,.int .i64 kd,.int .i64 lst,.int .i64 mst,.bool false,.bool co] 176)))
    have GX:=hQ (xH wr (.cells #[.string wd,fnV nm,.int .i64 kd,.int .i64 lst,.int .i64 mst,.bool false,.bool co] 176))
    have HWS:=hQ (show wr.heap.size<(wr.alloc (.cells #[.string wd,fnV nm,.int .i64 kd,.int .i64 lst,.int .i64 mst,.bool false,.bool co] 176)).heap.size from by simp)
    go_wp2_with fail
    clear p0 p1 p2 p3 p4 p5 p6
    generalize wr.alloc (.cells #[.string wd,fnV nm,.int .i64 kd,.int .i64 lst,.int .i64 mst,.bool false,.bool co] 176)=WA at HA GX HWS ⊢
    have HKB:=hQ (show ∀ k,blk ka=some k→k<WA.heap.size from fun k hk=>(HA.out.kblk hk).2)
    have HKW:=hQ (show ∀ k,blk ka=some k→k<wr.heap.size from fun k hk=>(HII.out.kblk hk).2)
    have HKNB:=hQ (show ∀ k,(Value.slice ka kids.length kc).ownBlock=some k→¬ k=b from fun k hk e=>by rw [Qhb] at hk;have:=(HII.out.kblk hk).1;have:=HII.out.low;omega)
    have HTBX:=hQ (show ¬ (w.heap.size+1=b∨blk ka=some (w.heap.size+1)) from by have:=HBLT.out;intro e;rcases e with e | e;omega;have:=(HII.out.kblk e).1;have:=HBB.out;omega)
    have HXBX:=hQ (show ¬ (wr.heap.size=b∨blk ka=some wr.heap.size) from by intro e;rcases e with e | e;have:=HII.out.state.lt;omega;have:=HKW.out _ e;omega)
    have HKGB:=hQ (show ∀ k,blk ka=some k→b<k from fun k hk=>by have:=(HII.out.kblk hk).1;have:=HII.out.low;omega)
    have HWNB:=hQ (show WA.heap.size≠b from by have:=HA.out.state.lt;omega)
    obtain ⟨vs,hown,hin⟩:=HA.out.kids
    have HOW:=hQ hown
    have HIN:=hQ hin
    have HVL:=hQ (show (Qar vs).length=kids.length*4 from by rw [Qfk,hin.1])
    clear hown hin
    have KSd:=hQ (show KS b ka WA WA.drew p' from ⟨Rest.drew,HA.out.state.keep (xC _ _).drew⟩)
    have KSa:=hQ (show KS b ka WA (WA.alloc (.cells #[.int .i64 0,.string ⟨#[]⟩,.slice none 0 0,.slice none 0 0] 29)).drew p' from ⟨(Rest.alloc _).trans Rest.drew,HA.out.state.keep ((xC _ _).alloc (xA _) _).drew⟩)
    have k3:=Qaa HA.out.heap 3 _ rfl
    have kf:=xL HA.out.heap
    have x2:=Qaa GX.out 2 _ rfl
    have etb:=Qab HA.out.heap
    have exb:=Qab GX.out
    have HB1':=hQ (show kids.length+1≤maxLen from by unfold maxLen;have:=HKL.out;have:=HJ.out;have:=HPL.out;omega)
    have HB2':=hQ (show (kids.length+1)*72≤140737488355328 from by have:=HKL.out;have:=HJ.out;have:=HPL.out;omega)
    have hn0:(0:Int)≤(kids.length:Int):=by omega
    have hn1:(kids.length:Int)<(kids.length:Int)+1:=by omega
    obtain ⟨i0,hi,hz0,hz1,hz2⟩:=info_parts Qen
    go_region_law (first
     | (refine step_append_lies _ (by rfl) _ _ _ (by rfl) w1.heap.size 29 i0 _ 4 72 Tryz.underlying22 hi hz0 hz1 hz2 rfl (by decide) (.slice ka kids.length kc) kids.length (Qar vs) (by rfl) ((HOW.out.alloc _).drew) ⟨WA.heap.size,0,none⟩ 1 1 [.int .i64 0,.string ⟨#[]⟩,.slice none 0 0,.slice none 0 0] (by rfl) (by rfl) (xM (cs:=#[.int .i64 0,.string ⟨#[]⟩,.slice none 0 0,.slice none 0 0]) (t:=29) (fr:=(0,0)) (xH WA _)) Qmh (by decide) HB1'.out HB2'.out (xQ HA.out.lt (by simp)) (WA.heap.size+1) (by simp) ?_;intro g cap w5 hown5 hgrow5 hat5 hlt5;have HK5:=hQ (KS.grow0 KSa.out hgrow5 HKGB.out);have HO5:=hQ hown5;have HT5:=hQ (show blk ka=some g∨WA.heap.size≤g from hat5.elim (fun e=>.inl (by rwa [Qhb] at e)) (fun e=>.inr (by omega)));have HC5:=hQ (Qhz hown5 HVL.out);clear k3 kf x2 etb exb;have k3:=(Qaa ((HK5.out.rest.block (w.heap.size+1) (Qab HA.out.heap) HTBX.out).trans HA.out.heap) 3 _ rfl);have kf:=xL ((HK5.out.rest.block (w.heap.size+1) (Qab HA.out.heap) HTBX.out).trans HA.out.heap);have x2:=(Qaa ((HK5.out.rest.block wr.heap.size (Qab GX.out) HXBX.out).trans GX.out) 2 _ rfl);have etb:=Qab ((HK5.out.rest.block (w.heap.size+1) (Qab HA.out.heap) HTBX.out).trans HA.out.heap);have exb:=Qab ((HK5.out.rest.block wr.heap.size (Qab GX.out) HXBX.out).trans GX.out);have ng:=Qp8 HA.out.low hown5;clear hown5 hgrow5 hat5 hlt5)
     | (refine step_append_lies _ (by rfl) _ _ _ (by rfl) w1.heap.size 29 i0 _ 4 72 Tryz.underlying22 hi hz0 hz1 hz2 rfl (by decide) (.slice ka kids.length kc) kids.length (Qar vs) (by rfl) (HOW2.out.alloc _) ⟨w2.heap.size,0,none⟩ 1 1 [.int .i64 0,.string ⟨#[]⟩,.slice none 0 0,.slice none 0 0] (by rfl) (by rfl) (xM (cs:=#[.int .i64 0,.string ⟨#[]⟩,.slice none 0 0,.slice none 0 0]) (t:=29) (fr:=(0,0)) (xH w2 _)) Qmh (by decide) HB1'.out HB2'.out (xQ (xQ HA.out.lt HK2.out.rest.size) (by simp)) (w2.heap.size+1) (by simp) ?_;intro g cap w5 hown5 hgrow5 hat5 hlt5;have FK:=hQ (KS.grow0 (HK2.out.alloc _) hgrow5 HKGB.out);have FO:=hQ hown5;have FA:=hQ (show blk ka=some g∨WA.heap.size≤g from hat5.elim (fun e=>.inl (by rwa [Qhb] at e)) (fun e=>.inr (by have:=HK2.out.rest.size;omega)));have FT:=hQ (Qti (TrAt.move (fun _ h=>h) (fun k hk hlt=>Below.heap_alloc _ _ _ hlt) _ _ HTR.out) hgrow5 (by simp) HKB2.out (hat5.elim (fun e=>.inl (by rwa [Qhb] at e)) (fun e=>.inr (by omega))));clear k3 kf x2 etb exb;have k3:=(Qaa ((FK.out.rest.block (w.heap.size+1) (Qab HA.out.heap) HTBX.out).trans HA.out.heap) 3 _ rfl);have kf:=xL ((FK.out.rest.block (w.heap.size+1) (Qab HA.out.heap) HTBX.out).trans HA.out.heap);have x2:=(Qaa ((FK.out.rest.block wr.heap.size (Qab GX.out) HXBX.out).trans GX.out) 2 _ rfl);have etb:=Qab ((FK.out.rest.block (w.heap.size+1) (Qab HA.out.heap) HTBX.out).trans HA.out.heap);have exb:=Qab ((FK.out.rest.block wr.heap.size (Qab GX.out) HXBX.out).trans GX.out);have ng:=Qp8 HA.out.low hown5;have sc:=Qhz FO.out HVL.out;obtain ⟨⟨s0,s1,s2,s3⟩,sf⟩:=sc;clear hown5 hgrow5 hat5 hlt5)
     | (refine step_append_lies _ (by rfl) _ _ _ (by rfl) w1.heap.size 29 i0 _ 4 72 Tryz.underlying22 hi hz0 hz1 hz2 rfl (by decide) (.slice ka kids.length kc) kids.length (Qar vs) (by rfl) HOW2.out ⟨WA.heap.size,0,none⟩ 1 1 [.int .i64 0,.string ⟨#[]⟩,.slice none 0 0,.slice none 0 0] (by rfl) (by rfl) (xM (cs:=#[.int .i64 0,.string ⟨#[]⟩,.slice none 0 0,.slice none 0 0]) (t:=29) (fr:=(0,0)) HZ2.out) Qmh (by decide) HB1'.out HB2'.out (xQ HA.out.lt HK2.out.rest.size) w2.heap.size rfl ?_;intro g cap w5 hown5 hgrow5 hat5 hlt5;have FK:=hQ (KS.grow0 HK2.out hgrow5 HKGB.out);have FO:=hQ hown5;have FA:=hQ (show blk ka=some g∨WA.heap.size≤g from hat5.elim (fun e=>.inl (by rwa [Qhb] at e)) (fun e=>.inr (by have:=HK2.out.rest.size;omega)));have FT:=hQ (Qti HTR.out hgrow5 (xA _) HKB2.out (hat5.elim (fun e=>.inl (by rwa [Qhb] at e)) (fun e=>.inr (by omega))));clear k3 kf x2 etb exb;have k3:=(Qaa ((FK.out.rest.block (w.heap.size+1) (Qab HA.out.heap) HTBX.out).trans HA.out.heap) 3 _ rfl);have kf:=xL ((FK.out.rest.block (w.heap.size+1) (Qab HA.out.heap) HTBX.out).trans HA.out.heap);have x2:=(Qaa ((FK.out.rest.block wr.heap.size (Qab GX.out) HXBX.out).trans GX.out) 2 _ rfl);have etb:=Qab ((FK.out.rest.block (w.heap.size+1) (Qab HA.out.heap) HTBX.out).trans HA.out.heap);have exb:=Qab ((FK.out.rest.block wr.heap.size (Qab GX.out) HXBX.out).trans GX.out);have ng:=Qp8 HA.out.low hown5;have sc:=Qhz FO.out HVL.out;obtain ⟨⟨s0,s1,s2,s3⟩,sf⟩:=sc;clear hown5 hgrow5 hat5 hlt5)
     | (go_simp;go_at_call 126;refine (KS.call HTC.out HTt.out KSd.out).mono ?_;rintro e w2 ⟨v,rfl,hk2,htr,ho2⟩;have HK2:=hQ hk2;have HTR:=hQ (htr.up (xA _));have HOW2:=hQ (Qcb HOW.out.drew (Rest.off ho2) HKNB.out);have HKB2:=HKB;clear k3 kf x2 etb exb;have k3:=(Qaa ((HK2.out.rest.block (w.heap.size+1) (Qab HA.out.heap) HTBX.out).trans HA.out.heap) 3 _ rfl);have kf:=xL ((HK2.out.rest.block (w.heap.size+1) (Qab HA.out.heap) HTBX.out).trans HA.out.heap);have x2:=(Qaa ((HK2.out.rest.block wr.heap.size (Qab GX.out) HXBX.out).trans GX.out) 2 _ rfl);have etb:=Qab ((HK2.out.rest.block (w.heap.size+1) (Qab HA.out.heap) HTBX.out).trans HA.out.heap);have exb:=Qab ((HK2.out.rest.block wr.heap.size (Qab GX.out) HXBX.out).trans GX.out);clear hk2 htr ho2)
     | (go_simp;go_at_call 126;refine (KS.call HTC.out HTt.out KSa.out).mono ?_;rintro e w2 ⟨v,rfl,hk2,htr,ho2⟩;have HK2:=hQ hk2;have HTR:=hQ (htr.up (show WA.heap.size≤_ from by simp));have HOW2:=hQ (Qcb (HOW.out.alloc _).drew (Rest.off ho2) HKNB.out);have HZ2:=hQ ((ho2.block WA.heap.size (by simp) HWNB.out).trans (xH WA _));have HKB2:=HKB;clear k3 kf x2 etb exb;have k3:=(Qaa ((HK2.out.rest.block (w.heap.size+1) (Qab HA.out.heap) HTBX.out).trans HA.out.heap) 3 _ rfl);have kf:=xL ((HK2.out.rest.block (w.heap.size+1) (Qab HA.out.heap) HTBX.out).trans HA.out.heap);have x2:=(Qaa ((HK2.out.rest.block wr.heap.size (Qab GX.out) HXBX.out).trans GX.out) 2 _ rfl);have etb:=Qab ((HK2.out.rest.block (w.heap.size+1) (Qab HA.out.heap) HTBX.out).trans HA.out.heap);have exb:=Qab ((HK2.out.rest.block wr.heap.size (Qab GX.out) HXBX.out).trans GX.out);clear hk2 htr ho2)
     | (go_simp;go_at_call 126;refine (KS.call HTC.out HTt.out HK5.out).mono ?_;rintro e w2 ⟨v,rfl,hk2,htr,ho2⟩;have FK:=hQ hk2;have FO:=hQ (Qcb HO5.out (Rest.off ho2) (fun k hk e=>ng.2 (by rw [Qhb] at hk;exact (Qf1 hk).trans e)));have FA:=HT5;have FT:=hQ (htr.fresh HK5.out.rest.size (Qer HO5.out rfl).2.1);clear k3 kf x2 etb exb;have k3:=(Qaa ((FK.out.rest.block (w.heap.size+1) (Qab HA.out.heap) HTBX.out).trans HA.out.heap) 3 _ rfl);have kf:=xL ((FK.out.rest.block (w.heap.size+1) (Qab HA.out.heap) HTBX.out).trans HA.out.heap);have x2:=(Qaa ((FK.out.rest.block wr.heap.size (Qab GX.out) HXBX.out).trans GX.out) 2 _ rfl);have etb:=Qab ((FK.out.rest.block (w.heap.size+1) (Qab HA.out.heap) HTBX.out).trans HA.out.heap);have exb:=Qab ((FK.out.rest.block wr.heap.size (Qab GX.out) HXBX.out).trans GX.out);have sc:=Qhz FO.out HVL.out;obtain ⟨⟨s0,s1,s2,s3⟩,sf⟩:=sc;clear hk2 htr ho2))
    all_goals
     go_wp2
     go_roundg (gk-1)
     case measure=>have:=HJ.out;have:=HLT.out;omega
     case rel =>
      have hk1:=Qp7 HA.out HIN.out FK.out FO.out FT.out FA.out
      have hk2:=Qtj HA.out HIN.out FK.out FO.out FT.out FA.out
      refine ⟨j+1,text,leads,la,lc,kids ++ [t'],some ⟨g,0,none⟩,cap,commas,ca,cc,q',rfl,by go_num,by have:=HJ.out;have:=HLT.out;omega,?_,HG2.out,Nat.le_succ_of_le HLL.out,by rw [xB,Nat.succ_mul];exact Nat.add_le_add HKL.out (Nat.le_of_lt (xE (xW 1) (by decide))),HCL.out,HC0.out⟩
      first
       | with_reducible exact hk1
       | with_reducible exact hk2
   ·have hse:se=false:=hse
    subst hse
    have hkd:(kd != 0)=false:=hkd
    have HG2:=hQ hG
    clear hG
    have HA:=hQ (HII.out.below ((xC wr.heap.size wr).alloc (xA _) (.cells #[.string wd,fnV nm,.int .i64 kd,.int .i64 lst,.int .i64 mst,.bool false,.bool co] 176)))
    go_wp2_with fail
    go_at_call 127
    refine (Qtd ⟨wd,nm,kd,lst,mst,false,co⟩ HNM.out _ HA.out.state HA.out.heap HA.out.leads HA.out.low.1 HA.out.low.2 HA.out.lt (by have:=HLL.out;have:=HPL.out;have:=HLT.out;omega)).mono ?_
    intro e w2 hpost
    obtain ⟨rfl,la',lc',hn2⟩:=HA.out.tok hpost
    have HN2:=hQ hn2
    clear hpost hn2
    go_wp2
    go_roundg (gk-1)
    case measure=>have:=HJ.out;have:=HLT.out;omega
    case rel=>exact ⟨j+1,(Qc7 ⟨wd,nm,kd,lst,mst,false,co⟩ text leads p').1,(Qc7 ⟨wd,nm,kd,lst,mst,false,co⟩ text leads p').2.1,la',lc',kids,ka,kc,commas,ca,cc,(Qc7 ⟨wd,nm,kd,lst,mst,false,co⟩ text leads p').2.2,rfl,by go_num,by have:=HJ.out;have:=HLT.out;omega,HN2.out,HG2.out,xQ (Qld ⟨wd,nm,kd,lst,mst,false,co⟩ text leads p') (Nat.succ_le_succ HLL.out),xQ HKL.out (Nat.mul_le_mul_right _ (Nat.le_succ j)),HCL.out,HC0.out⟩
  ·have HE:=hQ (Qnc (by have:=HGG.out;rwa [List.drop_eq_nil_of_le (by omega)] at this))
   have k0:=Qaa HII.out.heap 0 _ rfl
   have k1:=Qaa HII.out.heap 1 _ rfl
   have k2:=Qaa HII.out.heap 2 _ rfl
   have k3:=Qaa HII.out.heap 3 _ rfl
   have kf:=xL HII.out.heap
   have hne:w.heap.size+1≠w.heap.size:=by omega
   have HRB:=hQ ((HII.out.rest.block w.heap.size (by have:=HBB.out;omega) (by have:=HBLT.out;intro e;rcases e with e | e <;> omega)).trans HG0.out)
   have r0:=Qaa HRB.out 0 _ rfl
   have r1:=Qaa HRB.out 1 _ rfl
   have r2:=Qaa HRB.out 2 _ rfl
   have r3:=Qaa HRB.out 3 _ rfl
   have rf:=xL HRB.out
   obtain ⟨i0,hi,hz0,hz1,hz2⟩:=info_parts Qc8
   by_cases hcm:commas = []
   ·subst hcm
    obtain ⟨rfl,rfl⟩:=HC0.out rfl
    go_wp2_with (at_builtin;refine Qfs (by rfl) _ _ _ (by rfl) w1.heap.size 9 i0 1 Tryz.underlying27 hi (.slice la leads.length lc) leads.length (leads.map Value.string) (by rfl) HII.out.leads (by rfl) ?_)
    refine bodyPost_ret (v:=.agg #[.int .i64 kind,.string text,.slice la leads.length lc,.slice ka kids.length kc]) (by simp [results,Tryz.results78,go_sem, *]) rfl ?_
    refine Qp6 (W:=wr.setCell ⟨w.heap.size+1,2,none⟩ (.slice la leads.length lc)) (HII.out.write (Rest.set (X:=fun k=>k=w.heap.size+1) rfl _ _) (Qba HII.out.heap rfl)) HB1.out HBLT.out rfl ?_ (by have:=HE.out;rwa [List.append_nil] at this)
    exact (((Rest.set1 _ _ _).trans (Rest.set1 _ _ _)).trans (Rest.set1 _ _ _)).trans (Rest.set1 _ _ _)
   ·have hpos:0<commas.length:=by cases hcc:commas with
     | nil=>exact absurd hcc hcm
     | cons a r=>simp
    obtain ⟨cg,cc',hcv,_,_⟩:=World.ownsRow.form HII.out.commas hpos
    injection hcv with hcv1 _ hcv2
    subst hcv1
    have HCM:=hQ (show ∀ i u,(commas.map Value.string)[i]? = some u→wr.cell? ((⟨cg,0,none⟩:Addr).add i)=some u from fun i u hu=>World.ownsRow.cells (g:=cg) HII.out.commas rfl i u hu)
    clear hcm hcv2
    go_wp2_with (at_builtin;refine wpList_append_lies _ (by rfl) _ _ _ (by rfl) w1.heap.size 9 i0 _ 1 16 Tryz.underlying27 hi hz0 hz1 hz2 rfl (by decide) (.slice la leads.length lc) leads.length (leads.map Value.string) (by rfl) HII.out.leads ⟨cg,0,none⟩ commas.length cc (commas.map Value.string) (by rfl) (by simp) HCM.out (fun u hu=>by simp only [List.mem_map] at hu;obtain ⟨x,_,rfl⟩:=hu;rfl) (by omega) ?b1 ?b2 ?b3 wr.heap.size rfl ?_)
    case b1=>unfold maxLen;have:=HLL.out;have:=HCL.out;have:=HJ.out;have:=HPL.out;omega
    case b2=>have:=HLL.out;have:=HCL.out;have:=HJ.out;have:=HPL.out;omega
    case b3=>exact HII.out.rest.size
    intro g cap w5 hown5 hgrow hat5 hlt5
    have HS:=hQ (HII.out.shut hown5 hgrow hat5 rfl)
    have HLN:=hQ (show (leads ++ commas).length=leads.length+commas.length from xB)
    have hlb:∀ k,k<w1.heap.size→w5.heap[k]? = wr.heap[k]?:=fun k hk=>hgrow.block k (by have:=HII.out.rest.size;omega) (fun e=>by rw [Qhb] at e;have:=(HII.out.lblk e.symm).1;omega)
    have G5:=(hlb (w.heap.size+1) HBB.out).trans HII.out.heap
    have R5:=(hlb w.heap.size (by have:=HBB.out;omega)).trans HRB.out
    clear hown5 hgrow hat5 hlt5 k0 k1 k2 k3 kf r0 r1 r2 r3 rf hlb
    have k0:=Qaa G5 0 _ rfl
    have k1:=Qaa G5 1 _ rfl
    have k2:=Qaa G5 2 _ rfl
    have k3:=Qaa G5 3 _ rfl
    have kf:=xL G5
    have r0:=Qaa R5 0 _ rfl
    have r1:=Qaa R5 1 _ rfl
    have r2:=Qaa R5 2 _ rfl
    have r3:=Qaa R5 3 _ rfl
    have rf:=xL R5
    clear G5 R5 hpos
    go_wp2
    refine bodyPost_ret (v:=.agg #[.int .i64 kind,.string text,.slice (some ⟨g,0,none⟩) (leads.length+commas.length) cap,.slice ka kids.length kc]) (by simp [results,Tryz.results78,go_sem, *]) rfl ?_
    rw [←HLN.out]
    refine Qp6 HS.out HB1.out HBLT.out rfl ?_ HE.out
    rw [HLN.out]
    exact (((Rest.set1 _ _ _).trans (Rest.set1 _ _ _)).trans (Rest.set1 _ _ _)).trans (Rest.set1 _ _ _)
end Go.Proofs.YtjidpkcjpgdafaaGreat
