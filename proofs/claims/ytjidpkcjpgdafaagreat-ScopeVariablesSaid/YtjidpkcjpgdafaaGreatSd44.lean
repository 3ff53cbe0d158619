/- Part 44 -/
import Derived.Test.YtjidpkcjpgdafaaGreatSd41
set_option maxRecDepth 100000
set_option maxHeartbeats 4000000
namespace Go.Proofs.YtjidpkcjpgdafaaGreat
open Go.RowKit Go.Shelf
theorem es_12 (B:Nat) (d:Int) (n:Nat) (h1:1≤d) (h3:d≤3) (_ih:∀ w,DiceAt B w→Calls Tryz.prog 153 #[.pointer (some ⟨B,0,none⟩),.int .i64 (d-1)] w (Qb8 B n w)) (U1:∀ w,DiceAt B w→Calls Tryz.prog 210 #[.pointer (some ⟨B,0,none⟩),.int .i64 (d-1)] w (Qb8 B (n+1) w)) (U2:∀ w,DiceAt B w→Calls Tryz.prog 210 #[.pointer (some ⟨B,0,none⟩),.int .i64 0] w (Qb8 B 2 w)) (hn1:1≤n) (w:World) (hd:DiceAt B w) (hn:Qfb B w 14 12) :
  Calls Tryz.prog 153 #[.pointer (some ⟨B,0,none⟩),.int .i64 d] w (Qb8 B (3*n+6) w):=by
 have HB:=hQ hd.lt
 have HB0:=hQ ((xC w.heap.size w).alloc (xA _) (.cells #[.int .i64 0,.string ⟨#[]⟩,.slice none 0 0,.slice none 0 0] 29))
 have HX0:=hQ (xH w (.cells #[.int .i64 0,.string ⟨#[]⟩,.slice none 0 0,.slice none 0 0] 29))
 have HD0:=hQ (hd.keep HB0.out)
 have HR0:=hQ (Rest1.below (g:=B) HB0.out)
 have HN:=hQ (hn (w.alloc (.cells #[.int .i64 0,.string ⟨#[]⟩,.slice none 0 0,.slice none 0 0] 29)) fun k hk=>HB0.out.block k (by have:=HB.out;omega))
 have UN:=hQ U1
 have U0:=hQ U2
 have HN1:=hQ hn1
 clear hd hn _ih U1 U2 hn1
 go_enter Tryz.func153,Tryz.ntmps153
 go_wp2_with fail
 go_at_call 61
 refine HN.out.mono ?_
 rintro e w1 ⟨rfl,hrest,hd1⟩
 have HD1:=hQ hd1
 have HR1:=hQ (HR0.out.trans hrest)
 have HX1:=hQ ((hrest.block w.heap.size (Qaa HX0.out) (by have:=HB.out;omega)).trans HX0.out)
 have HS1:=hQ (show w.heap.size+1≤w1.heap.size from Qaa HX1.out)
 clear hrest hd1
 go_wp2_with fail
 go_at_call 151
 refine (Qce B 5 [(⟨#[43]⟩:ByteArray),(⟨#[45]⟩:ByteArray),(⟨#[42]⟩:ByteArray),(⟨#[60]⟩:ByteArray),(⟨#[61,61]⟩:ByteArray)] _ w1 HD1.out rfl rfl (by decide) (by decide) (by decide)).mono ?_
 rintro e w2 ⟨p,rfl,hp,hrest,hd1⟩
 have HD2:=hQ hd1
 have HR2:=hQ (HR1.out.trans hrest)
 have HX2:=hQ ((hrest.block w.heap.size (Qaa HX1.out) (by have:=HB.out;omega)).trans HX1.out)
 have HS2:=hQ (show w.heap.size+1≤w2.heap.size from Qaa HX2.out)
 have HP:=hQ hp
 clear hrest hd1 hp
 go_wp2_with fail
 go_at_call 210
 refine (UN.out w2 HD2.out).mono ?_
 rintro e w3 ⟨t1,u1,rfl,ht,hz,hy,hrest,hd1⟩
 have HD3:=hQ hd1
 have HR3:=hQ (HR2.out.trans hrest)
 have HX3:=hQ ((hrest.block w.heap.size (Qaa HX2.out) (by have:=HB.out;omega)).trans HX2.out)
 have HS3:=hQ (show w.heap.size+1≤w3.heap.size from Qaa HX3.out)
 have HT1:=hQ (Qi4 (lo:=w.heap.size+1) ht HS2.out)
 have HZ1:=hQ hz
 have HY1:=hQ hy
 have HWL:=hQ ((xC w3.heap.size w3).alloc (xA _) (trO u1))
 have HBK:=hQ (xH w3 (trO u1))
 have HDL:=hQ (HD3.out.keep HWL.out)
 have HRL:=hQ (HR3.out.trans (Rest1.below HWL.out))
 have HXL:=hQ ((HWL.out.block w.heap.size (Qaa HX3.out)).trans HX3.out)
 clear hrest hd1 ht hz hy
 go_wp2_with fail
 go_at_call 61
 refine (Qb6 B 3 _ HDL.out (by decide) (by decide)).mono ?_
 rintro e w4 ⟨q,rfl,q0,q1,hrest,hd1⟩
 have HD4:=hQ hd1
 have H34:=hQ ((Rest1.below HWL.out).trans hrest)
 have HR4:=hQ (HRL.out.trans hrest)
 have HX4:=hQ ((hrest.block w.heap.size (Qaa HXL.out) (by have:=HB.out;omega)).trans HXL.out)
 have HL4:=hQ ((hrest.block w3.heap.size (Qaa HBK.out) (by have:=HB.out;have:=HS3.out;omega)).trans HBK.out)
 clear hrest hd1
 by_cases hq:q=0
 ·subst hq
  obtain ⟨y0,y1,y2,y3,yl,yf⟩:=Qai HL4.out
  go_wp2_with fail
  go_region_law (first
   | (go_simp;go_at_call 151;refine (Qrb B 2 [(⟨#[43]⟩:ByteArray),(⟨#[42]⟩:ByteArray)] _ w4 HD4.out rfl rfl (by decide) (by decide) (by decide)).mono ?_;rintro e w5 ⟨s,rfl,hs,hrest,hd1⟩;have HD5:=hQ hd1;have HSS:=hQ hs;have H35:=hQ (H34.out.trans hrest);have HR5:=hQ (HR4.out.trans hrest);have HX5:=hQ ((hrest.block w.heap.size (Qaa HX4.out) (by have:=HB.out;omega)).trans HX4.out);have HL5:=hQ ((hrest.block w3.heap.size (Qaa HL4.out) (by have:=HB.out;have:=HS3.out;omega)).trans HL4.out);clear hs hrest hd1 y0 y1 y2 y3 yl yf;have y0:w5.cell? ⟨w3.heap.size,0,none⟩=some (.int .i64 u1.kind):=Qab HL5.out 0 _ rfl;have y1:w5.cell? ⟨w3.heap.size,1,none⟩=some (.string u1.text):=Qab HL5.out 1 _ rfl;have y2:w5.cell? ⟨w3.heap.size,2,none⟩=some (.slice u1.la u1.ll u1.lc):=Qab HL5.out 2 _ rfl;have y3:w5.cell? ⟨w3.heap.size,3,none⟩=some (.slice u1.ka u1.kl u1.kc):=Qab HL5.out 3 _ rfl;have yl:w3.heap.size<w5.heap.size:=Qaa HL5.out;have yf:∀ o,w5.frozen? ⟨w3.heap.size,o,none⟩=false:=fun o=>xL HL5.out _)
   | (go_simp;go_at_call 210;refine (U0.out w5 HD5.out).mono ?_;rintro e w6 ⟨t2,u2,rfl,ht,hz,hy,hrest,hd1⟩;have HD6:=hQ hd1;have H36:=hQ (H35.out.trans hrest);have HR6:=hQ (HR5.out.trans hrest);have HX6:=hQ ((hrest.block w.heap.size (Qaa HX5.out) (by have:=HB.out;omega)).trans HX5.out);have HL6:=hQ ((hrest.block w3.heap.size (Qaa HL5.out) (by have:=HB.out;have:=HS3.out;omega)).trans HL5.out);have HT2:=hQ (TrAt.move (S':=fun b=>w3.heap.size<b∧b<w6.heap.size) (fun b hb=>⟨by have:=Qaa HL5.out;omega,hb.2⟩) (fun _ _ _=>rfl) _ _ ht);have HZ2:=hQ hz;have HY2:=hQ hy;clear ht hz hy hrest hd1 y0 y1 y2 y3 yl yf;have y0:w6.cell? ⟨w3.heap.size,0,none⟩=some (.int .i64 u1.kind):=Qab HL6.out 0 _ rfl;have y1:w6.cell? ⟨w3.heap.size,1,none⟩=some (.string u1.text):=Qab HL6.out 1 _ rfl;have y2:w6.cell? ⟨w3.heap.size,2,none⟩=some (.slice u1.la u1.ll u1.lc):=Qab HL6.out 2 _ rfl;have y3:w6.cell? ⟨w3.heap.size,3,none⟩=some (.slice u1.ka u1.kl u1.kc):=Qab HL6.out 3 _ rfl;have yl:w3.heap.size<w6.heap.size:=Qaa HL6.out;have yf:∀ o,w6.frozen? ⟨w3.heap.size,o,none⟩=false:=fun o=>xL HL6.out _)
   | fail)
  all_goals
   obtain ⟨hT7,hR7,hD7,hL7,hX7⟩:=Zg9 (w:=w) (w3:=w3) (L:=w3.heap.size) (R:=w.heap.size) 21 s HB.out rfl rfl HS3.out HT1.out H36.out HT2.out HL6.out HR6.out HD6.out HX6.out
   have kT:TrAt (fun b=>w.heap.size+1≤b∧b<(((((w6.setCell ⟨w3.heap.size,0,none⟩ (.int .i64 21)).setCell ⟨w3.heap.size,1,none⟩ (.string s)).setCell ⟨w3.heap.size,2,none⟩ (.slice none 0 0)).setCell ⟨w3.heap.size,3,none⟩ (.slice (some ⟨w6.heap.size,0,none⟩) 2 2)).alloc (.cells #[.int .i64 u1.kind,.string u1.text,.slice u1.la u1.ll u1.lc,.slice u1.ka u1.kl u1.kc,.int .i64 u2.kind,.string u2.text,.slice u2.la u2.ll u2.lc,.slice u2.ka u2.kl u2.kc] 29)).heap.size) (((((w6.setCell ⟨w3.heap.size,0,none⟩ (.int .i64 21)).setCell ⟨w3.heap.size,1,none⟩ (.string s)).setCell ⟨w3.heap.size,2,none⟩ (.slice none 0 0)).setCell ⟨w3.heap.size,3,none⟩ (.slice (some ⟨w6.heap.size,0,none⟩) 2 2)).alloc (.cells #[.int .i64 u1.kind,.string u1.text,.slice u1.la u1.ll u1.lc,.slice u1.ka u1.kl u1.kc,.int .i64 u2.kind,.string u2.text,.slice u2.la u2.ll u2.lc,.slice u2.ka u2.kl u2.kc] 29)) (.mk 21 s [] [t1,t2]) (⟨21,s,none,0,0,some ⟨w6.heap.size,0,none⟩,2,2⟩:TV):=hT7
   have kR:Rest1 B w (((((w6.setCell ⟨w3.heap.size,0,none⟩ (.int .i64 21)).setCell ⟨w3.heap.size,1,none⟩ (.string s)).setCell ⟨w3.heap.size,2,none⟩ (.slice none 0 0)).setCell ⟨w3.heap.size,3,none⟩ (.slice (some ⟨w6.heap.size,0,none⟩) 2 2)).alloc (.cells #[.int .i64 u1.kind,.string u1.text,.slice u1.la u1.ll u1.lc,.slice u1.ka u1.kl u1.kc,.int .i64 u2.kind,.string u2.text,.slice u2.la u2.ll u2.lc,.slice u2.ka u2.kl u2.kc] 29)):=hR7
   have kD:DiceAt B (((((w6.setCell ⟨w3.heap.size,0,none⟩ (.int .i64 21)).setCell ⟨w3.heap.size,1,none⟩ (.string s)).setCell ⟨w3.heap.size,2,none⟩ (.slice none 0 0)).setCell ⟨w3.heap.size,3,none⟩ (.slice (some ⟨w6.heap.size,0,none⟩) 2 2)).alloc (.cells #[.int .i64 u1.kind,.string u1.text,.slice u1.la u1.ll u1.lc,.slice u1.ka u1.kl u1.kc,.int .i64 u2.kind,.string u2.text,.slice u2.la u2.ll u2.lc,.slice u2.ka u2.kl u2.kc] 29)):=hD7
   have kL:(((((w6.setCell ⟨w3.heap.size,0,none⟩ (.int .i64 21)).setCell ⟨w3.heap.size,1,none⟩ (.string s)).setCell ⟨w3.heap.size,2,none⟩ (.slice none 0 0)).setCell ⟨w3.heap.size,3,none⟩ (.slice (some ⟨w6.heap.size,0,none⟩) 2 2)).alloc (.cells #[.int .i64 u1.kind,.string u1.text,.slice u1.la u1.ll u1.lc,.slice u1.ka u1.kl u1.kc,.int .i64 u2.kind,.string u2.text,.slice u2.la u2.ll u2.lc,.slice u2.ka u2.kl u2.kc] 29)).heap[w3.heap.size]? = some (trO (⟨21,s,none,0,0,some ⟨w6.heap.size,0,none⟩,2,2⟩:TV)):=hL7
   have kX:(((((w6.setCell ⟨w3.heap.size,0,none⟩ (.int .i64 21)).setCell ⟨w3.heap.size,1,none⟩ (.string s)).setCell ⟨w3.heap.size,2,none⟩ (.slice none 0 0)).setCell ⟨w3.heap.size,3,none⟩ (.slice (some ⟨w6.heap.size,0,none⟩) 2 2)).alloc (.cells #[.int .i64 u1.kind,.string u1.text,.slice u1.la u1.ll u1.lc,.slice u1.ka u1.kl u1.kc,.int .i64 u2.kind,.string u2.text,.slice u2.la u2.ll u2.lc,.slice u2.ka u2.kl u2.kc] 29)).heap[w.heap.size]? = some (.cells #[.int .i64 0,.string ⟨#[]⟩,.slice none 0 0,.slice none 0 0] 29 (0,0)):=hX7
   clear hT7 hR7 hD7 hL7 hX7 y0 y1 y2 y3 yl yf
   generalize ((((w6.setCell ⟨w3.heap.size,0,none⟩ (.int .i64 21)).setCell ⟨w3.heap.size,1,none⟩ (.string s)).setCell ⟨w3.heap.size,2,none⟩ (.slice none 0 0)).setCell ⟨w3.heap.size,3,none⟩ (.slice (some ⟨w6.heap.size,0,none⟩) 2 2)).alloc (.cells #[.int .i64 u1.kind,.string u1.text,.slice u1.la u1.ll u1.lc,.slice u1.ka u1.kl u1.kc,.int .i64 u2.kind,.string u2.text,.slice u2.la u2.ll u2.lc,.slice u2.ka u2.kl u2.kc] 29)=w7 at kT kR kD kL kX ⊢
   have HT7:=hQ kT
   have HR7:=hQ kR
   have HD7:=hQ kD
   have HL7:=hQ kL
   have HX7:=hQ kX
   have HZ7:=hQ (show Qak (.mk 21 s [] [t1,t2])≤n+4 from by rw [Qak,Qap,Qap,Qap];have:=HZ1.out;have:=HZ2.out;omega)
   have HY7:=hQ (show Qfw (.mk 21 s [] [t1,t2])=true from Qcd.2 ⟨HSS.out,by simp,by simp,by rw [Qbk,HY1.out,Qbk,HY2.out,Qbk];rfl⟩)
   clear kT kR kD kL kX
   obtain ⟨y0,y1,y2,y3,yl,yf⟩:=Qai HL7.out
   obtain ⟨x0,x1,x2,x3,xl,xf⟩:=Qai HX7.out
   have hwd:IntKind.i64.wrap (d-1)=d-1:=IntWalk.i64_in _ (by omega)
   go_wp2_with fail
   go_region_law (first
    | (go_simp;go_at_call 210;refine (UN.out _ HD7.out.drew).mono ?_;rintro e w8 ⟨t3,u3,rfl,ht0,hz,hy,hrest0,hd1⟩;have hrest:=hrest0.ofDrew;have ht:TrAt (fun b=>w7.heap.size≤b∧b<w8.heap.size) w8 t3 u3:=ht0;have HD8:=hQ hd1;have HR8:=hQ (HR7.out.trans hrest);have HX8:=hQ ((hrest.block w.heap.size (Qaa HX7.out) (by have:=HB.out;omega)).trans HX7.out);have HL8:=hQ ((hrest.block w3.heap.size (Qaa HL7.out) (by have:=HB.out;have:=HS3.out;omega)).trans HL7.out);have HK8:=hQ ((Qg6 HT7.out).more hrest (by have:=HB.out;omega) ht (Qaa HX7.out));have HZ8:=hQ hz;have HY8:=hQ hy;clear ht0 hrest0 ht hz hy hrest hd1 y0 y1 y2 y3 yl yf x0 x1 x2 x3 xl xf;obtain ⟨y0,y1,y2,y3,yl,yf⟩:=Qai HL8.out;obtain ⟨x0,x1,x2,x3,xl,xf⟩:=Qai HX8.out)
    | fail)
   all_goals
    go_wp2
    refine bodyPost_ret (v:=.agg #[.int .i64 21,.string p,.slice none 0 0,.slice (some ⟨w8.heap.size,0,none⟩) 2 2]) (by simp [results,Tryz.results153,go_sem, *]) rfl ?_
    exact Qfx (n:=(3*n+6)) (ks:=[.mk 21 s [] [t1,t2],t3]) (us:=[(⟨21,s,none,0,0,some ⟨w6.heap.size,0,none⟩,2,2⟩:TV),u3]) 21 p HP.out HK8.out (by rw [Qbk,HY7.out,Qbk,HY8.out,Qbk];rfl) (by rw [Qap,Qap,Qap];have:=HZ7.out;have:=HZ8.out;omega) HB.out HR8.out HD8.out (Qaa HX8.out) 2 rfl
 ·have hq2:decide (q=0)=false:=xR hq
  have hq3:(q==0)=false:=by simpa using hq
  have HT7:=hQ (Zf2 HT1.out H34.out (by have:=HB.out;omega) (xA _))
  have HR7:=HR4
  have HD7:=HD4
  have HL7:=HL4
  have HX7:=HX4
  have HZ7:=HZ1
  have HY7:=HY1
  obtain ⟨y0,y1,y2,y3,yl,yf⟩:=Qai HL7.out
  obtain ⟨x0,x1,x2,x3,xl,xf⟩:=Qai HX7.out
  have hwd:IntKind.i64.wrap (d-1)=d-1:=IntWalk.i64_in _ (by omega)
  go_wp2_with fail
  go_region_law (first
   | (go_simp;go_at_call 210;refine (UN.out _ HD7.out.drew).mono ?_;rintro e w8 ⟨t3,u3,rfl,ht0,hz,hy,hrest0,hd1⟩;have hrest:=hrest0.ofDrew;have ht:TrAt (fun b=>w4.heap.size≤b∧b<w8.heap.size) w8 t3 u3:=ht0;have HD8:=hQ hd1;have HR8:=hQ (HR7.out.trans hrest);have HX8:=hQ ((hrest.block w.heap.size (Qaa HX7.out) (by have:=HB.out;omega)).trans HX7.out);have HL8:=hQ ((hrest.block w3.heap.size (Qaa HL7.out) (by have:=HB.out;have:=HS3.out;omega)).trans HL7.out);have HK8:=hQ ((Qg6 HT7.out).more hrest (by have:=HB.out;omega) ht (Qaa HX7.out));have HZ8:=hQ hz;have HY8:=hQ hy;clear ht0 hrest0 ht hz hy hrest hd1 y0 y1 y2 y3 yl yf x0 x1 x2 x3 xl xf;obtain ⟨y0,y1,y2,y3,yl,yf⟩:=Qai HL8.out;obtain ⟨x0,x1,x2,x3,xl,xf⟩:=Qai HX8.out)
   | fail)
  all_goals
   go_wp2
   refine bodyPost_ret (v:=.agg #[.int .i64 21,.string p,.slice none 0 0,.slice (some ⟨w8.heap.size,0,none⟩) 2 2]) (by simp [results,Tryz.results153,go_sem, *]) rfl ?_
   exact Qfx (n:=(3*n+6)) (ks:=[t1,t3]) (us:=[u1,u3]) 21 p HP.out HK8.out (by rw [Qbk,HY7.out,Qbk,HY8.out,Qbk];rfl) (by rw [Qap,Qap,Qap];have:=HZ7.out;have:=HZ8.out;omega) HB.out HR8.out HD8.out (Qaa HX8.out) 2 rfl
end Go.Proofs.YtjidpkcjpgdafaaGreat
