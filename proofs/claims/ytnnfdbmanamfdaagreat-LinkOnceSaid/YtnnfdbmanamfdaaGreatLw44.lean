/- Part 44: Expr at a level, by the first number. -/
import Derived.Test.YtnnfdbmanamfdaaGreatLw1
import Derived.Test.YtnnfdbmanamfdaaGreatLw41
import Derived.Deep.AppendLies
import Derived.IntWalk
import Derived.Deep.RegionHeld3
set_option maxRecDepth 100000
set_option maxHeartbeats 4000000
namespace Go.Proofs.YtnnfdbmanamfdaaGreat
open Go.RowKit Go.Shelf
theorem es_12 (B:Nat) (d:Int) (n:Nat) (h1:1 ≤ d) (h3:d ≤ 3) (_ih:∀ w,DiceAt B w → Calls Tryz.prog 132 #[.pointer (some ⟨B,0,none⟩),.int .i64 (d - 1)] w (Qb5 B n w)) (U1:∀ w,DiceAt B w → Calls Tryz.prog 166 #[.pointer (some ⟨B,0,none⟩),.int .i64 (d - 1)] w (Qb5 B (n + 1) w)) (U2:∀ w,DiceAt B w → Calls Tryz.prog 166 #[.pointer (some ⟨B,0,none⟩),.int .i64 0] w (Qb5 B 2 w)) (hn1:1 ≤ n) (w:World) (hd:DiceAt B w) (hn:Qe6 B w 14 12) :
  Calls Tryz.prog 132 #[.pointer (some ⟨B,0,none⟩),.int .i64 d] w (Qb5 B (3 * n + 6) w):=by
 have HB:=hQ hd.lt
 have HB0:=hQ ((xC w.heap.size w).alloc (xA _) (.cells #[.int .i64 0,.string ⟨#[]⟩,.slice none 0 0,.slice none 0 0] 25))
 have HX0:=hQ (xH w (.cells #[.int .i64 0,.string ⟨#[]⟩,.slice none 0 0,.slice none 0 0] 25))
 have HD0:=hQ (hd.keep HB0.o)
 have HR0:=hQ (Rest1.below (g:=B) HB0.o)
 have HN:=hQ (hn (w.alloc (.cells #[.int .i64 0,.string ⟨#[]⟩,.slice none 0 0,.slice none 0 0] 25)) fun k hk=>HB0.o.block k (by have:=HB.o;omega))
 have UN:=hQ U1
 have U0:=hQ U2
 have HN1:=hQ hn1
 clear hd hn _ih U1 U2 hn1
 go_enter Tryz.func132,Tryz.ntmps132
 go_wp2_with fail
 go_at_call 61
 refine HN.o.mono ?_
 rintro e w1 ⟨rfl,hrest,hd1⟩
 have HD1:=hQ hd1
 have HR1:=hQ (HR0.o.trans hrest)
 have HX1:=hQ ((hrest.block w.heap.size (Qaa HX0.o) (by have:=HB.o;omega)).trans HX0.o)
 have HS1:=hQ (show w.heap.size + 1 ≤ w1.heap.size from Qaa HX1.o)
 clear hrest hd1
 go_wp2_with fail
 go_at_call 130
 refine (Qcc B 5 [(⟨#[43]⟩:ByteArray),(⟨#[45]⟩:ByteArray),(⟨#[42]⟩:ByteArray),(⟨#[60]⟩:ByteArray),(⟨#[61,61]⟩:ByteArray)] _ w1 HD1.o rfl rfl (by decide) (by decide) (by decide)).mono ?_
 rintro e w2 ⟨p,rfl,hp,hrest,hd1⟩
 have HD2:=hQ hd1
 have HR2:=hQ (HR1.o.trans hrest)
 have HX2:=hQ ((hrest.block w.heap.size (Qaa HX1.o) (by have:=HB.o;omega)).trans HX1.o)
 have HS2:=hQ (show w.heap.size + 1 ≤ w2.heap.size from Qaa HX2.o)
 have HP:=hQ hp
 clear hrest hd1 hp
 go_wp2_with fail
 go_at_call 166
 refine (UN.o w2 HD2.o).mono ?_
 rintro e w3 ⟨t1,u1,rfl,ht,hz,hy,hrest,hd1⟩
 have HD3:=hQ hd1
 have HR3:=hQ (HR2.o.trans hrest)
 have HX3:=hQ ((hrest.block w.heap.size (Qaa HX2.o) (by have:=HB.o;omega)).trans HX2.o)
 have HS3:=hQ (show w.heap.size + 1 ≤ w3.heap.size from Qaa HX3.o)
 have HT1:=hQ (fr_low (lo:=w.heap.size + 1) ht HS2.o)
 have HZ1:=hQ hz
 have HY1:=hQ hy
 have HWL:=hQ ((xC w3.heap.size w3).alloc (xA _) (trO u1))
 have HBK:=hQ (xH w3 (trO u1))
 have HDL:=hQ (HD3.o.keep HWL.o)
 have HRL:=hQ (HR3.o.trans (Rest1.below HWL.o))
 have HXL:=hQ ((HWL.o.block w.heap.size (Qaa HX3.o)).trans HX3.o)
 clear hrest hd1 ht hz hy
 go_wp2_with fail
 go_at_call 61
 refine (Qb4 B 3 _ HDL.o (by decide) (by decide)).mono ?_
 rintro e w4 ⟨q,rfl,q0,q1,hrest,hd1⟩
 have HD4:=hQ hd1
 have H34:=hQ ((Rest1.below HWL.o).trans hrest)
 have HR4:=hQ (HRL.o.trans hrest)
 have HX4:=hQ ((hrest.block w.heap.size (Qaa HXL.o) (by have:=HB.o;omega)).trans HXL.o)
 have HL4:=hQ ((hrest.block w3.heap.size (Qaa HBK.o) (by have:=HB.o;have:=HS3.o;omega)).trans HBK.o)
 clear hrest hd1
 by_cases hq:q = 0
 ·subst hq
  obtain ⟨y0,y1,y2,y3,yl,yf⟩:=Qai HL4.o
  go_wp2_with fail
  go_region_law (first
   | (go_simp;go_at_call 130;refine (pick_newD B 2 [(⟨#[43]⟩:ByteArray),(⟨#[42]⟩:ByteArray)] _ w4 HD4.o rfl rfl (by decide) (by decide) (by decide)).mono ?_;rintro e w5 ⟨s,rfl,hs,hrest,hd1⟩;have HD5:=hQ hd1;have HSS:=hQ hs;have H35:=hQ (H34.o.trans hrest);have HR5:=hQ (HR4.o.trans hrest);have HX5:=hQ ((hrest.block w.heap.size (Qaa HX4.o) (by have:=HB.o;omega)).trans HX4.o);have HL5:=hQ ((hrest.block w3.heap.size (Qaa HL4.o) (by have:=HB.o;have:=HS3.o;omega)).trans HL4.o);clear hs hrest hd1 y0 y1 y2 y3 yl yf;have y0:w5.cell? ⟨w3.heap.size,0,none⟩ = some (.int .i64 u1.kind):=Qab HL5.o 0 _ rfl;have y1:w5.cell? ⟨w3.heap.size,1,none⟩ = some (.string u1.text):=Qab HL5.o 1 _ rfl;have y2:w5.cell? ⟨w3.heap.size,2,none⟩ = some (.slice u1.la u1.ll u1.lc):=Qab HL5.o 2 _ rfl;have y3:w5.cell? ⟨w3.heap.size,3,none⟩ = some (.slice u1.ka u1.kl u1.kc):=Qab HL5.o 3 _ rfl;have yl:w3.heap.size < w5.heap.size:=Qaa HL5.o;have yf:∀ o,w5.frozen? ⟨w3.heap.size,o,none⟩ = false:=fun o=>Lib.frozen_of_heap HL5.o _)
   | (go_simp;go_at_call 166;refine (U0.o w5 HD5.o).mono ?_;rintro e w6 ⟨t2,u2,rfl,ht,hz,hy,hrest,hd1⟩;have HD6:=hQ hd1;have H36:=hQ (H35.o.trans hrest);have HR6:=hQ (HR5.o.trans hrest);have HX6:=hQ ((hrest.block w.heap.size (Qaa HX5.o) (by have:=HB.o;omega)).trans HX5.o);have HL6:=hQ ((hrest.block w3.heap.size (Qaa HL5.o) (by have:=HB.o;have:=HS3.o;omega)).trans HL5.o);have HT2:=hQ (TrAt.move (S':=fun b=>w3.heap.size < b ∧ b < w6.heap.size) (fun b hb=>⟨by have:=Qaa HL5.o;omega,hb.2⟩) (fun _ _ _=>rfl) _ _ ht);have HZ2:=hQ hz;have HY2:=hQ hy;clear ht hz hy hrest hd1 y0 y1 y2 y3 yl yf;have y0:w6.cell? ⟨w3.heap.size,0,none⟩ = some (.int .i64 u1.kind):=Qab HL6.o 0 _ rfl;have y1:w6.cell? ⟨w3.heap.size,1,none⟩ = some (.string u1.text):=Qab HL6.o 1 _ rfl;have y2:w6.cell? ⟨w3.heap.size,2,none⟩ = some (.slice u1.la u1.ll u1.lc):=Qab HL6.o 2 _ rfl;have y3:w6.cell? ⟨w3.heap.size,3,none⟩ = some (.slice u1.ka u1.kl u1.kc):=Qab HL6.o 3 _ rfl;have yl:w3.heap.size < w6.heap.size:=Qaa HL6.o;have yf:∀ o,w6.frozen? ⟨w3.heap.size,o,none⟩ = false:=fun o=>Lib.frozen_of_heap HL6.o _)
   | fail)
  all_goals
   obtain ⟨hT7,hR7,hD7,hL7,hX7⟩:=bin_at (w:=w) (w3:=w3) (L:=w3.heap.size) (R:=w.heap.size) 21 s HB.o rfl rfl HS3.o HT1.o H36.o HT2.o HL6.o HR6.o HD6.o HX6.o
   have kT:TrAt (fun b=>w.heap.size + 1 ≤ b ∧ b < (((((w6.setCell ⟨w3.heap.size,0,none⟩ (.int .i64 21)).setCell ⟨w3.heap.size,1,none⟩ (.string s)).setCell ⟨w3.heap.size,2,none⟩ (.slice none 0 0)).setCell ⟨w3.heap.size,3,none⟩ (.slice (some ⟨w6.heap.size,0,none⟩) 2 2)).alloc (.cells #[.int .i64 u1.kind,.string u1.text,.slice u1.la u1.ll u1.lc,.slice u1.ka u1.kl u1.kc,.int .i64 u2.kind,.string u2.text,.slice u2.la u2.ll u2.lc,.slice u2.ka u2.kl u2.kc] 25)).heap.size) (((((w6.setCell ⟨w3.heap.size,0,none⟩ (.int .i64 21)).setCell ⟨w3.heap.size,1,none⟩ (.string s)).setCell ⟨w3.heap.size,2,none⟩ (.slice none 0 0)).setCell ⟨w3.heap.size,3,none⟩ (.slice (some ⟨w6.heap.size,0,none⟩) 2 2)).alloc (.cells #[.int .i64 u1.kind,.string u1.text,.slice u1.la u1.ll u1.lc,.slice u1.ka u1.kl u1.kc,.int .i64 u2.kind,.string u2.text,.slice u2.la u2.ll u2.lc,.slice u2.ka u2.kl u2.kc] 25)) (.mk 21 s [] [t1,t2]) (⟨21,s,none,0,0,some ⟨w6.heap.size,0,none⟩,2,2⟩:TV):=hT7
   have kR:Rest1 B w (((((w6.setCell ⟨w3.heap.size,0,none⟩ (.int .i64 21)).setCell ⟨w3.heap.size,1,none⟩ (.string s)).setCell ⟨w3.heap.size,2,none⟩ (.slice none 0 0)).setCell ⟨w3.heap.size,3,none⟩ (.slice (some ⟨w6.heap.size,0,none⟩) 2 2)).alloc (.cells #[.int .i64 u1.kind,.string u1.text,.slice u1.la u1.ll u1.lc,.slice u1.ka u1.kl u1.kc,.int .i64 u2.kind,.string u2.text,.slice u2.la u2.ll u2.lc,.slice u2.ka u2.kl u2.kc] 25)):=hR7
   have kD:DiceAt B (((((w6.setCell ⟨w3.heap.size,0,none⟩ (.int .i64 21)).setCell ⟨w3.heap.size,1,none⟩ (.string s)).setCell ⟨w3.heap.size,2,none⟩ (.slice none 0 0)).setCell ⟨w3.heap.size,3,none⟩ (.slice (some ⟨w6.heap.size,0,none⟩) 2 2)).alloc (.cells #[.int .i64 u1.kind,.string u1.text,.slice u1.la u1.ll u1.lc,.slice u1.ka u1.kl u1.kc,.int .i64 u2.kind,.string u2.text,.slice u2.la u2.ll u2.lc,.slice u2.ka u2.kl u2.kc] 25)):=hD7
   have kL:(((((w6.setCell ⟨w3.heap.size,0,none⟩ (.int .i64 21)).setCell ⟨w3.heap.size,1,none⟩ (.string s)).setCell ⟨w3.heap.size,2,none⟩ (.slice none 0 0)).setCell ⟨w3.heap.size,3,none⟩ (.slice (some ⟨w6.heap.size,0,none⟩) 2 2)).alloc (.cells #[.int .i64 u1.kind,.string u1.text,.slice u1.la u1.ll u1.lc,.slice u1.ka u1.kl u1.kc,.int .i64 u2.kind,.string u2.text,.slice u2.la u2.ll u2.lc,.slice u2.ka u2.kl u2.kc] 25)).heap[w3.heap.size]? = some (trO (⟨21,s,none,0,0,some ⟨w6.heap.size,0,none⟩,2,2⟩:TV)):=hL7
   have kX:(((((w6.setCell ⟨w3.heap.size,0,none⟩ (.int .i64 21)).setCell ⟨w3.heap.size,1,none⟩ (.string s)).setCell ⟨w3.heap.size,2,none⟩ (.slice none 0 0)).setCell ⟨w3.heap.size,3,none⟩ (.slice (some ⟨w6.heap.size,0,none⟩) 2 2)).alloc (.cells #[.int .i64 u1.kind,.string u1.text,.slice u1.la u1.ll u1.lc,.slice u1.ka u1.kl u1.kc,.int .i64 u2.kind,.string u2.text,.slice u2.la u2.ll u2.lc,.slice u2.ka u2.kl u2.kc] 25)).heap[w.heap.size]? = some (.cells #[.int .i64 0,.string ⟨#[]⟩,.slice none 0 0,.slice none 0 0] 25 (0,0)):=hX7
   clear hT7 hR7 hD7 hL7 hX7 y0 y1 y2 y3 yl yf
   generalize ((((w6.setCell ⟨w3.heap.size,0,none⟩ (.int .i64 21)).setCell ⟨w3.heap.size,1,none⟩ (.string s)).setCell ⟨w3.heap.size,2,none⟩ (.slice none 0 0)).setCell ⟨w3.heap.size,3,none⟩ (.slice (some ⟨w6.heap.size,0,none⟩) 2 2)).alloc (.cells #[.int .i64 u1.kind,.string u1.text,.slice u1.la u1.ll u1.lc,.slice u1.ka u1.kl u1.kc,.int .i64 u2.kind,.string u2.text,.slice u2.la u2.ll u2.lc,.slice u2.ka u2.kl u2.kc] 25) = w7 at kT kR kD kL kX ⊢
   have HT7:=hQ kT
   have HR7:=hQ kR
   have HD7:=hQ kD
   have HL7:=hQ kL
   have HX7:=hQ kX
   have HZ7:=hQ (show Qan (.mk 21 s [] [t1,t2]) ≤ n + 4 from by rw [Qan,Qap,Qap,Qap];have:=HZ1.o;have:=HZ2.o;omega)
   have HY7:=hQ (show Qfk (.mk 21 s [] [t1,t2]) = true from Qcb.2 ⟨HSS.o,by simp,by simp,by rw [Qbh,HY1.o,Qbh,HY2.o,Qbh];rfl⟩)
   clear kT kR kD kL kX
   obtain ⟨y0,y1,y2,y3,yl,yf⟩:=Qai HL7.o
   obtain ⟨x0,x1,x2,x3,xl,xf⟩:=Qai HX7.o
   have hwd:IntKind.i64.wrap (d - 1) = d - 1:=IntWalk.i64_in _ (by omega)
   go_wp2_with fail
   go_region_law (first
    | (go_simp;go_at_call 166;refine (UN.o _ HD7.o.drew).mono ?_;rintro e w8 ⟨t3,u3,rfl,ht0,hz,hy,hrest0,hd1⟩;have hrest:=hrest0.ofDrew;have ht:TrAt (fun b=>w7.heap.size ≤ b ∧ b < w8.heap.size) w8 t3 u3:=ht0;have HD8:=hQ hd1;have HR8:=hQ (HR7.o.trans hrest);have HX8:=hQ ((hrest.block w.heap.size (Qaa HX7.o) (by have:=HB.o;omega)).trans HX7.o);have HL8:=hQ ((hrest.block w3.heap.size (Qaa HL7.o) (by have:=HB.o;have:=HS3.o;omega)).trans HL7.o);have HK8:=hQ ((Qgq HT7.o).more hrest (by have:=HB.o;omega) ht (Qaa HX7.o));have HZ8:=hQ hz;have HY8:=hQ hy;clear ht0 hrest0 ht hz hy hrest hd1 y0 y1 y2 y3 yl yf x0 x1 x2 x3 xl xf;obtain ⟨y0,y1,y2,y3,yl,yf⟩:=Qai HL8.o;obtain ⟨x0,x1,x2,x3,xl,xf⟩:=Qai HX8.o)
    | fail)
   all_goals
    go_wp2
    refine bodyPost_ret (v:=.agg #[.int .i64 21,.string p,.slice none 0 0,.slice (some ⟨w8.heap.size,0,none⟩) 2 2]) (by simp [results,Tryz.results132,go_sem, *]) rfl ?_
    exact Qfl (n:=(3 * n + 6)) (ks:=[.mk 21 s [] [t1,t2],t3]) (us:=[(⟨21,s,none,0,0,some ⟨w6.heap.size,0,none⟩,2,2⟩:TV),u3]) 21 p HP.o HK8.o (by rw [Qbh,HY7.o,Qbh,HY8.o,Qbh];rfl) (by rw [Qap,Qap,Qap];have:=HZ7.o;have:=HZ8.o;omega) HB.o HR8.o HD8.o (Qaa HX8.o) 2 rfl
 ·have hq2:decide (q = 0) = false:=decide_eq_false hq
  have hq3:(q == 0) = false:=by simpa using hq
  have HT7:=hQ (fr_move HT1.o H34.o (by have:=HB.o;omega) (xA _))
  have HR7:=HR4
  have HD7:=HD4
  have HL7:=HL4
  have HX7:=HX4
  have HZ7:=HZ1
  have HY7:=HY1
  obtain ⟨y0,y1,y2,y3,yl,yf⟩:=Qai HL7.o
  obtain ⟨x0,x1,x2,x3,xl,xf⟩:=Qai HX7.o
  have hwd:IntKind.i64.wrap (d - 1) = d - 1:=IntWalk.i64_in _ (by omega)
  go_wp2_with fail
  go_region_law (first
   | (go_simp;go_at_call 166;refine (UN.o _ HD7.o.drew).mono ?_;rintro e w8 ⟨t3,u3,rfl,ht0,hz,hy,hrest0,hd1⟩;have hrest:=hrest0.ofDrew;have ht:TrAt (fun b=>w4.heap.size ≤ b ∧ b < w8.heap.size) w8 t3 u3:=ht0;have HD8:=hQ hd1;have HR8:=hQ (HR7.o.trans hrest);have HX8:=hQ ((hrest.block w.heap.size (Qaa HX7.o) (by have:=HB.o;omega)).trans HX7.o);have HL8:=hQ ((hrest.block w3.heap.size (Qaa HL7.o) (by have:=HB.o;have:=HS3.o;omega)).trans HL7.o);have HK8:=hQ ((Qgq HT7.o).more hrest (by have:=HB.o;omega) ht (Qaa HX7.o));have HZ8:=hQ hz;have HY8:=hQ hy;clear ht0 hrest0 ht hz hy hrest hd1 y0 y1 y2 y3 yl yf x0 x1 x2 x3 xl xf;obtain ⟨y0,y1,y2,y3,yl,yf⟩:=Qai HL8.o;obtain ⟨x0,x1,x2,x3,xl,xf⟩:=Qai HX8.o)
   | fail)
  all_goals
   go_wp2
   refine bodyPost_ret (v:=.agg #[.int .i64 21,.string p,.slice none 0 0,.slice (some ⟨w8.heap.size,0,none⟩) 2 2]) (by simp [results,Tryz.results132,go_sem, *]) rfl ?_
   exact Qfl (n:=(3 * n + 6)) (ks:=[t1,t3]) (us:=[u1,u3]) 21 p HP.o HK8.o (by rw [Qbh,HY7.o,Qbh,HY8.o,Qbh];rfl) (by rw [Qap,Qap,Qap];have:=HZ7.o;have:=HZ8.o;omega) HB.o HR8.o HD8.o (Qaa HX8.o) 2 rfl
end Go.Proofs.YtnnfdbmanamfdaaGreat
