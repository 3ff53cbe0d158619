/- Part 45 -/
import Derived.Test.YtfjpemdejoejbaaGreatSg44
set_option maxRecDepth 100000
set_option maxHeartbeats 4000000
namespace Go.Proofs.YtfjpemdejoejbaaGreat
open Go.RowKit Go.Shelf
theorem typ_0 (B:Nat) (w:World) (hd:DiceAt B w) :
  Calls Tryz.prog 100 #[.pointer (some ⟨B,0,none⟩),.int .i64 0] w (Qcb B 1 w):=by
 have HB:=hQ hd.lt;have HB0:=hQ ((xC w.heap.size w).alloc (xA _) (.cells #[.int .i64 0,.string ⟨#[]⟩,.slice none 0 0,.slice none 0 0] 25));have HX0:=hQ (xH w (.cells #[.int .i64 0,.string ⟨#[]⟩,.slice none 0 0,.slice none 0 0] 25));have HD0:=hQ (hd.keep HB0.out);clear hd
 go_enter Tryz.func100,Tryz.ntmps100
 go_wp2_with fail
 go_at_call 42;refine (Qb9 B 7 _ HD0.out (by decide) (by decide)).mono ?_;rintro e w1 ⟨r,rfl,hr0,hr1,hrest,hd1⟩;have HD1:=hQ hd1;have HR1:=hQ ((Rest1.below (g:=B) HB0.out).trans hrest);have HX1:=hQ ((hrest.block w.heap.size (Qaa HX0.out) (by have:=HB.out;omega)).trans HX0.out);have HS1:=hQ (show w.heap.size+1≤w1.heap.size from Qaa HX1.out);obtain ⟨x0,x1,x2,x3,xl,xf⟩:=Qai HX1.out;have hr:r=0∨r=1∨r=2∨r=3∨r=4∨r=5∨r=6:=by omega
 clear hrest hd1 hr0 hr1
 rcases hr with rfl | rfl | rfl | rfl | rfl | rfl | rfl
 ·go_wp2
  refine bodyPost_ret (v:=.agg #[.int .i64 5,.string ⟨#[]⟩,.slice none 0 0,.slice none 0 0]) (by simp [results,Tryz.results100,go_sem, *]) rfl ?_;exact Qa3 5 ⟨#[]⟩ (by decide) (by omega) HB.out HR1.out HD1.out
 ·go_wp2
  refine bodyPost_ret (v:=.agg #[.int .i64 5,.string ⟨#[]⟩,.slice none 0 0,.slice none 0 0]) (by simp [results,Tryz.results100,go_sem, *]) rfl ?_;exact Qa3 5 ⟨#[]⟩ (by decide) (by omega) HB.out HR1.out HD1.out
 ·go_wp2
  refine bodyPost_ret (v:=.agg #[.int .i64 7,.string ⟨#[]⟩,.slice none 0 0,.slice none 0 0]) (by simp [results,Tryz.results100,go_sem, *]) rfl ?_;exact Qa3 7 ⟨#[]⟩ (by decide) (by omega) HB.out HR1.out HD1.out
 ·go_wp2
  refine bodyPost_ret (v:=.agg #[.int .i64 6,.string ⟨#[]⟩,.slice none 0 0,.slice none 0 0]) (by simp [results,Tryz.results100,go_sem, *]) rfl ?_;exact Qa3 6 ⟨#[]⟩ (by decide) (by omega) HB.out HR1.out HD1.out
 ·clear x0 x1 x2 x3 xl xf;go_wp2_with fail
  go_at_call 99;refine (Qch B 4 [⟨#[84]⟩,⟨#[85]⟩,⟨#[65,46,84]⟩,⟨#[66,46,85]⟩] _ w1 HD1.out rfl rfl (by decide) (by decide) (by decide)).mono ?_;rintro e w2 ⟨s,rfl,hs,hrest,hd2⟩;have HSZ:=hQ hs;have HD2:=hQ hd2;have HR2:=hQ (HR1.out.trans hrest);have HX2:=hQ ((hrest.block w.heap.size (Qaa HX1.out) (by have:=HB.out;omega)).trans HX1.out);obtain ⟨x0,x1,x2,x3,xl,xf⟩:=Qai HX2.out;clear hrest hd2 hs
  go_wp2
  refine bodyPost_ret (v:=.agg #[.int .i64 9,.string s,.slice none 0 0,.slice none 0 0]) (by simp [results,Tryz.results100,go_sem, *]) rfl ?_;exact Qa3 9 s HSZ.out (by omega) HB.out HR2.out HD2.out
 all_goals
  go_wp2
  refine bodyPost_ret (v:=.agg #[.int .i64 5,.string ⟨#[]⟩,.slice none 0 0,.slice none 0 0]) (by simp [results,Tryz.results100,go_sem, *]) rfl ?_;exact Qa3 5 ⟨#[]⟩ (by decide) (by omega) HB.out HR1.out HD1.out
theorem Qu0 (B:Nat) (d:Int) (n:Nat) (h0:1≤d) (h1:d≤2) (hn:1≤n) (ih:∀ w,DiceAt B w→Calls Tryz.prog 100 #[.pointer (some ⟨B,0,none⟩),.int .i64 (d-1)] w (Qcb B n w)) (w:World) (hd:DiceAt B w) :
  Calls Tryz.prog 100 #[.pointer (some ⟨B,0,none⟩),.int .i64 d] w (Qcb B (n+1) w):=by
 have IH:=hQ ih;have HN:=hQ hn;have HB:=hQ hd.lt;have HB0:=hQ ((xC w.heap.size w).alloc (xA _) (.cells #[.int .i64 0,.string ⟨#[]⟩,.slice none 0 0,.slice none 0 0] 25));have HX0:=hQ (xH w (.cells #[.int .i64 0,.string ⟨#[]⟩,.slice none 0 0,.slice none 0 0] 25));have HD0:=hQ (hd.keep HB0.out);clear ih hn hd
 go_enter Tryz.func100,Tryz.ntmps100
 go_wp2_with fail
 go_at_call 42;refine (Qb9 B 7 _ HD0.out (by decide) (by decide)).mono ?_;rintro e w1 ⟨r,rfl,hr0,hr1,hrest,hd1⟩;have HD1:=hQ hd1;have HR1:=hQ ((Rest1.below (g:=B) HB0.out).trans hrest);have HX1:=hQ ((hrest.block w.heap.size (Qaa HX0.out) (by have:=HB.out;omega)).trans HX0.out);have HS1:=hQ (show w.heap.size+1≤w1.heap.size from Qaa HX1.out);obtain ⟨x0,x1,x2,x3,xl,xf⟩:=Qai HX1.out;have hr:r=0∨r=1∨r=2∨r=3∨r=4∨r=5∨r=6:=by omega
 clear hrest hd1 hr0 hr1
 rcases hr with rfl | rfl | rfl | rfl | rfl | rfl | rfl
 ·go_wp2
  refine bodyPost_ret (v:=.agg #[.int .i64 5,.string ⟨#[]⟩,.slice none 0 0,.slice none 0 0]) (by simp [results,Tryz.results100,go_sem, *]) rfl ?_;exact Qa3 5 ⟨#[]⟩ (by decide) (by omega) HB.out HR1.out HD1.out
 ·go_wp2
  refine bodyPost_ret (v:=.agg #[.int .i64 5,.string ⟨#[]⟩,.slice none 0 0,.slice none 0 0]) (by simp [results,Tryz.results100,go_sem, *]) rfl ?_;exact Qa3 5 ⟨#[]⟩ (by decide) (by omega) HB.out HR1.out HD1.out
 ·go_wp2
  refine bodyPost_ret (v:=.agg #[.int .i64 7,.string ⟨#[]⟩,.slice none 0 0,.slice none 0 0]) (by simp [results,Tryz.results100,go_sem, *]) rfl ?_;exact Qa3 7 ⟨#[]⟩ (by decide) (by omega) HB.out HR1.out HD1.out
 ·go_wp2
  refine bodyPost_ret (v:=.agg #[.int .i64 6,.string ⟨#[]⟩,.slice none 0 0,.slice none 0 0]) (by simp [results,Tryz.results100,go_sem, *]) rfl ?_;exact Qa3 6 ⟨#[]⟩ (by decide) (by omega) HB.out HR1.out HD1.out
 ·clear x0 x1 x2 x3 xl xf;go_wp2_with fail
  go_at_call 99;refine (Qch B 4 [⟨#[84]⟩,⟨#[85]⟩,⟨#[65,46,84]⟩,⟨#[66,46,85]⟩] _ w1 HD1.out rfl rfl (by decide) (by decide) (by decide)).mono ?_;rintro e w2 ⟨s,rfl,hs,hrest,hd2⟩;have HSZ:=hQ hs;have HD2:=hQ hd2;have HR2:=hQ (HR1.out.trans hrest);have HX2:=hQ ((hrest.block w.heap.size (Qaa HX1.out) (by have:=HB.out;omega)).trans HX1.out);obtain ⟨x0,x1,x2,x3,xl,xf⟩:=Qai HX2.out;clear hrest hd2 hs
  go_wp2
  refine bodyPost_ret (v:=.agg #[.int .i64 9,.string s,.slice none 0 0,.slice none 0 0]) (by simp [results,Tryz.results100,go_sem, *]) rfl ?_;exact Qa3 9 s HSZ.out (by omega) HB.out HR2.out HD2.out
 all_goals
  clear x0 x1 x2 x3 xl xf;go_wp2_with fail
  go_at_call 100;refine (IH.out w1 HD1.out).mono ?_;rintro e w2 ⟨t,u,rfl,ht,hz,hy,hrest,hd2⟩;have HT:=hQ ht;have HZ:=hQ hz;have HY:=hQ hy;have HD2:=hQ hd2;have HR2:=hQ (HR1.out.trans hrest);have HX2:=hQ ((hrest.block w.heap.size (Qaa HX1.out) (by have:=HB.out;omega)).trans HX1.out);obtain ⟨x0,x1,x2,x3,xl,xf⟩:=Qai HX2.out;clear hrest hd2 ht hz hy
  go_wp2
  refine bodyPost_ret (v:=.agg #[.int .i64 8,.string ⟨#[]⟩,.slice none 0 0,.slice (some ⟨w2.heap.size,0,none⟩) 1 1]) (by simp [results,Tryz.results100,go_sem, *]) rfl ?_;exact Qf0 (n:=n+1) (ks:=[t]) (us:=[u]) 8 ⟨#[]⟩ (by decide) ((KidsFr.nil _ _).snoc (Qje HT.out HS1.out)) (by rw [Qbm,HY.out,Qbm];rfl) (by rw [Qaq,Qaq];have:=HZ.out;omega) HB.out HR2.out HD2.out (Qaa HX2.out) 1 rfl
theorem Zg6 (B:Nat) (w:World) (hd:DiceAt B w):Calls Tryz.prog 100 #[.pointer (some ⟨B,0,none⟩),.int .i64 1] w (Qcb B 2 w):=Qu0 B 1 1 (by decide) (by decide) (by decide) (fun w hd=>typ_0 B w hd) w hd
theorem typ_2 (B:Nat) (w:World) (hd:DiceAt B w):Calls Tryz.prog 100 #[.pointer (some ⟨B,0,none⟩),.int .i64 2] w (Qcb B 3 w):=Qu0 B 2 2 (by decide) (by decide) (by decide) (fun w hd=>Zg6 B w hd) w hd
theorem Zg7 (B:Nat) (w:World) (hd:DiceAt B w):Calls Tryz.prog 66 #[.pointer (some ⟨B,0,none⟩)] w (Qcb B 117 w):=by
 have HB:=hQ hd.lt;have HB0:=hQ ((xC w.heap.size w).alloc (xA _) (.cells #[.int .i64 0,.string ⟨#[]⟩,.slice none 0 0,.slice none 0 0] 25));have HX0:=hQ (xH w (.cells #[.int .i64 0,.string ⟨#[]⟩,.slice none 0 0,.slice none 0 0] 25));have HD0:=hQ (hd.keep HB0.out);have HR0:=hQ (Rest1.below (g:=B) HB0.out);clear hd
 go_enter Tryz.func66,Tryz.ntmps66
 go_wp2_with fail
 go_at_call 42;refine (Qb9 B 5 _ HD0.out (by decide) (by decide)).mono ?_;rintro e w1 ⟨r,rfl,r0,r1,hrest,hd1⟩;have HD1:=hQ hd1;have HR1:=hQ (HR0.out.trans hrest);have HX1:=hQ ((hrest.block w.heap.size (Qaa HX0.out) (by have:=HB.out;omega)).trans HX0.out);have HS1:=hQ (show w.heap.size+1≤w1.heap.size from Qaa HX1.out);clear hrest hd1
 by_cases hr:r=0
 ·subst hr;go_wp2_with fail
  go_at_call 99;refine (Qch B 2 [(⟨#[84]⟩:ByteArray),(⟨#[85]⟩:ByteArray)] _ w1 HD1.out rfl rfl (by decide) (by decide) (by decide)).mono ?_;rintro e w2 ⟨p,rfl,hp,hrest,hd1⟩;have HD2:=hQ hd1;have HR2:=hQ (HR1.out.trans hrest);have HX2:=hQ ((hrest.block w.heap.size (Qaa HX1.out) (by have:=HB.out;omega)).trans HX1.out);have HS2:=hQ (show w.heap.size+1≤w2.heap.size from Qaa HX2.out);have HP:=hQ hp;clear hrest hd1 hp;go_wp2_with fail
  go_at_call 100;refine (typ_2 B w2 HD2.out).mono ?_;rintro e w3 ⟨t1,u1,rfl,ht,hz,hy,hrest,hd1⟩;have HD3:=hQ hd1;have HR3:=hQ (HR2.out.trans hrest);have HX3:=hQ ((hrest.block w.heap.size (Qaa HX2.out) (by have:=HB.out;omega)).trans HX2.out);have HS3:=hQ (show w.heap.size+1≤w3.heap.size from Qaa HX3.out);have HZ1:=hQ hz;have HY1:=hQ hy;have HK1:=hQ ((KidsFr.nil (w.heap.size+1) w2).more hrest (by have:=HB.out;omega) ht HS2.out);clear hrest hd1 ht hz hy;obtain ⟨x0,x1,x2,x3,xl,xf⟩:=Qai HX3.out
  go_wp2
  refine bodyPost_ret (v:=.agg #[.int .i64 3,.string p,.slice none 0 0,.slice (some ⟨w3.heap.size,0,none⟩) 1 1]) (by simp [results,Tryz.results66,go_sem, *]) rfl ?_;exact Qf0 (n:=117) (ks:=[t1]) (us:=[u1]) 3 p HP.out HK1.out (by rw [Qbm,HY1.out,Qbm];rfl) (by rw [Qaq,Qaq];have:=HZ1.out;omega) HB.out HR3.out HD3.out (Qaa HX3.out) 1 rfl
 ·have hr2:decide (r=0)=false:=xR hr;have hr3:(r==0)=false:=by simpa using hr
  go_wp2_with fail
  go_at_call 99;refine (Qch B 3 [(⟨#[102]⟩:ByteArray),(⟨#[103]⟩:ByteArray),(⟨#[104]⟩:ByteArray)] _ w1 HD1.out rfl rfl (by decide) (by decide) (by decide)).mono ?_;rintro e w2 ⟨p,rfl,hp,hrest,hd1⟩;have HD2:=hQ hd1;have HR2:=hQ (HR1.out.trans hrest);have HX2:=hQ ((hrest.block w.heap.size (Qaa HX1.out) (by have:=HB.out;omega)).trans HX1.out);have HS2:=hQ (show w.heap.size+1≤w2.heap.size from Qaa HX2.out);have HP:=hQ hp;clear hrest hd1 hp;have HWL:=hQ ((xC w2.heap.size w2).alloc (xA _) (.cells #[.int .i64 2,.string p,.slice none 0 0,.slice none 0 0] 25));have HBK:=hQ (xH w2 (.cells #[.int .i64 2,.string p,.slice none 0 0,.slice none 0 0] 25));have HDL:=hQ (HD2.out.keep HWL.out);have HRL:=hQ (HR2.out.trans (Rest1.below HWL.out));have HXL:=hQ ((HWL.out.block w.heap.size (Qaa HX2.out)).trans HX2.out);have HLL:=hQ (show w.heap.size<w2.heap.size from HS2.out);go_wp2_with fail
  go_at_call 42;refine (Qb9 B 4 _ HDL.out (by decide) (by decide)).mono ?_;rintro e w3 ⟨q,rfl,q0,q1,hrest,hd1⟩;have HGJ:=hQ (GrW.start (tx:=p) (kd:=2) ((hrest.block w2.heap.size (Qaa HBK.out) (by have:=HB.out;have:=HLL.out;omega)).trans HBK.out) (HRL.out.trans hrest) hd1 ((hrest.block w.heap.size (Qaa HXL.out) (by have:=HB.out;omega)).trans HXL.out));clear hrest hd1;obtain ⟨q,rfl⟩:∃ z:Nat,q=(z:Int):=⟨q.toNat,by omega⟩
  go_wp2
  go_loopw [4] (fun k wr=>GrL B w.heap.size w2.heap.size 2 p 3 w k wr) (fun k _=>(intOf k).toNat)
  case atStart=>exact ⟨q,[],[],none,0,rfl,by simp;omega,by rw [Qaq];exact xZ _,HGJ.out⟩
  case round =>
   obtain ⟨j,ks,us,ka,kc,rfl,hj,hs,hg⟩:=hrel;have HG:=hQ hg;have HJ:=hQ hj;have HSZ:=hQ hs;have HBL:=hQ (show B<w2.heap.size from by have:=HB.out;have:=HLL.out;omega);obtain ⟨it,hit,ht0,ht1,ht2⟩:=info_parts Qcd;cases j with
   | zero =>
    have g3:wr.cell? ⟨w2.heap.size,3,none⟩=some (.slice ka ks.length kc):=Qab hg.blk 3 _ rfl;have gl:w2.heap.size<wr.heap.size:=Qaa hg.blk;have gf:wr.frozen? ⟨w2.heap.size,3,none⟩=false:=xL hg.blk _;have HB3:=hQ (show ks.length+2≤maxLen from by unfold maxLen;omega);have HB4:=hQ (show (ks.length+2)*72≤140737488355328 from by omega);clear hj hs hg;go_wp2_with fail
    go_region_law (first
     | (go_simp;go_at_call 100;refine (Zg6 B _ HG.out.dice.drew).mono ?_;rintro e w4 ⟨t1,u1,rfl,ht0,hz,hy,hrest0,hd5⟩;have hrest:=hrest0.ofDrew;have ht:TrAt (fun b=>wr.heap.size≤b∧b<w4.heap.size) w4 t1 u1:=ht0;have HT1:=hQ ht;have HZ1:=hQ hz;have HY1:=hQ hy;have HR4:=hQ hrest;have HD4:=hQ hd5;have HO4:=hQ (Qdj HG.out.row hrest (by have:=HBL.out;omega));have HL4:=hQ (HG.out.facts hrest HBL.out);have HQ4:=hQ hrest0;clear ht0 ht hz hy hrest0 hrest hd5 g3 gl gf;have g3:w4.cell? ⟨w2.heap.size,3,none⟩=some (.slice ka ks.length kc):=Qab HL4.out 3 _ rfl;have gl:w2.heap.size<w4.heap.size:=Qaa HL4.out;have gf:w4.frozen? ⟨w2.heap.size,3,none⟩=false:=xL HL4.out _)
     | (go_simp;go_at_call 101;refine (Zij B w4 HD4.out).mono ?_;rintro e w5 ⟨t2,u2,rfl,ht0,hz,hy,hrest0,hd5⟩;have hrest:=(HR4.out.trans hrest0);have ht:TrAt (fun b=>wr.heap.size≤b∧b<w5.heap.size) w5 t2 u2:=Qje ht0 (HR4.out.size);have HT2:=hQ ht;have HZ2:=hQ hz;have HY2:=hQ hy;have HR5:=hQ hrest;have HD5:=hQ hd5;have HO5:=hQ (Qdj HG.out.row hrest (by have:=HBL.out;omega));have HL5:=hQ (HG.out.facts hrest HBL.out);have HQ5:=hQ hrest0;clear ht0 ht hz hy hrest0 hrest hd5 g3 gl gf;have g3:w5.cell? ⟨w2.heap.size,3,none⟩=some (.slice ka ks.length kc):=Qab HL5.out 3 _ rfl;have gl:w2.heap.size<w5.heap.size:=Qaa HL5.out;have gf:w5.frozen? ⟨w2.heap.size,3,none⟩=false:=xL HL5.out _)
     | (refine step_append_lies _ (by rfl) _ _ _ (by rfl) (w2.heap.size+1) 25 it _ 4 72 Tryz.underlying22 hit ht0 ht1 ht2 rfl (by decide) (.slice ka ks.length kc) ks.length (Qag us) (by rfl) (HO5.out.alloc _) ⟨w5.heap.size,0,none⟩ 2 2 (Qag [u1,u2]) (by rfl) (by rfl) (xM (cs:=(Qag [u1,u2]).toArray) (t:=25) (fr:=(0,0)) (xH w5 (.cells (Qag [u1,u2]).toArray 25))) (Qcv [u1,u2]) (by decide) HB3.out HB4.out (by rw [xI];have:=Qaa HL5.out;omega) (w5.heap.size+1) (by simp) ?_;intro g cap w7 ho7 hg7 hat7 hlt7;have HO7:=hQ ho7;have HG7:=hQ hg7;have HAT7:=hQ hat7;have hx7:=hQ (Qf1 (w5:=w5) HL5.out hg7 HG.out.off);clear ho7 hg7 hat7 hlt7 g3 gl gf;have g3:w7.cell? ⟨w2.heap.size,3,none⟩=some (.slice ka ks.length kc):=Qab hx7.out 3 _ rfl;have gl:w2.heap.size<w7.heap.size:=Qaa hx7.out;have gf:w7.frozen? ⟨w2.heap.size,3,none⟩=false:=xL hx7.out _;clear hx7))
    all_goals
     have kG:=HG.out.next (m:=ks.length+2) HB.out HLL.out (by have:=HLL.out;omega) ((((KidsFr.nil wr.heap.size w4).snoc HT1.out).move HQ5.out (by have:=HB.out;have:=Qaa HG.out.res;omega)).snoc HT2.out) (by show Qbm [t1,t2] = true;rw [Qbm,HY1.out,Qbm,HY2.out,Qbm];rfl) HR5.out HD5.out rfl HO7.out HG7.out HAT7.out
     have hz:1+Qaq (ks ++ ([] ++ [t1] ++ [t2]))≤117:=by
      have h1:=GrL.size HJ.out HSZ.out;have h2:=HZ1.out;have h3:=HZ2.out;rw [Qei]
      show 1+(Qaq ks+Qaq [t1,t2])≤117
      rw [Qaq,Qaq,Qaq];omega
     have HZZ:=hQ hz;clear hz g3 gl gf
     generalize w7.setCell ⟨w2.heap.size,3,none⟩ (.slice (some ⟨g,0,none⟩) (ks.length+2) cap)=w8 at kG ⊢
     have hkl:(ks ++ ([] ++ [t1] ++ [t2])).length=ks.length+2:=by simp
     have HGG:=hQ kG;have hb8:=kG.blk;rw [hkl] at hb8;obtain ⟨x0,x1,x2,x3,xl,xf⟩:=Qai kG.res;obtain ⟨y0,y1,y2,y3,yl,yf⟩:=Qai hb8;have HKL:=hQ hkl;clear kG hb8 hkl
     go_wp2
     refine bodyPost_ret (v:=.agg #[.int .i64 2,.string p,.slice none 0 0,.slice (some ⟨g,0,none⟩) (ks.length+2) cap]) (by simp [results,Tryz.results66,go_sem, *]) rfl ?_;have hm:=HGG.out.made HP.out HZZ.out HB.out HLL.out;rw [HKL.out] at hm;exact hm
   | succ i =>
    have g3:wr.cell? ⟨w2.heap.size,3,none⟩=some (.slice ka ks.length kc):=Qab hg.blk 3 _ rfl;have gl:w2.heap.size<wr.heap.size:=Qaa hg.blk;have gf:wr.frozen? ⟨w2.heap.size,3,none⟩=false:=xL hg.blk _;have HB1:=hQ (show ks.length+1≤maxLen from by unfold maxLen;omega);have HB2:=hQ (show (ks.length+1)*72≤140737488355328 from by omega);have hi:(i:Int)≤3:=by omega
    have hi0:(0:Int)≤(i:Int):=by omega
    clear hj hs hg;go_wp2_with fail
    go_region_law (first
     | (go_simp;go_at_call 99;refine (Qrf B 3 [(⟨#[120]⟩:ByteArray),(⟨#[121]⟩:ByteArray),(⟨#[122]⟩:ByteArray)] _ wr HG.out.dice rfl rfl (by decide) (by decide) (by decide)).mono ?_;rintro e w4 ⟨s,rfl,hs,hrest,hd4⟩;have HSS:=hQ hs;have HR4:=hQ hrest;have HD4:=hQ hd4;have HL4:=hQ (HG.out.facts hrest HBL.out);clear hs hrest hd4 g3 gl gf;have g3:w4.cell? ⟨w2.heap.size,3,none⟩=some (.slice ka ks.length kc):=Qab HL4.out 3 _ rfl;have gl:w2.heap.size<w4.heap.size:=Qaa HL4.out;have gf:w4.frozen? ⟨w2.heap.size,3,none⟩=false:=xL HL4.out _)
     | (go_simp;go_at_call 100;refine (Zg6 B w4 HD4.out).mono ?_;rintro e w5 ⟨t,u,rfl,ht0,hz,hy,hrest0,hd5⟩;have hrest:=(HR4.out.trans hrest0);have ht:TrAt (fun b=>wr.heap.size≤b∧b<w5.heap.size) w5 t u:=Qje ht0 (HR4.out.size);have HT:=hQ ht;have HZ:=hQ hz;have HY:=hQ hy;have HR5:=hQ hrest;have HD5:=hQ hd5;have HO5:=hQ (Qdj HG.out.row hrest (by have:=HBL.out;omega));have HL5:=hQ (HG.out.facts hrest HBL.out);have HQ5:=hQ hrest0;clear ht0 ht hz hy hrest0 hrest hd5 g3 gl gf;have g3:w5.cell? ⟨w2.heap.size,3,none⟩=some (.slice ka ks.length kc):=Qab HL5.out 3 _ rfl;have gl:w2.heap.size<w5.heap.size:=Qaa HL5.out;have gf:w5.frozen? ⟨w2.heap.size,3,none⟩=false:=xL HL5.out _)
     | (refine step_append_lies _ (by rfl) _ _ _ (by rfl) (w2.heap.size+1) 25 it _ 4 72 Tryz.underlying22 hit ht0 ht1 ht2 rfl (by decide) (.slice ka ks.length kc) ks.length (Qag us) (by rfl) ((HO5.out.alloc _).alloc _) ⟨w5.heap.size+1,0,none⟩ 1 1 (Qag [⟨4,s,none,0,0,some ⟨w5.heap.size,0,none⟩,1,1⟩]) (by rfl) (by rfl) (xM (cs:=(Qag [⟨4,s,none,0,0,some ⟨w5.heap.size,0,none⟩,1,1⟩]).toArray) (t:=25) (fr:=(0,0)) (show (((w5.alloc (.cells (Qag [u]).toArray 25))).alloc (.cells (Qag [⟨4,s,none,0,0,some ⟨w5.heap.size,0,none⟩,1,1⟩]).toArray 25)).heap[w5.heap.size+1]? = some (.cells (Qag [⟨4,s,none,0,0,some ⟨w5.heap.size,0,none⟩,1,1⟩]).toArray 25 (0,0)) from (by rw [←xI w5 (.cells (Qag [u]).toArray 25)];exact xH _ _))) (Qcv [⟨4,s,none,0,0,some ⟨w5.heap.size,0,none⟩,1,1⟩]) (by decide) HB1.out HB2.out (by rw [xI,xI];have:=Qaa HL5.out;omega) (w5.heap.size+1+1) (by simp) ?_;intro g cap w7 ho7 hg7 hat7 hlt7;have HO7:=hQ ho7;have HG7:=hQ hg7;have HAT7:=hQ hat7;have hx7:=hQ (Qf1 (w5:=(w5.alloc (.cells (Qag [u]).toArray 25))) ((Below.heap_alloc w5 _ _ (Qaa HL5.out)).trans HL5.out) hg7 HG.out.off);clear ho7 hg7 hat7 hlt7 g3 gl gf;have g3:w7.cell? ⟨w2.heap.size,3,none⟩=some (.slice ka ks.length kc):=Qab hx7.out 3 _ rfl;have gl:w2.heap.size<w7.heap.size:=Qaa hx7.out;have gf:w7.frozen? ⟨w2.heap.size,3,none⟩=false:=xL hx7.out _;clear hx7))
    all_goals
     go_wp2
     go_roundw
     case measure=>first | (simp [intOf];done) | (simp [intOf];omega)
     case rel=>exact GrL.more HJ.out HSZ.out (by rw [Qak,Qaq,Qaq];have:=HZ.out;omega) (HG.out.next HB.out HLL.out (by have:=HLL.out;omega) (Qg5 (Zbf 4 s HT.out HR5.out.size _ rfl)) (by rw [Qbm,Qbz.2 ⟨HSS.out,by simp,by simp,by rw [Qbm,HY.out,Qbm];rfl⟩,Qbm];rfl) (HR5.out.trans (Rest1.below ((xC _ _).alloc (xA _) _))) (HD5.out.keep ((xC _ _).alloc (xA _) _)) rfl HO7.out HG7.out (by rw [xI];exact HAT7.out))
end Go.Proofs.YtfjpemdejoejbaaGreat
