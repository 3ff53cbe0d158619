/- Part 41 -/
import Derived.Test.YtfjpemdejoejbaaGreatSg40
set_option maxRecDepth 100000
set_option maxHeartbeats 4000000
namespace Go.Proofs.YtfjpemdejoejbaaGreat
open Go.RowKit Go.Shelf
theorem es_6 (B:Nat) (d:Int) (n:Nat) (h1:1≤d) (h3:d≤3) (ih:∀ w,DiceAt B w→Calls Tryz.prog 101 #[.pointer (some ⟨B,0,none⟩),.int .i64 (d-1)] w (Qcb B n w)) (w:World) (hd:DiceAt B w) (hn:Qff B w 14 6) :
  Calls Tryz.prog 101 #[.pointer (some ⟨B,0,none⟩),.int .i64 d] w (Qcb B (3*n+6) w):=by
 have HB:=hQ hd.lt;have HB0:=hQ ((xC w.heap.size w).alloc (xA _) (.cells #[.int .i64 0,.string ⟨#[]⟩,.slice none 0 0,.slice none 0 0] 25));have HX0:=hQ (xH w (.cells #[.int .i64 0,.string ⟨#[]⟩,.slice none 0 0,.slice none 0 0] 25));have HD0:=hQ (hd.keep HB0.out);have HR0:=hQ (Rest1.below (g:=B) HB0.out);have HN:=hQ (hn (w.alloc (.cells #[.int .i64 0,.string ⟨#[]⟩,.slice none 0 0,.slice none 0 0] 25)) fun k hk=>HB0.out.block k (by have:=HB.out;omega));have IH:=hQ ih;clear hd hn ih
 go_enter Tryz.func101,Tryz.ntmps101
 go_wp2_with fail
 go_at_call 42;refine HN.out.mono ?_;rintro e w1 ⟨rfl,hrest,hd1⟩;have HD1:=hQ hd1;have HR1:=hQ (HR0.out.trans hrest);have HX1:=hQ ((hrest.block w.heap.size (Qaa HX0.out) (by have:=HB.out;omega)).trans HX0.out);have HS1:=hQ (show w.heap.size+1≤w1.heap.size from Qaa HX1.out);clear hrest hd1;go_wp2_with fail
 go_at_call 99;refine (Qch B 6 [(⟨#[102]⟩:ByteArray),(⟨#[103]⟩:ByteArray),(⟨#[104]⟩:ByteArray),(⟨#[65,46,102]⟩:ByteArray),(⟨#[66,46,103]⟩:ByteArray),(⟨#[65,46,104]⟩:ByteArray)] _ w1 HD1.out rfl rfl (by decide) (by decide) (by decide)).mono ?_;rintro e w2 ⟨p,rfl,hp,hrest,hd1⟩;have HD2:=hQ hd1;have HR2:=hQ (HR1.out.trans hrest);have HX2:=hQ ((hrest.block w.heap.size (Qaa HX1.out) (by have:=HB.out;omega)).trans HX1.out);have HS2:=hQ (show w.heap.size+1≤w2.heap.size from Qaa HX2.out);have HP:=hQ hp;clear hrest hd1 hp;have HWL:=hQ ((xC w2.heap.size w2).alloc (xA _) (.cells #[.int .i64 16,.string p,.slice none 0 0,.slice none 0 0] 25));have HBK:=hQ (xH w2 (.cells #[.int .i64 16,.string p,.slice none 0 0,.slice none 0 0] 25));have HDL:=hQ (HD2.out.keep HWL.out);have HRL:=hQ (HR2.out.trans (Rest1.below HWL.out));have HXL:=hQ ((HWL.out.block w.heap.size (Qaa HX2.out)).trans HX2.out);have HLL:=hQ (show w.heap.size<w2.heap.size from HS2.out);go_wp2_with fail
 go_at_call 42;refine (Qb9 B 4 _ HDL.out (by decide) (by decide)).mono ?_;rintro e w3 ⟨q,rfl,q0,q1,hrest,hd1⟩;have HGJ:=hQ (GrW.start (tx:=p) (kd:=16) ((hrest.block w2.heap.size (Qaa HBK.out) (by have:=HB.out;have:=HLL.out;omega)).trans HBK.out) (HRL.out.trans hrest) hd1 ((hrest.block w.heap.size (Qaa HXL.out) (by have:=HB.out;omega)).trans HXL.out));clear hrest hd1;obtain ⟨q,rfl⟩:∃ z:Nat,q=(z:Int):=⟨q.toNat,by omega⟩
 go_wp2
 go_loopw [7] (fun k wr=>GrL B w.heap.size w2.heap.size 16 p (n+1) w k wr) (fun k _=>(intOf k).toNat)
 case atStart=>exact ⟨q,[],[],none,0,rfl,by simp;omega,by rw [Qaq];exact xZ _,HGJ.out⟩
 case round =>
  obtain ⟨j,ks,us,ka,kc,rfl,hj,hs,hg⟩:=hrel;have HG:=hQ hg;have HJ:=hQ hj;have HSZ:=hQ hs;have HBL:=hQ (show B<w2.heap.size from by have:=HB.out;have:=HLL.out;omega);obtain ⟨it,hit,ht0,ht1,ht2⟩:=info_parts Qcd;cases j with
  | zero =>
   obtain ⟨x0,x1,x2,x3,xl,xf⟩:=Qai hg.res;obtain ⟨y0,y1,y2,y3,yl,yf⟩:=Qai hg.blk;clear hj hs hg
   go_wp2
   refine bodyPost_ret (v:=.agg #[.int .i64 16,.string p,.slice none 0 0,.slice ka ks.length kc]) (by simp [results,Tryz.results101,go_sem, *]) rfl ?_;exact HG.out.made HP.out (by have:=GrL.size HJ.out HSZ.out;omega) HB.out HLL.out
  | succ i =>
   have g3:wr.cell? ⟨w2.heap.size,3,none⟩=some (.slice ka ks.length kc):=Qab hg.blk 3 _ rfl;have gl:w2.heap.size<wr.heap.size:=Qaa hg.blk;have gf:wr.frozen? ⟨w2.heap.size,3,none⟩=false:=xL hg.blk _;have HB1:=hQ (show ks.length+1≤maxLen from by unfold maxLen;omega);have HB2:=hQ (show (ks.length+1)*72≤140737488355328 from by omega);have hi:(i:Int)≤3:=by omega
   have hi0:(0:Int)≤(i:Int):=by omega
   clear hj hs hg;have hwd:IntKind.i64.wrap (d-1)=d-1:=IntWalk.i64_in _ (by omega);go_wp2_with fail
   go_region_law (first
    | (go_simp;go_at_call 101;refine (IH.out _ HG.out.dice.drew).mono ?_;rintro e w5 ⟨t,u,rfl,ht,hz,hy,hrest0,hd5⟩;have hrest:=hrest0.ofDrew;have HT:=hQ (show TrAt (fun b=>wr.heap.size≤b∧b<w5.heap.size) w5 t u from ht);have HZ:=hQ hz;have HY:=hQ hy;have HR5:=hQ hrest;have HD5:=hQ hd5;have HO5:=hQ (Qdj HG.out.row hrest (by have:=HBL.out;omega));have HL5:=hQ (HG.out.facts hrest HBL.out);clear ht hz hy hrest hrest0 hd5 g3 gl gf;have g3:w5.cell? ⟨w2.heap.size,3,none⟩=some (.slice ka ks.length kc):=Qab HL5.out 3 _ rfl;have gl:w2.heap.size<w5.heap.size:=Qaa HL5.out;have gf:w5.frozen? ⟨w2.heap.size,3,none⟩=false:=xL HL5.out _)
    | (refine step_append_lies _ (by rfl) _ _ _ (by rfl) (w2.heap.size+1) 25 it _ 4 72 Tryz.underlying22 hit ht0 ht1 ht2 rfl (by decide) (.slice ka ks.length kc) ks.length (Qag us) (by rfl) ((HO5.out.alloc _).alloc _) ⟨w5.heap.size+1,0,none⟩ 1 1 (Qag [⟨17,⟨#[]⟩,none,0,0,some ⟨w5.heap.size,0,none⟩,1,1⟩]) (by rfl) (by rfl) (xM (cs:=(Qag [⟨17,⟨#[]⟩,none,0,0,some ⟨w5.heap.size,0,none⟩,1,1⟩]).toArray) (t:=25) (fr:=(0,0)) (show (((w5.alloc (.cells (Qag [u]).toArray 25))).alloc (.cells (Qag [⟨17,⟨#[]⟩,none,0,0,some ⟨w5.heap.size,0,none⟩,1,1⟩]).toArray 25)).heap[w5.heap.size+1]? = some (.cells (Qag [⟨17,⟨#[]⟩,none,0,0,some ⟨w5.heap.size,0,none⟩,1,1⟩]).toArray 25 (0,0)) from (by rw [←xI w5 (.cells (Qag [u]).toArray 25)];exact xH _ _))) (Qcv [⟨17,⟨#[]⟩,none,0,0,some ⟨w5.heap.size,0,none⟩,1,1⟩]) (by decide) HB1.out HB2.out (by rw [xI,xI];have:=Qaa HL5.out;omega) (w5.heap.size+1+1) (by simp) ?_;intro g cap w7 ho7 hg7 hat7 hlt7;have HO7:=hQ ho7;have HG7:=hQ hg7;have HAT7:=hQ hat7;have hx7:=hQ (Qf1 (w5:=(w5.alloc (.cells (Qag [u]).toArray 25))) ((Below.heap_alloc w5 _ _ (Qaa HL5.out)).trans HL5.out) hg7 HG.out.off);clear ho7 hg7 hat7 hlt7 g3 gl gf;have g3:w7.cell? ⟨w2.heap.size,3,none⟩=some (.slice ka ks.length kc):=Qab hx7.out 3 _ rfl;have gl:w2.heap.size<w7.heap.size:=Qaa hx7.out;have gf:w7.frozen? ⟨w2.heap.size,3,none⟩=false:=xL hx7.out _;clear hx7))
   all_goals
    go_wp2
    go_roundw
    case measure=>first | (simp [intOf];done) | (simp [intOf];omega)
    case rel=>exact GrL.more HJ.out HSZ.out (by rw [Qak,Qaq,Qaq];have:=HZ.out;omega) (HG.out.next HB.out HLL.out (by have:=HLL.out;omega) (Qg5 (Zbf 17 ⟨#[]⟩ HT.out HR5.out.size _ rfl)) (by rw [Qbm,Qbz.2 ⟨by decide,by simp,by simp,by rw [Qbm,HY.out,Qbm];rfl⟩,Qbm];rfl) (HR5.out.trans (Rest1.below ((xC _ _).alloc (xA _) _))) (HD5.out.keep ((xC _ _).alloc (xA _) _)) rfl HO7.out HG7.out (by rw [xI];exact HAT7.out))
theorem es_7 (B:Nat) (d:Int) (n:Nat) (h1:1≤d) (h3:d≤3) (ih:∀ w,DiceAt B w→Calls Tryz.prog 101 #[.pointer (some ⟨B,0,none⟩),.int .i64 (d-1)] w (Qcb B n w)) (w:World) (hd:DiceAt B w) (hn:Qff B w 14 7) :
  Calls Tryz.prog 101 #[.pointer (some ⟨B,0,none⟩),.int .i64 d] w (Qcb B (3*n+6) w):=by
 have HB:=hQ hd.lt;have HB0:=hQ ((xC w.heap.size w).alloc (xA _) (.cells #[.int .i64 0,.string ⟨#[]⟩,.slice none 0 0,.slice none 0 0] 25));have HX0:=hQ (xH w (.cells #[.int .i64 0,.string ⟨#[]⟩,.slice none 0 0,.slice none 0 0] 25));have HD0:=hQ (hd.keep HB0.out);have HR0:=hQ (Rest1.below (g:=B) HB0.out);have HN:=hQ (hn (w.alloc (.cells #[.int .i64 0,.string ⟨#[]⟩,.slice none 0 0,.slice none 0 0] 25)) fun k hk=>HB0.out.block k (by have:=HB.out;omega));have IH:=hQ ih;clear hd hn ih
 go_enter Tryz.func101,Tryz.ntmps101
 go_wp2_with fail
 go_at_call 42;refine HN.out.mono ?_;rintro e w1 ⟨rfl,hrest,hd1⟩;have HD1:=hQ hd1;have HR1:=hQ (HR0.out.trans hrest);have HX1:=hQ ((hrest.block w.heap.size (Qaa HX0.out) (by have:=HB.out;omega)).trans HX0.out);have HS1:=hQ (show w.heap.size+1≤w1.heap.size from Qaa HX1.out);clear hrest hd1;go_wp2_with fail
 go_at_call 99;refine (Qch B 6 [(⟨#[102]⟩:ByteArray),(⟨#[103]⟩:ByteArray),(⟨#[104]⟩:ByteArray),(⟨#[65,46,102]⟩:ByteArray),(⟨#[66,46,103]⟩:ByteArray),(⟨#[65,46,104]⟩:ByteArray)] _ w1 HD1.out rfl rfl (by decide) (by decide) (by decide)).mono ?_;rintro e w2 ⟨p,rfl,hp,hrest,hd1⟩;have HD2:=hQ hd1;have HR2:=hQ (HR1.out.trans hrest);have HX2:=hQ ((hrest.block w.heap.size (Qaa HX1.out) (by have:=HB.out;omega)).trans HX1.out);have HS2:=hQ (show w.heap.size+1≤w2.heap.size from Qaa HX2.out);have HP:=hQ hp;clear hrest hd1 hp;have HWL:=hQ ((xC w2.heap.size w2).alloc (xA _) (.cells #[.int .i64 16,.string p,.slice none 0 0,.slice none 0 0] 25));have HBK:=hQ (xH w2 (.cells #[.int .i64 16,.string p,.slice none 0 0,.slice none 0 0] 25));have HDL:=hQ (HD2.out.keep HWL.out);have HRL:=hQ (HR2.out.trans (Rest1.below HWL.out));have HXL:=hQ ((HWL.out.block w.heap.size (Qaa HX2.out)).trans HX2.out);have HLL:=hQ (show w.heap.size<w2.heap.size from HS2.out);go_wp2_with fail
 go_at_call 42;refine (Qb9 B 4 _ HDL.out (by decide) (by decide)).mono ?_;rintro e w3 ⟨q,rfl,q0,q1,hrest,hd1⟩;have HGJ:=hQ (GrW.start (tx:=p) (kd:=16) ((hrest.block w2.heap.size (Qaa HBK.out) (by have:=HB.out;have:=HLL.out;omega)).trans HBK.out) (HRL.out.trans hrest) hd1 ((hrest.block w.heap.size (Qaa HXL.out) (by have:=HB.out;omega)).trans HXL.out));clear hrest hd1;obtain ⟨q,rfl⟩:∃ z:Nat,q=(z:Int):=⟨q.toNat,by omega⟩
 go_wp2
 go_loopw [7] (fun k wr=>GrL B w.heap.size w2.heap.size 16 p (n+1) w k wr) (fun k _=>(intOf k).toNat)
 case atStart=>exact ⟨q,[],[],none,0,rfl,by simp;omega,by rw [Qaq];exact xZ _,HGJ.out⟩
 case round =>
  obtain ⟨j,ks,us,ka,kc,rfl,hj,hs,hg⟩:=hrel;have HG:=hQ hg;have HJ:=hQ hj;have HSZ:=hQ hs;have HBL:=hQ (show B<w2.heap.size from by have:=HB.out;have:=HLL.out;omega);obtain ⟨it,hit,ht0,ht1,ht2⟩:=info_parts Qcd;cases j with
  | zero =>
   obtain ⟨x0,x1,x2,x3,xl,xf⟩:=Qai hg.res;obtain ⟨y0,y1,y2,y3,yl,yf⟩:=Qai hg.blk;clear hj hs hg
   go_wp2
   refine bodyPost_ret (v:=.agg #[.int .i64 16,.string p,.slice none 0 0,.slice ka ks.length kc]) (by simp [results,Tryz.results101,go_sem, *]) rfl ?_;exact HG.out.made HP.out (by have:=GrL.size HJ.out HSZ.out;omega) HB.out HLL.out
  | succ i =>
   have g3:wr.cell? ⟨w2.heap.size,3,none⟩=some (.slice ka ks.length kc):=Qab hg.blk 3 _ rfl;have gl:w2.heap.size<wr.heap.size:=Qaa hg.blk;have gf:wr.frozen? ⟨w2.heap.size,3,none⟩=false:=xL hg.blk _;have HB1:=hQ (show ks.length+1≤maxLen from by unfold maxLen;omega);have HB2:=hQ (show (ks.length+1)*72≤140737488355328 from by omega);have hi:(i:Int)≤3:=by omega
   have hi0:(0:Int)≤(i:Int):=by omega
   clear hj hs hg;have hwd:IntKind.i64.wrap (d-1)=d-1:=IntWalk.i64_in _ (by omega);go_wp2_with fail
   go_region_law (first
    | (go_simp;go_at_call 101;refine (IH.out _ HG.out.dice.drew).mono ?_;rintro e w5 ⟨t,u,rfl,ht,hz,hy,hrest0,hd5⟩;have hrest:=hrest0.ofDrew;have HT:=hQ (show TrAt (fun b=>wr.heap.size≤b∧b<w5.heap.size) w5 t u from ht);have HZ:=hQ hz;have HY:=hQ hy;have HR5:=hQ hrest;have HD5:=hQ hd5;have HO5:=hQ (Qdj HG.out.row hrest (by have:=HBL.out;omega));have HL5:=hQ (HG.out.facts hrest HBL.out);clear ht hz hy hrest hrest0 hd5 g3 gl gf;have g3:w5.cell? ⟨w2.heap.size,3,none⟩=some (.slice ka ks.length kc):=Qab HL5.out 3 _ rfl;have gl:w2.heap.size<w5.heap.size:=Qaa HL5.out;have gf:w5.frozen? ⟨w2.heap.size,3,none⟩=false:=xL HL5.out _)
    | (refine step_append_lies _ (by rfl) _ _ _ (by rfl) (w2.heap.size+1) 25 it _ 4 72 Tryz.underlying22 hit ht0 ht1 ht2 rfl (by decide) (.slice ka ks.length kc) ks.length (Qag us) (by rfl) ((HO5.out.alloc _).alloc _) ⟨w5.heap.size+1,0,none⟩ 1 1 (Qag [⟨17,⟨#[]⟩,none,0,0,some ⟨w5.heap.size,0,none⟩,1,1⟩]) (by rfl) (by rfl) (xM (cs:=(Qag [⟨17,⟨#[]⟩,none,0,0,some ⟨w5.heap.size,0,none⟩,1,1⟩]).toArray) (t:=25) (fr:=(0,0)) (show (((w5.alloc (.cells (Qag [u]).toArray 25))).alloc (.cells (Qag [⟨17,⟨#[]⟩,none,0,0,some ⟨w5.heap.size,0,none⟩,1,1⟩]).toArray 25)).heap[w5.heap.size+1]? = some (.cells (Qag [⟨17,⟨#[]⟩,none,0,0,some ⟨w5.heap.size,0,none⟩,1,1⟩]).toArray 25 (0,0)) from (by rw [←xI w5 (.cells (Qag [u]).toArray 25)];exact xH _ _))) (Qcv [⟨17,⟨#[]⟩,none,0,0,some ⟨w5.heap.size,0,none⟩,1,1⟩]) (by decide) HB1.out HB2.out (by rw [xI,xI];have:=Qaa HL5.out;omega) (w5.heap.size+1+1) (by simp) ?_;intro g cap w7 ho7 hg7 hat7 hlt7;have HO7:=hQ ho7;have HG7:=hQ hg7;have HAT7:=hQ hat7;have hx7:=hQ (Qf1 (w5:=(w5.alloc (.cells (Qag [u]).toArray 25))) ((Below.heap_alloc w5 _ _ (Qaa HL5.out)).trans HL5.out) hg7 HG.out.off);clear ho7 hg7 hat7 hlt7 g3 gl gf;have g3:w7.cell? ⟨w2.heap.size,3,none⟩=some (.slice ka ks.length kc):=Qab hx7.out 3 _ rfl;have gl:w2.heap.size<w7.heap.size:=Qaa hx7.out;have gf:w7.frozen? ⟨w2.heap.size,3,none⟩=false:=xL hx7.out _;clear hx7))
   all_goals
    go_wp2
    go_roundw
    case measure=>first | (simp [intOf];done) | (simp [intOf];omega)
    case rel=>exact GrL.more HJ.out HSZ.out (by rw [Qak,Qaq,Qaq];have:=HZ.out;omega) (HG.out.next HB.out HLL.out (by have:=HLL.out;omega) (Qg5 (Zbf 17 ⟨#[]⟩ HT.out HR5.out.size _ rfl)) (by rw [Qbm,Qbz.2 ⟨by decide,by simp,by simp,by rw [Qbm,HY.out,Qbm];rfl⟩,Qbm];rfl) (HR5.out.trans (Rest1.below ((xC _ _).alloc (xA _) _))) (HD5.out.keep ((xC _ _).alloc (xA _) _)) rfl HO7.out HG7.out (by rw [xI];exact HAT7.out))
end Go.Proofs.YtfjpemdejoejbaaGreat
