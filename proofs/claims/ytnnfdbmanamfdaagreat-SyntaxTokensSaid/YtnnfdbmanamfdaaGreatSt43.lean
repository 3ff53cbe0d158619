/- Part 43: Expr at a level, by the first number. -/
import Derived.Test.YtnnfdbmanamfdaaGreatSt1
import Derived.Test.YtnnfdbmanamfdaaGreatSt42
import Derived.Deep.AppendLies
import Derived.IntWalk
import Derived.Deep.RegionHeld3
set_option maxRecDepth 100000
set_option maxHeartbeats 4000000
namespace Go.Proofs.YtnnfdbmanamfdaaGreat
open Go.RowKit Go.Shelf
theorem es_4 (B:Nat) (d:Int) (n:Nat) (h1:1 ≤ d) (h3:d ≤ 3) (ih:∀ w,DiceAt B w → Calls Tryz.prog 132 #[.pointer (some ⟨B,0,none⟩),.int .i64 (d - 1)] w (Qb5 B n w)) (w:World) (hd:DiceAt B w) (hn:Qe6 B w 14 4) :
  Calls Tryz.prog 132 #[.pointer (some ⟨B,0,none⟩),.int .i64 d] w (Qb5 B (3 * n + 6) w):=by
 have HB:=hQ hd.lt
 have HB0:=hQ ((xC w.heap.size w).alloc (xA _) (.cells #[.int .i64 0,.string ⟨#[]⟩,.slice none 0 0,.slice none 0 0] 25))
 have HX0:=hQ (xH w (.cells #[.int .i64 0,.string ⟨#[]⟩,.slice none 0 0,.slice none 0 0] 25))
 have HD0:=hQ (hd.keep HB0.out)
 have HR0:=hQ (Rest1.below (g:=B) HB0.out)
 have HN:=hQ (hn (w.alloc (.cells #[.int .i64 0,.string ⟨#[]⟩,.slice none 0 0,.slice none 0 0] 25)) fun k hk=>HB0.out.block k (by have:=HB.out;omega))
 have IH:=hQ ih
 clear hd hn ih
 go_enter Tryz.func132,Tryz.ntmps132
 go_wp2_with fail
 go_at_call 61
 refine HN.out.mono ?_
 rintro e w1 ⟨rfl,hrest,hd1⟩
 have HD1:=hQ hd1
 have HR1:=hQ (HR0.out.trans hrest)
 have HX1:=hQ ((hrest.block w.heap.size (Qaa HX0.out) (by have:=HB.out;omega)).trans HX0.out)
 have HS1:=hQ (show w.heap.size + 1 ≤ w1.heap.size from Qaa HX1.out)
 clear hrest hd1
 go_wp2_with fail
 go_at_call 61
 refine (Qb4 B 2 _ HD1.out (by decide) (by decide)).mono ?_
 rintro e w2 ⟨q,rfl,q0,q1,hrest,hd1⟩
 have HD2:=hQ hd1
 have HR2:=hQ (HR1.out.trans hrest)
 have HX2:=hQ ((hrest.block w.heap.size (Qaa HX1.out) (by have:=HB.out;omega)).trans HX1.out)
 have HS2:=hQ (show w.heap.size + 1 ≤ w2.heap.size from Qaa HX2.out)
 clear hrest hd1
 obtain ⟨x0,x1,x2,x3,xl,xf⟩:=Qai HX2.out
 go_wp2
 refine bodyPost_ret (v:=.agg #[.int .i64 (13 + q),.string ⟨#[]⟩,.slice none 0 0,.slice none 0 0]) (by simp [results,Tryz.results132,go_sem, *]) rfl ?_
 exact Qa2 (13 + q) ⟨#[]⟩ (by decide) (by omega) HB.out HR2.out HD2.out
theorem es_5 (B:Nat) (d:Int) (n:Nat) (h1:1 ≤ d) (h3:d ≤ 3) (ih:∀ w,DiceAt B w → Calls Tryz.prog 132 #[.pointer (some ⟨B,0,none⟩),.int .i64 (d - 1)] w (Qb5 B n w)) (w:World) (hd:DiceAt B w) (hn:Qe6 B w 14 5) :
  Calls Tryz.prog 132 #[.pointer (some ⟨B,0,none⟩),.int .i64 d] w (Qb5 B (3 * n + 6) w):=by
 have HB:=hQ hd.lt
 have HB0:=hQ ((xC w.heap.size w).alloc (xA _) (.cells #[.int .i64 0,.string ⟨#[]⟩,.slice none 0 0,.slice none 0 0] 25))
 have HX0:=hQ (xH w (.cells #[.int .i64 0,.string ⟨#[]⟩,.slice none 0 0,.slice none 0 0] 25))
 have HD0:=hQ (hd.keep HB0.out)
 have HR0:=hQ (Rest1.below (g:=B) HB0.out)
 have HN:=hQ (hn (w.alloc (.cells #[.int .i64 0,.string ⟨#[]⟩,.slice none 0 0,.slice none 0 0] 25)) fun k hk=>HB0.out.block k (by have:=HB.out;omega))
 have IH:=hQ ih
 clear hd hn ih
 go_enter Tryz.func132,Tryz.ntmps132
 go_wp2_with fail
 go_at_call 61
 refine HN.out.mono ?_
 rintro e w1 ⟨rfl,hrest,hd1⟩
 have HD1:=hQ hd1
 have HR1:=hQ (HR0.out.trans hrest)
 have HX1:=hQ ((hrest.block w.heap.size (Qaa HX0.out) (by have:=HB.out;omega)).trans HX0.out)
 have HS1:=hQ (show w.heap.size + 1 ≤ w1.heap.size from Qaa HX1.out)
 clear hrest hd1
 go_wp2_with fail
 go_at_call 61
 refine (Qb4 B 3 _ HD1.out (by decide) (by decide)).mono ?_
 rintro e w2 ⟨q,rfl,q0,q1,hrest,hd1⟩
 have HD2:=hQ hd1
 have HR2:=hQ (HR1.out.trans hrest)
 have HX2:=hQ ((hrest.block w.heap.size (Qaa HX1.out) (by have:=HB.out;omega)).trans HX1.out)
 have HS2:=hQ (show w.heap.size + 1 ≤ w2.heap.size from Qaa HX2.out)
 clear hrest hd1
 by_cases hq:q = 0
 ·subst hq
  obtain ⟨x0,x1,x2,x3,xl,xf⟩:=Qai HX2.out
  go_wp2
  refine bodyPost_ret (v:=.agg #[.int .i64 15,.string ⟨#[]⟩,.slice none 0 0,.slice none 0 0]) (by simp [results,Tryz.results132,go_sem, *]) rfl ?_
  exact Qa2 (15) ⟨#[]⟩ (by decide) (by omega) HB.out HR2.out HD2.out
 ·have hq2:decide (q = 0) = false:=decide_eq_false hq
  have hq3:(q == 0) = false:=by simpa using hq
  obtain ⟨x0,x1,x2,x3,xl,xf⟩:=Qai HX2.out
  go_wp2
  refine bodyPost_ret (v:=.agg #[.int .i64 10,.string ⟨#[51]⟩,.slice none 0 0,.slice none 0 0]) (by simp [results,Tryz.results132,go_sem, *]) rfl ?_
  exact Qa2 (10) ⟨#[51]⟩ (by decide) (by omega) HB.out HR2.out HD2.out
theorem es_8 (B:Nat) (d:Int) (n:Nat) (h1:1 ≤ d) (h3:d ≤ 3) (ih:∀ w,DiceAt B w → Calls Tryz.prog 132 #[.pointer (some ⟨B,0,none⟩),.int .i64 (d - 1)] w (Qb5 B n w)) (w:World) (hd:DiceAt B w) (hn:Qe6 B w 14 8) :
  Calls Tryz.prog 132 #[.pointer (some ⟨B,0,none⟩),.int .i64 d] w (Qb5 B (3 * n + 6) w):=by
 have HB:=hQ hd.lt
 have HB0:=hQ ((xC w.heap.size w).alloc (xA _) (.cells #[.int .i64 0,.string ⟨#[]⟩,.slice none 0 0,.slice none 0 0] 25))
 have HX0:=hQ (xH w (.cells #[.int .i64 0,.string ⟨#[]⟩,.slice none 0 0,.slice none 0 0] 25))
 have HD0:=hQ (hd.keep HB0.out)
 have HR0:=hQ (Rest1.below (g:=B) HB0.out)
 have HN:=hQ (hn (w.alloc (.cells #[.int .i64 0,.string ⟨#[]⟩,.slice none 0 0,.slice none 0 0] 25)) fun k hk=>HB0.out.block k (by have:=HB.out;omega))
 have IH:=hQ ih
 clear hd hn ih
 go_enter Tryz.func132,Tryz.ntmps132
 go_wp2_with fail
 go_at_call 61
 refine HN.out.mono ?_
 rintro e w1 ⟨rfl,hrest,hd1⟩
 have HD1:=hQ hd1
 have HR1:=hQ (HR0.out.trans hrest)
 have HX1:=hQ ((hrest.block w.heap.size (Qaa HX0.out) (by have:=HB.out;omega)).trans HX0.out)
 have HS1:=hQ (show w.heap.size + 1 ≤ w1.heap.size from Qaa HX1.out)
 clear hrest hd1
 have HWL:=hQ ((xC w1.heap.size w1).alloc (xA _) (.cells #[.int .i64 18,.string ⟨#[]⟩,.slice none 0 0,.slice none 0 0] 25))
 have HBK:=hQ (xH w1 (.cells #[.int .i64 18,.string ⟨#[]⟩,.slice none 0 0,.slice none 0 0] 25))
 have HDL:=hQ (HD1.out.keep HWL.out)
 have HRL:=hQ (HR1.out.trans (Rest1.below HWL.out))
 have HXL:=hQ ((HWL.out.block w.heap.size (Qaa HX1.out)).trans HX1.out)
 have HLL:=hQ (show w.heap.size < w1.heap.size from HS1.out)
 go_wp2_with fail
 go_at_call 61
 refine (Qb4 B 3 _ HDL.out (by decide) (by decide)).mono ?_
 rintro e w2 ⟨q,rfl,q0,q1,hrest,hd1⟩
 have HGJ:=hQ (GrW.start (tx:=⟨#[]⟩) (kd:=18) ((hrest.block w1.heap.size (Qaa HBK.out) (by have:=HB.out;have:=HLL.out;omega)).trans HBK.out) (HRL.out.trans hrest) hd1 ((hrest.block w.heap.size (Qaa HXL.out) (by have:=HB.out;omega)).trans HXL.out))
 clear hrest hd1
 obtain ⟨q,rfl⟩:∃ z:Nat,q = (z:Int):=⟨q.toNat,by omega⟩
 go_wp2
 go_loopw [9] (fun k wr=>GrL B w.heap.size w1.heap.size 18 ⟨#[]⟩ n w k wr) (fun k _=>(intOf k).toNat)
 case atStart=>exact ⟨q + 1,[],[],none,0,by go_num,by simp;omega,by rw [Qap];exact Nat.zero_le _,HGJ.out⟩
 case round =>
  obtain ⟨j,ks,us,ka,kc,rfl,hj,hs,hg⟩:=hrel
  have HG:=hQ hg
  have HJ:=hQ hj
  have HSZ:=hQ hs
  have HBL:=hQ (show B < w1.heap.size from by have:=HB.out;have:=HLL.out;omega)
  obtain ⟨it,hit,ht0,ht1,ht2⟩:=info_parts Qcv
  cases j with
  | zero =>
   obtain ⟨x0,x1,x2,x3,xl,xf⟩:=Qai hg.res
   obtain ⟨y0,y1,y2,y3,yl,yf⟩:=Qai hg.blk
   clear hj hs hg
   go_wp2
   refine bodyPost_ret (v:=.agg #[.int .i64 18,.string ⟨#[]⟩,.slice none 0 0,.slice ka ks.length kc]) (by simp [results,Tryz.results132,go_sem, *]) rfl ?_
   exact HG.out.made (by decide) (by have:=GrL.size HJ.out HSZ.out;omega) HB.out HLL.out
  | succ i =>
   have g3:wr.cell? ⟨w1.heap.size,3,none⟩ = some (.slice ka ks.length kc):=Qab hg.blk 3 _ rfl
   have gl:w1.heap.size < wr.heap.size:=Qaa hg.blk
   have gf:wr.frozen? ⟨w1.heap.size,3,none⟩ = false:=Lib.frozen_of_heap hg.blk _
   have HB1:=hQ (show ks.length + 1 ≤ maxLen from by unfold maxLen;omega)
   have HB2:=hQ (show (ks.length + 1) * 72 ≤ 140737488355328 from by omega)
   have hi:(i:Int) ≤ 3:=by omega
   have hi0:(0:Int) ≤ (i:Int):=by omega
   clear hj hs hg
   have hwd:IntKind.i64.wrap (d - 1) = d - 1:=IntWalk.i64_in _ (by omega)
   go_wp2_with fail
   go_region_law (first
    | (go_simp;go_at_call 132;refine (IH.out _ HG.out.dice.drew).mono ?_;rintro e w5 ⟨t,u,rfl,ht,hz,hy,hrest0,hd5⟩;have hrest:=hrest0.ofDrew;have HT:=hQ (show TrAt (fun b=>wr.heap.size ≤ b ∧ b < w5.heap.size) w5 t u from ht);have HZ:=hQ hz;have HY:=hQ hy;have HR5:=hQ hrest;have HD5:=hQ hd5;have HO5:=hQ (Qdk HG.out.row hrest (by have:=HBL.out;omega));have HL5:=hQ (HG.out.facts hrest HBL.out);clear ht hz hy hrest hrest0 hd5 g3 gl gf;have g3:w5.cell? ⟨w1.heap.size,3,none⟩ = some (.slice ka ks.length kc):=Qab HL5.out 3 _ rfl;have gl:w1.heap.size < w5.heap.size:=Qaa HL5.out;have gf:w5.frozen? ⟨w1.heap.size,3,none⟩ = false:=Lib.frozen_of_heap HL5.out _)
    | (refine step_append_lies _ (by rfl) _ _ _ (by rfl) (w1.heap.size + 1) 25 it _ 4 72 Tryz.underlying23 hit ht0 ht1 ht2 rfl (by decide) (.slice ka ks.length kc) ks.length (Qag us) (by rfl) (HO5.out.alloc _) ⟨w5.heap.size,0,none⟩ 1 1 (Qag [u]) (by rfl) (by rfl) (World.news_of_block (cs:=(Qag [u]).toArray) (t:=25) (fr:=(0,0)) (xH w5 (.cells (Qag [u]).toArray 25))) (Qdh [u]) (by decide) HB1.out HB2.out (by rw [xI];have:=Qaa HL5.out;omega) (w5.heap.size + 1) (by simp) ?_;intro g cap w7 ho7 hg7 hat7 hlt7;have HO7:=hQ ho7;have HG7:=hQ hg7;have HAT7:=hQ hat7;have hx7:=hQ (Qfm (w5:=w5) HL5.out hg7 HG.out.off);clear ho7 hg7 hat7 hlt7 g3 gl gf;have g3:w7.cell? ⟨w1.heap.size,3,none⟩ = some (.slice ka ks.length kc):=Qab hx7.out 3 _ rfl;have gl:w1.heap.size < w7.heap.size:=Qaa hx7.out;have gf:w7.frozen? ⟨w1.heap.size,3,none⟩ = false:=Lib.frozen_of_heap hx7.out _;clear hx7))
   all_goals
    go_wp2
    go_roundw
    case measure=>first | (simp [intOf];done) | (simp [intOf];omega)
    case rel=>exact GrL.more HJ.out HSZ.out HZ.out (HG.out.next HB.out HLL.out (by have:=HLL.out;omega) (Qgq HT.out) (by rw [Qbh,HY.out,Qbh];rfl) HR5.out HD5.out rfl HO7.out HG7.out HAT7.out)
end Go.Proofs.YtnnfdbmanamfdaaGreat
