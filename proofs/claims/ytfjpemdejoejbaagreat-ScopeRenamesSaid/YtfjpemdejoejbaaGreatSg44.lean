/- Part 44 -/
import Derived.Test.YtfjpemdejoejbaaGreatSg28
import Derived.Test.YtfjpemdejoejbaaGreatSg41
import Derived.Test.YtfjpemdejoejbaaGreatSg42
import Derived.Test.YtfjpemdejoejbaaGreatSg43
set_option maxRecDepth 100000
set_option maxHeartbeats 4000000
namespace Go.Proofs.YtfjpemdejoejbaaGreat
open Go.RowKit Go.Shelf
theorem e0_5 (B:Nat) (w:World) (hd:DiceAt B w) (hn:Qff B w 14 5) :
  Calls Tryz.prog 101 #[.pointer (some ⟨B,0,none⟩),.int .i64 0] w (Qcb B 1 w):=by
 have HB:=hQ hd.lt;have HB0:=hQ ((xC w.heap.size w).alloc (xA _) (.cells #[.int .i64 0,.string ⟨#[]⟩,.slice none 0 0,.slice none 0 0] 25));have HX0:=hQ (xH w (.cells #[.int .i64 0,.string ⟨#[]⟩,.slice none 0 0,.slice none 0 0] 25));have HD0:=hQ (hd.keep HB0.out);have HR0:=hQ (Rest1.below (g:=B) HB0.out);have HN:=hQ (hn (w.alloc (.cells #[.int .i64 0,.string ⟨#[]⟩,.slice none 0 0,.slice none 0 0] 25)) fun k hk=>HB0.out.block k (by have:=HB.out;omega));clear hd hn
 go_enter Tryz.func101,Tryz.ntmps101
 go_wp2_with fail
 go_at_call 42;refine HN.out.mono ?_;rintro e w1 ⟨rfl,hrest,hd1⟩;have HD1:=hQ hd1;have HR1:=hQ (HR0.out.trans hrest);have HX1:=hQ ((hrest.block w.heap.size (Qaa HX0.out) (by have:=HB.out;omega)).trans HX0.out);have HS1:=hQ (show w.heap.size+1≤w1.heap.size from Qaa HX1.out);clear hrest hd1;go_wp2_with fail
 go_at_call 42;refine (Qb9 B 3 _ HD1.out (by decide) (by decide)).mono ?_;rintro e w2 ⟨q,rfl,q0,q1,hrest,hd1⟩;have HD2:=hQ hd1;have HR2:=hQ (HR1.out.trans hrest);have HX2:=hQ ((hrest.block w.heap.size (Qaa HX1.out) (by have:=HB.out;omega)).trans HX1.out);have HS2:=hQ (show w.heap.size+1≤w2.heap.size from Qaa HX2.out);clear hrest hd1
 by_cases hq:q=0
 ·subst hq;obtain ⟨x0,x1,x2,x3,xl,xf⟩:=Qai HX2.out
  go_wp2
  refine bodyPost_ret (v:=.agg #[.int .i64 15,.string ⟨#[]⟩,.slice none 0 0,.slice none 0 0]) (by simp [results,Tryz.results101,go_sem, *]) rfl ?_;exact Qa3 (15) ⟨#[]⟩ (by decide) (by omega) HB.out HR2.out HD2.out
 ·have hq2:decide (q=0)=false:=xR hq;have hq3:(q==0)=false:=by simpa using hq
  obtain ⟨x0,x1,x2,x3,xl,xf⟩:=Qai HX2.out
  go_wp2
  refine bodyPost_ret (v:=.agg #[.int .i64 10,.string ⟨#[51]⟩,.slice none 0 0,.slice none 0 0]) (by simp [results,Tryz.results101,go_sem, *]) rfl ?_;exact Qa3 (10) ⟨#[51]⟩ (by decide) (by omega) HB.out HR2.out HD2.out
theorem e0_6 (B:Nat) (w:World) (hd:DiceAt B w) (hn:Qff B w 14 6) :
  Calls Tryz.prog 101 #[.pointer (some ⟨B,0,none⟩),.int .i64 0] w (Qcb B 1 w):=by
 have HB:=hQ hd.lt;have HB0:=hQ ((xC w.heap.size w).alloc (xA _) (.cells #[.int .i64 0,.string ⟨#[]⟩,.slice none 0 0,.slice none 0 0] 25));have HX0:=hQ (xH w (.cells #[.int .i64 0,.string ⟨#[]⟩,.slice none 0 0,.slice none 0 0] 25));have HD0:=hQ (hd.keep HB0.out);have HR0:=hQ (Rest1.below (g:=B) HB0.out);have HN:=hQ (hn (w.alloc (.cells #[.int .i64 0,.string ⟨#[]⟩,.slice none 0 0,.slice none 0 0] 25)) fun k hk=>HB0.out.block k (by have:=HB.out;omega));clear hd hn
 go_enter Tryz.func101,Tryz.ntmps101
 go_wp2_with fail
 go_at_call 42;refine HN.out.mono ?_;rintro e w1 ⟨rfl,hrest,hd1⟩;have HD1:=hQ hd1;have HR1:=hQ (HR0.out.trans hrest);have HX1:=hQ ((hrest.block w.heap.size (Qaa HX0.out) (by have:=HB.out;omega)).trans HX0.out);have HS1:=hQ (show w.heap.size+1≤w1.heap.size from Qaa HX1.out);clear hrest hd1;go_wp2_with fail
 go_at_call 99;refine (Qch B 3 [(⟨#[120]⟩:ByteArray),(⟨#[121]⟩:ByteArray),(⟨#[122]⟩:ByteArray)] _ w1 HD1.out rfl rfl (by decide) (by decide) (by decide)).mono ?_;rintro e w2 ⟨p,rfl,hp,hrest,hd1⟩;have HD2:=hQ hd1;have HR2:=hQ (HR1.out.trans hrest);have HX2:=hQ ((hrest.block w.heap.size (Qaa HX1.out) (by have:=HB.out;omega)).trans HX1.out);have HS2:=hQ (show w.heap.size+1≤w2.heap.size from Qaa HX2.out);have HP:=hQ hp;clear hrest hd1 hp;obtain ⟨x0,x1,x2,x3,xl,xf⟩:=Qai HX2.out
 go_wp2
 refine bodyPost_ret (v:=.agg #[.int .i64 12,.string p,.slice none 0 0,.slice none 0 0]) (by simp [results,Tryz.results101,go_sem, *]) rfl ?_;exact Qa3 (12) p HP.out (by omega) HB.out HR2.out HD2.out
theorem e0_7 (B:Nat) (w:World) (hd:DiceAt B w) (hn:Qff B w 14 7) :
  Calls Tryz.prog 101 #[.pointer (some ⟨B,0,none⟩),.int .i64 0] w (Qcb B 1 w):=by
 have HB:=hQ hd.lt;have HB0:=hQ ((xC w.heap.size w).alloc (xA _) (.cells #[.int .i64 0,.string ⟨#[]⟩,.slice none 0 0,.slice none 0 0] 25));have HX0:=hQ (xH w (.cells #[.int .i64 0,.string ⟨#[]⟩,.slice none 0 0,.slice none 0 0] 25));have HD0:=hQ (hd.keep HB0.out);have HR0:=hQ (Rest1.below (g:=B) HB0.out);have HN:=hQ (hn (w.alloc (.cells #[.int .i64 0,.string ⟨#[]⟩,.slice none 0 0,.slice none 0 0] 25)) fun k hk=>HB0.out.block k (by have:=HB.out;omega));clear hd hn
 go_enter Tryz.func101,Tryz.ntmps101
 go_wp2_with fail
 go_at_call 42;refine HN.out.mono ?_;rintro e w1 ⟨rfl,hrest,hd1⟩;have HD1:=hQ hd1;have HR1:=hQ (HR0.out.trans hrest);have HX1:=hQ ((hrest.block w.heap.size (Qaa HX0.out) (by have:=HB.out;omega)).trans HX0.out);have HS1:=hQ (show w.heap.size+1≤w1.heap.size from Qaa HX1.out);clear hrest hd1;go_wp2_with fail
 go_at_call 99;refine (Qch B 3 [(⟨#[120]⟩:ByteArray),(⟨#[121]⟩:ByteArray),(⟨#[122]⟩:ByteArray)] _ w1 HD1.out rfl rfl (by decide) (by decide) (by decide)).mono ?_;rintro e w2 ⟨p,rfl,hp,hrest,hd1⟩;have HD2:=hQ hd1;have HR2:=hQ (HR1.out.trans hrest);have HX2:=hQ ((hrest.block w.heap.size (Qaa HX1.out) (by have:=HB.out;omega)).trans HX1.out);have HS2:=hQ (show w.heap.size+1≤w2.heap.size from Qaa HX2.out);have HP:=hQ hp;clear hrest hd1 hp;obtain ⟨x0,x1,x2,x3,xl,xf⟩:=Qai HX2.out
 go_wp2
 refine bodyPost_ret (v:=.agg #[.int .i64 12,.string p,.slice none 0 0,.slice none 0 0]) (by simp [results,Tryz.results101,go_sem, *]) rfl ?_;exact Qa3 (12) p HP.out (by omega) HB.out HR2.out HD2.out
theorem e0_8 (B:Nat) (w:World) (hd:DiceAt B w) (hn:Qff B w 14 8) :
  Calls Tryz.prog 101 #[.pointer (some ⟨B,0,none⟩),.int .i64 0] w (Qcb B 1 w):=by
 have HB:=hQ hd.lt;have HB0:=hQ ((xC w.heap.size w).alloc (xA _) (.cells #[.int .i64 0,.string ⟨#[]⟩,.slice none 0 0,.slice none 0 0] 25));have HX0:=hQ (xH w (.cells #[.int .i64 0,.string ⟨#[]⟩,.slice none 0 0,.slice none 0 0] 25));have HD0:=hQ (hd.keep HB0.out);have HR0:=hQ (Rest1.below (g:=B) HB0.out);have HN:=hQ (hn (w.alloc (.cells #[.int .i64 0,.string ⟨#[]⟩,.slice none 0 0,.slice none 0 0] 25)) fun k hk=>HB0.out.block k (by have:=HB.out;omega));clear hd hn
 go_enter Tryz.func101,Tryz.ntmps101
 go_wp2_with fail
 go_at_call 42;refine HN.out.mono ?_;rintro e w1 ⟨rfl,hrest,hd1⟩;have HD1:=hQ hd1;have HR1:=hQ (HR0.out.trans hrest);have HX1:=hQ ((hrest.block w.heap.size (Qaa HX0.out) (by have:=HB.out;omega)).trans HX0.out);have HS1:=hQ (show w.heap.size+1≤w1.heap.size from Qaa HX1.out);clear hrest hd1;go_wp2_with fail
 go_at_call 99;refine (Qch B 4 [(⟨#[48]⟩:ByteArray),(⟨#[49]⟩:ByteArray),(⟨#[50]⟩:ByteArray),(⟨#[49,48]⟩:ByteArray)] _ w1 HD1.out rfl rfl (by decide) (by decide) (by decide)).mono ?_;rintro e w2 ⟨p,rfl,hp,hrest,hd1⟩;have HD2:=hQ hd1;have HR2:=hQ (HR1.out.trans hrest);have HX2:=hQ ((hrest.block w.heap.size (Qaa HX1.out) (by have:=HB.out;omega)).trans HX1.out);have HS2:=hQ (show w.heap.size+1≤w2.heap.size from Qaa HX2.out);have HP:=hQ hp;clear hrest hd1 hp;obtain ⟨x0,x1,x2,x3,xl,xf⟩:=Qai HX2.out
 go_wp2
 refine bodyPost_ret (v:=.agg #[.int .i64 10,.string p,.slice none 0 0,.slice none 0 0]) (by simp [results,Tryz.results101,go_sem, *]) rfl ?_;exact Qa3 (10) p HP.out (by omega) HB.out HR2.out HD2.out
theorem es_0 (B:Nat) (d:Int) (n:Nat) (h1:1≤d) (h3:d≤3) (ih:∀ w,DiceAt B w→Calls Tryz.prog 101 #[.pointer (some ⟨B,0,none⟩),.int .i64 (d-1)] w (Qcb B n w)) (w:World) (hd:DiceAt B w) (hn:Qff B w 14 0) :
  Calls Tryz.prog 101 #[.pointer (some ⟨B,0,none⟩),.int .i64 d] w (Qcb B (3*n+6) w):=by
 have HB:=hQ hd.lt;have HB0:=hQ ((xC w.heap.size w).alloc (xA _) (.cells #[.int .i64 0,.string ⟨#[]⟩,.slice none 0 0,.slice none 0 0] 25));have HX0:=hQ (xH w (.cells #[.int .i64 0,.string ⟨#[]⟩,.slice none 0 0,.slice none 0 0] 25));have HD0:=hQ (hd.keep HB0.out);have HR0:=hQ (Rest1.below (g:=B) HB0.out);have HN:=hQ (hn (w.alloc (.cells #[.int .i64 0,.string ⟨#[]⟩,.slice none 0 0,.slice none 0 0] 25)) fun k hk=>HB0.out.block k (by have:=HB.out;omega));have IH:=hQ ih;clear hd hn ih
 go_enter Tryz.func101,Tryz.ntmps101
 go_wp2_with fail
 go_at_call 42;refine HN.out.mono ?_;rintro e w1 ⟨rfl,hrest,hd1⟩;have HD1:=hQ hd1;have HR1:=hQ (HR0.out.trans hrest);have HX1:=hQ ((hrest.block w.heap.size (Qaa HX0.out) (by have:=HB.out;omega)).trans HX0.out);have HS1:=hQ (show w.heap.size+1≤w1.heap.size from Qaa HX1.out);clear hrest hd1;go_wp2_with fail
 go_at_call 99;refine (Qch B 3 [(⟨#[120]⟩:ByteArray),(⟨#[121]⟩:ByteArray),(⟨#[122]⟩:ByteArray)] _ w1 HD1.out rfl rfl (by decide) (by decide) (by decide)).mono ?_;rintro e w2 ⟨p,rfl,hp,hrest,hd1⟩;have HD2:=hQ hd1;have HR2:=hQ (HR1.out.trans hrest);have HX2:=hQ ((hrest.block w.heap.size (Qaa HX1.out) (by have:=HB.out;omega)).trans HX1.out);have HS2:=hQ (show w.heap.size+1≤w2.heap.size from Qaa HX2.out);have HP:=hQ hp;clear hrest hd1 hp;obtain ⟨x0,x1,x2,x3,xl,xf⟩:=Qai HX2.out
 go_wp2
 refine bodyPost_ret (v:=.agg #[.int .i64 12,.string p,.slice none 0 0,.slice none 0 0]) (by simp [results,Tryz.results101,go_sem, *]) rfl ?_;exact Qa3 (12) p HP.out (by omega) HB.out HR2.out HD2.out
theorem es_1 (B:Nat) (d:Int) (n:Nat) (h1:1≤d) (h3:d≤3) (ih:∀ w,DiceAt B w→Calls Tryz.prog 101 #[.pointer (some ⟨B,0,none⟩),.int .i64 (d-1)] w (Qcb B n w)) (w:World) (hd:DiceAt B w) (hn:Qff B w 14 1) :
  Calls Tryz.prog 101 #[.pointer (some ⟨B,0,none⟩),.int .i64 d] w (Qcb B (3*n+6) w):=by
 have HB:=hQ hd.lt;have HB0:=hQ ((xC w.heap.size w).alloc (xA _) (.cells #[.int .i64 0,.string ⟨#[]⟩,.slice none 0 0,.slice none 0 0] 25));have HX0:=hQ (xH w (.cells #[.int .i64 0,.string ⟨#[]⟩,.slice none 0 0,.slice none 0 0] 25));have HD0:=hQ (hd.keep HB0.out);have HR0:=hQ (Rest1.below (g:=B) HB0.out);have HN:=hQ (hn (w.alloc (.cells #[.int .i64 0,.string ⟨#[]⟩,.slice none 0 0,.slice none 0 0] 25)) fun k hk=>HB0.out.block k (by have:=HB.out;omega));have IH:=hQ ih;clear hd hn ih
 go_enter Tryz.func101,Tryz.ntmps101
 go_wp2_with fail
 go_at_call 42;refine HN.out.mono ?_;rintro e w1 ⟨rfl,hrest,hd1⟩;have HD1:=hQ hd1;have HR1:=hQ (HR0.out.trans hrest);have HX1:=hQ ((hrest.block w.heap.size (Qaa HX0.out) (by have:=HB.out;omega)).trans HX0.out);have HS1:=hQ (show w.heap.size+1≤w1.heap.size from Qaa HX1.out);clear hrest hd1;go_wp2_with fail
 go_at_call 99;refine (Qch B 3 [(⟨#[120]⟩:ByteArray),(⟨#[121]⟩:ByteArray),(⟨#[122]⟩:ByteArray)] _ w1 HD1.out rfl rfl (by decide) (by decide) (by decide)).mono ?_;rintro e w2 ⟨p,rfl,hp,hrest,hd1⟩;have HD2:=hQ hd1;have HR2:=hQ (HR1.out.trans hrest);have HX2:=hQ ((hrest.block w.heap.size (Qaa HX1.out) (by have:=HB.out;omega)).trans HX1.out);have HS2:=hQ (show w.heap.size+1≤w2.heap.size from Qaa HX2.out);have HP:=hQ hp;clear hrest hd1 hp;obtain ⟨x0,x1,x2,x3,xl,xf⟩:=Qai HX2.out
 go_wp2
 refine bodyPost_ret (v:=.agg #[.int .i64 12,.string p,.slice none 0 0,.slice none 0 0]) (by simp [results,Tryz.results101,go_sem, *]) rfl ?_;exact Qa3 (12) p HP.out (by omega) HB.out HR2.out HD2.out
theorem es_2 (B:Nat) (d:Int) (n:Nat) (h1:1≤d) (h3:d≤3) (ih:∀ w,DiceAt B w→Calls Tryz.prog 101 #[.pointer (some ⟨B,0,none⟩),.int .i64 (d-1)] w (Qcb B n w)) (w:World) (hd:DiceAt B w) (hn:Qff B w 14 2) :
  Calls Tryz.prog 101 #[.pointer (some ⟨B,0,none⟩),.int .i64 d] w (Qcb B (3*n+6) w):=by
 have HB:=hQ hd.lt;have HB0:=hQ ((xC w.heap.size w).alloc (xA _) (.cells #[.int .i64 0,.string ⟨#[]⟩,.slice none 0 0,.slice none 0 0] 25));have HX0:=hQ (xH w (.cells #[.int .i64 0,.string ⟨#[]⟩,.slice none 0 0,.slice none 0 0] 25));have HD0:=hQ (hd.keep HB0.out);have HR0:=hQ (Rest1.below (g:=B) HB0.out);have HN:=hQ (hn (w.alloc (.cells #[.int .i64 0,.string ⟨#[]⟩,.slice none 0 0,.slice none 0 0] 25)) fun k hk=>HB0.out.block k (by have:=HB.out;omega));have IH:=hQ ih;clear hd hn ih
 go_enter Tryz.func101,Tryz.ntmps101
 go_wp2_with fail
 go_at_call 42;refine HN.out.mono ?_;rintro e w1 ⟨rfl,hrest,hd1⟩;have HD1:=hQ hd1;have HR1:=hQ (HR0.out.trans hrest);have HX1:=hQ ((hrest.block w.heap.size (Qaa HX0.out) (by have:=HB.out;omega)).trans HX0.out);have HS1:=hQ (show w.heap.size+1≤w1.heap.size from Qaa HX1.out);clear hrest hd1;go_wp2_with fail
 go_at_call 99;refine (Qch B 4 [(⟨#[48]⟩:ByteArray),(⟨#[49]⟩:ByteArray),(⟨#[50]⟩:ByteArray),(⟨#[49,48]⟩:ByteArray)] _ w1 HD1.out rfl rfl (by decide) (by decide) (by decide)).mono ?_;rintro e w2 ⟨p,rfl,hp,hrest,hd1⟩;have HD2:=hQ hd1;have HR2:=hQ (HR1.out.trans hrest);have HX2:=hQ ((hrest.block w.heap.size (Qaa HX1.out) (by have:=HB.out;omega)).trans HX1.out);have HS2:=hQ (show w.heap.size+1≤w2.heap.size from Qaa HX2.out);have HP:=hQ hp;clear hrest hd1 hp;obtain ⟨x0,x1,x2,x3,xl,xf⟩:=Qai HX2.out
 go_wp2
 refine bodyPost_ret (v:=.agg #[.int .i64 10,.string p,.slice none 0 0,.slice none 0 0]) (by simp [results,Tryz.results101,go_sem, *]) rfl ?_;exact Qa3 (10) p HP.out (by omega) HB.out HR2.out HD2.out
theorem es_3 (B:Nat) (d:Int) (n:Nat) (h1:1≤d) (h3:d≤3) (ih:∀ w,DiceAt B w→Calls Tryz.prog 101 #[.pointer (some ⟨B,0,none⟩),.int .i64 (d-1)] w (Qcb B n w)) (w:World) (hd:DiceAt B w) (hn:Qff B w 14 3) :
  Calls Tryz.prog 101 #[.pointer (some ⟨B,0,none⟩),.int .i64 d] w (Qcb B (3*n+6) w):=by
 have HB:=hQ hd.lt;have HB0:=hQ ((xC w.heap.size w).alloc (xA _) (.cells #[.int .i64 0,.string ⟨#[]⟩,.slice none 0 0,.slice none 0 0] 25));have HX0:=hQ (xH w (.cells #[.int .i64 0,.string ⟨#[]⟩,.slice none 0 0,.slice none 0 0] 25));have HD0:=hQ (hd.keep HB0.out);have HR0:=hQ (Rest1.below (g:=B) HB0.out);have HN:=hQ (hn (w.alloc (.cells #[.int .i64 0,.string ⟨#[]⟩,.slice none 0 0,.slice none 0 0] 25)) fun k hk=>HB0.out.block k (by have:=HB.out;omega));have IH:=hQ ih;clear hd hn ih
 go_enter Tryz.func101,Tryz.ntmps101
 go_wp2_with fail
 go_at_call 42;refine HN.out.mono ?_;rintro e w1 ⟨rfl,hrest,hd1⟩;have HD1:=hQ hd1;have HR1:=hQ (HR0.out.trans hrest);have HX1:=hQ ((hrest.block w.heap.size (Qaa HX0.out) (by have:=HB.out;omega)).trans HX0.out);have HS1:=hQ (show w.heap.size+1≤w1.heap.size from Qaa HX1.out);clear hrest hd1;go_wp2_with fail
 go_at_call 99;refine (Qch B 3 [(⟨#[34,34]⟩:ByteArray),(⟨#[34,97,34]⟩:ByteArray),(⟨#[34,35,32,98,34]⟩:ByteArray)] _ w1 HD1.out rfl rfl (by decide) (by decide) (by decide)).mono ?_;rintro e w2 ⟨p,rfl,hp,hrest,hd1⟩;have HD2:=hQ hd1;have HR2:=hQ (HR1.out.trans hrest);have HX2:=hQ ((hrest.block w.heap.size (Qaa HX1.out) (by have:=HB.out;omega)).trans HX1.out);have HS2:=hQ (show w.heap.size+1≤w2.heap.size from Qaa HX2.out);have HP:=hQ hp;clear hrest hd1 hp;obtain ⟨x0,x1,x2,x3,xl,xf⟩:=Qai HX2.out
 go_wp2
 refine bodyPost_ret (v:=.agg #[.int .i64 11,.string p,.slice none 0 0,.slice none 0 0]) (by simp [results,Tryz.results101,go_sem, *]) rfl ?_;exact Qa3 (11) p HP.out (by omega) HB.out HR2.out HD2.out
theorem e0_9 (B:Nat) (w:World) (hd:DiceAt B w) (hn:Qff B w 14 9) :
  Calls Tryz.prog 101 #[.pointer (some ⟨B,0,none⟩),.int .i64 0] w (Qcb B 1 w):=by
 have HB:=hQ hd.lt;have HB0:=hQ ((xC w.heap.size w).alloc (xA _) (.cells #[.int .i64 0,.string ⟨#[]⟩,.slice none 0 0,.slice none 0 0] 25));have HX0:=hQ (xH w (.cells #[.int .i64 0,.string ⟨#[]⟩,.slice none 0 0,.slice none 0 0] 25));have HD0:=hQ (hd.keep HB0.out);have HR0:=hQ (Rest1.below (g:=B) HB0.out);have HN:=hQ (hn (w.alloc (.cells #[.int .i64 0,.string ⟨#[]⟩,.slice none 0 0,.slice none 0 0] 25)) fun k hk=>HB0.out.block k (by have:=HB.out;omega));clear hd hn
 go_enter Tryz.func101,Tryz.ntmps101
 go_wp2_with fail
 go_at_call 42;refine HN.out.mono ?_;rintro e w1 ⟨rfl,hrest,hd1⟩;have HD1:=hQ hd1;have HR1:=hQ (HR0.out.trans hrest);have HX1:=hQ ((hrest.block w.heap.size (Qaa HX0.out) (by have:=HB.out;omega)).trans HX0.out);have HS1:=hQ (show w.heap.size+1≤w1.heap.size from Qaa HX1.out);clear hrest hd1;go_wp2_with fail
 go_at_call 99;refine (Qch B 3 [(⟨#[34,34]⟩:ByteArray),(⟨#[34,97,34]⟩:ByteArray),(⟨#[34,35,32,98,34]⟩:ByteArray)] _ w1 HD1.out rfl rfl (by decide) (by decide) (by decide)).mono ?_;rintro e w2 ⟨p,rfl,hp,hrest,hd1⟩;have HD2:=hQ hd1;have HR2:=hQ (HR1.out.trans hrest);have HX2:=hQ ((hrest.block w.heap.size (Qaa HX1.out) (by have:=HB.out;omega)).trans HX1.out);have HS2:=hQ (show w.heap.size+1≤w2.heap.size from Qaa HX2.out);have HP:=hQ hp;clear hrest hd1 hp;obtain ⟨x0,x1,x2,x3,xl,xf⟩:=Qai HX2.out
 go_wp2
 refine bodyPost_ret (v:=.agg #[.int .i64 11,.string p,.slice none 0 0,.slice none 0 0]) (by simp [results,Tryz.results101,go_sem, *]) rfl ?_;exact Qa3 (11) p HP.out (by omega) HB.out HR2.out HD2.out
theorem e0_10 (B:Nat) (w:World) (hd:DiceAt B w) (hn:Qff B w 14 10) :
  Calls Tryz.prog 101 #[.pointer (some ⟨B,0,none⟩),.int .i64 0] w (Qcb B 1 w):=by
 have HB:=hQ hd.lt;have HB0:=hQ ((xC w.heap.size w).alloc (xA _) (.cells #[.int .i64 0,.string ⟨#[]⟩,.slice none 0 0,.slice none 0 0] 25));have HX0:=hQ (xH w (.cells #[.int .i64 0,.string ⟨#[]⟩,.slice none 0 0,.slice none 0 0] 25));have HD0:=hQ (hd.keep HB0.out);have HR0:=hQ (Rest1.below (g:=B) HB0.out);have HN:=hQ (hn (w.alloc (.cells #[.int .i64 0,.string ⟨#[]⟩,.slice none 0 0,.slice none 0 0] 25)) fun k hk=>HB0.out.block k (by have:=HB.out;omega));clear hd hn
 go_enter Tryz.func101,Tryz.ntmps101
 go_wp2_with fail
 go_at_call 42;refine HN.out.mono ?_;rintro e w1 ⟨rfl,hrest,hd1⟩;have HD1:=hQ hd1;have HR1:=hQ (HR0.out.trans hrest);have HX1:=hQ ((hrest.block w.heap.size (Qaa HX0.out) (by have:=HB.out;omega)).trans HX0.out);have HS1:=hQ (show w.heap.size+1≤w1.heap.size from Qaa HX1.out);clear hrest hd1;go_wp2_with fail
 go_at_call 42;refine (Qb9 B 2 _ HD1.out (by decide) (by decide)).mono ?_;rintro e w2 ⟨q,rfl,q0,q1,hrest,hd1⟩;have HD2:=hQ hd1;have HR2:=hQ (HR1.out.trans hrest);have HX2:=hQ ((hrest.block w.heap.size (Qaa HX1.out) (by have:=HB.out;omega)).trans HX1.out);have HS2:=hQ (show w.heap.size+1≤w2.heap.size from Qaa HX2.out);clear hrest hd1;obtain ⟨x0,x1,x2,x3,xl,xf⟩:=Qai HX2.out
 go_wp2
 refine bodyPost_ret (v:=.agg #[.int .i64 (13+q),.string ⟨#[]⟩,.slice none 0 0,.slice none 0 0]) (by simp [results,Tryz.results101,go_sem, *]) rfl ?_;exact Qa3 (13+q) ⟨#[]⟩ (by decide) (by omega) HB.out HR2.out HD2.out
theorem e0_11 (B:Nat) (w:World) (hd:DiceAt B w) (hn:Qff B w 14 11) :
  Calls Tryz.prog 101 #[.pointer (some ⟨B,0,none⟩),.int .i64 0] w (Qcb B 1 w):=by
 have HB:=hQ hd.lt;have HB0:=hQ ((xC w.heap.size w).alloc (xA _) (.cells #[.int .i64 0,.string ⟨#[]⟩,.slice none 0 0,.slice none 0 0] 25));have HX0:=hQ (xH w (.cells #[.int .i64 0,.string ⟨#[]⟩,.slice none 0 0,.slice none 0 0] 25));have HD0:=hQ (hd.keep HB0.out);have HR0:=hQ (Rest1.below (g:=B) HB0.out);have HN:=hQ (hn (w.alloc (.cells #[.int .i64 0,.string ⟨#[]⟩,.slice none 0 0,.slice none 0 0] 25)) fun k hk=>HB0.out.block k (by have:=HB.out;omega));clear hd hn
 go_enter Tryz.func101,Tryz.ntmps101
 go_wp2_with fail
 go_at_call 42;refine HN.out.mono ?_;rintro e w1 ⟨rfl,hrest,hd1⟩;have HD1:=hQ hd1;have HR1:=hQ (HR0.out.trans hrest);have HX1:=hQ ((hrest.block w.heap.size (Qaa HX0.out) (by have:=HB.out;omega)).trans HX0.out);have HS1:=hQ (show w.heap.size+1≤w1.heap.size from Qaa HX1.out);clear hrest hd1;go_wp2_with fail
 go_at_call 42;refine (Qb9 B 3 _ HD1.out (by decide) (by decide)).mono ?_;rintro e w2 ⟨q,rfl,q0,q1,hrest,hd1⟩;have HD2:=hQ hd1;have HR2:=hQ (HR1.out.trans hrest);have HX2:=hQ ((hrest.block w.heap.size (Qaa HX1.out) (by have:=HB.out;omega)).trans HX1.out);have HS2:=hQ (show w.heap.size+1≤w2.heap.size from Qaa HX2.out);clear hrest hd1
 by_cases hq:q=0
 ·subst hq;obtain ⟨x0,x1,x2,x3,xl,xf⟩:=Qai HX2.out
  go_wp2
  refine bodyPost_ret (v:=.agg #[.int .i64 15,.string ⟨#[]⟩,.slice none 0 0,.slice none 0 0]) (by simp [results,Tryz.results101,go_sem, *]) rfl ?_;exact Qa3 (15) ⟨#[]⟩ (by decide) (by omega) HB.out HR2.out HD2.out
 ·have hq2:decide (q=0)=false:=xR hq;have hq3:(q==0)=false:=by simpa using hq
  obtain ⟨x0,x1,x2,x3,xl,xf⟩:=Qai HX2.out
  go_wp2
  refine bodyPost_ret (v:=.agg #[.int .i64 10,.string ⟨#[51]⟩,.slice none 0 0,.slice none 0 0]) (by simp [results,Tryz.results101,go_sem, *]) rfl ?_;exact Qa3 (10) ⟨#[51]⟩ (by decide) (by omega) HB.out HR2.out HD2.out
theorem e0_12 (B:Nat) (w:World) (hd:DiceAt B w) (hn:Qff B w 14 12) :
  Calls Tryz.prog 101 #[.pointer (some ⟨B,0,none⟩),.int .i64 0] w (Qcb B 1 w):=by
 have HB:=hQ hd.lt;have HB0:=hQ ((xC w.heap.size w).alloc (xA _) (.cells #[.int .i64 0,.string ⟨#[]⟩,.slice none 0 0,.slice none 0 0] 25));have HX0:=hQ (xH w (.cells #[.int .i64 0,.string ⟨#[]⟩,.slice none 0 0,.slice none 0 0] 25));have HD0:=hQ (hd.keep HB0.out);have HR0:=hQ (Rest1.below (g:=B) HB0.out);have HN:=hQ (hn (w.alloc (.cells #[.int .i64 0,.string ⟨#[]⟩,.slice none 0 0,.slice none 0 0] 25)) fun k hk=>HB0.out.block k (by have:=HB.out;omega));clear hd hn
 go_enter Tryz.func101,Tryz.ntmps101
 go_wp2_with fail
 go_at_call 42;refine HN.out.mono ?_;rintro e w1 ⟨rfl,hrest,hd1⟩;have HD1:=hQ hd1;have HR1:=hQ (HR0.out.trans hrest);have HX1:=hQ ((hrest.block w.heap.size (Qaa HX0.out) (by have:=HB.out;omega)).trans HX0.out);have HS1:=hQ (show w.heap.size+1≤w1.heap.size from Qaa HX1.out);clear hrest hd1;go_wp2_with fail
 go_at_call 99;refine (Qch B 3 [(⟨#[120]⟩:ByteArray),(⟨#[121]⟩:ByteArray),(⟨#[122]⟩:ByteArray)] _ w1 HD1.out rfl rfl (by decide) (by decide) (by decide)).mono ?_;rintro e w2 ⟨p,rfl,hp,hrest,hd1⟩;have HD2:=hQ hd1;have HR2:=hQ (HR1.out.trans hrest);have HX2:=hQ ((hrest.block w.heap.size (Qaa HX1.out) (by have:=HB.out;omega)).trans HX1.out);have HS2:=hQ (show w.heap.size+1≤w2.heap.size from Qaa HX2.out);have HP:=hQ hp;clear hrest hd1 hp;obtain ⟨x0,x1,x2,x3,xl,xf⟩:=Qai HX2.out
 go_wp2
 refine bodyPost_ret (v:=.agg #[.int .i64 12,.string p,.slice none 0 0,.slice none 0 0]) (by simp [results,Tryz.results101,go_sem, *]) rfl ?_;exact Qa3 (12) p HP.out (by omega) HB.out HR2.out HD2.out
theorem e0_13 (B:Nat) (w:World) (hd:DiceAt B w) (hn:Qff B w 14 13) :
  Calls Tryz.prog 101 #[.pointer (some ⟨B,0,none⟩),.int .i64 0] w (Qcb B 1 w):=by
 have HB:=hQ hd.lt;have HB0:=hQ ((xC w.heap.size w).alloc (xA _) (.cells #[.int .i64 0,.string ⟨#[]⟩,.slice none 0 0,.slice none 0 0] 25));have HX0:=hQ (xH w (.cells #[.int .i64 0,.string ⟨#[]⟩,.slice none 0 0,.slice none 0 0] 25));have HD0:=hQ (hd.keep HB0.out);have HR0:=hQ (Rest1.below (g:=B) HB0.out);have HN:=hQ (hn (w.alloc (.cells #[.int .i64 0,.string ⟨#[]⟩,.slice none 0 0,.slice none 0 0] 25)) fun k hk=>HB0.out.block k (by have:=HB.out;omega));clear hd hn
 go_enter Tryz.func101,Tryz.ntmps101
 go_wp2_with fail
 go_at_call 42;refine HN.out.mono ?_;rintro e w1 ⟨rfl,hrest,hd1⟩;have HD1:=hQ hd1;have HR1:=hQ (HR0.out.trans hrest);have HX1:=hQ ((hrest.block w.heap.size (Qaa HX0.out) (by have:=HB.out;omega)).trans HX0.out);have HS1:=hQ (show w.heap.size+1≤w1.heap.size from Qaa HX1.out);clear hrest hd1;go_wp2_with fail
 go_at_call 99;refine (Qch B 3 [(⟨#[120]⟩:ByteArray),(⟨#[121]⟩:ByteArray),(⟨#[122]⟩:ByteArray)] _ w1 HD1.out rfl rfl (by decide) (by decide) (by decide)).mono ?_;rintro e w2 ⟨p,rfl,hp,hrest,hd1⟩;have HD2:=hQ hd1;have HR2:=hQ (HR1.out.trans hrest);have HX2:=hQ ((hrest.block w.heap.size (Qaa HX1.out) (by have:=HB.out;omega)).trans HX1.out);have HS2:=hQ (show w.heap.size+1≤w2.heap.size from Qaa HX2.out);have HP:=hQ hp;clear hrest hd1 hp;obtain ⟨x0,x1,x2,x3,xl,xf⟩:=Qai HX2.out
 go_wp2
 refine bodyPost_ret (v:=.agg #[.int .i64 12,.string p,.slice none 0 0,.slice none 0 0]) (by simp [results,Tryz.results101,go_sem, *]) rfl ?_;exact Qa3 (12) p HP.out (by omega) HB.out HR2.out HD2.out
theorem Quz (B:Nat) (d:Int) (n:Nat) (ih:∀ w,DiceAt B w→Calls Tryz.prog 101 #[.pointer (some ⟨B,0,none⟩),.int .i64 d] w (Qcb B n w)) (w:World) (hd:DiceAt B w) :
  Calls Tryz.prog 140 #[.pointer (some ⟨B,0,none⟩),.int .i64 d] w (Qcb B (n+1) w):=by
 have HB:=hQ hd.lt;have HB0:=hQ ((xC w.heap.size w).alloc (xA _) (.cells #[.int .i64 0,.string ⟨#[]⟩,.slice none 0 0,.slice none 0 0] 25));have HX0:=hQ (xH w (.cells #[.int .i64 0,.string ⟨#[]⟩,.slice none 0 0,.slice none 0 0] 25));have HD0:=hQ (hd.keep HB0.out);have HR0:=hQ (Rest1.below (g:=B) HB0.out);have IH:=hQ ih;clear hd ih
 go_enter Tryz.func140,Tryz.ntmps140
 go_wp2_with fail
 go_at_call 101;refine (IH.out _ HD0.out).mono ?_;rintro e w1 ⟨t,u,rfl,ht,hz,hy,hrest,hd1⟩;have HD1:=hQ hd1;have HR1:=hQ (HR0.out.trans hrest);have HX1:=hQ ((hrest.block w.heap.size (Qaa HX0.out) (by have:=HB.out;omega)).trans HX0.out);have HS1:=hQ (show w.heap.size+1≤w1.heap.size from Qaa HX1.out);have HT:=hQ (Qje (lo:=w.heap.size+1) ht (by simp));have HZ1:=hQ hz;have HY1:=hQ hy;clear hrest hd1 ht hz hy;go_wp2_with fail
 go_at_call 93;refine (Qco _ _).mono ?_;rintro e w2 ⟨rfl,rfl⟩;obtain ⟨x0,x1,x2,x3,xl,xf⟩:=Qai HX1.out
 cases hu:Qim u.kind
 ·go_wp2
  refine bodyPost_ret (v:=.agg #[.int .i64 22,.string ⟨#[]⟩,.slice none 0 0,.slice (some ⟨w1.heap.size+1,0,none⟩) 1 1]) (by simp [results,Tryz.results140,go_sem, *]) rfl ?_;exact Qxf (n:=n+1) (ks:=[t]) (us:=[u]) _ 22 ⟨#[]⟩ (by decide) (Qg5 HT.out) (by rw [Qbm,HY1.out,Qbm];rfl) (by rw [Qaq,Qaq];have:=HZ1.out;omega) HB.out HR1.out HD1.out HS1.out 1 rfl
 ·go_wp2
  refine bodyPost_ret (v:=.agg #[.int .i64 u.kind,.string u.text,.slice u.la u.ll u.lc,.slice u.ka u.kl u.kc]) (by simp [results,Tryz.results140,go_sem, *]) rfl ?_;exact Zbe _ HT.out (by have:=HZ1.out;omega) HY1.out HB.out HR1.out HD1.out
theorem Ze9 (B:Nat) (w:World) (hd:DiceAt B w):Calls Tryz.prog 101 #[.pointer (some ⟨B,0,none⟩),.int .i64 0] w (Qcb B 1 w):=by
 obtain ⟨r,h0,h1,hn⟩:=Qux B 14 w hd (by decide) (by decide);have hr:r=0∨r=1∨r=2∨r=3∨r=4∨r=5∨r=6∨r=7∨r=8∨r=9∨r=10∨r=11∨r=12∨r=13:=by omega
 rcases hr with rfl | rfl | rfl | rfl | rfl | rfl | rfl | rfl | rfl | rfl | rfl | rfl | rfl | rfl
 ·exact e0_0 B w hd hn
 ·exact e0_1 B w hd hn
 ·exact e0_2 B w hd hn
 ·exact e0_3 B w hd hn
 ·exact e0_4 B w hd hn
 ·exact e0_5 B w hd hn
 ·exact e0_6 B w hd hn
 ·exact e0_7 B w hd hn
 ·exact e0_8 B w hd hn
 ·exact e0_9 B w hd hn
 ·exact e0_10 B w hd hn
 ·exact e0_11 B w hd hn
 ·exact e0_12 B w hd hn
 ·exact e0_13 B w hd hn
theorem Qm6 (B:Nat) (d:Int) (n:Nat) (h1:1≤d) (h3:d≤3) (hn1:1≤n) (ih:∀ w,DiceAt B w→Calls Tryz.prog 101 #[.pointer (some ⟨B,0,none⟩),.int .i64 (d-1)] w (Qcb B n w)) (w:World) (hd:DiceAt B w):Calls Tryz.prog 101 #[.pointer (some ⟨B,0,none⟩),.int .i64 d] w (Qcb B (3*n+6) w):=by
 obtain ⟨r,h0,h2,hn⟩:=Qux B 14 w hd (by decide) (by decide);have hr:r=0∨r=1∨r=2∨r=3∨r=4∨r=5∨r=6∨r=7∨r=8∨r=9∨r=10∨r=11∨r=12∨r=13:=by omega
 rcases hr with rfl | rfl | rfl | rfl | rfl | rfl | rfl | rfl | rfl | rfl | rfl | rfl | rfl | rfl
 ·exact es_0 B d n h1 h3 ih w hd hn
 ·exact es_1 B d n h1 h3 ih w hd hn
 ·exact es_2 B d n h1 h3 ih w hd hn
 ·exact es_3 B d n h1 h3 ih w hd hn
 ·exact es_4 B d n h1 h3 ih w hd hn
 ·exact es_5 B d n h1 h3 ih w hd hn
 ·exact es_6 B d n h1 h3 ih w hd hn
 ·exact es_7 B d n h1 h3 ih w hd hn
 ·exact es_8 B d n h1 h3 ih w hd hn
 ·exact es_9 B d n h1 h3 ih w hd hn
 ·exact es_10 B d n h1 h3 ih w hd hn
 ·exact es_11 B d n h1 h3 ih w hd hn
 ·exact es_12 B d n h1 h3 ih (Quz B (d-1) n ih) (Quz B 0 1 (Ze9 B)) hn1 w hd hn
 ·exact es_13 B d n h1 h3 ih w hd hn
theorem Zij (B:Nat) (w:World) (hd:DiceAt B w):Calls Tryz.prog 101 #[.pointer (some ⟨B,0,none⟩),.int .i64 3] w (Qcb B 105 w) :=
 Qm6 B 3 33 (by decide) (by decide) (by decide) (fun w hd=>Qm6 B 2 9 (by decide) (by decide) (by decide) (fun w hd=>Qm6 B 1 1 (by decide) (by decide) (by decide) (fun w hd=>Ze9 B w hd) w hd) w hd) w hd
end Go.Proofs.YtfjpemdejoejbaaGreat
