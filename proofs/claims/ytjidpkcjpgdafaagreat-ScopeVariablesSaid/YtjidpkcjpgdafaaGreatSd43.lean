/- Part 43 -/
import Derived.Test.YtjidpkcjpgdafaaGreatSd41
set_option maxRecDepth 100000
set_option maxHeartbeats 4000000
namespace Go.Proofs.YtjidpkcjpgdafaaGreat
open Go.RowKit Go.Shelf
theorem es_9 (B:Nat) (d:Int) (n:Nat) (h1:1≤d) (h3:d≤3) (ih:∀ w,DiceAt B w→Calls Tryz.prog 153 #[.pointer (some ⟨B,0,none⟩),.int .i64 (d-1)] w (Qb8 B n w)) (w:World) (hd:DiceAt B w) (hn:Qfb B w 14 9) :
  Calls Tryz.prog 153 #[.pointer (some ⟨B,0,none⟩),.int .i64 d] w (Qb8 B (3*n+6) w):=by
 have HB:=hQ hd.lt
 have HB0:=hQ ((xC w.heap.size w).alloc (xA _) (.cells #[.int .i64 0,.string ⟨#[]⟩,.slice none 0 0,.slice none 0 0] 29))
 have HX0:=hQ (xH w (.cells #[.int .i64 0,.string ⟨#[]⟩,.slice none 0 0,.slice none 0 0] 29))
 have HD0:=hQ (hd.keep HB0.out)
 have HR0:=hQ (Rest1.below (g:=B) HB0.out)
 have HN:=hQ (hn (w.alloc (.cells #[.int .i64 0,.string ⟨#[]⟩,.slice none 0 0,.slice none 0 0] 29)) fun k hk=>HB0.out.block k (by have:=HB.out;omega))
 have IH:=hQ ih
 clear hd hn ih
 go_enter Tryz.func153,Tryz.ntmps153
 go_wp2_with fail
 go_at_call 61
 refine HN.out.mono ?_
 rintro e w1 ⟨rfl,hrest,hd1⟩
 have HD1:=hQ hd1
 have HR1:=hQ (HR0.out.trans hrest)
 have HX1:=hQ ((hrest.block w.heap.size (Qaa HX0.out) (by have:=HB.out;omega)).trans HX0.out)
 have HS1:=hQ (show w.heap.size+1≤w1.heap.size from Qaa HX1.out)
 clear hrest hd1
 go_wp2_with fail
 go_at_call 153
 refine (IH.out w1 HD1.out).mono ?_
 rintro e w2 ⟨t1,u1,rfl,ht,hz,hy,hrest,hd1⟩
 have HD2:=hQ hd1
 have HR2:=hQ (HR1.out.trans hrest)
 have HX2:=hQ ((hrest.block w.heap.size (Qaa HX1.out) (by have:=HB.out;omega)).trans HX1.out)
 have HS2:=hQ (show w.heap.size+1≤w2.heap.size from Qaa HX2.out)
 have HZ1:=hQ hz
 have HY1:=hQ hy
 have HK1:=hQ ((KidsFr.nil (w.heap.size+1) w1).more hrest (by have:=HB.out;omega) ht HS1.out)
 clear hrest hd1 ht hz hy
 go_wp2_with fail
 go_at_call 153
 refine (IH.out w2 HD2.out).mono ?_
 rintro e w3 ⟨t2,u2,rfl,ht,hz,hy,hrest,hd1⟩
 have HD3:=hQ hd1
 have HR3:=hQ (HR2.out.trans hrest)
 have HX3:=hQ ((hrest.block w.heap.size (Qaa HX2.out) (by have:=HB.out;omega)).trans HX2.out)
 have HS3:=hQ (show w.heap.size+1≤w3.heap.size from Qaa HX3.out)
 have HZ2:=hQ hz
 have HY2:=hQ hy
 have HK2:=hQ ((HK1.out).more hrest (by have:=HB.out;omega) ht HS2.out)
 clear hrest hd1 ht hz hy
 go_wp2_with fail
 go_at_call 153
 refine (IH.out w3 HD3.out).mono ?_
 rintro e w4 ⟨t3,u3,rfl,ht,hz,hy,hrest,hd1⟩
 have HD4:=hQ hd1
 have HR4:=hQ (HR3.out.trans hrest)
 have HX4:=hQ ((hrest.block w.heap.size (Qaa HX3.out) (by have:=HB.out;omega)).trans HX3.out)
 have HS4:=hQ (show w.heap.size+1≤w4.heap.size from Qaa HX4.out)
 have HZ3:=hQ hz
 have HY3:=hQ hy
 have HK3:=hQ ((HK2.out).more hrest (by have:=HB.out;omega) ht HS3.out)
 clear hrest hd1 ht hz hy
 obtain ⟨x0,x1,x2,x3,xl,xf⟩:=Qai HX4.out
 go_wp2
 refine bodyPost_ret (v:=.agg #[.int .i64 19,.string ⟨#[]⟩,.slice none 0 0,.slice (some ⟨w4.heap.size,0,none⟩) 3 3]) (by simp [results,Tryz.results153,go_sem, *]) rfl ?_
 exact Qfx (n:=(3*n+6)) (ks:=[t1,t2,t3]) (us:=[u1,u2,u3]) 19 ⟨#[]⟩ (by decide) HK3.out (by rw [Qbk,HY1.out,Qbk,HY2.out,Qbk,HY3.out,Qbk];rfl) (by rw [Qap,Qap,Qap,Qap];have:=HZ1.out;have:=HZ2.out;have:=HZ3.out;omega) HB.out HR4.out HD4.out (Qaa HX4.out) 3 rfl
theorem es_10 (B:Nat) (d:Int) (n:Nat) (h1:1≤d) (h3:d≤3) (ih:∀ w,DiceAt B w→Calls Tryz.prog 153 #[.pointer (some ⟨B,0,none⟩),.int .i64 (d-1)] w (Qb8 B n w)) (w:World) (hd:DiceAt B w) (hn:Qfb B w 14 10) :
  Calls Tryz.prog 153 #[.pointer (some ⟨B,0,none⟩),.int .i64 d] w (Qb8 B (3*n+6) w):=by
 have HB:=hQ hd.lt
 have HB0:=hQ ((xC w.heap.size w).alloc (xA _) (.cells #[.int .i64 0,.string ⟨#[]⟩,.slice none 0 0,.slice none 0 0] 29))
 have HX0:=hQ (xH w (.cells #[.int .i64 0,.string ⟨#[]⟩,.slice none 0 0,.slice none 0 0] 29))
 have HD0:=hQ (hd.keep HB0.out)
 have HR0:=hQ (Rest1.below (g:=B) HB0.out)
 have HN:=hQ (hn (w.alloc (.cells #[.int .i64 0,.string ⟨#[]⟩,.slice none 0 0,.slice none 0 0] 29)) fun k hk=>HB0.out.block k (by have:=HB.out;omega))
 have IH:=hQ ih
 clear hd hn ih
 go_enter Tryz.func153,Tryz.ntmps153
 go_wp2_with fail
 go_at_call 61
 refine HN.out.mono ?_
 rintro e w1 ⟨rfl,hrest,hd1⟩
 have HD1:=hQ hd1
 have HR1:=hQ (HR0.out.trans hrest)
 have HX1:=hQ ((hrest.block w.heap.size (Qaa HX0.out) (by have:=HB.out;omega)).trans HX0.out)
 have HS1:=hQ (show w.heap.size+1≤w1.heap.size from Qaa HX1.out)
 clear hrest hd1
 go_wp2_with fail
 go_at_call 151
 refine (Qce B 3 [(⟨#[120]⟩:ByteArray),(⟨#[121]⟩:ByteArray),(⟨#[122]⟩:ByteArray)] _ w1 HD1.out rfl rfl (by decide) (by decide) (by decide)).mono ?_
 rintro e w2 ⟨p,rfl,hp,hrest,hd1⟩
 have HD2:=hQ hd1
 have HR2:=hQ (HR1.out.trans hrest)
 have HX2:=hQ ((hrest.block w.heap.size (Qaa HX1.out) (by have:=HB.out;omega)).trans HX1.out)
 have HS2:=hQ (show w.heap.size+1≤w2.heap.size from Qaa HX2.out)
 have HP:=hQ hp
 clear hrest hd1 hp
 go_wp2_with fail
 go_at_call 153
 refine (IH.out w2 HD2.out).mono ?_
 rintro e w3 ⟨t1,u1,rfl,ht,hz,hy,hrest,hd1⟩
 have HD3:=hQ hd1
 have HR3:=hQ (HR2.out.trans hrest)
 have HX3:=hQ ((hrest.block w.heap.size (Qaa HX2.out) (by have:=HB.out;omega)).trans HX2.out)
 have HS3:=hQ (show w.heap.size+1≤w3.heap.size from Qaa HX3.out)
 have HZ1:=hQ hz
 have HY1:=hQ hy
 have HK1:=hQ ((KidsFr.nil (w.heap.size+1) w2).more hrest (by have:=HB.out;omega) ht HS2.out)
 clear hrest hd1 ht hz hy
 go_wp2_with fail
 go_at_call 153
 refine (IH.out w3 HD3.out).mono ?_
 rintro e w4 ⟨t2,u2,rfl,ht,hz,hy,hrest,hd1⟩
 have HD4:=hQ hd1
 have HR4:=hQ (HR3.out.trans hrest)
 have HX4:=hQ ((hrest.block w.heap.size (Qaa HX3.out) (by have:=HB.out;omega)).trans HX3.out)
 have HS4:=hQ (show w.heap.size+1≤w4.heap.size from Qaa HX4.out)
 have HZ2:=hQ hz
 have HY2:=hQ hy
 have HK2:=hQ ((HK1.out).more hrest (by have:=HB.out;omega) ht HS3.out)
 clear hrest hd1 ht hz hy
 obtain ⟨x0,x1,x2,x3,xl,xf⟩:=Qai HX4.out
 go_wp2
 refine bodyPost_ret (v:=.agg #[.int .i64 20,.string p,.slice none 0 0,.slice (some ⟨w4.heap.size,0,none⟩) 2 2]) (by simp [results,Tryz.results153,go_sem, *]) rfl ?_
 exact Qfx (n:=(3*n+6)) (ks:=[t1,t2]) (us:=[u1,u2]) 20 p HP.out HK2.out (by rw [Qbk,HY1.out,Qbk,HY2.out,Qbk];rfl) (by rw [Qap,Qap,Qap];have:=HZ1.out;have:=HZ2.out;omega) HB.out HR4.out HD4.out (Qaa HX4.out) 2 rfl
theorem es_11 (B:Nat) (d:Int) (n:Nat) (h1:1≤d) (h3:d≤3) (ih:∀ w,DiceAt B w→Calls Tryz.prog 153 #[.pointer (some ⟨B,0,none⟩),.int .i64 (d-1)] w (Qb8 B n w)) (w:World) (hd:DiceAt B w) (hn:Qfb B w 14 11) :
  Calls Tryz.prog 153 #[.pointer (some ⟨B,0,none⟩),.int .i64 d] w (Qb8 B (3*n+6) w):=by
 have HB:=hQ hd.lt
 have HB0:=hQ ((xC w.heap.size w).alloc (xA _) (.cells #[.int .i64 0,.string ⟨#[]⟩,.slice none 0 0,.slice none 0 0] 29))
 have HX0:=hQ (xH w (.cells #[.int .i64 0,.string ⟨#[]⟩,.slice none 0 0,.slice none 0 0] 29))
 have HD0:=hQ (hd.keep HB0.out)
 have HR0:=hQ (Rest1.below (g:=B) HB0.out)
 have HN:=hQ (hn (w.alloc (.cells #[.int .i64 0,.string ⟨#[]⟩,.slice none 0 0,.slice none 0 0] 29)) fun k hk=>HB0.out.block k (by have:=HB.out;omega))
 have IH:=hQ ih
 clear hd hn ih
 go_enter Tryz.func153,Tryz.ntmps153
 go_wp2_with fail
 go_at_call 61
 refine HN.out.mono ?_
 rintro e w1 ⟨rfl,hrest,hd1⟩
 have HD1:=hQ hd1
 have HR1:=hQ (HR0.out.trans hrest)
 have HX1:=hQ ((hrest.block w.heap.size (Qaa HX0.out) (by have:=HB.out;omega)).trans HX0.out)
 have HS1:=hQ (show w.heap.size+1≤w1.heap.size from Qaa HX1.out)
 clear hrest hd1
 go_wp2_with fail
 go_at_call 151
 refine (Qce B 3 [(⟨#[120]⟩:ByteArray),(⟨#[121]⟩:ByteArray),(⟨#[122]⟩:ByteArray)] _ w1 HD1.out rfl rfl (by decide) (by decide) (by decide)).mono ?_
 rintro e w2 ⟨p,rfl,hp,hrest,hd1⟩
 have HD2:=hQ hd1
 have HR2:=hQ (HR1.out.trans hrest)
 have HX2:=hQ ((hrest.block w.heap.size (Qaa HX1.out) (by have:=HB.out;omega)).trans HX1.out)
 have HS2:=hQ (show w.heap.size+1≤w2.heap.size from Qaa HX2.out)
 have HP:=hQ hp
 clear hrest hd1 hp
 go_wp2_with fail
 go_at_call 153
 refine (IH.out w2 HD2.out).mono ?_
 rintro e w3 ⟨t1,u1,rfl,ht,hz,hy,hrest,hd1⟩
 have HD3:=hQ hd1
 have HR3:=hQ (HR2.out.trans hrest)
 have HX3:=hQ ((hrest.block w.heap.size (Qaa HX2.out) (by have:=HB.out;omega)).trans HX2.out)
 have HS3:=hQ (show w.heap.size+1≤w3.heap.size from Qaa HX3.out)
 have HZ1:=hQ hz
 have HY1:=hQ hy
 have HK1:=hQ ((KidsFr.nil (w.heap.size+1) w2).more hrest (by have:=HB.out;omega) ht HS2.out)
 clear hrest hd1 ht hz hy
 go_wp2_with fail
 go_at_call 153
 refine (IH.out w3 HD3.out).mono ?_
 rintro e w4 ⟨t2,u2,rfl,ht,hz,hy,hrest,hd1⟩
 have HD4:=hQ hd1
 have HR4:=hQ (HR3.out.trans hrest)
 have HX4:=hQ ((hrest.block w.heap.size (Qaa HX3.out) (by have:=HB.out;omega)).trans HX3.out)
 have HS4:=hQ (show w.heap.size+1≤w4.heap.size from Qaa HX4.out)
 have HZ2:=hQ hz
 have HY2:=hQ hy
 have HK2:=hQ ((HK1.out).more hrest (by have:=HB.out;omega) ht HS3.out)
 clear hrest hd1 ht hz hy
 obtain ⟨x0,x1,x2,x3,xl,xf⟩:=Qai HX4.out
 go_wp2
 refine bodyPost_ret (v:=.agg #[.int .i64 20,.string p,.slice none 0 0,.slice (some ⟨w4.heap.size,0,none⟩) 2 2]) (by simp [results,Tryz.results153,go_sem, *]) rfl ?_
 exact Qfx (n:=(3*n+6)) (ks:=[t1,t2]) (us:=[u1,u2]) 20 p HP.out HK2.out (by rw [Qbk,HY1.out,Qbk,HY2.out,Qbk];rfl) (by rw [Qap,Qap,Qap];have:=HZ1.out;have:=HZ2.out;omega) HB.out HR4.out HD4.out (Qaa HX4.out) 2 rfl
theorem es_13 (B:Nat) (d:Int) (n:Nat) (h1:1≤d) (h3:d≤3) (ih:∀ w,DiceAt B w→Calls Tryz.prog 153 #[.pointer (some ⟨B,0,none⟩),.int .i64 (d-1)] w (Qb8 B n w)) (w:World) (hd:DiceAt B w) (hn:Qfb B w 14 13) :
  Calls Tryz.prog 153 #[.pointer (some ⟨B,0,none⟩),.int .i64 d] w (Qb8 B (3*n+6) w):=by
 have HB:=hQ hd.lt
 have HB0:=hQ ((xC w.heap.size w).alloc (xA _) (.cells #[.int .i64 0,.string ⟨#[]⟩,.slice none 0 0,.slice none 0 0] 29))
 have HX0:=hQ (xH w (.cells #[.int .i64 0,.string ⟨#[]⟩,.slice none 0 0,.slice none 0 0] 29))
 have HD0:=hQ (hd.keep HB0.out)
 have HR0:=hQ (Rest1.below (g:=B) HB0.out)
 have HN:=hQ (hn (w.alloc (.cells #[.int .i64 0,.string ⟨#[]⟩,.slice none 0 0,.slice none 0 0] 29)) fun k hk=>HB0.out.block k (by have:=HB.out;omega))
 have IH:=hQ ih
 clear hd hn ih
 go_enter Tryz.func153,Tryz.ntmps153
 go_wp2_with fail
 go_at_call 61
 refine HN.out.mono ?_
 rintro e w1 ⟨rfl,hrest,hd1⟩
 have HD1:=hQ hd1
 have HR1:=hQ (HR0.out.trans hrest)
 have HX1:=hQ ((hrest.block w.heap.size (Qaa HX0.out) (by have:=HB.out;omega)).trans HX0.out)
 have HS1:=hQ (show w.heap.size+1≤w1.heap.size from Qaa HX1.out)
 clear hrest hd1
 go_wp2_with fail
 go_at_call 153
 refine (IH.out w1 HD1.out).mono ?_
 rintro e w2 ⟨t1,u1,rfl,ht,hz,hy,hrest,hd1⟩
 have HD2:=hQ hd1
 have HR2:=hQ (HR1.out.trans hrest)
 have HX2:=hQ ((hrest.block w.heap.size (Qaa HX1.out) (by have:=HB.out;omega)).trans HX1.out)
 have HS2:=hQ (show w.heap.size+1≤w2.heap.size from Qaa HX2.out)
 have HZ1:=hQ hz
 have HY1:=hQ hy
 have HK1:=hQ ((KidsFr.nil (w.heap.size+1) w1).more hrest (by have:=HB.out;omega) ht HS1.out)
 clear hrest hd1 ht hz hy
 obtain ⟨x0,x1,x2,x3,xl,xf⟩:=Qai HX2.out
 go_wp2
 refine bodyPost_ret (v:=.agg #[.int .i64 22,.string ⟨#[]⟩,.slice none 0 0,.slice (some ⟨w2.heap.size,0,none⟩) 1 1]) (by simp [results,Tryz.results153,go_sem, *]) rfl ?_
 exact Qfx (n:=(3*n+6)) (ks:=[t1]) (us:=[u1]) 22 ⟨#[]⟩ (by decide) HK1.out (by rw [Qbk,HY1.out,Qbk];rfl) (by rw [Qap,Qap];have:=HZ1.out;omega) HB.out HR2.out HD2.out (Qaa HX2.out) 1 rfl
end Go.Proofs.YtjidpkcjpgdafaaGreat
