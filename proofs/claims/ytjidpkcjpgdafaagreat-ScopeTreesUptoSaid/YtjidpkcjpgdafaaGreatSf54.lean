/- Part 54 -/
import Derived.Test.YtjidpkcjpgdafaaGreatSf53
set_option maxRecDepth 100000
set_option maxHeartbeats 4000000
namespace Go.Proofs.YtjidpkcjpgdafaaGreat
open Go.RowKit Go.Shelf
theorem Qq0 (S:Nat→Prop) (t:Tr) (v:TV) (A:Option Addr) (c:Nat) (zs:List Int) (x:ByteArray) (w:World) (h:TrAt S w t v) (_hA:IntsAt w A zs) (_hcz:zs.length≤c) (hc:Qml t≤1048576) (hd:200<Qam t∨60<zs.length) :
  Calls Tryz.prog 9 #[.agg #[.int .i64 v.kind,.string v.text,.slice v.la v.ll v.lc,.slice v.ka v.kl v.kc],.slice A zs.length c,.string x] w fun e w'=>e = .returned (.bool true)∧Below w.heap.size w w':=by
 have HB0:=hQ ((xC w.heap.size w).alloc (xA _) (trO v))
 have HT:=hQ (h.keep HB0.out)
 have HX:=hQ (xH w (trO v))
 have HS:=hQ (show Qam t≤140737488355328 from by have:=Qqd t;omega)
 have k0:=Qaa HX.out 0 _ rfl
 have k1:=Qaa HX.out 1 _ rfl
 have k2:=Qaa HX.out 2 _ rfl
 have k3:=Qaa HX.out 3 _ rfl
 clear h hc
 by_cases h1:200<Qam t
 ·have d1:=xS h1
  have e1:¬ (Qam t:Int)≤200:=by omega
  clear hd
  go_enter Tryz.func9,Tryz.ntmps9
  go_wp2_with (first
   | (go_at_call 14;refine (Qkf (SizeOf.sizeOf t) S t v _ (xA _) HT.out HS.out).mono ?_;rintro e w1 ⟨rfl,hb1⟩;have HB1:=hQ (HB0.out.trans (hb1.mono HB0.out.size));clear hb1)
   | (go_at_call 32;refine (Qii _).mono ?_;rintro e w2 ⟨rfl,hb2⟩;have HB2:=hQ (HB1.out.trans (hb2.mono HB1.out.size));clear hb2))
  go_ret
  exact ⟨rfl,HB2.out⟩
 ·have d1:=xR h1
  have h2:60<zs.length:=by omega
  have d2:=xS h2
  have e1:(Qam t:Int)≤200:=by omega
  have e2:¬ (zs.length:Int)≤60:=by omega
  clear hd
  go_enter Tryz.func9,Tryz.ntmps9
  go_wp2_with (first
   | (go_at_call 14;refine (Qkf (SizeOf.sizeOf t) S t v _ (xA _) HT.out HS.out).mono ?_;rintro e w1 ⟨rfl,hb1⟩;have HB1:=hQ (HB0.out.trans (hb1.mono HB0.out.size));clear hb1)
   | (go_at_call 32;refine (Qii _).mono ?_;rintro e w2 ⟨rfl,hb2⟩;have HB2:=hQ (HB1.out.trans (hb2.mono HB1.out.size));clear hb2))
  go_ret
  exact ⟨rfl,HB2.out⟩
theorem Qvc (S:Nat→Prop) (t:Tr) (v:TV) (A:Option Addr) (c:Nat) (zs:List Int) (x:ByteArray) (w:World) (h:TrAt S w t v) (hA:IntsAt w A zs) (hcz:zs.length≤c) (hc:Qml t≤1048576) (hd:Qam t≤200) (hl:zs.length≤60) :
  Calls Tryz.prog 9 #[.agg #[.int .i64 v.kind,.string v.text,.slice v.la v.ll v.lc,.slice v.ka v.kl v.kc],.slice A zs.length c,.string x] w fun e w'=>e = .returned (.bool true)∧Below w.heap.size w w':=by
 have HB0:=hQ ((xC w.heap.size w).alloc (xA _) (trO v))
 have HT0:=hQ (h.keep HB0.out)
 have HI0:=hQ (hA.keep HB0.out)
 have HX0:=hQ (xH w (trO v))
 have HS:=hQ (show Qam t≤140737488355328 from by omega)
 have HZ:=hQ hd
 have HC:=hQ hcz
 have HL:=hQ (show zs.length≤10000 from by omega)
 have HF:=hQ (Qtt t hc)
 have HM:=hQ (Qnl t hc)
 have HW:=hQ (Qoc t hc)
 have HVL:=hQ (show (Qqn t zs).length≤140737488355328 from by
  unfold Qqn
  have h1:=Qiw ((Qas t zs).map (·.1))
  rw [List.length_map] at h1
  have h2:=Qsj t zs (by omega) (by omega)
  omega)
 obtain ⟨n,hn⟩:∃ n,n=(Qgs t).length:=⟨_,rfl⟩
 have HN:=hQ hn
 have HNL:=hQ (show n≤352 from by rw [hn];have h1:=Qxc (t:=t);omega)
 obtain ⟨qb,hqb⟩:∃ q,isB (Qcc (Qas t zs) x)=q:=⟨_,rfl⟩
 obtain ⟨rp,hrp⟩:∃ q,(Qcc (Qas t zs) x).getD [] = q:=⟨_,rfl⟩
 have HQB:=hQ hqb
 have HRP:=hQ hrp
 have d1:=xR (show ¬ 200<Qam t by omega)
 have d2:=xR (show ¬ 60<zs.length by omega)
 have h1:Qam t≤200:=hd
 have e1:(Qam t:Int)≤200:=by omega
 have e2:(zs.length:Int)≤60:=by omega
 have h2:zs.length≤60:=hl
 have k0:(w.alloc (trO v)).cell? ⟨w.heap.size,0,none⟩=some (.int .i64 v.kind):=Qaa HX0.out 0 _ rfl
 have k1:(w.alloc (trO v)).cell? ⟨w.heap.size,1,none⟩=some (.string v.text):=Qaa HX0.out 1 _ rfl
 have k2:(w.alloc (trO v)).cell? ⟨w.heap.size,2,none⟩=some (.slice v.la v.ll v.lc):=Qaa HX0.out 2 _ rfl
 have k3:(w.alloc (trO v)).cell? ⟨w.heap.size,3,none⟩=some (.slice v.ka v.kl v.kc):=Qaa HX0.out 3 _ rfl
 have hbl:=Qab HX0.out
 clear h hA hc hcz hn hqb hrp hd hl
 go_enter Tryz.func9,Tryz.ntmps9
 go_wp2_with (go_at_call 14;refine (Qkf (SizeOf.sizeOf t) S t v _ (xA _) HT0.out HS.out).mono ?_;rintro e w1 ⟨rfl,hb1⟩;have hxx:=(hb1.block w.heap.size (Qab HX0.out)).trans HX0.out;have HX1:=hQ hxx;have HB1:=hQ (HB0.out.trans (hb1.mono HB0.out.size));have HT1:=hQ (HT0.out.keep hb1);have HI1:=hQ (HI0.out.keep hb1);clear k0 k1 k2 k3 hbl;have k0:w1.cell? ⟨w.heap.size,0,none⟩=some (.int .i64 v.kind):=Qaa hxx 0 _ rfl;have k1:w1.cell? ⟨w.heap.size,1,none⟩=some (.string v.text):=Qaa hxx 1 _ rfl;have k2:w1.cell? ⟨w.heap.size,2,none⟩=some (.slice v.la v.ll v.lc):=Qaa hxx 2 _ rfl;have k3:w1.cell? ⟨w.heap.size,3,none⟩=some (.slice v.ka v.kl v.kc):=Qaa hxx 3 _ rfl;have hbl:=Qab hxx;clear hxx;clear hb1)
 go_at_call 33
 refine (Qlt S t v A c zs x w1 HT1.out HM.out HW.out (by have:=HZ.out;omega) HI1.out HL.out HC.out).mono ?_
 intro e w2 hp2
 obtain ⟨BA,bc,he,hbi,hbn,hb2⟩:=hp2.both
 rw [HQB.out,HRP.out] at he
 rw [HRP.out] at hbi hbn
 subst he
 have HBI:=hQ hbi
 have HBN:=hQ hbn
 have hxx:=(hb2.block w.heap.size (Qab HX1.out)).trans HX1.out
 have HX2:=hQ hxx
 have HB2:=hQ (HB1.out.trans (hb2.mono HB1.out.size))
 have HT2:=hQ (HT1.out.keep hb2)
 have HI2:=hQ (HI1.out.keep hb2)
 clear k0 k1 k2 k3 hbl
 have k0:w2.cell? ⟨w.heap.size,0,none⟩=some (.int .i64 v.kind):=Qaa hxx 0 _ rfl
 have k1:w2.cell? ⟨w.heap.size,1,none⟩=some (.string v.text):=Qaa hxx 1 _ rfl
 have k2:w2.cell? ⟨w.heap.size,2,none⟩=some (.slice v.la v.ll v.lc):=Qaa hxx 2 _ rfl
 have k3:w2.cell? ⟨w.heap.size,3,none⟩=some (.slice v.ka v.kl v.kc):=Qaa hxx 3 _ rfl
 have hbl:=Qab hxx
 clear hxx
 clear hp2 hbi hbn hb2
 go_wp2_with fail
 go_at_call 34
 refine (Qi5 S t v A c zs x w2 HT2.out HW.out (by have:=HZ.out;omega) HI2.out HL.out HC.out).mono ?_
 intro e w3 hp3
 obtain ⟨CA,cc,he,hci,hcn,hb3⟩:=hp3.both
 rw [HQB.out,HRP.out] at he
 rw [HRP.out] at hci
 subst he
 have HCI:=hQ hci
 have HBI3:=hQ (HBI.out.keep hb3)
 have hxx:=(hb3.block w.heap.size (Qab HX2.out)).trans HX2.out
 have HX3:=hQ hxx
 have HB3:=hQ (HB2.out.trans (hb3.mono HB2.out.size))
 have HT3:=hQ (HT2.out.keep hb3)
 have HI3:=hQ (HI2.out.keep hb3)
 clear k0 k1 k2 k3 hbl
 have k0:w3.cell? ⟨w.heap.size,0,none⟩=some (.int .i64 v.kind):=Qaa hxx 0 _ rfl
 have k1:w3.cell? ⟨w.heap.size,1,none⟩=some (.string v.text):=Qaa hxx 1 _ rfl
 have k2:w3.cell? ⟨w.heap.size,2,none⟩=some (.slice v.la v.ll v.lc):=Qaa hxx 2 _ rfl
 have k3:w3.cell? ⟨w.heap.size,3,none⟩=some (.slice v.ka v.kl v.kc):=Qaa hxx 3 _ rfl
 have hbl:=Qab hxx
 clear hxx
 clear hp3 hci hcn hb3
 go_wp2_with fail
 go_region_held3 (fun w'=>w'.cell? ⟨w.heap.size,0,none⟩=some (.int .i64 v.kind)∧w'.cell? ⟨w.heap.size,1,none⟩=some (.string v.text)∧w'.cell? ⟨w.heap.size,2,none⟩=some (.slice v.la v.ll v.lc)∧w'.cell? ⟨w.heap.size,3,none⟩=some (.slice v.ka v.kl v.kc)) (first | with_reducible exact ⟨k0,k1,k2,k3⟩ | go_keep) (first
  | (go_at_call 32;have HBD3:=hQ (show Below w3.heap.size w3 w3.drew from (xC _ _).drew);(first | refine (Qii w3.drew).mono ?_ | refine (Qii w3).mono ?_);rintro e w4 ⟨rfl,hb⟩;have hb4:Below w3.heap.size w3 w4:=(by first | exact hb | exact HBD3.out.trans hb);clear hb;have HCI4:=hQ (HCI.out.keep hb4);have HBI4:=hQ (HBI3.out.keep hb4);have hxx:=(hb4.block w.heap.size (Qab HX3.out)).trans HX3.out;have HX4:=hQ hxx;have HB4:=hQ (HB3.out.trans (hb4.mono HB3.out.size));have HT4:=hQ (HT3.out.keep hb4);have HI4:=hQ (HI3.out.keep hb4);clear k0 k1 k2 k3 hbl;have k0:w4.cell? ⟨w.heap.size,0,none⟩=some (.int .i64 v.kind):=Qaa hxx 0 _ rfl;have k1:w4.cell? ⟨w.heap.size,1,none⟩=some (.string v.text):=Qaa hxx 1 _ rfl;have k2:w4.cell? ⟨w.heap.size,2,none⟩=some (.slice v.la v.ll v.lc):=Qaa hxx 2 _ rfl;have k3:w4.cell? ⟨w.heap.size,3,none⟩=some (.slice v.ka v.kl v.kc):=Qaa hxx 3 _ rfl;have hbl:=Qab hxx;clear hxx;clear hb4 HBD3 )
  | (go_at_call 31;have HBD4:=hQ (show Below w4.heap.size w4 w4.drew from (xC _ _).drew);(first | refine (Qfh BA CA bc cc rp rp w4.drew ((HBI4.out.keep HBD4.out)) ((HCI4.out.keep HBD4.out)) HBN.out HBN.out).mono ?_ | refine (Qfh BA CA bc cc rp rp w4 (HBI4.out) (HCI4.out) HBN.out HBN.out).mono ?_);rw [Qgb];rintro e w5 ⟨rfl,hb⟩;have hb5:Below w4.heap.size w4 w5:=(by first | exact hb | exact HBD4.out.trans hb);clear hb;have hxx:=(hb5.block w.heap.size (Qab HX4.out)).trans HX4.out;have HX5:=hQ hxx;have HB5:=hQ (HB4.out.trans (hb5.mono HB4.out.size));have HT5:=hQ (HT4.out.keep hb5);have HI5:=hQ (HI4.out.keep hb5);clear k0 k1 k2 k3 hbl;have k0:w5.cell? ⟨w.heap.size,0,none⟩=some (.int .i64 v.kind):=Qaa hxx 0 _ rfl;have k1:w5.cell? ⟨w.heap.size,1,none⟩=some (.string v.text):=Qaa hxx 1 _ rfl;have k2:w5.cell? ⟨w.heap.size,2,none⟩=some (.slice v.la v.ll v.lc):=Qaa hxx 2 _ rfl;have k3:w5.cell? ⟨w.heap.size,3,none⟩=some (.slice v.ka v.kl v.kc):=Qaa hxx 3 _ rfl;have hbl:=Qab hxx;clear hxx;clear hb5 HBD4 )
  | (go_at_call 36;have HBD5:=hQ (show Below w5.heap.size w5 w5.drew from (xC _ _).drew);(first | refine (Qfn S t v w5.drew ((HT5.out.keep HBD5.out)) HM.out HW.out (by have:=HZ.out;omega)).mono ?_ | refine (Qfn S t v w5 (HT5.out) HM.out HW.out (by have:=HZ.out;omega)).mono ?_);rintro e w6 ⟨r,xs,rfl,hvr,hva,hb⟩;have hb6:Below w5.heap.size w5 w6:=(by first | exact hb | exact HBD5.out.trans hb);clear hb;obtain ⟨VA,vc,rfl⟩:=Qbe hvr;rw [hva.1,←HN.out];have HVR:=hQ hvr;have HVA:=hQ hva;have hxx:=(hb6.block w.heap.size (Qab HX5.out)).trans HX5.out;have HX6:=hQ hxx;have HB6:=hQ (HB5.out.trans (hb6.mono HB5.out.size));have HT6:=hQ (HT5.out.keep hb6);have HI6:=hQ (HI5.out.keep hb6);clear k0 k1 k2 k3 hbl;have k0:w6.cell? ⟨w.heap.size,0,none⟩=some (.int .i64 v.kind):=Qaa hxx 0 _ rfl;have k1:w6.cell? ⟨w.heap.size,1,none⟩=some (.string v.text):=Qaa hxx 1 _ rfl;have k2:w6.cell? ⟨w.heap.size,2,none⟩=some (.slice v.la v.ll v.lc):=Qaa hxx 2 _ rfl;have k3:w6.cell? ⟨w.heap.size,3,none⟩=some (.slice v.ka v.kl v.kc):=Qaa hxx 3 _ rfl;have hbl:=Qab hxx;clear hxx;clear hb6 HBD5 hvr hva)
  | (go_at_call 37;have HBD6:=hQ (show Below w6.heap.size w6 w6.drew from (xC _ _).drew);(first | refine (Qih S t v w6.drew ((HT6.out.keep HBD6.out)) HW.out HF.out (by have:=HZ.out;omega)).mono ?_ | refine (Qih S t v w6 (HT6.out) HW.out HF.out (by have:=HZ.out;omega)).mono ?_);rintro e w7 ⟨r,ys,rfl,hvr,hva,hb⟩;have hb7:Below w6.heap.size w6 w7:=(by first | exact hb | exact HBD6.out.trans hb);clear hb;obtain ⟨RA,rc,rfl⟩:=Qbe hvr;rw [hva.1,←HN.out];have HRR:=hQ hvr;have HRA:=hQ hva;have HB67:=hQ hb7;have hxx:=(hb7.block w.heap.size (Qab HX6.out)).trans HX6.out;have HX7:=hQ hxx;have HB7:=hQ (HB6.out.trans (hb7.mono HB6.out.size));have HT7:=hQ (HT6.out.keep hb7);have HI7:=hQ (HI6.out.keep hb7);clear k0 k1 k2 k3 hbl;have k0:w7.cell? ⟨w.heap.size,0,none⟩=some (.int .i64 v.kind):=Qaa hxx 0 _ rfl;have k1:w7.cell? ⟨w.heap.size,1,none⟩=some (.string v.text):=Qaa hxx 1 _ rfl;have k2:w7.cell? ⟨w.heap.size,2,none⟩=some (.slice v.la v.ll v.lc):=Qaa hxx 2 _ rfl;have k3:w7.cell? ⟨w.heap.size,3,none⟩=some (.slice v.ka v.kl v.kc):=Qaa hxx 3 _ rfl;have hbl:=Qab hxx;clear hxx;clear hb7 HBD6 hvr hva)
  | (go_at_call 35;have HBD7:=hQ (show Below w7.heap.size w7 w7.drew from (xC _ _).drew);(first | refine (Qqy VA RA vc rc _ _ _ _ xs ys (Qgs t) n w7.drew HN.out.symm (Qod HVR.out HB67.out) (HVA.out.step fun v p h=>h.keep HB67.out) HRR.out HRA.out (by have:=HNL.out;omega)).mono ?_ | refine (Qqy VA RA vc rc _ _ _ _ xs ys (Qgs t) n w7 HN.out.symm (Qod HVR.out HB67.out) (HVA.out.step fun v p h=>h.keep HB67.out) HRR.out HRA.out (by have:=HNL.out;omega)).mono ?_);rintro e w8 ⟨rfl,hb⟩;have hb8:Below w7.heap.size w7 w8:=(by first | exact hb | exact HBD7.out.trans hb);clear hb;have hxx:=(hb8.block w.heap.size (Qab HX7.out)).trans HX7.out;have HX8:=hQ hxx;have HB8:=hQ (HB7.out.trans (hb8.mono HB7.out.size));have HT8:=hQ (HT7.out.keep hb8);have HI8:=hQ (HI7.out.keep hb8);clear k0 k1 k2 k3 hbl;have k0:w8.cell? ⟨w.heap.size,0,none⟩=some (.int .i64 v.kind):=Qaa hxx 0 _ rfl;have k1:w8.cell? ⟨w.heap.size,1,none⟩=some (.string v.text):=Qaa hxx 1 _ rfl;have k2:w8.cell? ⟨w.heap.size,2,none⟩=some (.slice v.la v.ll v.lc):=Qaa hxx 2 _ rfl;have k3:w8.cell? ⟨w.heap.size,3,none⟩=some (.slice v.ka v.kl v.kc):=Qaa hxx 3 _ rfl;have hbl:=Qab hxx;clear hxx;clear hb8 HBD7 )
  | (go_at_call 39;have HBD8:=hQ (show Below w8.heap.size w8 w8.drew from (xC _ _).drew);(first | refine (Qhk S t v A c zs w8.drew ((HT8.out.keep HBD8.out)) HM.out HW.out (by have:=HZ.out;omega) ((HI8.out.keep HBD8.out)) HL.out HC.out).mono ?_ | refine (Qhk S t v A c zs w8 (HT8.out) HM.out HW.out (by have:=HZ.out;omega) (HI8.out) HL.out HC.out).mono ?_);rintro e w9 ⟨r,rfl,hr,hb⟩;have hb9:Below w8.heap.size w8 w9:=(by first | exact hb | exact HBD8.out.trans hb);clear hb;obtain ⟨NA,nc,rfl⟩:=Qbe hr;have HNR:=hQ hr.strs;have hxx:=(hb9.block w.heap.size (Qab HX8.out)).trans HX8.out;have HX9:=hQ hxx;have HB9:=hQ (HB8.out.trans (hb9.mono HB8.out.size));have HT9:=hQ (HT8.out.keep hb9);have HI9:=hQ (HI8.out.keep hb9);clear k0 k1 k2 k3 hbl;have k0:w9.cell? ⟨w.heap.size,0,none⟩=some (.int .i64 v.kind):=Qaa hxx 0 _ rfl;have k1:w9.cell? ⟨w.heap.size,1,none⟩=some (.string v.text):=Qaa hxx 1 _ rfl;have k2:w9.cell? ⟨w.heap.size,2,none⟩=some (.slice v.la v.ll v.lc):=Qaa hxx 2 _ rfl;have k3:w9.cell? ⟨w.heap.size,3,none⟩=some (.slice v.ka v.kl v.kc):=Qaa hxx 3 _ rfl;have hbl:=Qab hxx;clear hxx;clear hb9 HBD8 hr)
  | (go_at_call 40;have HBD9:=hQ (show Below w9.heap.size w9 w9.drew from (xC _ _).drew);(first | refine (Qky S t v A c zs w9.drew ((HT9.out.keep HBD9.out)) HW.out (by have:=HZ.out;omega) ((HI9.out.keep HBD9.out)) HL.out HC.out).mono ?_ | refine (Qky S t v A c zs w9 (HT9.out) HW.out (by have:=HZ.out;omega) (HI9.out) HL.out HC.out).mono ?_);rintro e w10 ⟨r,rfl,hr,hb⟩;have hb10:Below w9.heap.size w9 w10:=(by first | exact hb | exact HBD9.out.trans hb);clear hb;obtain ⟨QA,qc,rfl⟩:=Qbe hr;have HQR:=hQ hr.strs;have HNR1:=hQ (HNR.out.keep hb10);have hxx:=(hb10.block w.heap.size (Qab HX9.out)).trans HX9.out;have HX10:=hQ hxx;have HB10:=hQ (HB9.out.trans (hb10.mono HB9.out.size));have HT10:=hQ (HT9.out.keep hb10);have HI10:=hQ (HI9.out.keep hb10);clear k0 k1 k2 k3 hbl;have k0:w10.cell? ⟨w.heap.size,0,none⟩=some (.int .i64 v.kind):=Qaa hxx 0 _ rfl;have k1:w10.cell? ⟨w.heap.size,1,none⟩=some (.string v.text):=Qaa hxx 1 _ rfl;have k2:w10.cell? ⟨w.heap.size,2,none⟩=some (.slice v.la v.ll v.lc):=Qaa hxx 2 _ rfl;have k3:w10.cell? ⟨w.heap.size,3,none⟩=some (.slice v.ka v.kl v.kc):=Qaa hxx 3 _ rfl;have hbl:=Qab hxx;clear hxx;clear hb10 HBD9 hr)
  | (go_at_call 38;have HBD10:=hQ (show Below w10.heap.size w10 w10.drew from (xC _ _).drew);(first | refine (Qln _ _ NA QA nc qc (Qqn t zs) (Qqn t zs) w10.drew HNR1.out HQR.out HVL.out).mono ?_ | refine (Qln _ _ NA QA nc qc (Qqn t zs) (Qqn t zs) w10 HNR1.out HQR.out HVL.out).mono ?_);rw [Ql3];rintro e w11 ⟨rfl,hb⟩;have hb11:Below w10.heap.size w10 w11:=(by first | exact hb | exact HBD10.out.trans hb);clear hb;have hxx:=(hb11.block w.heap.size (Qab HX10.out)).trans HX10.out;have HX11:=hQ hxx;have HB11:=hQ (HB10.out.trans (hb11.mono HB10.out.size));have HT11:=hQ (HT10.out.keep hb11);have HI11:=hQ (HI10.out.keep hb11);clear k0 k1 k2 k3 hbl;have k0:w11.cell? ⟨w.heap.size,0,none⟩=some (.int .i64 v.kind):=Qaa hxx 0 _ rfl;have k1:w11.cell? ⟨w.heap.size,1,none⟩=some (.string v.text):=Qaa hxx 1 _ rfl;have k2:w11.cell? ⟨w.heap.size,2,none⟩=some (.slice v.la v.ll v.lc):=Qaa hxx 2 _ rfl;have k3:w11.cell? ⟨w.heap.size,3,none⟩=some (.slice v.ka v.kl v.kc):=Qaa hxx 3 _ rfl;have hbl:=Qab hxx;clear hxx;clear hb11 HBD10 ))
 all_goals
  go_wp2_with fail
  go_ret
  exact ⟨Qag (by simp),HB11.out⟩
theorem Qsk (S:Nat→Prop) (t:Tr) (v:TV) (A:Option Addr) (c:Nat) (zs:List Int) (x:ByteArray) (w:World) (h:TrAt S w t v) (hA:IntsAt w A zs) (hcz:zs.length≤c) (hc:Qml t≤1048576) :
  Calls Tryz.prog 9 #[.agg #[.int .i64 v.kind,.string v.text,.slice v.la v.ll v.lc,.slice v.ka v.kl v.kc],.slice A zs.length c,.string x] w fun e w'=>e = .returned (.bool true)∧Below w.heap.size w w':=by
 by_cases hd:Qam t≤200
 ·by_cases hl:zs.length≤60
  ·exact Qvc S t v A c zs x w h hA hcz hc hd hl
  ·exact Qq0 S t v A c zs x w h hA hcz hc (.inr (by omega))
 ·exact Qq0 S t v A c zs x w h hA hcz hc (.inl (by omega))
end Go.Proofs.YtjidpkcjpgdafaaGreat
