/- Part 19 -/
import Derived.Test.YtfjpemdejoejbaaGreatTt18
set_option maxRecDepth 100000
set_option maxHeartbeats 4000000
namespace Go.Proofs.YtfjpemdejoejbaaGreat
open Go.RowKit
def Qau:List Part→ByteArray→Bool
 | [],x=>is x []
 | p :: r,x=>if p.nm=0 then Qau r x else Qba p.nm (Qag (bl x)) x
theorem Qzt {n:Nat} (h:n≤7):n=0∨n=1∨n=2∨n=3∨n=4∨n=5∨n=6∨n=7:=by omega
theorem Qik {B:Nat} (A:Option Addr) (c:Nat) (l:List Part) (v:TV) (w:World) (hp:Parts B w A l) (hl:l.length≤9) (hnm:∀ x∈l,x.nm≤7) (hs:v.text.size<maxLen):Calls Tryz.prog 95 #[.agg #[.int .i64 v.kind,.string v.text,.slice v.la v.ll v.lc,.slice v.ka v.kl v.kc],.slice A l.length c] w fun e w'=>e = .returned (.bool (Qau l v.text))∧Below w.heap.size w w':=by
 have HS:=hQ hs;have HNM:=hQ hnm;have HW0:=hQ ((xC w.heap.size w).alloc (xA _) (.cells #[.int .i64 v.kind,.string v.text,.slice v.la v.ll v.lc,.slice v.ka v.kl v.kc] 25));have HG0:=hQ (xH w (.cells #[.int .i64 v.kind,.string v.text,.slice v.la v.ll v.lc,.slice v.ka v.kl v.kc] 25));have HS0:=hQ (show (w.alloc (.cells #[.int .i64 v.kind,.string v.text,.slice v.la v.ll v.lc,.slice v.ka v.kl v.kc] 25)).heap.size=w.heap.size+1 from by simp);have hie:(v.text.toList.isEmpty)=is v.text []:=by rw [ByteArray.toList_eq];unfold is;cases v.text.data.toList <;> rfl
 have hfc:=Zbq;have hfg:=Qrr;clear hs hnm
 by_cases hne:l.length=0
 ·have HL:=hQ (List.eq_nil_of_length_eq_zero hne)
  go_enter Tryz.func95,Tryz.ntmps95
  go_wp2
  go_loopg [9] 0 (fun _ u9 wr=>u9 = .int .i64 0∧wr=w.alloc (.cells #[.int .i64 v.kind,.string v.text,.slice v.la v.ll v.lc,.slice v.ka v.kl v.kc] 25))
  case atStart=>exact ⟨rfl,rfl⟩
  case round =>
   obtain ⟨rfl,rfl⟩:=hrel
   go_wp2
   go_ret
   exact ⟨by rw [HL.out];rfl,HW0.out⟩
 ·obtain ⟨pk,cs,rfl,_,hh,hc⟩:=hp.at (by omega);have HH:=hQ ((Below.heap_alloc w (.cells #[.int .i64 v.kind,.string v.text,.slice v.la v.ll v.lc,.slice v.ka v.kl v.kc] 25) pk (Qab hh)).trans hh);have HC:=hQ hc;have HL:=hQ hl;clear hp hh hc
  go_enter Tryz.func95,Tryz.ntmps95
  go_wp2
  generalize w.alloc (.cells #[.int .i64 v.kind,.string v.text,.slice v.la v.ll v.lc,.slice v.ka v.kl v.kc] 25)=W0 at HW0 HG0 HS0 HH ⊢
  go_loopg [9] l.length (fun g u9 wr=>∃ j:Nat,u9 = .int .i64 j∧j+g=l.length∧Qau l v.text=Qau (l.drop j) v.text∧Below W0.heap.size W0 wr)
  case atStart=>exact ⟨0,rfl,by omega,rfl,xC _ _⟩
  case round =>
   obtain ⟨j,rfl,hj,hm,hb⟩:=hrel;have HJ:=hQ hj;have HM:=hQ hm;have HB:=hQ hb;clear hj hm hb;have HBW:=hQ (HW0.out.trans (HB.out.mono HW0.out.size))
   by_cases hlt:j<l.length
   ·obtain ⟨x,hx⟩:∃ x,l[j]? = some x:=⟨_,xF hlt⟩;have hc:=Qii ((HB.out.block pk (Qab HH.out)).trans HH.out) HC.out j x hx;obtain ⟨hjl,hje⟩:=xP.1 hx;have hm:=HM.out;rw [List.drop_eq_getElem_cons hjl,hje,Qau] at hm;have hn7:=HNM.out x (yA hx);obtain ⟨wd,nm,kd,lst,mst,se,co⟩:=x;have hj0:(0:Int)≤(j:Int):=by omega
    have hj1:(j:Int)<(l.length:Int):=by omega
    have hj2:(j:Int)+1≤10:=by have:=HL.out;omega
    have HLT:=hQ hlt;have HGW:=hQ ((HB.out.block w.heap.size (by rw [HS0.out];omega)).trans HG0.out);have tx:wr.cell? ⟨w.heap.size,1,none⟩=some (.string v.text):=Qaa HGW.out 1 _ rfl;have te:w.heap.size<wr.heap.size:=Qab HGW.out;clear hx hjl hje
    rcases Qzt hn7 with rfl | rfl | rfl | rfl | rfl | rfl | rfl | rfl
    ·have HM2:=hQ (show Qau l v.text=Qau (l.drop (j+1)) v.text from hm);obtain ⟨p0,p1,p2,p3,p4,p5,p6⟩:=hc
     replace p1:wr.cell? ⟨pk,j*7+1,none⟩=some .nilFunc:=p1
     clear hm tx te;have hn:=Qvr
     go_wp2
     go_roundg (gk-1)
     case measure=>have:=HJ.out;have:=HLT.out;omega
     case rel=>exact ⟨j+1,by go_num,by have:=HJ.out;have:=HLT.out;omega,HM2.out,HB.out.alloc HB.out.size _⟩
    ·have HM2:=hQ (show Qau l v.text=Qba 1 (Qag (bl v.text)) v.text from hm);obtain ⟨p0,p1,p2,p3,p4,p5,p6⟩:=hc
     replace p1:wr.cell? ⟨pk,j*7+1,none⟩=some (.func (.func 124) #[] #[]):=p1
     clear hm;have hn:=Qfw;have GX:=xH wr (.cells #[.string wd,.func (.func 124) #[] #[],.int .i64 kd,.int .i64 lst,.int .i64 mst,.bool se,.bool co] 132);have GT:=(Below.heap_alloc wr (.cells #[.string wd,.func (.func 124) #[] #[],.int .i64 kd,.int .i64 lst,.int .i64 mst,.bool se,.bool co] 132) w.heap.size te).trans HGW.out;have HBA:=hQ (HBW.out.alloc HBW.out.size (.cells #[.string wd,.func (.func 124) #[] #[],.int .i64 kd,.int .i64 lst,.int .i64 mst,.bool se,.bool co] 132));go_wp2_with fail
     generalize wr.alloc (.cells #[.string wd,.func (.func 124) #[] #[],.int .i64 kd,.int .i64 lst,.int .i64 mst,.bool se,.bool co] 132)=WA at GX GT HBA ⊢
     generalize hxb:wr.heap.size=xb at GX ⊢
     have f1:WA.cell? ⟨xb,1,none⟩=some (.func (.func 124) #[] #[]):=Qaa GX 1 _ rfl;have f2:WA.cell? ⟨w.heap.size,1,none⟩=some (.string v.text):=Qaa GT 1 _ rfl
     go_region_held3 (fun w'=>w'.cell? ⟨xb,1,none⟩=some (.func (.func 124) #[] #[])∧w'.cell? ⟨w.heap.size,1,none⟩=some (.string v.text)) (go_keep)
      (first | (go_at_call 139;refine (Qfi v.text _ HS.out).mono ?_;rintro e w2 ⟨rfl,rfl⟩) | (go_at_call 124;refine (Qoc ⟨Qag (bl v.text),⟨#[]⟩,v.text⟩ _).mono ?_;rintro e w3 ⟨rfl,hb3⟩;have HB3:=hQ hb3;have g1:=(xJ (w:=WA.drew) (a:=⟨xb,1,none⟩) (hb3.block xb (Qab GX))).trans f1;have g2:=(xJ (w:=WA.drew) (a:=⟨w.heap.size,1,none⟩) (hb3.block w.heap.size (Qab GT))).trans f2;clear hb3 f1 f2))
     all_goals
      go_wp2
      go_ret
      exact ⟨by rw [HM2.out];rfl,HBA.out.drew.trans (HB3.out.mono HBA.out.size)⟩
    ·have HM2:=hQ (show Qau l v.text=Qba 2 (Qag (bl v.text)) v.text from hm);obtain ⟨p0,p1,p2,p3,p4,p5,p6⟩:=hc
     replace p1:wr.cell? ⟨pk,j*7+1,none⟩=some (.func (.func 126) #[] #[]):=p1
     clear hm;have hn:=Qfw;have GX:=xH wr (.cells #[.string wd,.func (.func 126) #[] #[],.int .i64 kd,.int .i64 lst,.int .i64 mst,.bool se,.bool co] 132);have GT:=(Below.heap_alloc wr (.cells #[.string wd,.func (.func 126) #[] #[],.int .i64 kd,.int .i64 lst,.int .i64 mst,.bool se,.bool co] 132) w.heap.size te).trans HGW.out;have HBA:=hQ (HBW.out.alloc HBW.out.size (.cells #[.string wd,.func (.func 126) #[] #[],.int .i64 kd,.int .i64 lst,.int .i64 mst,.bool se,.bool co] 132));go_wp2_with fail
     generalize wr.alloc (.cells #[.string wd,.func (.func 126) #[] #[],.int .i64 kd,.int .i64 lst,.int .i64 mst,.bool se,.bool co] 132)=WA at GX GT HBA ⊢
     generalize hxb:wr.heap.size=xb at GX ⊢
     have f1:WA.cell? ⟨xb,1,none⟩=some (.func (.func 126) #[] #[]):=Qaa GX 1 _ rfl;have f2:WA.cell? ⟨w.heap.size,1,none⟩=some (.string v.text):=Qaa GT 1 _ rfl
     go_region_held3 (fun w'=>w'.cell? ⟨xb,1,none⟩=some (.func (.func 126) #[] #[])∧w'.cell? ⟨w.heap.size,1,none⟩=some (.string v.text)) (go_keep)
      (first | (go_at_call 139;refine (Qfi v.text _ HS.out).mono ?_;rintro e w2 ⟨rfl,rfl⟩) | (go_at_call 126;refine (Qic ⟨Qag (bl v.text),⟨#[]⟩,v.text⟩ _).mono ?_;rintro e w3 ⟨rfl,hb3⟩;have HB3:=hQ hb3;have g1:=(xJ (w:=WA.drew) (a:=⟨xb,1,none⟩) (hb3.block xb (Qab GX))).trans f1;have g2:=(xJ (w:=WA.drew) (a:=⟨w.heap.size,1,none⟩) (hb3.block w.heap.size (Qab GT))).trans f2;clear hb3 f1 f2))
     all_goals
      go_wp2
      go_ret
      exact ⟨by rw [HM2.out];rfl,HBA.out.drew.trans (HB3.out.mono HBA.out.size)⟩
    ·have HM2:=hQ (show Qau l v.text=Qba 3 (Qag (bl v.text)) v.text from hm);obtain ⟨p0,p1,p2,p3,p4,p5,p6⟩:=hc
     replace p1:wr.cell? ⟨pk,j*7+1,none⟩=some (.func (.func 128) #[] #[]):=p1
     clear hm;have hn:=Qfw;have GX:=xH wr (.cells #[.string wd,.func (.func 128) #[] #[],.int .i64 kd,.int .i64 lst,.int .i64 mst,.bool se,.bool co] 132);have GT:=(Below.heap_alloc wr (.cells #[.string wd,.func (.func 128) #[] #[],.int .i64 kd,.int .i64 lst,.int .i64 mst,.bool se,.bool co] 132) w.heap.size te).trans HGW.out;have HBA:=hQ (HBW.out.alloc HBW.out.size (.cells #[.string wd,.func (.func 128) #[] #[],.int .i64 kd,.int .i64 lst,.int .i64 mst,.bool se,.bool co] 132));go_wp2_with fail
     generalize wr.alloc (.cells #[.string wd,.func (.func 128) #[] #[],.int .i64 kd,.int .i64 lst,.int .i64 mst,.bool se,.bool co] 132)=WA at GX GT HBA ⊢
     generalize hxb:wr.heap.size=xb at GX ⊢
     have f1:WA.cell? ⟨xb,1,none⟩=some (.func (.func 128) #[] #[]):=Qaa GX 1 _ rfl;have f2:WA.cell? ⟨w.heap.size,1,none⟩=some (.string v.text):=Qaa GT 1 _ rfl
     go_region_held3 (fun w'=>w'.cell? ⟨xb,1,none⟩=some (.func (.func 128) #[] #[])∧w'.cell? ⟨w.heap.size,1,none⟩=some (.string v.text)) (go_keep)
      (first | (go_at_call 139;refine (Qfi v.text _ HS.out).mono ?_;rintro e w2 ⟨rfl,rfl⟩) | (go_at_call 128;refine (Qgk ⟨Qag (bl v.text),⟨#[]⟩,v.text⟩ _).mono ?_;rintro e w3 ⟨rfl,hb3⟩;have HB3:=hQ hb3;have g1:=(xJ (w:=WA.drew) (a:=⟨xb,1,none⟩) (hb3.block xb (Qab GX))).trans f1;have g2:=(xJ (w:=WA.drew) (a:=⟨w.heap.size,1,none⟩) (hb3.block w.heap.size (Qab GT))).trans f2;clear hb3 f1 f2))
     all_goals
      go_wp2
      go_ret
      exact ⟨by rw [HM2.out];rfl,HBA.out.drew.trans (HB3.out.mono HBA.out.size)⟩
    ·have HM2:=hQ (show Qau l v.text=Qba 4 (Qag (bl v.text)) v.text from hm);obtain ⟨p0,p1,p2,p3,p4,p5,p6⟩:=hc
     replace p1:wr.cell? ⟨pk,j*7+1,none⟩=some (.func (.func 156) #[] #[]):=p1
     clear hm;have hn:=Qfw;have GX:=xH wr (.cells #[.string wd,.func (.func 156) #[] #[],.int .i64 kd,.int .i64 lst,.int .i64 mst,.bool se,.bool co] 132);have GT:=(Below.heap_alloc wr (.cells #[.string wd,.func (.func 156) #[] #[],.int .i64 kd,.int .i64 lst,.int .i64 mst,.bool se,.bool co] 132) w.heap.size te).trans HGW.out;have HBA:=hQ (HBW.out.alloc HBW.out.size (.cells #[.string wd,.func (.func 156) #[] #[],.int .i64 kd,.int .i64 lst,.int .i64 mst,.bool se,.bool co] 132));go_wp2_with fail
     generalize wr.alloc (.cells #[.string wd,.func (.func 156) #[] #[],.int .i64 kd,.int .i64 lst,.int .i64 mst,.bool se,.bool co] 132)=WA at GX GT HBA ⊢
     generalize hxb:wr.heap.size=xb at GX ⊢
     have f1:WA.cell? ⟨xb,1,none⟩=some (.func (.func 156) #[] #[]):=Qaa GX 1 _ rfl;have f2:WA.cell? ⟨w.heap.size,1,none⟩=some (.string v.text):=Qaa GT 1 _ rfl
     go_region_held3 (fun w'=>w'.cell? ⟨xb,1,none⟩=some (.func (.func 156) #[] #[])∧w'.cell? ⟨w.heap.size,1,none⟩=some (.string v.text)) (go_keep)
      (first | (go_at_call 139;refine (Qfi v.text _ HS.out).mono ?_;rintro e w2 ⟨rfl,rfl⟩) | (go_at_call 156;refine (Qlx ⟨Qag (bl v.text),⟨#[]⟩,v.text⟩ _).mono ?_;rintro e w3 ⟨rfl,hb3⟩;have HB3:=hQ hb3;have g1:=(xJ (w:=WA.drew) (a:=⟨xb,1,none⟩) (hb3.block xb (Qab GX))).trans f1;have g2:=(xJ (w:=WA.drew) (a:=⟨w.heap.size,1,none⟩) (hb3.block w.heap.size (Qab GT))).trans f2;clear hb3 f1 f2))
     all_goals
      go_wp2
      go_ret
      exact ⟨by rw [HM2.out];rfl,HBA.out.drew.trans (HB3.out.mono HBA.out.size)⟩
    ·have HM2:=hQ (show Qau l v.text=Qba 5 (Qag (bl v.text)) v.text from hm);obtain ⟨p0,p1,p2,p3,p4,p5,p6⟩:=hc
     replace p1:wr.cell? ⟨pk,j*7+1,none⟩=some (.func (.func 154) #[] #[]):=p1
     clear hm;have hn:=Qfw;have GX:=xH wr (.cells #[.string wd,.func (.func 154) #[] #[],.int .i64 kd,.int .i64 lst,.int .i64 mst,.bool se,.bool co] 132);have GT:=(Below.heap_alloc wr (.cells #[.string wd,.func (.func 154) #[] #[],.int .i64 kd,.int .i64 lst,.int .i64 mst,.bool se,.bool co] 132) w.heap.size te).trans HGW.out;have HBA:=hQ (HBW.out.alloc HBW.out.size (.cells #[.string wd,.func (.func 154) #[] #[],.int .i64 kd,.int .i64 lst,.int .i64 mst,.bool se,.bool co] 132));go_wp2_with fail
     generalize wr.alloc (.cells #[.string wd,.func (.func 154) #[] #[],.int .i64 kd,.int .i64 lst,.int .i64 mst,.bool se,.bool co] 132)=WA at GX GT HBA ⊢
     generalize hxb:wr.heap.size=xb at GX ⊢
     have f1:WA.cell? ⟨xb,1,none⟩=some (.func (.func 154) #[] #[]):=Qaa GX 1 _ rfl;have f2:WA.cell? ⟨w.heap.size,1,none⟩=some (.string v.text):=Qaa GT 1 _ rfl
     go_region_held3 (fun w'=>w'.cell? ⟨xb,1,none⟩=some (.func (.func 154) #[] #[])∧w'.cell? ⟨w.heap.size,1,none⟩=some (.string v.text)) (go_keep)
      (first | (go_at_call 139;refine (Qfi v.text _ HS.out).mono ?_;rintro e w2 ⟨rfl,rfl⟩) | (go_at_call 154;refine (Qlv ⟨Qag (bl v.text),⟨#[]⟩,v.text⟩ _).mono ?_;rintro e w3 ⟨rfl,hb3⟩;have HB3:=hQ hb3;have g1:=(xJ (w:=WA.drew) (a:=⟨xb,1,none⟩) (hb3.block xb (Qab GX))).trans f1;have g2:=(xJ (w:=WA.drew) (a:=⟨w.heap.size,1,none⟩) (hb3.block w.heap.size (Qab GT))).trans f2;clear hb3 f1 f2))
     all_goals
      go_wp2
      go_ret
      exact ⟨by rw [HM2.out];rfl,HBA.out.drew.trans (HB3.out.mono HBA.out.size)⟩
    ·have HM2:=hQ (show Qau l v.text=Qba 6 (Qag (bl v.text)) v.text from hm);obtain ⟨p0,p1,p2,p3,p4,p5,p6⟩:=hc
     replace p1:wr.cell? ⟨pk,j*7+1,none⟩=some (.func (.func 155) #[] #[]):=p1
     clear hm;have hn:=Qfw;have GX:=xH wr (.cells #[.string wd,.func (.func 155) #[] #[],.int .i64 kd,.int .i64 lst,.int .i64 mst,.bool se,.bool co] 132);have GT:=(Below.heap_alloc wr (.cells #[.string wd,.func (.func 155) #[] #[],.int .i64 kd,.int .i64 lst,.int .i64 mst,.bool se,.bool co] 132) w.heap.size te).trans HGW.out;have HBA:=hQ (HBW.out.alloc HBW.out.size (.cells #[.string wd,.func (.func 155) #[] #[],.int .i64 kd,.int .i64 lst,.int .i64 mst,.bool se,.bool co] 132));go_wp2_with fail
     generalize wr.alloc (.cells #[.string wd,.func (.func 155) #[] #[],.int .i64 kd,.int .i64 lst,.int .i64 mst,.bool se,.bool co] 132)=WA at GX GT HBA ⊢
     generalize hxb:wr.heap.size=xb at GX ⊢
     have f1:WA.cell? ⟨xb,1,none⟩=some (.func (.func 155) #[] #[]):=Qaa GX 1 _ rfl;have f2:WA.cell? ⟨w.heap.size,1,none⟩=some (.string v.text):=Qaa GT 1 _ rfl
     go_region_held3 (fun w'=>w'.cell? ⟨xb,1,none⟩=some (.func (.func 155) #[] #[])∧w'.cell? ⟨w.heap.size,1,none⟩=some (.string v.text)) (go_keep)
      (first | (go_at_call 139;refine (Qfi v.text _ HS.out).mono ?_;rintro e w2 ⟨rfl,rfl⟩) | (go_at_call 155;refine (Qlw ⟨Qag (bl v.text),⟨#[]⟩,v.text⟩ _).mono ?_;rintro e w3 ⟨rfl,hb3⟩;have HB3:=hQ hb3;have g1:=(xJ (w:=WA.drew) (a:=⟨xb,1,none⟩) (hb3.block xb (Qab GX))).trans f1;have g2:=(xJ (w:=WA.drew) (a:=⟨w.heap.size,1,none⟩) (hb3.block w.heap.size (Qab GT))).trans f2;clear hb3 f1 f2))
     all_goals
      go_wp2
      go_ret
      exact ⟨by rw [HM2.out];rfl,HBA.out.drew.trans (HB3.out.mono HBA.out.size)⟩
    ·have HM2:=hQ (show Qau l v.text=Qba 7 (Qag (bl v.text)) v.text from hm);obtain ⟨p0,p1,p2,p3,p4,p5,p6⟩:=hc
     replace p1:wr.cell? ⟨pk,j*7+1,none⟩=some (.func (.func 134) #[] #[]):=p1
     clear hm;have hn:=Qfw;have GX:=xH wr (.cells #[.string wd,.func (.func 134) #[] #[],.int .i64 kd,.int .i64 lst,.int .i64 mst,.bool se,.bool co] 132);have GT:=(Below.heap_alloc wr (.cells #[.string wd,.func (.func 134) #[] #[],.int .i64 kd,.int .i64 lst,.int .i64 mst,.bool se,.bool co] 132) w.heap.size te).trans HGW.out;have HBA:=hQ (HBW.out.alloc HBW.out.size (.cells #[.string wd,.func (.func 134) #[] #[],.int .i64 kd,.int .i64 lst,.int .i64 mst,.bool se,.bool co] 132));go_wp2_with fail
     generalize wr.alloc (.cells #[.string wd,.func (.func 134) #[] #[],.int .i64 kd,.int .i64 lst,.int .i64 mst,.bool se,.bool co] 132)=WA at GX GT HBA ⊢
     generalize hxb:wr.heap.size=xb at GX ⊢
     have f1:WA.cell? ⟨xb,1,none⟩=some (.func (.func 134) #[] #[]):=Qaa GX 1 _ rfl;have f2:WA.cell? ⟨w.heap.size,1,none⟩=some (.string v.text):=Qaa GT 1 _ rfl
     go_region_held3 (fun w'=>w'.cell? ⟨xb,1,none⟩=some (.func (.func 134) #[] #[])∧w'.cell? ⟨w.heap.size,1,none⟩=some (.string v.text)) (go_keep)
      (first | (go_at_call 139;refine (Qfi v.text _ HS.out).mono ?_;rintro e w2 ⟨rfl,rfl⟩) | (go_at_call 134;refine (Qfm ⟨Qag (bl v.text),⟨#[]⟩,v.text⟩ _).mono ?_;rintro e w3 ⟨rfl,hb3⟩;have HB3:=hQ hb3;have g1:=(xJ (w:=WA.drew) (a:=⟨xb,1,none⟩) (hb3.block xb (Qab GX))).trans f1;have g2:=(xJ (w:=WA.drew) (a:=⟨w.heap.size,1,none⟩) (hb3.block w.heap.size (Qab GT))).trans f2;clear hb3 f1 f2))
     all_goals
      go_wp2
      go_ret
      exact ⟨by rw [HM2.out];rfl,HBA.out.drew.trans (HB3.out.mono HBA.out.size)⟩
   ·have HR:=hQ (show Qau l v.text=is v.text [] from by rw [HM.out,List.drop_eq_nil_of_le (by omega),Qau]);have HGW:=hQ ((HB.out.block w.heap.size (by rw [HS0.out];omega)).trans HG0.out);have tx:wr.cell? ⟨w.heap.size,1,none⟩=some (.string v.text):=Qaa HGW.out 1 _ rfl
    go_wp2
    go_ret
    exact ⟨by rw [HR.out];rfl,HBW.out⟩
end Go.Proofs.YtfjpemdejoejbaaGreat
