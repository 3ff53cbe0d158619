/- Part 20 -/
import Derived.Test.YtjidpkcjpgdafaaGreatSf19
set_option maxRecDepth 100000
set_option maxHeartbeats 4000000
namespace Go.Proofs.YtjidpkcjpgdafaaGreat
open Go.RowKit
def Qa4:List Part→ByteArray→Bool
 | [],x=>is x []
 | p :: r,x=>if p.nm=0 then Qa4 r x else Qa9 p.nm (Qa6 (bl x)) x
theorem Qv2 {n:Nat} (h:n≤7):n=0∨n=1∨n=2∨n=3∨n=4∨n=5∨n=6∨n=7:=by omega
theorem Qh2 {B:Nat} (A:Option Addr) (c:Nat) (l:List Part) (v:TV) (w:World) (hp:Parts B w A l) (hl:l.length≤9) (hnm:∀ x∈l,x.nm≤7) (hs:v.text.size<maxLen):Calls Tryz.prog 129 #[.agg #[.int .i64 v.kind,.string v.text,.slice v.la v.ll v.lc,.slice v.ka v.kl v.kc],.slice A l.length c] w fun e w'=>e = .returned (.bool (Qa4 l v.text))∧Below w.heap.size w w':=by
 have HS:=hQ hs
 have HNM:=hQ hnm
 have HW0:=hQ ((xC w.heap.size w).alloc (xA _) (.cells #[.int .i64 v.kind,.string v.text,.slice v.la v.ll v.lc,.slice v.ka v.kl v.kc] 29))
 have HG0:=hQ (xH w (.cells #[.int .i64 v.kind,.string v.text,.slice v.la v.ll v.lc,.slice v.ka v.kl v.kc] 29))
 have HS0:=hQ (show (w.alloc (.cells #[.int .i64 v.kind,.string v.text,.slice v.la v.ll v.lc,.slice v.ka v.kl v.kc] 29)).heap.size=w.heap.size+1 from by simp)
 have hie:(v.text.toList.isEmpty)=is v.text []:=by rw [ByteArray.toList_eq];unfold is;cases v.text.data.toList <;> rfl
 have hfc:=Qxe
 have hfg:=Qp2
 clear hs hnm
 by_cases hne:l.length=0
 ·have HL:=hQ (List.eq_nil_of_length_eq_zero hne)
  go_enter Tryz.func129,Tryz.ntmps129
  go_wp2
  go_loopg [9] 0 (fun _ u9 wr=>u9 = .int .i64 0∧wr=w.alloc (.cells #[.int .i64 v.kind,.string v.text,.slice v.la v.ll v.lc,.slice v.ka v.kl v.kc] 29))
  case atStart=>exact ⟨rfl,rfl⟩
  case round =>
   obtain ⟨rfl,rfl⟩:=hrel
   go_wp2
   go_ret
   exact ⟨by rw [HL.out];rfl,HW0.out⟩
 ·obtain ⟨pk,cs,rfl,_,hh,hc⟩:=hp.at (by omega)
  have HH:=hQ ((Below.heap_alloc w (.cells #[.int .i64 v.kind,.string v.text,.slice v.la v.ll v.lc,.slice v.ka v.kl v.kc] 29) pk (Qab hh)).trans hh)
  have HC:=hQ hc
  have HL:=hQ hl
  clear hp hh hc
  go_enter Tryz.func129,Tryz.ntmps129
  go_wp2
  generalize w.alloc (.cells #[.int .i64 v.kind,.string v.text,.slice v.la v.ll v.lc,.slice v.ka v.kl v.kc] 29)=W0 at HW0 HG0 HS0 HH ⊢
  go_loopg [9] l.length (fun g u9 wr=>∃ j:Nat,u9 = .int .i64 j∧j+g=l.length∧Qa4 l v.text=Qa4 (l.drop j) v.text∧Below W0.heap.size W0 wr)
  case atStart=>exact ⟨0,rfl,by omega,rfl,xC _ _⟩
  case round =>
   obtain ⟨j,rfl,hj,hm,hb⟩:=hrel
   have HJ:=hQ hj
   have HM:=hQ hm
   have HB:=hQ hb
   clear hj hm hb
   have HBW:=hQ (HW0.out.trans (HB.out.mono HW0.out.size))
   by_cases hlt:j<l.length
   ·obtain ⟨x,hx⟩:∃ x,l[j]? = some x:=⟨_,xF hlt⟩
    have hc:=Qh0 ((HB.out.block pk (Qab HH.out)).trans HH.out) HC.out j x hx
    obtain ⟨hjl,hje⟩:=xP.1 hx
    have hm:=HM.out
    rw [List.drop_eq_getElem_cons hjl,hje,Qa4] at hm
    have hn7:=HNM.out x (yA hx)
    obtain ⟨wd,nm,kd,lst,mst,se,co⟩:=x
    have hj0:(0:Int)≤(j:Int):=by omega
    have hj1:(j:Int)<(l.length:Int):=by omega
    have hj2:(j:Int)+1≤10:=by have:=HL.out;omega
    have HLT:=hQ hlt
    have HGW:=hQ ((HB.out.block w.heap.size (by rw [HS0.out];omega)).trans HG0.out)
    have tx:wr.cell? ⟨w.heap.size,1,none⟩=some (.string v.text):=Qaa HGW.out 1 _ rfl
    have te:w.heap.size<wr.heap.size:=Qab HGW.out
    clear hx hjl hje
    rcases Qv2 hn7 with rfl | rfl | rfl | rfl | rfl | rfl | rfl | rfl
    ·have HM2:=hQ (show Qa4 l v.text=Qa4 (l.drop (j+1)) v.text from hm)
     obtain ⟨p0,p1,p2,p3,p4,p5,p6⟩:=hc
     replace p1:wr.cell? ⟨pk,j*7+1,none⟩=some .nilFunc:=p1
     clear hm tx te
     have hn:=Qtb
     go_wp2
     go_roundg (gk-1)
     case measure=>have:=HJ.out;have:=HLT.out;omega
     case rel=>exact ⟨j+1,by go_num,by have:=HJ.out;have:=HLT.out;omega,HM2.out,HB.out.alloc HB.out.size _⟩
    ·have HM2:=hQ (show Qa4 l v.text=Qa9 1 (Qa6 (bl v.text)) v.text from hm)
     obtain ⟨p0,p1,p2,p3,p4,p5,p6⟩:=hc
     replace p1:wr.cell? ⟨pk,j*7+1,none⟩=some (.func (.func 174) #[] #[]):=p1
     clear hm
     have hn:=Qfl
     have GX:=xH wr (.cells #[.string wd,.func (.func 174) #[] #[],.int .i64 kd,.int .i64 lst,.int .i64 mst,.bool se,.bool co] 176)
     have GT:=(Below.heap_alloc wr (.cells #[.string wd,.func (.func 174) #[] #[],.int .i64 kd,.int .i64 lst,.int .i64 mst,.bool se,.bool co] 176) w.heap.size te).trans HGW.out
     have HBA:=hQ (HBW.out.alloc HBW.out.size (.cells #[.string wd,.func (.func 174) #[] #[],.int .i64 kd,.int .i64 lst,.int .i64 mst,.bool se,.bool co] 176))
     go_wp2_with fail
     generalize wr.alloc (.cells #[.string wd,.func (.func 174) #[] #[],.int .i64 kd,.int .i64 lst,.int .i64 mst,.bool se,.bool co] 176)=WA at GX GT HBA ⊢
     generalize hxb:wr.heap.size=xb at GX ⊢
     have f1:WA.cell? ⟨xb,1,none⟩=some (.func (.func 174) #[] #[]):=Qaa GX 1 _ rfl
     have f2:WA.cell? ⟨w.heap.size,1,none⟩=some (.string v.text):=Qaa GT 1 _ rfl
     go_region_held3 (fun w'=>w'.cell? ⟨xb,1,none⟩=some (.func (.func 174) #[] #[])∧w'.cell? ⟨w.heap.size,1,none⟩=some (.string v.text)) (go_keep)
      (first | (go_at_call 186;refine (Qe1 v.text _ HS.out).mono ?_;rintro e w2 ⟨rfl,rfl⟩) | (go_at_call 174;refine (Qm5 ⟨Qa6 (bl v.text),⟨#[]⟩,v.text⟩ _).mono ?_;rintro e w3 ⟨rfl,hb3⟩;have HB3:=hQ hb3;have g1:=(xJ (w:=WA.drew) (a:=⟨xb,1,none⟩) (hb3.block xb (Qab GX))).trans f1;have g2:=(xJ (w:=WA.drew) (a:=⟨w.heap.size,1,none⟩) (hb3.block w.heap.size (Qab GT))).trans f2;clear hb3 f1 f2))
     all_goals
      go_wp2
      go_ret
      exact ⟨by rw [HM2.out];rfl,HBA.out.drew.trans (HB3.out.mono HBA.out.size)⟩
    ·have HM2:=hQ (show Qa4 l v.text=Qa9 2 (Qa6 (bl v.text)) v.text from hm)
     obtain ⟨p0,p1,p2,p3,p4,p5,p6⟩:=hc
     replace p1:wr.cell? ⟨pk,j*7+1,none⟩=some (.func (.func 176) #[] #[]):=p1
     clear hm
     have hn:=Qfl
     have GX:=xH wr (.cells #[.string wd,.func (.func 176) #[] #[],.int .i64 kd,.int .i64 lst,.int .i64 mst,.bool se,.bool co] 176)
     have GT:=(Below.heap_alloc wr (.cells #[.string wd,.func (.func 176) #[] #[],.int .i64 kd,.int .i64 lst,.int .i64 mst,.bool se,.bool co] 176) w.heap.size te).trans HGW.out
     have HBA:=hQ (HBW.out.alloc HBW.out.size (.cells #[.string wd,.func (.func 176) #[] #[],.int .i64 kd,.int .i64 lst,.int .i64 mst,.bool se,.bool co] 176))
     go_wp2_with fail
     generalize wr.alloc (.cells #[.string wd,.func (.func 176) #[] #[],.int .i64 kd,.int .i64 lst,.int .i64 mst,.bool se,.bool co] 176)=WA at GX GT HBA ⊢
     generalize hxb:wr.heap.size=xb at GX ⊢
     have f1:WA.cell? ⟨xb,1,none⟩=some (.func (.func 176) #[] #[]):=Qaa GX 1 _ rfl
     have f2:WA.cell? ⟨w.heap.size,1,none⟩=some (.string v.text):=Qaa GT 1 _ rfl
     go_region_held3 (fun w'=>w'.cell? ⟨xb,1,none⟩=some (.func (.func 176) #[] #[])∧w'.cell? ⟨w.heap.size,1,none⟩=some (.string v.text)) (go_keep)
      (first | (go_at_call 186;refine (Qe1 v.text _ HS.out).mono ?_;rintro e w2 ⟨rfl,rfl⟩) | (go_at_call 176;refine (Qhu ⟨Qa6 (bl v.text),⟨#[]⟩,v.text⟩ _).mono ?_;rintro e w3 ⟨rfl,hb3⟩;have HB3:=hQ hb3;have g1:=(xJ (w:=WA.drew) (a:=⟨xb,1,none⟩) (hb3.block xb (Qab GX))).trans f1;have g2:=(xJ (w:=WA.drew) (a:=⟨w.heap.size,1,none⟩) (hb3.block w.heap.size (Qab GT))).trans f2;clear hb3 f1 f2))
     all_goals
      go_wp2
      go_ret
      exact ⟨by rw [HM2.out];rfl,HBA.out.drew.trans (HB3.out.mono HBA.out.size)⟩
    ·have HM2:=hQ (show Qa4 l v.text=Qa9 3 (Qa6 (bl v.text)) v.text from hm)
     obtain ⟨p0,p1,p2,p3,p4,p5,p6⟩:=hc
     replace p1:wr.cell? ⟨pk,j*7+1,none⟩=some (.func (.func 178) #[] #[]):=p1
     clear hm
     have hn:=Qfl
     have GX:=xH wr (.cells #[.string wd,.func (.func 178) #[] #[],.int .i64 kd,.int .i64 lst,.int .i64 mst,.bool se,.bool co] 176)
     have GT:=(Below.heap_alloc wr (.cells #[.string wd,.func (.func 178) #[] #[],.int .i64 kd,.int .i64 lst,.int .i64 mst,.bool se,.bool co] 176) w.heap.size te).trans HGW.out
     have HBA:=hQ (HBW.out.alloc HBW.out.size (.cells #[.string wd,.func (.func 178) #[] #[],.int .i64 kd,.int .i64 lst,.int .i64 mst,.bool se,.bool co] 176))
     go_wp2_with fail
     generalize wr.alloc (.cells #[.string wd,.func (.func 178) #[] #[],.int .i64 kd,.int .i64 lst,.int .i64 mst,.bool se,.bool co] 176)=WA at GX GT HBA ⊢
     generalize hxb:wr.heap.size=xb at GX ⊢
     have f1:WA.cell? ⟨xb,1,none⟩=some (.func (.func 178) #[] #[]):=Qaa GX 1 _ rfl
     have f2:WA.cell? ⟨w.heap.size,1,none⟩=some (.string v.text):=Qaa GT 1 _ rfl
     go_region_held3 (fun w'=>w'.cell? ⟨xb,1,none⟩=some (.func (.func 178) #[] #[])∧w'.cell? ⟨w.heap.size,1,none⟩=some (.string v.text)) (go_keep)
      (first | (go_at_call 186;refine (Qe1 v.text _ HS.out).mono ?_;rintro e w2 ⟨rfl,rfl⟩) | (go_at_call 178;refine (Qfy ⟨Qa6 (bl v.text),⟨#[]⟩,v.text⟩ _).mono ?_;rintro e w3 ⟨rfl,hb3⟩;have HB3:=hQ hb3;have g1:=(xJ (w:=WA.drew) (a:=⟨xb,1,none⟩) (hb3.block xb (Qab GX))).trans f1;have g2:=(xJ (w:=WA.drew) (a:=⟨w.heap.size,1,none⟩) (hb3.block w.heap.size (Qab GT))).trans f2;clear hb3 f1 f2))
     all_goals
      go_wp2
      go_ret
      exact ⟨by rw [HM2.out];rfl,HBA.out.drew.trans (HB3.out.mono HBA.out.size)⟩
    ·have HM2:=hQ (show Qa4 l v.text=Qa9 4 (Qa6 (bl v.text)) v.text from hm)
     obtain ⟨p0,p1,p2,p3,p4,p5,p6⟩:=hc
     replace p1:wr.cell? ⟨pk,j*7+1,none⟩=some (.func (.func 223) #[] #[]):=p1
     clear hm
     have hn:=Qfl
     have GX:=xH wr (.cells #[.string wd,.func (.func 223) #[] #[],.int .i64 kd,.int .i64 lst,.int .i64 mst,.bool se,.bool co] 176)
     have GT:=(Below.heap_alloc wr (.cells #[.string wd,.func (.func 223) #[] #[],.int .i64 kd,.int .i64 lst,.int .i64 mst,.bool se,.bool co] 176) w.heap.size te).trans HGW.out
     have HBA:=hQ (HBW.out.alloc HBW.out.size (.cells #[.string wd,.func (.func 223) #[] #[],.int .i64 kd,.int .i64 lst,.int .i64 mst,.bool se,.bool co] 176))
     go_wp2_with fail
     generalize wr.alloc (.cells #[.string wd,.func (.func 223) #[] #[],.int .i64 kd,.int .i64 lst,.int .i64 mst,.bool se,.bool co] 176)=WA at GX GT HBA ⊢
     generalize hxb:wr.heap.size=xb at GX ⊢
     have f1:WA.cell? ⟨xb,1,none⟩=some (.func (.func 223) #[] #[]):=Qaa GX 1 _ rfl
     have f2:WA.cell? ⟨w.heap.size,1,none⟩=some (.string v.text):=Qaa GT 1 _ rfl
     go_region_held3 (fun w'=>w'.cell? ⟨xb,1,none⟩=some (.func (.func 223) #[] #[])∧w'.cell? ⟨w.heap.size,1,none⟩=some (.string v.text)) (go_keep)
      (first | (go_at_call 186;refine (Qe1 v.text _ HS.out).mono ?_;rintro e w2 ⟨rfl,rfl⟩) | (go_at_call 223;refine (Qla ⟨Qa6 (bl v.text),⟨#[]⟩,v.text⟩ _).mono ?_;rintro e w3 ⟨rfl,hb3⟩;have HB3:=hQ hb3;have g1:=(xJ (w:=WA.drew) (a:=⟨xb,1,none⟩) (hb3.block xb (Qab GX))).trans f1;have g2:=(xJ (w:=WA.drew) (a:=⟨w.heap.size,1,none⟩) (hb3.block w.heap.size (Qab GT))).trans f2;clear hb3 f1 f2))
     all_goals
      go_wp2
      go_ret
      exact ⟨by rw [HM2.out];rfl,HBA.out.drew.trans (HB3.out.mono HBA.out.size)⟩
    ·have HM2:=hQ (show Qa4 l v.text=Qa9 5 (Qa6 (bl v.text)) v.text from hm)
     obtain ⟨p0,p1,p2,p3,p4,p5,p6⟩:=hc
     replace p1:wr.cell? ⟨pk,j*7+1,none⟩=some (.func (.func 221) #[] #[]):=p1
     clear hm
     have hn:=Qfl
     have GX:=xH wr (.cells #[.string wd,.func (.func 221) #[] #[],.int .i64 kd,.int .i64 lst,.int .i64 mst,.bool se,.bool co] 176)
     have GT:=(Below.heap_alloc wr (.cells #[.string wd,.func (.func 221) #[] #[],.int .i64 kd,.int .i64 lst,.int .i64 mst,.bool se,.bool co] 176) w.heap.size te).trans HGW.out
     have HBA:=hQ (HBW.out.alloc HBW.out.size (.cells #[.string wd,.func (.func 221) #[] #[],.int .i64 kd,.int .i64 lst,.int .i64 mst,.bool se,.bool co] 176))
     go_wp2_with fail
     generalize wr.alloc (.cells #[.string wd,.func (.func 221) #[] #[],.int .i64 kd,.int .i64 lst,.int .i64 mst,.bool se,.bool co] 176)=WA at GX GT HBA ⊢
     generalize hxb:wr.heap.size=xb at GX ⊢
     have f1:WA.cell? ⟨xb,1,none⟩=some (.func (.func 221) #[] #[]):=Qaa GX 1 _ rfl
     have f2:WA.cell? ⟨w.heap.size,1,none⟩=some (.string v.text):=Qaa GT 1 _ rfl
     go_region_held3 (fun w'=>w'.cell? ⟨xb,1,none⟩=some (.func (.func 221) #[] #[])∧w'.cell? ⟨w.heap.size,1,none⟩=some (.string v.text)) (go_keep)
      (first | (go_at_call 186;refine (Qe1 v.text _ HS.out).mono ?_;rintro e w2 ⟨rfl,rfl⟩) | (go_at_call 221;refine (Qk8 ⟨Qa6 (bl v.text),⟨#[]⟩,v.text⟩ _).mono ?_;rintro e w3 ⟨rfl,hb3⟩;have HB3:=hQ hb3;have g1:=(xJ (w:=WA.drew) (a:=⟨xb,1,none⟩) (hb3.block xb (Qab GX))).trans f1;have g2:=(xJ (w:=WA.drew) (a:=⟨w.heap.size,1,none⟩) (hb3.block w.heap.size (Qab GT))).trans f2;clear hb3 f1 f2))
     all_goals
      go_wp2
      go_ret
      exact ⟨by rw [HM2.out];rfl,HBA.out.drew.trans (HB3.out.mono HBA.out.size)⟩
    ·have HM2:=hQ (show Qa4 l v.text=Qa9 6 (Qa6 (bl v.text)) v.text from hm)
     obtain ⟨p0,p1,p2,p3,p4,p5,p6⟩:=hc
     replace p1:wr.cell? ⟨pk,j*7+1,none⟩=some (.func (.func 222) #[] #[]):=p1
     clear hm
     have hn:=Qfl
     have GX:=xH wr (.cells #[.string wd,.func (.func 222) #[] #[],.int .i64 kd,.int .i64 lst,.int .i64 mst,.bool se,.bool co] 176)
     have GT:=(Below.heap_alloc wr (.cells #[.string wd,.func (.func 222) #[] #[],.int .i64 kd,.int .i64 lst,.int .i64 mst,.bool se,.bool co] 176) w.heap.size te).trans HGW.out
     have HBA:=hQ (HBW.out.alloc HBW.out.size (.cells #[.string wd,.func (.func 222) #[] #[],.int .i64 kd,.int .i64 lst,.int .i64 mst,.bool se,.bool co] 176))
     go_wp2_with fail
     generalize wr.alloc (.cells #[.string wd,.func (.func 222) #[] #[],.int .i64 kd,.int .i64 lst,.int .i64 mst,.bool se,.bool co] 176)=WA at GX GT HBA ⊢
     generalize hxb:wr.heap.size=xb at GX ⊢
     have f1:WA.cell? ⟨xb,1,none⟩=some (.func (.func 222) #[] #[]):=Qaa GX 1 _ rfl
     have f2:WA.cell? ⟨w.heap.size,1,none⟩=some (.string v.text):=Qaa GT 1 _ rfl
     go_region_held3 (fun w'=>w'.cell? ⟨xb,1,none⟩=some (.func (.func 222) #[] #[])∧w'.cell? ⟨w.heap.size,1,none⟩=some (.string v.text)) (go_keep)
      (first | (go_at_call 186;refine (Qe1 v.text _ HS.out).mono ?_;rintro e w2 ⟨rfl,rfl⟩) | (go_at_call 222;refine (Qk9 ⟨Qa6 (bl v.text),⟨#[]⟩,v.text⟩ _).mono ?_;rintro e w3 ⟨rfl,hb3⟩;have HB3:=hQ hb3;have g1:=(xJ (w:=WA.drew) (a:=⟨xb,1,none⟩) (hb3.block xb (Qab GX))).trans f1;have g2:=(xJ (w:=WA.drew) (a:=⟨w.heap.size,1,none⟩) (hb3.block w.heap.size (Qab GT))).trans f2;clear hb3 f1 f2))
     all_goals
      go_wp2
      go_ret
      exact ⟨by rw [HM2.out];rfl,HBA.out.drew.trans (HB3.out.mono HBA.out.size)⟩
    ·have HM2:=hQ (show Qa4 l v.text=Qa9 7 (Qa6 (bl v.text)) v.text from hm)
     obtain ⟨p0,p1,p2,p3,p4,p5,p6⟩:=hc
     replace p1:wr.cell? ⟨pk,j*7+1,none⟩=some (.func (.func 184) #[] #[]):=p1
     clear hm
     have hn:=Qfl
     have GX:=xH wr (.cells #[.string wd,.func (.func 184) #[] #[],.int .i64 kd,.int .i64 lst,.int .i64 mst,.bool se,.bool co] 176)
     have GT:=(Below.heap_alloc wr (.cells #[.string wd,.func (.func 184) #[] #[],.int .i64 kd,.int .i64 lst,.int .i64 mst,.bool se,.bool co] 176) w.heap.size te).trans HGW.out
     have HBA:=hQ (HBW.out.alloc HBW.out.size (.cells #[.string wd,.func (.func 184) #[] #[],.int .i64 kd,.int .i64 lst,.int .i64 mst,.bool se,.bool co] 176))
     go_wp2_with fail
     generalize wr.alloc (.cells #[.string wd,.func (.func 184) #[] #[],.int .i64 kd,.int .i64 lst,.int .i64 mst,.bool se,.bool co] 176)=WA at GX GT HBA ⊢
     generalize hxb:wr.heap.size=xb at GX ⊢
     have f1:WA.cell? ⟨xb,1,none⟩=some (.func (.func 184) #[] #[]):=Qaa GX 1 _ rfl
     have f2:WA.cell? ⟨w.heap.size,1,none⟩=some (.string v.text):=Qaa GT 1 _ rfl
     go_region_held3 (fun w'=>w'.cell? ⟨xb,1,none⟩=some (.func (.func 184) #[] #[])∧w'.cell? ⟨w.heap.size,1,none⟩=some (.string v.text)) (go_keep)
      (first | (go_at_call 186;refine (Qe1 v.text _ HS.out).mono ?_;rintro e w2 ⟨rfl,rfl⟩) | (go_at_call 184;refine (Qe6 ⟨Qa6 (bl v.text),⟨#[]⟩,v.text⟩ _).mono ?_;rintro e w3 ⟨rfl,hb3⟩;have HB3:=hQ hb3;have g1:=(xJ (w:=WA.drew) (a:=⟨xb,1,none⟩) (hb3.block xb (Qab GX))).trans f1;have g2:=(xJ (w:=WA.drew) (a:=⟨w.heap.size,1,none⟩) (hb3.block w.heap.size (Qab GT))).trans f2;clear hb3 f1 f2))
     all_goals
      go_wp2
      go_ret
      exact ⟨by rw [HM2.out];rfl,HBA.out.drew.trans (HB3.out.mono HBA.out.size)⟩
   ·have HR:=hQ (show Qa4 l v.text=is v.text [] from by rw [HM.out,List.drop_eq_nil_of_le (by omega),Qa4])
    have HGW:=hQ ((HB.out.block w.heap.size (by rw [HS0.out];omega)).trans HG0.out)
    have tx:wr.cell? ⟨w.heap.size,1,none⟩=some (.string v.text):=Qaa HGW.out 1 _ rfl
    go_wp2
    go_ret
    exact ⟨by rw [HR.out];rfl,HBW.out⟩
end Go.Proofs.YtjidpkcjpgdafaaGreat
