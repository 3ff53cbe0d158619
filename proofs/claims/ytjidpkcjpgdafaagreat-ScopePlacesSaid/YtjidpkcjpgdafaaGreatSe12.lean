/- Part 12 -/
import Derived.Test.YtjidpkcjpgdafaaGreatSe11
set_option maxRecDepth 100000
set_option maxHeartbeats 4000000
namespace Go.Proofs.YtjidpkcjpgdafaaGreat
open Go.RowKit
def Qb9:List Part→Nat
 | []=>0
 | x :: r=>(if x.kids=0 then 1 else 0)+Qb9 r
def Qd2:List Part→Int→Int→Int→Int × Int × Int
 | [],a,b,k=>(a,b,k)
 | x :: r,a,b,k=>if x.series then Qd2 r x.least 9223372036854775807 k else if x.kids≠0 then Qd2 r a b (k-1) else Qd2 r a b k
def Qb1 (l:List Part) (k:Int):Int × Bool :=
 if l = []∨k<0 then (0,false) else ((Qd2 l 0 0 k).2.2,decide ((Qd2 l 0 0 k).1≤(Qd2 l 0 0 k).2.2) && decide ((Qd2 l 0 0 k).2.2≤(Qd2 l 0 0 k).2.1))
def Qbx (x:Part) (n:Int):Int:=if x.series then n else if x.kids≠0 then 1 else 0
def Qib:List Part→Int→Int
 | [],_=>0
 | x :: r,n=>(if x.commas && decide (1<n) then n-1 else 0)+Qib r n
def Qk9 (kind kids:Int):Int :=
 if (Qb1 (Qae kind) kids).2 then (Qb9 (Qae kind):Int)+Qib (Qae kind) (Qb1 (Qae kind) kids).1 else -1
theorem Parts.at {B:Nat} {w:World} {A:Option Addr} {l:List Part} (h:Parts B w A l) (hne:0<l.length):∃ pk cs,A=some ⟨pk,0,none⟩∧B≤pk∧w.heap[pk]? = some (.cells cs 176 (0,0))∧cs.toList=l.flatMap Qqa :=
 h (by intro e;rw [e] at hne;simp at hne)
theorem Parts.keep {B:Nat} {w w':World} {A:Option Addr} {l:List Part} (h:Parts B w A l) (hb:Below w.heap.size w w'):Parts B w' A l:=fun hne=>by
 obtain ⟨b,cs,hA,hB,hh,hc⟩:=h hne;exact ⟨b,cs,hA,hB,(hb.block b (Qaa hh)).trans hh,hc⟩
theorem Qjy (x:Part) (n:Int) (w:World):Calls Tryz.prog 130 #[.agg #[.string x.word,fnV x.nm,.int .i64 x.kids,.int .i64 x.least,.int .i64 x.most,.bool x.series,.bool x.commas],.int .i64 n] w fun e w'=>e = .returned (.int .i64 (Qbx x n))∧Below w.heap.size w w':=by
 obtain ⟨wd,nm,kd,lst,mst,se,co⟩:=x
 cases se
 ·cases hk:(kd != 0)
  ·have HR:=hQ (show Qbx ⟨wd,nm,kd,lst,mst,false,co⟩ n=0 from by unfold Qbx;simp at hk;simp [hk])
   go_enter Tryz.func130,Tryz.ntmps130
   go_wp2
   go_ret
   exact ⟨by rw [HR.out];rfl,(xC _ _).alloc (xA _) _⟩
  ·have HR:=hQ (show Qbx ⟨wd,nm,kd,lst,mst,false,co⟩ n=1 from by unfold Qbx;simp at hk;simp [hk])
   go_enter Tryz.func130,Tryz.ntmps130
   go_wp2
   go_ret
   exact ⟨by rw [HR.out];rfl,(xC _ _).alloc (xA _) _⟩
 ·go_enter Tryz.func130,Tryz.ntmps130
  go_wp2
  go_ret
  exact ⟨rfl,(xC _ _).alloc (xA _) _⟩
theorem Qyb (A:Option Addr) (c:Nat) (l:List Part) (k:Int) (w:World) (h:l = []∨k<0):Calls Tryz.prog 128 #[.slice A l.length c,.int .i64 k] w fun e w'=>e = .returned (.tuple #[.int .i64 (Qb1 l k).1,.bool (Qb1 l k).2])∧Below w.heap.size w w':=by
 have HR:=hQ (show Qb1 l k=(0,false) from by unfold Qb1;rw [xO h])
 by_cases hne:l.length=0
 ·have hz:((l.length:Int)==0)=true:=by simp [hne]
  clear h hne
  go_enter Tryz.func128,Tryz.ntmps128
  go_wp2
  refine bodyPost_ret (v:=.tuple #[.int .i64 0,.bool false]) (by simp [results,Tryz.results128,go_sem]) rfl ?_;exact ⟨by rw [HR.out],xC _ _⟩
 ·have hz:((l.length:Int)==0)=false:=Qcn (by omega);have hk:k<0:=h.elim (fun e=>by rw [e] at hne;simp at hne) id;clear h hne
  go_enter Tryz.func128,Tryz.ntmps128
  go_wp2
  refine bodyPost_ret (v:=.tuple #[.int .i64 0,.bool false]) (by simp [results,Tryz.results128,go_sem]) rfl ?_;exact ⟨by rw [HR.out],xC _ _⟩
theorem Qyc {B:Nat} (A:Option Addr) (c:Nat) (l:List Part) (k0:Int) (w:World) (hp:Parts B w A l) (hl:l.length≤9) (hne:l≠[]) (hk0:0≤k0) (hk1:k0≤140737488355328):Calls Tryz.prog 128 #[.slice A l.length c,.int .i64 k0] w fun e w'=>e = .returned (.tuple #[.int .i64 (Qb1 l k0).1,.bool (Qb1 l k0).2])∧Below w.heap.size w w':=by
 have HR:=hQ (show Qb1 l k0=((Qd2 l 0 0 k0).2.2,decide ((Qd2 l 0 0 k0).1≤(Qd2 l 0 0 k0).2.2) && decide ((Qd2 l 0 0 k0).2.2≤(Qd2 l 0 0 k0).2.1)) from by unfold Qb1;rw [xN (by intro e;rcases e with e | e;exact hne e;omega)])
 have hpos:0<l.length:=by cases l with
  | nil=>exact absurd rfl hne
  | cons a r=>simp
 obtain ⟨pk,cs,rfl,_,hh,hc⟩:=hp.at hpos;have HH:=hQ hh;have HC:=hQ hc;have hz:((l.length:Int)==0)=false:=Qcn (by omega);have hkn:decide (k0<0)=false:=xR (by omega);have HK0:=hQ hk0;have HK1:=hQ hk1;have HL:=hQ hl;clear hp hh hc hne hpos
 go_enter Tryz.func128,Tryz.ntmps128
 go_wp2
 go_loopg [1,6,7,19] l.length (fun g u1 u6 u7 u19 wr=>∃ (j:Nat) (k a b:Int),u1 = .int .i64 k∧u6 = .int .i64 a∧u7 = .int .i64 b∧u19 = .int .i64 j∧j+g=l.length∧k0-j≤k∧k≤k0∧Qd2 l 0 0 k0=Qd2 (l.drop j) a b k∧Below w.heap.size w wr)
 case atStart=>exact ⟨0,k0,0,0,rfl,rfl,rfl,rfl,by omega,by omega,by omega,rfl,xC _ _⟩
 case round =>
  obtain ⟨j,k,a,b,rfl,rfl,rfl,rfl,hj,hka,hkb,hf,hb⟩:=hrel;have HJ:=hQ hj;have HF:=hQ hf;have HB:=hQ hb;have HKA:=hQ hka;have HKB:=hQ hkb;clear hj hf hb
  by_cases hlt:j<l.length
  ·obtain ⟨x,hx⟩:∃ x,l[j]? = some x:=⟨_,xF hlt⟩;obtain ⟨p0,p1,p2,p3,p4,p5,p6⟩:=Qjx ((HB.out.block pk (Qaa HH.out)).trans HH.out) HC.out j x hx;obtain ⟨hjl,hje⟩:=xP.1 hx;have hf:=HF.out;rw [List.drop_eq_getElem_cons hjl,hje,Qd2] at hf;have hj0:(0:Int)≤(j:Int):=by omega
   have hj1:(j:Int)<(l.length:Int):=by omega
   have hj2:(j:Int)+1≤10:=by omega
   have hk2:(-10:Int)≤k:=by omega
   have hk3:k≤140737488355328:=by omega
   have HLT:=hQ hlt;clear hx hjl hje hka hkb
   cases hse:x.series
   ·rw [xN (by rw [hse];decide)] at hf;rw [hse] at p5;clear hse
    by_cases hk:x.kids=0
    ·rw [xN (by omega)] at hf;have HF2:=hQ hf;have hk':(x.kids != 0)=false:=by simp [hk]
     clear hf hk
     go_wp2
     go_roundg (gk-1)
     case measure=>have:=HJ.out;have:=HLT.out;omega
     case rel=>exact ⟨j+1,k,a,b,rfl,rfl,rfl,by go_num,by have:=HJ.out;have:=HLT.out;omega,by have:=HKA.out;omega,HKB.out,HF2.out,HB.out.alloc HB.out.size _⟩
    ·rw [xO hk] at hf;have HF2:=hQ hf;have hk':(x.kids != 0)=true:=by simpa using hk
     clear hf hk
     go_wp2
     go_roundg (gk-1)
     case measure=>have:=HJ.out;have:=HLT.out;omega
     case rel=>exact ⟨j+1,k-1,a,b,by go_num,rfl,rfl,by go_num,by have:=HJ.out;have:=HLT.out;omega,by have:=HKA.out;omega,by have:=HKB.out;omega,HF2.out,HB.out.alloc HB.out.size _⟩
   ·rw [xO hse] at hf;rw [hse] at p5;have HF2:=hQ hf;clear hf hse
    go_wp2
    go_roundg (gk-1)
    case measure=>have:=HJ.out;have:=HLT.out;omega
    case rel=>exact ⟨j+1,k,x.least,9223372036854775807,rfl,rfl,rfl,by go_num,by have:=HJ.out;have:=HLT.out;omega,by have:=HKA.out;omega,HKB.out,HF2.out,HB.out.alloc HB.out.size _⟩
  ·have HF2:=hQ (show Qd2 l 0 0 k0=(a,b,k) from by have:=HF.out;rwa [List.drop_eq_nil_of_le (by omega),Qd2] at this);have HR2:=hQ (show Qb1 l k0=(k,decide (a≤k) && decide (k≤b)) from by rw [HR.out,HF2.out]);clear hka hkb;cases hak:decide (a≤k)
   all_goals
    go_wp2
    refine bodyPost_ret (v:=.tuple #[.int .i64 k,.bool (decide (a≤k) && decide (k≤b))]) (by simp [results,Tryz.results128,go_sem, *]) rfl ?_;exact ⟨by rw [HR2.out],HB.out⟩
theorem Qip {B:Nat} (A:Option Addr) (c:Nat) (l:List Part) (k:Int) (w:World) (hp:Parts B w A l) (hl:l.length≤9) (hk1:k≤140737488355328):Calls Tryz.prog 128 #[.slice A l.length c,.int .i64 k] w fun e w'=>e = .returned (.tuple #[.int .i64 (Qb1 l k).1,.bool (Qb1 l k).2])∧Below w.heap.size w w':=by
 by_cases h:l = []∨k<0
 ·exact Qyb A c l k w h
 ·exact Qyc A c l k w hp hl (fun e=>h (.inl e)) (by omega) hk1
theorem Zb3 (l:List Part):∀ a b k,(Qd2 l a b k).2.2≤k:=by
 induction l with
 | nil=>intro a b k;exact Int.le_refl _
 | cons x r ih =>
  intro a b k;unfold Qd2
  split
  ·exact ih _ _ _
  ·split
   ·have:=ih a b (k-1)
    omega
   ·exact ih _ _ _
theorem Qpi (l:List Part) (k:Int) (h:(Qb1 l k).2=true):(Qb1 l k).1≤k∧0≤k∧l≠[]:=by
 unfold Qb1 at h ⊢
 by_cases hc:l = []∨k<0
 ·rw [xO hc] at h;cases h
 ·rw [xN hc];exact ⟨Zb3 l 0 0 k,by omega,fun e=>hc (.inl e)⟩
def Qbq:List Part→ByteArray→Bool
 | [],x=>is x []
 | p :: r,x=>if p.nm=0 then Qbq r x else Qbv p.nm (Qa3 (bl x)) x
theorem Zb4 {n:Nat} (h:n≤7):n=0∨n=1∨n=2∨n=3∨n=4∨n=5∨n=6∨n=7:=by omega
theorem Qjz {B:Nat} (A:Option Addr) (c:Nat) (l:List Part) (v:TV) (w:World) (hp:Parts B w A l) (hl:l.length≤9) (hnm:∀ x∈l,x.nm≤7) (hs:v.text.size<maxLen):Calls Tryz.prog 129 #[.agg #[.int .i64 v.kind,.string v.text,.slice v.la v.ll v.lc,.slice v.ka v.kl v.kc],.slice A l.length c] w fun e w'=>e = .returned (.bool (Qbq l v.text))∧Below w.heap.size w w':=by
 have HS:=hQ hs;have HNM:=hQ hnm;have HW0:=hQ ((xC w.heap.size w).alloc (xA _) (.cells #[.int .i64 v.kind,.string v.text,.slice v.la v.ll v.lc,.slice v.ka v.kl v.kc] 29));have HG0:=hQ (xH w (.cells #[.int .i64 v.kind,.string v.text,.slice v.la v.ll v.lc,.slice v.ka v.kl v.kc] 29));have HS0:=hQ (show (w.alloc (.cells #[.int .i64 v.kind,.string v.text,.slice v.la v.ll v.lc,.slice v.ka v.kl v.kc] 29)).heap.size=w.heap.size+1 from by simp);have hie:(v.text.toList.isEmpty)=is v.text []:=by rw [ByteArray.toList_eq];unfold is;cases v.text.data.toList <;> rfl
 have hfc:=Zd0;have hfg:=Qto;clear hs hnm
 by_cases hne:l.length=0
 ·have HL:=hQ (List.eq_nil_of_length_eq_zero hne)
  go_enter Tryz.func129,Tryz.ntmps129
  go_wp2
  go_loopg [9] 0 (fun _ u9 wr=>u9 = .int .i64 0∧wr=w.alloc (.cells #[.int .i64 v.kind,.string v.text,.slice v.la v.ll v.lc,.slice v.ka v.kl v.kc] 29))
  case atStart=>exact ⟨rfl,rfl⟩
  case round =>
   obtain ⟨rfl,rfl⟩:=hrel
   go_wp2
   go_ret
   exact ⟨by rw [HL.out];rfl,HW0.out⟩
 ·obtain ⟨pk,cs,rfl,_,hh,hc⟩:=hp.at (by omega);have HH:=hQ ((Below.heap_alloc w (.cells #[.int .i64 v.kind,.string v.text,.slice v.la v.ll v.lc,.slice v.ka v.kl v.kc] 29) pk (Qaa hh)).trans hh);have HC:=hQ hc;have HL:=hQ hl;clear hp hh hc
  go_enter Tryz.func129,Tryz.ntmps129
  go_wp2
  generalize w.alloc (.cells #[.int .i64 v.kind,.string v.text,.slice v.la v.ll v.lc,.slice v.ka v.kl v.kc] 29)=W0 at HW0 HG0 HS0 HH ⊢
  go_loopg [9] l.length (fun g u9 wr=>∃ j:Nat,u9 = .int .i64 j∧j+g=l.length∧Qbq l v.text=Qbq (l.drop j) v.text∧Below W0.heap.size W0 wr)
  case atStart=>exact ⟨0,rfl,by omega,rfl,xC _ _⟩
  case round =>
   obtain ⟨j,rfl,hj,hm,hb⟩:=hrel;have HJ:=hQ hj;have HM:=hQ hm;have HB:=hQ hb;clear hj hm hb;have HBW:=hQ (HW0.out.trans (HB.out.mono HW0.out.size))
   by_cases hlt:j<l.length
   ·obtain ⟨x,hx⟩:∃ x,l[j]? = some x:=⟨_,xF hlt⟩;have hc:=Qjx ((HB.out.block pk (Qaa HH.out)).trans HH.out) HC.out j x hx;obtain ⟨hjl,hje⟩:=xP.1 hx;have hm:=HM.out;rw [List.drop_eq_getElem_cons hjl,hje,Qbq] at hm;have hn7:=HNM.out x (yA hx);obtain ⟨wd,nm,kd,lst,mst,se,co⟩:=x;have hj0:(0:Int)≤(j:Int):=by omega
    have hj1:(j:Int)<(l.length:Int):=by omega
    have hj2:(j:Int)+1≤10:=by have:=HL.out;omega
    have HLT:=hQ hlt;have HGW:=hQ ((HB.out.block w.heap.size (by rw [HS0.out];omega)).trans HG0.out);have tx:wr.cell? ⟨w.heap.size,1,none⟩=some (.string v.text):=Qab HGW.out 1 _ rfl;have te:w.heap.size<wr.heap.size:=Qaa HGW.out;clear hx hjl hje
    rcases Zb4 hn7 with rfl | rfl | rfl | rfl | rfl | rfl | rfl | rfl
    ·have HM2:=hQ (show Qbq l v.text=Qbq (l.drop (j+1)) v.text from hm);obtain ⟨p0,p1,p2,p3,p4,p5,p6⟩:=hc
     replace p1:wr.cell? ⟨pk,j*7+1,none⟩=some .nilFunc:=p1
     clear hm tx te;have hn:=Qx2
     go_wp2
     go_roundg (gk-1)
     case measure=>have:=HJ.out;have:=HLT.out;omega
     case rel=>exact ⟨j+1,by go_num,by have:=HJ.out;have:=HLT.out;omega,HM2.out,HB.out.alloc HB.out.size _⟩
    ·have HM2:=hQ (show Qbq l v.text=Qbv 1 (Qa3 (bl v.text)) v.text from hm);obtain ⟨p0,p1,p2,p3,p4,p5,p6⟩:=hc
     replace p1:wr.cell? ⟨pk,j*7+1,none⟩=some (.func (.func 174) #[] #[]):=p1
     clear hm;have hn:=Qg5;have GX:=xH wr (.cells #[.string wd,.func (.func 174) #[] #[],.int .i64 kd,.int .i64 lst,.int .i64 mst,.bool se,.bool co] 176);have GT:=(Below.heap_alloc wr (.cells #[.string wd,.func (.func 174) #[] #[],.int .i64 kd,.int .i64 lst,.int .i64 mst,.bool se,.bool co] 176) w.heap.size te).trans HGW.out;have HBA:=hQ (HBW.out.alloc HBW.out.size (.cells #[.string wd,.func (.func 174) #[] #[],.int .i64 kd,.int .i64 lst,.int .i64 mst,.bool se,.bool co] 176));go_wp2_with fail
     generalize wr.alloc (.cells #[.string wd,.func (.func 174) #[] #[],.int .i64 kd,.int .i64 lst,.int .i64 mst,.bool se,.bool co] 176)=WA at GX GT HBA ⊢
     generalize hxb:wr.heap.size=xb at GX ⊢
     have f1:WA.cell? ⟨xb,1,none⟩=some (.func (.func 174) #[] #[]):=Qab GX 1 _ rfl;have f2:WA.cell? ⟨w.heap.size,1,none⟩=some (.string v.text):=Qab GT 1 _ rfl
     go_region_held3 (fun w'=>w'.cell? ⟨xb,1,none⟩=some (.func (.func 174) #[] #[])∧w'.cell? ⟨w.heap.size,1,none⟩=some (.string v.text)) (go_keep)
      (first | (go_at_call 186;refine (Qgj v.text _ HS.out).mono ?_;rintro e w2 ⟨rfl,rfl⟩) | (go_at_call 174;refine (Qqb ⟨Qa3 (bl v.text),⟨#[]⟩,v.text⟩ _).mono ?_;rintro e w3 ⟨rfl,hb3⟩;have HB3:=hQ hb3;have g1:=(xJ (w:=WA.drew) (a:=⟨xb,1,none⟩) (hb3.block xb (Qaa GX))).trans f1;have g2:=(xJ (w:=WA.drew) (a:=⟨w.heap.size,1,none⟩) (hb3.block w.heap.size (Qaa GT))).trans f2;clear hb3 f1 f2))
     all_goals
      go_wp2
      go_ret
      exact ⟨by rw [HM2.out];rfl,HBA.out.drew.trans (HB3.out.mono HBA.out.size)⟩
    ·have HM2:=hQ (show Qbq l v.text=Qbv 2 (Qa3 (bl v.text)) v.text from hm);obtain ⟨p0,p1,p2,p3,p4,p5,p6⟩:=hc
     replace p1:wr.cell? ⟨pk,j*7+1,none⟩=some (.func (.func 176) #[] #[]):=p1
     clear hm;have hn:=Qg5;have GX:=xH wr (.cells #[.string wd,.func (.func 176) #[] #[],.int .i64 kd,.int .i64 lst,.int .i64 mst,.bool se,.bool co] 176);have GT:=(Below.heap_alloc wr (.cells #[.string wd,.func (.func 176) #[] #[],.int .i64 kd,.int .i64 lst,.int .i64 mst,.bool se,.bool co] 176) w.heap.size te).trans HGW.out;have HBA:=hQ (HBW.out.alloc HBW.out.size (.cells #[.string wd,.func (.func 176) #[] #[],.int .i64 kd,.int .i64 lst,.int .i64 mst,.bool se,.bool co] 176));go_wp2_with fail
     generalize wr.alloc (.cells #[.string wd,.func (.func 176) #[] #[],.int .i64 kd,.int .i64 lst,.int .i64 mst,.bool se,.bool co] 176)=WA at GX GT HBA ⊢
     generalize hxb:wr.heap.size=xb at GX ⊢
     have f1:WA.cell? ⟨xb,1,none⟩=some (.func (.func 176) #[] #[]):=Qab GX 1 _ rfl;have f2:WA.cell? ⟨w.heap.size,1,none⟩=some (.string v.text):=Qab GT 1 _ rfl
     go_region_held3 (fun w'=>w'.cell? ⟨xb,1,none⟩=some (.func (.func 176) #[] #[])∧w'.cell? ⟨w.heap.size,1,none⟩=some (.string v.text)) (go_keep)
      (first | (go_at_call 186;refine (Qgj v.text _ HS.out).mono ?_;rintro e w2 ⟨rfl,rfl⟩) | (go_at_call 176;refine (Qjr ⟨Qa3 (bl v.text),⟨#[]⟩,v.text⟩ _).mono ?_;rintro e w3 ⟨rfl,hb3⟩;have HB3:=hQ hb3;have g1:=(xJ (w:=WA.drew) (a:=⟨xb,1,none⟩) (hb3.block xb (Qaa GX))).trans f1;have g2:=(xJ (w:=WA.drew) (a:=⟨w.heap.size,1,none⟩) (hb3.block w.heap.size (Qaa GT))).trans f2;clear hb3 f1 f2))
     all_goals
      go_wp2
      go_ret
      exact ⟨by rw [HM2.out];rfl,HBA.out.drew.trans (HB3.out.mono HBA.out.size)⟩
    ·have HM2:=hQ (show Qbq l v.text=Qbv 3 (Qa3 (bl v.text)) v.text from hm);obtain ⟨p0,p1,p2,p3,p4,p5,p6⟩:=hc
     replace p1:wr.cell? ⟨pk,j*7+1,none⟩=some (.func (.func 178) #[] #[]):=p1
     clear hm;have hn:=Qg5;have GX:=xH wr (.cells #[.string wd,.func (.func 178) #[] #[],.int .i64 kd,.int .i64 lst,.int .i64 mst,.bool se,.bool co] 176);have GT:=(Below.heap_alloc wr (.cells #[.string wd,.func (.func 178) #[] #[],.int .i64 kd,.int .i64 lst,.int .i64 mst,.bool se,.bool co] 176) w.heap.size te).trans HGW.out;have HBA:=hQ (HBW.out.alloc HBW.out.size (.cells #[.string wd,.func (.func 178) #[] #[],.int .i64 kd,.int .i64 lst,.int .i64 mst,.bool se,.bool co] 176));go_wp2_with fail
     generalize wr.alloc (.cells #[.string wd,.func (.func 178) #[] #[],.int .i64 kd,.int .i64 lst,.int .i64 mst,.bool se,.bool co] 176)=WA at GX GT HBA ⊢
     generalize hxb:wr.heap.size=xb at GX ⊢
     have f1:WA.cell? ⟨xb,1,none⟩=some (.func (.func 178) #[] #[]):=Qab GX 1 _ rfl;have f2:WA.cell? ⟨w.heap.size,1,none⟩=some (.string v.text):=Qab GT 1 _ rfl
     go_region_held3 (fun w'=>w'.cell? ⟨xb,1,none⟩=some (.func (.func 178) #[] #[])∧w'.cell? ⟨w.heap.size,1,none⟩=some (.string v.text)) (go_keep)
      (first | (go_at_call 186;refine (Qgj v.text _ HS.out).mono ?_;rintro e w2 ⟨rfl,rfl⟩) | (go_at_call 178;refine (Qhn ⟨Qa3 (bl v.text),⟨#[]⟩,v.text⟩ _).mono ?_;rintro e w3 ⟨rfl,hb3⟩;have HB3:=hQ hb3;have g1:=(xJ (w:=WA.drew) (a:=⟨xb,1,none⟩) (hb3.block xb (Qaa GX))).trans f1;have g2:=(xJ (w:=WA.drew) (a:=⟨w.heap.size,1,none⟩) (hb3.block w.heap.size (Qaa GT))).trans f2;clear hb3 f1 f2))
     all_goals
      go_wp2
      go_ret
      exact ⟨by rw [HM2.out];rfl,HBA.out.drew.trans (HB3.out.mono HBA.out.size)⟩
    ·have HM2:=hQ (show Qbq l v.text=Qbv 4 (Qa3 (bl v.text)) v.text from hm);obtain ⟨p0,p1,p2,p3,p4,p5,p6⟩:=hc
     replace p1:wr.cell? ⟨pk,j*7+1,none⟩=some (.func (.func 223) #[] #[]):=p1
     clear hm;have hn:=Qg5;have GX:=xH wr (.cells #[.string wd,.func (.func 223) #[] #[],.int .i64 kd,.int .i64 lst,.int .i64 mst,.bool se,.bool co] 176);have GT:=(Below.heap_alloc wr (.cells #[.string wd,.func (.func 223) #[] #[],.int .i64 kd,.int .i64 lst,.int .i64 mst,.bool se,.bool co] 176) w.heap.size te).trans HGW.out;have HBA:=hQ (HBW.out.alloc HBW.out.size (.cells #[.string wd,.func (.func 223) #[] #[],.int .i64 kd,.int .i64 lst,.int .i64 mst,.bool se,.bool co] 176));go_wp2_with fail
     generalize wr.alloc (.cells #[.string wd,.func (.func 223) #[] #[],.int .i64 kd,.int .i64 lst,.int .i64 mst,.bool se,.bool co] 176)=WA at GX GT HBA ⊢
     generalize hxb:wr.heap.size=xb at GX ⊢
     have f1:WA.cell? ⟨xb,1,none⟩=some (.func (.func 223) #[] #[]):=Qab GX 1 _ rfl;have f2:WA.cell? ⟨w.heap.size,1,none⟩=some (.string v.text):=Qab GT 1 _ rfl
     go_region_held3 (fun w'=>w'.cell? ⟨xb,1,none⟩=some (.func (.func 223) #[] #[])∧w'.cell? ⟨w.heap.size,1,none⟩=some (.string v.text)) (go_keep)
      (first | (go_at_call 186;refine (Qgj v.text _ HS.out).mono ?_;rintro e w2 ⟨rfl,rfl⟩) | (go_at_call 223;refine (Qn5 ⟨Qa3 (bl v.text),⟨#[]⟩,v.text⟩ _).mono ?_;rintro e w3 ⟨rfl,hb3⟩;have HB3:=hQ hb3;have g1:=(xJ (w:=WA.drew) (a:=⟨xb,1,none⟩) (hb3.block xb (Qaa GX))).trans f1;have g2:=(xJ (w:=WA.drew) (a:=⟨w.heap.size,1,none⟩) (hb3.block w.heap.size (Qaa GT))).trans f2;clear hb3 f1 f2))
     all_goals
      go_wp2
      go_ret
      exact ⟨by rw [HM2.out];rfl,HBA.out.drew.trans (HB3.out.mono HBA.out.size)⟩
    ·have HM2:=hQ (show Qbq l v.text=Qbv 5 (Qa3 (bl v.text)) v.text from hm);obtain ⟨p0,p1,p2,p3,p4,p5,p6⟩:=hc
     replace p1:wr.cell? ⟨pk,j*7+1,none⟩=some (.func (.func 221) #[] #[]):=p1
     clear hm;have hn:=Qg5;have GX:=xH wr (.cells #[.string wd,.func (.func 221) #[] #[],.int .i64 kd,.int .i64 lst,.int .i64 mst,.bool se,.bool co] 176);have GT:=(Below.heap_alloc wr (.cells #[.string wd,.func (.func 221) #[] #[],.int .i64 kd,.int .i64 lst,.int .i64 mst,.bool se,.bool co] 176) w.heap.size te).trans HGW.out;have HBA:=hQ (HBW.out.alloc HBW.out.size (.cells #[.string wd,.func (.func 221) #[] #[],.int .i64 kd,.int .i64 lst,.int .i64 mst,.bool se,.bool co] 176));go_wp2_with fail
     generalize wr.alloc (.cells #[.string wd,.func (.func 221) #[] #[],.int .i64 kd,.int .i64 lst,.int .i64 mst,.bool se,.bool co] 176)=WA at GX GT HBA ⊢
     generalize hxb:wr.heap.size=xb at GX ⊢
     have f1:WA.cell? ⟨xb,1,none⟩=some (.func (.func 221) #[] #[]):=Qab GX 1 _ rfl;have f2:WA.cell? ⟨w.heap.size,1,none⟩=some (.string v.text):=Qab GT 1 _ rfl
     go_region_held3 (fun w'=>w'.cell? ⟨xb,1,none⟩=some (.func (.func 221) #[] #[])∧w'.cell? ⟨w.heap.size,1,none⟩=some (.string v.text)) (go_keep)
      (first | (go_at_call 186;refine (Qgj v.text _ HS.out).mono ?_;rintro e w2 ⟨rfl,rfl⟩) | (go_at_call 221;refine (Qn3 ⟨Qa3 (bl v.text),⟨#[]⟩,v.text⟩ _).mono ?_;rintro e w3 ⟨rfl,hb3⟩;have HB3:=hQ hb3;have g1:=(xJ (w:=WA.drew) (a:=⟨xb,1,none⟩) (hb3.block xb (Qaa GX))).trans f1;have g2:=(xJ (w:=WA.drew) (a:=⟨w.heap.size,1,none⟩) (hb3.block w.heap.size (Qaa GT))).trans f2;clear hb3 f1 f2))
     all_goals
      go_wp2
      go_ret
      exact ⟨by rw [HM2.out];rfl,HBA.out.drew.trans (HB3.out.mono HBA.out.size)⟩
    ·have HM2:=hQ (show Qbq l v.text=Qbv 6 (Qa3 (bl v.text)) v.text from hm);obtain ⟨p0,p1,p2,p3,p4,p5,p6⟩:=hc
     replace p1:wr.cell? ⟨pk,j*7+1,none⟩=some (.func (.func 222) #[] #[]):=p1
     clear hm;have hn:=Qg5;have GX:=xH wr (.cells #[.string wd,.func (.func 222) #[] #[],.int .i64 kd,.int .i64 lst,.int .i64 mst,.bool se,.bool co] 176);have GT:=(Below.heap_alloc wr (.cells #[.string wd,.func (.func 222) #[] #[],.int .i64 kd,.int .i64 lst,.int .i64 mst,.bool se,.bool co] 176) w.heap.size te).trans HGW.out;have HBA:=hQ (HBW.out.alloc HBW.out.size (.cells #[.string wd,.func (.func 222) #[] #[],.int .i64 kd,.int .i64 lst,.int .i64 mst,.bool se,.bool co] 176));go_wp2_with fail
     generalize wr.alloc (.cells #[.string wd,.func (.func 222) #[] #[],.int .i64 kd,.int .i64 lst,.int .i64 mst,.bool se,.bool co] 176)=WA at GX GT HBA ⊢
     generalize hxb:wr.heap.size=xb at GX ⊢
     have f1:WA.cell? ⟨xb,1,none⟩=some (.func (.func 222) #[] #[]):=Qab GX 1 _ rfl;have f2:WA.cell? ⟨w.heap.size,1,none⟩=some (.string v.text):=Qab GT 1 _ rfl
     go_region_held3 (fun w'=>w'.cell? ⟨xb,1,none⟩=some (.func (.func 222) #[] #[])∧w'.cell? ⟨w.heap.size,1,none⟩=some (.string v.text)) (go_keep)
      (first | (go_at_call 186;refine (Qgj v.text _ HS.out).mono ?_;rintro e w2 ⟨rfl,rfl⟩) | (go_at_call 222;refine (Qn4 ⟨Qa3 (bl v.text),⟨#[]⟩,v.text⟩ _).mono ?_;rintro e w3 ⟨rfl,hb3⟩;have HB3:=hQ hb3;have g1:=(xJ (w:=WA.drew) (a:=⟨xb,1,none⟩) (hb3.block xb (Qaa GX))).trans f1;have g2:=(xJ (w:=WA.drew) (a:=⟨w.heap.size,1,none⟩) (hb3.block w.heap.size (Qaa GT))).trans f2;clear hb3 f1 f2))
     all_goals
      go_wp2
      go_ret
      exact ⟨by rw [HM2.out];rfl,HBA.out.drew.trans (HB3.out.mono HBA.out.size)⟩
    ·have HM2:=hQ (show Qbq l v.text=Qbv 7 (Qa3 (bl v.text)) v.text from hm);obtain ⟨p0,p1,p2,p3,p4,p5,p6⟩:=hc
     replace p1:wr.cell? ⟨pk,j*7+1,none⟩=some (.func (.func 184) #[] #[]):=p1
     clear hm;have hn:=Qg5;have GX:=xH wr (.cells #[.string wd,.func (.func 184) #[] #[],.int .i64 kd,.int .i64 lst,.int .i64 mst,.bool se,.bool co] 176);have GT:=(Below.heap_alloc wr (.cells #[.string wd,.func (.func 184) #[] #[],.int .i64 kd,.int .i64 lst,.int .i64 mst,.bool se,.bool co] 176) w.heap.size te).trans HGW.out;have HBA:=hQ (HBW.out.alloc HBW.out.size (.cells #[.string wd,.func (.func 184) #[] #[],.int .i64 kd,.int .i64 lst,.int .i64 mst,.bool se,.bool co] 176));go_wp2_with fail
     generalize wr.alloc (.cells #[.string wd,.func (.func 184) #[] #[],.int .i64 kd,.int .i64 lst,.int .i64 mst,.bool se,.bool co] 176)=WA at GX GT HBA ⊢
     generalize hxb:wr.heap.size=xb at GX ⊢
     have f1:WA.cell? ⟨xb,1,none⟩=some (.func (.func 184) #[] #[]):=Qab GX 1 _ rfl;have f2:WA.cell? ⟨w.heap.size,1,none⟩=some (.string v.text):=Qab GT 1 _ rfl
     go_region_held3 (fun w'=>w'.cell? ⟨xb,1,none⟩=some (.func (.func 184) #[] #[])∧w'.cell? ⟨w.heap.size,1,none⟩=some (.string v.text)) (go_keep)
      (first | (go_at_call 186;refine (Qgj v.text _ HS.out).mono ?_;rintro e w2 ⟨rfl,rfl⟩) | (go_at_call 184;refine (Qgu ⟨Qa3 (bl v.text),⟨#[]⟩,v.text⟩ _).mono ?_;rintro e w3 ⟨rfl,hb3⟩;have HB3:=hQ hb3;have g1:=(xJ (w:=WA.drew) (a:=⟨xb,1,none⟩) (hb3.block xb (Qaa GX))).trans f1;have g2:=(xJ (w:=WA.drew) (a:=⟨w.heap.size,1,none⟩) (hb3.block w.heap.size (Qaa GT))).trans f2;clear hb3 f1 f2))
     all_goals
      go_wp2
      go_ret
      exact ⟨by rw [HM2.out];rfl,HBA.out.drew.trans (HB3.out.mono HBA.out.size)⟩
   ·have HR:=hQ (show Qbq l v.text=is v.text [] from by rw [HM.out,List.drop_eq_nil_of_le (by omega),Qbq]);have HGW:=hQ ((HB.out.block w.heap.size (by rw [HS0.out];omega)).trans HG0.out);have tx:wr.cell? ⟨w.heap.size,1,none⟩=some (.string v.text):=Qab HGW.out 1 _ rfl
    go_wp2
    go_ret
    exact ⟨by rw [HR.out];rfl,HBW.out⟩
end Go.Proofs.YtjidpkcjpgdafaaGreat
