/- Part 10 -/
import Derived.Test.YtfjpemdejoejbaaGreatTp9
set_option maxRecDepth 100000
set_option maxHeartbeats 4000000
namespace Go.Proofs.YtfjpemdejoejbaaGreat
open Go.Proofs.Tryz Go.RowKit
def Qcn:List Part->Nat
 | []=>0
 | x :: r=>(if x.kids=0 then 1 else 0)+Qcn r
def Qea:List Part->Int->Int->Int->Int × Int × Int
 | [],a,b,k=>(a,b,k)
 | x :: r,a,b,k=>if x.series then Qea r x.least 9223372036854775807 k else if x.kids≠0 then Qea r a b (k-1) else Qea r a b k
def Qca(l:List Part)(k:Int):Int × Bool :=
 if l = []\/k<0 then (0,false) else ((Qea l 0 0 k).2.2,decide ((Qea l 0 0 k).1<=(Qea l 0 0 k).2.2) && decide ((Qea l 0 0 k).2.2<=(Qea l 0 0 k).2.1))
def Qb9(x:Part)(n:Int):Int:=if x.series then n else if x.kids≠0 then 1 else 0
def Qiu:List Part->Int->Int
 | [],_=>0
 | x :: r,n=>(if x.commas && decide (1<n) then n-1 else 0)+Qiu r n
def Ql5(kind kids:Int):Int :=
 if (Qca (Qae kind) kids).2 then (Qcn (Qae kind):Int)+Qiu (Qae kind) (Qca (Qae kind) kids).1 else -1
theorem Parts.at{B:Nat}{w:World}{A:yE}{l:List Part}(h:Parts B w A l)(hne:0<l.length):∃ pk cs,A=some ⟨pk,0,none⟩/\B<=pk/\w.heap[pk]? = some (.cells cs 132 (0,0))/\cs.toList=l.flatMap Qrd :=
 h (by intro e;rw[e]at hne;simp at hne)
theorem Parts.keep{B:Nat}{w w':World}{A:yE}{l:List Part}(h:Parts B w A l)(hb:Below w.heap.size w w'):Parts B w' A l:=fun hne=>by
 obtain⟨b,cs,hA,hB,hh,hc⟩:=h hne;exact⟨b,cs,hA,hB,(hb.block b (Qaa hh)).trans hh,hc⟩
theorem Qkl(x:Part)(n:Int)(w:World):Calls prog 96 #[.agg #[.string x.word,fnV x.nm,.int .i64 x.kids,.int .i64 x.least,.int .i64 x.most,.bool x.series,.bool x.commas],.int .i64 n] w fun e w'=>e = .returned (.int .i64 (Qb9 x n))/\Below w.heap.size w w':=by
 obtain⟨wd,nm,kd,lst,mst,se,co⟩:=x
 cases se
 ·cases hk:(kd != 0)
  ·have HR:=hQ (show Qb9 ⟨wd,nm,kd,lst,mst,false,co⟩ n=0 from by unfold Qb9;simp at hk;simp[hk]);go_enter func96,ntmps96;go_wp2;go_ret;exact⟨by rw[HR.out];rfl,(xC _ _).alloc (xA _) _⟩
  ·have HR:=hQ (show Qb9 ⟨wd,nm,kd,lst,mst,false,co⟩ n=1 from by unfold Qb9;simp at hk;simp[hk]);go_enter func96,ntmps96;go_wp2;go_ret;exact⟨by rw[HR.out];rfl,(xC _ _).alloc (xA _) _⟩
 ·go_enter func96,ntmps96;go_wp2;go_ret;exact⟨rfl,(xC _ _).alloc (xA _) _⟩
theorem Zap(A:yE)(c:Nat)(l:List Part)(k:Int)(w:World)(h:l = []\/k<0):Calls prog 94 #[.slice A l.length c,.int .i64 k] w fun e w'=>e = .returned (.tuple #[.int .i64 (Qca l k).1,.bool (Qca l k).2])/\Below w.heap.size w w':=by
 have HR:=hQ (show Qca l k=(0,false) from by unfold Qca;rw[xO h])
 by_cases hne:l.length=0
 ·have hz:((l.length:Int)==0)=true:=by simp[hne]
  clear h hne;go_enter func94,ntmps94;go_wp2;refine bodyPost_ret (v:=.tuple #[.int .i64 0,.bool false]) (by simp[results,results94,go_sem]) rfl ?_;exact⟨by rw[HR.out],xC _ _⟩
 ·have hz:((l.length:Int)==0)=false:=Qcr (by omega);have hk:k<0:=h.elim (fun e=>by rw[e]at hne;simp at hne) id;clear h hne;go_enter func94,ntmps94;go_wp2;refine bodyPost_ret (v:=.tuple #[.int .i64 0,.bool false]) (by simp[results,results94,go_sem]) rfl ?_;exact⟨by rw[HR.out],xC _ _⟩
theorem Zaq{B:Nat}(A:yE)(c:Nat)(l:List Part)(k0:Int)(w:World)(hp:Parts B w A l)(hl:l.length<=9)(hne:l≠[])(hk0:0<=k0)(hk1:k0<=140737488355328):Calls prog 94 #[.slice A l.length c,.int .i64 k0] w fun e w'=>e = .returned (.tuple #[.int .i64 (Qca l k0).1,.bool (Qca l k0).2])/\Below w.heap.size w w':=by
 have HR:=hQ (show Qca l k0=((Qea l 0 0 k0).2.2,decide ((Qea l 0 0 k0).1<=(Qea l 0 0 k0).2.2) && decide ((Qea l 0 0 k0).2.2<=(Qea l 0 0 k0).2.1)) from by unfold Qca;rw[xN (by intro e;rcases e with e | e;exact hne e;omega)])
 have hpos:0<l.length:=by cases l with
  | nil=>exact absurd rfl hne
  | cons a r=>simp
 obtain⟨pk,cs,rfl,_,hh,hc⟩:=hp.at hpos;have HH:=hQ hh;have HC:=hQ hc;have hz:((l.length:Int)==0)=false:=Qcr (by omega);have hkn:decide (k0<0)=false:=xR (by omega);have HK0:=hQ hk0;have HK1:=hQ hk1;have HL:=hQ hl;clear hp hh hc hne hpos;go_enter func94,ntmps94;go_wp2
 go_loopg [1,6,7,19] l.length (fun g u1 u6 u7 u19 wr=>∃ (j:Nat) (k a b:Int),u1 = .int .i64 k/\u6 = .int .i64 a/\u7 = .int .i64 b/\u19 = .int .i64 j/\j+g=l.length/\k0-j<=k/\k<=k0/\Qea l 0 0 k0=Qea (l.drop j) a b k/\Below w.heap.size w wr)
 case atStart=>exact⟨0,k0,0,0,rfl,rfl,rfl,rfl,by omega,by omega,by omega,rfl,xC _ _⟩
 case round =>
  obtain⟨j,k,a,b,rfl,rfl,rfl,rfl,hj,hka,hkb,hf,hb⟩:=hrel;have HJ:=hQ hj;have HF:=hQ hf;have HB:=hQ hb;have HKA:=hQ hka;have HKB:=hQ hkb;clear hj hf hb
  by_cases hlt:j<l.length
  ·obtain⟨x,hx⟩:∃ x,l[j]? = some x:=⟨_,xF hlt⟩;obtain⟨p0,p1,p2,p3,p4,p5,p6⟩:=Qkk ((HB.out.block pk (Qaa HH.out)).trans HH.out) HC.out j x hx;obtain⟨hjl,hje⟩:=xP.1 hx;have hf:=HF.out;rw[List.drop_eq_getElem_cons hjl,hje,Qea]at hf;have hj0:(0:Int)<=(j:Int):=by omega
   have hj1:(j:Int)<(l.length:Int):=by omega
   have hj2:(j:Int)+1<=10:=by omega
   have hk2:(-10:Int)<=k:=by omega
   have hk3:k<=140737488355328:=by omega
   have HLT:=hQ hlt;clear hx hjl hje hka hkb
   cases hse:x.series
   ·rw[xN (by rw[hse];decide)]at hf;rw[hse]at p5;clear hse
    by_cases hk:x.kids=0
    ·rw[xN (by omega)]at hf;have HF2:=hQ hf;have hk':(x.kids != 0)=false:=by simp[hk]
     clear hf hk;go_wp2
     go_roundg (gk-1)
     case measure=>have:=HJ.out;have:=HLT.out;omega
     case rel=>exact⟨j+1,k,a,b,rfl,rfl,rfl,by go_num,by have:=HJ.out;have:=HLT.out;omega,by have:=HKA.out;omega,HKB.out,HF2.out,HB.out.alloc HB.out.size _⟩
    ·rw[xO hk]at hf;have HF2:=hQ hf;have hk':(x.kids != 0)=true:=by simpa using hk
     clear hf hk;go_wp2
     go_roundg (gk-1)
     case measure=>have:=HJ.out;have:=HLT.out;omega
     case rel=>exact⟨j+1,k-1,a,b,by go_num,rfl,rfl,by go_num,by have:=HJ.out;have:=HLT.out;omega,by have:=HKA.out;omega,by have:=HKB.out;omega,HF2.out,HB.out.alloc HB.out.size _⟩
   ·rw[xO hse]at hf;rw[hse]at p5;have HF2:=hQ hf;clear hf hse;go_wp2
    go_roundg (gk-1)
    case measure=>have:=HJ.out;have:=HLT.out;omega
    case rel=>exact⟨j+1,k,x.least,9223372036854775807,rfl,rfl,rfl,by go_num,by have:=HJ.out;have:=HLT.out;omega,by have:=HKA.out;omega,HKB.out,HF2.out,HB.out.alloc HB.out.size _⟩
  ·have HF2:=hQ (show Qea l 0 0 k0=(a,b,k) from by have:=HF.out;rwa[List.drop_eq_nil_of_le (by omega),Qea]at this);have HR2:=hQ (show Qca l k0=(k,decide (a<=k) && decide (k<=b)) from by rw[HR.out,HF2.out]);clear hka hkb;cases hak:decide (a<=k)
   all_goals
    go_wp2;refine bodyPost_ret (v:=.tuple #[.int .i64 k,.bool (decide (a<=k) && decide (k<=b))]) (by simp[results,results94,go_sem, *]) rfl ?_;exact⟨by rw[HR2.out],HB.out⟩
theorem Qi7{B:Nat}(A:yE)(c:Nat)(l:List Part)(k:Int)(w:World)(hp:Parts B w A l)(hl:l.length<=9)(hk1:k<=140737488355328):Calls prog 94 #[.slice A l.length c,.int .i64 k] w fun e w'=>e = .returned (.tuple #[.int .i64 (Qca l k).1,.bool (Qca l k).2])/\Below w.heap.size w w':=by
 by_cases h:l = []\/k<0
 ·exact Zap A c l k w h
 ·exact Zaq A c l k w hp hl (fun e=>h (.inl e)) (by omega) hk1
theorem Zfv(l:List Part):∀ a b k,(Qea l a b k).2.2<=k:=by
 induction l with
 | nil=>intro a b k;exact Int.le_refl _
 | cons x r ih =>
  intro a b k;unfold Qea
  split
  ·exact ih _ _ _
  ·split
   ·have:=ih a b (k-1)
    omega
   ·exact ih _ _ _
theorem Qqf(l:List Part)(k:Int)(h:(Qca l k).2=true):(Qca l k).1<=k/\0<=k/\l≠[]:=by
 unfold Qca at h |-
 by_cases hc:l = []\/k<0
 ·rw[xO hc]at h;cases h
 ·rw[xN hc];exact⟨Zfv l 0 0 k,by omega,fun e=>hc (.inl e)⟩
def Qba:List Part->yD->Bool
 | [],x=>is x []
 | p :: r,x=>if p.nm=0 then Qba r x else Qbv p.nm (Qap (bl x)) x
theorem Zfw{n:Nat}(h:n<=7):n=0\/n=1\/n=2\/n=3\/n=4\/n=5\/n=6\/n=7:=by omega
theorem Qkm{B:Nat}(A:yE)(c:Nat)(l:List Part)(v:TV)(w:World)(hp:Parts B w A l)(hl:l.length<=9)(hnm:∀ x∈l,x.nm<=7)(hs:v.text.size<maxLen):Calls prog 95 #[.agg #[.int .i64 v.kind,.string v.text,.slice v.la v.ll v.lc,.slice v.ka v.kl v.kc],.slice A l.length c] w fun e w'=>e = .returned (.bool (Qba l v.text))/\Below w.heap.size w w':=by
 have HS:=hQ hs;have HNM:=hQ hnm;have HW0:=hQ ((xC w.heap.size w).alloc (xA _) (.cells #[.int .i64 v.kind,.string v.text,.slice v.la v.ll v.lc,.slice v.ka v.kl v.kc] 25));have HG0:=hQ (xH w (.cells #[.int .i64 v.kind,.string v.text,.slice v.la v.ll v.lc,.slice v.ka v.kl v.kc] 25));have HS0:=hQ (show(w.alloc (.cells #[.int .i64 v.kind,.string v.text,.slice v.la v.ll v.lc,.slice v.ka v.kl v.kc] 25)).heap.size=w.heap.size+1 from by simp);have hie:(v.text.toList.isEmpty)=is v.text []:=by rw[ByteArray.toList_eq];unfold is;cases v.text.data.toList <;> rfl
 have hfc:=Zh9;have hfg:=Qvc;clear hs hnm
 by_cases hne:l.length=0
 ·have HL:=hQ (List.eq_nil_of_length_eq_zero hne);go_enter func95,ntmps95;go_wp2
  go_loopg [9] 0 (fun _ u9 wr=>u9 = .int .i64 0/\wr=w.alloc (.cells #[.int .i64 v.kind,.string v.text,.slice v.la v.ll v.lc,.slice v.ka v.kl v.kc] 25))
  case atStart=>exact⟨rfl,rfl⟩
  case round =>
   obtain⟨rfl,rfl⟩:=hrel;go_wp2;go_ret;exact⟨by rw[HL.out];rfl,HW0.out⟩
 ·obtain⟨pk,cs,rfl,_,hh,hc⟩:=hp.at (by omega);have HH:=hQ ((Below.heap_alloc w (.cells #[.int .i64 v.kind,.string v.text,.slice v.la v.ll v.lc,.slice v.ka v.kl v.kc] 25) pk (Qaa hh)).trans hh);have HC:=hQ hc;have HL:=hQ hl;clear hp hh hc;go_enter func95,ntmps95;go_wp2;generalize w.alloc (.cells #[.int .i64 v.kind,.string v.text,.slice v.la v.ll v.lc,.slice v.ka v.kl v.kc] 25)=W0 at HW0 HG0 HS0 HH |-
  go_loopg [9] l.length (fun g u9 wr=>∃ j:Nat,u9 = .int .i64 j/\j+g=l.length/\Qba l v.text=Qba (l.drop j) v.text/\Below W0.heap.size W0 wr)
  case atStart=>exact⟨0,rfl,by omega,rfl,xC _ _⟩
  case round =>
   obtain⟨j,rfl,hj,hm,hb⟩:=hrel;have HJ:=hQ hj;have HM:=hQ hm;have HB:=hQ hb;clear hj hm hb;have HBW:=hQ (yC HW0.out HB.out)
   by_cases hlt:j<l.length
   ·obtain⟨x,hx⟩:∃ x,l[j]? = some x:=⟨_,xF hlt⟩;have hc:=Qkk ((HB.out.block pk (Qaa HH.out)).trans HH.out) HC.out j x hx;obtain⟨hjl,hje⟩:=xP.1 hx;have hm:=HM.out;rw[List.drop_eq_getElem_cons hjl,hje,Qba]at hm;have hn7:=HNM.out x (yA hx);obtain⟨wd,nm,kd,lst,mst,se,co⟩:=x;have hj0:(0:Int)<=(j:Int):=by omega
    have hj1:(j:Int)<(l.length:Int):=by omega
    have hj2:(j:Int)+1<=10:=by have:=HL.out;omega
    have HLT:=hQ hlt;have HGW:=hQ ((HB.out.block w.heap.size (by rw[HS0.out];omega)).trans HG0.out);have tx:wr.cell? ⟨w.heap.size,1,none⟩=some (.string v.text):=Qab HGW.out 1 _ rfl;have te:w.heap.size<wr.heap.size:=Qaa HGW.out;clear hx hjl hje
    rcases Zfw hn7 with rfl | rfl | rfl | rfl | rfl | rfl | rfl | rfl
    ·have HM2:=hQ (show Qba l v.text=Qba (l.drop (j+1)) v.text from hm);obtain⟨p0,p1,p2,p3,p4,p5,p6⟩:=hc;replace p1:wr.cell? ⟨pk,j*7+1,none⟩=some .nilFunc:=p1;clear hm tx te;have hn:=Zag;go_wp2
     go_roundg (gk-1)
     case measure=>have:=HJ.out;have:=HLT.out;omega
     case rel=>exact⟨j+1,by go_num,by have:=HJ.out;have:=HLT.out;omega,HM2.out,HB.out.alloc HB.out.size _⟩
    ·have HM2:=hQ (show Qba l v.text=Qbv 1 (Qap (bl v.text)) v.text from hm);obtain⟨p0,p1,p2,p3,p4,p5,p6⟩:=hc;replace p1:wr.cell? ⟨pk,j*7+1,none⟩=some (.func (.func 124) #[] #[]):=p1;clear hm;have hn:=Qhc;have GX:=xH wr (.cells #[.string wd,.func (.func 124) #[] #[],.int .i64 kd,.int .i64 lst,.int .i64 mst,.bool se,.bool co] 132);have GT:=(Below.heap_alloc wr (.cells #[.string wd,.func (.func 124) #[] #[],.int .i64 kd,.int .i64 lst,.int .i64 mst,.bool se,.bool co] 132) w.heap.size te).trans HGW.out;have HBA:=hQ (HBW.out.alloc HBW.out.size (.cells #[.string wd,.func (.func 124) #[] #[],.int .i64 kd,.int .i64 lst,.int .i64 mst,.bool se,.bool co] 132));go_wp2_with fail;generalize wr.alloc (.cells #[.string wd,.func (.func 124) #[] #[],.int .i64 kd,.int .i64 lst,.int .i64 mst,.bool se,.bool co] 132)=WA at GX GT HBA |-;generalize hxb:wr.heap.size=xb at GX |-;have f1:WA.cell? ⟨xb,1,none⟩=some (.func (.func 124) #[] #[]):=Qab GX 1 _ rfl;have f2:WA.cell? ⟨w.heap.size,1,none⟩=some (.string v.text):=Qab GT 1 _ rfl
     go_region_held3 (fun w'=>w'.cell? ⟨xb,1,none⟩=some (.func (.func 124) #[] #[])/\w'.cell? ⟨w.heap.size,1,none⟩=some (.string v.text)) (go_keep)
      (first | (go_at_call 139;refine(Qgt v.text _ HS.out).mono ?_;rintro e w2⟨rfl,rfl⟩) | (go_at_call 124;refine(Qre ⟨Qap (bl v.text),⟨#[]⟩,v.text⟩ _).mono ?_;rintro e w3⟨rfl,hb3⟩;have HB3:=hQ hb3;have g1:=(xJ (w:=WA.drew) (a:=⟨xb,1,none⟩) (hb3.block xb (Qaa GX))).trans f1;have g2:=(xJ (w:=WA.drew) (a:=⟨w.heap.size,1,none⟩) (hb3.block w.heap.size (Qaa GT))).trans f2;clear hb3 f1 f2))
     all_goals
      go_wp2;go_ret;exact⟨by rw[HM2.out];rfl,HBA.out.drew.trans (HB3.out.mono HBA.out.size)⟩
    ·have HM2:=hQ (show Qba l v.text=Qbv 2 (Qap (bl v.text)) v.text from hm);obtain⟨p0,p1,p2,p3,p4,p5,p6⟩:=hc;replace p1:wr.cell? ⟨pk,j*7+1,none⟩=some (.func (.func 126) #[] #[]):=p1;clear hm;have hn:=Qhc;have GX:=xH wr (.cells #[.string wd,.func (.func 126) #[] #[],.int .i64 kd,.int .i64 lst,.int .i64 mst,.bool se,.bool co] 132);have GT:=(Below.heap_alloc wr (.cells #[.string wd,.func (.func 126) #[] #[],.int .i64 kd,.int .i64 lst,.int .i64 mst,.bool se,.bool co] 132) w.heap.size te).trans HGW.out;have HBA:=hQ (HBW.out.alloc HBW.out.size (.cells #[.string wd,.func (.func 126) #[] #[],.int .i64 kd,.int .i64 lst,.int .i64 mst,.bool se,.bool co] 132));go_wp2_with fail;generalize wr.alloc (.cells #[.string wd,.func (.func 126) #[] #[],.int .i64 kd,.int .i64 lst,.int .i64 mst,.bool se,.bool co] 132)=WA at GX GT HBA |-;generalize hxb:wr.heap.size=xb at GX |-;have f1:WA.cell? ⟨xb,1,none⟩=some (.func (.func 126) #[] #[]):=Qab GX 1 _ rfl;have f2:WA.cell? ⟨w.heap.size,1,none⟩=some (.string v.text):=Qab GT 1 _ rfl
     go_region_held3 (fun w'=>w'.cell? ⟨xb,1,none⟩=some (.func (.func 126) #[] #[])/\w'.cell? ⟨w.heap.size,1,none⟩=some (.string v.text)) (go_keep)
      (first | (go_at_call 139;refine(Qgt v.text _ HS.out).mono ?_;rintro e w2⟨rfl,rfl⟩) | (go_at_call 126;refine(Qke ⟨Qap (bl v.text),⟨#[]⟩,v.text⟩ _).mono ?_;rintro e w3⟨rfl,hb3⟩;have HB3:=hQ hb3;have g1:=(xJ (w:=WA.drew) (a:=⟨xb,1,none⟩) (hb3.block xb (Qaa GX))).trans f1;have g2:=(xJ (w:=WA.drew) (a:=⟨w.heap.size,1,none⟩) (hb3.block w.heap.size (Qaa GT))).trans f2;clear hb3 f1 f2))
     all_goals
      go_wp2;go_ret;exact⟨by rw[HM2.out];rfl,HBA.out.drew.trans (HB3.out.mono HBA.out.size)⟩
    ·have HM2:=hQ (show Qba l v.text=Qbv 3 (Qap (bl v.text)) v.text from hm);obtain⟨p0,p1,p2,p3,p4,p5,p6⟩:=hc;replace p1:wr.cell? ⟨pk,j*7+1,none⟩=some (.func (.func 128) #[] #[]):=p1;clear hm;have hn:=Qhc;have GX:=xH wr (.cells #[.string wd,.func (.func 128) #[] #[],.int .i64 kd,.int .i64 lst,.int .i64 mst,.bool se,.bool co] 132);have GT:=(Below.heap_alloc wr (.cells #[.string wd,.func (.func 128) #[] #[],.int .i64 kd,.int .i64 lst,.int .i64 mst,.bool se,.bool co] 132) w.heap.size te).trans HGW.out;have HBA:=hQ (HBW.out.alloc HBW.out.size (.cells #[.string wd,.func (.func 128) #[] #[],.int .i64 kd,.int .i64 lst,.int .i64 mst,.bool se,.bool co] 132));go_wp2_with fail;generalize wr.alloc (.cells #[.string wd,.func (.func 128) #[] #[],.int .i64 kd,.int .i64 lst,.int .i64 mst,.bool se,.bool co] 132)=WA at GX GT HBA |-;generalize hxb:wr.heap.size=xb at GX |-;have f1:WA.cell? ⟨xb,1,none⟩=some (.func (.func 128) #[] #[]):=Qab GX 1 _ rfl;have f2:WA.cell? ⟨w.heap.size,1,none⟩=some (.string v.text):=Qab GT 1 _ rfl
     go_region_held3 (fun w'=>w'.cell? ⟨xb,1,none⟩=some (.func (.func 128) #[] #[])/\w'.cell? ⟨w.heap.size,1,none⟩=some (.string v.text)) (go_keep)
      (first | (go_at_call 139;refine(Qgt v.text _ HS.out).mono ?_;rintro e w2⟨rfl,rfl⟩) | (go_at_call 128;refine(Qh7 ⟨Qap (bl v.text),⟨#[]⟩,v.text⟩ _).mono ?_;rintro e w3⟨rfl,hb3⟩;have HB3:=hQ hb3;have g1:=(xJ (w:=WA.drew) (a:=⟨xb,1,none⟩) (hb3.block xb (Qaa GX))).trans f1;have g2:=(xJ (w:=WA.drew) (a:=⟨w.heap.size,1,none⟩) (hb3.block w.heap.size (Qaa GT))).trans f2;clear hb3 f1 f2))
     all_goals
      go_wp2;go_ret;exact⟨by rw[HM2.out];rfl,HBA.out.drew.trans (HB3.out.mono HBA.out.size)⟩
    ·have HM2:=hQ (show Qba l v.text=Qbv 4 (Qap (bl v.text)) v.text from hm);obtain⟨p0,p1,p2,p3,p4,p5,p6⟩:=hc;replace p1:wr.cell? ⟨pk,j*7+1,none⟩=some (.func (.func 156) #[] #[]):=p1;clear hm;have hn:=Qhc;have GX:=xH wr (.cells #[.string wd,.func (.func 156) #[] #[],.int .i64 kd,.int .i64 lst,.int .i64 mst,.bool se,.bool co] 132);have GT:=(Below.heap_alloc wr (.cells #[.string wd,.func (.func 156) #[] #[],.int .i64 kd,.int .i64 lst,.int .i64 mst,.bool se,.bool co] 132) w.heap.size te).trans HGW.out;have HBA:=hQ (HBW.out.alloc HBW.out.size (.cells #[.string wd,.func (.func 156) #[] #[],.int .i64 kd,.int .i64 lst,.int .i64 mst,.bool se,.bool co] 132));go_wp2_with fail;generalize wr.alloc (.cells #[.string wd,.func (.func 156) #[] #[],.int .i64 kd,.int .i64 lst,.int .i64 mst,.bool se,.bool co] 132)=WA at GX GT HBA |-;generalize hxb:wr.heap.size=xb at GX |-;have f1:WA.cell? ⟨xb,1,none⟩=some (.func (.func 156) #[] #[]):=Qab GX 1 _ rfl;have f2:WA.cell? ⟨w.heap.size,1,none⟩=some (.string v.text):=Qab GT 1 _ rfl
     go_region_held3 (fun w'=>w'.cell? ⟨xb,1,none⟩=some (.func (.func 156) #[] #[])/\w'.cell? ⟨w.heap.size,1,none⟩=some (.string v.text)) (go_keep)
      (first | (go_at_call 139;refine(Qgt v.text _ HS.out).mono ?_;rintro e w2⟨rfl,rfl⟩) | (go_at_call 156;refine(Qoq ⟨Qap (bl v.text),⟨#[]⟩,v.text⟩ _).mono ?_;rintro e w3⟨rfl,hb3⟩;have HB3:=hQ hb3;have g1:=(xJ (w:=WA.drew) (a:=⟨xb,1,none⟩) (hb3.block xb (Qaa GX))).trans f1;have g2:=(xJ (w:=WA.drew) (a:=⟨w.heap.size,1,none⟩) (hb3.block w.heap.size (Qaa GT))).trans f2;clear hb3 f1 f2))
     all_goals
      go_wp2;go_ret;exact⟨by rw[HM2.out];rfl,HBA.out.drew.trans (HB3.out.mono HBA.out.size)⟩
    ·have HM2:=hQ (show Qba l v.text=Qbv 5 (Qap (bl v.text)) v.text from hm);obtain⟨p0,p1,p2,p3,p4,p5,p6⟩:=hc;replace p1:wr.cell? ⟨pk,j*7+1,none⟩=some (.func (.func 154) #[] #[]):=p1;clear hm;have hn:=Qhc;have GX:=xH wr (.cells #[.string wd,.func (.func 154) #[] #[],.int .i64 kd,.int .i64 lst,.int .i64 mst,.bool se,.bool co] 132);have GT:=(Below.heap_alloc wr (.cells #[.string wd,.func (.func 154) #[] #[],.int .i64 kd,.int .i64 lst,.int .i64 mst,.bool se,.bool co] 132) w.heap.size te).trans HGW.out;have HBA:=hQ (HBW.out.alloc HBW.out.size (.cells #[.string wd,.func (.func 154) #[] #[],.int .i64 kd,.int .i64 lst,.int .i64 mst,.bool se,.bool co] 132));go_wp2_with fail;generalize wr.alloc (.cells #[.string wd,.func (.func 154) #[] #[],.int .i64 kd,.int .i64 lst,.int .i64 mst,.bool se,.bool co] 132)=WA at GX GT HBA |-;generalize hxb:wr.heap.size=xb at GX |-;have f1:WA.cell? ⟨xb,1,none⟩=some (.func (.func 154) #[] #[]):=Qab GX 1 _ rfl;have f2:WA.cell? ⟨w.heap.size,1,none⟩=some (.string v.text):=Qab GT 1 _ rfl
     go_region_held3 (fun w'=>w'.cell? ⟨xb,1,none⟩=some (.func (.func 154) #[] #[])/\w'.cell? ⟨w.heap.size,1,none⟩=some (.string v.text)) (go_keep)
      (first | (go_at_call 139;refine(Qgt v.text _ HS.out).mono ?_;rintro e w2⟨rfl,rfl⟩) | (go_at_call 154;refine(Qoo ⟨Qap (bl v.text),⟨#[]⟩,v.text⟩ _).mono ?_;rintro e w3⟨rfl,hb3⟩;have HB3:=hQ hb3;have g1:=(xJ (w:=WA.drew) (a:=⟨xb,1,none⟩) (hb3.block xb (Qaa GX))).trans f1;have g2:=(xJ (w:=WA.drew) (a:=⟨w.heap.size,1,none⟩) (hb3.block w.heap.size (Qaa GT))).trans f2;clear hb3 f1 f2))
     all_goals
      go_wp2;go_ret;exact⟨by rw[HM2.out];rfl,HBA.out.drew.trans (HB3.out.mono HBA.out.size)⟩
    ·have HM2:=hQ (show Qba l v.text=Qbv 6 (Qap (bl v.text)) v.text from hm);obtain⟨p0,p1,p2,p3,p4,p5,p6⟩:=hc;replace p1:wr.cell? ⟨pk,j*7+1,none⟩=some (.func (.func 155) #[] #[]):=p1;clear hm;have hn:=Qhc;have GX:=xH wr (.cells #[.string wd,.func (.func 155) #[] #[],.int .i64 kd,.int .i64 lst,.int .i64 mst,.bool se,.bool co] 132);have GT:=(Below.heap_alloc wr (.cells #[.string wd,.func (.func 155) #[] #[],.int .i64 kd,.int .i64 lst,.int .i64 mst,.bool se,.bool co] 132) w.heap.size te).trans HGW.out;have HBA:=hQ (HBW.out.alloc HBW.out.size (.cells #[.string wd,.func (.func 155) #[] #[],.int .i64 kd,.int .i64 lst,.int .i64 mst,.bool se,.bool co] 132));go_wp2_with fail;generalize wr.alloc (.cells #[.string wd,.func (.func 155) #[] #[],.int .i64 kd,.int .i64 lst,.int .i64 mst,.bool se,.bool co] 132)=WA at GX GT HBA |-;generalize hxb:wr.heap.size=xb at GX |-;have f1:WA.cell? ⟨xb,1,none⟩=some (.func (.func 155) #[] #[]):=Qab GX 1 _ rfl;have f2:WA.cell? ⟨w.heap.size,1,none⟩=some (.string v.text):=Qab GT 1 _ rfl
     go_region_held3 (fun w'=>w'.cell? ⟨xb,1,none⟩=some (.func (.func 155) #[] #[])/\w'.cell? ⟨w.heap.size,1,none⟩=some (.string v.text)) (go_keep)
      (first | (go_at_call 139;refine(Qgt v.text _ HS.out).mono ?_;rintro e w2⟨rfl,rfl⟩) | (go_at_call 155;refine(Qop ⟨Qap (bl v.text),⟨#[]⟩,v.text⟩ _).mono ?_;rintro e w3⟨rfl,hb3⟩;have HB3:=hQ hb3;have g1:=(xJ (w:=WA.drew) (a:=⟨xb,1,none⟩) (hb3.block xb (Qaa GX))).trans f1;have g2:=(xJ (w:=WA.drew) (a:=⟨w.heap.size,1,none⟩) (hb3.block w.heap.size (Qaa GT))).trans f2;clear hb3 f1 f2))
     all_goals
      go_wp2;go_ret;exact⟨by rw[HM2.out];rfl,HBA.out.drew.trans (HB3.out.mono HBA.out.size)⟩
    ·have HM2:=hQ (show Qba l v.text=Qbv 7 (Qap (bl v.text)) v.text from hm);obtain⟨p0,p1,p2,p3,p4,p5,p6⟩:=hc;replace p1:wr.cell? ⟨pk,j*7+1,none⟩=some (.func (.func 134) #[] #[]):=p1;clear hm;have hn:=Qhc;have GX:=xH wr (.cells #[.string wd,.func (.func 134) #[] #[],.int .i64 kd,.int .i64 lst,.int .i64 mst,.bool se,.bool co] 132);have GT:=(Below.heap_alloc wr (.cells #[.string wd,.func (.func 134) #[] #[],.int .i64 kd,.int .i64 lst,.int .i64 mst,.bool se,.bool co] 132) w.heap.size te).trans HGW.out;have HBA:=hQ (HBW.out.alloc HBW.out.size (.cells #[.string wd,.func (.func 134) #[] #[],.int .i64 kd,.int .i64 lst,.int .i64 mst,.bool se,.bool co] 132));go_wp2_with fail;generalize wr.alloc (.cells #[.string wd,.func (.func 134) #[] #[],.int .i64 kd,.int .i64 lst,.int .i64 mst,.bool se,.bool co] 132)=WA at GX GT HBA |-;generalize hxb:wr.heap.size=xb at GX |-;have f1:WA.cell? ⟨xb,1,none⟩=some (.func (.func 134) #[] #[]):=Qab GX 1 _ rfl;have f2:WA.cell? ⟨w.heap.size,1,none⟩=some (.string v.text):=Qab GT 1 _ rfl
     go_region_held3 (fun w'=>w'.cell? ⟨xb,1,none⟩=some (.func (.func 134) #[] #[])/\w'.cell? ⟨w.heap.size,1,none⟩=some (.string v.text)) (go_keep)
      (first | (go_at_call 139;refine(Qgt v.text _ HS.out).mono ?_;rintro e w2⟨rfl,rfl⟩) | (go_at_call 134;refine(Qg2 ⟨Qap (bl v.text),⟨#[]⟩,v.text⟩ _).mono ?_;rintro e w3⟨rfl,hb3⟩;have HB3:=hQ hb3;have g1:=(xJ (w:=WA.drew) (a:=⟨xb,1,none⟩) (hb3.block xb (Qaa GX))).trans f1;have g2:=(xJ (w:=WA.drew) (a:=⟨w.heap.size,1,none⟩) (hb3.block w.heap.size (Qaa GT))).trans f2;clear hb3 f1 f2))
     all_goals
      go_wp2;go_ret;exact⟨by rw[HM2.out];rfl,HBA.out.drew.trans (HB3.out.mono HBA.out.size)⟩
   ·have HR:=hQ (show Qba l v.text=is v.text [] from by rw[HM.out,List.drop_eq_nil_of_le (by omega),Qba]);have HGW:=hQ ((HB.out.block w.heap.size (by rw[HS0.out];omega)).trans HG0.out);have tx:wr.cell? ⟨w.heap.size,1,none⟩=some (.string v.text):=Qab HGW.out 1 _ rfl;go_wp2;go_ret;exact⟨by rw[HR.out];rfl,HBW.out⟩
end Go.Proofs.YtfjpemdejoejbaaGreat
