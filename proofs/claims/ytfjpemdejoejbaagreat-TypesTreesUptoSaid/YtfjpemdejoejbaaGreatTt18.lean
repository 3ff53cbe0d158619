/- Part 18 -/
import Derived.Test.YtfjpemdejoejbaaGreatTt17
set_option maxRecDepth 100000
set_option maxHeartbeats 4000000
namespace Go.Proofs.YtfjpemdejoejbaaGreat
open Go.RowKit
def Qql:List Part→Nat
 | []=>0
 | x :: r=>(if x.kids=0 then 1 else 0)+Qql r
def Qdb:List Part→Int→Int→Int→Int × Int × Int
 | [],a,b,k=>(a,b,k)
 | x :: r,a,b,k=>if x.series then Qdb r x.least 9223372036854775807 k else if x.kids≠0 then Qdb r a b (k-1) else Qdb r a b k
def Qck (l:List Part) (k:Int):Int × Bool :=
 if l = []∨k<0 then (0,false) else ((Qdb l 0 0 k).2.2,decide ((Qdb l 0 0 k).1≤(Qdb l 0 0 k).2.2) && decide ((Qdb l 0 0 k).2.2≤(Qdb l 0 0 k).2.1))
def Qep (x:Part) (n:Int):Int:=if x.series then n else if x.kids≠0 then 1 else 0
def Qg4:List Part→Int→Int
 | [],_=>0
 | x :: r,n=>(if x.commas && decide (1<n) then n-1 else 0)+Qg4 r n
def Ql1 (kind kids:Int):Int :=
 if (Qck (Qae kind) kids).2 then (Qql (Qae kind):Int)+Qg4 (Qae kind) (Qck (Qae kind) kids).1 else -1
theorem Parts.at {B:Nat} {w:World} {A:Option Addr} {l:List Part} (h:Parts B w A l) (hne:0<l.length):∃ pk cs,A=some ⟨pk,0,none⟩∧B≤pk∧w.heap[pk]? = some (.cells cs 132 (0,0))∧cs.toList=l.flatMap Qob :=
 h (by intro e;rw [e] at hne;simp at hne)
theorem Parts.keep {B:Nat} {w w':World} {A:Option Addr} {l:List Part} (h:Parts B w A l) (hb:Below w.heap.size w w'):Parts B w' A l:=fun hne=>by
 obtain ⟨b,cs,hA,hB,hh,hc⟩:=h hne;exact ⟨b,cs,hA,hB,(hb.block b (Qab hh)).trans hh,hc⟩
theorem Qij (x:Part) (n:Int) (w:World):Calls Tryz.prog 96 #[.agg #[.string x.word,fnV x.nm,.int .i64 x.kids,.int .i64 x.least,.int .i64 x.most,.bool x.series,.bool x.commas],.int .i64 n] w fun e w'=>e = .returned (.int .i64 (Qep x n))∧Below w.heap.size w w':=by
 obtain ⟨wd,nm,kd,lst,mst,se,co⟩:=x
 cases se
 ·cases hk:(kd != 0)
  ·have HR:=hQ (show Qep ⟨wd,nm,kd,lst,mst,false,co⟩ n=0 from by unfold Qep;simp at hk;simp [hk])
   go_enter Tryz.func96,Tryz.ntmps96
   go_wp2
   go_ret
   exact ⟨by rw [HR.out];rfl,(xC _ _).alloc (xA _) _⟩
  ·have HR:=hQ (show Qep ⟨wd,nm,kd,lst,mst,false,co⟩ n=1 from by unfold Qep;simp at hk;simp [hk])
   go_enter Tryz.func96,Tryz.ntmps96
   go_wp2
   go_ret
   exact ⟨by rw [HR.out];rfl,(xC _ _).alloc (xA _) _⟩
 ·go_enter Tryz.func96,Tryz.ntmps96
  go_wp2
  go_ret
  exact ⟨rfl,(xC _ _).alloc (xA _) _⟩
theorem Qv1 (A:Option Addr) (c:Nat) (l:List Part) (k:Int) (w:World) (h:l = []∨k<0):Calls Tryz.prog 94 #[.slice A l.length c,.int .i64 k] w fun e w'=>e = .returned (.tuple #[.int .i64 (Qck l k).1,.bool (Qck l k).2])∧Below w.heap.size w w':=by
 have HR:=hQ (show Qck l k=(0,false) from by unfold Qck;rw [xO h])
 by_cases hne:l.length=0
 ·have hz:((l.length:Int)==0)=true:=by simp [hne]
  clear h hne
  go_enter Tryz.func94,Tryz.ntmps94
  go_wp2
  refine bodyPost_ret (v:=.tuple #[.int .i64 0,.bool false]) (by simp [results,Tryz.results94,go_sem]) rfl ?_;exact ⟨by rw [HR.out],xC _ _⟩
 ·have hz:((l.length:Int)==0)=false:=Qcm (by omega);have hk:k<0:=h.elim (fun e=>by rw [e] at hne;simp at hne) id;clear h hne
  go_enter Tryz.func94,Tryz.ntmps94
  go_wp2
  refine bodyPost_ret (v:=.tuple #[.int .i64 0,.bool false]) (by simp [results,Tryz.results94,go_sem]) rfl ?_;exact ⟨by rw [HR.out],xC _ _⟩
theorem Qv2 {B:Nat} (A:Option Addr) (c:Nat) (l:List Part) (k0:Int) (w:World) (hp:Parts B w A l) (hl:l.length≤9) (hne:l≠[]) (hk0:0≤k0) (hk1:k0≤140737488355328):Calls Tryz.prog 94 #[.slice A l.length c,.int .i64 k0] w fun e w'=>e = .returned (.tuple #[.int .i64 (Qck l k0).1,.bool (Qck l k0).2])∧Below w.heap.size w w':=by
 have HR:=hQ (show Qck l k0=((Qdb l 0 0 k0).2.2,decide ((Qdb l 0 0 k0).1≤(Qdb l 0 0 k0).2.2) && decide ((Qdb l 0 0 k0).2.2≤(Qdb l 0 0 k0).2.1)) from by unfold Qck;rw [xN (by intro e;rcases e with e | e;exact hne e;omega)])
 have hpos:0<l.length:=by cases l with
  | nil=>exact absurd rfl hne
  | cons a r=>simp
 obtain ⟨pk,cs,rfl,_,hh,hc⟩:=hp.at hpos;have HH:=hQ hh;have HC:=hQ hc;have hz:((l.length:Int)==0)=false:=Qcm (by omega);have hkn:decide (k0<0)=false:=xR (by omega);have HK0:=hQ hk0;have HK1:=hQ hk1;have HL:=hQ hl;clear hp hh hc hne hpos
 go_enter Tryz.func94,Tryz.ntmps94
 go_wp2
 go_loopg [1,6,7,19] l.length (fun g u1 u6 u7 u19 wr=>∃ (j:Nat) (k a b:Int),u1 = .int .i64 k∧u6 = .int .i64 a∧u7 = .int .i64 b∧u19 = .int .i64 j∧j+g=l.length∧k0-j≤k∧k≤k0∧Qdb l 0 0 k0=Qdb (l.drop j) a b k∧Below w.heap.size w wr)
 case atStart=>exact ⟨0,k0,0,0,rfl,rfl,rfl,rfl,by omega,by omega,by omega,rfl,xC _ _⟩
 case round =>
  obtain ⟨j,k,a,b,rfl,rfl,rfl,rfl,hj,hka,hkb,hf,hb⟩:=hrel;have HJ:=hQ hj;have HF:=hQ hf;have HB:=hQ hb;have HKA:=hQ hka;have HKB:=hQ hkb;clear hj hf hb
  by_cases hlt:j<l.length
  ·obtain ⟨x,hx⟩:∃ x,l[j]? = some x:=⟨_,xF hlt⟩;obtain ⟨p0,p1,p2,p3,p4,p5,p6⟩:=Qii ((HB.out.block pk (Qab HH.out)).trans HH.out) HC.out j x hx;obtain ⟨hjl,hje⟩:=xP.1 hx;have hf:=HF.out;rw [List.drop_eq_getElem_cons hjl,hje,Qdb] at hf;have hj0:(0:Int)≤(j:Int):=by omega
   have hj1:(j:Int)<(l.length:Int):=by omega
   have hj2:(j:Int)+1≤10:=by omega
   have hk2:(-10:Int)≤k:=by omega
   have hk3:k≤140737488355328:=by omega
   have HLT:=hQ hlt;clear hx hjl hje hka hkb
   cases hse:x.series
   ·rw [xN (by rw [hse];decide)] at hf;rw [hse] at p5;clear hse
    by_cases hk:x.kids=0
    ·rw [xN (by omega)] at hf;have HF2:=hQ hf;have hk':(x.kids != 0)=false:=by simp [hk]
     clear hf hk
     go_wp2
     go_roundg (gk-1)
     case measure=>have:=HJ.out;have:=HLT.out;omega
     case rel=>exact ⟨j+1,k,a,b,rfl,rfl,rfl,by go_num,by have:=HJ.out;have:=HLT.out;omega,by have:=HKA.out;omega,HKB.out,HF2.out,HB.out.alloc HB.out.size _⟩
    ·rw [xO hk] at hf;have HF2:=hQ hf;have hk':(x.kids != 0)=true:=by simpa using hk
     clear hf hk
     go_wp2
     go_roundg (gk-1)
     case measure=>have:=HJ.out;have:=HLT.out;omega
     case rel=>exact ⟨j+1,k-1,a,b,by go_num,rfl,rfl,by go_num,by have:=HJ.out;have:=HLT.out;omega,by have:=HKA.out;omega,by have:=HKB.out;omega,HF2.out,HB.out.alloc HB.out.size _⟩
   ·rw [xO hse] at hf;rw [hse] at p5;have HF2:=hQ hf;clear hf hse
    go_wp2
    go_roundg (gk-1)
    case measure=>have:=HJ.out;have:=HLT.out;omega
    case rel=>exact ⟨j+1,k,x.least,9223372036854775807,rfl,rfl,rfl,by go_num,by have:=HJ.out;have:=HLT.out;omega,by have:=HKA.out;omega,HKB.out,HF2.out,HB.out.alloc HB.out.size _⟩
  ·have HF2:=hQ (show Qdb l 0 0 k0=(a,b,k) from by have:=HF.out;rwa [List.drop_eq_nil_of_le (by omega),Qdb] at this);have HR2:=hQ (show Qck l k0=(k,decide (a≤k) && decide (k≤b)) from by rw [HR.out,HF2.out]);clear hka hkb;cases hak:decide (a≤k)
   all_goals
    go_wp2
    refine bodyPost_ret (v:=.tuple #[.int .i64 k,.bool (decide (a≤k) && decide (k≤b))]) (by simp [results,Tryz.results94,go_sem, *]) rfl ?_;exact ⟨by rw [HR2.out],HB.out⟩
theorem Qhf {B:Nat} (A:Option Addr) (c:Nat) (l:List Part) (k:Int) (w:World) (hp:Parts B w A l) (hl:l.length≤9) (hk1:k≤140737488355328):Calls Tryz.prog 94 #[.slice A l.length c,.int .i64 k] w fun e w'=>e = .returned (.tuple #[.int .i64 (Qck l k).1,.bool (Qck l k).2])∧Below w.heap.size w w':=by
 by_cases h:l = []∨k<0
 ·exact Qv1 A c l k w h
 ·exact Qv2 A c l k w hp hl (fun e=>h (.inl e)) (by omega) hk1
theorem Qzs (l:List Part):∀ a b k,(Qdb l a b k).2.2≤k:=by
 induction l with
 | nil=>intro a b k;exact Int.le_refl _
 | cons x r ih =>
  intro a b k;unfold Qdb
  split
  ·exact ih _ _ _
  ·split
   ·have:=ih a b (k-1)
    omega
   ·exact ih _ _ _
theorem Qnb (l:List Part) (k:Int) (h:(Qck l k).2=true):(Qck l k).1≤k∧0≤k∧l≠[]:=by
 unfold Qck at h ⊢
 by_cases hc:l = []∨k<0
 ·rw [xO hc] at h;cases h
 ·rw [xN hc];exact ⟨Qzs l 0 0 k,by omega,fun e=>hc (.inl e)⟩
end Go.Proofs.YtfjpemdejoejbaaGreat
