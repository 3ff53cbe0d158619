/- Part 19 -/
import Derived.Test.YtjidpkcjpgdafaaGreatSf18
set_option maxRecDepth 100000
set_option maxHeartbeats 4000000
namespace Go.Proofs.YtjidpkcjpgdafaaGreat
open Go.RowKit
def Qo0:List Part→Nat
 | []=>0
 | x :: r=>(if x.kids=0 then 1 else 0)+Qo0 r
def Qcz:List Part→Int→Int→Int→Int × Int × Int
 | [],a,b,k=>(a,b,k)
 | x :: r,a,b,k=>if x.series then Qcz r x.least 9223372036854775807 k else if x.kids≠0 then Qcz r a b (k-1) else Qcz r a b k
def Qb6 (l:List Part) (k:Int):Int × Bool :=
 if l = []∨k<0 then (0,false) else ((Qcz l 0 0 k).2.2,decide ((Qcz l 0 0 k).1≤(Qcz l 0 0 k).2.2) && decide ((Qcz l 0 0 k).2.2≤(Qcz l 0 0 k).2.1))
def Qeb (x:Part) (n:Int):Int:=if x.series then n else if x.kids≠0 then 1 else 0
def Qgn:List Part→Int→Int
 | [],_=>0
 | x :: r,n=>(if x.commas && decide (1<n) then n-1 else 0)+Qgn r n
def Qle (kind kids:Int):Int :=
 if (Qb6 (Qae kind) kids).2 then (Qo0 (Qae kind):Int)+Qgn (Qae kind) (Qb6 (Qae kind) kids).1 else -1
theorem Parts.at {B:Nat} {w:World} {A:Option Addr} {l:List Part} (h:Parts B w A l) (hne:0<l.length):∃ pk cs,A=some ⟨pk,0,none⟩∧B≤pk∧w.heap[pk]? = some (.cells cs 176 (0,0))∧cs.toList=l.flatMap Qm4 :=
 h (by intro e;rw [e] at hne;simp at hne)
theorem Parts.keep {B:Nat} {w w':World} {A:Option Addr} {l:List Part} (h:Parts B w A l) (hb:Below w.heap.size w w'):Parts B w' A l:=fun hne=>by
 obtain ⟨b,cs,hA,hB,hh,hc⟩:=h hne
 exact ⟨b,cs,hA,hB,(hb.block b (Qab hh)).trans hh,hc⟩
theorem Qh1 (x:Part) (n:Int) (w:World):Calls Tryz.prog 130 #[.agg #[.string x.word,fnV x.nm,.int .i64 x.kids,.int .i64 x.least,.int .i64 x.most,.bool x.series,.bool x.commas],.int .i64 n] w fun e w'=>e = .returned (.int .i64 (Qeb x n))∧Below w.heap.size w w':=by
 obtain ⟨wd,nm,kd,lst,mst,se,co⟩:=x
 cases se
 ·cases hk:(kd != 0)
  ·have HR:=hQ (show Qeb ⟨wd,nm,kd,lst,mst,false,co⟩ n=0 from by unfold Qeb;simp at hk;simp [hk])
   go_enter Tryz.func130,Tryz.ntmps130
   go_wp2
   go_ret
   exact ⟨by rw [HR.out];rfl,(xC _ _).alloc (xA _) _⟩
  ·have HR:=hQ (show Qeb ⟨wd,nm,kd,lst,mst,false,co⟩ n=1 from by unfold Qeb;simp at hk;simp [hk])
   go_enter Tryz.func130,Tryz.ntmps130
   go_wp2
   go_ret
   exact ⟨by rw [HR.out];rfl,(xC _ _).alloc (xA _) _⟩
 ·go_enter Tryz.func130,Tryz.ntmps130
  go_wp2
  go_ret
  exact ⟨rfl,(xC _ _).alloc (xA _) _⟩
theorem Qtk (A:Option Addr) (c:Nat) (l:List Part) (k:Int) (w:World) (h:l = []∨k<0):Calls Tryz.prog 128 #[.slice A l.length c,.int .i64 k] w fun e w'=>e = .returned (.tuple #[.int .i64 (Qb6 l k).1,.bool (Qb6 l k).2])∧Below w.heap.size w w':=by
 have HR:=hQ (show Qb6 l k=(0,false) from by unfold Qb6;rw [xO h])
 by_cases hne:l.length=0
 ·have hz:((l.length:Int)==0)=true:=by simp [hne]
  clear h hne
  go_enter Tryz.func128,Tryz.ntmps128
  go_wp2
  refine bodyPost_ret (v:=.tuple #[.int .i64 0,.bool false]) (by simp [results,Tryz.results128,go_sem]) rfl ?_
  exact ⟨by rw [HR.out],xC _ _⟩
 ·have hz:((l.length:Int)==0)=false:=Qdh (by omega)
  have hk:k<0:=h.elim (fun e=>by rw [e] at hne;simp at hne) id
  clear h hne
  go_enter Tryz.func128,Tryz.ntmps128
  go_wp2
  refine bodyPost_ret (v:=.tuple #[.int .i64 0,.bool false]) (by simp [results,Tryz.results128,go_sem]) rfl ?_
  exact ⟨by rw [HR.out],xC _ _⟩
theorem Qtl {B:Nat} (A:Option Addr) (c:Nat) (l:List Part) (k0:Int) (w:World) (hp:Parts B w A l) (hl:l.length≤9) (hne:l≠[]) (hk0:0≤k0) (hk1:k0≤140737488355328):Calls Tryz.prog 128 #[.slice A l.length c,.int .i64 k0] w fun e w'=>e = .returned (.tuple #[.int .i64 (Qb6 l k0).1,.bool (Qb6 l k0).2])∧Below w.heap.size w w':=by
 have HR:=hQ (show Qb6 l k0=((Qcz l 0 0 k0).2.2,decide ((Qcz l 0 0 k0).1≤(Qcz l 0 0 k0).2.2) && decide ((Qcz l 0 0 k0).2.2≤(Qcz l 0 0 k0).2.1)) from by unfold Qb6;rw [xN (by intro e;rcases e with e | e;exact hne e;omega)])
 have hpos:0<l.length:=by cases l with
  | nil=>exact absurd rfl hne
  | cons a r=>simp
 obtain ⟨pk,cs,rfl,_,hh,hc⟩:=hp.at hpos
 have HH:=hQ hh
 have HC:=hQ hc
 have hz:((l.length:Int)==0)=false:=Qdh (by omega)
 have hkn:decide (k0<0)=false:=xR (by omega)
 have HK0:=hQ hk0
 have HK1:=hQ hk1
 have HL:=hQ hl
 clear hp hh hc hne hpos
 go_enter Tryz.func128,Tryz.ntmps128
 go_wp2
 go_loopg [1,6,7,19] l.length (fun g u1 u6 u7 u19 wr=>∃ (j:Nat) (k a b:Int),u1 = .int .i64 k∧u6 = .int .i64 a∧u7 = .int .i64 b∧u19 = .int .i64 j∧j+g=l.length∧k0-j≤k∧k≤k0∧Qcz l 0 0 k0=Qcz (l.drop j) a b k∧Below w.heap.size w wr)
 case atStart=>exact ⟨0,k0,0,0,rfl,rfl,rfl,rfl,by omega,by omega,by omega,rfl,xC _ _⟩
 case round =>
  obtain ⟨j,k,a,b,rfl,rfl,rfl,rfl,hj,hka,hkb,hf,hb⟩:=hrel
  have HJ:=hQ hj
  have HF:=hQ hf
  have HB:=hQ hb
  have HKA:=hQ hka
  have HKB:=hQ hkb
  clear hj hf hb
  by_cases hlt:j<l.length
  ·obtain ⟨x,hx⟩:∃ x,l[j]? = some x:=⟨_,xF hlt⟩
   obtain ⟨p0,p1,p2,p3,p4,p5,p6⟩:=Qh0 ((HB.out.block pk (Qab HH.out)).trans HH.out) HC.out j x hx
   obtain ⟨hjl,hje⟩:=xP.1 hx
   have hf:=HF.out
   rw [List.drop_eq_getElem_cons hjl,hje,Qcz] at hf
   have hj0:(0:Int)≤(j:Int):=by omega
   have hj1:(j:Int)<(l.length:Int):=by omega
   have hj2:(j:Int)+1≤10:=by omega
   have hk2:(-10:Int)≤k:=by omega
   have hk3:k≤140737488355328:=by omega
   have HLT:=hQ hlt
   clear hx hjl hje hka hkb
   cases hse:x.series
   ·rw [xN (by rw [hse];decide)] at hf
    rw [hse] at p5
    clear hse
    by_cases hk:x.kids=0
    ·rw [xN (by omega)] at hf
     have HF2:=hQ hf
     have hk':(x.kids != 0)=false:=by simp [hk]
     clear hf hk
     go_wp2
     go_roundg (gk-1)
     case measure=>have:=HJ.out;have:=HLT.out;omega
     case rel=>exact ⟨j+1,k,a,b,rfl,rfl,rfl,by go_num,by have:=HJ.out;have:=HLT.out;omega,by have:=HKA.out;omega,HKB.out,HF2.out,HB.out.alloc HB.out.size _⟩
    ·rw [xO hk] at hf
     have HF2:=hQ hf
     have hk':(x.kids != 0)=true:=by simpa using hk
     clear hf hk
     go_wp2
     go_roundg (gk-1)
     case measure=>have:=HJ.out;have:=HLT.out;omega
     case rel=>exact ⟨j+1,k-1,a,b,by go_num,rfl,rfl,by go_num,by have:=HJ.out;have:=HLT.out;omega,by have:=HKA.out;omega,by have:=HKB.out;omega,HF2.out,HB.out.alloc HB.out.size _⟩
   ·rw [xO hse] at hf
    rw [hse] at p5
    have HF2:=hQ hf
    clear hf hse
    go_wp2
    go_roundg (gk-1)
    case measure=>have:=HJ.out;have:=HLT.out;omega
    case rel=>exact ⟨j+1,k,x.least,9223372036854775807,rfl,rfl,rfl,by go_num,by have:=HJ.out;have:=HLT.out;omega,by have:=HKA.out;omega,HKB.out,HF2.out,HB.out.alloc HB.out.size _⟩
  ·have HF2:=hQ (show Qcz l 0 0 k0=(a,b,k) from by have:=HF.out;rwa [List.drop_eq_nil_of_le (by omega),Qcz] at this)
   have HR2:=hQ (show Qb6 l k0=(k,decide (a≤k) && decide (k≤b)) from by rw [HR.out,HF2.out])
   clear hka hkb
   cases hak:decide (a≤k)
   all_goals
    go_wp2
    refine bodyPost_ret (v:=.tuple #[.int .i64 k,.bool (decide (a≤k) && decide (k≤b))]) (by simp [results,Tryz.results128,go_sem, *]) rfl ?_
    exact ⟨by rw [HR2.out],HB.out⟩
theorem Qgz {B:Nat} (A:Option Addr) (c:Nat) (l:List Part) (k:Int) (w:World) (hp:Parts B w A l) (hl:l.length≤9) (hk1:k≤140737488355328):Calls Tryz.prog 128 #[.slice A l.length c,.int .i64 k] w fun e w'=>e = .returned (.tuple #[.int .i64 (Qb6 l k).1,.bool (Qb6 l k).2])∧Below w.heap.size w w':=by
 by_cases h:l = []∨k<0
 ·exact Qtk A c l k w h
 ·exact Qtl A c l k w hp hl (fun e=>h (.inl e)) (by omega) hk1
theorem Qv1 (l:List Part):∀ a b k,(Qcz l a b k).2.2≤k:=by
 induction l with
 | nil=>intro a b k;exact Int.le_refl _
 | cons x r ih =>
  intro a b k
  unfold Qcz
  split
  ·exact ih _ _ _
  ·split
   ·have:=ih a b (k-1)
    omega
   ·exact ih _ _ _
theorem Qmi (l:List Part) (k:Int) (h:(Qb6 l k).2=true):(Qb6 l k).1≤k∧0≤k∧l≠[]:=by
 unfold Qb6 at h ⊢
 by_cases hc:l = []∨k<0
 ·rw [xO hc] at h
  cases h
 ·rw [xN hc]
  exact ⟨Qv1 l 0 0 k,by omega,fun e=>hc (.inl e)⟩
end Go.Proofs.YtjidpkcjpgdafaaGreat
