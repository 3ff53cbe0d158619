/- Part 29 -/
import Derived.Test.YtjidpkcjpgdafaaGreatSf28
set_option maxRecDepth 100000
set_option maxHeartbeats 4000000
namespace Go.Proofs.YtjidpkcjpgdafaaGreat
open Go.RowKit
abbrev Bnd:=ByteArray × List Int
def Qda:List Tr→Nat→List Bnd
 | _,0=>[]
 | ks,n+1=>((((ks[n]?).getD Qik).text,[(n:Int)])) :: Qda ks n
def Qdb (ks:List Tr):List Bnd:=Qda ks (ks.length-2)
def Qbw (k:Int) (x:ByteArray) (ks:List Tr) (p:List Int) (i:Int):List Bnd :=
 if k=20∧i=1 then [(x,p)] else if k=2∧i=(ks.length:Int)-1 then Qdb ks else []
def Qcc (st:List Bnd) (x:ByteArray):Option (List Int):=((st.reverse.find? fun b=>decide (b.1=x))).map (·.2)
abbrev Vrb:=List Int × Option (List Int)
mutual
def Qh9:Tr→List Int→List Bnd→List Vrb
 | .mk k x _ ks,p,st=>if k=12 then [(p,Qcc st x)] else Qgd k x ks ks 0 p st
def Qgd:Int→ByteArray→List Tr→List Tr→Nat→List Int→List Bnd→List Vrb
 | _,_,_,[],_,_,_=>[]
 | k,x,ks,a :: r,i,p,st=>Qh9 a (p ++ [(i:Int)]) (st ++ Qbw k x ks p i) ++ Qgd k x ks r (i+1) p st
end
def Qbj:Tr→List Int→List Int→List Bnd→List Bnd
 | _,_,[],st=>st
 | t,p,z :: r,st=>Qbj (Qfm t z) (p ++ [z]) r (st ++ Qbw t.kind t.text t.kids p z)
theorem Qmn (t:Tr) (p:List Int) (st:List Bnd):Qh9 t p st=if t.kind=12 then [(p,Qcc st t.text)] else Qgd t.kind t.text t.kids t.kids 0 p st:=by
 cases t with
 | mk k x ls ks=>rw [Qh9];rfl
theorem Qlr (k:Int) (x:ByteArray) (ks:List Tr) (a:Tr) (p:List Int) (st:List Bnd):(l:List Tr)→(i:Nat)→Qgd k x ks (l ++ [a]) i p st=Qgd k x ks l i p st ++ Qh9 a (p ++ [((i+l.length:Nat):Int)]) (st ++ Qbw k x ks p ((i+l.length:Nat):Int))
 | [],i=>by rw [xU,Qgd,Qgd,Qgd,List.append_nil,xU];rfl
 | b :: r,i=>by
  rw [xV,Qgd,Qgd,Qlr k x ks a p st r (i+1),xT,xD,show i+1+r.length=i+(r.length+1) from by omega]
theorem Qhj (ks:List Tr):(n:Nat)→(Qda ks n).length=n
 | 0=>by rw [Qda];rfl
 | n+1=>by rw [Qda,xD,Qhj ks n]
theorem Qr7 (k:Int) (x:ByteArray) (ks:List Tr) (p:List Int) (i:Int):(Qbw k x ks p i).length≤ks.length+1:=by
 unfold Qbw
 split
 ·simp
 ·split
  ·unfold Qdb
   rw [Qhj]
   omega
  ·simp
mutual
theorem Qno:(t:Tr)→(p:List Int)→(st:List Bnd)→(Qh9 t p st).length≤Qam t
 | .mk k x _ ks,p,st=>by
  rw [Qh9,Qam]
  have:=Qki k x ks ks 0 p st
  split
  ·simp
  ·omega
theorem Qki:(k:Int)→(x:ByteArray)→(ks l:List Tr)→(i:Nat)→(p:List Int)→(st:List Bnd)→(Qgd k x ks l i p st).length≤Qbb l
 | _,_,_,[],_,_,_=>by rw [Qgd];exact xZ _
 | k,x,ks,a :: r,i,p,st=>by
  have h1:=Qno a (p ++ [(i:Int)]) (st ++ Qbw k x ks p i)
  have h2:=Qki k x ks r (i+1) p st
  rw [Qgd,Qbb,xB]
  omega
end
end Go.Proofs.YtjidpkcjpgdafaaGreat
