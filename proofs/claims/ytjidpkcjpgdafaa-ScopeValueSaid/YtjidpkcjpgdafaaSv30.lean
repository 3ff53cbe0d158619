/- Part 30: Plain: binders around a node, variables with their binders. -/
import Derived.Test.YtjidpkcjpgdafaaSv1
import Derived.Test.YtjidpkcjpgdafaaSv29
set_option maxRecDepth 100000
set_option maxHeartbeats 4000000
namespace Go.Proofs.Ytjidpkcjpgdafaa
open Go.RowKit
abbrev Bnd:=ByteArray × List Int
def Qc3:List Tr → Nat → List Bnd
 | _,0=>[]
 | ks,n + 1=>((((ks[n]?).getD noTr).text,[(n:Int)])) :: Qc3 ks n
def Qcf (ks:List Tr):List Bnd:=Qc3 ks (ks.length - 2)
def Qbr (k:Int) (x:ByteArray) (ks:List Tr) (p:List Int) (i:Int):List Bnd :=
 if k = 20 ∧ i = 1 then [(x,p)] else if k = 2 ∧ i = (ks.length:Int) - 1 then Qcf ks else []
def Qda (st:List Bnd) (x:ByteArray):Option (List Int):=((st.reverse.find? fun b=>decide (b.1 = x))).map (·.2)
abbrev Vrb:=List Int × Option (List Int)
mutual
def varsT:Tr → List Int → List Bnd → List Vrb
 | .mk k x _ ks,p,st=>if k = 12 then [(p,Qda st x)] else varsL k x ks ks 0 p st
def varsL:Int → ByteArray → List Tr → List Tr → Nat → List Int → List Bnd → List Vrb
 | _,_,_,[],_,_,_=>[]
 | k,x,ks,a :: r,i,p,st=>varsT a (p ++ [(i:Int)]) (st ++ Qbr k x ks p i) ++ varsL k x ks r (i + 1) p st
end
def aroundP:Tr → List Int → List Int → List Bnd → List Bnd
 | _,_,[],st=>st
 | t,p,z :: r,st=>aroundP (kidAt t z) (p ++ [z]) r (st ++ Qbr t.kind t.text t.kids p z)
theorem varsT_eq (t:Tr) (p:List Int) (st:List Bnd):varsT t p st = if t.kind = 12 then [(p,Qda st t.text)] else varsL t.kind t.text t.kids t.kids 0 p st:=by
 cases t with
 | mk k x ls ks=>rw [varsT];rfl
theorem varsL_snoc (k:Int) (x:ByteArray) (ks:List Tr) (a:Tr) (p:List Int) (st:List Bnd):(l:List Tr) → (i:Nat) → varsL k x ks (l ++ [a]) i p st = varsL k x ks l i p st ++ varsT a (p ++ [((i + l.length:Nat):Int)]) (st ++ Qbr k x ks p ((i + l.length:Nat):Int))
 | [],i=>by rw [List.nil_append,varsL,varsL,varsL,List.append_nil,List.nil_append];rfl
 | b :: r,i=>by
  rw [List.cons_append,varsL,varsL,varsL_snoc k x ks a p st r (i + 1),List.append_assoc,xD,show i + 1 + r.length = i + (r.length + 1) from by omega]
theorem paramsS_len (ks:List Tr):(n:Nat) → (Qc3 ks n).length = n
 | 0=>by rw [Qc3];rfl
 | n + 1=>by rw [Qc3,xD,paramsS_len ks n]
theorem enterP_len (k:Int) (x:ByteArray) (ks:List Tr) (p:List Int) (i:Int):(Qbr k x ks p i).length ≤ ks.length + 1:=by
 unfold Qbr
 split
 ·simp
 ·split
  ·unfold Qcf
   rw [paramsS_len]
   omega
  ·simp
mutual
theorem varsT_len:(t:Tr) → (p:List Int) → (st:List Bnd) → (varsT t p st).length ≤ Qbl t
 | .mk k x _ ks,p,st=>by
  rw [varsT,Qbl]
  have:=varsL_len k x ks ks 0 p st
  split
  ·simp
  ·omega
theorem varsL_len:(k:Int) → (x:ByteArray) → (ks l:List Tr) → (i:Nat) → (p:List Int) → (st:List Bnd) → (varsL k x ks l i p st).length ≤ Qb2 l
 | _,_,_,[],_,_,_=>by rw [varsL];exact Nat.zero_le _
 | k,x,ks,a :: r,i,p,st=>by
  have h1:=varsT_len a (p ++ [(i:Int)]) (st ++ Qbr k x ks p i)
  have h2:=varsL_len k x ks r (i + 1) p st
  rw [varsL,Qb2,xB]
  omega
end
end Go.Proofs.Ytjidpkcjpgdafaa
