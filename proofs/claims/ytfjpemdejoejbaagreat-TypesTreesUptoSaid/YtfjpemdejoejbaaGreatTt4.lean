/- Part 4 -/
import Derived.Test.YtfjpemdejoejbaaGreatTt1
set_option maxRecDepth 100000
set_option maxHeartbeats 4000000
namespace Go.Proofs.YtfjpemdejoejbaaGreat
inductive Tr where
 | mk (kind:Int) (text:ByteArray) (leads:List ByteArray) (kids:List Tr)
def Tr.kind:Tr→Int | .mk k _ _ _=>k
def Tr.text:Tr→ByteArray | .mk _ x _ _=>x
def Tr.leads:Tr→List ByteArray | .mk _ _ l _=>l
def Tr.kids:Tr→List Tr | .mk _ _ _ l=>l
def noTr:Tr:=.mk 0 ⟨#[]⟩ [] []
structure Part where
 word:ByteArray
 nm:Nat
 kids:Int
 least:Int
 most:Int
 series:Bool
 commas:Bool
def Qda (s:ByteArray):Part:=⟨s,0,0,0,0,false,false⟩
def Qhn (n:Nat):Part:=⟨⟨#[]⟩,n,0,0,0,false,false⟩
def Qp0 (s:Int):Part:=⟨⟨#[]⟩,0,s,0,1,false,false⟩
def Qkj (s least most:Int):Part:=⟨⟨#[]⟩,0,s,least,most,true,s != 1⟩
def Qae (k:Int):List Part :=
 if k=1 then [Qda ⟨#[109,111,100,117,108,101]⟩,Qhn 1,Qkj 1 0 40,Qda ⟨#[]⟩]
 else if k=2 then [Qda ⟨#[100,101,102]⟩,Qhn 2,Qda ⟨#[40]⟩,Qkj 2 0 8,Qda ⟨#[41]⟩,Qda ⟨#[58]⟩,Qp0 3,Qda ⟨#[61]⟩,Qp0 5]
 else if k=3 then [Qda ⟨#[116,121,112,101]⟩,Qhn 1,Qda ⟨#[61]⟩,Qp0 3]
 else if k=4 then [Qhn 2,Qda ⟨#[58]⟩,Qp0 3]
 else if k=5 then [Qda ⟨#[73,110,116]⟩]
 else if k=6 then [Qda ⟨#[84,101,120,116]⟩]
 else if k=7 then [Qda ⟨#[66,111,111,108]⟩]
 else if k=8 then [Qda ⟨#[91]⟩,Qp0 3,Qda ⟨#[93]⟩]
 else if k=9 then [Qhn 3]
 else if k=10 then [Qhn 5]
 else if k=11 then [Qhn 6]
 else if k=12 then [Qhn 2]
 else if k=13 then [Qda ⟨#[116,114,117,101]⟩]
 else if k=14 then [Qda ⟨#[102,97,108,115,101]⟩]
 else if k=15 then [Qda ⟨#[63]⟩]
 else if k=16 then [Qhn 4,Qda ⟨#[40]⟩,Qkj 4 0 8,Qda ⟨#[41]⟩]
 else if k=17 then [Qp0 5]
 else if k=18 then [Qda ⟨#[91]⟩,Qkj 5 1 16,Qda ⟨#[93]⟩]
 else if k=19 then [Qda ⟨#[105,102]⟩,Qp0 5,Qda ⟨#[116,104,101,110]⟩,Qp0 5,Qda ⟨#[101,108,115,101]⟩,Qp0 5]
 else if k=20 then [Qda ⟨#[108,101,116]⟩,Qhn 2,Qda ⟨#[61]⟩,Qp0 5,Qda ⟨#[105,110]⟩,Qp0 5]
 else if k=21 then [Qp0 6,Qhn 7,Qp0 7]
 else if k=22 then [Qda ⟨#[40]⟩,Qp0 5,Qda ⟨#[41]⟩]
 else []
def is (x:ByteArray) (l:List UInt8):Bool:=x.data.toList==l
def opB (x:ByteArray):Bool:=is x [43] || is x [45] || is x [42] || is x [60] || is x [61,61]
def Qba (n:Nat) (k:Int) (x:ByteArray):Bool :=
 if n=1 then k==2
 else if n=2 then k==1
 else if n=3 then k==2 || k==4
 else if n=4 then k==1 || k==3
 else if n=5 then k==5
 else if n=6 then k==6
 else opB x
def Qed (s k:Int):Bool :=
 if s=1 then k==2 || k==3
 else if s=2 then k==4
 else if s=3 then decide (5≤k) && decide (k≤9)
 else if s=4 then k==17
 else if k=17 then false
 else if k=19∨k=20 then s==5
 else if k=21 then s != 7
 else decide (10≤k) && decide (k≤22)
def Qee (x:Part) (t:Tok):Bool:=if x.nm=0 then is t.text x.word.data.toList else Qba x.nm t.kind t.text
structure PS where
 rest:List Tok
 read:Nat
 place:Nat
 e:Nat
def Zb3:Tok:=⟨0,⟨#[]⟩,⟨#[]⟩⟩
def Qad (p:PS):Tok:=p.rest.headD Zb3
def Qft (p:PS):PS:=if 1<p.rest.length then ⟨p.rest.drop 1,p.read+((Qad p).lead.size+(Qad p).text.size),p.place,p.e⟩ else p
def Qib (p:PS) (e:Nat):PS:=⟨p.rest.drop (p.rest.length-1),p.read,if p.e=0 then p.read+(Qad p).lead.size else p.place,if p.e=0 then e else p.e⟩
def Qef (x:ByteArray):Int:=if is x [100,101,102] then 2 else if is x [116,121,112,101] then 3 else 0
def Qb9 (t:Tok):Int:=if is t.text [73,110,116] then 5 else if is t.text [84,101,120,116] then 6 else if is t.text [66,111,111,108] then 7 else if is t.text [91] then 8 else if t.kind=2∨t.kind=4 then 9 else 0
def Qbg (p:PS):Int :=
 if (Qad p).kind=5 then 10
 else if (Qad p).kind=6 then 11
 else if (Qad p).kind=3 then 16
 else if (Qad p).kind=1 then (if is ((p.rest.drop 1).headD Zb3).text [40] then 16 else 12)
 else if is (Qad p).text [116,114,117,101] then 13
 else if is (Qad p).text [102,97,108,115,101] then 14
 else if is (Qad p).text [63] then 15
 else if is (Qad p).text [91] then 18
 else if is (Qad p).text [105,102] then 19
 else if is (Qad p).text [108,101,116] then 20
 else if is (Qad p).text [40] then 22
 else 0
def Qdg (s:Int) (p:PS):Int :=
 let k:=if s=1 then Qef (Qad p).text else if s=2 then (if (Qad p).kind=1 then 4 else 0) else if s=3 then Qb9 (Qad p) else Qbg p
 if Qed s k then k else 0
def Qbe (s:Int) (p:PS):Int:=if s=4 then (if Qdg 5 p≠0 then 17 else 0) else Qdg s p
def Qcu (T:Int→PS→Option (Tr × PS)) (x:Part):Nat→Bool→List Tr→List ByteArray→PS→Option (List Tr × List ByteArray × PS)
 | _,false,ks,cs,p=>some (ks,cs,p)
 | 0,true,_,_,_=>none
 | n+1,true,ks,cs,p =>
  match T x.kids (if (ks.length:Int)=x.most∧Qbe x.kids p≠0 then Qib p 3 else p) with
  | none=>none
  | some (t,q) =>
   if x.commas then
    if is (Qad q).text [44] then Qcu T x n true (ks ++ [t]) (cs ++ [(Qad q).lead]) (Qft q)
    else Qcu T x n false (ks ++ [t]) cs q
   else Qcu T x n (Qbe x.kids q != 0) (ks ++ [t]) cs q
def Qdh (x:Part) (text:ByteArray) (leads:List ByteArray) (p:PS):ByteArray × List ByteArray × PS :=
 if Qee x (Qad p) then (if x.nm=0 then text else (Qad p).text,leads ++ [(Qad p).lead],Qft p)
 else (text,leads,Qib p 2)
def Qff (T:Int→PS→Option (Tr × PS)) (n:Nat) (kind:Int):List Part→ByteArray→List ByteArray→List Tr→List ByteArray→PS→Option (Tr × PS)
 | [],text,leads,kids,commas,p=>some (.mk kind text (leads ++ commas) kids,p)
 | x :: l,text,leads,kids,commas,p =>
  if x.series then
   match Qcu T x n (decide (0<x.least) || Qbe x.kids p != 0) [] [] p with
   | none=>none
   | some (ks,cs,q)=>Qff T n kind l text leads (kids ++ ks) cs q
  else if x.kids≠0 then
   match T x.kids p with
   | none=>none
   | some (t,q)=>Qff T n kind l text leads (kids ++ [t]) commas q
  else Qff T n kind l (Qdh x text leads p).1 (Qdh x text leads p).2.1 kids commas (Qdh x text leads p).2.2
def Qy3 (T:Int→PS→Option (Tr × PS)) (s:Int):Nat→Tr→PS→Option (Tr × PS)
 | 0,_,_=>none
 | n+1,t,p =>
  if s=5∧opB (Qad p).text=true then
   match T 7 (Qft p) with
   | none=>none
   | some (u,q)=>Qy3 T s n (.mk 21 (Qad p).text [(Qad p).lead] [t,u]) q
  else some (t,p)
def Qgj:Nat→Int→PS→Option (Tr × PS)
 | 0,_,_=>none
 | n+1,s,p =>
  if Qbe s p=0 then some (noTr,Qib p 2)
  else match Qff (Qgj n) n (Qbe s p) (Qae (Qbe s p)) ⟨#[]⟩ [] [] [] p with
   | none=>none
   | some (t,q)=>Qy3 (Qgj n) s n t q
mutual
def Qd6:Tr→Nat→Bool
 | _,0=>false
 | .mk _ _ _ l,n+1=>Qfg l n
def Qfg:List Tr→Nat→Bool
 | [],_=>true
 | t :: r,n=>Qd6 t n && Qfg r n
end
def Qf5 (fuel:Nat) (s:ByteArray):Option (Tr × Nat × Nat) :=
 if (Qb7 s).e≠0 then some (noTr,(Qb7 s).place,(Qb7 s).e)
 else match Qff (Qgj fuel) fuel 1 (Qae 1) ⟨#[]⟩ [] [] [] ⟨(Qb7 s).toks ++ [⟨0,(Qb7 s).tail,⟨#[]⟩⟩],0,0,0⟩ with
  | none=>none
  | some (t,p)=>some (if p.e≠0 then (noTr,p.place,p.e) else if Qd6 t 40 then (t,0,0) else (noTr,0,4))
structure PSok (p:PS):Prop where
 last:∃ l e,p.rest=l ++ [e]∧e.kind=0
 len:p.rest.length≤65536
 bytes:p.read+(p.rest.map fun t=>t.lead.size+t.text.size).sum≤16777216
 place:p.place≤16777216
theorem PSok.ne {p:PS} (h:PSok p):p.rest≠[]:=by
 obtain ⟨l,e,h,_⟩:=h.last;rw [h];simp
theorem PSok.next {p:PS} (h:PSok p):p.rest=Qad p :: p.rest.drop 1:=by
 have:=h.ne
 unfold Qad;cases hr:p.rest with
 | nil=>exact absurd hr this
 | cons a r=>rfl
theorem PSok.nextLe {p:PS} (h:PSok p):p.read+((Qad p).lead.size+(Qad p).text.size)≤16777216:=by
 have h1:=h.bytes;rw [h.next,List.map_cons,List.sum_cons] at h1;omega
theorem PSok.take {p:PS} (h:PSok p):PSok (Qft p):=by
 unfold Qft
 split
 ·rename_i hl
  obtain ⟨l,e,hr,he⟩:=h.last
  refine ⟨⟨l.drop 1,e,?_,he⟩,by have:=h.len;simp only [List.length_drop];omega,?_,h.place⟩
  ·show p.rest.drop 1=_
   rw [hr] at hl ⊢;cases l with
   | nil=>simp at hl
   | cons a r=>rfl
  ·have h1:=h.bytes;rw [h.next,List.map_cons,List.sum_cons] at h1
   show p.read+_+((p.rest.drop 1).map _).sum≤_
   omega
 ·exact h
theorem Qp8 (l:List Nat) (n:Nat):(l.drop n).sum≤l.sum:=by
 induction l generalizing n with
 | nil=>simp
 | cons a r ih =>
  cases n with
  | zero=>simp
  | succ n=>rw [List.drop_succ_cons,List.sum_cons];have:=ih n;omega
theorem PSok.fail {p:PS} (h:PSok p) (e:Nat):PSok (Qib p e):=by
 obtain ⟨l,x,hr,hx⟩:=h.last;unfold Qib
 refine ⟨⟨[],x,?_,hx⟩,by have:=h.len;simp only [List.length_drop];omega,?_,?_⟩
 ·show p.rest.drop _=_
  rw [hr,xB];simp
 ·have h1:=h.bytes
  show p.read+((p.rest.drop _).map _).sum≤_
  rw [List.map_drop];have:=Qp8 (p.rest.map fun t=>t.lead.size+t.text.size) (p.rest.length-1)
  omega
 ·show (if p.e=0 then p.read+(Qad p).lead.size else p.place)≤_
  have h1:=h.nextLe;have h2:=h.place
  split <;> omega
theorem PSok.second {p:PS} (h:PSok p) (hk:(Qad p).kind≠0):2≤p.rest.length:=by
 obtain ⟨l,e,hr,he⟩:=h.last;cases l with
 | nil =>
  exfalso
  apply hk
  unfold Qad;rw [hr];exact he
 | cons a r=>rw [hr];simp
end Go.Proofs.YtfjpemdejoejbaaGreat
