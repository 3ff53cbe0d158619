/- Part 4 -/
import Derived.Test.YtjidpkcjpgdafaaGreatSf1
set_option maxRecDepth 100000
set_option maxHeartbeats 4000000
namespace Go.Proofs.YtjidpkcjpgdafaaGreat
inductive Tr where
 | mk (kind:Int) (text:ByteArray) (leads:List ByteArray) (kids:List Tr)
def Tr.kind:Tr→Int | .mk k _ _ _=>k
def Tr.text:Tr→ByteArray | .mk _ x _ _=>x
def Tr.leads:Tr→List ByteArray | .mk _ _ l _=>l
def Tr.kids:Tr→List Tr | .mk _ _ _ l=>l
def Qik:Tr:=.mk 0 ⟨#[]⟩ [] []
structure Part where
 word:ByteArray
 nm:Nat
 kids:Int
 least:Int
 most:Int
 series:Bool
 commas:Bool
def Qcy (s:ByteArray):Part:=⟨s,0,0,0,0,false,false⟩
def Qg6 (n:Nat):Part:=⟨⟨#[]⟩,n,0,0,0,false,false⟩
def Qoe (s:Int):Part:=⟨⟨#[]⟩,0,s,0,1,false,false⟩
def Qj5 (s least most:Int):Part:=⟨⟨#[]⟩,0,s,least,most,true,s != 1⟩
def Qae (k:Int):List Part :=
 if k=1 then [Qcy ⟨#[109,111,100,117,108,101]⟩,Qg6 1,Qj5 1 0 40,Qcy ⟨#[]⟩]
 else if k=2 then [Qcy ⟨#[100,101,102]⟩,Qg6 2,Qcy ⟨#[40]⟩,Qj5 2 0 8,Qcy ⟨#[41]⟩,Qcy ⟨#[58]⟩,Qoe 3,Qcy ⟨#[61]⟩,Qoe 5]
 else if k=3 then [Qcy ⟨#[116,121,112,101]⟩,Qg6 1,Qcy ⟨#[61]⟩,Qoe 3]
 else if k=4 then [Qg6 2,Qcy ⟨#[58]⟩,Qoe 3]
 else if k=5 then [Qcy ⟨#[73,110,116]⟩]
 else if k=6 then [Qcy ⟨#[84,101,120,116]⟩]
 else if k=7 then [Qcy ⟨#[66,111,111,108]⟩]
 else if k=8 then [Qcy ⟨#[91]⟩,Qoe 3,Qcy ⟨#[93]⟩]
 else if k=9 then [Qg6 3]
 else if k=10 then [Qg6 5]
 else if k=11 then [Qg6 6]
 else if k=12 then [Qg6 2]
 else if k=13 then [Qcy ⟨#[116,114,117,101]⟩]
 else if k=14 then [Qcy ⟨#[102,97,108,115,101]⟩]
 else if k=15 then [Qcy ⟨#[63]⟩]
 else if k=16 then [Qg6 4,Qcy ⟨#[40]⟩,Qj5 4 0 8,Qcy ⟨#[41]⟩]
 else if k=17 then [Qoe 5]
 else if k=18 then [Qcy ⟨#[91]⟩,Qj5 5 1 16,Qcy ⟨#[93]⟩]
 else if k=19 then [Qcy ⟨#[105,102]⟩,Qoe 5,Qcy ⟨#[116,104,101,110]⟩,Qoe 5,Qcy ⟨#[101,108,115,101]⟩,Qoe 5]
 else if k=20 then [Qcy ⟨#[108,101,116]⟩,Qg6 2,Qcy ⟨#[61]⟩,Qoe 5,Qcy ⟨#[105,110]⟩,Qoe 5]
 else if k=21 then [Qoe 6,Qg6 7,Qoe 7]
 else if k=22 then [Qcy ⟨#[40]⟩,Qoe 5,Qcy ⟨#[41]⟩]
 else []
def is (x:ByteArray) (l:List UInt8):Bool:=x.data.toList==l
def opB (x:ByteArray):Bool:=is x [43] || is x [45] || is x [42] || is x [60] || is x [61,61]
def Qa9 (n:Nat) (k:Int) (x:ByteArray):Bool :=
 if n=1 then k==2
 else if n=2 then k==1
 else if n=3 then k==2 || k==4
 else if n=4 then k==1 || k==3
 else if n=5 then k==5
 else if n=6 then k==6
 else opB x
def Qd9 (s k:Int):Bool :=
 if s=1 then k==2 || k==3
 else if s=2 then k==4
 else if s=3 then decide (5≤k) && decide (k≤9)
 else if s=4 then k==17
 else if k=17 then false
 else if k=19∨k=20 then s==5
 else if k=21 then s != 7
 else decide (10≤k) && decide (k≤22)
def Qd5 (x:Part) (t:Tok):Bool:=if x.nm=0 then is t.text x.word.data.toList else Qa9 x.nm t.kind t.text
structure PS where
 rest:List Tok
 read:Nat
 place:Nat
 e:Nat
def Qxt:Tok:=⟨0,⟨#[]⟩,⟨#[]⟩⟩
def Qad (p:PS):Tok:=p.rest.headD Qxt
def Qfi (p:PS):PS:=if 1<p.rest.length then ⟨p.rest.drop 1,p.read+((Qad p).lead.size+(Qad p).text.size),p.place,p.e⟩ else p
def Qht (p:PS) (e:Nat):PS:=⟨p.rest.drop (p.rest.length-1),p.read,if p.e=0 then p.read+(Qad p).lead.size else p.place,if p.e=0 then e else p.e⟩
def Qd6 (x:ByteArray):Int:=if is x [100,101,102] then 2 else if is x [116,121,112,101] then 3 else 0
def Qbv (t:Tok):Int:=if is t.text [73,110,116] then 5 else if is t.text [84,101,120,116] then 6 else if is t.text [66,111,111,108] then 7 else if is t.text [91] then 8 else if t.kind=2∨t.kind=4 then 9 else 0
def Qa1 (p:PS):Int :=
 if (Qad p).kind=5 then 10
 else if (Qad p).kind=6 then 11
 else if (Qad p).kind=3 then 16
 else if (Qad p).kind=1 then (if is ((p.rest.drop 1).headD Qxt).text [40] then 16 else 12)
 else if is (Qad p).text [116,114,117,101] then 13
 else if is (Qad p).text [102,97,108,115,101] then 14
 else if is (Qad p).text [63] then 15
 else if is (Qad p).text [91] then 18
 else if is (Qad p).text [105,102] then 19
 else if is (Qad p).text [108,101,116] then 20
 else if is (Qad p).text [40] then 22
 else 0
def Qc6 (s:Int) (p:PS):Int :=
 let k:=if s=1 then Qd6 (Qad p).text else if s=2 then (if (Qad p).kind=1 then 4 else 0) else if s=3 then Qbv (Qad p) else Qa1 p
 if Qd9 s k then k else 0
def Qa0 (s:Int) (p:PS):Int:=if s=4 then (if Qc6 5 p≠0 then 17 else 0) else Qc6 s p
def Qcg (T:Int→PS→Option (Tr × PS)) (x:Part):Nat→Bool→List Tr→List ByteArray→PS→Option (List Tr × List ByteArray × PS)
 | _,false,ks,cs,p=>some (ks,cs,p)
 | 0,true,_,_,_=>none
 | n+1,true,ks,cs,p =>
  match T x.kids (if (ks.length:Int)=x.most∧Qa0 x.kids p≠0 then Qht p 3 else p) with
  | none=>none
  | some (t,q) =>
   if x.commas then
    if is (Qad q).text [44] then Qcg T x n true (ks ++ [t]) (cs ++ [(Qad q).lead]) (Qfi q)
    else Qcg T x n false (ks ++ [t]) cs q
   else Qcg T x n (Qa0 x.kids q != 0) (ks ++ [t]) cs q
def Qc7 (x:Part) (text:ByteArray) (leads:List ByteArray) (p:PS):ByteArray × List ByteArray × PS :=
 if Qd5 x (Qad p) then (if x.nm=0 then text else (Qad p).text,leads ++ [(Qad p).lead],Qfi p)
 else (text,leads,Qht p 2)
def Qey (T:Int→PS→Option (Tr × PS)) (n:Nat) (kind:Int):List Part→ByteArray→List ByteArray→List Tr→List ByteArray→PS→Option (Tr × PS)
 | [],text,leads,kids,commas,p=>some (.mk kind text (leads ++ commas) kids,p)
 | x :: l,text,leads,kids,commas,p =>
  if x.series then
   match Qcg T x n (decide (0<x.least) || Qa0 x.kids p != 0) [] [] p with
   | none=>none
   | some (ks,cs,q)=>Qey T n kind l text leads (kids ++ ks) cs q
  else if x.kids≠0 then
   match T x.kids p with
   | none=>none
   | some (t,q)=>Qey T n kind l text leads (kids ++ [t]) commas q
  else Qey T n kind l (Qc7 x text leads p).1 (Qc7 x text leads p).2.1 kids commas (Qc7 x text leads p).2.2
def Qvd (T:Int→PS→Option (Tr × PS)) (s:Int):Nat→Tr→PS→Option (Tr × PS)
 | 0,_,_=>none
 | n+1,t,p =>
  if s=5∧opB (Qad p).text=true then
   match T 7 (Qfi p) with
   | none=>none
   | some (u,q)=>Qvd T s n (.mk 21 (Qad p).text [(Qad p).lead] [t,u]) q
  else some (t,p)
def Qfx:Nat→Int→PS→Option (Tr × PS)
 | 0,_,_=>none
 | n+1,s,p =>
  if Qa0 s p=0 then some (Qik,Qht p 2)
  else match Qey (Qfx n) n (Qa0 s p) (Qae (Qa0 s p)) ⟨#[]⟩ [] [] [] p with
   | none=>none
   | some (t,q)=>Qvd (Qfx n) s n t q
mutual
def Qdx:Tr→Nat→Bool
 | _,0=>false
 | .mk _ _ _ l,n+1=>Qez l n
def Qez:List Tr→Nat→Bool
 | [],_=>true
 | t :: r,n=>Qdx t n && Qez r n
end
def Qg9 (fuel:Nat) (s:ByteArray):Option (Tr × Nat × Nat) :=
 if (Qbs s).e≠0 then some (Qik,(Qbs s).place,(Qbs s).e)
 else match Qey (Qfx fuel) fuel 1 (Qae 1) ⟨#[]⟩ [] [] [] ⟨(Qbs s).toks ++ [⟨0,(Qbs s).tail,⟨#[]⟩⟩],0,0,0⟩ with
  | none=>none
  | some (t,p)=>some (if p.e≠0 then (Qik,p.place,p.e) else if Qdx t 40 then (t,0,0) else (Qik,0,4))
structure PSok (p:PS):Prop where
 last:∃ l e,p.rest=l ++ [e]∧e.kind=0
 len:p.rest.length≤65536
 bytes:p.read+(p.rest.map fun t=>t.lead.size+t.text.size).sum≤16777216
 place:p.place≤16777216
theorem PSok.ne {p:PS} (h:PSok p):p.rest≠[]:=by
 obtain ⟨l,e,h,_⟩:=h.last
 rw [h]
 simp
theorem PSok.next {p:PS} (h:PSok p):p.rest=Qad p :: p.rest.drop 1:=by
 have:=h.ne
 unfold Qad
 cases hr:p.rest with
 | nil=>exact absurd hr this
 | cons a r=>rfl
theorem PSok.nextLe {p:PS} (h:PSok p):p.read+((Qad p).lead.size+(Qad p).text.size)≤16777216:=by
 have h1:=h.bytes
 rw [h.next,List.map_cons,List.sum_cons] at h1
 omega
theorem PSok.take {p:PS} (h:PSok p):PSok (Qfi p):=by
 unfold Qfi
 split
 ·rename_i hl
  obtain ⟨l,e,hr,he⟩:=h.last
  refine ⟨⟨l.drop 1,e,?_,he⟩,by have:=h.len;simp only [List.length_drop];omega,?_,h.place⟩
  ·show p.rest.drop 1=_
   rw [hr] at hl ⊢
   cases l with
   | nil=>simp at hl
   | cons a r=>rfl
  ·have h1:=h.bytes
   rw [h.next,List.map_cons,List.sum_cons] at h1
   show p.read+_+((p.rest.drop 1).map _).sum≤_
   omega
 ·exact h
theorem Qom (l:List Nat) (n:Nat):(l.drop n).sum≤l.sum:=by
 induction l generalizing n with
 | nil=>simp
 | cons a r ih =>
  cases n with
  | zero=>simp
  | succ n=>rw [List.drop_succ_cons,List.sum_cons];have:=ih n;omega
theorem PSok.fail {p:PS} (h:PSok p) (e:Nat):PSok (Qht p e):=by
 obtain ⟨l,x,hr,hx⟩:=h.last
 unfold Qht
 refine ⟨⟨[],x,?_,hx⟩,by have:=h.len;simp only [List.length_drop];omega,?_,?_⟩
 ·show p.rest.drop _=_
  rw [hr,xB]
  simp
 ·have h1:=h.bytes
  show p.read+((p.rest.drop _).map _).sum≤_
  rw [List.map_drop]
  have:=Qom (p.rest.map fun t=>t.lead.size+t.text.size) (p.rest.length-1)
  omega
 ·show (if p.e=0 then p.read+(Qad p).lead.size else p.place)≤_
  have h1:=h.nextLe
  have h2:=h.place
  split <;> omega
theorem PSok.second {p:PS} (h:PSok p) (hk:(Qad p).kind≠0):2≤p.rest.length:=by
 obtain ⟨l,e,hr,he⟩:=h.last
 cases l with
 | nil =>
  exfalso
  apply hk
  unfold Qad
  rw [hr]
  exact he
 | cons a r=>rw [hr];simp
end Go.Proofs.YtjidpkcjpgdafaaGreat
