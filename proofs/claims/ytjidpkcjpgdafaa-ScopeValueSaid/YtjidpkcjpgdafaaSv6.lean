/- Part 6: Plain functions in whose words the contracts of package syntax are stated: what the nodes of a kind consist of, trees, the parser on lists of tokens. -/
import Derived.Test.YtjidpkcjpgdafaaSv1
set_option maxRecDepth 100000
set_option maxHeartbeats 4000000
namespace Go.Proofs.Ytjidpkcjpgdafaa
inductive Tr where
 | mk (kind:Int) (text:ByteArray) (leads:List ByteArray) (kids:List Tr)
def Tr.kind:Tr → Int | .mk k _ _ _=>k
def Tr.text:Tr → ByteArray | .mk _ x _ _=>x
def Tr.leads:Tr → List ByteArray | .mk _ _ l _=>l
def Tr.kids:Tr → List Tr | .mk _ _ _ l=>l
def noTr:Tr:=.mk 0 ⟨#[]⟩ [] []
structure Part where
 word:ByteArray
 nm:Nat
 kids:Int
 least:Int
 most:Int
 series:Bool
 commas:Bool
def Qb7 (s:ByteArray):Part:=⟨s,0,0,0,0,false,false⟩
def nameP (n:Nat):Part:=⟨⟨#[]⟩,n,0,0,0,false,false⟩
def oneP (s:Int):Part:=⟨⟨#[]⟩,0,s,0,1,false,false⟩
def manyP (s least most:Int):Part:=⟨⟨#[]⟩,0,s,least,most,true,s != 1⟩
def Qae (k:Int):List Part :=
 if k = 1 then [Qb7 ⟨#[109,111,100,117,108,101]⟩,nameP 1,manyP 1 0 40,Qb7 ⟨#[]⟩]
 else if k = 2 then [Qb7 ⟨#[100,101,102]⟩,nameP 2,Qb7 ⟨#[40]⟩,manyP 2 0 8,Qb7 ⟨#[41]⟩,Qb7 ⟨#[58]⟩,oneP 3,Qb7 ⟨#[61]⟩,oneP 5]
 else if k = 3 then [Qb7 ⟨#[116,121,112,101]⟩,nameP 1,Qb7 ⟨#[61]⟩,oneP 3]
 else if k = 4 then [nameP 2,Qb7 ⟨#[58]⟩,oneP 3]
 else if k = 5 then [Qb7 ⟨#[73,110,116]⟩]
 else if k = 6 then [Qb7 ⟨#[84,101,120,116]⟩]
 else if k = 7 then [Qb7 ⟨#[66,111,111,108]⟩]
 else if k = 8 then [Qb7 ⟨#[91]⟩,oneP 3,Qb7 ⟨#[93]⟩]
 else if k = 9 then [nameP 3]
 else if k = 10 then [nameP 5]
 else if k = 11 then [nameP 6]
 else if k = 12 then [nameP 2]
 else if k = 13 then [Qb7 ⟨#[116,114,117,101]⟩]
 else if k = 14 then [Qb7 ⟨#[102,97,108,115,101]⟩]
 else if k = 15 then [Qb7 ⟨#[63]⟩]
 else if k = 16 then [nameP 4,Qb7 ⟨#[40]⟩,manyP 4 0 8,Qb7 ⟨#[41]⟩]
 else if k = 17 then [oneP 5]
 else if k = 18 then [Qb7 ⟨#[91]⟩,manyP 5 1 16,Qb7 ⟨#[93]⟩]
 else if k = 19 then [Qb7 ⟨#[105,102]⟩,oneP 5,Qb7 ⟨#[116,104,101,110]⟩,oneP 5,Qb7 ⟨#[101,108,115,101]⟩,oneP 5]
 else if k = 20 then [Qb7 ⟨#[108,101,116]⟩,nameP 2,Qb7 ⟨#[61]⟩,oneP 5,Qb7 ⟨#[105,110]⟩,oneP 5]
 else if k = 21 then [oneP 6,nameP 7,oneP 7]
 else if k = 22 then [Qb7 ⟨#[40]⟩,oneP 5,Qb7 ⟨#[41]⟩]
 else []
def is (x:ByteArray) (l:List UInt8):Bool:=x.data.toList == l
def opB (x:ByteArray):Bool:=is x [43] || is x [45] || is x [42] || is x [60] || is x [61,61]
def Qbk (n:Nat) (k:Int) (x:ByteArray):Bool :=
 if n = 1 then k == 2
 else if n = 2 then k == 1
 else if n = 3 then k == 2 || k == 4
 else if n = 4 then k == 1 || k == 3
 else if n = 5 then k == 5
 else if n = 6 then k == 6
 else opB x
def hasB (s k:Int):Bool :=
 if s = 1 then k == 2 || k == 3
 else if s = 2 then k == 4
 else if s = 3 then decide (5 ≤ k) && decide (k ≤ 9)
 else if s = 4 then k == 17
 else if k = 17 then false
 else if k = 19 ∨ k = 20 then s == 5
 else if k = 21 then s != 7
 else decide (10 ≤ k) && decide (k ≤ 22)
def Qcc (x:Part) (t:Tok):Bool:=if x.nm = 0 then is t.text x.word.data.toList else Qbk x.nm t.kind t.text
structure PS where
 rest:List Tok
 read:Nat
 place:Nat
 e:Nat
def noTok:Tok:=⟨0,⟨#[]⟩,⟨#[]⟩⟩
def Qac (p:PS):Tok:=p.rest.headD noTok
def Qdd (p:PS):PS:=if 1 < p.rest.length then ⟨p.rest.drop 1,p.read + ((Qac p).lead.size + (Qac p).text.size),p.place,p.e⟩ else p
def failP (p:PS) (e:Nat):PS:=⟨p.rest.drop (p.rest.length - 1),p.read,if p.e = 0 then p.read + (Qac p).lead.size else p.place,if p.e = 0 then e else p.e⟩
def Qcd (x:ByteArray):Int:=if is x [100,101,102] then 2 else if is x [116,121,112,101] then 3 else 0
def Qay (t:Tok):Int:=if is t.text [73,110,116] then 5 else if is t.text [84,101,120,116] then 6 else if is t.text [66,111,111,108] then 7 else if is t.text [91] then 8 else if t.kind = 2 ∨ t.kind = 4 then 9 else 0
def Qam (p:PS):Int :=
 if (Qac p).kind = 5 then 10
 else if (Qac p).kind = 6 then 11
 else if (Qac p).kind = 3 then 16
 else if (Qac p).kind = 1 then (if is ((p.rest.drop 1).headD noTok).text [40] then 16 else 12)
 else if is (Qac p).text [116,114,117,101] then 13
 else if is (Qac p).text [102,97,108,115,101] then 14
 else if is (Qac p).text [63] then 15
 else if is (Qac p).text [91] then 18
 else if is (Qac p).text [105,102] then 19
 else if is (Qac p).text [108,101,116] then 20
 else if is (Qac p).text [40] then 22
 else 0
def Qbn (s:Int) (p:PS):Int :=
 let k:=if s = 1 then Qcd (Qac p).text else if s = 2 then (if (Qac p).kind = 1 then 4 else 0) else if s = 3 then Qay (Qac p) else Qam p
 if hasB s k then k else 0
def Qak (s:Int) (p:PS):Int:=if s = 4 then (if Qbn 5 p ≠ 0 then 17 else 0) else Qbn s p
def Qba (T:Int → PS → Option (Tr × PS)) (x:Part):Nat → Bool → List Tr → List ByteArray → PS → Option (List Tr × List ByteArray × PS)
 | _,false,ks,cs,p=>some (ks,cs,p)
 | 0,true,_,_,_=>none
 | n + 1,true,ks,cs,p =>
  match T x.kids (if (ks.length:Int) = x.most ∧ Qak x.kids p ≠ 0 then failP p 3 else p) with
  | none=>none
  | some (t,q) =>
   if x.commas then
    if is (Qac q).text [44] then Qba T x n true (ks ++ [t]) (cs ++ [(Qac q).lead]) (Qdd q)
    else Qba T x n false (ks ++ [t]) cs q
   else Qba T x n (Qak x.kids q != 0) (ks ++ [t]) cs q
def Qbo (x:Part) (text:ByteArray) (leads:List ByteArray) (p:PS):ByteArray × List ByteArray × PS :=
 if Qcc x (Qac p) then (if x.nm = 0 then text else (Qac p).text,leads ++ [(Qac p).lead],Qdd p)
 else (text,leads,failP p 2)
def Qcy (T:Int → PS → Option (Tr × PS)) (n:Nat) (kind:Int):List Part → ByteArray → List ByteArray → List Tr → List ByteArray → PS → Option (Tr × PS)
 | [],text,leads,kids,commas,p=>some (.mk kind text (leads ++ commas) kids,p)
 | x :: l,text,leads,kids,commas,p =>
  if x.series then
   match Qba T x n (decide (0 < x.least) || Qak x.kids p != 0) [] [] p with
   | none=>none
   | some (ks,cs,q)=>Qcy T n kind l text leads (kids ++ ks) cs q
  else if x.kids ≠ 0 then
   match T x.kids p with
   | none=>none
   | some (t,q)=>Qcy T n kind l text leads (kids ++ [t]) commas q
  else Qcy T n kind l (Qbo x text leads p).1 (Qbo x text leads p).2.1 kids commas (Qbo x text leads p).2.2
def opsG (T:Int → PS → Option (Tr × PS)) (s:Int):Nat → Tr → PS → Option (Tr × PS)
 | 0,_,_=>none
 | n + 1,t,p =>
  if s = 5 ∧ opB (Qac p).text = true then
   match T 7 (Qdd p) with
   | none=>none
   | some (u,q)=>opsG T s n (.mk 21 (Qac p).text [(Qac p).lead] [t,u]) q
  else some (t,p)
def Qdv:Nat → Int → PS → Option (Tr × PS)
 | 0,_,_=>none
 | n + 1,s,p =>
  if Qak s p = 0 then some (noTr,failP p 2)
  else match Qcy (Qdv n) n (Qak s p) (Qae (Qak s p)) ⟨#[]⟩ [] [] [] p with
   | none=>none
   | some (t,q)=>opsG (Qdv n) s n t q
mutual
def Qb1:Tr → Nat → Bool
 | _,0=>false
 | .mk _ _ _ l,n + 1=>Qcz l n
def Qcz:List Tr → Nat → Bool
 | [],_=>true
 | t :: r,n=>Qb1 t n && Qcz r n
end
def parseM (fuel:Nat) (s:ByteArray):Option (Tr × Nat × Nat) :=
 if (Qaw s).e ≠ 0 then some (noTr,(Qaw s).place,(Qaw s).e)
 else match Qcy (Qdv fuel) fuel 1 (Qae 1) ⟨#[]⟩ [] [] [] ⟨(Qaw s).toks ++ [⟨0,(Qaw s).tail,⟨#[]⟩⟩],0,0,0⟩ with
  | none=>none
  | some (t,p)=>some (if p.e ≠ 0 then (noTr,p.place,p.e) else if Qb1 t 40 then (t,0,0) else (noTr,0,4))
structure PSok (p:PS):Prop where
 last:∃ l e,p.rest = l ++ [e] ∧ e.kind = 0
 len:p.rest.length ≤ 65536
 bytes:p.read + (p.rest.map fun t=>t.lead.size + t.text.size).sum ≤ 16777216
 place:p.place ≤ 16777216
theorem PSok.ne {p:PS} (h:PSok p):p.rest ≠ []:=by
 obtain ⟨l,e,h,_⟩:=h.last
 rw [h]
 simp
theorem PSok.next {p:PS} (h:PSok p):p.rest = Qac p :: p.rest.drop 1:=by
 have:=h.ne
 unfold Qac
 cases hr:p.rest with
 | nil=>exact absurd hr this
 | cons a r=>rfl
theorem PSok.nextLe {p:PS} (h:PSok p):p.read + ((Qac p).lead.size + (Qac p).text.size) ≤ 16777216:=by
 have h1:=h.bytes
 rw [h.next,List.map_cons,List.sum_cons] at h1
 omega
theorem PSok.take {p:PS} (h:PSok p):PSok (Qdd p):=by
 unfold Qdd
 split
 ·rename_i hl
  obtain ⟨l,e,hr,he⟩:=h.last
  refine ⟨⟨l.drop 1,e,?_,he⟩,by have:=h.len;simp only [List.length_drop];omega,?_,h.place⟩
  ·show p.rest.drop 1 = _
   rw [hr] at hl ⊢
   cases l with
   | nil=>simp at hl
   | cons a r=>rfl
  ·have h1:=h.bytes
   rw [h.next,List.map_cons,List.sum_cons] at h1
   show p.read + _ + ((p.rest.drop 1).map _).sum ≤ _
   omega
 ·exact h
theorem sum_drop_le (l:List Nat) (n:Nat):(l.drop n).sum ≤ l.sum:=by
 induction l generalizing n with
 | nil=>simp
 | cons a r ih =>
  cases n with
  | zero=>simp
  | succ n=>rw [List.drop_succ_cons,List.sum_cons];have:=ih n;omega
theorem PSok.fail {p:PS} (h:PSok p) (e:Nat):PSok (failP p e):=by
 obtain ⟨l,x,hr,hx⟩:=h.last
 unfold failP
 refine ⟨⟨[],x,?_,hx⟩,by have:=h.len;simp only [List.length_drop];omega,?_,?_⟩
 ·show p.rest.drop _ = _
  rw [hr,xB]
  simp
 ·have h1:=h.bytes
  show p.read + ((p.rest.drop _).map _).sum ≤ _
  rw [List.map_drop]
  have:=sum_drop_le (p.rest.map fun t=>t.lead.size + t.text.size) (p.rest.length - 1)
  omega
 ·show (if p.e = 0 then p.read + (Qac p).lead.size else p.place) ≤ _
  have h1:=h.nextLe
  have h2:=h.place
  split <;> omega
theorem PSok.second {p:PS} (h:PSok p) (hk:(Qac p).kind ≠ 0):2 ≤ p.rest.length:=by
 obtain ⟨l,e,hr,he⟩:=h.last
 cases l with
 | nil =>
  exfalso
  apply hk
  unfold Qac
  rw [hr]
  exact he
 | cons a r=>rw [hr];simp
end Go.Proofs.Ytjidpkcjpgdafaa
