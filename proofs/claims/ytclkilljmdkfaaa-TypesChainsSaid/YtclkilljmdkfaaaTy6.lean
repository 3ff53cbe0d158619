/- Part 6: Plain functions in whose words the contracts of package syntax are stated: what the nodes of a kind consist of, trees, the parser on lists of tokens. -/
import Derived.Test.YtclkilljmdkfaaaTy1
set_option maxRecDepth 100000
set_option maxHeartbeats 4000000
namespace Go.Proofs.Ytclkilljmdkfaaa
inductive Tr where
 | mk (kind:Int) (text:ByteArray) (leads:List ByteArray) (kids:List Tr)
def Tr.kind:Tr → Int | .mk k _ _ _=>k
def Tr.text:Tr → ByteArray | .mk _ x _ _=>x
def Tr.leads:Tr → List ByteArray | .mk _ _ l _=>l
def Tr.kids:Tr → List Tr | .mk _ _ _ l=>l
def noTr:Tr:=.mk 0 ⟨#[]⟩ [] []
structure Part where
 word:ByteArray
 nm:Nat
 kids:Int
 least:Int
 most:Int
 series:Bool
 commas:Bool
def Qb8 (s:ByteArray):Part:=⟨s,0,0,0,0,false,false⟩
def nameP (n:Nat):Part:=⟨⟨#[]⟩,n,0,0,0,false,false⟩
def oneP (s:Int):Part:=⟨⟨#[]⟩,0,s,0,1,false,false⟩
def manyP (s least most:Int):Part:=⟨⟨#[]⟩,0,s,least,most,true,s != 1⟩
def Qae (k:Int):List Part :=
 if k = 1 then [Qb8 ⟨#[109,111,100,117,108,101]⟩,nameP 1,manyP 1 0 40,Qb8 ⟨#[]⟩]
 else if k = 2 then [Qb8 ⟨#[100,101,102]⟩,nameP 2,Qb8 ⟨#[40]⟩,manyP 2 0 8,Qb8 ⟨#[41]⟩,Qb8 ⟨#[58]⟩,oneP 3,Qb8 ⟨#[61]⟩,oneP 5]
 else if k = 3 then [Qb8 ⟨#[116,121,112,101]⟩,nameP 1,Qb8 ⟨#[61]⟩,oneP 3]
 else if k = 4 then [nameP 2,Qb8 ⟨#[58]⟩,oneP 3]
 else if k = 5 then [Qb8 ⟨#[73,110,116]⟩]
 else if k = 6 then [Qb8 ⟨#[84,101,120,116]⟩]
 else if k = 7 then [Qb8 ⟨#[66,111,111,108]⟩]
 else if k = 8 then [Qb8 ⟨#[91]⟩,oneP 3,Qb8 ⟨#[93]⟩]
 else if k = 9 then [nameP 3]
 else if k = 10 then [nameP 5]
 else if k = 11 then [nameP 6]
 else if k = 12 then [nameP 2]
 else if k = 13 then [Qb8 ⟨#[116,114,117,101]⟩]
 else if k = 14 then [Qb8 ⟨#[102,97,108,115,101]⟩]
 else if k = 15 then [Qb8 ⟨#[63]⟩]
 else if k = 16 then [nameP 4,Qb8 ⟨#[40]⟩,manyP 4 0 8,Qb8 ⟨#[41]⟩]
 else if k = 17 then [oneP 5]
 else if k = 18 then [Qb8 ⟨#[91]⟩,manyP 5 1 16,Qb8 ⟨#[93]⟩]
 else if k = 19 then [Qb8 ⟨#[105,102]⟩,oneP 5,Qb8 ⟨#[116,104,101,110]⟩,oneP 5,Qb8 ⟨#[101,108,115,101]⟩,oneP 5]
 else if k = 20 then [Qb8 ⟨#[108,101,116]⟩,nameP 2,Qb8 ⟨#[61]⟩,oneP 5,Qb8 ⟨#[105,110]⟩,oneP 5]
 else if k = 21 then [oneP 6,nameP 7,oneP 7]
 else if k = 22 then [Qb8 ⟨#[40]⟩,oneP 5,Qb8 ⟨#[41]⟩]
 else []
def is (x:ByteArray) (l:List UInt8):Bool:=x.data.toList == l
def opB (x:ByteArray):Bool:=is x [43] || is x [45] || is x [42] || is x [60] || is x [61,61]
def Qbw (n:Nat) (k:Int) (x:ByteArray):Bool :=
 if n = 1 then k == 2
 else if n = 2 then k == 1
 else if n = 3 then k == 2 || k == 4
 else if n = 4 then k == 1 || k == 3
 else if n = 5 then k == 5
 else if n = 6 then k == 6
 else opB x
def Qde (s k:Int):Bool :=
 if s = 1 then k == 2 || k == 3
 else if s = 2 then k == 4
 else if s = 3 then decide (5 ≤ k) && decide (k ≤ 9)
 else if s = 4 then k == 17
 else if k = 17 then false
 else if k = 19 ∨ k = 20 then s == 5
 else if k = 21 then s != 7
 else decide (10 ≤ k) && decide (k ≤ 22)
def Qc7 (x:Part) (t:Tok):Bool:=if x.nm = 0 then is t.text x.word.data.toList else Qbw x.nm t.kind t.text
structure PS where
 rest:List Tok
 read:Nat
 place:Nat
 e:Nat
def noTok:Tok:=⟨0,⟨#[]⟩,⟨#[]⟩⟩
def Qac (p:PS):Tok:=p.rest.headD noTok
def Qeg (p:PS):PS:=if 1 < p.rest.length then ⟨p.rest.drop 1,p.read + ((Qac p).lead.size + (Qac p).text.size),p.place,p.e⟩ else p
def failP (p:PS) (e:Nat):PS:=⟨p.rest.drop (p.rest.length - 1),p.read,if p.e = 0 then p.read + (Qac p).lead.size else p.place,if p.e = 0 then e else p.e⟩
def Qc8 (x:ByteArray):Int:=if is x [100,101,102] then 2 else if is x [116,121,112,101] then 3 else 0
def Qbh (t:Tok):Int:=if is t.text [73,110,116] then 5 else if is t.text [84,101,120,116] then 6 else if is t.text [66,111,111,108] then 7 else if is t.text [91] then 8 else if t.kind = 2 ∨ t.kind = 4 then 9 else 0
def Qau (p:PS):Int :=
 if (Qac p).kind = 5 then 10
 else if (Qac p).kind = 6 then 11
 else if (Qac p).kind = 3 then 16
 else if (Qac p).kind = 1 then (if is ((p.rest.drop 1).headD noTok).text [40] then 16 else 12)
 else if is (Qac p).text [116,114,117,101] then 13
 else if is (Qac p).text [102,97,108,115,101] then 14
 else if is (Qac p).text [63] then 15
 else if is (Qac p).text [91] then 18
 else if is (Qac p).text [105,102] then 19
 else if is (Qac p).text [108,101,116] then 20
 else if is (Qac p).text [40] then 22
 else 0
def Qcf (s:Int) (p:PS):Int :=
 let k:=if s = 1 then Qc8 (Qac p).text else if s = 2 then (if (Qac p).kind = 1 then 4 else 0) else if s = 3 then Qbh (Qac p) else Qau p
 if Qde s k then k else 0
def Qat (s:Int) (p:PS):Int:=if s = 4 then (if Qcf 5 p ≠ 0 then 17 else 0) else Qcf s p
def Qb0 (T:Int → PS → Option (Tr × PS)) (x:Part):Nat → Bool → List Tr → List ByteArray → PS → Option (List Tr × List ByteArray × PS)
 | _,false,ks,cs,p=>some (ks,cs,p)
 | 0,true,_,_,_=>none
 | n + 1,true,ks,cs,p =>
  match T x.kids (if (ks.length:Int) = x.most ∧ Qat x.kids p ≠ 0 then failP p 3 else p) with
  | none=>none
  | some (t,q) =>
   if x.commas then
    if is (Qac q).text [44] then Qb0 T x n true (ks ++ [t]) (cs ++ [(Qac q).lead]) (Qeg q)
    else Qb0 T x n false (ks ++ [t]) cs q
   else Qb0 T x n (Qat x.kids q != 0) (ks ++ [t]) cs q
def Qcg (x:Part) (text:ByteArray) (leads:List ByteArray) (p:PS):ByteArray × List ByteArray × PS :=
 if Qc7 x (Qac p) then (if x.nm = 0 then text else (Qac p).text,leads ++ [(Qac p).lead],Qeg p)
 else (text,leads,failP p 2)
def Qd1 (T:Int → PS → Option (Tr × PS)) (n:Nat) (kind:Int):List Part → ByteArray → List ByteArray → List Tr → List ByteArray → PS → Option (Tr × PS)
 | [],text,leads,kids,commas,p=>some (.mk kind text (leads ++ commas) kids,p)
 | x :: l,text,leads,kids,commas,p =>
  if x.series then
   match Qb0 T x n (decide (0 < x.least) || Qat x.kids p != 0) [] [] p with
   | none=>none
   | some (ks,cs,q)=>Qd1 T n kind l text leads (kids ++ ks) cs q
  else if x.kids ≠ 0 then
   match T x.kids p with
   | none=>none
   | some (t,q)=>Qd1 T n kind l text leads (kids ++ [t]) commas q
  else Qd1 T n kind l (Qcg x text leads p).1 (Qcg x text leads p).2.1 kids commas (Qcg x text leads p).2.2
def opsG (T:Int → PS → Option (Tr × PS)) (s:Int):Nat → Tr → PS → Option (Tr × PS)
 | 0,_,_=>none
 | n + 1,t,p =>
  if s = 5 ∧ opB (Qac p).text = true then
   match T 7 (Qeg p) with
   | none=>none
   | some (u,q)=>opsG T s n (.mk 21 (Qac p).text [(Qac p).lead] [t,u]) q
  else some (t,p)
def Qfc:Nat → Int → PS → Option (Tr × PS)
 | 0,_,_=>none
 | n + 1,s,p =>
  if Qat s p = 0 then some (noTr,failP p 2)
  else match Qd1 (Qfc n) n (Qat s p) (Qae (Qat s p)) ⟨#[]⟩ [] [] [] p with
   | none=>none
   | some (t,q)=>opsG (Qfc n) s n t q
mutual
def Qcw:Tr → Nat → Bool
 | _,0=>false
 | .mk _ _ _ l,n + 1=>Qd2 l n
def Qd2:List Tr → Nat → Bool
 | [],_=>true
 | t :: r,n=>Qcw t n && Qd2 r n
end
def Qev (fuel:Nat) (s:ByteArray):Option (Tr × Nat × Nat) :=
 if (Qbf s).e ≠ 0 then some (noTr,(Qbf s).place,(Qbf s).e)
 else match Qd1 (Qfc fuel) fuel 1 (Qae 1) ⟨#[]⟩ [] [] [] ⟨(Qbf s).toks ++ [⟨0,(Qbf s).tail,⟨#[]⟩⟩],0,0,0⟩ with
  | none=>none
  | some (t,p)=>some (if p.e ≠ 0 then (noTr,p.place,p.e) else if Qcw t 40 then (t,0,0) else (noTr,0,4))
structure PSok (p:PS):Prop where
 last:∃ l e,p.rest = l ++ [e] ∧ e.kind = 0
 len:p.rest.length ≤ 65536
 bytes:p.read + (p.rest.map fun t=>t.lead.size + t.text.size).sum ≤ 16777216
 place:p.place ≤ 16777216
theorem PSok.ne {p:PS} (h:PSok p):p.rest ≠ []:=by
 obtain ⟨l,e,h,_⟩:=h.last
 rw [h]
 simp
theorem PSok.next {p:PS} (h:PSok p):p.rest = Qac p :: p.rest.drop 1:=by
 have:=h.ne
 unfold Qac
 cases hr:p.rest with
 | nil=>exact absurd hr this
 | cons a r=>rfl
theorem PSok.nextLe {p:PS} (h:PSok p):p.read + ((Qac p).lead.size + (Qac p).text.size) ≤ 16777216:=by
 have h1:=h.bytes
 rw [h.next,List.map_cons,List.sum_cons] at h1
 omega
theorem PSok.take {p:PS} (h:PSok p):PSok (Qeg p):=by
 unfold Qeg
 split
 ·rename_i hl
  obtain ⟨l,e,hr,he⟩:=h.last
  refine ⟨⟨l.drop 1,e,?_,he⟩,by have:=h.len;simp only [List.length_drop];omega,?_,h.place⟩
  ·show p.rest.drop 1 = _
   rw [hr] at hl ⊢
   cases l with
   | nil=>simp at hl
   | cons a r=>rfl
  ·have h1:=h.bytes
   rw [h.next,List.map_cons,List.sum_cons] at h1
   show p.read + _ + ((p.rest.drop 1).map _).sum ≤ _
   omega
 ·exact h
theorem sum_drop_le (l:List Nat) (n:Nat):(l.drop n).sum ≤ l.sum:=by
 induction l generalizing n with
 | nil=>simp
 | cons a r ih =>
  cases n with
  | zero=>simp
  | succ n=>rw [List.drop_succ_cons,List.sum_cons];have:=ih n;omega
theorem PSok.fail {p:PS} (h:PSok p) (e:Nat):PSok (failP p e):=by
 obtain ⟨l,x,hr,hx⟩:=h.last
 unfold failP
 refine ⟨⟨[],x,?_,hx⟩,by have:=h.len;simp only [List.length_drop];omega,?_,?_⟩
 ·show p.rest.drop _ = _
  rw [hr,xB]
  simp
 ·have h1:=h.bytes
  show p.read + ((p.rest.drop _).map _).sum ≤ _
  rw [List.map_drop]
  have:=sum_drop_le (p.rest.map fun t=>t.lead.size + t.text.size) (p.rest.length - 1)
  omega
 ·show (if p.e = 0 then p.read + (Qac p).lead.size else p.place) ≤ _
  have h1:=h.nextLe
  have h2:=h.place
  split <;> omega
theorem PSok.second {p:PS} (h:PSok p) (hk:(Qac p).kind ≠ 0):2 ≤ p.rest.length:=by
 obtain ⟨l,e,hr,he⟩:=h.last
 cases l with
 | nil =>
  exfalso
  apply hk
  unfold Qac
  rw [hr]
  exact he
 | cons a r=>rw [hr];simp
end Go.Proofs.Ytclkilljmdkfaaa
