/- Part 5 -/
import Derived.Test.YtjidpkcjpgdafaaGreatSe4
import Derived.Laws.EntriesVeiled
set_option maxRecDepth 100000
set_option maxHeartbeats 4000000
namespace Go.Proofs.YtjidpkcjpgdafaaGreat
inductive Tr where
 | mk (kind:Int) (text:ByteArray) (leads:List ByteArray) (kids:List Tr)
def Tr.kind:Tr→Int | .mk k _ _ _=>k
def Tr.text:Tr→ByteArray | .mk _ x _ _=>x
def Tr.leads:Tr→List ByteArray | .mk _ _ l _=>l
def Tr.kids:Tr→List Tr | .mk _ _ _ l=>l
theorem Tr.eta (t:Tr):Tr.mk t.kind t.text t.leads t.kids=t:=by cases t;rfl
def Qkk:Tr:=.mk 0 ⟨#[]⟩ [] []
structure Part where
 word:ByteArray
 nm:Nat
 kids:Int
 least:Int
 most:Int
 series:Bool
 commas:Bool
def Qcj (s:ByteArray):Part:=⟨s,0,0,0,0,false,false⟩
def Qe4 (n:Nat):Part:=⟨⟨#[]⟩,n,0,0,0,false,false⟩
def Qkl (s:Int):Part:=⟨⟨#[]⟩,0,s,0,1,false,false⟩
def Qgg (s least most:Int):Part:=⟨⟨#[]⟩,0,s,least,most,true,s != 1⟩
def Qae (k:Int):List Part :=
 if k=1 then [Qcj ⟨#[109,111,100,117,108,101]⟩,Qe4 1,Qgg 1 0 40,Qcj ⟨#[]⟩]
 else if k=2 then [Qcj ⟨#[100,101,102]⟩,Qe4 2,Qcj ⟨#[40]⟩,Qgg 2 0 8,Qcj ⟨#[41]⟩,Qcj ⟨#[58]⟩,Qkl 3,Qcj ⟨#[61]⟩,Qkl 5]
 else if k=3 then [Qcj ⟨#[116,121,112,101]⟩,Qe4 1,Qcj ⟨#[61]⟩,Qkl 3]
 else if k=4 then [Qe4 2,Qcj ⟨#[58]⟩,Qkl 3]
 else if k=5 then [Qcj ⟨#[73,110,116]⟩]
 else if k=6 then [Qcj ⟨#[84,101,120,116]⟩]
 else if k=7 then [Qcj ⟨#[66,111,111,108]⟩]
 else if k=8 then [Qcj ⟨#[91]⟩,Qkl 3,Qcj ⟨#[93]⟩]
 else if k=9 then [Qe4 3]
 else if k=10 then [Qe4 5]
 else if k=11 then [Qe4 6]
 else if k=12 then [Qe4 2]
 else if k=13 then [Qcj ⟨#[116,114,117,101]⟩]
 else if k=14 then [Qcj ⟨#[102,97,108,115,101]⟩]
 else if k=15 then [Qcj ⟨#[63]⟩]
 else if k=16 then [Qe4 4,Qcj ⟨#[40]⟩,Qgg 4 0 8,Qcj ⟨#[41]⟩]
 else if k=17 then [Qkl 5]
 else if k=18 then [Qcj ⟨#[91]⟩,Qgg 5 1 16,Qcj ⟨#[93]⟩]
 else if k=19 then [Qcj ⟨#[105,102]⟩,Qkl 5,Qcj ⟨#[116,104,101,110]⟩,Qkl 5,Qcj ⟨#[101,108,115,101]⟩,Qkl 5]
 else if k=20 then [Qcj ⟨#[108,101,116]⟩,Qe4 2,Qcj ⟨#[61]⟩,Qkl 5,Qcj ⟨#[105,110]⟩,Qkl 5]
 else if k=21 then [Qkl 6,Qe4 7,Qkl 7]
 else if k=22 then [Qcj ⟨#[40]⟩,Qkl 5,Qcj ⟨#[41]⟩]
 else []
def is (x:ByteArray) (l:List UInt8):Bool:=x.data.toList==l
def opB (x:ByteArray):Bool:=is x [43] || is x [45] || is x [42] || is x [60] || is x [61,61]
def Qbv (n:Nat) (k:Int) (x:ByteArray):Bool :=
 if n=1 then k==2
 else if n=2 then k==1
 else if n=3 then k==2 || k==4
 else if n=4 then k==1 || k==3
 else if n=5 then k==5
 else if n=6 then k==6
 else opB x
def Qfe (s k:Int):Bool :=
 if s=1 then k==2 || k==3
 else if s=2 then k==4
 else if s=3 then decide (5≤k) && decide (k≤9)
 else if s=4 then k==17
 else if k=17 then false
 else if k=19∨k=20 then s==5
 else if k=21 then s != 7
 else decide (10≤k) && decide (k≤22)
def Qe6 (x:Part) (t:Tok):Bool:=if x.nm=0 then is t.text x.word.data.toList else Qbv x.nm t.kind t.text
structure PS where
 rest:List Tok
 read:Nat
 place:Nat
 e:Nat
def Zeh:Tok:=⟨0,⟨#[]⟩,⟨#[]⟩⟩
def Qad (p:PS):Tok:=p.rest.headD Zeh
def Qg3 (p:PS):PS:=if 1<p.rest.length then ⟨p.rest.drop 1,p.read+((Qad p).lead.size+(Qad p).text.size),p.place,p.e⟩ else p
def Qjq (p:PS) (e:Nat):PS:=⟨p.rest.drop (p.rest.length-1),p.read,if p.e=0 then p.read+(Qad p).lead.size else p.place,if p.e=0 then e else p.e⟩
def Qe7 (x:ByteArray):Int:=if is x [100,101,102] then 2 else if is x [116,121,112,101] then 3 else 0
def Qcs (t:Tok):Int:=if is t.text [73,110,116] then 5 else if is t.text [84,101,120,116] then 6 else if is t.text [66,111,111,108] then 7 else if is t.text [91] then 8 else if t.kind=2∨t.kind=4 then 9 else 0
def Qbm (p:PS):Int :=
 if (Qad p).kind=5 then 10
 else if (Qad p).kind=6 then 11
 else if (Qad p).kind=3 then 16
 else if (Qad p).kind=1 then (if is ((p.rest.drop 1).headD Zeh).text [40] then 16 else 12)
 else if is (Qad p).text [116,114,117,101] then 13
 else if is (Qad p).text [102,97,108,115,101] then 14
 else if is (Qad p).text [63] then 15
 else if is (Qad p).text [91] then 18
 else if is (Qad p).text [105,102] then 19
 else if is (Qad p).text [108,101,116] then 20
 else if is (Qad p).text [40] then 22
 else 0
def Qea (s:Int) (p:PS):Int :=
 let k:=if s=1 then Qe7 (Qad p).text else if s=2 then (if (Qad p).kind=1 then 4 else 0) else if s=3 then Qcs (Qad p) else Qbm p
 if Qfe s k then k else 0
def Qbl (s:Int) (p:PS):Int:=if s=4 then (if Qea 5 p≠0 then 17 else 0) else Qea s p
def Qdc (T:Int→PS→Option (Tr × PS)) (x:Part):Nat→Bool→List Tr→List ByteArray→PS→Option (List Tr × List ByteArray × PS)
 | _,false,ks,cs,p=>some (ks,cs,p)
 | 0,true,_,_,_=>none
 | n+1,true,ks,cs,p =>
  match T x.kids (if (ks.length:Int)=x.most∧Qbl x.kids p≠0 then Qjq p 3 else p) with
  | none=>none
  | some (t,q) =>
   if x.commas then
    if is (Qad q).text [44] then Qdc T x n true (ks ++ [t]) (cs ++ [(Qad q).lead]) (Qg3 q)
    else Qdc T x n false (ks ++ [t]) cs q
   else Qdc T x n (Qbl x.kids q != 0) (ks ++ [t]) cs q
def Qeb (x:Part) (text:ByteArray) (leads:List ByteArray) (p:PS):ByteArray × List ByteArray × PS :=
 if Qe6 x (Qad p) then (if x.nm=0 then text else (Qad p).text,leads ++ [(Qad p).lead],Qg3 p)
 else (text,leads,Qjq p 2)
def Qgh (T:Int→PS→Option (Tr × PS)) (n:Nat) (kind:Int):List Part→ByteArray→List ByteArray→List Tr→List ByteArray→PS→Option (Tr × PS)
 | [],text,leads,kids,commas,p=>some (.mk kind text (leads ++ commas) kids,p)
 | x :: l,text,leads,kids,commas,p =>
  if x.series then
   match Qdc T x n (decide (0<x.least) || Qbl x.kids p != 0) [] [] p with
   | none=>none
   | some (ks,cs,q)=>Qgh T n kind l text leads (kids ++ ks) cs q
  else if x.kids≠0 then
   match T x.kids p with
   | none=>none
   | some (t,q)=>Qgh T n kind l text leads (kids ++ [t]) commas q
  else Qgh T n kind l (Qeb x text leads p).1 (Qeb x text leads p).2.1 kids commas (Qeb x text leads p).2.2
def Zbi (T:Int→PS→Option (Tr × PS)) (s:Int):Nat→Tr→PS→Option (Tr × PS)
 | 0,_,_=>none
 | n+1,t,p =>
  if s=5∧opB (Qad p).text=true then
   match T 7 (Qg3 p) with
   | none=>none
   | some (u,q)=>Zbi T s n (.mk 21 (Qad p).text [(Qad p).lead] [t,u]) q
  else some (t,p)
def Qhm:Nat→Int→PS→Option (Tr × PS)
 | 0,_,_=>none
 | n+1,s,p =>
  if Qbl s p=0 then some (Qkk,Qjq p 2)
  else match Qgh (Qhm n) n (Qbl s p) (Qae (Qbl s p)) ⟨#[]⟩ [] [] [] p with
   | none=>none
   | some (t,q)=>Zbi (Qhm n) s n t q
mutual
def Qdm:Tr→Nat→Bool
 | _,0=>false
 | .mk _ _ _ l,n+1=>Qe8 l n
def Qe8:List Tr→Nat→Bool
 | [],_=>true
 | t :: r,n=>Qdm t n && Qe8 r n
end
def Qi0 (fuel:Nat) (s:ByteArray):Option (Tr × Nat × Nat) :=
 if (Qbf s).e≠0 then some (Qkk,(Qbf s).place,(Qbf s).e)
 else match Qgh (Qhm fuel) fuel 1 (Qae 1) ⟨#[]⟩ [] [] [] ⟨(Qbf s).toks ++ [⟨0,(Qbf s).tail,⟨#[]⟩⟩],0,0,0⟩ with
  | none=>none
  | some (t,p)=>some (if p.e≠0 then (Qkk,p.place,p.e) else if Qdm t 40 then (t,0,0) else (Qkk,0,4))
structure PSok (p:PS):Prop where
 last:∃ l e,p.rest=l ++ [e]∧e.kind=0
 len:p.rest.length≤65536
 bytes:p.read+(p.rest.map fun t=>t.lead.size+t.text.size).sum≤16777216
 place:p.place≤16777216
theorem PSok.ne {p:PS} (h:PSok p):p.rest≠[]:=by
 obtain ⟨l,e,h,_⟩:=h.last;rw [h];simp
theorem PSok.next {p:PS} (h:PSok p):p.rest=Qad p :: p.rest.drop 1:=by
 have:=h.ne
 unfold Qad;cases hr:p.rest with
 | nil=>exact absurd hr this
 | cons a r=>rfl
theorem PSok.nextLe {p:PS} (h:PSok p):p.read+((Qad p).lead.size+(Qad p).text.size)≤16777216:=by
 have h1:=h.bytes;rw [h.next,List.map_cons,List.sum_cons] at h1;omega
theorem PSok.take {p:PS} (h:PSok p):PSok (Qg3 p):=by
 unfold Qg3
 split
 ·rename_i hl
  obtain ⟨l,e,hr,he⟩:=h.last
  refine ⟨⟨l.drop 1,e,?_,he⟩,by have:=h.len;simp only [List.length_drop];omega,?_,h.place⟩
  ·show p.rest.drop 1=_
   rw [hr] at hl ⊢;cases l with
   | nil=>simp at hl
   | cons a r=>rfl
  ·have h1:=h.bytes;rw [h.next,List.map_cons,List.sum_cons] at h1
   show p.read+_+((p.rest.drop 1).map _).sum≤_
   omega
 ·exact h
theorem Qr0 (l:List Nat) (n:Nat):(l.drop n).sum≤l.sum:=by
 induction l generalizing n with
 | nil=>simp
 | cons a r ih =>
  cases n with
  | zero=>simp
  | succ n=>rw [List.drop_succ_cons,List.sum_cons];have:=ih n;omega
theorem PSok.fail {p:PS} (h:PSok p) (e:Nat):PSok (Qjq p e):=by
 obtain ⟨l,x,hr,hx⟩:=h.last;unfold Qjq
 refine ⟨⟨[],x,?_,hx⟩,by have:=h.len;simp only [List.length_drop];omega,?_,?_⟩
 ·show p.rest.drop _=_
  rw [hr,xB];simp
 ·have h1:=h.bytes
  show p.read+((p.rest.drop _).map _).sum≤_
  rw [List.map_drop];have:=Qr0 (p.rest.map fun t=>t.lead.size+t.text.size) (p.rest.length-1)
  omega
 ·show (if p.e=0 then p.read+(Qad p).lead.size else p.place)≤_
  have h1:=h.nextLe;have h2:=h.place
  split <;> omega
theorem PSok.second {p:PS} (h:PSok p) (hk:(Qad p).kind≠0):2≤p.rest.length:=by
 obtain ⟨l,e,hr,he⟩:=h.last;cases l with
 | nil =>
  exfalso
  apply hk
  unfold Qad;rw [hr];exact he
 | cons a r=>rw [hr];simp
end Go.Proofs.YtjidpkcjpgdafaaGreat
namespace Go.Proofs.YtjidpkcjpgdafaaGreat
open Go.RowKit
def fnV (n:Nat):Value :=
 match n with
 | 0=>.nilFunc
 | 1=>.func (.func 174) #[] #[]
 | 2=>.func (.func 176) #[] #[]
 | 3=>.func (.func 178) #[] #[]
 | 4=>.func (.func 223) #[] #[]
 | 5=>.func (.func 221) #[] #[]
 | 6=>.func (.func 222) #[] #[]
 | _=>.func (.func 184) #[] #[]
def Qqa (x:Part):List Value:=[.string x.word,fnV x.nm,.int .i64 x.kids,.int .i64 x.least,.int .i64 x.most,.bool x.series,.bool x.commas]
theorem Qcg (s:ByteArray) (w:World):Calls Tryz.prog 172 #[.string s] w fun e w'=>e = .returned (.agg #[.string s,.nilFunc,.int .i64 0,.int .i64 0,.int .i64 0,.bool false,.bool false])∧Below w.heap.size w w':=by
 go_enter Tryz.func172,Tryz.ntmps172
 go_wp2
 exact bodyPost_ret (v:=.agg #[.string s,.nilFunc,.int .i64 0,.int .i64 0,.int .i64 0,.bool false,.bool false]) (by simp [results,Tryz.results172,go_sem]) rfl ⟨rfl,(xC _ _).alloc (xA _) _⟩
theorem Qch (f:FuncId) (w:World):Calls Tryz.prog 173 #[.func (.func f) #[] #[]] w fun e w'=>e = .returned (.agg #[.string ⟨#[]⟩,.func (.func f) #[] #[],.int .i64 0,.int .i64 0,.int .i64 0,.bool false,.bool false])∧Below w.heap.size w w':=by
 go_enter Tryz.func173,Tryz.ntmps173
 go_wp2
 exact bodyPost_ret (v:=.agg #[.string ⟨#[]⟩,.func (.func f) #[] #[],.int .i64 0,.int .i64 0,.int .i64 0,.bool false,.bool false]) (by simp [results,Tryz.results173,go_sem]) rfl ⟨rfl,(xC _ _).alloc (xA _) _⟩
theorem Qc4 (s:Int) (w:World):Calls Tryz.prog 177 #[.int .i64 s] w fun e w'=>e = .returned (.agg #[.string ⟨#[]⟩,.nilFunc,.int .i64 s,.int .i64 0,.int .i64 1,.bool false,.bool false])∧Below w.heap.size w w':=by
 go_enter Tryz.func177,Tryz.ntmps177
 go_wp2
 exact bodyPost_ret (v:=.agg #[.string ⟨#[]⟩,.nilFunc,.int .i64 s,.int .i64 0,.int .i64 1,.bool false,.bool false]) (by simp [results,Tryz.results177,go_sem]) rfl ⟨rfl,(xC _ _).alloc (xA _) _⟩
theorem Qci (s least most:Int) (w:World):Calls Tryz.prog 175 #[.int .i64 s,.int .i64 least,.int .i64 most] w fun e w'=>e = .returned (.agg #[.string ⟨#[]⟩,.nilFunc,.int .i64 s,.int .i64 least,.int .i64 most,.bool true,.bool (s != 1)])∧Below w.heap.size w w':=by
 go_enter Tryz.func175,Tryz.ntmps175
 go_wp2
 exact bodyPost_ret (v:=.agg #[.string ⟨#[]⟩,.nilFunc,.int .i64 s,.int .i64 least,.int .i64 most,.bool true,.bool (s != 1)]) (by simp [results,Tryz.results175,go_sem]) rfl ⟨rfl,(xC _ _).alloc (xA _) _⟩
def Parts (B:Nat) (w:World) (A:Option Addr) (l:List Part):Prop :=
 l≠[]→∃ b cs,A=some ⟨b,0,none⟩∧B≤b∧w.heap[b]? = some (.cells cs 176 (0,0))∧cs.toList=l.flatMap Qqa
theorem Parts.nil (B:Nat) (w:World):Parts B w none []:=fun h=>absurd rfl h
theorem Parts.lit (w:World) (l:List Part) (cs:Array Value) (h:cs.toList=l.flatMap Qqa) {B:Nat} (hB:B≤w.heap.size):Parts B (w.alloc (.cells cs 176)) (some ⟨w.heap.size,0,none⟩) l :=
 fun _=>⟨w.heap.size,cs,rfl,hB,xH w _,h⟩
def Qbh (k:Int) (w:World) (e:Ending) (w':World):Prop :=
 ∃ A c,e = .returned (.slice A (Qae k).length c)∧Parts w.heap.size w' A (Qae k)∧Below w.heap.size w w'
theorem Zei (w:World):Calls Tryz.prog 124 #[.int .i64 1] w (Qbh 1 w):=by
 go_enter Tryz.func124,Tryz.ntmps124
 have HB:=hQ (xC w.heap.size w)
 go_wp2_with (first
  | (go_at_call 172;refine (Qcg _ _).mono ?_;rintro e w' ⟨rfl,hb⟩;replace HB:=hQ (HB.out.trans (hb.mono HB.out.size));clear hb)
  | (go_at_call 173;refine (Qch _ _).mono ?_;rintro e w' ⟨rfl,hb⟩;replace HB:=hQ (HB.out.trans (hb.mono HB.out.size));clear hb)
  | (go_at_call 177;refine (Qc4 _ _).mono ?_;rintro e w' ⟨rfl,hb⟩;replace HB:=hQ (HB.out.trans (hb.mono HB.out.size));clear hb)
  | (go_at_call 175;refine (Qci _ _ _ _).mono ?_;rintro e w' ⟨rfl,hb⟩;replace HB:=hQ (HB.out.trans (hb.mono HB.out.size));clear hb))
 go_ret
 exact ⟨some ⟨_,0,none⟩,4,rfl,Parts.lit _ _ _ rfl HB.out.size,HB.out.alloc HB.out.size _⟩
theorem Zej (w:World):Calls Tryz.prog 124 #[.int .i64 2] w (Qbh 2 w):=by
 go_enter Tryz.func124,Tryz.ntmps124
 have HB:=hQ (xC w.heap.size w)
 go_wp2_with (first
  | (go_at_call 172;refine (Qcg _ _).mono ?_;rintro e w' ⟨rfl,hb⟩;replace HB:=hQ (HB.out.trans (hb.mono HB.out.size));clear hb)
  | (go_at_call 173;refine (Qch _ _).mono ?_;rintro e w' ⟨rfl,hb⟩;replace HB:=hQ (HB.out.trans (hb.mono HB.out.size));clear hb)
  | (go_at_call 177;refine (Qc4 _ _).mono ?_;rintro e w' ⟨rfl,hb⟩;replace HB:=hQ (HB.out.trans (hb.mono HB.out.size));clear hb)
  | (go_at_call 175;refine (Qci _ _ _ _).mono ?_;rintro e w' ⟨rfl,hb⟩;replace HB:=hQ (HB.out.trans (hb.mono HB.out.size));clear hb))
 go_ret
 exact ⟨some ⟨_,0,none⟩,9,rfl,Parts.lit _ _ _ rfl HB.out.size,HB.out.alloc HB.out.size _⟩
theorem Zek (w:World):Calls Tryz.prog 124 #[.int .i64 3] w (Qbh 3 w):=by
 go_enter Tryz.func124,Tryz.ntmps124
 have HB:=hQ (xC w.heap.size w)
 go_wp2_with (first
  | (go_at_call 172;refine (Qcg _ _).mono ?_;rintro e w' ⟨rfl,hb⟩;replace HB:=hQ (HB.out.trans (hb.mono HB.out.size));clear hb)
  | (go_at_call 173;refine (Qch _ _).mono ?_;rintro e w' ⟨rfl,hb⟩;replace HB:=hQ (HB.out.trans (hb.mono HB.out.size));clear hb)
  | (go_at_call 177;refine (Qc4 _ _).mono ?_;rintro e w' ⟨rfl,hb⟩;replace HB:=hQ (HB.out.trans (hb.mono HB.out.size));clear hb)
  | (go_at_call 175;refine (Qci _ _ _ _).mono ?_;rintro e w' ⟨rfl,hb⟩;replace HB:=hQ (HB.out.trans (hb.mono HB.out.size));clear hb))
 go_ret
 exact ⟨some ⟨_,0,none⟩,4,rfl,Parts.lit _ _ _ rfl HB.out.size,HB.out.alloc HB.out.size _⟩
theorem Zel (w:World):Calls Tryz.prog 124 #[.int .i64 4] w (Qbh 4 w):=by
 go_enter Tryz.func124,Tryz.ntmps124
 have HB:=hQ (xC w.heap.size w)
 go_wp2_with (first
  | (go_at_call 172;refine (Qcg _ _).mono ?_;rintro e w' ⟨rfl,hb⟩;replace HB:=hQ (HB.out.trans (hb.mono HB.out.size));clear hb)
  | (go_at_call 173;refine (Qch _ _).mono ?_;rintro e w' ⟨rfl,hb⟩;replace HB:=hQ (HB.out.trans (hb.mono HB.out.size));clear hb)
  | (go_at_call 177;refine (Qc4 _ _).mono ?_;rintro e w' ⟨rfl,hb⟩;replace HB:=hQ (HB.out.trans (hb.mono HB.out.size));clear hb)
  | (go_at_call 175;refine (Qci _ _ _ _).mono ?_;rintro e w' ⟨rfl,hb⟩;replace HB:=hQ (HB.out.trans (hb.mono HB.out.size));clear hb))
 go_ret
 exact ⟨some ⟨_,0,none⟩,3,rfl,Parts.lit _ _ _ rfl HB.out.size,HB.out.alloc HB.out.size _⟩
theorem Zem (w:World):Calls Tryz.prog 124 #[.int .i64 5] w (Qbh 5 w):=by
 go_enter Tryz.func124,Tryz.ntmps124
 have HB:=hQ (xC w.heap.size w)
 go_wp2_with (first
  | (go_at_call 172;refine (Qcg _ _).mono ?_;rintro e w' ⟨rfl,hb⟩;replace HB:=hQ (HB.out.trans (hb.mono HB.out.size));clear hb)
  | (go_at_call 173;refine (Qch _ _).mono ?_;rintro e w' ⟨rfl,hb⟩;replace HB:=hQ (HB.out.trans (hb.mono HB.out.size));clear hb)
  | (go_at_call 177;refine (Qc4 _ _).mono ?_;rintro e w' ⟨rfl,hb⟩;replace HB:=hQ (HB.out.trans (hb.mono HB.out.size));clear hb)
  | (go_at_call 175;refine (Qci _ _ _ _).mono ?_;rintro e w' ⟨rfl,hb⟩;replace HB:=hQ (HB.out.trans (hb.mono HB.out.size));clear hb))
 go_ret
 exact ⟨some ⟨_,0,none⟩,1,rfl,Parts.lit _ _ _ rfl HB.out.size,HB.out.alloc HB.out.size _⟩
theorem Zen (w:World):Calls Tryz.prog 124 #[.int .i64 6] w (Qbh 6 w):=by
 go_enter Tryz.func124,Tryz.ntmps124
 have HB:=hQ (xC w.heap.size w)
 go_wp2_with (first
  | (go_at_call 172;refine (Qcg _ _).mono ?_;rintro e w' ⟨rfl,hb⟩;replace HB:=hQ (HB.out.trans (hb.mono HB.out.size));clear hb)
  | (go_at_call 173;refine (Qch _ _).mono ?_;rintro e w' ⟨rfl,hb⟩;replace HB:=hQ (HB.out.trans (hb.mono HB.out.size));clear hb)
  | (go_at_call 177;refine (Qc4 _ _).mono ?_;rintro e w' ⟨rfl,hb⟩;replace HB:=hQ (HB.out.trans (hb.mono HB.out.size));clear hb)
  | (go_at_call 175;refine (Qci _ _ _ _).mono ?_;rintro e w' ⟨rfl,hb⟩;replace HB:=hQ (HB.out.trans (hb.mono HB.out.size));clear hb))
 go_ret
 exact ⟨some ⟨_,0,none⟩,1,rfl,Parts.lit _ _ _ rfl HB.out.size,HB.out.alloc HB.out.size _⟩
theorem Zeo (w:World):Calls Tryz.prog 124 #[.int .i64 7] w (Qbh 7 w):=by
 go_enter Tryz.func124,Tryz.ntmps124
 have HB:=hQ (xC w.heap.size w)
 go_wp2_with (first
  | (go_at_call 172;refine (Qcg _ _).mono ?_;rintro e w' ⟨rfl,hb⟩;replace HB:=hQ (HB.out.trans (hb.mono HB.out.size));clear hb)
  | (go_at_call 173;refine (Qch _ _).mono ?_;rintro e w' ⟨rfl,hb⟩;replace HB:=hQ (HB.out.trans (hb.mono HB.out.size));clear hb)
  | (go_at_call 177;refine (Qc4 _ _).mono ?_;rintro e w' ⟨rfl,hb⟩;replace HB:=hQ (HB.out.trans (hb.mono HB.out.size));clear hb)
  | (go_at_call 175;refine (Qci _ _ _ _).mono ?_;rintro e w' ⟨rfl,hb⟩;replace HB:=hQ (HB.out.trans (hb.mono HB.out.size));clear hb))
 go_ret
 exact ⟨some ⟨_,0,none⟩,1,rfl,Parts.lit _ _ _ rfl HB.out.size,HB.out.alloc HB.out.size _⟩
theorem Zep (w:World):Calls Tryz.prog 124 #[.int .i64 8] w (Qbh 8 w):=by
 go_enter Tryz.func124,Tryz.ntmps124
 have HB:=hQ (xC w.heap.size w)
 go_wp2_with (first
  | (go_at_call 172;refine (Qcg _ _).mono ?_;rintro e w' ⟨rfl,hb⟩;replace HB:=hQ (HB.out.trans (hb.mono HB.out.size));clear hb)
  | (go_at_call 173;refine (Qch _ _).mono ?_;rintro e w' ⟨rfl,hb⟩;replace HB:=hQ (HB.out.trans (hb.mono HB.out.size));clear hb)
  | (go_at_call 177;refine (Qc4 _ _).mono ?_;rintro e w' ⟨rfl,hb⟩;replace HB:=hQ (HB.out.trans (hb.mono HB.out.size));clear hb)
  | (go_at_call 175;refine (Qci _ _ _ _).mono ?_;rintro e w' ⟨rfl,hb⟩;replace HB:=hQ (HB.out.trans (hb.mono HB.out.size));clear hb))
 go_ret
 exact ⟨some ⟨_,0,none⟩,3,rfl,Parts.lit _ _ _ rfl HB.out.size,HB.out.alloc HB.out.size _⟩
theorem Zeq (w:World):Calls Tryz.prog 124 #[.int .i64 9] w (Qbh 9 w):=by
 go_enter Tryz.func124,Tryz.ntmps124
 have HB:=hQ (xC w.heap.size w)
 go_wp2_with (first
  | (go_at_call 172;refine (Qcg _ _).mono ?_;rintro e w' ⟨rfl,hb⟩;replace HB:=hQ (HB.out.trans (hb.mono HB.out.size));clear hb)
  | (go_at_call 173;refine (Qch _ _).mono ?_;rintro e w' ⟨rfl,hb⟩;replace HB:=hQ (HB.out.trans (hb.mono HB.out.size));clear hb)
  | (go_at_call 177;refine (Qc4 _ _).mono ?_;rintro e w' ⟨rfl,hb⟩;replace HB:=hQ (HB.out.trans (hb.mono HB.out.size));clear hb)
  | (go_at_call 175;refine (Qci _ _ _ _).mono ?_;rintro e w' ⟨rfl,hb⟩;replace HB:=hQ (HB.out.trans (hb.mono HB.out.size));clear hb))
 go_ret
 exact ⟨some ⟨_,0,none⟩,1,rfl,Parts.lit _ _ _ rfl HB.out.size,HB.out.alloc HB.out.size _⟩
theorem Qxm (w:World):Calls Tryz.prog 179 #[.int .i64 10] w (Qbh 10 w):=by
 go_enter Tryz.func179,Tryz.ntmps179
 have HB:=hQ (xC w.heap.size w)
 go_wp2_with (first
  | (go_at_call 172;refine (Qcg _ _).mono ?_;rintro e w' ⟨rfl,hb⟩;replace HB:=hQ (HB.out.trans (hb.mono HB.out.size));clear hb)
  | (go_at_call 173;refine (Qch _ _).mono ?_;rintro e w' ⟨rfl,hb⟩;replace HB:=hQ (HB.out.trans (hb.mono HB.out.size));clear hb)
  | (go_at_call 177;refine (Qc4 _ _).mono ?_;rintro e w' ⟨rfl,hb⟩;replace HB:=hQ (HB.out.trans (hb.mono HB.out.size));clear hb)
  | (go_at_call 175;refine (Qci _ _ _ _).mono ?_;rintro e w' ⟨rfl,hb⟩;replace HB:=hQ (HB.out.trans (hb.mono HB.out.size));clear hb))
 go_ret
 exact ⟨some ⟨_,0,none⟩,1,rfl,Parts.lit _ _ _ rfl HB.out.size,HB.out.alloc HB.out.size _⟩
theorem Qxn (w:World):Calls Tryz.prog 179 #[.int .i64 11] w (Qbh 11 w):=by
 go_enter Tryz.func179,Tryz.ntmps179
 have HB:=hQ (xC w.heap.size w)
 go_wp2_with (first
  | (go_at_call 172;refine (Qcg _ _).mono ?_;rintro e w' ⟨rfl,hb⟩;replace HB:=hQ (HB.out.trans (hb.mono HB.out.size));clear hb)
  | (go_at_call 173;refine (Qch _ _).mono ?_;rintro e w' ⟨rfl,hb⟩;replace HB:=hQ (HB.out.trans (hb.mono HB.out.size));clear hb)
  | (go_at_call 177;refine (Qc4 _ _).mono ?_;rintro e w' ⟨rfl,hb⟩;replace HB:=hQ (HB.out.trans (hb.mono HB.out.size));clear hb)
  | (go_at_call 175;refine (Qci _ _ _ _).mono ?_;rintro e w' ⟨rfl,hb⟩;replace HB:=hQ (HB.out.trans (hb.mono HB.out.size));clear hb))
 go_ret
 exact ⟨some ⟨_,0,none⟩,1,rfl,Parts.lit _ _ _ rfl HB.out.size,HB.out.alloc HB.out.size _⟩
theorem Qxo (w:World):Calls Tryz.prog 179 #[.int .i64 12] w (Qbh 12 w):=by
 go_enter Tryz.func179,Tryz.ntmps179
 have HB:=hQ (xC w.heap.size w)
 go_wp2_with (first
  | (go_at_call 172;refine (Qcg _ _).mono ?_;rintro e w' ⟨rfl,hb⟩;replace HB:=hQ (HB.out.trans (hb.mono HB.out.size));clear hb)
  | (go_at_call 173;refine (Qch _ _).mono ?_;rintro e w' ⟨rfl,hb⟩;replace HB:=hQ (HB.out.trans (hb.mono HB.out.size));clear hb)
  | (go_at_call 177;refine (Qc4 _ _).mono ?_;rintro e w' ⟨rfl,hb⟩;replace HB:=hQ (HB.out.trans (hb.mono HB.out.size));clear hb)
  | (go_at_call 175;refine (Qci _ _ _ _).mono ?_;rintro e w' ⟨rfl,hb⟩;replace HB:=hQ (HB.out.trans (hb.mono HB.out.size));clear hb))
 go_ret
 exact ⟨some ⟨_,0,none⟩,1,rfl,Parts.lit _ _ _ rfl HB.out.size,HB.out.alloc HB.out.size _⟩
theorem Qxp (w:World):Calls Tryz.prog 179 #[.int .i64 13] w (Qbh 13 w):=by
 go_enter Tryz.func179,Tryz.ntmps179
 have HB:=hQ (xC w.heap.size w)
 go_wp2_with (first
  | (go_at_call 172;refine (Qcg _ _).mono ?_;rintro e w' ⟨rfl,hb⟩;replace HB:=hQ (HB.out.trans (hb.mono HB.out.size));clear hb)
  | (go_at_call 173;refine (Qch _ _).mono ?_;rintro e w' ⟨rfl,hb⟩;replace HB:=hQ (HB.out.trans (hb.mono HB.out.size));clear hb)
  | (go_at_call 177;refine (Qc4 _ _).mono ?_;rintro e w' ⟨rfl,hb⟩;replace HB:=hQ (HB.out.trans (hb.mono HB.out.size));clear hb)
  | (go_at_call 175;refine (Qci _ _ _ _).mono ?_;rintro e w' ⟨rfl,hb⟩;replace HB:=hQ (HB.out.trans (hb.mono HB.out.size));clear hb))
 go_ret
 exact ⟨some ⟨_,0,none⟩,1,rfl,Parts.lit _ _ _ rfl HB.out.size,HB.out.alloc HB.out.size _⟩
theorem Qxq (w:World):Calls Tryz.prog 179 #[.int .i64 14] w (Qbh 14 w):=by
 go_enter Tryz.func179,Tryz.ntmps179
 have HB:=hQ (xC w.heap.size w)
 go_wp2_with (first
  | (go_at_call 172;refine (Qcg _ _).mono ?_;rintro e w' ⟨rfl,hb⟩;replace HB:=hQ (HB.out.trans (hb.mono HB.out.size));clear hb)
  | (go_at_call 173;refine (Qch _ _).mono ?_;rintro e w' ⟨rfl,hb⟩;replace HB:=hQ (HB.out.trans (hb.mono HB.out.size));clear hb)
  | (go_at_call 177;refine (Qc4 _ _).mono ?_;rintro e w' ⟨rfl,hb⟩;replace HB:=hQ (HB.out.trans (hb.mono HB.out.size));clear hb)
  | (go_at_call 175;refine (Qci _ _ _ _).mono ?_;rintro e w' ⟨rfl,hb⟩;replace HB:=hQ (HB.out.trans (hb.mono HB.out.size));clear hb))
 go_ret
 exact ⟨some ⟨_,0,none⟩,1,rfl,Parts.lit _ _ _ rfl HB.out.size,HB.out.alloc HB.out.size _⟩
theorem Qxr (w:World):Calls Tryz.prog 179 #[.int .i64 15] w (Qbh 15 w):=by
 go_enter Tryz.func179,Tryz.ntmps179
 have HB:=hQ (xC w.heap.size w)
 go_wp2_with (first
  | (go_at_call 172;refine (Qcg _ _).mono ?_;rintro e w' ⟨rfl,hb⟩;replace HB:=hQ (HB.out.trans (hb.mono HB.out.size));clear hb)
  | (go_at_call 173;refine (Qch _ _).mono ?_;rintro e w' ⟨rfl,hb⟩;replace HB:=hQ (HB.out.trans (hb.mono HB.out.size));clear hb)
  | (go_at_call 177;refine (Qc4 _ _).mono ?_;rintro e w' ⟨rfl,hb⟩;replace HB:=hQ (HB.out.trans (hb.mono HB.out.size));clear hb)
  | (go_at_call 175;refine (Qci _ _ _ _).mono ?_;rintro e w' ⟨rfl,hb⟩;replace HB:=hQ (HB.out.trans (hb.mono HB.out.size));clear hb))
 go_ret
 exact ⟨some ⟨_,0,none⟩,1,rfl,Parts.lit _ _ _ rfl HB.out.size,HB.out.alloc HB.out.size _⟩
theorem Qxs (w:World):Calls Tryz.prog 179 #[.int .i64 16] w (Qbh 16 w):=by
 go_enter Tryz.func179,Tryz.ntmps179
 have HB:=hQ (xC w.heap.size w)
 go_wp2_with (first
  | (go_at_call 172;refine (Qcg _ _).mono ?_;rintro e w' ⟨rfl,hb⟩;replace HB:=hQ (HB.out.trans (hb.mono HB.out.size));clear hb)
  | (go_at_call 173;refine (Qch _ _).mono ?_;rintro e w' ⟨rfl,hb⟩;replace HB:=hQ (HB.out.trans (hb.mono HB.out.size));clear hb)
  | (go_at_call 177;refine (Qc4 _ _).mono ?_;rintro e w' ⟨rfl,hb⟩;replace HB:=hQ (HB.out.trans (hb.mono HB.out.size));clear hb)
  | (go_at_call 175;refine (Qci _ _ _ _).mono ?_;rintro e w' ⟨rfl,hb⟩;replace HB:=hQ (HB.out.trans (hb.mono HB.out.size));clear hb))
 go_ret
 exact ⟨some ⟨_,0,none⟩,4,rfl,Parts.lit _ _ _ rfl HB.out.size,HB.out.alloc HB.out.size _⟩
theorem Qxt (w:World):Calls Tryz.prog 179 #[.int .i64 17] w (Qbh 17 w):=by
 go_enter Tryz.func179,Tryz.ntmps179
 have HB:=hQ (xC w.heap.size w)
 go_wp2_with (first
  | (go_at_call 172;refine (Qcg _ _).mono ?_;rintro e w' ⟨rfl,hb⟩;replace HB:=hQ (HB.out.trans (hb.mono HB.out.size));clear hb)
  | (go_at_call 173;refine (Qch _ _).mono ?_;rintro e w' ⟨rfl,hb⟩;replace HB:=hQ (HB.out.trans (hb.mono HB.out.size));clear hb)
  | (go_at_call 177;refine (Qc4 _ _).mono ?_;rintro e w' ⟨rfl,hb⟩;replace HB:=hQ (HB.out.trans (hb.mono HB.out.size));clear hb)
  | (go_at_call 175;refine (Qci _ _ _ _).mono ?_;rintro e w' ⟨rfl,hb⟩;replace HB:=hQ (HB.out.trans (hb.mono HB.out.size));clear hb))
 go_ret
 exact ⟨some ⟨_,0,none⟩,1,rfl,Parts.lit _ _ _ rfl HB.out.size,HB.out.alloc HB.out.size _⟩
theorem Qxu (w:World):Calls Tryz.prog 179 #[.int .i64 18] w (Qbh 18 w):=by
 go_enter Tryz.func179,Tryz.ntmps179
 have HB:=hQ (xC w.heap.size w)
 go_wp2_with (first
  | (go_at_call 172;refine (Qcg _ _).mono ?_;rintro e w' ⟨rfl,hb⟩;replace HB:=hQ (HB.out.trans (hb.mono HB.out.size));clear hb)
  | (go_at_call 173;refine (Qch _ _).mono ?_;rintro e w' ⟨rfl,hb⟩;replace HB:=hQ (HB.out.trans (hb.mono HB.out.size));clear hb)
  | (go_at_call 177;refine (Qc4 _ _).mono ?_;rintro e w' ⟨rfl,hb⟩;replace HB:=hQ (HB.out.trans (hb.mono HB.out.size));clear hb)
  | (go_at_call 175;refine (Qci _ _ _ _).mono ?_;rintro e w' ⟨rfl,hb⟩;replace HB:=hQ (HB.out.trans (hb.mono HB.out.size));clear hb))
 go_ret
 exact ⟨some ⟨_,0,none⟩,3,rfl,Parts.lit _ _ _ rfl HB.out.size,HB.out.alloc HB.out.size _⟩
theorem Qxv (w:World):Calls Tryz.prog 179 #[.int .i64 19] w (Qbh 19 w):=by
 go_enter Tryz.func179,Tryz.ntmps179
 have HB:=hQ (xC w.heap.size w)
 go_wp2_with (first
  | (go_at_call 172;refine (Qcg _ _).mono ?_;rintro e w' ⟨rfl,hb⟩;replace HB:=hQ (HB.out.trans (hb.mono HB.out.size));clear hb)
  | (go_at_call 173;refine (Qch _ _).mono ?_;rintro e w' ⟨rfl,hb⟩;replace HB:=hQ (HB.out.trans (hb.mono HB.out.size));clear hb)
  | (go_at_call 177;refine (Qc4 _ _).mono ?_;rintro e w' ⟨rfl,hb⟩;replace HB:=hQ (HB.out.trans (hb.mono HB.out.size));clear hb)
  | (go_at_call 175;refine (Qci _ _ _ _).mono ?_;rintro e w' ⟨rfl,hb⟩;replace HB:=hQ (HB.out.trans (hb.mono HB.out.size));clear hb))
 go_ret
 exact ⟨some ⟨_,0,none⟩,6,rfl,Parts.lit _ _ _ rfl HB.out.size,HB.out.alloc HB.out.size _⟩
theorem Qxw (w:World):Calls Tryz.prog 179 #[.int .i64 20] w (Qbh 20 w):=by
 go_enter Tryz.func179,Tryz.ntmps179
 have HB:=hQ (xC w.heap.size w)
 go_wp2_with (first
  | (go_at_call 172;refine (Qcg _ _).mono ?_;rintro e w' ⟨rfl,hb⟩;replace HB:=hQ (HB.out.trans (hb.mono HB.out.size));clear hb)
  | (go_at_call 173;refine (Qch _ _).mono ?_;rintro e w' ⟨rfl,hb⟩;replace HB:=hQ (HB.out.trans (hb.mono HB.out.size));clear hb)
  | (go_at_call 177;refine (Qc4 _ _).mono ?_;rintro e w' ⟨rfl,hb⟩;replace HB:=hQ (HB.out.trans (hb.mono HB.out.size));clear hb)
  | (go_at_call 175;refine (Qci _ _ _ _).mono ?_;rintro e w' ⟨rfl,hb⟩;replace HB:=hQ (HB.out.trans (hb.mono HB.out.size));clear hb))
 go_ret
 exact ⟨some ⟨_,0,none⟩,6,rfl,Parts.lit _ _ _ rfl HB.out.size,HB.out.alloc HB.out.size _⟩
theorem Qxx (w:World):Calls Tryz.prog 179 #[.int .i64 21] w (Qbh 21 w):=by
 go_enter Tryz.func179,Tryz.ntmps179
 have HB:=hQ (xC w.heap.size w)
 go_wp2_with (first
  | (go_at_call 172;refine (Qcg _ _).mono ?_;rintro e w' ⟨rfl,hb⟩;replace HB:=hQ (HB.out.trans (hb.mono HB.out.size));clear hb)
  | (go_at_call 173;refine (Qch _ _).mono ?_;rintro e w' ⟨rfl,hb⟩;replace HB:=hQ (HB.out.trans (hb.mono HB.out.size));clear hb)
  | (go_at_call 177;refine (Qc4 _ _).mono ?_;rintro e w' ⟨rfl,hb⟩;replace HB:=hQ (HB.out.trans (hb.mono HB.out.size));clear hb)
  | (go_at_call 175;refine (Qci _ _ _ _).mono ?_;rintro e w' ⟨rfl,hb⟩;replace HB:=hQ (HB.out.trans (hb.mono HB.out.size));clear hb))
 go_ret
 exact ⟨some ⟨_,0,none⟩,3,rfl,Parts.lit _ _ _ rfl HB.out.size,HB.out.alloc HB.out.size _⟩
theorem Qxy (w:World):Calls Tryz.prog 179 #[.int .i64 22] w (Qbh 22 w):=by
 go_enter Tryz.func179,Tryz.ntmps179
 have HB:=hQ (xC w.heap.size w)
 go_wp2_with (first
  | (go_at_call 172;refine (Qcg _ _).mono ?_;rintro e w' ⟨rfl,hb⟩;replace HB:=hQ (HB.out.trans (hb.mono HB.out.size));clear hb)
  | (go_at_call 173;refine (Qch _ _).mono ?_;rintro e w' ⟨rfl,hb⟩;replace HB:=hQ (HB.out.trans (hb.mono HB.out.size));clear hb)
  | (go_at_call 177;refine (Qc4 _ _).mono ?_;rintro e w' ⟨rfl,hb⟩;replace HB:=hQ (HB.out.trans (hb.mono HB.out.size));clear hb)
  | (go_at_call 175;refine (Qci _ _ _ _).mono ?_;rintro e w' ⟨rfl,hb⟩;replace HB:=hQ (HB.out.trans (hb.mono HB.out.size));clear hb))
 go_ret
 exact ⟨some ⟨_,0,none⟩,3,rfl,Parts.lit _ _ _ rfl HB.out.size,HB.out.alloc HB.out.size _⟩
theorem Qds {k:Int} (h:k≤0∨23≤k):Qae k = []:=by
 unfold Qae;simp only [show k≠1 from by omega,show k≠2 from by omega,show k≠3 from by omega,show k≠4 from by omega,show k≠5 from by omega,show k≠6 from by omega,show k≠7 from by omega,show k≠8 from by omega,show k≠9 from by omega,show k≠10 from by omega,show k≠11 from by omega,show k≠12 from by omega,show k≠13 from by omega,show k≠14 from by omega,show k≠15 from by omega,show k≠16 from by omega,show k≠17 from by omega,show k≠18 from by omega,show k≠19 from by omega,show k≠20 from by omega,show k≠21 from by omega,show k≠22 from by omega,if_false]
theorem Qcn {a b:Int} (h:a≠b):(a==b)=false:=by simpa using h
theorem Qr1 (k:Int) (w:World) (h:k≤0∨23≤k):Calls Tryz.prog 179 #[.int .i64 k] w (Qbh k w):=by
 have e10:=Qcn (show k≠10 from by omega);have e11:=Qcn (show k≠11 from by omega);have e12:=Qcn (show k≠12 from by omega);have e13:=Qcn (show k≠13 from by omega);have e14:=Qcn (show k≠14 from by omega);have e15:=Qcn (show k≠15 from by omega);have e16:=Qcn (show k≠16 from by omega);have e17:=Qcn (show k≠17 from by omega);have e18:=Qcn (show k≠18 from by omega);have e19:=Qcn (show k≠19 from by omega);have e20:=Qcn (show k≠20 from by omega);have e21:=Qcn (show k≠21 from by omega);have e22:=Qcn (show k≠22 from by omega);have HP:=hQ (Qds h);clear h
 go_enter Tryz.func179,Tryz.ntmps179
 go_wp2
 go_ret
 exact ⟨none,0,by rw [HP.out];rfl,by rw [HP.out];exact Parts.nil _ _,xC _ _⟩
theorem Quy (k:Int) (w:World) (h:k≤0∨10≤k):Calls Tryz.prog 179 #[.int .i64 k] w (Qbh k w):=by
 by_cases e10:k=10
 ·subst e10;exact Qxm w
 by_cases e11:k=11
 ·subst e11;exact Qxn w
 by_cases e12:k=12
 ·subst e12;exact Qxo w
 by_cases e13:k=13
 ·subst e13;exact Qxp w
 by_cases e14:k=14
 ·subst e14;exact Qxq w
 by_cases e15:k=15
 ·subst e15;exact Qxr w
 by_cases e16:k=16
 ·subst e16;exact Qxs w
 by_cases e17:k=17
 ·subst e17;exact Qxt w
 by_cases e18:k=18
 ·subst e18;exact Qxu w
 by_cases e19:k=19
 ·subst e19;exact Qxv w
 by_cases e20:k=20
 ·subst e20;exact Qxw w
 by_cases e21:k=21
 ·subst e21;exact Qxx w
 by_cases e22:k=22
 ·subst e22;exact Qxy w
 exact Qr1 k w (by omega)
theorem Qxz (k:Int) (w:World) (h:k≤0∨10≤k):Calls Tryz.prog 124 #[.int .i64 k] w (Qbh k w):=by
 have e1:=Qcn (show k≠1 from by omega);have e2:=Qcn (show k≠2 from by omega);have e3:=Qcn (show k≠3 from by omega);have e4:=Qcn (show k≠4 from by omega);have e5:=Qcn (show k≠5 from by omega);have e6:=Qcn (show k≠6 from by omega);have e7:=Qcn (show k≠7 from by omega);have e8:=Qcn (show k≠8 from by omega);have e9:=Qcn (show k≠9 from by omega);have HK:=hQ h;clear h
 go_enter Tryz.func124,Tryz.ntmps124
 go_wp2_with (go_at_call 179;refine (Quy _ _ HK.out).mono ?_;rintro e w' ⟨A,c,rfl,hp,hb⟩)
 go_ret
 exact ⟨A,c,rfl,hp,hb⟩
theorem Qgi (k:Int) (w:World):Calls Tryz.prog 124 #[.int .i64 k] w (Qbh k w):=by
 by_cases e1:k=1
 ·subst e1;exact Zei w
 by_cases e2:k=2
 ·subst e2;exact Zej w
 by_cases e3:k=3
 ·subst e3;exact Zek w
 by_cases e4:k=4
 ·subst e4;exact Zel w
 by_cases e5:k=5
 ·subst e5;exact Zem w
 by_cases e6:k=6
 ·subst e6;exact Zen w
 by_cases e7:k=7
 ·subst e7;exact Zeo w
 by_cases e8:k=8
 ·subst e8;exact Zep w
 by_cases e9:k=9
 ·subst e9;exact Zeq w
 exact Qxz k w (by omega)
end Go.Proofs.YtjidpkcjpgdafaaGreat
