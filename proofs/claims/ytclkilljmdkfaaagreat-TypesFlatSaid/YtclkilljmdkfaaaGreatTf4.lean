/- Part 4 -/
import Derived.Test.YtclkilljmdkfaaaGreatTf3
import Derived.Laws.EntriesVeiled
set_option maxRecDepth 100000
set_option maxHeartbeats 4000000
namespace Go.Proofs.YtclkilljmdkfaaaGreat
inductive Tr where
 | mk (kind:Int) (text:ByteArray) (leads:List ByteArray) (kids:List Tr)
def Tr.kind:Tr→Int | .mk k _ _ _=>k
def Tr.text:Tr→ByteArray | .mk _ x _ _=>x
def Tr.leads:Tr→List ByteArray | .mk _ _ l _=>l
def Tr.kids:Tr→List Tr | .mk _ _ _ l=>l
theorem Tr.eta (t:Tr):Tr.mk t.kind t.text t.leads t.kids=t:=by cases t;rfl
def Qiw:Tr:=.mk 0 ⟨#[]⟩ [] []
structure Part where
 word:ByteArray
 nm:Nat
 kids:Int
 least:Int
 most:Int
 series:Bool
 commas:Bool
def Qcs (s:ByteArray):Part:=⟨s,0,0,0,0,false,false⟩
def Qe6 (n:Nat):Part:=⟨⟨#[]⟩,n,0,0,0,false,false⟩
def Qk2 (s:Int):Part:=⟨⟨#[]⟩,0,s,0,1,false,false⟩
def Qgh (s least most:Int):Part:=⟨⟨#[]⟩,0,s,least,most,true,s != 1⟩
def Qae (k:Int):List Part :=
 if k=1 then [Qcs ⟨#[109,111,100,117,108,101]⟩,Qe6 1,Qgh 1 0 40,Qcs ⟨#[]⟩]
 else if k=2 then [Qcs ⟨#[100,101,102]⟩,Qe6 2,Qcs ⟨#[40]⟩,Qgh 2 0 8,Qcs ⟨#[41]⟩,Qcs ⟨#[58]⟩,Qk2 3,Qcs ⟨#[61]⟩,Qk2 5]
 else if k=3 then [Qcs ⟨#[116,121,112,101]⟩,Qe6 1,Qcs ⟨#[61]⟩,Qk2 3]
 else if k=4 then [Qe6 2,Qcs ⟨#[58]⟩,Qk2 3]
 else if k=5 then [Qcs ⟨#[73,110,116]⟩]
 else if k=6 then [Qcs ⟨#[84,101,120,116]⟩]
 else if k=7 then [Qcs ⟨#[66,111,111,108]⟩]
 else if k=8 then [Qcs ⟨#[91]⟩,Qk2 3,Qcs ⟨#[93]⟩]
 else if k=9 then [Qe6 3]
 else if k=10 then [Qe6 5]
 else if k=11 then [Qe6 6]
 else if k=12 then [Qe6 2]
 else if k=13 then [Qcs ⟨#[116,114,117,101]⟩]
 else if k=14 then [Qcs ⟨#[102,97,108,115,101]⟩]
 else if k=15 then [Qcs ⟨#[63]⟩]
 else if k=16 then [Qe6 4,Qcs ⟨#[40]⟩,Qgh 4 0 8,Qcs ⟨#[41]⟩]
 else if k=17 then [Qk2 5]
 else if k=18 then [Qcs ⟨#[91]⟩,Qgh 5 1 16,Qcs ⟨#[93]⟩]
 else if k=19 then [Qcs ⟨#[105,102]⟩,Qk2 5,Qcs ⟨#[116,104,101,110]⟩,Qk2 5,Qcs ⟨#[101,108,115,101]⟩,Qk2 5]
 else if k=20 then [Qcs ⟨#[108,101,116]⟩,Qe6 2,Qcs ⟨#[61]⟩,Qk2 5,Qcs ⟨#[105,110]⟩,Qk2 5]
 else if k=21 then [Qk2 6,Qe6 7,Qk2 7]
 else if k=22 then [Qcs ⟨#[40]⟩,Qk2 5,Qcs ⟨#[41]⟩]
 else []
def is (x:ByteArray) (l:List UInt8):Bool:=x.data.toList==l
def opB (x:ByteArray):Bool:=is x [43] || is x [45] || is x [42] || is x [60] || is x [61,61]
def Qbq (n:Nat) (k:Int) (x:ByteArray):Bool :=
 if n=1 then k==2
 else if n=2 then k==1
 else if n=3 then k==2 || k==4
 else if n=4 then k==1 || k==3
 else if n=5 then k==5
 else if n=6 then k==6
 else opB x
def Qe7 (s k:Int):Bool :=
 if s=1 then k==2 || k==3
 else if s=2 then k==4
 else if s=3 then decide (5≤k) && decide (k≤9)
 else if s=4 then k==17
 else if k=17 then false
 else if k=19∨k=20 then s==5
 else if k=21 then s != 7
 else decide (10≤k) && decide (k≤22)
def Qe8 (x:Part) (t:Tok):Bool:=if x.nm=0 then is t.text x.word.data.toList else Qbq x.nm t.kind t.text
structure PS where
 rest:List Tok
 read:Nat
 place:Nat
 e:Nat
def Zhs:Tok:=⟨0,⟨#[]⟩,⟨#[]⟩⟩
def Qad (p:PS):Tok:=p.rest.headD Zhs
def Qgz (p:PS):PS:=if 1<p.rest.length then ⟨p.rest.drop 1,p.read+((Qad p).lead.size+(Qad p).text.size),p.place,p.e⟩ else p
def Qj6 (p:PS) (e:Nat):PS:=⟨p.rest.drop (p.rest.length-1),p.read,if p.e=0 then p.read+(Qad p).lead.size else p.place,if p.e=0 then e else p.e⟩
def Qe9 (x:ByteArray):Int:=if is x [100,101,102] then 2 else if is x [116,121,112,101] then 3 else 0
def Qcy (t:Tok):Int:=if is t.text [73,110,116] then 5 else if is t.text [84,101,120,116] then 6 else if is t.text [66,111,111,108] then 7 else if is t.text [91] then 8 else if t.kind=2∨t.kind=4 then 9 else 0
def Qbt (p:PS):Int :=
 if (Qad p).kind=5 then 10
 else if (Qad p).kind=6 then 11
 else if (Qad p).kind=3 then 16
 else if (Qad p).kind=1 then (if is ((p.rest.drop 1).headD Zhs).text [40] then 16 else 12)
 else if is (Qad p).text [116,114,117,101] then 13
 else if is (Qad p).text [102,97,108,115,101] then 14
 else if is (Qad p).text [63] then 15
 else if is (Qad p).text [91] then 18
 else if is (Qad p).text [105,102] then 19
 else if is (Qad p).text [108,101,116] then 20
 else if is (Qad p).text [40] then 22
 else 0
def Qed (s:Int) (p:PS):Int :=
 let k:=if s=1 then Qe9 (Qad p).text else if s=2 then (if (Qad p).kind=1 then 4 else 0) else if s=3 then Qcy (Qad p) else Qbt p
 if Qe7 s k then k else 0
def Qbr (s:Int) (p:PS):Int:=if s=4 then (if Qed 5 p≠0 then 17 else 0) else Qed s p
def Qdj (T:Int→PS→Option (Tr × PS)) (x:Part):Nat→Bool→List Tr→List ByteArray→PS→Option (List Tr × List ByteArray × PS)
 | _,false,ks,cs,p=>some (ks,cs,p)
 | 0,true,_,_,_=>none
 | n+1,true,ks,cs,p =>
  match T x.kids (if (ks.length:Int)=x.most∧Qbr x.kids p≠0 then Qj6 p 3 else p) with
  | none=>none
  | some (t,q) =>
   if x.commas then
    if is (Qad q).text [44] then Qdj T x n true (ks ++ [t]) (cs ++ [(Qad q).lead]) (Qgz q)
    else Qdj T x n false (ks ++ [t]) cs q
   else Qdj T x n (Qbr x.kids q != 0) (ks ++ [t]) cs q
def Qee (x:Part) (text:ByteArray) (leads:List ByteArray) (p:PS):ByteArray × List ByteArray × PS :=
 if Qe8 x (Qad p) then (if x.nm=0 then text else (Qad p).text,leads ++ [(Qad p).lead],Qgz p)
 else (text,leads,Qj6 p 2)
def Qgi (T:Int→PS→Option (Tr × PS)) (n:Nat) (kind:Int):List Part→ByteArray→List ByteArray→List Tr→List ByteArray→PS→Option (Tr × PS)
 | [],text,leads,kids,commas,p=>some (.mk kind text (leads ++ commas) kids,p)
 | x :: l,text,leads,kids,commas,p =>
  if x.series then
   match Qdj T x n (decide (0<x.least) || Qbr x.kids p != 0) [] [] p with
   | none=>none
   | some (ks,cs,q)=>Qgi T n kind l text leads (kids ++ ks) cs q
  else if x.kids≠0 then
   match T x.kids p with
   | none=>none
   | some (t,q)=>Qgi T n kind l text leads (kids ++ [t]) commas q
  else Qgi T n kind l (Qee x text leads p).1 (Qee x text leads p).2.1 kids commas (Qee x text leads p).2.2
def Zd3 (T:Int→PS→Option (Tr × PS)) (s:Int):Nat→Tr→PS→Option (Tr × PS)
 | 0,_,_=>none
 | n+1,t,p =>
  if s=5∧opB (Qad p).text=true then
   match T 7 (Qgz p) with
   | none=>none
   | some (u,q)=>Zd3 T s n (.mk 21 (Qad p).text [(Qad p).lead] [t,u]) q
  else some (t,p)
def Qhw:Nat→Int→PS→Option (Tr × PS)
 | 0,_,_=>none
 | n+1,s,p =>
  if Qbr s p=0 then some (Qiw,Qj6 p 2)
  else match Qgi (Qhw n) n (Qbr s p) (Qae (Qbr s p)) ⟨#[]⟩ [] [] [] p with
   | none=>none
   | some (t,q)=>Zd3 (Qhw n) s n t q
mutual
def Qdr:Tr→Nat→Bool
 | _,0=>false
 | .mk _ _ _ l,n+1=>Qfa l n
def Qfa:List Tr→Nat→Bool
 | [],_=>true
 | t :: r,n=>Qdr t n && Qfa r n
end
def Qhd (fuel:Nat) (s:ByteArray):Option (Tr × Nat × Nat) :=
 if (Qbj s).e≠0 then some (Qiw,(Qbj s).place,(Qbj s).e)
 else match Qgi (Qhw fuel) fuel 1 (Qae 1) ⟨#[]⟩ [] [] [] ⟨(Qbj s).toks ++ [⟨0,(Qbj s).tail,⟨#[]⟩⟩],0,0,0⟩ with
  | none=>none
  | some (t,p)=>some (if p.e≠0 then (Qiw,p.place,p.e) else if Qdr t 40 then (t,0,0) else (Qiw,0,4))
structure PSok (p:PS):Prop where
 last:∃ l e,p.rest=l ++ [e]∧e.kind=0
 len:p.rest.length≤65536
 bytes:p.read+(p.rest.map fun t=>t.lead.size+t.text.size).sum≤16777216
 place:p.place≤16777216
theorem PSok.ne {p:PS} (h:PSok p):p.rest≠[]:=by
 obtain ⟨l,e,h,_⟩:=h.last
 rw [h]
 simp
theorem PSok.next {p:PS} (h:PSok p):p.rest=Qad p :: p.rest.drop 1:=by
 have:=h.ne
 unfold Qad
 cases hr:p.rest with
 | nil=>exact absurd hr this
 | cons a r=>rfl
theorem PSok.nextLe {p:PS} (h:PSok p):p.read+((Qad p).lead.size+(Qad p).text.size)≤16777216:=by
 have h1:=h.bytes
 rw [h.next,List.map_cons,List.sum_cons] at h1
 omega
theorem PSok.take {p:PS} (h:PSok p):PSok (Qgz p):=by
 unfold Qgz
 split
 ·rename_i hl
  obtain ⟨l,e,hr,he⟩:=h.last
  refine ⟨⟨l.drop 1,e,?_,he⟩,by have:=h.len;simp only [List.length_drop];omega,?_,h.place⟩
  ·show p.rest.drop 1=_
   rw [hr] at hl ⊢
   cases l with
   | nil=>simp at hl
   | cons a r=>rfl
  ·have h1:=h.bytes
   rw [h.next,List.map_cons,List.sum_cons] at h1
   show p.read+_+((p.rest.drop 1).map _).sum≤_
   omega
 ·exact h
theorem Qs4 (l:List Nat) (n:Nat):(l.drop n).sum≤l.sum:=by
 induction l generalizing n with
 | nil=>simp
 | cons a r ih =>
  cases n with
  | zero=>simp
  | succ n=>rw [List.drop_succ_cons,List.sum_cons];have:=ih n;omega
theorem PSok.fail {p:PS} (h:PSok p) (e:Nat):PSok (Qj6 p e):=by
 obtain ⟨l,x,hr,hx⟩:=h.last
 unfold Qj6
 refine ⟨⟨[],x,?_,hx⟩,by have:=h.len;simp only [List.length_drop];omega,?_,?_⟩
 ·show p.rest.drop _=_
  rw [hr,xB]
  simp
 ·have h1:=h.bytes
  show p.read+((p.rest.drop _).map _).sum≤_
  rw [List.map_drop]
  have:=Qs4 (p.rest.map fun t=>t.lead.size+t.text.size) (p.rest.length-1)
  omega
 ·show (if p.e=0 then p.read+(Qad p).lead.size else p.place)≤_
  have h1:=h.nextLe
  have h2:=h.place
  split <;> omega
theorem PSok.second {p:PS} (h:PSok p) (hk:(Qad p).kind≠0):2≤p.rest.length:=by
 obtain ⟨l,e,hr,he⟩:=h.last
 cases l with
 | nil =>
  exfalso
  apply hk
  unfold Qad
  rw [hr]
  exact he
 | cons a r=>rw [hr];simp
end Go.Proofs.YtclkilljmdkfaaaGreat
namespace Go.Proofs.YtclkilljmdkfaaaGreat
open Go.RowKit
def fnV (n:Nat):Value :=
 match n with
 | 0=>.nilFunc
 | 1=>.func (.func 144) #[] #[]
 | 2=>.func (.func 146) #[] #[]
 | 3=>.func (.func 148) #[] #[]
 | 4=>.func (.func 185) #[] #[]
 | 5=>.func (.func 183) #[] #[]
 | 6=>.func (.func 184) #[] #[]
 | _=>.func (.func 162) #[] #[]
def Qqv (x:Part):List Value:=[.string x.word,fnV x.nm,.int .i64 x.kids,.int .i64 x.least,.int .i64 x.most,.bool x.series,.bool x.commas]
theorem Qcp (s:ByteArray) (w:World):Calls Tryz.prog 142 #[.string s] w fun e w'=>e = .returned (.agg #[.string s,.nilFunc,.int .i64 0,.int .i64 0,.int .i64 0,.bool false,.bool false])∧Below w.heap.size w w':=by
 go_enter Tryz.func142,Tryz.ntmps142
 go_wp2
 exact bodyPost_ret (v:=.agg #[.string s,.nilFunc,.int .i64 0,.int .i64 0,.int .i64 0,.bool false,.bool false]) (by simp [results,Tryz.results142,go_sem]) rfl ⟨rfl,(xC _ _).alloc (xA _) _⟩
theorem Qcq (f:FuncId) (w:World):Calls Tryz.prog 143 #[.func (.func f) #[] #[]] w fun e w'=>e = .returned (.agg #[.string ⟨#[]⟩,.func (.func f) #[] #[],.int .i64 0,.int .i64 0,.int .i64 0,.bool false,.bool false])∧Below w.heap.size w w':=by
 go_enter Tryz.func143,Tryz.ntmps143
 go_wp2
 exact bodyPost_ret (v:=.agg #[.string ⟨#[]⟩,.func (.func f) #[] #[],.int .i64 0,.int .i64 0,.int .i64 0,.bool false,.bool false]) (by simp [results,Tryz.results143,go_sem]) rfl ⟨rfl,(xC _ _).alloc (xA _) _⟩
theorem Qdb (s:Int) (w:World):Calls Tryz.prog 147 #[.int .i64 s] w fun e w'=>e = .returned (.agg #[.string ⟨#[]⟩,.nilFunc,.int .i64 s,.int .i64 0,.int .i64 1,.bool false,.bool false])∧Below w.heap.size w w':=by
 go_enter Tryz.func147,Tryz.ntmps147
 go_wp2
 exact bodyPost_ret (v:=.agg #[.string ⟨#[]⟩,.nilFunc,.int .i64 s,.int .i64 0,.int .i64 1,.bool false,.bool false]) (by simp [results,Tryz.results147,go_sem]) rfl ⟨rfl,(xC _ _).alloc (xA _) _⟩
theorem Qcr (s least most:Int) (w:World):Calls Tryz.prog 145 #[.int .i64 s,.int .i64 least,.int .i64 most] w fun e w'=>e = .returned (.agg #[.string ⟨#[]⟩,.nilFunc,.int .i64 s,.int .i64 least,.int .i64 most,.bool true,.bool (s != 1)])∧Below w.heap.size w w':=by
 go_enter Tryz.func145,Tryz.ntmps145
 go_wp2
 exact bodyPost_ret (v:=.agg #[.string ⟨#[]⟩,.nilFunc,.int .i64 s,.int .i64 least,.int .i64 most,.bool true,.bool (s != 1)]) (by simp [results,Tryz.results145,go_sem]) rfl ⟨rfl,(xC _ _).alloc (xA _) _⟩
def Parts (B:Nat) (w:World) (A:Option Addr) (l:List Part):Prop :=
 l≠[]→∃ b cs,A=some ⟨b,0,none⟩∧B≤b∧w.heap[b]? = some (.cells cs 135 (0,0))∧cs.toList=l.flatMap Qqv
theorem Parts.nil (B:Nat) (w:World):Parts B w none []:=fun h=>absurd rfl h
theorem Parts.lit (w:World) (l:List Part) (cs:Array Value) (h:cs.toList=l.flatMap Qqv) {B:Nat} (hB:B≤w.heap.size):Parts B (w.alloc (.cells cs 135)) (some ⟨w.heap.size,0,none⟩) l :=
 fun _=>⟨w.heap.size,cs,rfl,hB,xH w _,h⟩
def Qbl (k:Int) (w:World) (e:Ending) (w':World):Prop :=
 ∃ A c,e = .returned (.slice A (Qae k).length c)∧Parts w.heap.size w' A (Qae k)∧Below w.heap.size w w'
theorem Zht (w:World):Calls Tryz.prog 102 #[.int .i64 1] w (Qbl 1 w):=by
 go_enter Tryz.func102,Tryz.ntmps102
 have HB:=hQ (xC w.heap.size w)
 go_wp2_with (first
  | (go_at_call 142;refine (Qcp _ _).mono ?_;rintro e w' ⟨rfl,hb⟩;replace HB:=hQ (HB.out.trans (hb.mono HB.out.size));clear hb)
  | (go_at_call 143;refine (Qcq _ _).mono ?_;rintro e w' ⟨rfl,hb⟩;replace HB:=hQ (HB.out.trans (hb.mono HB.out.size));clear hb)
  | (go_at_call 147;refine (Qdb _ _).mono ?_;rintro e w' ⟨rfl,hb⟩;replace HB:=hQ (HB.out.trans (hb.mono HB.out.size));clear hb)
  | (go_at_call 145;refine (Qcr _ _ _ _).mono ?_;rintro e w' ⟨rfl,hb⟩;replace HB:=hQ (HB.out.trans (hb.mono HB.out.size));clear hb))
 go_ret
 exact ⟨some ⟨_,0,none⟩,4,rfl,Parts.lit _ _ _ rfl HB.out.size,HB.out.alloc HB.out.size _⟩
theorem Zhu (w:World):Calls Tryz.prog 102 #[.int .i64 2] w (Qbl 2 w):=by
 go_enter Tryz.func102,Tryz.ntmps102
 have HB:=hQ (xC w.heap.size w)
 go_wp2_with (first
  | (go_at_call 142;refine (Qcp _ _).mono ?_;rintro e w' ⟨rfl,hb⟩;replace HB:=hQ (HB.out.trans (hb.mono HB.out.size));clear hb)
  | (go_at_call 143;refine (Qcq _ _).mono ?_;rintro e w' ⟨rfl,hb⟩;replace HB:=hQ (HB.out.trans (hb.mono HB.out.size));clear hb)
  | (go_at_call 147;refine (Qdb _ _).mono ?_;rintro e w' ⟨rfl,hb⟩;replace HB:=hQ (HB.out.trans (hb.mono HB.out.size));clear hb)
  | (go_at_call 145;refine (Qcr _ _ _ _).mono ?_;rintro e w' ⟨rfl,hb⟩;replace HB:=hQ (HB.out.trans (hb.mono HB.out.size));clear hb))
 go_ret
 exact ⟨some ⟨_,0,none⟩,9,rfl,Parts.lit _ _ _ rfl HB.out.size,HB.out.alloc HB.out.size _⟩
theorem Zhv (w:World):Calls Tryz.prog 102 #[.int .i64 3] w (Qbl 3 w):=by
 go_enter Tryz.func102,Tryz.ntmps102
 have HB:=hQ (xC w.heap.size w)
 go_wp2_with (first
  | (go_at_call 142;refine (Qcp _ _).mono ?_;rintro e w' ⟨rfl,hb⟩;replace HB:=hQ (HB.out.trans (hb.mono HB.out.size));clear hb)
  | (go_at_call 143;refine (Qcq _ _).mono ?_;rintro e w' ⟨rfl,hb⟩;replace HB:=hQ (HB.out.trans (hb.mono HB.out.size));clear hb)
  | (go_at_call 147;refine (Qdb _ _).mono ?_;rintro e w' ⟨rfl,hb⟩;replace HB:=hQ (HB.out.trans (hb.mono HB.out.size));clear hb)
  | (go_at_call 145;refine (Qcr _ _ _ _).mono ?_;rintro e w' ⟨rfl,hb⟩;replace HB:=hQ (HB.out.trans (hb.mono HB.out.size));clear hb))
 go_ret
 exact ⟨some ⟨_,0,none⟩,4,rfl,Parts.lit _ _ _ rfl HB.out.size,HB.out.alloc HB.out.size _⟩
theorem Zhw (w:World):Calls Tryz.prog 102 #[.int .i64 4] w (Qbl 4 w):=by
 go_enter Tryz.func102,Tryz.ntmps102
 have HB:=hQ (xC w.heap.size w)
 go_wp2_with (first
  | (go_at_call 142;refine (Qcp _ _).mono ?_;rintro e w' ⟨rfl,hb⟩;replace HB:=hQ (HB.out.trans (hb.mono HB.out.size));clear hb)
  | (go_at_call 143;refine (Qcq _ _).mono ?_;rintro e w' ⟨rfl,hb⟩;replace HB:=hQ (HB.out.trans (hb.mono HB.out.size));clear hb)
  | (go_at_call 147;refine (Qdb _ _).mono ?_;rintro e w' ⟨rfl,hb⟩;replace HB:=hQ (HB.out.trans (hb.mono HB.out.size));clear hb)
  | (go_at_call 145;refine (Qcr _ _ _ _).mono ?_;rintro e w' ⟨rfl,hb⟩;replace HB:=hQ (HB.out.trans (hb.mono HB.out.size));clear hb))
 go_ret
 exact ⟨some ⟨_,0,none⟩,3,rfl,Parts.lit _ _ _ rfl HB.out.size,HB.out.alloc HB.out.size _⟩
theorem Zhx (w:World):Calls Tryz.prog 102 #[.int .i64 5] w (Qbl 5 w):=by
 go_enter Tryz.func102,Tryz.ntmps102
 have HB:=hQ (xC w.heap.size w)
 go_wp2_with (first
  | (go_at_call 142;refine (Qcp _ _).mono ?_;rintro e w' ⟨rfl,hb⟩;replace HB:=hQ (HB.out.trans (hb.mono HB.out.size));clear hb)
  | (go_at_call 143;refine (Qcq _ _).mono ?_;rintro e w' ⟨rfl,hb⟩;replace HB:=hQ (HB.out.trans (hb.mono HB.out.size));clear hb)
  | (go_at_call 147;refine (Qdb _ _).mono ?_;rintro e w' ⟨rfl,hb⟩;replace HB:=hQ (HB.out.trans (hb.mono HB.out.size));clear hb)
  | (go_at_call 145;refine (Qcr _ _ _ _).mono ?_;rintro e w' ⟨rfl,hb⟩;replace HB:=hQ (HB.out.trans (hb.mono HB.out.size));clear hb))
 go_ret
 exact ⟨some ⟨_,0,none⟩,1,rfl,Parts.lit _ _ _ rfl HB.out.size,HB.out.alloc HB.out.size _⟩
theorem Zhy (w:World):Calls Tryz.prog 102 #[.int .i64 6] w (Qbl 6 w):=by
 go_enter Tryz.func102,Tryz.ntmps102
 have HB:=hQ (xC w.heap.size w)
 go_wp2_with (first
  | (go_at_call 142;refine (Qcp _ _).mono ?_;rintro e w' ⟨rfl,hb⟩;replace HB:=hQ (HB.out.trans (hb.mono HB.out.size));clear hb)
  | (go_at_call 143;refine (Qcq _ _).mono ?_;rintro e w' ⟨rfl,hb⟩;replace HB:=hQ (HB.out.trans (hb.mono HB.out.size));clear hb)
  | (go_at_call 147;refine (Qdb _ _).mono ?_;rintro e w' ⟨rfl,hb⟩;replace HB:=hQ (HB.out.trans (hb.mono HB.out.size));clear hb)
  | (go_at_call 145;refine (Qcr _ _ _ _).mono ?_;rintro e w' ⟨rfl,hb⟩;replace HB:=hQ (HB.out.trans (hb.mono HB.out.size));clear hb))
 go_ret
 exact ⟨some ⟨_,0,none⟩,1,rfl,Parts.lit _ _ _ rfl HB.out.size,HB.out.alloc HB.out.size _⟩
theorem Zhz (w:World):Calls Tryz.prog 102 #[.int .i64 7] w (Qbl 7 w):=by
 go_enter Tryz.func102,Tryz.ntmps102
 have HB:=hQ (xC w.heap.size w)
 go_wp2_with (first
  | (go_at_call 142;refine (Qcp _ _).mono ?_;rintro e w' ⟨rfl,hb⟩;replace HB:=hQ (HB.out.trans (hb.mono HB.out.size));clear hb)
  | (go_at_call 143;refine (Qcq _ _).mono ?_;rintro e w' ⟨rfl,hb⟩;replace HB:=hQ (HB.out.trans (hb.mono HB.out.size));clear hb)
  | (go_at_call 147;refine (Qdb _ _).mono ?_;rintro e w' ⟨rfl,hb⟩;replace HB:=hQ (HB.out.trans (hb.mono HB.out.size));clear hb)
  | (go_at_call 145;refine (Qcr _ _ _ _).mono ?_;rintro e w' ⟨rfl,hb⟩;replace HB:=hQ (HB.out.trans (hb.mono HB.out.size));clear hb))
 go_ret
 exact ⟨some ⟨_,0,none⟩,1,rfl,Parts.lit _ _ _ rfl HB.out.size,HB.out.alloc HB.out.size _⟩
theorem Zh0 (w:World):Calls Tryz.prog 102 #[.int .i64 8] w (Qbl 8 w):=by
 go_enter Tryz.func102,Tryz.ntmps102
 have HB:=hQ (xC w.heap.size w)
 go_wp2_with (first
  | (go_at_call 142;refine (Qcp _ _).mono ?_;rintro e w' ⟨rfl,hb⟩;replace HB:=hQ (HB.out.trans (hb.mono HB.out.size));clear hb)
  | (go_at_call 143;refine (Qcq _ _).mono ?_;rintro e w' ⟨rfl,hb⟩;replace HB:=hQ (HB.out.trans (hb.mono HB.out.size));clear hb)
  | (go_at_call 147;refine (Qdb _ _).mono ?_;rintro e w' ⟨rfl,hb⟩;replace HB:=hQ (HB.out.trans (hb.mono HB.out.size));clear hb)
  | (go_at_call 145;refine (Qcr _ _ _ _).mono ?_;rintro e w' ⟨rfl,hb⟩;replace HB:=hQ (HB.out.trans (hb.mono HB.out.size));clear hb))
 go_ret
 exact ⟨some ⟨_,0,none⟩,3,rfl,Parts.lit _ _ _ rfl HB.out.size,HB.out.alloc HB.out.size _⟩
theorem Zh1 (w:World):Calls Tryz.prog 102 #[.int .i64 9] w (Qbl 9 w):=by
 go_enter Tryz.func102,Tryz.ntmps102
 have HB:=hQ (xC w.heap.size w)
 go_wp2_with (first
  | (go_at_call 142;refine (Qcp _ _).mono ?_;rintro e w' ⟨rfl,hb⟩;replace HB:=hQ (HB.out.trans (hb.mono HB.out.size));clear hb)
  | (go_at_call 143;refine (Qcq _ _).mono ?_;rintro e w' ⟨rfl,hb⟩;replace HB:=hQ (HB.out.trans (hb.mono HB.out.size));clear hb)
  | (go_at_call 147;refine (Qdb _ _).mono ?_;rintro e w' ⟨rfl,hb⟩;replace HB:=hQ (HB.out.trans (hb.mono HB.out.size));clear hb)
  | (go_at_call 145;refine (Qcr _ _ _ _).mono ?_;rintro e w' ⟨rfl,hb⟩;replace HB:=hQ (HB.out.trans (hb.mono HB.out.size));clear hb))
 go_ret
 exact ⟨some ⟨_,0,none⟩,1,rfl,Parts.lit _ _ _ rfl HB.out.size,HB.out.alloc HB.out.size _⟩
theorem Qzc (w:World):Calls Tryz.prog 149 #[.int .i64 10] w (Qbl 10 w):=by
 go_enter Tryz.func149,Tryz.ntmps149
 have HB:=hQ (xC w.heap.size w)
 go_wp2_with (first
  | (go_at_call 142;refine (Qcp _ _).mono ?_;rintro e w' ⟨rfl,hb⟩;replace HB:=hQ (HB.out.trans (hb.mono HB.out.size));clear hb)
  | (go_at_call 143;refine (Qcq _ _).mono ?_;rintro e w' ⟨rfl,hb⟩;replace HB:=hQ (HB.out.trans (hb.mono HB.out.size));clear hb)
  | (go_at_call 147;refine (Qdb _ _).mono ?_;rintro e w' ⟨rfl,hb⟩;replace HB:=hQ (HB.out.trans (hb.mono HB.out.size));clear hb)
  | (go_at_call 145;refine (Qcr _ _ _ _).mono ?_;rintro e w' ⟨rfl,hb⟩;replace HB:=hQ (HB.out.trans (hb.mono HB.out.size));clear hb))
 go_ret
 exact ⟨some ⟨_,0,none⟩,1,rfl,Parts.lit _ _ _ rfl HB.out.size,HB.out.alloc HB.out.size _⟩
theorem Qzd (w:World):Calls Tryz.prog 149 #[.int .i64 11] w (Qbl 11 w):=by
 go_enter Tryz.func149,Tryz.ntmps149
 have HB:=hQ (xC w.heap.size w)
 go_wp2_with (first
  | (go_at_call 142;refine (Qcp _ _).mono ?_;rintro e w' ⟨rfl,hb⟩;replace HB:=hQ (HB.out.trans (hb.mono HB.out.size));clear hb)
  | (go_at_call 143;refine (Qcq _ _).mono ?_;rintro e w' ⟨rfl,hb⟩;replace HB:=hQ (HB.out.trans (hb.mono HB.out.size));clear hb)
  | (go_at_call 147;refine (Qdb _ _).mono ?_;rintro e w' ⟨rfl,hb⟩;replace HB:=hQ (HB.out.trans (hb.mono HB.out.size));clear hb)
  | (go_at_call 145;refine (Qcr _ _ _ _).mono ?_;rintro e w' ⟨rfl,hb⟩;replace HB:=hQ (HB.out.trans (hb.mono HB.out.size));clear hb))
 go_ret
 exact ⟨some ⟨_,0,none⟩,1,rfl,Parts.lit _ _ _ rfl HB.out.size,HB.out.alloc HB.out.size _⟩
theorem Qze (w:World):Calls Tryz.prog 149 #[.int .i64 12] w (Qbl 12 w):=by
 go_enter Tryz.func149,Tryz.ntmps149
 have HB:=hQ (xC w.heap.size w)
 go_wp2_with (first
  | (go_at_call 142;refine (Qcp _ _).mono ?_;rintro e w' ⟨rfl,hb⟩;replace HB:=hQ (HB.out.trans (hb.mono HB.out.size));clear hb)
  | (go_at_call 143;refine (Qcq _ _).mono ?_;rintro e w' ⟨rfl,hb⟩;replace HB:=hQ (HB.out.trans (hb.mono HB.out.size));clear hb)
  | (go_at_call 147;refine (Qdb _ _).mono ?_;rintro e w' ⟨rfl,hb⟩;replace HB:=hQ (HB.out.trans (hb.mono HB.out.size));clear hb)
  | (go_at_call 145;refine (Qcr _ _ _ _).mono ?_;rintro e w' ⟨rfl,hb⟩;replace HB:=hQ (HB.out.trans (hb.mono HB.out.size));clear hb))
 go_ret
 exact ⟨some ⟨_,0,none⟩,1,rfl,Parts.lit _ _ _ rfl HB.out.size,HB.out.alloc HB.out.size _⟩
theorem Qzf (w:World):Calls Tryz.prog 149 #[.int .i64 13] w (Qbl 13 w):=by
 go_enter Tryz.func149,Tryz.ntmps149
 have HB:=hQ (xC w.heap.size w)
 go_wp2_with (first
  | (go_at_call 142;refine (Qcp _ _).mono ?_;rintro e w' ⟨rfl,hb⟩;replace HB:=hQ (HB.out.trans (hb.mono HB.out.size));clear hb)
  | (go_at_call 143;refine (Qcq _ _).mono ?_;rintro e w' ⟨rfl,hb⟩;replace HB:=hQ (HB.out.trans (hb.mono HB.out.size));clear hb)
  | (go_at_call 147;refine (Qdb _ _).mono ?_;rintro e w' ⟨rfl,hb⟩;replace HB:=hQ (HB.out.trans (hb.mono HB.out.size));clear hb)
  | (go_at_call 145;refine (Qcr _ _ _ _).mono ?_;rintro e w' ⟨rfl,hb⟩;replace HB:=hQ (HB.out.trans (hb.mono HB.out.size));clear hb))
 go_ret
 exact ⟨some ⟨_,0,none⟩,1,rfl,Parts.lit _ _ _ rfl HB.out.size,HB.out.alloc HB.out.size _⟩
theorem Qzg (w:World):Calls Tryz.prog 149 #[.int .i64 14] w (Qbl 14 w):=by
 go_enter Tryz.func149,Tryz.ntmps149
 have HB:=hQ (xC w.heap.size w)
 go_wp2_with (first
  | (go_at_call 142;refine (Qcp _ _).mono ?_;rintro e w' ⟨rfl,hb⟩;replace HB:=hQ (HB.out.trans (hb.mono HB.out.size));clear hb)
  | (go_at_call 143;refine (Qcq _ _).mono ?_;rintro e w' ⟨rfl,hb⟩;replace HB:=hQ (HB.out.trans (hb.mono HB.out.size));clear hb)
  | (go_at_call 147;refine (Qdb _ _).mono ?_;rintro e w' ⟨rfl,hb⟩;replace HB:=hQ (HB.out.trans (hb.mono HB.out.size));clear hb)
  | (go_at_call 145;refine (Qcr _ _ _ _).mono ?_;rintro e w' ⟨rfl,hb⟩;replace HB:=hQ (HB.out.trans (hb.mono HB.out.size));clear hb))
 go_ret
 exact ⟨some ⟨_,0,none⟩,1,rfl,Parts.lit _ _ _ rfl HB.out.size,HB.out.alloc HB.out.size _⟩
theorem Qzh (w:World):Calls Tryz.prog 149 #[.int .i64 15] w (Qbl 15 w):=by
 go_enter Tryz.func149,Tryz.ntmps149
 have HB:=hQ (xC w.heap.size w)
 go_wp2_with (first
  | (go_at_call 142;refine (Qcp _ _).mono ?_;rintro e w' ⟨rfl,hb⟩;replace HB:=hQ (HB.out.trans (hb.mono HB.out.size));clear hb)
  | (go_at_call 143;refine (Qcq _ _).mono ?_;rintro e w' ⟨rfl,hb⟩;replace HB:=hQ (HB.out.trans (hb.mono HB.out.size));clear hb)
  | (go_at_call 147;refine (Qdb _ _).mono ?_;rintro e w' ⟨rfl,hb⟩;replace HB:=hQ (HB.out.trans (hb.mono HB.out.size));clear hb)
  | (go_at_call 145;refine (Qcr _ _ _ _).mono ?_;rintro e w' ⟨rfl,hb⟩;replace HB:=hQ (HB.out.trans (hb.mono HB.out.size));clear hb))
 go_ret
 exact ⟨some ⟨_,0,none⟩,1,rfl,Parts.lit _ _ _ rfl HB.out.size,HB.out.alloc HB.out.size _⟩
theorem Qzi (w:World):Calls Tryz.prog 149 #[.int .i64 16] w (Qbl 16 w):=by
 go_enter Tryz.func149,Tryz.ntmps149
 have HB:=hQ (xC w.heap.size w)
 go_wp2_with (first
  | (go_at_call 142;refine (Qcp _ _).mono ?_;rintro e w' ⟨rfl,hb⟩;replace HB:=hQ (HB.out.trans (hb.mono HB.out.size));clear hb)
  | (go_at_call 143;refine (Qcq _ _).mono ?_;rintro e w' ⟨rfl,hb⟩;replace HB:=hQ (HB.out.trans (hb.mono HB.out.size));clear hb)
  | (go_at_call 147;refine (Qdb _ _).mono ?_;rintro e w' ⟨rfl,hb⟩;replace HB:=hQ (HB.out.trans (hb.mono HB.out.size));clear hb)
  | (go_at_call 145;refine (Qcr _ _ _ _).mono ?_;rintro e w' ⟨rfl,hb⟩;replace HB:=hQ (HB.out.trans (hb.mono HB.out.size));clear hb))
 go_ret
 exact ⟨some ⟨_,0,none⟩,4,rfl,Parts.lit _ _ _ rfl HB.out.size,HB.out.alloc HB.out.size _⟩
theorem Qzj (w:World):Calls Tryz.prog 149 #[.int .i64 17] w (Qbl 17 w):=by
 go_enter Tryz.func149,Tryz.ntmps149
 have HB:=hQ (xC w.heap.size w)
 go_wp2_with (first
  | (go_at_call 142;refine (Qcp _ _).mono ?_;rintro e w' ⟨rfl,hb⟩;replace HB:=hQ (HB.out.trans (hb.mono HB.out.size));clear hb)
  | (go_at_call 143;refine (Qcq _ _).mono ?_;rintro e w' ⟨rfl,hb⟩;replace HB:=hQ (HB.out.trans (hb.mono HB.out.size));clear hb)
  | (go_at_call 147;refine (Qdb _ _).mono ?_;rintro e w' ⟨rfl,hb⟩;replace HB:=hQ (HB.out.trans (hb.mono HB.out.size));clear hb)
  | (go_at_call 145;refine (Qcr _ _ _ _).mono ?_;rintro e w' ⟨rfl,hb⟩;replace HB:=hQ (HB.out.trans (hb.mono HB.out.size));clear hb))
 go_ret
 exact ⟨some ⟨_,0,none⟩,1,rfl,Parts.lit _ _ _ rfl HB.out.size,HB.out.alloc HB.out.size _⟩
theorem Qzk (w:World):Calls Tryz.prog 149 #[.int .i64 18] w (Qbl 18 w):=by
 go_enter Tryz.func149,Tryz.ntmps149
 have HB:=hQ (xC w.heap.size w)
 go_wp2_with (first
  | (go_at_call 142;refine (Qcp _ _).mono ?_;rintro e w' ⟨rfl,hb⟩;replace HB:=hQ (HB.out.trans (hb.mono HB.out.size));clear hb)
  | (go_at_call 143;refine (Qcq _ _).mono ?_;rintro e w' ⟨rfl,hb⟩;replace HB:=hQ (HB.out.trans (hb.mono HB.out.size));clear hb)
  | (go_at_call 147;refine (Qdb _ _).mono ?_;rintro e w' ⟨rfl,hb⟩;replace HB:=hQ (HB.out.trans (hb.mono HB.out.size));clear hb)
  | (go_at_call 145;refine (Qcr _ _ _ _).mono ?_;rintro e w' ⟨rfl,hb⟩;replace HB:=hQ (HB.out.trans (hb.mono HB.out.size));clear hb))
 go_ret
 exact ⟨some ⟨_,0,none⟩,3,rfl,Parts.lit _ _ _ rfl HB.out.size,HB.out.alloc HB.out.size _⟩
theorem Qzl (w:World):Calls Tryz.prog 149 #[.int .i64 19] w (Qbl 19 w):=by
 go_enter Tryz.func149,Tryz.ntmps149
 have HB:=hQ (xC w.heap.size w)
 go_wp2_with (first
  | (go_at_call 142;refine (Qcp _ _).mono ?_;rintro e w' ⟨rfl,hb⟩;replace HB:=hQ (HB.out.trans (hb.mono HB.out.size));clear hb)
  | (go_at_call 143;refine (Qcq _ _).mono ?_;rintro e w' ⟨rfl,hb⟩;replace HB:=hQ (HB.out.trans (hb.mono HB.out.size));clear hb)
  | (go_at_call 147;refine (Qdb _ _).mono ?_;rintro e w' ⟨rfl,hb⟩;replace HB:=hQ (HB.out.trans (hb.mono HB.out.size));clear hb)
  | (go_at_call 145;refine (Qcr _ _ _ _).mono ?_;rintro e w' ⟨rfl,hb⟩;replace HB:=hQ (HB.out.trans (hb.mono HB.out.size));clear hb))
 go_ret
 exact ⟨some ⟨_,0,none⟩,6,rfl,Parts.lit _ _ _ rfl HB.out.size,HB.out.alloc HB.out.size _⟩
theorem Qzm (w:World):Calls Tryz.prog 149 #[.int .i64 20] w (Qbl 20 w):=by
 go_enter Tryz.func149,Tryz.ntmps149
 have HB:=hQ (xC w.heap.size w)
 go_wp2_with (first
  | (go_at_call 142;refine (Qcp _ _).mono ?_;rintro e w' ⟨rfl,hb⟩;replace HB:=hQ (HB.out.trans (hb.mono HB.out.size));clear hb)
  | (go_at_call 143;refine (Qcq _ _).mono ?_;rintro e w' ⟨rfl,hb⟩;replace HB:=hQ (HB.out.trans (hb.mono HB.out.size));clear hb)
  | (go_at_call 147;refine (Qdb _ _).mono ?_;rintro e w' ⟨rfl,hb⟩;replace HB:=hQ (HB.out.trans (hb.mono HB.out.size));clear hb)
  | (go_at_call 145;refine (Qcr _ _ _ _).mono ?_;rintro e w' ⟨rfl,hb⟩;replace HB:=hQ (HB.out.trans (hb.mono HB.out.size));clear hb))
 go_ret
 exact ⟨some ⟨_,0,none⟩,6,rfl,Parts.lit _ _ _ rfl HB.out.size,HB.out.alloc HB.out.size _⟩
theorem Qzn (w:World):Calls Tryz.prog 149 #[.int .i64 21] w (Qbl 21 w):=by
 go_enter Tryz.func149,Tryz.ntmps149
 have HB:=hQ (xC w.heap.size w)
 go_wp2_with (first
  | (go_at_call 142;refine (Qcp _ _).mono ?_;rintro e w' ⟨rfl,hb⟩;replace HB:=hQ (HB.out.trans (hb.mono HB.out.size));clear hb)
  | (go_at_call 143;refine (Qcq _ _).mono ?_;rintro e w' ⟨rfl,hb⟩;replace HB:=hQ (HB.out.trans (hb.mono HB.out.size));clear hb)
  | (go_at_call 147;refine (Qdb _ _).mono ?_;rintro e w' ⟨rfl,hb⟩;replace HB:=hQ (HB.out.trans (hb.mono HB.out.size));clear hb)
  | (go_at_call 145;refine (Qcr _ _ _ _).mono ?_;rintro e w' ⟨rfl,hb⟩;replace HB:=hQ (HB.out.trans (hb.mono HB.out.size));clear hb))
 go_ret
 exact ⟨some ⟨_,0,none⟩,3,rfl,Parts.lit _ _ _ rfl HB.out.size,HB.out.alloc HB.out.size _⟩
theorem Qzo (w:World):Calls Tryz.prog 149 #[.int .i64 22] w (Qbl 22 w):=by
 go_enter Tryz.func149,Tryz.ntmps149
 have HB:=hQ (xC w.heap.size w)
 go_wp2_with (first
  | (go_at_call 142;refine (Qcp _ _).mono ?_;rintro e w' ⟨rfl,hb⟩;replace HB:=hQ (HB.out.trans (hb.mono HB.out.size));clear hb)
  | (go_at_call 143;refine (Qcq _ _).mono ?_;rintro e w' ⟨rfl,hb⟩;replace HB:=hQ (HB.out.trans (hb.mono HB.out.size));clear hb)
  | (go_at_call 147;refine (Qdb _ _).mono ?_;rintro e w' ⟨rfl,hb⟩;replace HB:=hQ (HB.out.trans (hb.mono HB.out.size));clear hb)
  | (go_at_call 145;refine (Qcr _ _ _ _).mono ?_;rintro e w' ⟨rfl,hb⟩;replace HB:=hQ (HB.out.trans (hb.mono HB.out.size));clear hb))
 go_ret
 exact ⟨some ⟨_,0,none⟩,3,rfl,Parts.lit _ _ _ rfl HB.out.size,HB.out.alloc HB.out.size _⟩
theorem Qdy {k:Int} (h:k≤0∨23≤k):Qae k = []:=by
 unfold Qae
 simp only [show k≠1 from by omega,show k≠2 from by omega,show k≠3 from by omega,show k≠4 from by omega,show k≠5 from by omega,show k≠6 from by omega,show k≠7 from by omega,show k≠8 from by omega,show k≠9 from by omega,show k≠10 from by omega,show k≠11 from by omega,show k≠12 from by omega,show k≠13 from by omega,show k≠14 from by omega,show k≠15 from by omega,show k≠16 from by omega,show k≠17 from by omega,show k≠18 from by omega,show k≠19 from by omega,show k≠20 from by omega,show k≠21 from by omega,show k≠22 from by omega,if_false]
theorem Qck {a b:Int} (h:a≠b):(a==b)=false:=by simpa using h
theorem Qs5 (k:Int) (w:World) (h:k≤0∨23≤k):Calls Tryz.prog 149 #[.int .i64 k] w (Qbl k w):=by
 have e10:=Qck (show k≠10 from by omega)
 have e11:=Qck (show k≠11 from by omega)
 have e12:=Qck (show k≠12 from by omega)
 have e13:=Qck (show k≠13 from by omega)
 have e14:=Qck (show k≠14 from by omega)
 have e15:=Qck (show k≠15 from by omega)
 have e16:=Qck (show k≠16 from by omega)
 have e17:=Qck (show k≠17 from by omega)
 have e18:=Qck (show k≠18 from by omega)
 have e19:=Qck (show k≠19 from by omega)
 have e20:=Qck (show k≠20 from by omega)
 have e21:=Qck (show k≠21 from by omega)
 have e22:=Qck (show k≠22 from by omega)
 have HP:=hQ (Qdy h)
 clear h
 go_enter Tryz.func149,Tryz.ntmps149
 go_wp2
 go_ret
 exact ⟨none,0,by rw [HP.out];rfl,by rw [HP.out];exact Parts.nil _ _,xC _ _⟩
theorem Qwf (k:Int) (w:World) (h:k≤0∨10≤k):Calls Tryz.prog 149 #[.int .i64 k] w (Qbl k w):=by
 by_cases e10:k=10
 ·subst e10
  exact Qzc w
 by_cases e11:k=11
 ·subst e11
  exact Qzd w
 by_cases e12:k=12
 ·subst e12
  exact Qze w
 by_cases e13:k=13
 ·subst e13
  exact Qzf w
 by_cases e14:k=14
 ·subst e14
  exact Qzg w
 by_cases e15:k=15
 ·subst e15
  exact Qzh w
 by_cases e16:k=16
 ·subst e16
  exact Qzi w
 by_cases e17:k=17
 ·subst e17
  exact Qzj w
 by_cases e18:k=18
 ·subst e18
  exact Qzk w
 by_cases e19:k=19
 ·subst e19
  exact Qzl w
 by_cases e20:k=20
 ·subst e20
  exact Qzm w
 by_cases e21:k=21
 ·subst e21
  exact Qzn w
 by_cases e22:k=22
 ·subst e22
  exact Qzo w
 exact Qs5 k w (by omega)
theorem Qzp (k:Int) (w:World) (h:k≤0∨10≤k):Calls Tryz.prog 102 #[.int .i64 k] w (Qbl k w):=by
 have e1:=Qck (show k≠1 from by omega)
 have e2:=Qck (show k≠2 from by omega)
 have e3:=Qck (show k≠3 from by omega)
 have e4:=Qck (show k≠4 from by omega)
 have e5:=Qck (show k≠5 from by omega)
 have e6:=Qck (show k≠6 from by omega)
 have e7:=Qck (show k≠7 from by omega)
 have e8:=Qck (show k≠8 from by omega)
 have e9:=Qck (show k≠9 from by omega)
 have HK:=hQ h
 clear h
 go_enter Tryz.func102,Tryz.ntmps102
 go_wp2_with (go_at_call 149;refine (Qwf _ _ HK.out).mono ?_;rintro e w' ⟨A,c,rfl,hp,hb⟩)
 go_ret
 exact ⟨A,c,rfl,hp,hb⟩
theorem Qgj (k:Int) (w:World):Calls Tryz.prog 102 #[.int .i64 k] w (Qbl k w):=by
 by_cases e1:k=1
 ·subst e1
  exact Zht w
 by_cases e2:k=2
 ·subst e2
  exact Zhu w
 by_cases e3:k=3
 ·subst e3
  exact Zhv w
 by_cases e4:k=4
 ·subst e4
  exact Zhw w
 by_cases e5:k=5
 ·subst e5
  exact Zhx w
 by_cases e6:k=6
 ·subst e6
  exact Zhy w
 by_cases e7:k=7
 ·subst e7
  exact Zhz w
 by_cases e8:k=8
 ·subst e8
  exact Zh0 w
 by_cases e9:k=9
 ·subst e9
  exact Zh1 w
 exact Qzp k w (by omega)
end Go.Proofs.YtclkilljmdkfaaaGreat
