/- Part 4 -/
import Derived.Test.YtfjpemdejoejbaaGreatTp3
import Derived.Laws.EntriesVeiled
set_option maxRecDepth 100000
set_option maxHeartbeats 4000000
namespace Go.Proofs.YtfjpemdejoejbaaGreat
open Go.Proofs.Tryz
inductive Tr where
 | mk (kind:Int) (text:yD) (leads:List yD) (kids:List Tr)
def Tr.kind:Tr->Int | .mk k _ _ _=>k
def Tr.text:Tr->yD | .mk _ x _ _=>x
def Tr.leads:Tr->List yD | .mk _ _ l _=>l
def Tr.kids:Tr->List Tr | .mk _ _ _ l=>l
theorem Tr.eta(t:Tr):Tr.mk t.kind t.text t.leads t.kids=t:=by cases t;rfl
def noTr:Tr:=.mk 0 ⟨#[]⟩ [] []
structure Part where
 word:yD
 nm:Nat
 kids:Int
 least:Int
 most:Int
 series:Bool
 commas:Bool
def Qcy(s:yD):Part:=⟨s,0,0,0,0,false,false⟩
def Qfc(n:Nat):Part:=⟨⟨#[]⟩,n,0,0,0,false,false⟩
def Qli(s:Int):Part:=⟨⟨#[]⟩,0,s,0,1,false,false⟩
def Qgq(s least most:Int):Part:=⟨⟨#[]⟩,0,s,least,most,true,s != 1⟩
def Qae(k:Int):List Part :=
 if k=1 then [Qcy ⟨#[109,111,100,117,108,101]⟩,Qfc 1,Qgq 1 0 40,Qcy ⟨#[]⟩]
 else if k=2 then [Qcy ⟨#[100,101,102]⟩,Qfc 2,Qcy ⟨#[40]⟩,Qgq 2 0 8,Qcy ⟨#[41]⟩,Qcy ⟨#[58]⟩,Qli 3,Qcy ⟨#[61]⟩,Qli 5]
 else if k=3 then [Qcy ⟨#[116,121,112,101]⟩,Qfc 1,Qcy ⟨#[61]⟩,Qli 3]
 else if k=4 then [Qfc 2,Qcy ⟨#[58]⟩,Qli 3]
 else if k=5 then [Qcy ⟨#[73,110,116]⟩]
 else if k=6 then [Qcy ⟨#[84,101,120,116]⟩]
 else if k=7 then [Qcy ⟨#[66,111,111,108]⟩]
 else if k=8 then [Qcy ⟨#[91]⟩,Qli 3,Qcy ⟨#[93]⟩]
 else if k=9 then [Qfc 3]
 else if k=10 then [Qfc 5]
 else if k=11 then [Qfc 6]
 else if k=12 then [Qfc 2]
 else if k=13 then [Qcy ⟨#[116,114,117,101]⟩]
 else if k=14 then [Qcy ⟨#[102,97,108,115,101]⟩]
 else if k=15 then [Qcy ⟨#[63]⟩]
 else if k=16 then [Qfc 4,Qcy ⟨#[40]⟩,Qgq 4 0 8,Qcy ⟨#[41]⟩]
 else if k=17 then [Qli 5]
 else if k=18 then [Qcy ⟨#[91]⟩,Qgq 5 1 16,Qcy ⟨#[93]⟩]
 else if k=19 then [Qcy ⟨#[105,102]⟩,Qli 5,Qcy ⟨#[116,104,101,110]⟩,Qli 5,Qcy ⟨#[101,108,115,101]⟩,Qli 5]
 else if k=20 then [Qcy ⟨#[108,101,116]⟩,Qfc 2,Qcy ⟨#[61]⟩,Qli 5,Qcy ⟨#[105,110]⟩,Qli 5]
 else if k=21 then [Qli 6,Qfc 7,Qli 7]
 else if k=22 then [Qcy ⟨#[40]⟩,Qli 5,Qcy ⟨#[41]⟩]
 else []
def is(x:yD)(l:List UInt8):Bool:=x.data.toList==l
def opB(x:yD):Bool:=is x [43] || is x [45] || is x [42] || is x [60] || is x [61,61]
def Qbv(n:Nat)(k:Int)(x:yD):Bool :=
 if n=1 then k==2
 else if n=2 then k==1
 else if n=3 then k==2 || k==4
 else if n=4 then k==1 || k==3
 else if n=5 then k==5
 else if n=6 then k==6
 else opB x
def Qfd(s k:Int):Bool :=
 if s=1 then k==2 || k==3
 else if s=2 then k==4
 else if s=3 then decide (5<=k) && decide (k<=9)
 else if s=4 then k==17
 else if k=17 then false
 else if k=19\/k=20 then s==5
 else if k=21 then s != 7
 else decide (10<=k) && decide (k<=22)
def Qfe(x:Part)(t:Tok):Bool:=if x.nm=0 then is t.text x.word.data.toList else Qbv x.nm t.kind t.text
structure PS where
 rest:List Tok
 read:Nat
 place:Nat
 e:Nat
def Zit:Tok:=⟨0,⟨#[]⟩,⟨#[]⟩⟩
def Qad(p:PS):Tok:=p.rest.headD Zit
def Qha(p:PS):PS:=if 1<p.rest.length then ⟨p.rest.drop 1,p.read+((Qad p).lead.size+(Qad p).text.size),p.place,p.e⟩ else p
def Qkd(p:PS)(e:Nat):PS:=⟨p.rest.drop (p.rest.length-1),p.read,if p.e=0 then p.read+(Qad p).lead.size else p.place,if p.e=0 then e else p.e⟩
def Qff(x:yD):Int:=if is x [100,101,102] then 2 else if is x [116,121,112,101] then 3 else 0
def Qc2(t:Tok):Int:=if is t.text [73,110,116] then 5 else if is t.text [84,101,120,116] then 6 else if is t.text [66,111,111,108] then 7 else if is t.text [91] then 8 else if t.kind=2\/t.kind=4 then 9 else 0
def Qby(p:PS):Int :=
 if (Qad p).kind=5 then 10
 else if (Qad p).kind=6 then 11
 else if (Qad p).kind=3 then 16
 else if (Qad p).kind=1 then (if is ((p.rest.drop 1).headD Zit).text [40] then 16 else 12)
 else if is (Qad p).text [116,114,117,101] then 13
 else if is (Qad p).text [102,97,108,115,101] then 14
 else if is (Qad p).text [63] then 15
 else if is (Qad p).text [91] then 18
 else if is (Qad p).text [105,102] then 19
 else if is (Qad p).text [108,101,116] then 20
 else if is (Qad p).text [40] then 22
 else 0
def Qeh(s:Int)(p:PS):Int :=
 let k:=if s=1 then Qff (Qad p).text else if s=2 then (if (Qad p).kind=1 then 4 else 0) else if s=3 then Qc2 (Qad p) else Qby p
 if Qfd s k then k else 0
def Qbw(s:Int)(p:PS):Int:=if s=4 then (if Qeh 5 p≠0 then 17 else 0) else Qeh s p
def Qdj(T:Int->PS->Option (Tr × PS))(x:Part):Nat->Bool->List Tr->List yD->PS->Option (List Tr × List yD × PS)
 | _,false,ks,cs,p=>some (ks,cs,p)
 | 0,true,_,_,_=>none
 | n+1,true,ks,cs,p =>
  match T x.kids (if (ks.length:Int)=x.most/\Qbw x.kids p≠0 then Qkd p 3 else p) with
  | none=>none
  | some (t,q) =>
   if x.commas then
    if is (Qad q).text [44] then Qdj T x n true (ks ++ [t]) (cs ++ [(Qad q).lead]) (Qha q)
    else Qdj T x n false (ks ++ [t]) cs q
   else Qdj T x n (Qbw x.kids q != 0) (ks ++ [t]) cs q
def Qei(x:Part)(text:yD)(leads:List yD)(p:PS):yD × List yD × PS :=
 if Qfe x (Qad p) then (if x.nm=0 then text else (Qad p).text,leads ++ [(Qad p).lead],Qha p)
 else (text,leads,Qkd p 2)
def Qgr(T:Int->PS->Option (Tr × PS))(n:Nat)(kind:Int):List Part->yD->List yD->List Tr->List yD->PS->Option (Tr × PS)
 | [],text,leads,kids,commas,p=>some (.mk kind text (leads ++ commas) kids,p)
 | x :: l,text,leads,kids,commas,p =>
  if x.series then
   match Qdj T x n (decide (0<x.least) || Qbw x.kids p != 0) [] [] p with
   | none=>none
   | some (ks,cs,q)=>Qgr T n kind l text leads (kids ++ ks) cs q
  else if x.kids≠0 then
   match T x.kids p with
   | none=>none
   | some (t,q)=>Qgr T n kind l text leads (kids ++ [t]) commas q
  else Qgr T n kind l (Qei x text leads p).1 (Qei x text leads p).2.1 kids commas (Qei x text leads p).2.2
def Ze8(T:Int->PS->Option (Tr × PS))(s:Int):Nat->Tr->PS->Option (Tr × PS)
 | 0,_,_=>none
 | n+1,t,p =>
  if s=5/\opB (Qad p).text=true then
   match T 7 (Qha p) with
   | none=>none
   | some (u,q)=>Ze8 T s n (.mk 21 (Qad p).text [(Qad p).lead] [t,u]) q
  else some (t,p)
def Qh6:Nat->Int->PS->Option (Tr × PS)
 | 0,_,_=>none
 | n+1,s,p =>
  if Qbw s p=0 then some (noTr,Qkd p 2)
  else match Qgr (Qh6 n) n (Qbw s p) (Qae (Qbw s p)) ⟨#[]⟩ [] [] [] p with
   | none=>none
   | some (t,q)=>Ze8 (Qh6 n) s n t q
mutual
def Qds:Tr->Nat->Bool
 | _,0=>false
 | .mk _ _ _ l,n+1=>Qfg l n
def Qfg:List Tr->Nat->Bool
 | [],_=>true
 | t :: r,n=>Qds t n && Qfg r n
end
def Qho(fuel:Nat)(s:yD):Option (Tr × Nat × Nat) :=
 if (Qbp s).e≠0 then some (noTr,(Qbp s).place,(Qbp s).e)
 else match Qgr (Qh6 fuel) fuel 1 (Qae 1) ⟨#[]⟩ [] [] [] ⟨(Qbp s).toks ++ [⟨0,(Qbp s).tail,⟨#[]⟩⟩],0,0,0⟩ with
  | none=>none
  | some (t,p)=>some (if p.e≠0 then (noTr,p.place,p.e) else if Qds t 40 then (t,0,0) else (noTr,0,4))
structure PSok (p:PS):Prop where
 last:∃ l e,p.rest=l ++ [e]/\e.kind=0
 len:p.rest.length<=65536
 bytes:p.read+(p.rest.map fun t=>t.lead.size+t.text.size).sum<=16777216
 place:p.place<=16777216
theorem PSok.ne{p:PS}(h:PSok p):p.rest≠[]:=by
 obtain⟨l,e,h,_⟩:=h.last;rw[h];simp
theorem PSok.next{p:PS}(h:PSok p):p.rest=Qad p :: p.rest.drop 1:=by
 have:=h.ne
 unfold Qad;cases hr:p.rest with
 | nil=>exact absurd hr this
 | cons a r=>rfl
theorem PSok.nextLe{p:PS}(h:PSok p):p.read+((Qad p).lead.size+(Qad p).text.size)<=16777216:=by
 have h1:=h.bytes;rw[h.next,List.map_cons,List.sum_cons]at h1;omega
theorem PSok.take{p:PS}(h:PSok p):PSok (Qha p):=by
 unfold Qha
 split
 ·rename_i hl;obtain⟨l,e,hr,he⟩:=h.last
  refine⟨⟨l.drop 1,e,?_,he⟩,by have:=h.len;simp only[List.length_drop];omega,?_,h.place⟩
  ·show p.rest.drop 1=_
   rw[hr]at hl |-;cases l with
   | nil=>simp at hl
   | cons a r=>rfl
  ·have h1:=h.bytes;rw[h.next,List.map_cons,List.sum_cons]at h1;show p.read+_+((p.rest.drop 1).map _).sum<=_
   omega
 ·exact h
theorem Qtn(l:List Nat)(n:Nat):(l.drop n).sum<=l.sum:=by
 induction l generalizing n with
 | nil=>simp
 | cons a r ih =>
  cases n with
  | zero=>simp
  | succ n=>rw[List.drop_succ_cons,List.sum_cons];have:=ih n;omega
theorem PSok.fail{p:PS}(h:PSok p)(e:Nat):PSok (Qkd p e):=by
 obtain⟨l,x,hr,hx⟩:=h.last;unfold Qkd
 refine⟨⟨[],x,?_,hx⟩,by have:=h.len;simp only[List.length_drop];omega,?_,?_⟩
 ·show p.rest.drop _=_
  rw[hr,xB];simp
 ·have h1:=h.bytes;show p.read+((p.rest.drop _).map _).sum<=_
  rw[List.map_drop];have:=Qtn (p.rest.map fun t=>t.lead.size+t.text.size) (p.rest.length-1)
  omega
 ·show(if p.e=0 then p.read+(Qad p).lead.size else p.place)<=_
  have h1:=h.nextLe;have h2:=h.place
  split <;> omega
theorem PSok.second{p:PS}(h:PSok p)(hk:(Qad p).kind≠0):2<=p.rest.length:=by
 obtain⟨l,e,hr,he⟩:=h.last;cases l with
 | nil =>
  exfalso
  apply hk
  unfold Qad;rw[hr];exact he
 | cons a r=>rw[hr];simp
end Go.Proofs.YtfjpemdejoejbaaGreat
namespace Go.Proofs.YtfjpemdejoejbaaGreat
open Go.Proofs.Tryz Go.RowKit
def fnV(n:Nat):Value :=
 match n with
 | 0=>.nilFunc
 | 1=>.func (.func 124) #[] #[]
 | 2=>.func (.func 126) #[] #[]
 | 3=>.func (.func 128) #[] #[]
 | 4=>.func (.func 156) #[] #[]
 | 5=>.func (.func 154) #[] #[]
 | 6=>.func (.func 155) #[] #[]
 | _=>.func (.func 134) #[] #[]
def Qrd(x:Part):List Value:=[.string x.word,fnV x.nm,.int .i64 x.kids,.int .i64 x.least,.int .i64 x.most,.bool x.series,.bool x.commas]
theorem Qcv(s:yD)(w:World):Calls prog 122 #[.string s] w fun e w'=>e = .returned (.agg #[.string s,.nilFunc,.int .i64 0,.int .i64 0,.int .i64 0,.bool false,.bool false])/\Below w.heap.size w w':=by
 go_enter func122,ntmps122;go_wp2;exact bodyPost_ret (v:=.agg #[.string s,.nilFunc,.int .i64 0,.int .i64 0,.int .i64 0,.bool false,.bool false]) (by simp[results,results122,go_sem]) rfl ⟨rfl,(xC _ _).alloc (xA _) _⟩
theorem Qcw(f:FuncId)(w:World):Calls prog 123 #[.func (.func f) #[] #[]] w fun e w'=>e = .returned (.agg #[.string ⟨#[]⟩,.func (.func f) #[] #[],.int .i64 0,.int .i64 0,.int .i64 0,.bool false,.bool false])/\Below w.heap.size w w':=by
 go_enter func123,ntmps123;go_wp2;exact bodyPost_ret (v:=.agg #[.string ⟨#[]⟩,.func (.func f) #[] #[],.int .i64 0,.int .i64 0,.int .i64 0,.bool false,.bool false]) (by simp[results,results123,go_sem]) rfl ⟨rfl,(xC _ _).alloc (xA _) _⟩
theorem Qdc(s:Int)(w:World):Calls prog 127 #[.int .i64 s] w fun e w'=>e = .returned (.agg #[.string ⟨#[]⟩,.nilFunc,.int .i64 s,.int .i64 0,.int .i64 1,.bool false,.bool false])/\Below w.heap.size w w':=by
 go_enter func127,ntmps127;go_wp2;exact bodyPost_ret (v:=.agg #[.string ⟨#[]⟩,.nilFunc,.int .i64 s,.int .i64 0,.int .i64 1,.bool false,.bool false]) (by simp[results,results127,go_sem]) rfl ⟨rfl,(xC _ _).alloc (xA _) _⟩
theorem Qcx(s least most:Int)(w:World):Calls prog 125 #[.int .i64 s,.int .i64 least,.int .i64 most] w fun e w'=>e = .returned (.agg #[.string ⟨#[]⟩,.nilFunc,.int .i64 s,.int .i64 least,.int .i64 most,.bool true,.bool (s != 1)])/\Below w.heap.size w w':=by
 go_enter func125,ntmps125;go_wp2;exact bodyPost_ret (v:=.agg #[.string ⟨#[]⟩,.nilFunc,.int .i64 s,.int .i64 least,.int .i64 most,.bool true,.bool (s != 1)]) (by simp[results,results125,go_sem]) rfl ⟨rfl,(xC _ _).alloc (xA _) _⟩
def Parts(B:Nat)(w:World)(A:yE)(l:List Part):Prop :=
 l≠[]->∃ b cs,A=some ⟨b,0,none⟩/\B<=b/\w.heap[b]? = some (.cells cs 132 (0,0))/\cs.toList=l.flatMap Qrd
theorem Parts.nil(B:Nat)(w:World):Parts B w none []:=fun h=>absurd rfl h
theorem Parts.lit(w:World)(l:List Part)(cs:Array Value)(h:cs.toList=l.flatMap Qrd){B:Nat}(hB:B<=w.heap.size):Parts B (w.alloc (.cells cs 132)) (some ⟨w.heap.size,0,none⟩) l :=
 fun _=>⟨w.heap.size,cs,rfl,hB,xH w _,h⟩
def Qbr(k:Int)(w:World)(e:Ending)(w':World):Prop :=
 ∃ A c,e = .returned (.slice A (Qae k).length c)/\Parts w.heap.size w' A (Qae k)/\Below w.heap.size w w'
theorem Ziu(w:World):Calls prog 83 #[.int .i64 1] w (Qbr 1 w):=by
 go_enter func83,ntmps83;have HB:=hQ (xC w.heap.size w)
 go_wp2_with (first
  | (go_at_call 122;refine(Qcv _ _).mono ?_;rintro e w'⟨rfl,hb⟩;replace HB:=hQ (yC HB.out hb);clear hb)
  | (go_at_call 123;refine(Qcw _ _).mono ?_;rintro e w'⟨rfl,hb⟩;replace HB:=hQ (yC HB.out hb);clear hb)
  | (go_at_call 127;refine(Qdc _ _).mono ?_;rintro e w'⟨rfl,hb⟩;replace HB:=hQ (yC HB.out hb);clear hb)
  | (go_at_call 125;refine(Qcx _ _ _ _).mono ?_;rintro e w'⟨rfl,hb⟩;replace HB:=hQ (yC HB.out hb);clear hb))
 go_ret;exact⟨some ⟨_,0,none⟩,4,rfl,Parts.lit _ _ _ rfl HB.out.size,HB.out.alloc HB.out.size _⟩
theorem Ziv(w:World):Calls prog 83 #[.int .i64 2] w (Qbr 2 w):=by
 go_enter func83,ntmps83;have HB:=hQ (xC w.heap.size w)
 go_wp2_with (first
  | (go_at_call 122;refine(Qcv _ _).mono ?_;rintro e w'⟨rfl,hb⟩;replace HB:=hQ (yC HB.out hb);clear hb)
  | (go_at_call 123;refine(Qcw _ _).mono ?_;rintro e w'⟨rfl,hb⟩;replace HB:=hQ (yC HB.out hb);clear hb)
  | (go_at_call 127;refine(Qdc _ _).mono ?_;rintro e w'⟨rfl,hb⟩;replace HB:=hQ (yC HB.out hb);clear hb)
  | (go_at_call 125;refine(Qcx _ _ _ _).mono ?_;rintro e w'⟨rfl,hb⟩;replace HB:=hQ (yC HB.out hb);clear hb))
 go_ret;exact⟨some ⟨_,0,none⟩,9,rfl,Parts.lit _ _ _ rfl HB.out.size,HB.out.alloc HB.out.size _⟩
theorem Ziw(w:World):Calls prog 83 #[.int .i64 3] w (Qbr 3 w):=by
 go_enter func83,ntmps83;have HB:=hQ (xC w.heap.size w)
 go_wp2_with (first
  | (go_at_call 122;refine(Qcv _ _).mono ?_;rintro e w'⟨rfl,hb⟩;replace HB:=hQ (yC HB.out hb);clear hb)
  | (go_at_call 123;refine(Qcw _ _).mono ?_;rintro e w'⟨rfl,hb⟩;replace HB:=hQ (yC HB.out hb);clear hb)
  | (go_at_call 127;refine(Qdc _ _).mono ?_;rintro e w'⟨rfl,hb⟩;replace HB:=hQ (yC HB.out hb);clear hb)
  | (go_at_call 125;refine(Qcx _ _ _ _).mono ?_;rintro e w'⟨rfl,hb⟩;replace HB:=hQ (yC HB.out hb);clear hb))
 go_ret;exact⟨some ⟨_,0,none⟩,4,rfl,Parts.lit _ _ _ rfl HB.out.size,HB.out.alloc HB.out.size _⟩
theorem Zix(w:World):Calls prog 83 #[.int .i64 4] w (Qbr 4 w):=by
 go_enter func83,ntmps83;have HB:=hQ (xC w.heap.size w)
 go_wp2_with (first
  | (go_at_call 122;refine(Qcv _ _).mono ?_;rintro e w'⟨rfl,hb⟩;replace HB:=hQ (yC HB.out hb);clear hb)
  | (go_at_call 123;refine(Qcw _ _).mono ?_;rintro e w'⟨rfl,hb⟩;replace HB:=hQ (yC HB.out hb);clear hb)
  | (go_at_call 127;refine(Qdc _ _).mono ?_;rintro e w'⟨rfl,hb⟩;replace HB:=hQ (yC HB.out hb);clear hb)
  | (go_at_call 125;refine(Qcx _ _ _ _).mono ?_;rintro e w'⟨rfl,hb⟩;replace HB:=hQ (yC HB.out hb);clear hb))
 go_ret;exact⟨some ⟨_,0,none⟩,3,rfl,Parts.lit _ _ _ rfl HB.out.size,HB.out.alloc HB.out.size _⟩
theorem Ziy(w:World):Calls prog 83 #[.int .i64 5] w (Qbr 5 w):=by
 go_enter func83,ntmps83;have HB:=hQ (xC w.heap.size w)
 go_wp2_with (first
  | (go_at_call 122;refine(Qcv _ _).mono ?_;rintro e w'⟨rfl,hb⟩;replace HB:=hQ (yC HB.out hb);clear hb)
  | (go_at_call 123;refine(Qcw _ _).mono ?_;rintro e w'⟨rfl,hb⟩;replace HB:=hQ (yC HB.out hb);clear hb)
  | (go_at_call 127;refine(Qdc _ _).mono ?_;rintro e w'⟨rfl,hb⟩;replace HB:=hQ (yC HB.out hb);clear hb)
  | (go_at_call 125;refine(Qcx _ _ _ _).mono ?_;rintro e w'⟨rfl,hb⟩;replace HB:=hQ (yC HB.out hb);clear hb))
 go_ret;exact⟨some ⟨_,0,none⟩,1,rfl,Parts.lit _ _ _ rfl HB.out.size,HB.out.alloc HB.out.size _⟩
theorem Ziz(w:World):Calls prog 83 #[.int .i64 6] w (Qbr 6 w):=by
 go_enter func83,ntmps83;have HB:=hQ (xC w.heap.size w)
 go_wp2_with (first
  | (go_at_call 122;refine(Qcv _ _).mono ?_;rintro e w'⟨rfl,hb⟩;replace HB:=hQ (yC HB.out hb);clear hb)
  | (go_at_call 123;refine(Qcw _ _).mono ?_;rintro e w'⟨rfl,hb⟩;replace HB:=hQ (yC HB.out hb);clear hb)
  | (go_at_call 127;refine(Qdc _ _).mono ?_;rintro e w'⟨rfl,hb⟩;replace HB:=hQ (yC HB.out hb);clear hb)
  | (go_at_call 125;refine(Qcx _ _ _ _).mono ?_;rintro e w'⟨rfl,hb⟩;replace HB:=hQ (yC HB.out hb);clear hb))
 go_ret;exact⟨some ⟨_,0,none⟩,1,rfl,Parts.lit _ _ _ rfl HB.out.size,HB.out.alloc HB.out.size _⟩
theorem Zi0(w:World):Calls prog 83 #[.int .i64 7] w (Qbr 7 w):=by
 go_enter func83,ntmps83;have HB:=hQ (xC w.heap.size w)
 go_wp2_with (first
  | (go_at_call 122;refine(Qcv _ _).mono ?_;rintro e w'⟨rfl,hb⟩;replace HB:=hQ (yC HB.out hb);clear hb)
  | (go_at_call 123;refine(Qcw _ _).mono ?_;rintro e w'⟨rfl,hb⟩;replace HB:=hQ (yC HB.out hb);clear hb)
  | (go_at_call 127;refine(Qdc _ _).mono ?_;rintro e w'⟨rfl,hb⟩;replace HB:=hQ (yC HB.out hb);clear hb)
  | (go_at_call 125;refine(Qcx _ _ _ _).mono ?_;rintro e w'⟨rfl,hb⟩;replace HB:=hQ (yC HB.out hb);clear hb))
 go_ret;exact⟨some ⟨_,0,none⟩,1,rfl,Parts.lit _ _ _ rfl HB.out.size,HB.out.alloc HB.out.size _⟩
theorem Zi1(w:World):Calls prog 83 #[.int .i64 8] w (Qbr 8 w):=by
 go_enter func83,ntmps83;have HB:=hQ (xC w.heap.size w)
 go_wp2_with (first
  | (go_at_call 122;refine(Qcv _ _).mono ?_;rintro e w'⟨rfl,hb⟩;replace HB:=hQ (yC HB.out hb);clear hb)
  | (go_at_call 123;refine(Qcw _ _).mono ?_;rintro e w'⟨rfl,hb⟩;replace HB:=hQ (yC HB.out hb);clear hb)
  | (go_at_call 127;refine(Qdc _ _).mono ?_;rintro e w'⟨rfl,hb⟩;replace HB:=hQ (yC HB.out hb);clear hb)
  | (go_at_call 125;refine(Qcx _ _ _ _).mono ?_;rintro e w'⟨rfl,hb⟩;replace HB:=hQ (yC HB.out hb);clear hb))
 go_ret;exact⟨some ⟨_,0,none⟩,3,rfl,Parts.lit _ _ _ rfl HB.out.size,HB.out.alloc HB.out.size _⟩
theorem Zi2(w:World):Calls prog 83 #[.int .i64 9] w (Qbr 9 w):=by
 go_enter func83,ntmps83;have HB:=hQ (xC w.heap.size w)
 go_wp2_with (first
  | (go_at_call 122;refine(Qcv _ _).mono ?_;rintro e w'⟨rfl,hb⟩;replace HB:=hQ (yC HB.out hb);clear hb)
  | (go_at_call 123;refine(Qcw _ _).mono ?_;rintro e w'⟨rfl,hb⟩;replace HB:=hQ (yC HB.out hb);clear hb)
  | (go_at_call 127;refine(Qdc _ _).mono ?_;rintro e w'⟨rfl,hb⟩;replace HB:=hQ (yC HB.out hb);clear hb)
  | (go_at_call 125;refine(Qcx _ _ _ _).mono ?_;rintro e w'⟨rfl,hb⟩;replace HB:=hQ (yC HB.out hb);clear hb))
 go_ret;exact⟨some ⟨_,0,none⟩,1,rfl,Parts.lit _ _ _ rfl HB.out.size,HB.out.alloc HB.out.size _⟩
theorem Qz0(w:World):Calls prog 129 #[.int .i64 10] w (Qbr 10 w):=by
 go_enter func129,ntmps129;have HB:=hQ (xC w.heap.size w)
 go_wp2_with (first
  | (go_at_call 122;refine(Qcv _ _).mono ?_;rintro e w'⟨rfl,hb⟩;replace HB:=hQ (yC HB.out hb);clear hb)
  | (go_at_call 123;refine(Qcw _ _).mono ?_;rintro e w'⟨rfl,hb⟩;replace HB:=hQ (yC HB.out hb);clear hb)
  | (go_at_call 127;refine(Qdc _ _).mono ?_;rintro e w'⟨rfl,hb⟩;replace HB:=hQ (yC HB.out hb);clear hb)
  | (go_at_call 125;refine(Qcx _ _ _ _).mono ?_;rintro e w'⟨rfl,hb⟩;replace HB:=hQ (yC HB.out hb);clear hb))
 go_ret;exact⟨some ⟨_,0,none⟩,1,rfl,Parts.lit _ _ _ rfl HB.out.size,HB.out.alloc HB.out.size _⟩
theorem Qz1(w:World):Calls prog 129 #[.int .i64 11] w (Qbr 11 w):=by
 go_enter func129,ntmps129;have HB:=hQ (xC w.heap.size w)
 go_wp2_with (first
  | (go_at_call 122;refine(Qcv _ _).mono ?_;rintro e w'⟨rfl,hb⟩;replace HB:=hQ (yC HB.out hb);clear hb)
  | (go_at_call 123;refine(Qcw _ _).mono ?_;rintro e w'⟨rfl,hb⟩;replace HB:=hQ (yC HB.out hb);clear hb)
  | (go_at_call 127;refine(Qdc _ _).mono ?_;rintro e w'⟨rfl,hb⟩;replace HB:=hQ (yC HB.out hb);clear hb)
  | (go_at_call 125;refine(Qcx _ _ _ _).mono ?_;rintro e w'⟨rfl,hb⟩;replace HB:=hQ (yC HB.out hb);clear hb))
 go_ret;exact⟨some ⟨_,0,none⟩,1,rfl,Parts.lit _ _ _ rfl HB.out.size,HB.out.alloc HB.out.size _⟩
theorem Qz2(w:World):Calls prog 129 #[.int .i64 12] w (Qbr 12 w):=by
 go_enter func129,ntmps129;have HB:=hQ (xC w.heap.size w)
 go_wp2_with (first
  | (go_at_call 122;refine(Qcv _ _).mono ?_;rintro e w'⟨rfl,hb⟩;replace HB:=hQ (yC HB.out hb);clear hb)
  | (go_at_call 123;refine(Qcw _ _).mono ?_;rintro e w'⟨rfl,hb⟩;replace HB:=hQ (yC HB.out hb);clear hb)
  | (go_at_call 127;refine(Qdc _ _).mono ?_;rintro e w'⟨rfl,hb⟩;replace HB:=hQ (yC HB.out hb);clear hb)
  | (go_at_call 125;refine(Qcx _ _ _ _).mono ?_;rintro e w'⟨rfl,hb⟩;replace HB:=hQ (yC HB.out hb);clear hb))
 go_ret;exact⟨some ⟨_,0,none⟩,1,rfl,Parts.lit _ _ _ rfl HB.out.size,HB.out.alloc HB.out.size _⟩
theorem Qz3(w:World):Calls prog 129 #[.int .i64 13] w (Qbr 13 w):=by
 go_enter func129,ntmps129;have HB:=hQ (xC w.heap.size w)
 go_wp2_with (first
  | (go_at_call 122;refine(Qcv _ _).mono ?_;rintro e w'⟨rfl,hb⟩;replace HB:=hQ (yC HB.out hb);clear hb)
  | (go_at_call 123;refine(Qcw _ _).mono ?_;rintro e w'⟨rfl,hb⟩;replace HB:=hQ (yC HB.out hb);clear hb)
  | (go_at_call 127;refine(Qdc _ _).mono ?_;rintro e w'⟨rfl,hb⟩;replace HB:=hQ (yC HB.out hb);clear hb)
  | (go_at_call 125;refine(Qcx _ _ _ _).mono ?_;rintro e w'⟨rfl,hb⟩;replace HB:=hQ (yC HB.out hb);clear hb))
 go_ret;exact⟨some ⟨_,0,none⟩,1,rfl,Parts.lit _ _ _ rfl HB.out.size,HB.out.alloc HB.out.size _⟩
theorem Qz4(w:World):Calls prog 129 #[.int .i64 14] w (Qbr 14 w):=by
 go_enter func129,ntmps129;have HB:=hQ (xC w.heap.size w)
 go_wp2_with (first
  | (go_at_call 122;refine(Qcv _ _).mono ?_;rintro e w'⟨rfl,hb⟩;replace HB:=hQ (yC HB.out hb);clear hb)
  | (go_at_call 123;refine(Qcw _ _).mono ?_;rintro e w'⟨rfl,hb⟩;replace HB:=hQ (yC HB.out hb);clear hb)
  | (go_at_call 127;refine(Qdc _ _).mono ?_;rintro e w'⟨rfl,hb⟩;replace HB:=hQ (yC HB.out hb);clear hb)
  | (go_at_call 125;refine(Qcx _ _ _ _).mono ?_;rintro e w'⟨rfl,hb⟩;replace HB:=hQ (yC HB.out hb);clear hb))
 go_ret;exact⟨some ⟨_,0,none⟩,1,rfl,Parts.lit _ _ _ rfl HB.out.size,HB.out.alloc HB.out.size _⟩
theorem Qz5(w:World):Calls prog 129 #[.int .i64 15] w (Qbr 15 w):=by
 go_enter func129,ntmps129;have HB:=hQ (xC w.heap.size w)
 go_wp2_with (first
  | (go_at_call 122;refine(Qcv _ _).mono ?_;rintro e w'⟨rfl,hb⟩;replace HB:=hQ (yC HB.out hb);clear hb)
  | (go_at_call 123;refine(Qcw _ _).mono ?_;rintro e w'⟨rfl,hb⟩;replace HB:=hQ (yC HB.out hb);clear hb)
  | (go_at_call 127;refine(Qdc _ _).mono ?_;rintro e w'⟨rfl,hb⟩;replace HB:=hQ (yC HB.out hb);clear hb)
  | (go_at_call 125;refine(Qcx _ _ _ _).mono ?_;rintro e w'⟨rfl,hb⟩;replace HB:=hQ (yC HB.out hb);clear hb))
 go_ret;exact⟨some ⟨_,0,none⟩,1,rfl,Parts.lit _ _ _ rfl HB.out.size,HB.out.alloc HB.out.size _⟩
theorem Qz6(w:World):Calls prog 129 #[.int .i64 16] w (Qbr 16 w):=by
 go_enter func129,ntmps129;have HB:=hQ (xC w.heap.size w)
 go_wp2_with (first
  | (go_at_call 122;refine(Qcv _ _).mono ?_;rintro e w'⟨rfl,hb⟩;replace HB:=hQ (yC HB.out hb);clear hb)
  | (go_at_call 123;refine(Qcw _ _).mono ?_;rintro e w'⟨rfl,hb⟩;replace HB:=hQ (yC HB.out hb);clear hb)
  | (go_at_call 127;refine(Qdc _ _).mono ?_;rintro e w'⟨rfl,hb⟩;replace HB:=hQ (yC HB.out hb);clear hb)
  | (go_at_call 125;refine(Qcx _ _ _ _).mono ?_;rintro e w'⟨rfl,hb⟩;replace HB:=hQ (yC HB.out hb);clear hb))
 go_ret;exact⟨some ⟨_,0,none⟩,4,rfl,Parts.lit _ _ _ rfl HB.out.size,HB.out.alloc HB.out.size _⟩
theorem Qz7(w:World):Calls prog 129 #[.int .i64 17] w (Qbr 17 w):=by
 go_enter func129,ntmps129;have HB:=hQ (xC w.heap.size w)
 go_wp2_with (first
  | (go_at_call 122;refine(Qcv _ _).mono ?_;rintro e w'⟨rfl,hb⟩;replace HB:=hQ (yC HB.out hb);clear hb)
  | (go_at_call 123;refine(Qcw _ _).mono ?_;rintro e w'⟨rfl,hb⟩;replace HB:=hQ (yC HB.out hb);clear hb)
  | (go_at_call 127;refine(Qdc _ _).mono ?_;rintro e w'⟨rfl,hb⟩;replace HB:=hQ (yC HB.out hb);clear hb)
  | (go_at_call 125;refine(Qcx _ _ _ _).mono ?_;rintro e w'⟨rfl,hb⟩;replace HB:=hQ (yC HB.out hb);clear hb))
 go_ret;exact⟨some ⟨_,0,none⟩,1,rfl,Parts.lit _ _ _ rfl HB.out.size,HB.out.alloc HB.out.size _⟩
theorem Qz8(w:World):Calls prog 129 #[.int .i64 18] w (Qbr 18 w):=by
 go_enter func129,ntmps129;have HB:=hQ (xC w.heap.size w)
 go_wp2_with (first
  | (go_at_call 122;refine(Qcv _ _).mono ?_;rintro e w'⟨rfl,hb⟩;replace HB:=hQ (yC HB.out hb);clear hb)
  | (go_at_call 123;refine(Qcw _ _).mono ?_;rintro e w'⟨rfl,hb⟩;replace HB:=hQ (yC HB.out hb);clear hb)
  | (go_at_call 127;refine(Qdc _ _).mono ?_;rintro e w'⟨rfl,hb⟩;replace HB:=hQ (yC HB.out hb);clear hb)
  | (go_at_call 125;refine(Qcx _ _ _ _).mono ?_;rintro e w'⟨rfl,hb⟩;replace HB:=hQ (yC HB.out hb);clear hb))
 go_ret;exact⟨some ⟨_,0,none⟩,3,rfl,Parts.lit _ _ _ rfl HB.out.size,HB.out.alloc HB.out.size _⟩
theorem Qz9(w:World):Calls prog 129 #[.int .i64 19] w (Qbr 19 w):=by
 go_enter func129,ntmps129;have HB:=hQ (xC w.heap.size w)
 go_wp2_with (first
  | (go_at_call 122;refine(Qcv _ _).mono ?_;rintro e w'⟨rfl,hb⟩;replace HB:=hQ (yC HB.out hb);clear hb)
  | (go_at_call 123;refine(Qcw _ _).mono ?_;rintro e w'⟨rfl,hb⟩;replace HB:=hQ (yC HB.out hb);clear hb)
  | (go_at_call 127;refine(Qdc _ _).mono ?_;rintro e w'⟨rfl,hb⟩;replace HB:=hQ (yC HB.out hb);clear hb)
  | (go_at_call 125;refine(Qcx _ _ _ _).mono ?_;rintro e w'⟨rfl,hb⟩;replace HB:=hQ (yC HB.out hb);clear hb))
 go_ret;exact⟨some ⟨_,0,none⟩,6,rfl,Parts.lit _ _ _ rfl HB.out.size,HB.out.alloc HB.out.size _⟩
theorem Zaa(w:World):Calls prog 129 #[.int .i64 20] w (Qbr 20 w):=by
 go_enter func129,ntmps129;have HB:=hQ (xC w.heap.size w)
 go_wp2_with (first
  | (go_at_call 122;refine(Qcv _ _).mono ?_;rintro e w'⟨rfl,hb⟩;replace HB:=hQ (yC HB.out hb);clear hb)
  | (go_at_call 123;refine(Qcw _ _).mono ?_;rintro e w'⟨rfl,hb⟩;replace HB:=hQ (yC HB.out hb);clear hb)
  | (go_at_call 127;refine(Qdc _ _).mono ?_;rintro e w'⟨rfl,hb⟩;replace HB:=hQ (yC HB.out hb);clear hb)
  | (go_at_call 125;refine(Qcx _ _ _ _).mono ?_;rintro e w'⟨rfl,hb⟩;replace HB:=hQ (yC HB.out hb);clear hb))
 go_ret;exact⟨some ⟨_,0,none⟩,6,rfl,Parts.lit _ _ _ rfl HB.out.size,HB.out.alloc HB.out.size _⟩
theorem Zab(w:World):Calls prog 129 #[.int .i64 21] w (Qbr 21 w):=by
 go_enter func129,ntmps129;have HB:=hQ (xC w.heap.size w)
 go_wp2_with (first
  | (go_at_call 122;refine(Qcv _ _).mono ?_;rintro e w'⟨rfl,hb⟩;replace HB:=hQ (yC HB.out hb);clear hb)
  | (go_at_call 123;refine(Qcw _ _).mono ?_;rintro e w'⟨rfl,hb⟩;replace HB:=hQ (yC HB.out hb);clear hb)
  | (go_at_call 127;refine(Qdc _ _).mono ?_;rintro e w'⟨rfl,hb⟩;replace HB:=hQ (yC HB.out hb);clear hb)
  | (go_at_call 125;refine(Qcx _ _ _ _).mono ?_;rintro e w'⟨rfl,hb⟩;replace HB:=hQ (yC HB.out hb);clear hb))
 go_ret;exact⟨some ⟨_,0,none⟩,3,rfl,Parts.lit _ _ _ rfl HB.out.size,HB.out.alloc HB.out.size _⟩
theorem Zac(w:World):Calls prog 129 #[.int .i64 22] w (Qbr 22 w):=by
 go_enter func129,ntmps129;have HB:=hQ (xC w.heap.size w)
 go_wp2_with (first
  | (go_at_call 122;refine(Qcv _ _).mono ?_;rintro e w'⟨rfl,hb⟩;replace HB:=hQ (yC HB.out hb);clear hb)
  | (go_at_call 123;refine(Qcw _ _).mono ?_;rintro e w'⟨rfl,hb⟩;replace HB:=hQ (yC HB.out hb);clear hb)
  | (go_at_call 127;refine(Qdc _ _).mono ?_;rintro e w'⟨rfl,hb⟩;replace HB:=hQ (yC HB.out hb);clear hb)
  | (go_at_call 125;refine(Qcx _ _ _ _).mono ?_;rintro e w'⟨rfl,hb⟩;replace HB:=hQ (yC HB.out hb);clear hb))
 go_ret;exact⟨some ⟨_,0,none⟩,3,rfl,Parts.lit _ _ _ rfl HB.out.size,HB.out.alloc HB.out.size _⟩
theorem Qd0{k:Int}(h:k<=0\/23<=k):Qae k = []:=by
 unfold Qae;simp only[show k≠1 from by omega,show k≠2 from by omega,show k≠3 from by omega,show k≠4 from by omega,show k≠5 from by omega,show k≠6 from by omega,show k≠7 from by omega,show k≠8 from by omega,show k≠9 from by omega,show k≠10 from by omega,show k≠11 from by omega,show k≠12 from by omega,show k≠13 from by omega,show k≠14 from by omega,show k≠15 from by omega,show k≠16 from by omega,show k≠17 from by omega,show k≠18 from by omega,show k≠19 from by omega,show k≠20 from by omega,show k≠21 from by omega,show k≠22 from by omega,if_false]
theorem Qcr{a b:Int}(h:a≠b):(a==b)=false:=by simpa using h
theorem Qto(k:Int)(w:World)(h:k<=0\/23<=k):Calls prog 129 #[.int .i64 k] w (Qbr k w):=by
 have e10:=Qcr (show k≠10 from by omega);have e11:=Qcr (show k≠11 from by omega);have e12:=Qcr (show k≠12 from by omega);have e13:=Qcr (show k≠13 from by omega);have e14:=Qcr (show k≠14 from by omega);have e15:=Qcr (show k≠15 from by omega);have e16:=Qcr (show k≠16 from by omega);have e17:=Qcr (show k≠17 from by omega);have e18:=Qcr (show k≠18 from by omega);have e19:=Qcr (show k≠19 from by omega);have e20:=Qcr (show k≠20 from by omega);have e21:=Qcr (show k≠21 from by omega);have e22:=Qcr (show k≠22 from by omega);have HP:=hQ (Qd0 h);clear h;go_enter func129,ntmps129;go_wp2;go_ret;exact⟨none,0,by rw[HP.out];rfl,by rw[HP.out];exact Parts.nil _ _,xC _ _⟩
theorem Qw3(k:Int)(w:World)(h:k<=0\/10<=k):Calls prog 129 #[.int .i64 k] w (Qbr k w):=by
 by_cases e10:k=10
 ·subst e10;exact Qz0 w
 by_cases e11:k=11
 ·subst e11;exact Qz1 w
 by_cases e12:k=12
 ·subst e12;exact Qz2 w
 by_cases e13:k=13
 ·subst e13;exact Qz3 w
 by_cases e14:k=14
 ·subst e14;exact Qz4 w
 by_cases e15:k=15
 ·subst e15;exact Qz5 w
 by_cases e16:k=16
 ·subst e16;exact Qz6 w
 by_cases e17:k=17
 ·subst e17;exact Qz7 w
 by_cases e18:k=18
 ·subst e18;exact Qz8 w
 by_cases e19:k=19
 ·subst e19;exact Qz9 w
 by_cases e20:k=20
 ·subst e20;exact Zaa w
 by_cases e21:k=21
 ·subst e21;exact Zab w
 by_cases e22:k=22
 ·subst e22;exact Zac w
 exact Qto k w (by omega)
theorem Zad(k:Int)(w:World)(h:k<=0\/10<=k):Calls prog 83 #[.int .i64 k] w (Qbr k w):=by
 have e1:=Qcr (show k≠1 from by omega);have e2:=Qcr (show k≠2 from by omega);have e3:=Qcr (show k≠3 from by omega);have e4:=Qcr (show k≠4 from by omega);have e5:=Qcr (show k≠5 from by omega);have e6:=Qcr (show k≠6 from by omega);have e7:=Qcr (show k≠7 from by omega);have e8:=Qcr (show k≠8 from by omega);have e9:=Qcr (show k≠9 from by omega);have HK:=hQ h;clear h;go_enter func83,ntmps83;go_wp2_with (go_at_call 129;refine(Qw3 _ _ HK.out).mono ?_;rintro e w'⟨A,c,rfl,hp,hb⟩)
 go_ret;exact⟨A,c,rfl,hp,hb⟩
theorem Qgs(k:Int)(w:World):Calls prog 83 #[.int .i64 k] w (Qbr k w):=by
 by_cases e1:k=1
 ·subst e1;exact Ziu w
 by_cases e2:k=2
 ·subst e2;exact Ziv w
 by_cases e3:k=3
 ·subst e3;exact Ziw w
 by_cases e4:k=4
 ·subst e4;exact Zix w
 by_cases e5:k=5
 ·subst e5;exact Ziy w
 by_cases e6:k=6
 ·subst e6;exact Ziz w
 by_cases e7:k=7
 ·subst e7;exact Zi0 w
 by_cases e8:k=8
 ·subst e8;exact Zi1 w
 by_cases e9:k=9
 ·subst e9;exact Zi2 w
 exact Zad k w (by omega)
end Go.Proofs.YtfjpemdejoejbaaGreat
