/- Part 14 -/
import Derived.Test.YtfjpemdejoejbaaGreatTp13
import Derived.Shelf.RegionOpenPlain
import Derived.Lib.Strings
import Derived.Lib.Slices
import Derived.Lib.Walk
import Derived.Lib.Builder
import Derived.Lib.AppendStr
import Derived.Lib.UnsafeStr
import Derived.Laws.Externs
import Derived.Laws.IdiomCopy
import Derived.Laws.BitsLemmas
set_option maxRecDepth 100000
set_option maxHeartbeats 4000000
namespace Go.Proofs.YtfjpemdejoejbaaGreat
open Go.Proofs.Tryz Go.RowKit
def Qmk(kd:Int):Nat->List yD->Bool
 | _,[]=>true
 | i,y :: r=>Qge y (kd==1 && (i:Int)==2) && Qmk kd (i+1) r
mutual
def Qj8:Tr->Bool
 | .mk kd _ ls ks=>((ls.length:Int)==Ql5 kd ks.length) && Qmk kd 0 ls && Qtf ks
def Qtf:List Tr->Bool
 | []=>true
 | k :: r=>Qj8 k && Qtf r
end
theorem Zjd(t:Tr):Qj8 t=(((t.leads.length:Int)==Ql5 t.kind t.kids.length) && Qmk t.kind 0 t.leads && Qtf t.kids):=by
 cases t with
 | mk kd x ls ks=>rw[Qj8];rfl
theorem Zfy(kd:Int)(l:List yD)(i:Nat)(y:yD)(hy:l[i]? = some y):Qmk kd i (l.drop i)=(Qge y (kd==1 && (i:Int)==2) && Qmk kd (i+1) (l.drop (i+1))):=by
 obtain⟨hi,he⟩:=xP.1 hy;rw[List.drop_eq_getElem_cons hi,he,Qmk]
theorem Zat(kd:Int)(l:List yD)(i:Nat)(h:l.length<=i):Qmk kd i (l.drop i)=true:=by
 rw[List.drop_eq_nil_of_le h,Qmk]
theorem Zje(l:List Tr)(j:Nat)(k:Tr)(hk:l[j]? = some k):Qtf (l.drop j)=(Qj8 k && Qtf (l.drop (j+1))):=by
 obtain⟨hj,he⟩:=xP.1 hk;rw[List.drop_eq_getElem_cons hj,he,Qtf]
theorem Zfz(l:List Tr)(j:Nat)(h:l.length<=j):Qtf (l.drop j)=true:=by
 rw[List.drop_eq_nil_of_le h,Qtf]
theorem TrAt.laddr{S:Nat->Prop}{w:World}{t:Tr}{v:TV}(h:TrAt S w t v):t.leads.length=0\/∃ b off,v.la=some ⟨b,off,none⟩:=by
 cases t with
 | mk kd tx ls ks =>
  unfold TrAt at h;cases ls with
  | nil=>exact .inl rfl
  | cons a r =>
   obtain⟨b,off,hA,_⟩:=h.2.2.2.2.1 (by simp);exact .inr ⟨b,off,hA⟩
theorem TrAt.lat{S:Nat->Prop}{w:World}{t:Tr}{v:TV}{b off:Nat}(h:TrAt S w t v)(hA:v.la=some ⟨b,off,none⟩){i:Nat}{y:yD}(hy:t.leads[i]? = some y):w.cell? ⟨b,off+i,none⟩=some (.string y):=by
 cases t with
 | mk kd tx ls ks =>
  unfold TrAt at h;obtain⟨b',off',hA',_,hc⟩:=h.2.2.2.2.1 (by intro e;rw[show(Tr.mk kd tx ls ks).leads=ls from rfl,e]at hy;simp at hy);rw[hA]at hA';injection hA' with e;injection e with e1 e2 _;subst e1 e2;exact hc i y hy
def Qxt(last lead text:yD):yD:=if lead.size=0/\Qgh last text=true then ⟨#[32]⟩ else lead
def Zf0(s:List UInt8 × yD)(lead text:yD):List UInt8 × yD:=(s.1 ++ (Qxt s.2 lead text).data.toList ++ text.data.toList,text)
theorem Qm8{x:yD}(h:x.size=0):x=⟨#[]⟩:=by
 obtain⟨d⟩:=x;have:d.size=0:=h
 rw[Array.eq_empty_of_size_eq_zero this]
abbrev Qbt:=yD × yD
def Qib(s:List UInt8 × yD)(ps:List Qbt):List UInt8 × yD:=ps.foldl (fun s p=>Zf0 s p.1 p.2) s
def Qgx:List Qbt->Nat
 | []=>0
 | p :: r=>p.1.size+p.2.size+1+Qgx r
theorem Ql8(a c:List Qbt):Qgx (a ++ c)=Qgx a+Qgx c:=by
 induction a with
 | nil=>simp[Qgx]
 | cons p r ih=>rw[xV,Qgx,Qgx,ih];omega
theorem Qrq(s:List UInt8 × yD)(a c:List Qbt):Qib s (a ++ c)=Qib (Qib s a) c:=List.foldl_append
theorem Zau(s:List UInt8 × yD)(p:Qbt):Qib s [p] = Zf0 s p.1 p.2:=rfl
theorem Zjf(a l x:yD):(Qxt a l x).size<=l.size+1:=by
 unfold Qxt
 split
 ·rename_i h;rw[h.1];exact xA 1
 ·omega
theorem Zf1(ps:List Qbt):∀ s,(Qib s ps).1.length<=s.1.length+Qgx ps:=by
 induction ps with
 | nil=>intro s;exact xA _
 | cons p r ih =>
  intro s;have h1:=ih (Zf0 s p.1 p.2);have h2:=Zjf s.2 p.1 p.2;have e1:(Qxt s.2 p.1 p.2).data.size=(Qxt s.2 p.1 p.2).size:=rfl;have e2:p.2.data.size=p.2.size:=rfl;have h3:(Zf0 s p.1 p.2).1.length=s.1.length+(Qxt s.2 p.1 p.2).data.size+p.2.data.size:=by unfold Zf0;simp only[xB,Array.length_toList]
  show(Qib (Zf0 s p.1 p.2) r).1.length<=_
  rw[Qgx];omega
def Qbh(co:Bool)(cs:List yD):Nat->List (List Qbt)->List Qbt
 | _,[]=>[]
 | i,p :: r=>(if 0<i/\co=true then [((cs[i-1]?).getD ⟨#[]⟩,⟨#[44]⟩)] else []) ++ p ++ Qbh co cs (i+1) r
def Qb0(n:Int)(tx:yD)(cs:List yD):List Part->List yD->List (List Qbt)->List Qbt
 | [],_,_=>[]
 | x :: r,ls,ks=>if x.kids≠0 then Qbh x.commas cs 0 (ks.take (Qb9 x n).toNat) ++ Qb0 n tx cs r ls (ks.drop (Qb9 x n).toNat)
  else ((ls[0]?).getD ⟨#[]⟩,if x.nm≠0 then tx else x.word) :: Qb0 n tx cs r (ls.drop 1) ks
mutual
def Qaf:Tr->List Qbt
 | .mk k x ls ks=>Qb0 (Qca (Qae k) ks.length).1 x (ls.drop (Qcn (Qae k))) (Qae k) ls (Qgy ks)
def Qgy:List Tr->List (List Qbt)
 | []=>[]
 | t :: r=>Qaf t :: Qgy r
end
theorem Qt2(l:List Tr):Qgy l=l.map Qaf:=by
 induction l with
 | nil=>rfl
 | cons a r ih=>rw[Qgy,ih];rfl
theorem Qdg(t:Tr):Qaf t=Qb0 (Qca (Qae t.kind) t.kids.length).1 t.text (t.leads.drop (Qcn (Qae t.kind))) (Qae t.kind) t.leads (t.kids.map Qaf):=by
 cases t with
 | mk k x ls ks=>rw[Qaf,Qt2];rfl
def Qog(t:Tr):List UInt8:=(Qib ([],⟨#[]⟩) (Qaf t)).1
theorem TrAt.lows{B:Nat}{w w':World}{t:Tr}{v:TV}(h:TrAt (fun k=>k<B) w t v)(hb:Below B w w'):TrAt (fun k=>k<B) w' t v:=TrAt.move (fun _ h=>h) (fun k hk _=>hb.block k hk) t v h
theorem StrsAt.low{S:Nat->Prop}{w:World}{A:yE}{l:List yD}(h:StrsAt S w A l):StrsAt (fun k=>k<w.heap.size) w A l:=fun hne=>by
 obtain⟨b,off,hA,_,hc⟩:=h hne;refine⟨b,off,hA,?_,hc⟩;cases l with
 | nil=>exact absurd rfl hne
 | cons a r=>exact xK w _ (hc 0 a rfl)
mutual
theorem TrAt.low{S:Nat->Prop}{w:World}:(t:Tr)->(v:TV)->TrAt S w t v->TrAt (fun k=>k<w.heap.size) w t v
 | .mk k x ls ks,v,h=>by
  unfold TrAt at h |-;obtain⟨h1,h2,h3,h4,h5,h6,h7⟩:=h;refine⟨h1,h2,h3,h4,h5.low,fun hne=>?_,h7⟩;obtain⟨b,off,hA,hb,hc⟩:=h6 hne;refine⟨b,off,hA,?_,TrsAt.low b ks off hc⟩;cases ks with
  | nil=>exact absurd rfl hne
  | cons a r =>
   unfold TrsAt at hc;obtain⟨u,c0,_⟩:=hc;exact xK w _ c0
theorem TrsAt.low{S:Nat->Prop}{w:World}(b:Nat):(l:List Tr)->(off:Nat)->TrsAt S w b off l->TrsAt (fun k=>k<w.heap.size) w b off l
 | [],off,h=>trivial
 | t :: r,off,h=>by
  unfold TrsAt at h |-;obtain⟨v,c0,c1,c2,c3,ht,hr⟩:=h;exact⟨v,c0,c1,c2,c3,TrAt.low t v ht,TrsAt.low b r _ hr⟩
end
def Qjq(t:Tr):yD:=if Qam t && Qj8 t then ⟨(Qog t).toArray⟩ else ⟨#[]⟩
def Qml:List Part->Int->Bool
 | [],_=>true
 | x :: r,n=>decide (Qb9 x n<=x.most) && Qml r n
mutual
def Qgk:Tr->Bool
 | .mk kd _ _ ks=>Qml (Qae kd) (Qca (Qae kd) ks.length).1 && Qmm ks
def Qmm:List Tr->Bool
 | []=>true
 | k :: r=>Qgk k && Qmm r
end
theorem Zjg(t:Tr):Qgk t=(Qml (Qae t.kind) (Qca (Qae t.kind) t.kids.length).1 && Qmm t.kids):=by
 cases t with
 | mk kd x ls ks=>rw[Qgk];rfl
theorem Qm9(l:List Tr)(j:Nat)(k:Tr)(hk:l[j]? = some k):Qmm (l.drop j)=(Qgk k && Qmm (l.drop (j+1))):=by
 obtain⟨hj,he⟩:=xP.1 hk;rw[List.drop_eq_getElem_cons hj,he,Qmm]
theorem Qko(l:List Tr)(j:Nat)(h:l.length<=j):Qmm (l.drop j)=true:=by
 rw[List.drop_eq_nil_of_le h,Qmm]
def Qgi(t:Tr):Bool:=Qam t && Qj8 t && Qgk t && Qds t 40 && decide ((Qog t).length<=4096)
def Qnb(r:Tr × Nat × Nat)(w:World)(e:Ending)(w':World):Prop :=
 ∃ v:TV,e = .returned (.tuple #[.agg #[.int .i64 v.kind,.string v.text,.slice v.la v.ll v.lc,.slice v.ka v.kl v.kc],.int .i64 r.2.1,.int .i64 r.2.2])/\TrAt (fun k=>w.heap.size<=k/\k<w'.heap.size) w' r.1 v/\Below w.heap.size w w'
theorem Qxx{n:Nat}{s:yD}{r:Tr × Nat × Nat}(h:Qho n s=some r)(he:(Qbp s).e≠0):r=(noTr,(Qbp s).place,(Qbp s).e):=by
 unfold Qho at h;rw[xO he]at h;injection h with h;exact h.symm
theorem Qt3{n:Nat}{s:yD}{r:Tr × Nat × Nat}(h:Qho n s=some r)(he:(Qbp s).e=0):∃ t p,Qgr (Qh6 n) n 1 (Qae 1) ⟨#[]⟩ [] [] [] (Qoh s)=some (t,p)/\r=(if p.e≠0 then (noTr,p.place,p.e) else if Qds t 40 then (t,0,0) else (noTr,0,4)):=by
 unfold Qho at h;rw[xN (by omega)]at h;cases hN:Qgr (Qh6 n) n 1 (Qae 1) ⟨#[]⟩ [] [] [] (Qoh s) with
 | none =>
  unfold Qoh at hN;rw[hN]at h;cases h
 | some tp =>
  refine⟨tp.1,tp.2,rfl,?_⟩;unfold Qoh at hN;rw[hN]at h;injection h with h;exact h.symm
theorem Qnc(S:Nat->Prop)(w:World):TrAt S w noTr ⟨0,⟨#[]⟩,none,0,0,none,0,0⟩:=by
 unfold noTr TrAt;exact⟨rfl,rfl,rfl,rfl,fun h=>absurd rfl h,fun h=>absurd rfl h,xA _,xA _⟩
theorem Qt4{s:yD}{w:World}{B g cap:Nat}(he:(Qbp s).e=0)(hown:w.ownsRow B 88 3 (.slice (some ⟨g,0,none⟩) ((Qbp s).toks.length+1) cap) ((Qbp s).toks.length+1) (Qcu (Qbp s).toks ++ [.int .i64 0,.string (Qbp s).tail,.string ⟨#[]⟩]))(hlt:g<w.heap.size) :
  PIn (w.alloc (.cells #[.slice (some ⟨g,0,none⟩) ((Qbp s).toks.length+1) cap,.int .i64 0,.int .i64 0,.int .i64 0] 90)) w.heap.size (Qoh s):=by
 have hl:(Qoh s).rest.length=(Qbp s).toks.length+1:=by unfold Qoh;simp
 have hc:Qcu (Qoh s).rest=Qcu (Qbp s).toks ++ [.int .i64 0,.string (Qbp s).tail,.string ⟨#[]⟩]:=by
  show Qcu ((Qbp s).toks ++ [_])=_
  rw[Qh5]
 refine⟨g,0,cap,?_,hlt,?_,?_,Zjl he⟩
 ·rw[hl];exact xH w _
 ·rw[hl]
  rcases hown.2 with⟨hv,_⟩|⟨g',cap',cur,hv,_,_,hn,_⟩
  ·simp at hv
  ·simp at hv
   omega
 ·exact Toks.of_own (base:=B) (c:=cap) (by rw[hl,hc];exact hown.alloc _)
theorem Zay{n:Nat}{s:yD}{r:Tr × Nat × Nat}(w:World)(hs:s.size<=maxLen)(h:Qho n s=some r)(he:(Qbp s).e≠0):Calls prog 26 #[.string s] w (Qnb r w):=by
 have HR:=hQ (Qxx h he);have HS:=hQ hs;have he':(((Qbp s).e:Int) != 0)=true:=by simp;omega
 clear h he hs;go_enter func26,ntmps26;go_wp2_with fail;go_at_call 51;refine(Qva s _ HS.out).mono ?_;rintro e w1⟨tv,rfl,_,hb⟩;have HB:=hQ (((xC w.heap.size w).alloc (xA _) (.cells #[.int .i64 0,.string ⟨#[]⟩,.slice none 0 0,.slice none 0 0] 25)).trans (hb.mono (by simp)));have g0:=(hb.block w.heap.size (by simp)).trans (xH w (.cells #[.int .i64 0,.string ⟨#[]⟩,.slice none 0 0,.slice none 0 0] 25));clear hb;have r0:w1.cell? ⟨w.heap.size,0,none⟩=some (.int .i64 0):=Qab g0 0 _ rfl;have r1:w1.cell? ⟨w.heap.size,1,none⟩=some (.string ⟨#[]⟩):=Qab g0 1 _ rfl;have r2:w1.cell? ⟨w.heap.size,2,none⟩=some (.slice none 0 0):=Qab g0 2 _ rfl;have r3:w1.cell? ⟨w.heap.size,3,none⟩=some (.slice none 0 0):=Qab g0 3 _ rfl;have rf:=xL g0;clear g0;go_wp2;refine bodyPost_ret (v:=.tuple #[.agg #[.int .i64 0,.string ⟨#[]⟩,.slice none 0 0,.slice none 0 0],.int .i64 (Qbp s).place,.int .i64 (Qbp s).e]) (by simp[results,results26,go_sem, *]) rfl ?_;rw[HR.out];exact⟨⟨0,⟨#[]⟩,none,0,0,none,0,0⟩,rfl,Qnc _ _,(((HB.out.setCell (p:=⟨w.heap.size,0,none⟩) (xA _) _).setCell (p:=⟨w.heap.size,1,none⟩) (xA _) _).setCell (p:=⟨w.heap.size,2,none⟩) (xA _) _).setCell (p:=⟨w.heap.size,3,none⟩) (xA _) _⟩
theorem Qxy{n:Nat}(hn:n<=65536){s:yD}{r:Tr × Nat × Nat}(w:World)(hs:s.size<=maxLen)(h:Qho n s=some r)(he:(Qbp s).e=0):Calls prog 26 #[.string s] w (Qnb r w):=by
 obtain⟨t,p,hN,hr⟩:=Qt3 h he;have HN:=hQ hN;have HR:=hQ hr;have HE:=hQ he;have HS:=hQ hs;have HNC:=hQ (Zjj hn);have HSM:=hQ (show Qbs t=true from Qna (Qxv n hn) hn hN);have HTL:=hQ (Qoz he).1;have he':(((Qbp s).e:Int) != 0)=false:=by simp[he]
 clear h he hs hN hr;obtain⟨i0,hi,hz0,hz1,hz2⟩:=info_parts Qlh;go_enter func26,ntmps26;go_wp2_with fail;go_at_call 51;refine(Qva s _ HS.out).mono ?_;rintro e w1⟨tv,rfl,hown,hb⟩;rw[xI]at hown;have HB:=hQ (((xC w.heap.size w).alloc (xA _) (.cells #[.int .i64 0,.string ⟨#[]⟩,.slice none 0 0,.slice none 0 0] 25)).trans (hb.mono (by simp)));have HG0:=hQ ((hb.block w.heap.size (by simp)).trans (xH w (.cells #[.int .i64 0,.string ⟨#[]⟩,.slice none 0 0,.slice none 0 0] 25)));have HW1:=hQ (show w.heap.size+1<=w1.heap.size from by have:=hb.size;rw[xI]at this;exact this);have HOW:=hQ hown;clear hb hown;go_wp2_with (at_builtin;refine wpList_append_lies _ (by rfl) _ _ _ (by rfl) (w.heap.size+1) 88 i0 _ 3 40 underlying84 hi hz0 hz1 hz2 rfl (by decide) tv (Qbp s).toks.length (Qcu (Qbp s).toks) (by rfl) (HOW.out.alloc _) ⟨w1.heap.size,0,none⟩ 1 1 [.int .i64 0,.string (Qbp s).tail,.string ⟨#[]⟩] (by rfl) (by rfl) (xM (cs:=#[.int .i64 0,.string (Qbp s).tail,.string ⟨#[]⟩]) (t:=88) (fr:=(0,0)) (xH w1 _)) (Qm2 _ _ _) (by decide) ?b1 ?b2 ?b3 (w1.heap.size+1) (by simp) ?_)
 case b1=>unfold maxLen;have:=HTL.out;omega
 case b2=>have:=HTL.out;omega
 case b3=>have:=HW1.out;simp;omega
 intro g cap w2 hown2 hgrow hat hlt2;have HP2:=hQ (Qt4 HE.out hown2 hlt2);have hgb:∀ k,tv.ownBlock=some k->w.heap.size+1<=k:=fun k hk=>(HOW.out.lt k hk).1
 have HB2:=hQ ((HB.out.alloc HB.out.size (.cells #[.int .i64 0,.string (Qbp s).tail,.string ⟨#[]⟩] 88)).grown hgrow (by have:=HW1.out;simp;omega) (fun k hk=>by have:=hgb k hk;omega));have HG2:=hQ ((hgrow.block w.heap.size (by have:=HW1.out;simp;omega) (fun e=>by have:=hgb _ e.symm;omega)).trans ((Below.heap_alloc _ _ _ (Qaa HG0.out)).trans HG0.out));have HW2:=hQ (show w.heap.size+1<=w2.heap.size from by have h1:=hgrow.size;rw[xI]at h1;have:=HW1.out;omega);clear hown2 hgrow hat hlt2 hgb hi hz0 hz1 hz2;go_wp2_with fail;go_at_call 52;refine(HNC.out w2.heap.size 1 (Qoh s) t p _ HN.out HP2.out).mono ?_;rintro e w3⟨v,rfl,htr,hp3,ho3⟩;have HTR:=hQ htr;have HP3:=hQ hp3;have HA2:=hQ (show Below w.heap.size w (w2.alloc (.cells #[.slice (some ⟨g,0,none⟩) ((Qbp s).toks.length+1) cap,.int .i64 0,.int .i64 0,.int .i64 0] 90)) from HB2.out.alloc HB2.out.size _);have HB3:=hQ (HA2.out.trans (ho3.below (B:=w.heap.size) (by have:=HW2.out;omega) (by rw[xI];have:=HW2.out;omega)));have HG3:=hQ ((ho3.block w.heap.size (by rw[xI];have:=HW2.out;omega) (by have:=HW2.out;omega)).trans ((Below.heap_alloc _ _ _ (Qaa HG2.out)).trans HG2.out));have HW3:=hQ (show w2.heap.size+1<=w3.heap.size from by have:=ho3.size;rw[xI]at this;exact this);clear htr hp3 ho3;obtain⟨tb,off,c,hpa⟩:=HP3.out;have q2:w3.cell? ⟨w2.heap.size,2,none⟩=some (.int .i64 p.place):=hpa.c2;have q3:w3.cell? ⟨w2.heap.size,3,none⟩=some (.int .i64 p.e):=hpa.c3;have qe:=hpa.lt;clear hpa;have r0:w3.cell? ⟨w.heap.size,0,none⟩=some (.int .i64 0):=Qab HG3.out 0 _ rfl;have r1:w3.cell? ⟨w.heap.size,1,none⟩=some (.string ⟨#[]⟩):=Qab HG3.out 1 _ rfl;have r2:w3.cell? ⟨w.heap.size,2,none⟩=some (.slice none 0 0):=Qab HG3.out 2 _ rfl;have r3:w3.cell? ⟨w.heap.size,3,none⟩=some (.slice none 0 0):=Qab HG3.out 3 _ rfl;have rf:=xL HG3.out;have ne1:w.heap.size≠w2.heap.size:=by have:=HW2.out;omega
 by_cases hpe:p.e=0
 ·have hpe':((p.e:Int) != 0)=false:=by simp[hpe]
  have HPE:=hQ hpe;clear hpe;go_wp2_with fail;have hR:Rest (fun k=>k=w.heap.size) w3 ((((w3.setCell ⟨w.heap.size,0,none⟩ (.int .i64 v.kind)).setCell ⟨w.heap.size,1,none⟩ (.string v.text)).setCell ⟨w.heap.size,2,none⟩ (.slice v.la v.ll v.lc)).setCell ⟨w.heap.size,3,none⟩ (.slice v.ka v.kl v.kc)):=(((Rest.set1 _ _ _).trans (Rest.set1 _ _ _)).trans (Rest.set1 _ _ _)).trans (Rest.set1 _ _ _);have hB4:Below w.heap.size w ((((w3.setCell ⟨w.heap.size,0,none⟩ (.int .i64 v.kind)).setCell ⟨w.heap.size,1,none⟩ (.string v.text)).setCell ⟨w.heap.size,2,none⟩ (.slice v.la v.ll v.lc)).setCell ⟨w.heap.size,3,none⟩ (.slice v.ka v.kl v.kc)):=(((HB3.out.setCell (p:=⟨w.heap.size,0,none⟩) (xA _) _).setCell (p:=⟨w.heap.size,1,none⟩) (xA _) _).setCell (p:=⟨w.heap.size,2,none⟩) (xA _) _).setCell (p:=⟨w.heap.size,3,none⟩) (xA _) _;have g0:(w3.setCell ⟨w.heap.size,0,none⟩ (.int .i64 v.kind)).heap[w.heap.size]? = some (.cells #[.int .i64 v.kind,.string ⟨#[]⟩,.slice none 0 0,.slice none 0 0] 25 (0,0)):=Qa1 HG3.out rfl;have g1:((w3.setCell ⟨w.heap.size,0,none⟩ (.int .i64 v.kind)).setCell ⟨w.heap.size,1,none⟩ (.string v.text)).heap[w.heap.size]? = some (.cells #[.int .i64 v.kind,.string v.text,.slice none 0 0,.slice none 0 0] 25 (0,0)):=Qa1 g0 rfl;have g2:(((w3.setCell ⟨w.heap.size,0,none⟩ (.int .i64 v.kind)).setCell ⟨w.heap.size,1,none⟩ (.string v.text)).setCell ⟨w.heap.size,2,none⟩ (.slice v.la v.ll v.lc)).heap[w.heap.size]? = some (.cells #[.int .i64 v.kind,.string v.text,.slice v.la v.ll v.lc,.slice none 0 0] 25 (0,0)):=Qa1 g1 rfl;have g3:((((w3.setCell ⟨w.heap.size,0,none⟩ (.int .i64 v.kind)).setCell ⟨w.heap.size,1,none⟩ (.string v.text)).setCell ⟨w.heap.size,2,none⟩ (.slice v.la v.ll v.lc)).setCell ⟨w.heap.size,3,none⟩ (.slice v.ka v.kl v.kc)).heap[w.heap.size]? = some (.cells #[.int .i64 v.kind,.string v.text,.slice v.la v.ll v.lc,.slice v.ka v.kl v.kc] 25 (0,0)):=Qa1 g2 rfl;have ht4:TrAt (fun k=>w.heap.size+1<=k/\k<((((w3.setCell ⟨w.heap.size,0,none⟩ (.int .i64 v.kind)).setCell ⟨w.heap.size,1,none⟩ (.string v.text)).setCell ⟨w.heap.size,2,none⟩ (.slice v.la v.ll v.lc)).setCell ⟨w.heap.size,3,none⟩ (.slice v.ka v.kl v.kc)).heap.size) ((((w3.setCell ⟨w.heap.size,0,none⟩ (.int .i64 v.kind)).setCell ⟨w.heap.size,1,none⟩ (.string v.text)).setCell ⟨w.heap.size,2,none⟩ (.slice v.la v.ll v.lc)).setCell ⟨w.heap.size,3,none⟩ (.slice v.ka v.kl v.kc)) t v:=TrAt.move (fun k hk=>⟨by have:=hk.1;rw[xI]at this;have:=HW2.out;omega,xE hk.2 hR.size⟩) (fun k hk hlt=>hR.block k hlt (fun e:k=w.heap.size=>by have:=hk.1;rw[xI]at this;have:=HW2.out;omega)) _ _ HTR.out;have HR4:=hQ hR;have HB4:=hQ hB4;have HG4:=hQ g3;have HT4:=hQ ht4;clear hR hB4 g0 g1 g2 g3 ht4 r0 r1 r2 r3 rf;generalize ((((w3.setCell ⟨w.heap.size,0,none⟩ (.int .i64 v.kind)).setCell ⟨w.heap.size,1,none⟩ (.string v.text)).setCell ⟨w.heap.size,2,none⟩ (.slice v.la v.ll v.lc)).setCell ⟨w.heap.size,3,none⟩ (.slice v.ka v.kl v.kc))=W4 at HR4 HB4 HG4 HT4 |-;go_at_call 53;refine(Qxq 40 _ t v _ (by decide) HT4.out HSM.out).mono ?_;rintro e w5⟨rfl,hb5⟩;have HB5:=hQ hb5;have hg5:=(hb5.block w.heap.size (Qaa HG4.out)).trans HG4.out;have r0:w5.cell? ⟨w.heap.size,0,none⟩=some (.int .i64 v.kind):=Qab hg5 0 _ rfl;have r1:w5.cell? ⟨w.heap.size,1,none⟩=some (.string v.text):=Qab hg5 1 _ rfl;have r2:w5.cell? ⟨w.heap.size,2,none⟩=some (.slice v.la v.ll v.lc):=Qab hg5 2 _ rfl;have r3:w5.cell? ⟨w.heap.size,3,none⟩=some (.slice v.ka v.kl v.kc):=Qab hg5 3 _ rfl;have rf:=xL hg5;clear hb5 hg5 q2 q3 qe;have HBW:=hQ (yC HB4.out HB5.out)
  cases hwt:Qds t 40
  ·have HRR:=hQ (show r=(noTr,0,4) from by rw[HR.out,HPE.out,hwt];rfl);go_wp2;refine bodyPost_ret (v:=.tuple #[.agg #[.int .i64 0,.string ⟨#[]⟩,.slice none 0 0,.slice none 0 0],.int .i64 0,.int .i64 4]) (by simp[results,results26,go_sem, *]) rfl ?_;rw[HRR.out];exact⟨⟨0,⟨#[]⟩,none,0,0,none,0,0⟩,rfl,Qnc _ _,(((HBW.out.setCell (p:=⟨w.heap.size,0,none⟩) (xA _) _).setCell (p:=⟨w.heap.size,1,none⟩) (xA _) _).setCell (p:=⟨w.heap.size,2,none⟩) (xA _) _).setCell (p:=⟨w.heap.size,3,none⟩) (xA _) _⟩
  ·have HRR:=hQ (show r=(t,0,0) from by rw[HR.out,HPE.out,hwt];rfl);go_wp2;refine bodyPost_ret (v:=.tuple #[.agg #[.int .i64 v.kind,.string v.text,.slice v.la v.ll v.lc,.slice v.ka v.kl v.kc],.int .i64 0,.int .i64 0]) (by simp[results,results26,go_sem, *]) rfl ?_;rw[HRR.out];have hR5:=(((Rest.set1 (w:=w5) w.heap.size 0 (.int .i64 v.kind)).trans (Rest.set1 w.heap.size 1 (.string v.text))).trans (Rest.set1 w.heap.size 2 (.slice v.la v.ll v.lc))).trans (Rest.set1 w.heap.size 3 (.slice v.ka v.kl v.kc));exact⟨v,rfl,TrAt.move (fun k hk=>⟨by have:=hk.1;omega,xE hk.2 (xQ HB5.out.size hR5.size)⟩) (fun k hk hlt=>hR5.block k hlt (fun e:k=w.heap.size=>by have:=hk.1;omega)) _ _ (HT4.out.keep HB5.out),(((HBW.out.setCell (p:=⟨w.heap.size,0,none⟩) (xA _) _).setCell (p:=⟨w.heap.size,1,none⟩) (xA _) _).setCell (p:=⟨w.heap.size,2,none⟩) (xA _) _).setCell (p:=⟨w.heap.size,3,none⟩) (xA _) _⟩
 ·have hpe':((p.e:Int) != 0)=true:=by simp;omega
  have HRR:=hQ (show r=(noTr,p.place,p.e) from by rw[HR.out,xO hpe]);clear hpe;go_wp2_with fail;have hR:Rest (fun k=>k=w.heap.size) w3 ((((w3.setCell ⟨w.heap.size,0,none⟩ (.int .i64 v.kind)).setCell ⟨w.heap.size,1,none⟩ (.string v.text)).setCell ⟨w.heap.size,2,none⟩ (.slice v.la v.ll v.lc)).setCell ⟨w.heap.size,3,none⟩ (.slice v.ka v.kl v.kc)):=(((Rest.set1 _ _ _).trans (Rest.set1 _ _ _)).trans (Rest.set1 _ _ _)).trans (Rest.set1 _ _ _);have hB4:Below w.heap.size w ((((w3.setCell ⟨w.heap.size,0,none⟩ (.int .i64 v.kind)).setCell ⟨w.heap.size,1,none⟩ (.string v.text)).setCell ⟨w.heap.size,2,none⟩ (.slice v.la v.ll v.lc)).setCell ⟨w.heap.size,3,none⟩ (.slice v.ka v.kl v.kc)):=(((HB3.out.setCell (p:=⟨w.heap.size,0,none⟩) (xA _) _).setCell (p:=⟨w.heap.size,1,none⟩) (xA _) _).setCell (p:=⟨w.heap.size,2,none⟩) (xA _) _).setCell (p:=⟨w.heap.size,3,none⟩) (xA _) _;have g0:(w3.setCell ⟨w.heap.size,0,none⟩ (.int .i64 v.kind)).heap[w.heap.size]? = some (.cells #[.int .i64 v.kind,.string ⟨#[]⟩,.slice none 0 0,.slice none 0 0] 25 (0,0)):=Qa1 HG3.out rfl;have g1:((w3.setCell ⟨w.heap.size,0,none⟩ (.int .i64 v.kind)).setCell ⟨w.heap.size,1,none⟩ (.string v.text)).heap[w.heap.size]? = some (.cells #[.int .i64 v.kind,.string v.text,.slice none 0 0,.slice none 0 0] 25 (0,0)):=Qa1 g0 rfl;have g2:(((w3.setCell ⟨w.heap.size,0,none⟩ (.int .i64 v.kind)).setCell ⟨w.heap.size,1,none⟩ (.string v.text)).setCell ⟨w.heap.size,2,none⟩ (.slice v.la v.ll v.lc)).heap[w.heap.size]? = some (.cells #[.int .i64 v.kind,.string v.text,.slice v.la v.ll v.lc,.slice none 0 0] 25 (0,0)):=Qa1 g1 rfl;have g3:((((w3.setCell ⟨w.heap.size,0,none⟩ (.int .i64 v.kind)).setCell ⟨w.heap.size,1,none⟩ (.string v.text)).setCell ⟨w.heap.size,2,none⟩ (.slice v.la v.ll v.lc)).setCell ⟨w.heap.size,3,none⟩ (.slice v.ka v.kl v.kc)).heap[w.heap.size]? = some (.cells #[.int .i64 v.kind,.string v.text,.slice v.la v.ll v.lc,.slice v.ka v.kl v.kc] 25 (0,0)):=Qa1 g2 rfl;have ht4:TrAt (fun k=>w.heap.size+1<=k/\k<((((w3.setCell ⟨w.heap.size,0,none⟩ (.int .i64 v.kind)).setCell ⟨w.heap.size,1,none⟩ (.string v.text)).setCell ⟨w.heap.size,2,none⟩ (.slice v.la v.ll v.lc)).setCell ⟨w.heap.size,3,none⟩ (.slice v.ka v.kl v.kc)).heap.size) ((((w3.setCell ⟨w.heap.size,0,none⟩ (.int .i64 v.kind)).setCell ⟨w.heap.size,1,none⟩ (.string v.text)).setCell ⟨w.heap.size,2,none⟩ (.slice v.la v.ll v.lc)).setCell ⟨w.heap.size,3,none⟩ (.slice v.ka v.kl v.kc)) t v:=TrAt.move (fun k hk=>⟨by have:=hk.1;rw[xI]at this;have:=HW2.out;omega,xE hk.2 hR.size⟩) (fun k hk hlt=>hR.block k hlt (fun e:k=w.heap.size=>by have:=hk.1;rw[xI]at this;have:=HW2.out;omega)) _ _ HTR.out;have HR4:=hQ hR;have HB4:=hQ hB4;have HG4:=hQ g3;have HT4:=hQ ht4;clear hR hB4 g0 g1 g2 g3 ht4 r0 r1 r2 r3 rf;have p2:=(xJ (w:=w3) (a:=⟨w2.heap.size,2,none⟩) (HR4.out.block w2.heap.size qe (fun e:w2.heap.size=w.heap.size=>ne1 e.symm))).trans q2;have p3:=(xJ (w:=w3) (a:=⟨w2.heap.size,3,none⟩) (HR4.out.block w2.heap.size qe (fun e:w2.heap.size=w.heap.size=>ne1 e.symm))).trans q3;clear q2 q3 qe;generalize ((((w3.setCell ⟨w.heap.size,0,none⟩ (.int .i64 v.kind)).setCell ⟨w.heap.size,1,none⟩ (.string v.text)).setCell ⟨w.heap.size,2,none⟩ (.slice v.la v.ll v.lc)).setCell ⟨w.heap.size,3,none⟩ (.slice v.ka v.kl v.kc))=W4 at HR4 HB4 HG4 HT4 p2 p3 |-;have r0:W4.cell? ⟨w.heap.size,0,none⟩=some (.int .i64 v.kind):=Qab HG4.out 0 _ rfl;have r1:W4.cell? ⟨w.heap.size,1,none⟩=some (.string v.text):=Qab HG4.out 1 _ rfl;have r2:W4.cell? ⟨w.heap.size,2,none⟩=some (.slice v.la v.ll v.lc):=Qab HG4.out 2 _ rfl;have r3:W4.cell? ⟨w.heap.size,3,none⟩=some (.slice v.ka v.kl v.kc):=Qab HG4.out 3 _ rfl;have rf:=xL HG4.out
  go_region
  all_goals
   go_wp2;refine bodyPost_ret (v:=.tuple #[.agg #[.int .i64 0,.string ⟨#[]⟩,.slice none 0 0,.slice none 0 0],.int .i64 p.place,.int .i64 p.e]) (by simp[results,results26,go_sem, *]) rfl ?_;rw[HRR.out];exact⟨⟨0,⟨#[]⟩,none,0,0,none,0,0⟩,rfl,Qnc _ _,((((HB4.out.setCell (p:=⟨w.heap.size,0,none⟩) (xA _) _).setCell (p:=⟨w.heap.size,1,none⟩) (xA _) _).setCell (p:=⟨w.heap.size,2,none⟩) (xA _) _).setCell (p:=⟨w.heap.size,3,none⟩) (xA _) _).drew⟩
theorem Qru{n:Nat}(hn:n<=65536){s:yD}{r:Tr × Nat × Nat}(w:World)(hs:s.size<=maxLen)(h:Qho n s=some r):Calls prog 26 #[.string s] w (Qnb r w):=by
 by_cases he:(Qbp s).e=0
 ·exact Qxy hn w hs h he
 ·exact Zay w hs h he
def Qek(w:World)(b:Nat)(u:TV):World:=(((w.setCell ⟨b,0,none⟩ (.int .i64 u.kind)).setCell ⟨b,1,none⟩ (.string u.text)).setCell ⟨b,2,none⟩ (.slice u.la u.ll u.lc)).setCell ⟨b,3,none⟩ (.slice u.ka u.kl u.kc)
def trO(v:TV):Obj:=.cells #[.int .i64 v.kind,.string v.text,.slice v.la v.ll v.lc,.slice v.ka v.kl v.kc] 25
theorem Qf2{w:World}{b:Nat}{v:TV}(u:TV)(h:w.heap[b]? = some (trO v)):(Qek w b u).heap[b]? = some (trO u):=Qa1 (Qa1 (Qa1 (Qa1 h rfl) rfl) rfl) rfl
theorem Qb6(w:World)(b:Nat)(u:TV):Below b w (Qek w b u):=((((xC b w).setCell (p:=⟨b,0,none⟩) (xA _) _).setCell (p:=⟨b,1,none⟩) (xA _) _).setCell (p:=⟨b,2,none⟩) (xA _) _).setCell (p:=⟨b,3,none⟩) (xA _) _
mutual
def Qai:Tr->Nat
 | .mk _ _ _ ks=>1+Qal ks
def Qal:List Tr->Nat
 | []=>0
 | t :: r=>Qai t+Qal r
end
mutual
def Qex:Tr->Nat
 | .mk _ _ _ ks=>Qdo ks+1
def Qdo:List Tr->Nat
 | []=>0
 | t :: r=>max (Qex t) (Qdo r)
end
theorem Qa5(t:Tr):Qai t=1+Qal t.kids:=by cases t;rw[Qai];rfl
theorem Qnd(t:Tr):Qex t=Qdo t.kids+1:=by cases t;rw[Qex];rfl
theorem Qel:(a b:List Tr)->Qal (a ++ b)=Qal a+Qal b
 | [],b=>by rw[xU,Qal];omega
 | t :: r,b=>by rw[xV,Qal,Qal,Qel r b];omega
theorem Qkp:(a b:List Tr)->Qdo (a ++ b)=max (Qdo a) (Qdo b)
 | [],b=>by rw[xU,Qdo];omega
 | t :: r,b=>by rw[xV,Qdo,Qdo,Qkp r b];omega
theorem Qhr{α:Type}{l:List α}{j:Nat}{k:α}(h:l[j]? = some k):l.take (j+1)=l.take j ++ [k]:=by
 rw[List.take_add_one,h];rfl
theorem Qe9{l:List Tr}{j:Nat}{k:Tr}(h:l[j]? = some k):Qal (l.take (j+1))=Qal (l.take j)+Qai k:=by
 rw[Qhr h,Qel,Qal,Qal];omega
theorem Qt5{l:List Tr}{j:Nat}{k:Tr}(h:l[j]? = some k):Qdo (l.take (j+1))=max (Qdo (l.take j)) (Qex k):=by
 rw[Qhr h,Qkp,Qdo,Qdo];omega
theorem Qfh(l:List Tr)(j:Nat):Qal (l.take j)<=Qal l:=by
 conv=>rhs;rw[<-List.take_append_drop j l,Qel]
 omega
theorem Qbi{t k:Tr}{j:Nat}(h:t.kids[j]? = some k):Qai k<=Qai t:=by
 have h1:=Qe9 h;have h2:=Qfh t.kids (j+1);rw[Qa5 t];omega
mutual
theorem Qic:(t:Tr)->Qex t<=Qai t
 | .mk _ _ _ ks=>by rw[Qex,Qai];have:=Qhd ks;omega
theorem Qhd:(l:List Tr)->Qdo l<=Qal l
 | []=>by rw[Qdo];omega
 | t :: r=>by rw[Qdo,Qal];have:=Qic t;have:=Qhd r;omega
end
theorem Qa0:(l:List Tr)->l.length<=Qal l
 | []=>xZ _
 | t :: r=>by
  rw[Qal,xD,Qa5];have:=Qa0 r
  omega
theorem Qar{t k:Tr}{j:Nat}(h:t.kids[j]? = some k):SizeOf.sizeOf k<SizeOf.sizeOf t:=by
 cases t with
 | mk kd x ls ks =>
  have:=List.sizeOf_lt_of_mem (yA (show ks[j]? = some k from h))
  rw[Tr.mk.sizeOf_spec];omega
theorem Qf3(t:Tr):0<SizeOf.sizeOf t:=by cases t;rw[Tr.mk.sizeOf_spec];omega
def Zjm(f:List Tr->Nat)(t:Tr)(W:World)(n i:Value)(wr:World):Prop:=∃ j:Nat,i = .int .i64 j/\j<=t.kids.length/\n = .int .i64 (f (t.kids.take j):Nat)/\Below W.heap.size W wr
def Zlb(n m:Int):Int:=if n.tmod m<0 then n.tmod m+m else n.tmod m
theorem Zbh(n:Int){m:Int}(hm:0<m):0<=Zlb n m/\Zlb n m<m:=by
 have h1:=Int.tmod_lt_of_pos n hm;have h2:-m<n.tmod m:=Int.lt_tmod_of_pos n hm;unfold Zlb
 split <;> omega
theorem Zjy(n m:Int)(w:World)(hm:0<m)(hm2:m<=1000000):Calls prog 21 #[.int .i64 n,.int .i64 m] w fun e w'=>e = .returned (.int .i64 (Zlb n m))/\w=w':=by
 have h1:=Int.tmod_lt_of_pos n hm;have h2:-m<n.tmod m:=Int.lt_tmod_of_pos n hm;have HM:=hQ (show Zlb n m=if n.tmod m<0 then n.tmod m+m else n.tmod m from rfl);have h0:m≠0:=by omega
 have hb:=Qcr h0;by_cases h:n.tmod m<0
 all_goals
  go_enter func21,ntmps21;go_wp2;go_ret;exact⟨Qcl (by rw[HM.out];split <;> omega),rfl⟩
def Qbc(kids must n:Int):Int:=if kids=must then n else -1
def Qat(kind kids:Int):Int :=
 if kind=1 then (if 0<=kids then 3 else -1) else
 if kind=2 then (if 2<=kids then 6+max 0 (kids-3) else -1) else
 if kind=3 then (Qbc kids 1 3) else
 if kind=4 then (Qbc kids 1 2) else
 if kind=5 then (Qbc kids 0 1) else
 if kind=6 then (Qbc kids 0 1) else
 if kind=7 then (Qbc kids 0 1) else
 if kind=8 then (Qbc kids 1 2) else
 if kind=9 then (Qbc kids 0 1) else
 if kind=10 then (Qbc kids 0 1) else
 if kind=11 then (Qbc kids 0 1) else
 if kind=12 then (Qbc kids 0 1) else
 if kind=13 then (Qbc kids 0 1) else
 if kind=14 then (Qbc kids 0 1) else
 if kind=15 then (Qbc kids 0 1) else
 if kind=16 then (if 0<=kids then 3+max 0 (kids-1) else -1) else
 if kind=17 then (Qbc kids 1 0) else
 if kind=18 then (if 1<=kids then 1+kids else -1) else
 if kind=19 then (Qbc kids 3 3) else
 if kind=20 then (Qbc kids 2 4) else
 if kind=21 then (Qbc kids 2 1) else
 if kind=22 then (Qbc kids 1 2) else
 -1
theorem Qc8(kids must n:Int)(w:World):Calls prog 89 #[.int .i64 kids,.int .i64 must,.int .i64 n] w fun e w'=>e = .returned (.int .i64 (Qbc kids must n))/\w=w':=by
 by_cases h:kids=must
 ·have HR:=hQ (show Qbc kids must n=n from by unfold Qbc;rw[xO h]);subst h;go_enter func89,ntmps89;go_wp2;go_ret;rw[HR.out];exact⟨rfl,rfl⟩
 ·have HR:=hQ (show Qbc kids must n = -1 from by unfold Qbc;rw[xN h]);have h':=Qcr h;go_enter func89,ntmps89;go_wp2;go_ret;rw[HR.out];exact⟨rfl,rfl⟩
theorem Zgh(kids:Int)(w:World):Calls prog 57 #[.int .i64 3,.int .i64 kids] w fun e w'=>e = .returned (.int .i64 (Qat 3 kids))/\w=w':=by
 have HR:=hQ (show Qat 3 kids=Qbc kids 1 3 from rfl);go_enter func57,ntmps57;go_wp2_with (go_at_call 89;refine(Qc8 _ _ _ _).mono ?_;rintro e w'⟨rfl,rfl⟩)
 go_ret;rw[HR.out];exact⟨rfl,rfl⟩
theorem Zgi(kids:Int)(w:World):Calls prog 57 #[.int .i64 4,.int .i64 kids] w fun e w'=>e = .returned (.int .i64 (Qat 4 kids))/\w=w':=by
 have HR:=hQ (show Qat 4 kids=Qbc kids 1 2 from rfl);go_enter func57,ntmps57;go_wp2_with (go_at_call 89;refine(Qc8 _ _ _ _).mono ?_;rintro e w'⟨rfl,rfl⟩)
 go_ret;rw[HR.out];exact⟨rfl,rfl⟩
theorem Zgj(kids:Int)(w:World):Calls prog 57 #[.int .i64 5,.int .i64 kids] w fun e w'=>e = .returned (.int .i64 (Qat 5 kids))/\w=w':=by
 have HR:=hQ (show Qat 5 kids=Qbc kids 0 1 from rfl);go_enter func57,ntmps57;go_wp2_with (go_at_call 89;refine(Qc8 _ _ _ _).mono ?_;rintro e w'⟨rfl,rfl⟩)
 go_ret;rw[HR.out];exact⟨rfl,rfl⟩
theorem Zgk(kids:Int)(w:World):Calls prog 57 #[.int .i64 6,.int .i64 kids] w fun e w'=>e = .returned (.int .i64 (Qat 6 kids))/\w=w':=by
 have HR:=hQ (show Qat 6 kids=Qbc kids 0 1 from rfl);go_enter func57,ntmps57;go_wp2_with (go_at_call 89;refine(Qc8 _ _ _ _).mono ?_;rintro e w'⟨rfl,rfl⟩)
 go_ret;rw[HR.out];exact⟨rfl,rfl⟩
theorem Zgl(kids:Int)(w:World):Calls prog 57 #[.int .i64 7,.int .i64 kids] w fun e w'=>e = .returned (.int .i64 (Qat 7 kids))/\w=w':=by
 have HR:=hQ (show Qat 7 kids=Qbc kids 0 1 from rfl);go_enter func57,ntmps57;go_wp2_with (go_at_call 89;refine(Qc8 _ _ _ _).mono ?_;rintro e w'⟨rfl,rfl⟩)
 go_ret;rw[HR.out];exact⟨rfl,rfl⟩
theorem Zgm(kids:Int)(w:World):Calls prog 57 #[.int .i64 8,.int .i64 kids] w fun e w'=>e = .returned (.int .i64 (Qat 8 kids))/\w=w':=by
 have HR:=hQ (show Qat 8 kids=Qbc kids 1 2 from rfl);go_enter func57,ntmps57;go_wp2_with (go_at_call 89;refine(Qc8 _ _ _ _).mono ?_;rintro e w'⟨rfl,rfl⟩)
 go_ret;rw[HR.out];exact⟨rfl,rfl⟩
theorem Zgn(kids:Int)(w:World):Calls prog 57 #[.int .i64 9,.int .i64 kids] w fun e w'=>e = .returned (.int .i64 (Qat 9 kids))/\w=w':=by
 have HR:=hQ (show Qat 9 kids=Qbc kids 0 1 from rfl);go_enter func57,ntmps57;go_wp2_with (go_at_call 89;refine(Qc8 _ _ _ _).mono ?_;rintro e w'⟨rfl,rfl⟩)
 go_ret;rw[HR.out];exact⟨rfl,rfl⟩
theorem Zbi(kids:Int)(w:World):Calls prog 57 #[.int .i64 10,.int .i64 kids] w fun e w'=>e = .returned (.int .i64 (Qat 10 kids))/\w=w':=by
 have HR:=hQ (show Qat 10 kids=Qbc kids 0 1 from rfl);go_enter func57,ntmps57;go_wp2_with (go_at_call 89;refine(Qc8 _ _ _ _).mono ?_;rintro e w'⟨rfl,rfl⟩)
 go_ret;rw[HR.out];exact⟨rfl,rfl⟩
theorem Zbj(kids:Int)(w:World):Calls prog 57 #[.int .i64 11,.int .i64 kids] w fun e w'=>e = .returned (.int .i64 (Qat 11 kids))/\w=w':=by
 have HR:=hQ (show Qat 11 kids=Qbc kids 0 1 from rfl);go_enter func57,ntmps57;go_wp2_with (go_at_call 89;refine(Qc8 _ _ _ _).mono ?_;rintro e w'⟨rfl,rfl⟩)
 go_ret;rw[HR.out];exact⟨rfl,rfl⟩
theorem Zbk(kids:Int)(w:World):Calls prog 57 #[.int .i64 12,.int .i64 kids] w fun e w'=>e = .returned (.int .i64 (Qat 12 kids))/\w=w':=by
 have HR:=hQ (show Qat 12 kids=Qbc kids 0 1 from rfl);go_enter func57,ntmps57;go_wp2_with (go_at_call 89;refine(Qc8 _ _ _ _).mono ?_;rintro e w'⟨rfl,rfl⟩)
 go_ret;rw[HR.out];exact⟨rfl,rfl⟩
theorem Zbl(kids:Int)(w:World):Calls prog 57 #[.int .i64 13,.int .i64 kids] w fun e w'=>e = .returned (.int .i64 (Qat 13 kids))/\w=w':=by
 have HR:=hQ (show Qat 13 kids=Qbc kids 0 1 from rfl);go_enter func57,ntmps57;go_wp2_with (go_at_call 89;refine(Qc8 _ _ _ _).mono ?_;rintro e w'⟨rfl,rfl⟩)
 go_ret;rw[HR.out];exact⟨rfl,rfl⟩
theorem Zbm(kids:Int)(w:World):Calls prog 57 #[.int .i64 14,.int .i64 kids] w fun e w'=>e = .returned (.int .i64 (Qat 14 kids))/\w=w':=by
 have HR:=hQ (show Qat 14 kids=Qbc kids 0 1 from rfl);go_enter func57,ntmps57;go_wp2_with (go_at_call 89;refine(Qc8 _ _ _ _).mono ?_;rintro e w'⟨rfl,rfl⟩)
 go_ret;rw[HR.out];exact⟨rfl,rfl⟩
theorem Zbn(kids:Int)(w:World):Calls prog 57 #[.int .i64 15,.int .i64 kids] w fun e w'=>e = .returned (.int .i64 (Qat 15 kids))/\w=w':=by
 have HR:=hQ (show Qat 15 kids=Qbc kids 0 1 from rfl);go_enter func57,ntmps57;go_wp2_with (go_at_call 89;refine(Qc8 _ _ _ _).mono ?_;rintro e w'⟨rfl,rfl⟩)
 go_ret;rw[HR.out];exact⟨rfl,rfl⟩
theorem Zbo(kids:Int)(w:World):Calls prog 57 #[.int .i64 17,.int .i64 kids] w fun e w'=>e = .returned (.int .i64 (Qat 17 kids))/\w=w':=by
 have HR:=hQ (show Qat 17 kids=Qbc kids 1 0 from rfl);go_enter func57,ntmps57;go_wp2_with (go_at_call 89;refine(Qc8 _ _ _ _).mono ?_;rintro e w'⟨rfl,rfl⟩)
 go_ret;rw[HR.out];exact⟨rfl,rfl⟩
theorem Zbp(kids:Int)(w:World):Calls prog 57 #[.int .i64 19,.int .i64 kids] w fun e w'=>e = .returned (.int .i64 (Qat 19 kids))/\w=w':=by
 have HR:=hQ (show Qat 19 kids=Qbc kids 3 3 from rfl);go_enter func57,ntmps57;go_wp2_with (go_at_call 89;refine(Qc8 _ _ _ _).mono ?_;rintro e w'⟨rfl,rfl⟩)
 go_ret;rw[HR.out];exact⟨rfl,rfl⟩
theorem Zbq(kids:Int)(w:World):Calls prog 57 #[.int .i64 20,.int .i64 kids] w fun e w'=>e = .returned (.int .i64 (Qat 20 kids))/\w=w':=by
 have HR:=hQ (show Qat 20 kids=Qbc kids 2 4 from rfl);go_enter func57,ntmps57;go_wp2_with (go_at_call 89;refine(Qc8 _ _ _ _).mono ?_;rintro e w'⟨rfl,rfl⟩)
 go_ret;rw[HR.out];exact⟨rfl,rfl⟩
theorem Zbr(kids:Int)(w:World):Calls prog 57 #[.int .i64 21,.int .i64 kids] w fun e w'=>e = .returned (.int .i64 (Qat 21 kids))/\w=w':=by
 have HR:=hQ (show Qat 21 kids=Qbc kids 2 1 from rfl);go_enter func57,ntmps57;go_wp2_with (go_at_call 89;refine(Qc8 _ _ _ _).mono ?_;rintro e w'⟨rfl,rfl⟩)
 go_ret;rw[HR.out];exact⟨rfl,rfl⟩
theorem Zbs(kids:Int)(w:World):Calls prog 57 #[.int .i64 22,.int .i64 kids] w fun e w'=>e = .returned (.int .i64 (Qat 22 kids))/\w=w':=by
 have HR:=hQ (show Qat 22 kids=Qbc kids 1 2 from rfl);go_enter func57,ntmps57;go_wp2_with (go_at_call 89;refine(Qc8 _ _ _ _).mono ?_;rintro e w'⟨rfl,rfl⟩)
 go_ret;rw[HR.out];exact⟨rfl,rfl⟩
theorem Zgo(kids:Int)(w:World)(_hk:kids<=1000):Calls prog 57 #[.int .i64 1,.int .i64 kids] w fun e w'=>e = .returned (.int .i64 (Qat 1 kids))/\w=w':=by
 by_cases h:0<=kids
 ·have HR:=hQ (show Qat 1 kids=3 from by show(if 0<=kids then 3 else -1)=_;rw[xO h]);go_enter func57,ntmps57;go_wp2;go_ret;rw[HR.out];exact⟨Qcl (by omega),rfl⟩
 ·have HR:=hQ (show Qat 1 kids = -1 from by show(if 0<=kids then 3 else -1)=_;rw[xN h]);have hd:=xR h;go_enter func57,ntmps57;go_wp2;go_ret;rw[HR.out];exact⟨rfl,rfl⟩
theorem Zgp(kids:Int)(w:World)(hk:kids<=1000):Calls prog 57 #[.int .i64 2,.int .i64 kids] w fun e w'=>e = .returned (.int .i64 (Qat 2 kids))/\w=w':=by
 by_cases h:2<=kids
 ·have HR:=hQ (show Qat 2 kids=6+max 0 (kids-3) from by show(if 2<=kids then 6+max 0 (kids-3) else -1)=_;rw[xO h]);go_enter func57,ntmps57;go_wp2;go_ret;rw[HR.out];exact⟨Qcl (by omega),rfl⟩
 ·have HR:=hQ (show Qat 2 kids = -1 from by show(if 2<=kids then 6+max 0 (kids-3) else -1)=_;rw[xN h]);have hd:=xR h;go_enter func57,ntmps57;go_wp2;go_ret;rw[HR.out];exact⟨rfl,rfl⟩
theorem Zbt(kids:Int)(w:World)(hk:kids<=1000):Calls prog 57 #[.int .i64 16,.int .i64 kids] w fun e w'=>e = .returned (.int .i64 (Qat 16 kids))/\w=w':=by
 by_cases h:0<=kids
 ·have HR:=hQ (show Qat 16 kids=3+max 0 (kids-1) from by show(if 0<=kids then 3+max 0 (kids-1) else -1)=_;rw[xO h]);go_enter func57,ntmps57;go_wp2;go_ret;rw[HR.out];exact⟨Qcl (by omega),rfl⟩
 ·have HR:=hQ (show Qat 16 kids = -1 from by show(if 0<=kids then 3+max 0 (kids-1) else -1)=_;rw[xN h]);have hd:=xR h;go_enter func57,ntmps57;go_wp2;go_ret;rw[HR.out];exact⟨rfl,rfl⟩
theorem Zbu(kids:Int)(w:World)(hk:kids<=1000):Calls prog 57 #[.int .i64 18,.int .i64 kids] w fun e w'=>e = .returned (.int .i64 (Qat 18 kids))/\w=w':=by
 by_cases h:1<=kids
 ·have HR:=hQ (show Qat 18 kids=1+kids from by show(if 1<=kids then 1+kids else -1)=_;rw[xO h]);go_enter func57,ntmps57;go_wp2;go_ret;rw[HR.out];exact⟨Qcl (by omega),rfl⟩
 ·have HR:=hQ (show Qat 18 kids = -1 from by show(if 1<=kids then 1+kids else -1)=_;rw[xN h]);have hd:=xR h;go_enter func57,ntmps57;go_wp2;go_ret;rw[HR.out];exact⟨rfl,rfl⟩
theorem Que(kind kids:Int)(w:World)(h:kind<=0\/23<=kind):Calls prog 57 #[.int .i64 kind,.int .i64 kids] w fun e w'=>e = .returned (.int .i64 (Qat kind kids))/\w=w':=by
 have HR:=hQ (show Qat kind kids = -1 from by unfold Qat;simp only[show kind≠1 from by omega,show kind≠2 from by omega,show kind≠3 from by omega,show kind≠4 from by omega,show kind≠5 from by omega,show kind≠6 from by omega,show kind≠7 from by omega,show kind≠8 from by omega,show kind≠9 from by omega,show kind≠10 from by omega,show kind≠11 from by omega,show kind≠12 from by omega,show kind≠13 from by omega,show kind≠14 from by omega,show kind≠15 from by omega,show kind≠16 from by omega,show kind≠17 from by omega,show kind≠18 from by omega,show kind≠19 from by omega,show kind≠20 from by omega,show kind≠21 from by omega,show kind≠22 from by omega,if_false]);have e1:=Qcr (show kind≠1 from by omega);have e2:=Qcr (show kind≠2 from by omega);have e3:=Qcr (show kind≠3 from by omega);have e4:=Qcr (show kind≠4 from by omega);have e5:=Qcr (show kind≠5 from by omega);have e6:=Qcr (show kind≠6 from by omega);have e7:=Qcr (show kind≠7 from by omega);have e8:=Qcr (show kind≠8 from by omega);have e9:=Qcr (show kind≠9 from by omega);have e10:=Qcr (show kind≠10 from by omega);have e11:=Qcr (show kind≠11 from by omega);have e12:=Qcr (show kind≠12 from by omega);have e13:=Qcr (show kind≠13 from by omega);have e14:=Qcr (show kind≠14 from by omega);have e15:=Qcr (show kind≠15 from by omega);have e16:=Qcr (show kind≠16 from by omega);have e17:=Qcr (show kind≠17 from by omega);have e18:=Qcr (show kind≠18 from by omega);have e19:=Qcr (show kind≠19 from by omega);have e20:=Qcr (show kind≠20 from by omega);have e21:=Qcr (show kind≠21 from by omega);have e22:=Qcr (show kind≠22 from by omega);clear h;go_enter func57,ntmps57;go_wp2;go_ret;rw[HR.out];exact⟨rfl,rfl⟩
theorem Qhs(kind kids:Int)(w:World)(hk:kids<=1000):Calls prog 57 #[.int .i64 kind,.int .i64 kids] w fun e w'=>e = .returned (.int .i64 (Qat kind kids))/\w=w':=by
 by_cases h:kind<=0\/23<=kind
 ·exact Que kind kids w h
 ·rcases(show kind=1\/kind=2\/kind=3\/kind=4\/kind=5\/kind=6\/kind=7\/kind=8\/kind=9\/kind=10\/kind=11\/kind=12\/kind=13\/kind=14\/kind=15\/kind=16\/kind=17\/kind=18\/kind=19\/kind=20\/kind=21\/kind=22 from by omega) with rfl | rfl | rfl | rfl | rfl | rfl | rfl | rfl | rfl | rfl | rfl | rfl | rfl | rfl | rfl | rfl | rfl | rfl | rfl | rfl | rfl | rfl
  ·exact Zgo kids w hk
  ·exact Zgp kids w hk
  ·exact Zgh kids w
  ·exact Zgi kids w
  ·exact Zgj kids w
  ·exact Zgk kids w
  ·exact Zgl kids w
  ·exact Zgm kids w
  ·exact Zgn kids w
  ·exact Zbi kids w
  ·exact Zbj kids w
  ·exact Zbk kids w
  ·exact Zbl kids w
  ·exact Zbm kids w
  ·exact Zbn kids w
  ·exact Zbt kids w hk
  ·exact Zbo kids w
  ·exact Zbu kids w hk
  ·exact Zbp kids w
  ·exact Zbq kids w
  ·exact Zbr kids w
  ·exact Zbs kids w
theorem Qbf{kind a b o tk:Int}{cm:Bool}(kids:Int)(hl:Qae kind≠[])(h1:∀ k,(Qea (Qae kind) 0 0 k).1=a)(h2:∀ k,(Qea (Qae kind) 0 0 k).2.1=b)(ho:(Qqg (Qae kind):Int)=o)(ht:(Qcn (Qae kind):Int)=tk)(hc:∀ n,Qiu (Qae kind) n=if cm=true/\1<n then n-1 else 0) :
  Ql5 kind kids=if 0<=kids/\a<=kids-o/\kids-o<=b then tk+(if cm=true/\1<kids-o then kids-o-1 else 0) else -1:=by
 by_cases h0:kids<0
 ·have hf:Qca (Qae kind) kids=(0,false):=by
   unfold Qca;rw[xO (Or.inr h0)]
  unfold Ql5;rw[hf,xN (by decide),xN (fun h=>by omega)]
 ·have hf:Qca (Qae kind) kids=(kids-o,decide (a<=kids-o) && decide (kids-o<=b)):=by
   unfold Qca;rw[xN (fun h=>by rcases h with h | h;exact hl h;exact h0 h),Qlj,h1,h2,ho]
  unfold Ql5;rw[hf,ht];dsimp only
  rw[hc]
  by_cases h3:a<=kids-o/\kids-o<=b
  ·rw[xS h3.1,xS h3.2,xO (show(true && true)=true from rfl),xO (show 0<=kids/\a<=kids-o/\kids-o<=b from⟨by omega,h3⟩)]
  ·rw[xN (fun h=>by simp only[Bool.and_eq_true,decide_eq_true_eq]at h;exact h3 h),xN (fun h=>h3 h.2)]
theorem Qvv(kind kids:Int)(hk:kids<=1000):Ql5 kind kids=Qat kind kids:=by
 by_cases h:kind<=0\/23<=kind
 ·unfold Ql5;rw[Qd0 h];unfold Qat;simp only[show kind≠1 from by omega,show kind≠2 from by omega,show kind≠3 from by omega,show kind≠4 from by omega,show kind≠5 from by omega,show kind≠6 from by omega,show kind≠7 from by omega,show kind≠8 from by omega,show kind≠9 from by omega,show kind≠10 from by omega,show kind≠11 from by omega,show kind≠12 from by omega,show kind≠13 from by omega,show kind≠14 from by omega,show kind≠15 from by omega,show kind≠16 from by omega,show kind≠17 from by omega,show kind≠18 from by omega,show kind≠19 from by omega,show kind≠20 from by omega,show kind≠21 from by omega,show kind≠22 from by omega,if_false];rfl
 ·rcases(show kind=1\/kind=2\/kind=3\/kind=4\/kind=5\/kind=6\/kind=7\/kind=8\/kind=9\/kind=10\/kind=11\/kind=12\/kind=13\/kind=14\/kind=15\/kind=16\/kind=17\/kind=18\/kind=19\/kind=20\/kind=21\/kind=22 from by omega) with rfl | rfl | rfl | rfl | rfl | rfl | rfl | rfl | rfl | rfl | rfl | rfl | rfl | rfl | rfl | rfl | rfl | rfl | rfl | rfl | rfl | rfl
  ·rw[Qbf (a:=0) (b:=9223372036854775807) (o:=0) (tk:=3) (cm:=false) kids (by decide) (fun _=>rfl) (fun _=>rfl) rfl rfl (fun n=>rfl)];show _=(if 0<=kids then 3 else -1)
   repeat' split
   all_goals first | rfl | omega | (exfalso;omega) | (simp at * <;> omega)
  ·rw[Qbf (a:=0) (b:=9223372036854775807) (o:=2) (tk:=6) (cm:=true) kids (by decide) (fun _=>rfl) (fun _=>rfl) rfl rfl (fun n=>by simp[Qae,Qiu,Qcy,Qfc,Qli,Qgq])];show _=(if 2<=kids then 6+max 0 (kids-3) else -1)
   rw[Int.max_def]
   repeat' split
   all_goals first | rfl | omega | (exfalso;omega) | (simp at * <;> omega)
  ·rw[Qbf (a:=0) (b:=0) (o:=1) (tk:=3) (cm:=false) kids (by decide) (fun _=>rfl) (fun _=>rfl) rfl rfl (fun n=>rfl)];show _=(Qbc kids 1 3)
   unfold Qbc
   repeat' split
   all_goals first | rfl | omega | (exfalso;omega) | (simp at * <;> omega)
  ·rw[Qbf (a:=0) (b:=0) (o:=1) (tk:=2) (cm:=false) kids (by decide) (fun _=>rfl) (fun _=>rfl) rfl rfl (fun n=>rfl)];show _=(Qbc kids 1 2)
   unfold Qbc
   repeat' split
   all_goals first | rfl | omega | (exfalso;omega) | (simp at * <;> omega)
  ·rw[Qbf (a:=0) (b:=0) (o:=0) (tk:=1) (cm:=false) kids (by decide) (fun _=>rfl) (fun _=>rfl) rfl rfl (fun n=>rfl)];show _=(Qbc kids 0 1)
   unfold Qbc
   repeat' split
   all_goals first | rfl | omega | (exfalso;omega) | (simp at * <;> omega)
  ·rw[Qbf (a:=0) (b:=0) (o:=0) (tk:=1) (cm:=false) kids (by decide) (fun _=>rfl) (fun _=>rfl) rfl rfl (fun n=>rfl)];show _=(Qbc kids 0 1)
   unfold Qbc
   repeat' split
   all_goals first | rfl | omega | (exfalso;omega) | (simp at * <;> omega)
  ·rw[Qbf (a:=0) (b:=0) (o:=0) (tk:=1) (cm:=false) kids (by decide) (fun _=>rfl) (fun _=>rfl) rfl rfl (fun n=>rfl)];show _=(Qbc kids 0 1)
   unfold Qbc
   repeat' split
   all_goals first | rfl | omega | (exfalso;omega) | (simp at * <;> omega)
  ·rw[Qbf (a:=0) (b:=0) (o:=1) (tk:=2) (cm:=false) kids (by decide) (fun _=>rfl) (fun _=>rfl) rfl rfl (fun n=>rfl)];show _=(Qbc kids 1 2)
   unfold Qbc
   repeat' split
   all_goals first | rfl | omega | (exfalso;omega) | (simp at * <;> omega)
  ·rw[Qbf (a:=0) (b:=0) (o:=0) (tk:=1) (cm:=false) kids (by decide) (fun _=>rfl) (fun _=>rfl) rfl rfl (fun n=>rfl)];show _=(Qbc kids 0 1)
   unfold Qbc
   repeat' split
   all_goals first | rfl | omega | (exfalso;omega) | (simp at * <;> omega)
  ·rw[Qbf (a:=0) (b:=0) (o:=0) (tk:=1) (cm:=false) kids (by decide) (fun _=>rfl) (fun _=>rfl) rfl rfl (fun n=>rfl)];show _=(Qbc kids 0 1)
   unfold Qbc
   repeat' split
   all_goals first | rfl | omega | (exfalso;omega) | (simp at * <;> omega)
  ·rw[Qbf (a:=0) (b:=0) (o:=0) (tk:=1) (cm:=false) kids (by decide) (fun _=>rfl) (fun _=>rfl) rfl rfl (fun n=>rfl)];show _=(Qbc kids 0 1)
   unfold Qbc
   repeat' split
   all_goals first | rfl | omega | (exfalso;omega) | (simp at * <;> omega)
  ·rw[Qbf (a:=0) (b:=0) (o:=0) (tk:=1) (cm:=false) kids (by decide) (fun _=>rfl) (fun _=>rfl) rfl rfl (fun n=>rfl)];show _=(Qbc kids 0 1)
   unfold Qbc
   repeat' split
   all_goals first | rfl | omega | (exfalso;omega) | (simp at * <;> omega)
  ·rw[Qbf (a:=0) (b:=0) (o:=0) (tk:=1) (cm:=false) kids (by decide) (fun _=>rfl) (fun _=>rfl) rfl rfl (fun n=>rfl)];show _=(Qbc kids 0 1)
   unfold Qbc
   repeat' split
   all_goals first | rfl | omega | (exfalso;omega) | (simp at * <;> omega)
  ·rw[Qbf (a:=0) (b:=0) (o:=0) (tk:=1) (cm:=false) kids (by decide) (fun _=>rfl) (fun _=>rfl) rfl rfl (fun n=>rfl)];show _=(Qbc kids 0 1)
   unfold Qbc
   repeat' split
   all_goals first | rfl | omega | (exfalso;omega) | (simp at * <;> omega)
  ·rw[Qbf (a:=0) (b:=0) (o:=0) (tk:=1) (cm:=false) kids (by decide) (fun _=>rfl) (fun _=>rfl) rfl rfl (fun n=>rfl)];show _=(Qbc kids 0 1)
   unfold Qbc
   repeat' split
   all_goals first | rfl | omega | (exfalso;omega) | (simp at * <;> omega)
  ·rw[Qbf (a:=0) (b:=9223372036854775807) (o:=0) (tk:=3) (cm:=true) kids (by decide) (fun _=>rfl) (fun _=>rfl) rfl rfl (fun n=>by simp[Qae,Qiu,Qcy,Qfc,Qgq])];show _=(if 0<=kids then 3+max 0 (kids-1) else -1)
   rw[Int.max_def]
   repeat' split
   all_goals first | rfl | omega | (exfalso;omega) | (simp at * <;> omega)
  ·rw[Qbf (a:=0) (b:=0) (o:=1) (tk:=0) (cm:=false) kids (by decide) (fun _=>rfl) (fun _=>rfl) rfl rfl (fun n=>rfl)];show _=(Qbc kids 1 0)
   unfold Qbc
   repeat' split
   all_goals first | rfl | omega | (exfalso;omega) | (simp at * <;> omega)
  ·rw[Qbf (a:=1) (b:=9223372036854775807) (o:=0) (tk:=2) (cm:=true) kids (by decide) (fun _=>rfl) (fun _=>rfl) rfl rfl (fun n=>by simp[Qae,Qiu,Qcy,Qgq])];show _=(if 1<=kids then 1+kids else -1)
   repeat' split
   all_goals first | rfl | omega | (exfalso;omega) | (simp at * <;> omega)
  ·rw[Qbf (a:=0) (b:=0) (o:=3) (tk:=3) (cm:=false) kids (by decide) (fun _=>rfl) (fun _=>rfl) rfl rfl (fun n=>rfl)];show _=(Qbc kids 3 3)
   unfold Qbc
   repeat' split
   all_goals first | rfl | omega | (exfalso;omega) | (simp at * <;> omega)
  ·rw[Qbf (a:=0) (b:=0) (o:=2) (tk:=4) (cm:=false) kids (by decide) (fun _=>rfl) (fun _=>rfl) rfl rfl (fun n=>rfl)];show _=(Qbc kids 2 4)
   unfold Qbc
   repeat' split
   all_goals first | rfl | omega | (exfalso;omega) | (simp at * <;> omega)
  ·rw[Qbf (a:=0) (b:=0) (o:=2) (tk:=1) (cm:=false) kids (by decide) (fun _=>rfl) (fun _=>rfl) rfl rfl (fun n=>rfl)];show _=(Qbc kids 2 1)
   unfold Qbc
   repeat' split
   all_goals first | rfl | omega | (exfalso;omega) | (simp at * <;> omega)
  ·rw[Qbf (a:=0) (b:=0) (o:=1) (tk:=2) (cm:=false) kids (by decide) (fun _=>rfl) (fun _=>rfl) rfl rfl (fun n=>rfl)];show _=(Qbc kids 1 2)
   unfold Qbc
   repeat' split
   all_goals first | rfl | omega | (exfalso;omega) | (simp at * <;> omega)
end Go.Proofs.YtfjpemdejoejbaaGreat
