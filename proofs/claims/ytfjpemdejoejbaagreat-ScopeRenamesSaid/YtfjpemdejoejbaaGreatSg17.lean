/- Part 17 -/
import Derived.Test.YtfjpemdejoejbaaGreatSg16
import Derived.Shelf.RegionOpenPlain
import Derived.Lib.Strings
import Derived.Lib.Slices
import Derived.Lib.Walk
import Derived.Lib.Builder
import Derived.Lib.AppendStr
import Derived.Lib.UnsafeStr
import Derived.Laws.Externs
import Derived.Laws.IdiomCopy
import Derived.Laws.BitsLemmas
set_option maxRecDepth 100000
set_option maxHeartbeats 4000000
namespace Go.Proofs.YtfjpemdejoejbaaGreat
open Go.RowKit
def Qlu (kd:Int):Nat→List ByteArray→Bool
 | _,[]=>true
 | i,y :: r=>Qf4 y (kd==1 && (i:Int)==2) && Qlu kd (i+1) r
mutual
def Qjs:Tr→Bool
 | .mk kd _ ls ks=>((ls.length:Int)==Qla kd ks.length) && Qlu kd 0 ls && Qrx ks
def Qrx:List Tr→Bool
 | []=>true
 | k :: r=>Qjs k && Qrx r
end
theorem Zf2 (t:Tr):Qjs t=(((t.leads.length:Int)==Qla t.kind t.kids.length) && Qlu t.kind 0 t.leads && Qrx t.kids):=by
 cases t with
 | mk kd x ls ks=>rw [Qjs];rfl
theorem Zcx (kd:Int) (l:List ByteArray) (i:Nat) (y:ByteArray) (hy:l[i]? = some y):Qlu kd i (l.drop i)=(Qf4 y (kd==1 && (i:Int)==2) && Qlu kd (i+1) (l.drop (i+1))):=by
 obtain ⟨hi,he⟩:=xP.1 hy;rw [List.drop_eq_getElem_cons hi,he,Qlu]
theorem Qy1 (kd:Int) (l:List ByteArray) (i:Nat) (h:l.length≤i):Qlu kd i (l.drop i)=true:=by
 rw [List.drop_eq_nil_of_le h,Qlu]
theorem Zf3 (l:List Tr) (j:Nat) (k:Tr) (hk:l[j]? = some k):Qrx (l.drop j)=(Qjs k && Qrx (l.drop (j+1))):=by
 obtain ⟨hj,he⟩:=xP.1 hk;rw [List.drop_eq_getElem_cons hj,he,Qrx]
theorem Zcy (l:List Tr) (j:Nat) (h:l.length≤j):Qrx (l.drop j)=true:=by
 rw [List.drop_eq_nil_of_le h,Qrx]
theorem TrAt.laddr {S:Nat→Prop} {w:World} {t:Tr} {v:TV} (h:TrAt S w t v):t.leads.length=0∨∃ b off,v.la=some ⟨b,off,none⟩:=by
 cases t with
 | mk kd tx ls ks =>
  unfold TrAt at h;cases ls with
  | nil=>exact .inl rfl
  | cons a r =>
   obtain ⟨b,off,hA,_⟩:=h.2.2.2.2.1 (by simp);exact .inr ⟨b,off,hA⟩
theorem TrAt.lat {S:Nat→Prop} {w:World} {t:Tr} {v:TV} {b off:Nat} (h:TrAt S w t v) (hA:v.la=some ⟨b,off,none⟩) {i:Nat} {y:ByteArray} (hy:t.leads[i]? = some y):w.cell? ⟨b,off+i,none⟩=some (.string y):=by
 cases t with
 | mk kd tx ls ks =>
  unfold TrAt at h;obtain ⟨b',off',hA',_,hc⟩:=h.2.2.2.2.1 (by intro e;rw [show (Tr.mk kd tx ls ks).leads=ls from rfl,e] at hy;simp at hy);rw [hA] at hA';injection hA' with e;injection e with e1 e2 _;subst e1 e2;exact hc i y hy
def Qwa (last lead text:ByteArray):ByteArray:=if lead.size=0∧Qf6 last text=true then ⟨#[32]⟩ else lead
def Zcz (s:List UInt8 × ByteArray) (lead text:ByteArray):List UInt8 × ByteArray:=(s.1 ++ (Qwa s.2 lead text).data.toList ++ text.data.toList,text)
theorem Qmg {x:ByteArray} (h:x.size=0):x=⟨#[]⟩:=by
 obtain ⟨d⟩:=x;have:d.size=0:=h
 rw [Array.eq_empty_of_size_eq_zero this]
abbrev Qbl:=ByteArray × ByteArray
def Qht (s:List UInt8 × ByteArray) (ps:List Qbl):List UInt8 × ByteArray:=ps.foldl (fun s p=>Zcz s p.1 p.2) s
def Qgj:List Qbl→Nat
 | []=>0
 | p :: r=>p.1.size+p.2.size+1+Qgj r
theorem Qld (a c:List Qbl):Qgj (a ++ c)=Qgj a+Qgj c:=by
 induction a with
 | nil=>simp [Qgj]
 | cons p r ih=>rw [xV,Qgj,Qgj,ih];omega
theorem Qqd (s:List UInt8 × ByteArray) (a c:List Qbl):Qht s (a ++ c)=Qht (Qht s a) c:=List.foldl_append
theorem Qy2 (s:List UInt8 × ByteArray) (p:Qbl):Qht s [p] = Zcz s p.1 p.2:=rfl
theorem Zf4 (a l x:ByteArray):(Qwa a l x).size≤l.size+1:=by
 unfold Qwa
 split
 ·rename_i h
  rw [h.1];exact xA 1
 ·omega
theorem Zc0 (ps:List Qbl):∀ s,(Qht s ps).1.length≤s.1.length+Qgj ps:=by
 induction ps with
 | nil=>intro s;exact xA _
 | cons p r ih =>
  intro s;have h1:=ih (Zcz s p.1 p.2);have h2:=Zf4 s.2 p.1 p.2;have e1:(Qwa s.2 p.1 p.2).data.size=(Qwa s.2 p.1 p.2).size:=rfl;have e2:p.2.data.size=p.2.size:=rfl;have h3:(Zcz s p.1 p.2).1.length=s.1.length+(Qwa s.2 p.1 p.2).data.size+p.2.data.size:=by unfold Zcz;simp only [xB,Array.length_toList]
  show (Qht (Zcz s p.1 p.2) r).1.length≤_
  rw [Qgj];omega
def Qa9 (co:Bool) (cs:List ByteArray):Nat→List (List Qbl)→List Qbl
 | _,[]=>[]
 | i,p :: r=>(if 0<i∧co=true then [((cs[i-1]?).getD ⟨#[]⟩,⟨#[44]⟩)] else []) ++ p ++ Qa9 co cs (i+1) r
def Qbr (n:Int) (tx:ByteArray) (cs:List ByteArray):List Part→List ByteArray→List (List Qbl)→List Qbl
 | [],_,_=>[]
 | x :: r,ls,ks=>if x.kids≠0 then Qa9 x.commas cs 0 (ks.take (Qb0 x n).toNat) ++ Qbr n tx cs r ls (ks.drop (Qb0 x n).toNat)
  else ((ls[0]?).getD ⟨#[]⟩,if x.nm≠0 then tx else x.word) :: Qbr n tx cs r (ls.drop 1) ks
mutual
def Qaf:Tr→List Qbl
 | .mk k x ls ks=>Qbr (Qb4 (Qae k) ks.length).1 x (ls.drop (Qce (Qae k))) (Qae k) ls (Qgk ks)
def Qgk:List Tr→List (List Qbl)
 | []=>[]
 | t :: r=>Qaf t :: Qgk r
end
theorem Qsk (l:List Tr):Qgk l=l.map Qaf:=by
 induction l with
 | nil=>rfl
 | cons a r ih=>rw [Qgk,ih];rfl
theorem Qdc (t:Tr):Qaf t=Qbr (Qb4 (Qae t.kind) t.kids.length).1 t.text (t.leads.drop (Qce (Qae t.kind))) (Qae t.kind) t.leads (t.kids.map Qaf):=by
 cases t with
 | mk k x ls ks=>rw [Qaf,Qsk];rfl
def Qng (t:Tr):List UInt8:=(Qht ([],⟨#[]⟩) (Qaf t)).1
theorem TrAt.lows {B:Nat} {w w':World} {t:Tr} {v:TV} (h:TrAt (fun k=>k<B) w t v) (hb:Below B w w'):TrAt (fun k=>k<B) w' t v:=TrAt.move (fun _ h=>h) (fun k hk _=>hb.block k hk) t v h
theorem StrsAt.low {S:Nat→Prop} {w:World} {A:Option Addr} {l:List ByteArray} (h:StrsAt S w A l):StrsAt (fun k=>k<w.heap.size) w A l:=fun hne=>by
 obtain ⟨b,off,hA,_,hc⟩:=h hne;refine ⟨b,off,hA,?_,hc⟩;cases l with
 | nil=>exact absurd rfl hne
 | cons a r=>exact xK w _ (hc 0 a rfl)
mutual
theorem TrAt.low {S:Nat→Prop} {w:World}:(t:Tr)→(v:TV)→TrAt S w t v→TrAt (fun k=>k<w.heap.size) w t v
 | .mk k x ls ks,v,h=>by
  unfold TrAt at h ⊢;obtain ⟨h1,h2,h3,h4,h5,h6,h7⟩:=h;refine ⟨h1,h2,h3,h4,h5.low,fun hne=>?_,h7⟩;obtain ⟨b,off,hA,hb,hc⟩:=h6 hne;refine ⟨b,off,hA,?_,TrsAt.low b ks off hc⟩;cases ks with
  | nil=>exact absurd rfl hne
  | cons a r =>
   unfold TrsAt at hc;obtain ⟨u,c0,_⟩:=hc;exact xK w _ c0
theorem TrsAt.low {S:Nat→Prop} {w:World} (b:Nat):(l:List Tr)→(off:Nat)→TrsAt S w b off l→TrsAt (fun k=>k<w.heap.size) w b off l
 | [],off,h=>trivial
 | t :: r,off,h=>by
  unfold TrsAt at h ⊢;obtain ⟨v,c0,c1,c2,c3,ht,hr⟩:=h;exact ⟨v,c0,c1,c2,c3,TrAt.low t v ht,TrsAt.low b r _ hr⟩
end
def Qjc (t:Tr):ByteArray:=if Qan t && Qjs t then ⟨(Qng t).toArray⟩ else ⟨#[]⟩
def Qlv:List Part→Int→Bool
 | [],_=>true
 | x :: r,n=>decide (Qb0 x n≤x.most) && Qlv r n
mutual
def Qf8:Tr→Bool
 | .mk kd _ _ ks=>Qlv (Qae kd) (Qb4 (Qae kd) ks.length).1 && Qlw ks
def Qlw:List Tr→Bool
 | []=>true
 | k :: r=>Qf8 k && Qlw r
end
theorem Zf5 (t:Tr):Qf8 t=(Qlv (Qae t.kind) (Qb4 (Qae t.kind) t.kids.length).1 && Qlw t.kids):=by
 cases t with
 | mk kd x ls ks=>rw [Qf8];rfl
theorem Qmh (l:List Tr) (j:Nat) (k:Tr) (hk:l[j]? = some k):Qlw (l.drop j)=(Qf8 k && Qlw (l.drop (j+1))):=by
 obtain ⟨hj,he⟩:=xP.1 hk;rw [List.drop_eq_getElem_cons hj,he,Qlw]
theorem Qj8 (l:List Tr) (j:Nat) (h:l.length≤j):Qlw (l.drop j)=true:=by
 rw [List.drop_eq_nil_of_le h,Qlw]
def Qgl (t:Tr):Bool:=Qan t && Qjs t && Qf8 t && Qdn t 40 && decide ((Qng t).length≤4096)
def Qmj (r:Tr × Nat × Nat) (w:World) (e:Ending) (w':World):Prop :=
 ∃ v:TV,e = .returned (.tuple #[.agg #[.int .i64 v.kind,.string v.text,.slice v.la v.ll v.lc,.slice v.ka v.kl v.kc],.int .i64 r.2.1,.int .i64 r.2.2])∧TrAt (fun k=>w.heap.size≤k∧k<w'.heap.size) w' r.1 v∧Below w.heap.size w w'
theorem Qwe {n:Nat} {s:ByteArray} {r:Tr × Nat × Nat} (h:Qja n s=some r) (he:(Qbh s).e≠0):r=(Qlq,(Qbh s).place,(Qbh s).e):=by
 unfold Qja at h;rw [xO he] at h;injection h with h;exact h.symm
theorem Qsl {n:Nat} {s:ByteArray} {r:Tr × Nat × Nat} (h:Qja n s=some r) (he:(Qbh s).e=0):∃ t p,Qgf (Qho n) n 1 (Qae 1) ⟨#[]⟩ [] [] [] (Qnh s)=some (t,p)∧r=(if p.e≠0 then (Qlq,p.place,p.e) else if Qdn t 40 then (t,0,0) else (Qlq,0,4)):=by
 unfold Qja at h;rw [xN (by omega)] at h;cases hN:Qgf (Qho n) n 1 (Qae 1) ⟨#[]⟩ [] [] [] (Qnh s) with
 | none =>
  unfold Qnh at hN;rw [hN] at h;cases h
 | some tp =>
  refine ⟨tp.1,tp.2,rfl,?_⟩;unfold Qnh at hN;rw [hN] at h;injection h with h;exact h.symm
theorem Qmk (S:Nat→Prop) (w:World):TrAt S w Qlq ⟨0,⟨#[]⟩,none,0,0,none,0,0⟩:=by
 unfold Qlq TrAt;exact ⟨rfl,rfl,rfl,rfl,fun h=>absurd rfl h,fun h=>absurd rfl h,xA _,xA _⟩
theorem Qsm {s:ByteArray} {w:World} {B g cap:Nat} (he:(Qbh s).e=0) (hown:w.ownsRow B 88 3 (.slice (some ⟨g,0,none⟩) ((Qbh s).toks.length+1) cap) ((Qbh s).toks.length+1) (Qcj (Qbh s).toks ++ [.int .i64 0,.string (Qbh s).tail,.string ⟨#[]⟩])) (hlt:g<w.heap.size) :
  PIn (w.alloc (.cells #[.slice (some ⟨g,0,none⟩) ((Qbh s).toks.length+1) cap,.int .i64 0,.int .i64 0,.int .i64 0] 90)) w.heap.size (Qnh s):=by
 have hl:(Qnh s).rest.length=(Qbh s).toks.length+1:=by unfold Qnh;simp
 have hc:Qcj (Qnh s).rest=Qcj (Qbh s).toks ++ [.int .i64 0,.string (Qbh s).tail,.string ⟨#[]⟩]:=by
  show Qcj ((Qbh s).toks ++ [_])=_
  rw [Qhn]
 refine ⟨g,0,cap,?_,hlt,?_,?_,Zga he⟩
 ·rw [hl];exact xH w _
 ·rw [hl]
  rcases hown.2 with ⟨hv,_⟩|⟨g',cap',cur,hv,_,_,hn,_⟩
  ·simp at hv
  ·simp at hv
   omega
 ·exact Toks.of_own (base:=B) (c:=cap) (by rw [hl,hc];exact hown.alloc _)
theorem Qy6 {n:Nat} {s:ByteArray} {r:Tr × Nat × Nat} (w:World) (hs:s.size≤maxLen) (h:Qja n s=some r) (he:(Qbh s).e≠0):Calls Tryz.prog 26 #[.string s] w (Qmj r w):=by
 have HR:=hQ (Qwe h he);have HS:=hQ hs;have he':(((Qbh s).e:Int) != 0)=true:=by simp;omega
 clear h he hs
 go_enter Tryz.func26,Tryz.ntmps26
 go_wp2_with fail
 go_at_call 51;refine (Qtz s _ HS.out).mono ?_;rintro e w1 ⟨tv,rfl,_,hb⟩;have HB:=hQ (((xC w.heap.size w).alloc (xA _) (.cells #[.int .i64 0,.string ⟨#[]⟩,.slice none 0 0,.slice none 0 0] 25)).trans (hb.mono (by simp)));have g0:=(hb.block w.heap.size (by simp)).trans (xH w (.cells #[.int .i64 0,.string ⟨#[]⟩,.slice none 0 0,.slice none 0 0] 25));clear hb;have r0:w1.cell? ⟨w.heap.size,0,none⟩=some (.int .i64 0):=Qab g0 0 _ rfl;have r1:w1.cell? ⟨w.heap.size,1,none⟩=some (.string ⟨#[]⟩):=Qab g0 1 _ rfl;have r2:w1.cell? ⟨w.heap.size,2,none⟩=some (.slice none 0 0):=Qab g0 2 _ rfl;have r3:w1.cell? ⟨w.heap.size,3,none⟩=some (.slice none 0 0):=Qab g0 3 _ rfl;have rf:=xL g0;clear g0
 go_wp2
 refine bodyPost_ret (v:=.tuple #[.agg #[.int .i64 0,.string ⟨#[]⟩,.slice none 0 0,.slice none 0 0],.int .i64 (Qbh s).place,.int .i64 (Qbh s).e]) (by simp [results,Tryz.results26,go_sem, *]) rfl ?_;rw [HR.out];exact ⟨⟨0,⟨#[]⟩,none,0,0,none,0,0⟩,rfl,Qmk _ _,(((HB.out.setCell (p:=⟨w.heap.size,0,none⟩) (xA _) _).setCell (p:=⟨w.heap.size,1,none⟩) (xA _) _).setCell (p:=⟨w.heap.size,2,none⟩) (xA _) _).setCell (p:=⟨w.heap.size,3,none⟩) (xA _) _⟩
theorem Qwf {n:Nat} (hn:n≤65536) {s:ByteArray} {r:Tr × Nat × Nat} (w:World) (hs:s.size≤maxLen) (h:Qja n s=some r) (he:(Qbh s).e=0):Calls Tryz.prog 26 #[.string s] w (Qmj r w):=by
 obtain ⟨t,p,hN,hr⟩:=Qsl h he;have HN:=hQ hN;have HR:=hQ hr;have HE:=hQ he;have HS:=hQ hs;have HNC:=hQ (Zf8 hn);have HSM:=hQ (show Qcf t=true from Qmi (Qwc n hn) hn hN);have HTL:=hQ (Qn0 he).1;have he':(((Qbh s).e:Int) != 0)=false:=by simp [he]
 clear h he hs hN hr;obtain ⟨i0,hi,hz0,hz1,hz2⟩:=info_parts Qkp
 go_enter Tryz.func26,Tryz.ntmps26
 go_wp2_with fail
 go_at_call 51;refine (Qtz s _ HS.out).mono ?_;rintro e w1 ⟨tv,rfl,hown,hb⟩;rw [xI] at hown;have HB:=hQ (((xC w.heap.size w).alloc (xA _) (.cells #[.int .i64 0,.string ⟨#[]⟩,.slice none 0 0,.slice none 0 0] 25)).trans (hb.mono (by simp)));have HG0:=hQ ((hb.block w.heap.size (by simp)).trans (xH w (.cells #[.int .i64 0,.string ⟨#[]⟩,.slice none 0 0,.slice none 0 0] 25)));have HW1:=hQ (show w.heap.size+1≤w1.heap.size from by have:=hb.size;rw [xI] at this;exact this);have HOW:=hQ hown;clear hb hown;go_wp2_with (at_builtin;refine wpList_append_lies _ (by rfl) _ _ _ (by rfl) (w.heap.size+1) 88 i0 _ 3 40 Tryz.underlying84 hi hz0 hz1 hz2 rfl (by decide) tv (Qbh s).toks.length (Qcj (Qbh s).toks) (by rfl) (HOW.out.alloc _) ⟨w1.heap.size,0,none⟩ 1 1 [.int .i64 0,.string (Qbh s).tail,.string ⟨#[]⟩] (by rfl) (by rfl) (xM (cs:=#[.int .i64 0,.string (Qbh s).tail,.string ⟨#[]⟩]) (t:=88) (fr:=(0,0)) (xH w1 _)) (Qma _ _ _) (by decide) ?b1 ?b2 ?b3 (w1.heap.size+1) (by simp) ?_)
 case b1=>unfold maxLen;have:=HTL.out;omega
 case b2=>have:=HTL.out;omega
 case b3=>have:=HW1.out;simp;omega
 intro g cap w2 hown2 hgrow hat hlt2;have HP2:=hQ (Qsm HE.out hown2 hlt2);have hgb:∀ k,tv.ownBlock=some k→w.heap.size+1≤k:=fun k hk=>(HOW.out.lt k hk).1
 have HB2:=hQ ((HB.out.alloc HB.out.size (.cells #[.int .i64 0,.string (Qbh s).tail,.string ⟨#[]⟩] 88)).grown hgrow (by have:=HW1.out;simp;omega) (fun k hk=>by have:=hgb k hk;omega));have HG2:=hQ ((hgrow.block w.heap.size (by have:=HW1.out;simp;omega) (fun e=>by have:=hgb _ e.symm;omega)).trans ((Below.heap_alloc _ _ _ (Qaa HG0.out)).trans HG0.out));have HW2:=hQ (show w.heap.size+1≤w2.heap.size from by have h1:=hgrow.size;rw [xI] at h1;have:=HW1.out;omega);clear hown2 hgrow hat hlt2 hgb hi hz0 hz1 hz2;go_wp2_with fail
 go_at_call 52;refine (HNC.out w2.heap.size 1 (Qnh s) t p _ HN.out HP2.out).mono ?_;rintro e w3 ⟨v,rfl,htr,hp3,ho3⟩;have HTR:=hQ htr;have HP3:=hQ hp3;have HA2:=hQ (show Below w.heap.size w (w2.alloc (.cells #[.slice (some ⟨g,0,none⟩) ((Qbh s).toks.length+1) cap,.int .i64 0,.int .i64 0,.int .i64 0] 90)) from HB2.out.alloc HB2.out.size _);have HB3:=hQ (HA2.out.trans (ho3.below (B:=w.heap.size) (by have:=HW2.out;omega) (by rw [xI];have:=HW2.out;omega)));have HG3:=hQ ((ho3.block w.heap.size (by rw [xI];have:=HW2.out;omega) (by have:=HW2.out;omega)).trans ((Below.heap_alloc _ _ _ (Qaa HG2.out)).trans HG2.out));have HW3:=hQ (show w2.heap.size+1≤w3.heap.size from by have:=ho3.size;rw [xI] at this;exact this);clear htr hp3 ho3;obtain ⟨tb,off,c,hpa⟩:=HP3.out;have q2:w3.cell? ⟨w2.heap.size,2,none⟩=some (.int .i64 p.place):=hpa.c2;have q3:w3.cell? ⟨w2.heap.size,3,none⟩=some (.int .i64 p.e):=hpa.c3;have qe:=hpa.lt;clear hpa;have r0:w3.cell? ⟨w.heap.size,0,none⟩=some (.int .i64 0):=Qab HG3.out 0 _ rfl;have r1:w3.cell? ⟨w.heap.size,1,none⟩=some (.string ⟨#[]⟩):=Qab HG3.out 1 _ rfl;have r2:w3.cell? ⟨w.heap.size,2,none⟩=some (.slice none 0 0):=Qab HG3.out 2 _ rfl;have r3:w3.cell? ⟨w.heap.size,3,none⟩=some (.slice none 0 0):=Qab HG3.out 3 _ rfl;have rf:=xL HG3.out;have ne1:w.heap.size≠w2.heap.size:=by have:=HW2.out;omega
 by_cases hpe:p.e=0
 ·have hpe':((p.e:Int) != 0)=false:=by simp [hpe]
  have HPE:=hQ hpe;clear hpe;go_wp2_with fail
  have hR:Rest (fun k=>k=w.heap.size) w3 ((((w3.setCell ⟨w.heap.size,0,none⟩ (.int .i64 v.kind)).setCell ⟨w.heap.size,1,none⟩ (.string v.text)).setCell ⟨w.heap.size,2,none⟩ (.slice v.la v.ll v.lc)).setCell ⟨w.heap.size,3,none⟩ (.slice v.ka v.kl v.kc)):=(((Rest.set1 _ _ _).trans (Rest.set1 _ _ _)).trans (Rest.set1 _ _ _)).trans (Rest.set1 _ _ _);have hB4:Below w.heap.size w ((((w3.setCell ⟨w.heap.size,0,none⟩ (.int .i64 v.kind)).setCell ⟨w.heap.size,1,none⟩ (.string v.text)).setCell ⟨w.heap.size,2,none⟩ (.slice v.la v.ll v.lc)).setCell ⟨w.heap.size,3,none⟩ (.slice v.ka v.kl v.kc)):=(((HB3.out.setCell (p:=⟨w.heap.size,0,none⟩) (xA _) _).setCell (p:=⟨w.heap.size,1,none⟩) (xA _) _).setCell (p:=⟨w.heap.size,2,none⟩) (xA _) _).setCell (p:=⟨w.heap.size,3,none⟩) (xA _) _;have g0:(w3.setCell ⟨w.heap.size,0,none⟩ (.int .i64 v.kind)).heap[w.heap.size]? = some (.cells #[.int .i64 v.kind,.string ⟨#[]⟩,.slice none 0 0,.slice none 0 0] 25 (0,0)):=Qay HG3.out rfl;have g1:((w3.setCell ⟨w.heap.size,0,none⟩ (.int .i64 v.kind)).setCell ⟨w.heap.size,1,none⟩ (.string v.text)).heap[w.heap.size]? = some (.cells #[.int .i64 v.kind,.string v.text,.slice none 0 0,.slice none 0 0] 25 (0,0)):=Qay g0 rfl;have g2:(((w3.setCell ⟨w.heap.size,0,none⟩ (.int .i64 v.kind)).setCell ⟨w.heap.size,1,none⟩ (.string v.text)).setCell ⟨w.heap.size,2,none⟩ (.slice v.la v.ll v.lc)).heap[w.heap.size]? = some (.cells #[.int .i64 v.kind,.string v.text,.slice v.la v.ll v.lc,.slice none 0 0] 25 (0,0)):=Qay g1 rfl;have g3:((((w3.setCell ⟨w.heap.size,0,none⟩ (.int .i64 v.kind)).setCell ⟨w.heap.size,1,none⟩ (.string v.text)).setCell ⟨w.heap.size,2,none⟩ (.slice v.la v.ll v.lc)).setCell ⟨w.heap.size,3,none⟩ (.slice v.ka v.kl v.kc)).heap[w.heap.size]? = some (.cells #[.int .i64 v.kind,.string v.text,.slice v.la v.ll v.lc,.slice v.ka v.kl v.kc] 25 (0,0)):=Qay g2 rfl;have ht4:TrAt (fun k=>w.heap.size+1≤k∧k<((((w3.setCell ⟨w.heap.size,0,none⟩ (.int .i64 v.kind)).setCell ⟨w.heap.size,1,none⟩ (.string v.text)).setCell ⟨w.heap.size,2,none⟩ (.slice v.la v.ll v.lc)).setCell ⟨w.heap.size,3,none⟩ (.slice v.ka v.kl v.kc)).heap.size) ((((w3.setCell ⟨w.heap.size,0,none⟩ (.int .i64 v.kind)).setCell ⟨w.heap.size,1,none⟩ (.string v.text)).setCell ⟨w.heap.size,2,none⟩ (.slice v.la v.ll v.lc)).setCell ⟨w.heap.size,3,none⟩ (.slice v.ka v.kl v.kc)) t v:=TrAt.move (fun k hk=>⟨by have:=hk.1;rw [xI] at this;have:=HW2.out;omega,xE hk.2 hR.size⟩) (fun k hk hlt=>hR.block k hlt (fun e:k=w.heap.size=>by have:=hk.1;rw [xI] at this;have:=HW2.out;omega)) _ _ HTR.out;have HR4:=hQ hR;have HB4:=hQ hB4;have HG4:=hQ g3;have HT4:=hQ ht4;clear hR hB4 g0 g1 g2 g3 ht4 r0 r1 r2 r3 rf
  generalize ((((w3.setCell ⟨w.heap.size,0,none⟩ (.int .i64 v.kind)).setCell ⟨w.heap.size,1,none⟩ (.string v.text)).setCell ⟨w.heap.size,2,none⟩ (.slice v.la v.ll v.lc)).setCell ⟨w.heap.size,3,none⟩ (.slice v.ka v.kl v.kc))=W4 at HR4 HB4 HG4 HT4 ⊢
  go_at_call 53;refine (Qv6 40 _ t v _ (by decide) HT4.out HSM.out).mono ?_;rintro e w5 ⟨rfl,hb5⟩;have HB5:=hQ hb5;have hg5:=(hb5.block w.heap.size (Qaa HG4.out)).trans HG4.out;have r0:w5.cell? ⟨w.heap.size,0,none⟩=some (.int .i64 v.kind):=Qab hg5 0 _ rfl;have r1:w5.cell? ⟨w.heap.size,1,none⟩=some (.string v.text):=Qab hg5 1 _ rfl;have r2:w5.cell? ⟨w.heap.size,2,none⟩=some (.slice v.la v.ll v.lc):=Qab hg5 2 _ rfl;have r3:w5.cell? ⟨w.heap.size,3,none⟩=some (.slice v.ka v.kl v.kc):=Qab hg5 3 _ rfl;have rf:=xL hg5;clear hb5 hg5 q2 q3 qe;have HBW:=hQ (HB4.out.trans (HB5.out.mono HB4.out.size))
  cases hwt:Qdn t 40
  ·have HRR:=hQ (show r=(Qlq,0,4) from by rw [HR.out,HPE.out,hwt];rfl)
   go_wp2
   refine bodyPost_ret (v:=.tuple #[.agg #[.int .i64 0,.string ⟨#[]⟩,.slice none 0 0,.slice none 0 0],.int .i64 0,.int .i64 4]) (by simp [results,Tryz.results26,go_sem, *]) rfl ?_;rw [HRR.out];exact ⟨⟨0,⟨#[]⟩,none,0,0,none,0,0⟩,rfl,Qmk _ _,(((HBW.out.setCell (p:=⟨w.heap.size,0,none⟩) (xA _) _).setCell (p:=⟨w.heap.size,1,none⟩) (xA _) _).setCell (p:=⟨w.heap.size,2,none⟩) (xA _) _).setCell (p:=⟨w.heap.size,3,none⟩) (xA _) _⟩
  ·have HRR:=hQ (show r=(t,0,0) from by rw [HR.out,HPE.out,hwt];rfl)
   go_wp2
   refine bodyPost_ret (v:=.tuple #[.agg #[.int .i64 v.kind,.string v.text,.slice v.la v.ll v.lc,.slice v.ka v.kl v.kc],.int .i64 0,.int .i64 0]) (by simp [results,Tryz.results26,go_sem, *]) rfl ?_;rw [HRR.out];have hR5:=(((Rest.set1 (w:=w5) w.heap.size 0 (.int .i64 v.kind)).trans (Rest.set1 w.heap.size 1 (.string v.text))).trans (Rest.set1 w.heap.size 2 (.slice v.la v.ll v.lc))).trans (Rest.set1 w.heap.size 3 (.slice v.ka v.kl v.kc));exact ⟨v,rfl,TrAt.move (fun k hk=>⟨by have:=hk.1;omega,xE hk.2 (xQ HB5.out.size hR5.size)⟩) (fun k hk hlt=>hR5.block k hlt (fun e:k=w.heap.size=>by have:=hk.1;omega)) _ _ (HT4.out.keep HB5.out),(((HBW.out.setCell (p:=⟨w.heap.size,0,none⟩) (xA _) _).setCell (p:=⟨w.heap.size,1,none⟩) (xA _) _).setCell (p:=⟨w.heap.size,2,none⟩) (xA _) _).setCell (p:=⟨w.heap.size,3,none⟩) (xA _) _⟩
 ·have hpe':((p.e:Int) != 0)=true:=by simp;omega
  have HRR:=hQ (show r=(Qlq,p.place,p.e) from by rw [HR.out,xO hpe]);clear hpe;go_wp2_with fail
  have hR:Rest (fun k=>k=w.heap.size) w3 ((((w3.setCell ⟨w.heap.size,0,none⟩ (.int .i64 v.kind)).setCell ⟨w.heap.size,1,none⟩ (.string v.text)).setCell ⟨w.heap.size,2,none⟩ (.slice v.la v.ll v.lc)).setCell ⟨w.heap.size,3,none⟩ (.slice v.ka v.kl v.kc)):=(((Rest.set1 _ _ _).trans (Rest.set1 _ _ _)).trans (Rest.set1 _ _ _)).trans (Rest.set1 _ _ _);have hB4:Below w.heap.size w ((((w3.setCell ⟨w.heap.size,0,none⟩ (.int .i64 v.kind)).setCell ⟨w.heap.size,1,none⟩ (.string v.text)).setCell ⟨w.heap.size,2,none⟩ (.slice v.la v.ll v.lc)).setCell ⟨w.heap.size,3,none⟩ (.slice v.ka v.kl v.kc)):=(((HB3.out.setCell (p:=⟨w.heap.size,0,none⟩) (xA _) _).setCell (p:=⟨w.heap.size,1,none⟩) (xA _) _).setCell (p:=⟨w.heap.size,2,none⟩) (xA _) _).setCell (p:=⟨w.heap.size,3,none⟩) (xA _) _;have g0:(w3.setCell ⟨w.heap.size,0,none⟩ (.int .i64 v.kind)).heap[w.heap.size]? = some (.cells #[.int .i64 v.kind,.string ⟨#[]⟩,.slice none 0 0,.slice none 0 0] 25 (0,0)):=Qay HG3.out rfl;have g1:((w3.setCell ⟨w.heap.size,0,none⟩ (.int .i64 v.kind)).setCell ⟨w.heap.size,1,none⟩ (.string v.text)).heap[w.heap.size]? = some (.cells #[.int .i64 v.kind,.string v.text,.slice none 0 0,.slice none 0 0] 25 (0,0)):=Qay g0 rfl;have g2:(((w3.setCell ⟨w.heap.size,0,none⟩ (.int .i64 v.kind)).setCell ⟨w.heap.size,1,none⟩ (.string v.text)).setCell ⟨w.heap.size,2,none⟩ (.slice v.la v.ll v.lc)).heap[w.heap.size]? = some (.cells #[.int .i64 v.kind,.string v.text,.slice v.la v.ll v.lc,.slice none 0 0] 25 (0,0)):=Qay g1 rfl;have g3:((((w3.setCell ⟨w.heap.size,0,none⟩ (.int .i64 v.kind)).setCell ⟨w.heap.size,1,none⟩ (.string v.text)).setCell ⟨w.heap.size,2,none⟩ (.slice v.la v.ll v.lc)).setCell ⟨w.heap.size,3,none⟩ (.slice v.ka v.kl v.kc)).heap[w.heap.size]? = some (.cells #[.int .i64 v.kind,.string v.text,.slice v.la v.ll v.lc,.slice v.ka v.kl v.kc] 25 (0,0)):=Qay g2 rfl;have ht4:TrAt (fun k=>w.heap.size+1≤k∧k<((((w3.setCell ⟨w.heap.size,0,none⟩ (.int .i64 v.kind)).setCell ⟨w.heap.size,1,none⟩ (.string v.text)).setCell ⟨w.heap.size,2,none⟩ (.slice v.la v.ll v.lc)).setCell ⟨w.heap.size,3,none⟩ (.slice v.ka v.kl v.kc)).heap.size) ((((w3.setCell ⟨w.heap.size,0,none⟩ (.int .i64 v.kind)).setCell ⟨w.heap.size,1,none⟩ (.string v.text)).setCell ⟨w.heap.size,2,none⟩ (.slice v.la v.ll v.lc)).setCell ⟨w.heap.size,3,none⟩ (.slice v.ka v.kl v.kc)) t v:=TrAt.move (fun k hk=>⟨by have:=hk.1;rw [xI] at this;have:=HW2.out;omega,xE hk.2 hR.size⟩) (fun k hk hlt=>hR.block k hlt (fun e:k=w.heap.size=>by have:=hk.1;rw [xI] at this;have:=HW2.out;omega)) _ _ HTR.out;have HR4:=hQ hR;have HB4:=hQ hB4;have HG4:=hQ g3;have HT4:=hQ ht4;clear hR hB4 g0 g1 g2 g3 ht4 r0 r1 r2 r3 rf;have p2:=(xJ (w:=w3) (a:=⟨w2.heap.size,2,none⟩) (HR4.out.block w2.heap.size qe (fun e:w2.heap.size=w.heap.size=>ne1 e.symm))).trans q2;have p3:=(xJ (w:=w3) (a:=⟨w2.heap.size,3,none⟩) (HR4.out.block w2.heap.size qe (fun e:w2.heap.size=w.heap.size=>ne1 e.symm))).trans q3;clear q2 q3 qe
  generalize ((((w3.setCell ⟨w.heap.size,0,none⟩ (.int .i64 v.kind)).setCell ⟨w.heap.size,1,none⟩ (.string v.text)).setCell ⟨w.heap.size,2,none⟩ (.slice v.la v.ll v.lc)).setCell ⟨w.heap.size,3,none⟩ (.slice v.ka v.kl v.kc))=W4 at HR4 HB4 HG4 HT4 p2 p3 ⊢
  have r0:W4.cell? ⟨w.heap.size,0,none⟩=some (.int .i64 v.kind):=Qab HG4.out 0 _ rfl;have r1:W4.cell? ⟨w.heap.size,1,none⟩=some (.string v.text):=Qab HG4.out 1 _ rfl;have r2:W4.cell? ⟨w.heap.size,2,none⟩=some (.slice v.la v.ll v.lc):=Qab HG4.out 2 _ rfl;have r3:W4.cell? ⟨w.heap.size,3,none⟩=some (.slice v.ka v.kl v.kc):=Qab HG4.out 3 _ rfl;have rf:=xL HG4.out
  go_region
  all_goals
   go_wp2
   refine bodyPost_ret (v:=.tuple #[.agg #[.int .i64 0,.string ⟨#[]⟩,.slice none 0 0,.slice none 0 0],.int .i64 p.place,.int .i64 p.e]) (by simp [results,Tryz.results26,go_sem, *]) rfl ?_;rw [HRR.out];exact ⟨⟨0,⟨#[]⟩,none,0,0,none,0,0⟩,rfl,Qmk _ _,((((HB4.out.setCell (p:=⟨w.heap.size,0,none⟩) (xA _) _).setCell (p:=⟨w.heap.size,1,none⟩) (xA _) _).setCell (p:=⟨w.heap.size,2,none⟩) (xA _) _).setCell (p:=⟨w.heap.size,3,none⟩) (xA _) _).drew⟩
theorem Qy7 {n:Nat} (hn:n≤65536) {s:ByteArray} {r:Tr × Nat × Nat} (w:World) (hs:s.size≤maxLen) (h:Qja n s=some r):Calls Tryz.prog 26 #[.string s] w (Qmj r w):=by
 by_cases he:(Qbh s).e=0
 ·exact Qwf hn w hs h he
 ·exact Qy6 w hs h he
def Qeg (w:World) (b:Nat) (u:TV):World:=(((w.setCell ⟨b,0,none⟩ (.int .i64 u.kind)).setCell ⟨b,1,none⟩ (.string u.text)).setCell ⟨b,2,none⟩ (.slice u.la u.ll u.lc)).setCell ⟨b,3,none⟩ (.slice u.ka u.kl u.kc)
def trO (v:TV):Obj:=.cells #[.int .i64 v.kind,.string v.text,.slice v.la v.ll v.lc,.slice v.ka v.kl v.kc] 25
theorem Qfw {w:World} {b:Nat} {v:TV} (u:TV) (h:w.heap[b]? = some (trO v)):(Qeg w b u).heap[b]? = some (trO u):=Qay (Qay (Qay (Qay h rfl) rfl) rfl) rfl
theorem Qbk (w:World) (b:Nat) (u:TV):Below b w (Qeg w b u):=((((xC b w).setCell (p:=⟨b,0,none⟩) (xA _) _).setCell (p:=⟨b,1,none⟩) (xA _) _).setCell (p:=⟨b,2,none⟩) (xA _) _).setCell (p:=⟨b,3,none⟩) (xA _) _
mutual
def Qak:Tr→Nat
 | .mk _ _ _ ks=>1+Qaq ks
def Qaq:List Tr→Nat
 | []=>0
 | t :: r=>Qak t+Qaq r
end
mutual
def Qeh:Tr→Nat
 | .mk _ _ _ ks=>Qc5 ks+1
def Qc5:List Tr→Nat
 | []=>0
 | t :: r=>max (Qeh t) (Qc5 r)
end
theorem Qa7 (t:Tr):Qak t=1+Qaq t.kids:=by cases t;rw [Qak];rfl
theorem Qml (t:Tr):Qeh t=Qc5 t.kids+1:=by cases t;rw [Qeh];rfl
theorem Qei:(a b:List Tr)→Qaq (a ++ b)=Qaq a+Qaq b
 | [],b=>by rw [xU,Qaq];omega
 | t :: r,b=>by rw [xV,Qaq,Qaq,Qei r b];omega
theorem Qj9:(a b:List Tr)→Qc5 (a ++ b)=max (Qc5 a) (Qc5 b)
 | [],b=>by rw [xU,Qc5];omega
 | t :: r,b=>by rw [xV,Qc5,Qc5,Qj9 r b];omega
theorem Qeu {α:Type} {l:List α} {j:Nat} {k:α} (h:l[j]? = some k):l.take (j+1)=l.take j ++ [k]:=by
 rw [List.take_add_one,h];rfl
theorem Qc0 {l:List Tr} {j:Nat} {k:Tr} (h:l[j]? = some k):Qaq (l.take (j+1))=Qaq (l.take j)+Qak k:=by
 rw [Qeu h,Qei,Qaq,Qaq];omega
theorem Qjm {l:List Tr} {j:Nat} {k:Tr} (h:l[j]? = some k):Qc5 (l.take (j+1))=max (Qc5 (l.take j)) (Qeh k):=by
 rw [Qeu h,Qj9,Qc5,Qc5];omega
theorem Qdw (l:List Tr) (j:Nat):Qaq (l.take j)≤Qaq l:=by
 conv=>rhs;rw [←List.take_append_drop j l,Qei]
 omega
theorem Qbe {t k:Tr} {j:Nat} (h:t.kids[j]? = some k):Qak k≤Qak t:=by
 have h1:=Qc0 h;have h2:=Qdw t.kids (j+1);rw [Qa7 t];omega
mutual
theorem Qdx:(t:Tr)→Qeh t≤Qak t
 | .mk _ _ _ ks=>by rw [Qeh,Qak];have:=Qev ks;omega
theorem Qev:(l:List Tr)→Qc5 l≤Qaq l
 | []=>by rw [Qc5];omega
 | t :: r=>by rw [Qc5,Qaq];have:=Qdx t;have:=Qev r;omega
end
theorem Qba:(l:List Tr)→l.length≤Qaq l
 | []=>xZ _
 | t :: r=>by
  rw [Qaq,xD,Qa7];have:=Qba r
  omega
theorem Qa0 {t k:Tr} {j:Nat} (h:t.kids[j]? = some k):SizeOf.sizeOf k<SizeOf.sizeOf t:=by
 cases t with
 | mk kd x ls ks =>
  have:=List.sizeOf_lt_of_mem (yA (show ks[j]? = some k from h))
  rw [Tr.mk.sizeOf_spec];omega
theorem Qgu (t:Tr):0<SizeOf.sizeOf t:=by cases t;rw [Tr.mk.sizeOf_spec];omega
def Qsn (f:List Tr→Nat) (t:Tr) (W:World) (n i:Value) (wr:World):Prop:=∃ j:Nat,i = .int .i64 j∧j≤t.kids.length∧n = .int .i64 (f (t.kids.take j):Nat)∧Below W.heap.size W wr
theorem Zhv (N:Nat):∀ (S:Nat→Prop) (t:Tr) (v:TV) (w:World),SizeOf.sizeOf t≤N→TrAt S w t v→Qak t≤140737488355328 →
  Calls Tryz.prog 25 #[.agg #[.int .i64 v.kind,.string v.text,.slice v.la v.ll v.lc,.slice v.ka v.kl v.kc]] w fun e w'=>e = .returned (.int .i64 (Qak t:Nat))∧Below w.heap.size w w':=by
 induction N with
 | zero=>intro S t v w h;have:=Qgu t;omega
 | succ N ih =>
  intro S t v w hN h hz;have HIH:=hQ ih;have HB0:=hQ ((xC w.heap.size w).alloc (xA _) (trO v));have HT:=hQ (h.keep HB0.out);have HX:=hQ (xH w (trO v));have HZ:=hQ hz;have HN:=hQ hN;have hkl:=h.kl.1;obtain ⟨vk,vx,vla,vll,vlc,vka,vkl,vkc⟩:=v;simp only at hkl;subst hkl;have hmax:t.kids.length≤140737488355328:=by have:=Qba t.kids;rw [Qa7] at hz;omega
  have HMX:=hQ hmax;clear ih h hz hN;have k3:(w.alloc (trO ⟨vk,vx,vla,vll,vlc,vka,t.kids.length,vkc⟩)).cell? ⟨w.heap.size,3,none⟩=some (.slice vka t.kids.length vkc):=Qab HX.out 3 _ rfl
  go_enter Tryz.func25,Tryz.ntmps25
  go_wp2
  clear k3
  go_loopw [3,4] (fun n i wr=>Qsn (fun l=>1+Qaq l) t (w.alloc (trO ⟨vk,vx,vla,vll,vlc,vka,t.kids.length,vkc⟩)) n i wr) (fun _ i _=>t.kids.length-(intOf i).toNat)
  case atStart=>exact ⟨0,rfl,xZ _,rfl,xC _ _⟩
  case round =>
   obtain ⟨j,rfl,hj,rfl,hb⟩:=hrel;have HBR:=hQ hb;have hx:=(hb.block w.heap.size (Qaa HX.out)).trans HX.out;have k3:wr.cell? ⟨w.heap.size,3,none⟩=some (.slice vka t.kids.length vkc):=Qab hx 3 _ rfl;clear hb hx
   by_cases hlt:j<t.kids.length
   ·obtain ⟨k,hk⟩:∃ k,t.kids[j]? = some k:=⟨_,xF hlt⟩;obtain ⟨b,off,hka⟩:∃ b off,vka=some ⟨b,off,none⟩:=HT.out.addr.resolve_left (by omega);subst hka;obtain ⟨u,c0,c1,c2,c3,hu⟩:=(HT.out.keep HBR.out).at rfl hk;have HU:=hQ hu;have HS1:=hQ (Qc0 hk);have HD1:=hQ (Qjm hk);have hs:=Qdw t.kids (j+1);have hs0:=Qc0 hk;have hds:=Qev (t.kids.take j);have hdk:=Qdx k;have HSK:=hQ (xQ (Qbe hk) HZ.out);have HNK:=hQ (show SizeOf.sizeOf k≤N from by have:=Qa0 hk;have:=HN.out;omega);have hz:=HZ.out;rw [Qa7] at hz;have q1:((Qaq (t.kids.take j):Nat):Int)+(Qak k:Nat)+1≤140737488355328:=by omega
    have q2:((Qc5 (t.kids.take j):Nat):Int)≤140737488355328:=by omega
    have q3:((Qeh k:Nat):Int)+1≤140737488355329:=by omega
    have hj0:(0:Int)≤(j:Int):=by omega
    have hj1:(j:Int)<(t.kids.length:Int):=by omega
    have hj2:(j:Int)+1≤140737488355328:=by omega
    clear hk hu hs hs0 hds hdk hz;go_wp2_with (go_at_call 25;refine (HIH.out S k u _ HNK.out (HU.out.keep (xC _ _)) HSK.out).mono ?_;rintro e w2 ⟨rfl,hb2⟩;have HB2:=hQ (HBR.out.trans (hb2.mono HBR.out.size));clear hb2)
    go_roundw
    case rel=>exact ⟨j+1,by go_num,by omega,by show _=Value.int .i64 ((1+Qaq (t.kids.take (j+1)):Nat):Int);rw [HS1.out];go_num,HB2.out⟩
    case measure=>simp [intOf];omega
   ·have hjn:j=t.kids.length:=by omega
    subst hjn;have HR:=hQ (show Qak t=1+Qaq (t.kids.take t.kids.length) from by rw [Qa7,List.take_length]);have hz:=HZ.out;have h1:=Qdx t;have h2:=HR.out
    go_wp2
    go_ret
    exact ⟨Qb5 (by rw [HR.out]),HB0.out.trans (HBR.out.mono (by simp))⟩
theorem Zc1 (N:Nat):∀ (S:Nat→Prop) (t:Tr) (v:TV) (w:World),SizeOf.sizeOf t≤N→TrAt S w t v→Qak t≤140737488355328 →
  Calls Tryz.prog 147 #[.agg #[.int .i64 v.kind,.string v.text,.slice v.la v.ll v.lc,.slice v.ka v.kl v.kc]] w fun e w'=>e = .returned (.int .i64 (Qak t:Nat))∧Below w.heap.size w w':=by
 induction N with
 | zero=>intro S t v w h;have:=Qgu t;omega
 | succ N ih =>
  intro S t v w hN h hz;have HIH:=hQ ih;have HB0:=hQ ((xC w.heap.size w).alloc (xA _) (trO v));have HT:=hQ (h.keep HB0.out);have HX:=hQ (xH w (trO v));have HZ:=hQ hz;have HN:=hQ hN;have hkl:=h.kl.1;obtain ⟨vk,vx,vla,vll,vlc,vka,vkl,vkc⟩:=v;simp only at hkl;subst hkl;have hmax:t.kids.length≤140737488355328:=by have:=Qba t.kids;rw [Qa7] at hz;omega
  have HMX:=hQ hmax;clear ih h hz hN;have k3:(w.alloc (trO ⟨vk,vx,vla,vll,vlc,vka,t.kids.length,vkc⟩)).cell? ⟨w.heap.size,3,none⟩=some (.slice vka t.kids.length vkc):=Qab HX.out 3 _ rfl
  go_enter Tryz.func147,Tryz.ntmps147
  go_wp2
  clear k3
  go_loopw [3,9] (fun n i wr=>Qsn (fun l=>1+Qaq l) t (w.alloc (trO ⟨vk,vx,vla,vll,vlc,vka,t.kids.length,vkc⟩)) n i wr) (fun _ i _=>t.kids.length-(intOf i).toNat)
  case atStart=>exact ⟨0,rfl,xZ _,rfl,xC _ _⟩
  case round =>
   obtain ⟨j,rfl,hj,rfl,hb⟩:=hrel;have HBR:=hQ hb;have hx:=(hb.block w.heap.size (Qaa HX.out)).trans HX.out;have k3:wr.cell? ⟨w.heap.size,3,none⟩=some (.slice vka t.kids.length vkc):=Qab hx 3 _ rfl;clear hb hx
   by_cases hlt:j<t.kids.length
   ·obtain ⟨k,hk⟩:∃ k,t.kids[j]? = some k:=⟨_,xF hlt⟩;obtain ⟨b,off,hka⟩:∃ b off,vka=some ⟨b,off,none⟩:=HT.out.addr.resolve_left (by omega);subst hka;obtain ⟨u,c0,c1,c2,c3,hu⟩:=(HT.out.keep HBR.out).at rfl hk;have HU:=hQ hu;have HS1:=hQ (Qc0 hk);have HD1:=hQ (Qjm hk);have hs:=Qdw t.kids (j+1);have hs0:=Qc0 hk;have hds:=Qev (t.kids.take j);have hdk:=Qdx k;have HSK:=hQ (xQ (Qbe hk) HZ.out);have HNK:=hQ (show SizeOf.sizeOf k≤N from by have:=Qa0 hk;have:=HN.out;omega);have hz:=HZ.out;rw [Qa7] at hz;have q1:((Qaq (t.kids.take j):Nat):Int)+(Qak k:Nat)+1≤140737488355328:=by omega
    have q2:((Qc5 (t.kids.take j):Nat):Int)≤140737488355328:=by omega
    have q3:((Qeh k:Nat):Int)+1≤140737488355329:=by omega
    have hj0:(0:Int)≤(j:Int):=by omega
    have hj1:(j:Int)<(t.kids.length:Int):=by omega
    have hj2:(j:Int)+1≤140737488355328:=by omega
    clear hk hu hs hs0 hds hdk hz;have HA1:=hQ ((xC wr.heap.size wr).alloc (xA _) (trO u));go_wp2_with (go_at_call 147;refine (HIH.out S k u _ HNK.out (HU.out.keep HA1.out) HSK.out).mono ?_;rintro e w2 ⟨rfl,hb2⟩;have HB2:=hQ (HBR.out.trans ((HA1.out.trans (hb2.mono HA1.out.size)).mono HBR.out.size));clear hb2)
    go_roundw
    case rel=>exact ⟨j+1,by go_num,by omega,by show _=Value.int .i64 ((1+Qaq (t.kids.take (j+1)):Nat):Int);rw [HS1.out];go_num,HB2.out⟩
    case measure=>simp [intOf];omega
   ·have hjn:j=t.kids.length:=by omega
    subst hjn;have HR:=hQ (show Qak t=1+Qaq (t.kids.take t.kids.length) from by rw [Qa7,List.take_length]);have hz:=HZ.out;have h1:=Qdx t;have h2:=HR.out
    go_wp2
    go_ret
    exact ⟨Qb5 (by rw [HR.out]),HB0.out.trans (HBR.out.mono (by simp))⟩
def Ze7 (n m:Int):Int:=if n.tmod m<0 then n.tmod m+m else n.tmod m
theorem Qs5 (n:Int) {m:Int} (hm:0<m):0≤Ze7 n m∧Ze7 n m<m:=by
 have h1:=Int.tmod_lt_of_pos n hm;have h2:-m<n.tmod m:=Int.lt_tmod_of_pos n hm;unfold Ze7
 split <;> omega
theorem Qs6 (n m:Int) (w:World) (hm:0<m) (hm2:m≤1000000):Calls Tryz.prog 21 #[.int .i64 n,.int .i64 m] w fun e w'=>e = .returned (.int .i64 (Ze7 n m))∧w=w':=by
 have h1:=Int.tmod_lt_of_pos n hm;have h2:-m<n.tmod m:=Int.lt_tmod_of_pos n hm;have HM:=hQ (show Ze7 n m=if n.tmod m<0 then n.tmod m+m else n.tmod m from rfl);have h0:m≠0:=by omega
 have hb:=Qcr h0
 by_cases h:n.tmod m<0
 all_goals
  go_enter Tryz.func21,Tryz.ntmps21
  go_wp2
  go_ret
  exact ⟨Qb5 (by rw [HM.out];split <;> omega),rfl⟩
end Go.Proofs.YtfjpemdejoejbaaGreat
