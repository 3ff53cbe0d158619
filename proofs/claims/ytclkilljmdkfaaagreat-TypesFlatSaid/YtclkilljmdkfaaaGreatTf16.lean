/- Part 16 -/
import Derived.Test.YtclkilljmdkfaaaGreatTf15
import Derived.Shelf.Strings.Builder1
import Derived.Lib.Builder
set_option maxRecDepth 100000
set_option maxHeartbeats 4000000
namespace Go.Proofs.YtclkilljmdkfaaaGreat
open Go.RowKit
def Ql2 (kd:Int):Nat→List ByteArray→Bool
 | _,[]=>true
 | i,y :: r=>Qf4 y (kd==1 && (i:Int)==2) && Ql2 kd (i+1) r
mutual
def Qj0:Tr→Bool
 | .mk kd _ ls ks=>((ls.length:Int)==Qln kd ks.length) && Ql2 kd 0 ls && Qsx ks
def Qsx:List Tr→Bool
 | []=>true
 | k :: r=>Qj0 k && Qsx r
end
theorem Zic (t:Tr):Qj0 t=(((t.leads.length:Int)==Qln t.kind t.kids.length) && Ql2 t.kind 0 t.leads && Qsx t.kids):=by
 cases t with
 | mk kd x ls ks=>rw [Qj0];rfl
theorem Zet (kd:Int) (l:List ByteArray) (i:Nat) (y:ByteArray) (hy:l[i]? = some y):Ql2 kd i (l.drop i)=(Qf4 y (kd==1 && (i:Int)==2) && Ql2 kd (i+1) (l.drop (i+1))):=by
 obtain ⟨hi,he⟩:=xP.1 hy
 rw [List.drop_eq_getElem_cons hi,he,Ql2]
theorem Qz5 (kd:Int) (l:List ByteArray) (i:Nat) (h:l.length≤i):Ql2 kd i (l.drop i)=true:=by
 rw [List.drop_eq_nil_of_le h,Ql2]
theorem Zid (l:List Tr) (j:Nat) (k:Tr) (hk:l[j]? = some k):Qsx (l.drop j)=(Qj0 k && Qsx (l.drop (j+1))):=by
 obtain ⟨hj,he⟩:=xP.1 hk
 rw [List.drop_eq_getElem_cons hj,he,Qsx]
theorem Zeu (l:List Tr) (j:Nat) (h:l.length≤j):Qsx (l.drop j)=true:=by
 rw [List.drop_eq_nil_of_le h,Qsx]
theorem TrAt.laddr {S:Nat→Prop} {w:World} {t:Tr} {v:TV} (h:TrAt S w t v):t.leads.length=0∨∃ b off,v.la=some ⟨b,off,none⟩:=by
 cases t with
 | mk kd tx ls ks =>
  unfold TrAt at h
  cases ls with
  | nil=>exact .inl rfl
  | cons a r =>
   obtain ⟨b,off,hA,_⟩:=h.2.2.2.2.1 (by simp)
   exact .inr ⟨b,off,hA⟩
theorem TrAt.lat {S:Nat→Prop} {w:World} {t:Tr} {v:TV} {b off:Nat} (h:TrAt S w t v) (hA:v.la=some ⟨b,off,none⟩) {i:Nat} {y:ByteArray} (hy:t.leads[i]? = some y):w.cell? ⟨b,off+i,none⟩=some (.string y):=by
 cases t with
 | mk kd tx ls ks =>
  unfold TrAt at h
  obtain ⟨b',off',hA',_,hc⟩:=h.2.2.2.2.1 (by intro e;rw [show (Tr.mk kd tx ls ks).leads=ls from rfl,e] at hy;simp at hy)
  rw [hA] at hA'
  injection hA' with e
  injection e with e1 e2 _
  subst e1 e2
  exact hc i y hy
def Qw5 (last lead text:ByteArray):ByteArray:=if lead.size=0∧Qf9 last text=true then ⟨#[32]⟩ else lead
def Zev (s:List UInt8 × ByteArray) (lead text:ByteArray):List UInt8 × ByteArray:=(s.1 ++ (Qw5 s.2 lead text).data.toList ++ text.data.toList,text)
theorem Qmp {x:ByteArray} (h:x.size=0):x=⟨#[]⟩:=by
 obtain ⟨d⟩:=x
 have:d.size=0:=h
 rw [Array.eq_empty_of_size_eq_zero this]
abbrev Qbn:=ByteArray × ByteArray
def Qh1 (s:List UInt8 × ByteArray) (ps:List Qbn):List UInt8 × ByteArray:=ps.foldl (fun s p=>Zev s p.1 p.2) s
def Qgm:List Qbn→Nat
 | []=>0
 | p :: r=>p.1.size+p.2.size+1+Qgm r
theorem Qlp (a c:List Qbn):Qgm (a ++ c)=Qgm a+Qgm c:=by
 induction a with
 | nil=>simp [Qgm]
 | cons p r ih=>rw [xV,Qgm,Qgm,ih];omega
theorem Qq8 (s:List UInt8 × ByteArray) (a c:List Qbn):Qh1 s (a ++ c)=Qh1 (Qh1 s a) c:=List.foldl_append
theorem Qz6 (s:List UInt8 × ByteArray) (p:Qbn):Qh1 s [p] = Zev s p.1 p.2:=rfl
theorem Zie (a l x:ByteArray):(Qw5 a l x).size≤l.size+1:=by
 unfold Qw5
 split
 ·rename_i h
  rw [h.1]
  exact xA 1
 ·omega
theorem Zew (ps:List Qbn):∀ s,(Qh1 s ps).1.length≤s.1.length+Qgm ps:=by
 induction ps with
 | nil=>intro s;exact xA _
 | cons p r ih =>
  intro s
  have h1:=ih (Zev s p.1 p.2)
  have h2:=Zie s.2 p.1 p.2
  have e1:(Qw5 s.2 p.1 p.2).data.size=(Qw5 s.2 p.1 p.2).size:=rfl
  have e2:p.2.data.size=p.2.size:=rfl
  have h3:(Zev s p.1 p.2).1.length=s.1.length+(Qw5 s.2 p.1 p.2).data.size+p.2.data.size:=by unfold Zev;simp only [xB,Array.length_toList]
  show (Qh1 (Zev s p.1 p.2) r).1.length≤_
  rw [Qgm]
  omega
def Qba (co:Bool) (cs:List ByteArray):Nat→List (List Qbn)→List Qbn
 | _,[]=>[]
 | i,p :: r=>(if 0<i∧co=true then [((cs[i-1]?).getD ⟨#[]⟩,⟨#[44]⟩)] else []) ++ p ++ Qba co cs (i+1) r
def Qbw (n:Int) (tx:ByteArray) (cs:List ByteArray):List Part→List ByteArray→List (List Qbn)→List Qbn
 | [],_,_=>[]
 | x :: r,ls,ks=>if x.kids≠0 then Qba x.commas cs 0 (ks.take (Qb5 x n).toNat) ++ Qbw n tx cs r ls (ks.drop (Qb5 x n).toNat)
  else ((ls[0]?).getD ⟨#[]⟩,if x.nm≠0 then tx else x.word) :: Qbw n tx cs r (ls.drop 1) ks
mutual
def Qaf:Tr→List Qbn
 | .mk k x ls ks=>Qbw (Qb6 (Qae k) ks.length).1 x (ls.drop (Qcg (Qae k))) (Qae k) ls (Qgn ks)
def Qgn:List Tr→List (List Qbn)
 | []=>[]
 | t :: r=>Qaf t :: Qgn r
end
theorem Qtj (l:List Tr):Qgn l=l.map Qaf:=by
 induction l with
 | nil=>rfl
 | cons a r ih=>rw [Qgn,ih];rfl
theorem Qdg (t:Tr):Qaf t=Qbw (Qb6 (Qae t.kind) t.kids.length).1 t.text (t.leads.drop (Qcg (Qae t.kind))) (Qae t.kind) t.leads (t.kids.map Qaf):=by
 cases t with
 | mk k x ls ks=>rw [Qaf,Qtj];rfl
def Qnz (t:Tr):List UInt8:=(Qh1 ([],⟨#[]⟩) (Qaf t)).1
theorem TrAt.lows {B:Nat} {w w':World} {t:Tr} {v:TV} (h:TrAt (fun k=>k<B) w t v) (hb:Below B w w'):TrAt (fun k=>k<B) w' t v:=TrAt.move (fun _ h=>h) (fun k hk _=>hb.block k hk) t v h
theorem StrsAt.low {S:Nat→Prop} {w:World} {A:Option Addr} {l:List ByteArray} (h:StrsAt S w A l):StrsAt (fun k=>k<w.heap.size) w A l:=fun hne=>by
 obtain ⟨b,off,hA,_,hc⟩:=h hne
 refine ⟨b,off,hA,?_,hc⟩
 cases l with
 | nil=>exact absurd rfl hne
 | cons a r=>exact xK w _ (hc 0 a rfl)
mutual
theorem TrAt.low {S:Nat→Prop} {w:World}:(t:Tr)→(v:TV)→TrAt S w t v→TrAt (fun k=>k<w.heap.size) w t v
 | .mk k x ls ks,v,h=>by
  unfold TrAt at h ⊢
  obtain ⟨h1,h2,h3,h4,h5,h6,h7⟩:=h
  refine ⟨h1,h2,h3,h4,h5.low,fun hne=>?_,h7⟩
  obtain ⟨b,off,hA,hb,hc⟩:=h6 hne
  refine ⟨b,off,hA,?_,TrsAt.low b ks off hc⟩
  cases ks with
  | nil=>exact absurd rfl hne
  | cons a r =>
   unfold TrsAt at hc
   obtain ⟨u,c0,_⟩:=hc
   exact xK w _ c0
theorem TrsAt.low {S:Nat→Prop} {w:World} (b:Nat):(l:List Tr)→(off:Nat)→TrsAt S w b off l→TrsAt (fun k=>k<w.heap.size) w b off l
 | [],off,h=>trivial
 | t :: r,off,h=>by
  unfold TrsAt at h ⊢
  obtain ⟨v,c0,c1,c2,c3,ht,hr⟩:=h
  exact ⟨v,c0,c1,c2,c3,TrAt.low t v ht,TrsAt.low b r _ hr⟩
end
def Qjg (t:Tr):ByteArray:=if Qal t && Qj0 t then ⟨(Qnz t).toArray⟩ else ⟨#[]⟩
def Ql3:List Part→Int→Bool
 | [],_=>true
 | x :: r,n=>decide (Qb5 x n≤x.most) && Ql3 r n
mutual
def Qgc:Tr→Bool
 | .mk kd _ _ ks=>Ql3 (Qae kd) (Qb6 (Qae kd) ks.length).1 && Ql4 ks
def Ql4:List Tr→Bool
 | []=>true
 | k :: r=>Qgc k && Ql4 r
end
theorem Zif (t:Tr):Qgc t=(Ql3 (Qae t.kind) (Qb6 (Qae t.kind) t.kids.length).1 && Ql4 t.kids):=by
 cases t with
 | mk kd x ls ks=>rw [Qgc];rfl
theorem Qmq (l:List Tr) (j:Nat) (k:Tr) (hk:l[j]? = some k):Ql4 (l.drop j)=(Qgc k && Ql4 (l.drop (j+1))):=by
 obtain ⟨hj,he⟩:=xP.1 hk
 rw [List.drop_eq_getElem_cons hj,he,Ql4]
theorem Qkh (l:List Tr) (j:Nat) (h:l.length≤j):Ql4 (l.drop j)=true:=by
 rw [List.drop_eq_nil_of_le h,Ql4]
def Qga (t:Tr):Bool:=Qal t && Qj0 t && Qgc t && Qdr t 40 && decide ((Qnz t).length≤4096)
def Qms (r:Tr × Nat × Nat) (w:World) (e:Ending) (w':World):Prop :=
 ∃ v:TV,e = .returned (.tuple #[.agg #[.int .i64 v.kind,.string v.text,.slice v.la v.ll v.lc,.slice v.ka v.kl v.kc],.int .i64 r.2.1,.int .i64 r.2.2])∧TrAt (fun k=>w.heap.size≤k∧k<w'.heap.size) w' r.1 v∧Below w.heap.size w w'
theorem Qw9 {n:Nat} {s:ByteArray} {r:Tr × Nat × Nat} (h:Qhd n s=some r) (he:(Qbj s).e≠0):r=(Qiw,(Qbj s).place,(Qbj s).e):=by
 unfold Qhd at h
 rw [xO he] at h
 injection h with h
 exact h.symm
theorem Qtk {n:Nat} {s:ByteArray} {r:Tr × Nat × Nat} (h:Qhd n s=some r) (he:(Qbj s).e=0):∃ t p,Qgi (Qhw n) n 1 (Qae 1) ⟨#[]⟩ [] [] [] (Qn0 s)=some (t,p)∧r=(if p.e≠0 then (Qiw,p.place,p.e) else if Qdr t 40 then (t,0,0) else (Qiw,0,4)):=by
 unfold Qhd at h
 rw [xN (by omega)] at h
 cases hN:Qgi (Qhw n) n 1 (Qae 1) ⟨#[]⟩ [] [] [] (Qn0 s) with
 | none =>
  unfold Qn0 at hN
  rw [hN] at h
  cases h
 | some tp =>
  refine ⟨tp.1,tp.2,rfl,?_⟩
  unfold Qn0 at hN
  rw [hN] at h
  injection h with h
  exact h.symm
theorem Qp0 (S:Nat→Prop) (w:World):TrAt S w Qiw ⟨0,⟨#[]⟩,none,0,0,none,0,0⟩:=by
 unfold Qiw TrAt
 exact ⟨rfl,rfl,rfl,rfl,fun h=>absurd rfl h,fun h=>absurd rfl h,xA _,xA _⟩
theorem Qtl {s:ByteArray} {w:World} {B g cap:Nat} (he:(Qbj s).e=0) (hown:w.ownsRow B 91 3 (.slice (some ⟨g,0,none⟩) ((Qbj s).toks.length+1) cap) ((Qbj s).toks.length+1) (Qco (Qbj s).toks ++ [.int .i64 0,.string (Qbj s).tail,.string ⟨#[]⟩])) (hlt:g<w.heap.size) :
  PIn (w.alloc (.cells #[.slice (some ⟨g,0,none⟩) ((Qbj s).toks.length+1) cap,.int .i64 0,.int .i64 0,.int .i64 0] 93)) w.heap.size (Qn0 s):=by
 have hl:(Qn0 s).rest.length=(Qbj s).toks.length+1:=by unfold Qn0;simp
 have hc:Qco (Qn0 s).rest=Qco (Qbj s).toks ++ [.int .i64 0,.string (Qbj s).tail,.string ⟨#[]⟩]:=by
  show Qco ((Qbj s).toks ++ [_])=_
  rw [Qhv]
 refine ⟨g,0,cap,?_,hlt,?_,?_,Zik he⟩
 ·rw [hl]
  exact xH w _
 ·rw [hl]
  rcases hown.2 with ⟨hv,_⟩|⟨g',cap',cur,hv,_,_,hn,_⟩
  ·simp at hv
  ·simp at hv
   omega
 ·exact Toks.of_own (base:=B) (c:=cap) (by rw [hl,hc];exact hown.alloc _)
theorem Zaa {n:Nat} {s:ByteArray} {r:Tr × Nat × Nat} (w:World) (hs:s.size≤maxLen) (h:Qhd n s=some r) (he:(Qbj s).e≠0):Calls Tryz.prog 26 #[.string s] w (Qms r w):=by
 have HR:=hQ (Qw9 h he)
 have HS:=hQ hs
 have he':(((Qbj s).e:Int) != 0)=true:=by simp;omega
 clear h he hs
 go_enter Tryz.func26,Tryz.ntmps26
 go_wp2_with fail
 go_at_call 64
 refine (Qur s _ HS.out).mono ?_
 rintro e w1 ⟨tv,rfl,_,hb⟩
 have HB:=hQ (((xC w.heap.size w).alloc (xA _) (.cells #[.int .i64 0,.string ⟨#[]⟩,.slice none 0 0,.slice none 0 0] 25)).trans (hb.mono (by simp)))
 have g0:=(hb.block w.heap.size (by simp)).trans (xH w (.cells #[.int .i64 0,.string ⟨#[]⟩,.slice none 0 0,.slice none 0 0] 25))
 clear hb
 have r0:w1.cell? ⟨w.heap.size,0,none⟩=some (.int .i64 0):=Qab g0 0 _ rfl
 have r1:w1.cell? ⟨w.heap.size,1,none⟩=some (.string ⟨#[]⟩):=Qab g0 1 _ rfl
 have r2:w1.cell? ⟨w.heap.size,2,none⟩=some (.slice none 0 0):=Qab g0 2 _ rfl
 have r3:w1.cell? ⟨w.heap.size,3,none⟩=some (.slice none 0 0):=Qab g0 3 _ rfl
 have rf:=xL g0
 clear g0
 go_wp2
 refine bodyPost_ret (v:=.tuple #[.agg #[.int .i64 0,.string ⟨#[]⟩,.slice none 0 0,.slice none 0 0],.int .i64 (Qbj s).place,.int .i64 (Qbj s).e]) (by simp [results,Tryz.results26,go_sem, *]) rfl ?_
 rw [HR.out]
 exact ⟨⟨0,⟨#[]⟩,none,0,0,none,0,0⟩,rfl,Qp0 _ _,(((HB.out.setCell (p:=⟨w.heap.size,0,none⟩) (xA _) _).setCell (p:=⟨w.heap.size,1,none⟩) (xA _) _).setCell (p:=⟨w.heap.size,2,none⟩) (xA _) _).setCell (p:=⟨w.heap.size,3,none⟩) (xA _) _⟩
theorem Qxa {n:Nat} (hn:n≤65536) {s:ByteArray} {r:Tr × Nat × Nat} (w:World) (hs:s.size≤maxLen) (h:Qhd n s=some r) (he:(Qbj s).e=0):Calls Tryz.prog 26 #[.string s] w (Qms r w):=by
 obtain ⟨t,p,hN,hr⟩:=Qtk h he
 have HN:=hQ hN
 have HR:=hQ hr
 have HE:=hQ he
 have HS:=hQ hs
 have HNC:=hQ (Zii hn)
 have HSM:=hQ (show Qbg t=true from Qmr (Qw7 n hn) hn hN)
 have HTL:=hQ (Qoi he).1
 have he':(((Qbj s).e:Int) != 0)=false:=by simp [he]
 clear h he hs hN hr
 obtain ⟨i0,hi,hz0,hz1,hz2⟩:=info_parts Qk1
 go_enter Tryz.func26,Tryz.ntmps26
 go_wp2_with fail
 go_at_call 64
 refine (Qur s _ HS.out).mono ?_
 rintro e w1 ⟨tv,rfl,hown,hb⟩
 rw [xI] at hown
 have HB:=hQ (((xC w.heap.size w).alloc (xA _) (.cells #[.int .i64 0,.string ⟨#[]⟩,.slice none 0 0,.slice none 0 0] 25)).trans (hb.mono (by simp)))
 have HG0:=hQ ((hb.block w.heap.size (by simp)).trans (xH w (.cells #[.int .i64 0,.string ⟨#[]⟩,.slice none 0 0,.slice none 0 0] 25)))
 have HW1:=hQ (show w.heap.size+1≤w1.heap.size from by have:=hb.size;rw [xI] at this;exact this)
 have HOW:=hQ hown
 clear hb hown
 go_wp2_with (at_builtin;refine wpList_append_lies _ (by rfl) _ _ _ (by rfl) (w.heap.size+1) 91 i0 _ 3 40 Tryz.underlying87 hi hz0 hz1 hz2 rfl (by decide) tv (Qbj s).toks.length (Qco (Qbj s).toks) (by rfl) (HOW.out.alloc _) ⟨w1.heap.size,0,none⟩ 1 1 [.int .i64 0,.string (Qbj s).tail,.string ⟨#[]⟩] (by rfl) (by rfl) (xM (cs:=#[.int .i64 0,.string (Qbj s).tail,.string ⟨#[]⟩]) (t:=91) (fr:=(0,0)) (xH w1 _)) (Qmj _ _ _) (by decide) ?b1 ?b2 ?b3 (w1.heap.size+1) (by simp) ?_)
 case b1=>unfold maxLen;have:=HTL.out;omega
 case b2=>have:=HTL.out;omega
 case b3=>have:=HW1.out;simp;omega
 intro g cap w2 hown2 hgrow hat hlt2
 have HP2:=hQ (Qtl HE.out hown2 hlt2)
 have hgb:∀ k,tv.ownBlock=some k→w.heap.size+1≤k:=fun k hk=>(HOW.out.lt k hk).1
 have HB2:=hQ ((HB.out.alloc HB.out.size (.cells #[.int .i64 0,.string (Qbj s).tail,.string ⟨#[]⟩] 91)).grown hgrow (by have:=HW1.out;simp;omega) (fun k hk=>by have:=hgb k hk;omega))
 have HG2:=hQ ((hgrow.block w.heap.size (by have:=HW1.out;simp;omega) (fun e=>by have:=hgb _ e.symm;omega)).trans ((Below.heap_alloc _ _ _ (Qaa HG0.out)).trans HG0.out))
 have HW2:=hQ (show w.heap.size+1≤w2.heap.size from by have h1:=hgrow.size;rw [xI] at h1;have:=HW1.out;omega)
 clear hown2 hgrow hat hlt2 hgb hi hz0 hz1 hz2
 go_wp2_with fail
 go_at_call 65
 refine (HNC.out w2.heap.size 1 (Qn0 s) t p _ HN.out HP2.out).mono ?_
 rintro e w3 ⟨v,rfl,htr,hp3,ho3⟩
 have HTR:=hQ htr
 have HP3:=hQ hp3
 have HA2:=hQ (show Below w.heap.size w (w2.alloc (.cells #[.slice (some ⟨g,0,none⟩) ((Qbj s).toks.length+1) cap,.int .i64 0,.int .i64 0,.int .i64 0] 93)) from HB2.out.alloc HB2.out.size _)
 have HB3:=hQ (HA2.out.trans (ho3.below (B:=w.heap.size) (by have:=HW2.out;omega) (by rw [xI];have:=HW2.out;omega)))
 have HG3:=hQ ((ho3.block w.heap.size (by rw [xI];have:=HW2.out;omega) (by have:=HW2.out;omega)).trans ((Below.heap_alloc _ _ _ (Qaa HG2.out)).trans HG2.out))
 have HW3:=hQ (show w2.heap.size+1≤w3.heap.size from by have:=ho3.size;rw [xI] at this;exact this)
 clear htr hp3 ho3
 obtain ⟨tb,off,c,hpa⟩:=HP3.out
 have q2:w3.cell? ⟨w2.heap.size,2,none⟩=some (.int .i64 p.place):=hpa.c2
 have q3:w3.cell? ⟨w2.heap.size,3,none⟩=some (.int .i64 p.e):=hpa.c3
 have qe:=hpa.lt
 clear hpa
 have r0:w3.cell? ⟨w.heap.size,0,none⟩=some (.int .i64 0):=Qab HG3.out 0 _ rfl
 have r1:w3.cell? ⟨w.heap.size,1,none⟩=some (.string ⟨#[]⟩):=Qab HG3.out 1 _ rfl
 have r2:w3.cell? ⟨w.heap.size,2,none⟩=some (.slice none 0 0):=Qab HG3.out 2 _ rfl
 have r3:w3.cell? ⟨w.heap.size,3,none⟩=some (.slice none 0 0):=Qab HG3.out 3 _ rfl
 have rf:=xL HG3.out
 have ne1:w.heap.size≠w2.heap.size:=by have:=HW2.out;omega
 by_cases hpe:p.e=0
 ·have hpe':((p.e:Int) != 0)=false:=by simp [hpe]
  have HPE:=hQ hpe
  clear hpe
  go_wp2_with fail
  have hR:Rest (fun k=>k=w.heap.size) w3 ((((w3.setCell ⟨w.heap.size,0,none⟩ (.int .i64 v.kind)).setCell ⟨w.heap.size,1,none⟩ (.string v.text)).setCell ⟨w.heap.size,2,none⟩ (.slice v.la v.ll v.lc)).setCell ⟨w.heap.size,3,none⟩ (.slice v.ka v.kl v.kc)):=(((Rest.set1 _ _ _).trans (Rest.set1 _ _ _)).trans (Rest.set1 _ _ _)).trans (Rest.set1 _ _ _)
  have hB4:Below w.heap.size w ((((w3.setCell ⟨w.heap.size,0,none⟩ (.int .i64 v.kind)).setCell ⟨w.heap.size,1,none⟩ (.string v.text)).setCell ⟨w.heap.size,2,none⟩ (.slice v.la v.ll v.lc)).setCell ⟨w.heap.size,3,none⟩ (.slice v.ka v.kl v.kc)):=(((HB3.out.setCell (p:=⟨w.heap.size,0,none⟩) (xA _) _).setCell (p:=⟨w.heap.size,1,none⟩) (xA _) _).setCell (p:=⟨w.heap.size,2,none⟩) (xA _) _).setCell (p:=⟨w.heap.size,3,none⟩) (xA _) _
  have g0:(w3.setCell ⟨w.heap.size,0,none⟩ (.int .i64 v.kind)).heap[w.heap.size]? = some (.cells #[.int .i64 v.kind,.string ⟨#[]⟩,.slice none 0 0,.slice none 0 0] 25 (0,0)):=Qa2 HG3.out rfl
  have g1:((w3.setCell ⟨w.heap.size,0,none⟩ (.int .i64 v.kind)).setCell ⟨w.heap.size,1,none⟩ (.string v.text)).heap[w.heap.size]? = some (.cells #[.int .i64 v.kind,.string v.text,.slice none 0 0,.slice none 0 0] 25 (0,0)):=Qa2 g0 rfl
  have g2:(((w3.setCell ⟨w.heap.size,0,none⟩ (.int .i64 v.kind)).setCell ⟨w.heap.size,1,none⟩ (.string v.text)).setCell ⟨w.heap.size,2,none⟩ (.slice v.la v.ll v.lc)).heap[w.heap.size]? = some (.cells #[.int .i64 v.kind,.string v.text,.slice v.la v.ll v.lc,.slice none 0 0] 25 (0,0)):=Qa2 g1 rfl
  have g3:((((w3.setCell ⟨w.heap.size,0,none⟩ (.int .i64 v.kind)).setCell ⟨w.heap.size,1,none⟩ (.string v.text)).setCell ⟨w.heap.size,2,none⟩ (.slice v.la v.ll v.lc)).setCell ⟨w.heap.size,3,none⟩ (.slice v.ka v.kl v.kc)).heap[w.heap.size]? = some (.cells #[.int .i64 v.kind,.string v.text,.slice v.la v.ll v.lc,.slice v.ka v.kl v.kc] 25 (0,0)):=Qa2 g2 rfl
  have ht4:TrAt (fun k=>w.heap.size+1≤k∧k<((((w3.setCell ⟨w.heap.size,0,none⟩ (.int .i64 v.kind)).setCell ⟨w.heap.size,1,none⟩ (.string v.text)).setCell ⟨w.heap.size,2,none⟩ (.slice v.la v.ll v.lc)).setCell ⟨w.heap.size,3,none⟩ (.slice v.ka v.kl v.kc)).heap.size) ((((w3.setCell ⟨w.heap.size,0,none⟩ (.int .i64 v.kind)).setCell ⟨w.heap.size,1,none⟩ (.string v.text)).setCell ⟨w.heap.size,2,none⟩ (.slice v.la v.ll v.lc)).setCell ⟨w.heap.size,3,none⟩ (.slice v.ka v.kl v.kc)) t v:=TrAt.move (fun k hk=>⟨by have:=hk.1;rw [xI] at this;have:=HW2.out;omega,xE hk.2 hR.size⟩) (fun k hk hlt=>hR.block k hlt (fun e:k=w.heap.size=>by have:=hk.1;rw [xI] at this;have:=HW2.out;omega)) _ _ HTR.out
  have HR4:=hQ hR
  have HB4:=hQ hB4
  have HG4:=hQ g3
  have HT4:=hQ ht4
  clear hR hB4 g0 g1 g2 g3 ht4 r0 r1 r2 r3 rf
  generalize ((((w3.setCell ⟨w.heap.size,0,none⟩ (.int .i64 v.kind)).setCell ⟨w.heap.size,1,none⟩ (.string v.text)).setCell ⟨w.heap.size,2,none⟩ (.slice v.la v.ll v.lc)).setCell ⟨w.heap.size,3,none⟩ (.slice v.ka v.kl v.kc))=W4 at HR4 HB4 HG4 HT4 ⊢
  go_at_call 66
  refine (Qw2 40 _ t v _ (by decide) HT4.out HSM.out).mono ?_
  rintro e w5 ⟨rfl,hb5⟩
  have HB5:=hQ hb5
  have hg5:=(hb5.block w.heap.size (Qaa HG4.out)).trans HG4.out
  have r0:w5.cell? ⟨w.heap.size,0,none⟩=some (.int .i64 v.kind):=Qab hg5 0 _ rfl
  have r1:w5.cell? ⟨w.heap.size,1,none⟩=some (.string v.text):=Qab hg5 1 _ rfl
  have r2:w5.cell? ⟨w.heap.size,2,none⟩=some (.slice v.la v.ll v.lc):=Qab hg5 2 _ rfl
  have r3:w5.cell? ⟨w.heap.size,3,none⟩=some (.slice v.ka v.kl v.kc):=Qab hg5 3 _ rfl
  have rf:=xL hg5
  clear hb5 hg5 q2 q3 qe
  have HBW:=hQ (HB4.out.trans (HB5.out.mono HB4.out.size))
  cases hwt:Qdr t 40
  ·have HRR:=hQ (show r=(Qiw,0,4) from by rw [HR.out,HPE.out,hwt];rfl)
   go_wp2
   refine bodyPost_ret (v:=.tuple #[.agg #[.int .i64 0,.string ⟨#[]⟩,.slice none 0 0,.slice none 0 0],.int .i64 0,.int .i64 4]) (by simp [results,Tryz.results26,go_sem, *]) rfl ?_
   rw [HRR.out]
   exact ⟨⟨0,⟨#[]⟩,none,0,0,none,0,0⟩,rfl,Qp0 _ _,(((HBW.out.setCell (p:=⟨w.heap.size,0,none⟩) (xA _) _).setCell (p:=⟨w.heap.size,1,none⟩) (xA _) _).setCell (p:=⟨w.heap.size,2,none⟩) (xA _) _).setCell (p:=⟨w.heap.size,3,none⟩) (xA _) _⟩
  ·have HRR:=hQ (show r=(t,0,0) from by rw [HR.out,HPE.out,hwt];rfl)
   go_wp2
   refine bodyPost_ret (v:=.tuple #[.agg #[.int .i64 v.kind,.string v.text,.slice v.la v.ll v.lc,.slice v.ka v.kl v.kc],.int .i64 0,.int .i64 0]) (by simp [results,Tryz.results26,go_sem, *]) rfl ?_
   rw [HRR.out]
   have hR5:=(((Rest.set1 (w:=w5) w.heap.size 0 (.int .i64 v.kind)).trans (Rest.set1 w.heap.size 1 (.string v.text))).trans (Rest.set1 w.heap.size 2 (.slice v.la v.ll v.lc))).trans (Rest.set1 w.heap.size 3 (.slice v.ka v.kl v.kc))
   exact ⟨v,rfl,TrAt.move (fun k hk=>⟨by have:=hk.1;omega,xE hk.2 (xQ HB5.out.size hR5.size)⟩) (fun k hk hlt=>hR5.block k hlt (fun e:k=w.heap.size=>by have:=hk.1;omega)) _ _ (HT4.out.keep HB5.out),(((HBW.out.setCell (p:=⟨w.heap.size,0,none⟩) (xA _) _).setCell (p:=⟨w.heap.size,1,none⟩) (xA _) _).setCell (p:=⟨w.heap.size,2,none⟩) (xA _) _).setCell (p:=⟨w.heap.size,3,none⟩) (xA _) _⟩
 ·have hpe':((p.e:Int) != 0)=true:=by simp;omega
  have HRR:=hQ (show r=(Qiw,p.place,p.e) from by rw [HR.out,xO hpe])
  clear hpe
  go_wp2_with fail
  have hR:Rest (fun k=>k=w.heap.size) w3 ((((w3.setCell ⟨w.heap.size,0,none⟩ (.int .i64 v.kind)).setCell ⟨w.heap.size,1,none⟩ (.string v.text)).setCell ⟨w.heap.size,2,none⟩ (.slice v.la v.ll v.lc)).setCell ⟨w.heap.size,3,none⟩ (.slice v.ka v.kl v.kc)):=(((Rest.set1 _ _ _).trans (Rest.set1 _ _ _)).trans (Rest.set1 _ _ _)).trans (Rest.set1 _ _ _)
  have hB4:Below w.heap.size w ((((w3.setCell ⟨w.heap.size,0,none⟩ (.int .i64 v.kind)).setCell ⟨w.heap.size,1,none⟩ (.string v.text)).setCell ⟨w.heap.size,2,none⟩ (.slice v.la v.ll v.lc)).setCell ⟨w.heap.size,3,none⟩ (.slice v.ka v.kl v.kc)):=(((HB3.out.setCell (p:=⟨w.heap.size,0,none⟩) (xA _) _).setCell (p:=⟨w.heap.size,1,none⟩) (xA _) _).setCell (p:=⟨w.heap.size,2,none⟩) (xA _) _).setCell (p:=⟨w.heap.size,3,none⟩) (xA _) _
  have g0:(w3.setCell ⟨w.heap.size,0,none⟩ (.int .i64 v.kind)).heap[w.heap.size]? = some (.cells #[.int .i64 v.kind,.string ⟨#[]⟩,.slice none 0 0,.slice none 0 0] 25 (0,0)):=Qa2 HG3.out rfl
  have g1:((w3.setCell ⟨w.heap.size,0,none⟩ (.int .i64 v.kind)).setCell ⟨w.heap.size,1,none⟩ (.string v.text)).heap[w.heap.size]? = some (.cells #[.int .i64 v.kind,.string v.text,.slice none 0 0,.slice none 0 0] 25 (0,0)):=Qa2 g0 rfl
  have g2:(((w3.setCell ⟨w.heap.size,0,none⟩ (.int .i64 v.kind)).setCell ⟨w.heap.size,1,none⟩ (.string v.text)).setCell ⟨w.heap.size,2,none⟩ (.slice v.la v.ll v.lc)).heap[w.heap.size]? = some (.cells #[.int .i64 v.kind,.string v.text,.slice v.la v.ll v.lc,.slice none 0 0] 25 (0,0)):=Qa2 g1 rfl
  have g3:((((w3.setCell ⟨w.heap.size,0,none⟩ (.int .i64 v.kind)).setCell ⟨w.heap.size,1,none⟩ (.string v.text)).setCell ⟨w.heap.size,2,none⟩ (.slice v.la v.ll v.lc)).setCell ⟨w.heap.size,3,none⟩ (.slice v.ka v.kl v.kc)).heap[w.heap.size]? = some (.cells #[.int .i64 v.kind,.string v.text,.slice v.la v.ll v.lc,.slice v.ka v.kl v.kc] 25 (0,0)):=Qa2 g2 rfl
  have ht4:TrAt (fun k=>w.heap.size+1≤k∧k<((((w3.setCell ⟨w.heap.size,0,none⟩ (.int .i64 v.kind)).setCell ⟨w.heap.size,1,none⟩ (.string v.text)).setCell ⟨w.heap.size,2,none⟩ (.slice v.la v.ll v.lc)).setCell ⟨w.heap.size,3,none⟩ (.slice v.ka v.kl v.kc)).heap.size) ((((w3.setCell ⟨w.heap.size,0,none⟩ (.int .i64 v.kind)).setCell ⟨w.heap.size,1,none⟩ (.string v.text)).setCell ⟨w.heap.size,2,none⟩ (.slice v.la v.ll v.lc)).setCell ⟨w.heap.size,3,none⟩ (.slice v.ka v.kl v.kc)) t v:=TrAt.move (fun k hk=>⟨by have:=hk.1;rw [xI] at this;have:=HW2.out;omega,xE hk.2 hR.size⟩) (fun k hk hlt=>hR.block k hlt (fun e:k=w.heap.size=>by have:=hk.1;rw [xI] at this;have:=HW2.out;omega)) _ _ HTR.out
  have HR4:=hQ hR
  have HB4:=hQ hB4
  have HG4:=hQ g3
  have HT4:=hQ ht4
  clear hR hB4 g0 g1 g2 g3 ht4 r0 r1 r2 r3 rf
  have p2:=(xJ (w:=w3) (a:=⟨w2.heap.size,2,none⟩) (HR4.out.block w2.heap.size qe (fun e:w2.heap.size=w.heap.size=>ne1 e.symm))).trans q2
  have p3:=(xJ (w:=w3) (a:=⟨w2.heap.size,3,none⟩) (HR4.out.block w2.heap.size qe (fun e:w2.heap.size=w.heap.size=>ne1 e.symm))).trans q3
  clear q2 q3 qe
  generalize ((((w3.setCell ⟨w.heap.size,0,none⟩ (.int .i64 v.kind)).setCell ⟨w.heap.size,1,none⟩ (.string v.text)).setCell ⟨w.heap.size,2,none⟩ (.slice v.la v.ll v.lc)).setCell ⟨w.heap.size,3,none⟩ (.slice v.ka v.kl v.kc))=W4 at HR4 HB4 HG4 HT4 p2 p3 ⊢
  have r0:W4.cell? ⟨w.heap.size,0,none⟩=some (.int .i64 v.kind):=Qab HG4.out 0 _ rfl
  have r1:W4.cell? ⟨w.heap.size,1,none⟩=some (.string v.text):=Qab HG4.out 1 _ rfl
  have r2:W4.cell? ⟨w.heap.size,2,none⟩=some (.slice v.la v.ll v.lc):=Qab HG4.out 2 _ rfl
  have r3:W4.cell? ⟨w.heap.size,3,none⟩=some (.slice v.ka v.kl v.kc):=Qab HG4.out 3 _ rfl
  have rf:=xL HG4.out
  go_region
  all_goals
   go_wp2
   refine bodyPost_ret (v:=.tuple #[.agg #[.int .i64 0,.string ⟨#[]⟩,.slice none 0 0,.slice none 0 0],.int .i64 p.place,.int .i64 p.e]) (by simp [results,Tryz.results26,go_sem, *]) rfl ?_
   rw [HRR.out]
   exact ⟨⟨0,⟨#[]⟩,none,0,0,none,0,0⟩,rfl,Qp0 _ _,((((HB4.out.setCell (p:=⟨w.heap.size,0,none⟩) (xA _) _).setCell (p:=⟨w.heap.size,1,none⟩) (xA _) _).setCell (p:=⟨w.heap.size,2,none⟩) (xA _) _).setCell (p:=⟨w.heap.size,3,none⟩) (xA _) _).drew⟩
theorem Qrc {n:Nat} (hn:n≤65536) {s:ByteArray} {r:Tr × Nat × Nat} (w:World) (hs:s.size≤maxLen) (h:Qhd n s=some r):Calls Tryz.prog 26 #[.string s] w (Qms r w):=by
 by_cases he:(Qbj s).e=0
 ·exact Qxa hn w hs h he
 ·exact Zaa w hs h he
def Qfk (w:World) (b:Nat) (u:TV):World:=(((w.setCell ⟨b,0,none⟩ (.int .i64 u.kind)).setCell ⟨b,1,none⟩ (.string u.text)).setCell ⟨b,2,none⟩ (.slice u.la u.ll u.lc)).setCell ⟨b,3,none⟩ (.slice u.ka u.kl u.kc)
def trO (v:TV):Obj:=.cells #[.int .i64 v.kind,.string v.text,.slice v.la v.ll v.lc,.slice v.ka v.kl v.kc] 25
theorem Qii {w:World} {b:Nat} {v:TV} (u:TV) (h:w.heap[b]? = some (trO v)):(Qfk w b u).heap[b]? = some (trO u):=Qa2 (Qa2 (Qa2 (Qa2 h rfl) rfl) rfl) rfl
theorem Qd4 (w:World) (b:Nat) (u:TV):Below b w (Qfk w b u):=((((xC b w).setCell (p:=⟨b,0,none⟩) (xA _) _).setCell (p:=⟨b,1,none⟩) (xA _) _).setCell (p:=⟨b,2,none⟩) (xA _) _).setCell (p:=⟨b,3,none⟩) (xA _) _
mutual
def Qah:Tr→Nat
 | .mk _ _ _ ks=>1+Qam ks
def Qam:List Tr→Nat
 | []=>0
 | t :: r=>Qah t+Qam r
end
mutual
def Qfb:Tr→Nat
 | .mk _ _ _ ks=>Qd0 ks+1
def Qd0:List Tr→Nat
 | []=>0
 | t :: r=>max (Qfb t) (Qd0 r)
end
theorem Qa3 (t:Tr):Qah t=1+Qam t.kids:=by cases t;rw [Qah];rfl
theorem Qmt (t:Tr):Qfb t=Qd0 t.kids+1:=by cases t;rw [Qfb];rfl
theorem Qeh:(a b:List Tr)→Qam (a ++ b)=Qam a+Qam b
 | [],b=>by rw [xU,Qam];omega
 | t :: r,b=>by rw [xV,Qam,Qam,Qeh r b];omega
theorem Qki:(a b:List Tr)→Qd0 (a ++ b)=max (Qd0 a) (Qd0 b)
 | [],b=>by rw [xU,Qd0];omega
 | t :: r,b=>by rw [xV,Qd0,Qd0,Qki r b];omega
theorem Qhh {α:Type} {l:List α} {j:Nat} {k:α} (h:l[j]? = some k):l.take (j+1)=l.take j ++ [k]:=by
 rw [List.take_add_one,h]
 rfl
theorem Qe3 {l:List Tr} {j:Nat} {k:Tr} (h:l[j]? = some k):Qam (l.take (j+1))=Qam (l.take j)+Qah k:=by
 rw [Qhh h,Qeh,Qam,Qam]
 omega
theorem Qtm {l:List Tr} {j:Nat} {k:Tr} (h:l[j]? = some k):Qd0 (l.take (j+1))=max (Qd0 (l.take j)) (Qfb k):=by
 rw [Qhh h,Qki,Qd0,Qd0]
 omega
theorem Qfc (l:List Tr) (j:Nat):Qam (l.take j)≤Qam l:=by
 conv=>rhs;rw [←List.take_append_drop j l,Qeh]
 omega
theorem Qbb {t k:Tr} {j:Nat} (h:t.kids[j]? = some k):Qah k≤Qah t:=by
 have h1:=Qe3 h
 have h2:=Qfc t.kids (j+1)
 rw [Qa3 t]
 omega
theorem Qa0:(l:List Tr)→l.length≤Qam l
 | []=>xZ _
 | t :: r=>by
  rw [Qam,xD,Qa3]
  have:=Qa0 r
  omega
theorem Qas {t k:Tr} {j:Nat} (h:t.kids[j]? = some k):SizeOf.sizeOf k<SizeOf.sizeOf t:=by
 cases t with
 | mk kd x ls ks =>
  have:=List.sizeOf_lt_of_mem (yA (show ks[j]? = some k from h))
  rw [Tr.mk.sizeOf_spec]
  omega
theorem Qgu (t:Tr):0<SizeOf.sizeOf t:=by cases t;rw [Tr.mk.sizeOf_spec];omega
def Zil (f:List Tr→Nat) (t:Tr) (W:World) (n i:Value) (wr:World):Prop:=∃ j:Nat,i = .int .i64 j∧j≤t.kids.length∧n = .int .i64 (f (t.kids.take j):Nat)∧Below W.heap.size W wr
def Zj4 (n m:Int):Int:=if n.tmod m<0 then n.tmod m+m else n.tmod m
theorem Zau (n:Int) {m:Int} (hm:0<m):0≤Zj4 n m∧Zj4 n m<m:=by
 have h1:=Int.tmod_lt_of_pos n hm
 have h2:-m<n.tmod m:=Int.lt_tmod_of_pos n hm
 unfold Zj4
 split <;> omega
theorem Zix (n m:Int) (w:World) (hm:0<m) (hm2:m≤1000000):Calls Tryz.prog 45 #[.int .i64 n,.int .i64 m] w fun e w'=>e = .returned (.int .i64 (Zj4 n m))∧w=w':=by
 have h1:=Int.tmod_lt_of_pos n hm
 have h2:-m<n.tmod m:=Int.lt_tmod_of_pos n hm
 have HM:=hQ (show Zj4 n m=if n.tmod m<0 then n.tmod m+m else n.tmod m from rfl)
 have h0:m≠0:=by omega
 have hb:=Qck h0
 by_cases h:n.tmod m<0
 all_goals
  go_enter Tryz.func45,Tryz.ntmps45
  go_wp2
  go_ret
  exact ⟨Qcf (by rw [HM.out];split <;> omega),rfl⟩
end Go.Proofs.YtclkilljmdkfaaaGreat
