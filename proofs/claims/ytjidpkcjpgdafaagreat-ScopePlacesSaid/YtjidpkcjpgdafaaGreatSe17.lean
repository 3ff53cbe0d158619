/- Part 17 -/
import Derived.Test.YtjidpkcjpgdafaaGreatSe16
import Derived.Shelf.Strings.Builder1
import Derived.Lib.Builder
set_option maxRecDepth 100000
set_option maxHeartbeats 4000000
namespace Go.Proofs.YtjidpkcjpgdafaaGreat
open Go.RowKit
def Qlr (kd:Int):Nat→List ByteArray→Bool
 | _,[]=>true
 | i,y :: r=>Qf5 y (kd==1 && (i:Int)==2) && Qlr kd (i+1) r
mutual
def Qjl:Tr→Bool
 | .mk kd _ ls ks=>((ls.length:Int)==Qk9 kd ks.length) && Qlr kd 0 ls && Qrs ks
def Qrs:List Tr→Bool
 | []=>true
 | k :: r=>Qjl k && Qrs r
end
theorem Ze1 (t:Tr):Qjl t=(((t.leads.length:Int)==Qk9 t.kind t.kids.length) && Qlr t.kind 0 t.leads && Qrs t.kids):=by
 cases t with
 | mk kd x ls ks=>rw [Qjl];rfl
theorem Zb6 (kd:Int) (l:List ByteArray) (i:Nat) (y:ByteArray) (hy:l[i]? = some y):Qlr kd i (l.drop i)=(Qf5 y (kd==1 && (i:Int)==2) && Qlr kd (i+1) (l.drop (i+1))):=by
 obtain ⟨hi,he⟩:=xP.1 hy;rw [List.drop_eq_getElem_cons hi,he,Qlr]
theorem Qyf (kd:Int) (l:List ByteArray) (i:Nat) (h:l.length≤i):Qlr kd i (l.drop i)=true:=by
 rw [List.drop_eq_nil_of_le h,Qlr]
theorem Ze2 (l:List Tr) (j:Nat) (k:Tr) (hk:l[j]? = some k):Qrs (l.drop j)=(Qjl k && Qrs (l.drop (j+1))):=by
 obtain ⟨hj,he⟩:=xP.1 hk;rw [List.drop_eq_getElem_cons hj,he,Qrs]
theorem Zb7 (l:List Tr) (j:Nat) (h:l.length≤j):Qrs (l.drop j)=true:=by
 rw [List.drop_eq_nil_of_le h,Qrs]
theorem TrAt.laddr {S:Nat→Prop} {w:World} {t:Tr} {v:TV} (h:TrAt S w t v):t.leads.length=0∨∃ b off,v.la=some ⟨b,off,none⟩:=by
 cases t with
 | mk kd tx ls ks =>
  unfold TrAt at h;cases ls with
  | nil=>exact .inl rfl
  | cons a r =>
   obtain ⟨b,off,hA,_⟩:=h.2.2.2.2.1 (by simp);exact .inr ⟨b,off,hA⟩
theorem TrAt.lat {S:Nat→Prop} {w:World} {t:Tr} {v:TV} {b off:Nat} (h:TrAt S w t v) (hA:v.la=some ⟨b,off,none⟩) {i:Nat} {y:ByteArray} (hy:t.leads[i]? = some y):w.cell? ⟨b,off+i,none⟩=some (.string y):=by
 cases t with
 | mk kd tx ls ks =>
  unfold TrAt at h;obtain ⟨b',off',hA',_,hc⟩:=h.2.2.2.2.1 (by intro e;rw [show (Tr.mk kd tx ls ks).leads=ls from rfl,e] at hy;simp at hy);rw [hA] at hA';injection hA' with e;injection e with e1 e2 _;subst e1 e2;exact hc i y hy
def Qvp (last lead text:ByteArray):ByteArray:=if lead.size=0∧Qf8 last text=true then ⟨#[32]⟩ else lead
def Zb8 (s:List UInt8 × ByteArray) (lead text:ByteArray):List UInt8 × ByteArray:=(s.1 ++ (Qvp s.2 lead text).data.toList ++ text.data.toList,text)
theorem Qml {x:ByteArray} (h:x.size=0):x=⟨#[]⟩:=by
 obtain ⟨d⟩:=x;have:d.size=0:=h
 rw [Array.eq_empty_of_size_eq_zero this]
abbrev Qbi:=ByteArray × ByteArray
def Qhr (s:List UInt8 × ByteArray) (ps:List Qbi):List UInt8 × ByteArray:=ps.foldl (fun s p=>Zb8 s p.1 p.2) s
def Qgm:List Qbi→Nat
 | []=>0
 | p :: r=>p.1.size+p.2.size+1+Qgm r
theorem Qlc (a c:List Qbi):Qgm (a ++ c)=Qgm a+Qgm c:=by
 induction a with
 | nil=>simp [Qgm]
 | cons p r ih=>rw [xV,Qgm,Qgm,ih];omega
theorem Qqn (s:List UInt8 × ByteArray) (a c:List Qbi):Qhr s (a ++ c)=Qhr (Qhr s a) c:=List.foldl_append
theorem Qyg (s:List UInt8 × ByteArray) (p:Qbi):Qhr s [p] = Zb8 s p.1 p.2:=rfl
theorem Ze3 (a l x:ByteArray):(Qvp a l x).size≤l.size+1:=by
 unfold Qvp
 split
 ·rename_i h
  rw [h.1];exact xA 1
 ·omega
theorem Zb9 (ps:List Qbi):∀ s,(Qhr s ps).1.length≤s.1.length+Qgm ps:=by
 induction ps with
 | nil=>intro s;exact xA _
 | cons p r ih =>
  intro s;have h1:=ih (Zb8 s p.1 p.2);have h2:=Ze3 s.2 p.1 p.2;have e1:(Qvp s.2 p.1 p.2).data.size=(Qvp s.2 p.1 p.2).size:=rfl;have e2:p.2.data.size=p.2.size:=rfl;have h3:(Zb8 s p.1 p.2).1.length=s.1.length+(Qvp s.2 p.1 p.2).data.size+p.2.data.size:=by unfold Zb8;simp only [xB,Array.length_toList]
  show (Qhr (Zb8 s p.1 p.2) r).1.length≤_
  rw [Qgm];omega
def Qa8 (co:Bool) (cs:List ByteArray):Nat→List (List Qbi)→List Qbi
 | _,[]=>[]
 | i,p :: r=>(if 0<i∧co=true then [((cs[i-1]?).getD ⟨#[]⟩,⟨#[44]⟩)] else []) ++ p ++ Qa8 co cs (i+1) r
def Qbo (n:Int) (tx:ByteArray) (cs:List ByteArray):List Part→List ByteArray→List (List Qbi)→List Qbi
 | [],_,_=>[]
 | x :: r,ls,ks=>if x.kids≠0 then Qa8 x.commas cs 0 (ks.take (Qbx x n).toNat) ++ Qbo n tx cs r ls (ks.drop (Qbx x n).toNat)
  else ((ls[0]?).getD ⟨#[]⟩,if x.nm≠0 then tx else x.word) :: Qbo n tx cs r (ls.drop 1) ks
mutual
def Qaf:Tr→List Qbi
 | .mk k x ls ks=>Qbo (Qb1 (Qae k) ks.length).1 x (ls.drop (Qb9 (Qae k))) (Qae k) ls (Qgn ks)
def Qgn:List Tr→List (List Qbi)
 | []=>[]
 | t :: r=>Qaf t :: Qgn r
end
theorem Qsf (l:List Tr):Qgn l=l.map Qaf:=by
 induction l with
 | nil=>rfl
 | cons a r ih=>rw [Qgn,ih];rfl
theorem Qc7 (t:Tr):Qaf t=Qbo (Qb1 (Qae t.kind) t.kids.length).1 t.text (t.leads.drop (Qb9 (Qae t.kind))) (Qae t.kind) t.leads (t.kids.map Qaf):=by
 cases t with
 | mk k x ls ks=>rw [Qaf,Qsf];rfl
def Qns (t:Tr):List UInt8:=(Qhr ([],⟨#[]⟩) (Qaf t)).1
theorem TrAt.lows {B:Nat} {w w':World} {t:Tr} {v:TV} (h:TrAt (fun k=>k<B) w t v) (hb:Below B w w'):TrAt (fun k=>k<B) w' t v:=TrAt.move (fun _ h=>h) (fun k hk _=>hb.block k hk) t v h
theorem StrsAt.low {S:Nat→Prop} {w:World} {A:Option Addr} {l:List ByteArray} (h:StrsAt S w A l):StrsAt (fun k=>k<w.heap.size) w A l:=fun hne=>by
 obtain ⟨b,off,hA,_,hc⟩:=h hne;refine ⟨b,off,hA,?_,hc⟩;cases l with
 | nil=>exact absurd rfl hne
 | cons a r=>exact xK w _ (hc 0 a rfl)
mutual
theorem TrAt.low {S:Nat→Prop} {w:World}:(t:Tr)→(v:TV)→TrAt S w t v→TrAt (fun k=>k<w.heap.size) w t v
 | .mk k x ls ks,v,h=>by
  unfold TrAt at h ⊢;obtain ⟨h1,h2,h3,h4,h5,h6,h7⟩:=h;refine ⟨h1,h2,h3,h4,h5.low,fun hne=>?_,h7⟩;obtain ⟨b,off,hA,hb,hc⟩:=h6 hne;refine ⟨b,off,hA,?_,TrsAt.low b ks off hc⟩;cases ks with
  | nil=>exact absurd rfl hne
  | cons a r =>
   unfold TrsAt at hc;obtain ⟨u,c0,_⟩:=hc;exact xK w _ c0
theorem TrsAt.low {S:Nat→Prop} {w:World} (b:Nat):(l:List Tr)→(off:Nat)→TrsAt S w b off l→TrsAt (fun k=>k<w.heap.size) w b off l
 | [],off,h=>trivial
 | t :: r,off,h=>by
  unfold TrsAt at h ⊢;obtain ⟨v,c0,c1,c2,c3,ht,hr⟩:=h;exact ⟨v,c0,c1,c2,c3,TrAt.low t v ht,TrsAt.low b r _ hr⟩
end
def Qi2 (t:Tr):ByteArray:=if Qap t && Qjl t then ⟨(Qns t).toArray⟩ else ⟨#[]⟩
def Qls:List Part→Int→Bool
 | [],_=>true
 | x :: r,n=>decide (Qbx x n≤x.most) && Qls r n
mutual
def Qga:Tr→Bool
 | .mk kd _ _ ks=>Qls (Qae kd) (Qb1 (Qae kd) ks.length).1 && Qlt ks
def Qlt:List Tr→Bool
 | []=>true
 | k :: r=>Qga k && Qlt r
end
theorem Ze4 (t:Tr):Qga t=(Qls (Qae t.kind) (Qb1 (Qae t.kind) t.kids.length).1 && Qlt t.kids):=by
 cases t with
 | mk kd x ls ks=>rw [Qga];rfl
theorem Qmm (l:List Tr) (j:Nat) (k:Tr) (hk:l[j]? = some k):Qlt (l.drop j)=(Qga k && Qlt (l.drop (j+1))):=by
 obtain ⟨hj,he⟩:=xP.1 hk;rw [List.drop_eq_getElem_cons hj,he,Qlt]
theorem Qj1 (l:List Tr) (j:Nat) (h:l.length≤j):Qlt (l.drop j)=true:=by
 rw [List.drop_eq_nil_of_le h,Qlt]
def Qgo (t:Tr):Bool:=Qap t && Qjl t && Qga t && Qdm t 40 && decide ((Qns t).length≤4096)
def Qmo (r:Tr × Nat × Nat) (w:World) (e:Ending) (w':World):Prop :=
 ∃ v:TV,e = .returned (.tuple #[.agg #[.int .i64 v.kind,.string v.text,.slice v.la v.ll v.lc,.slice v.ka v.kl v.kc],.int .i64 r.2.1,.int .i64 r.2.2])∧TrAt (fun k=>w.heap.size≤k∧k<w'.heap.size) w' r.1 v∧Below w.heap.size w w'
theorem Qvt {n:Nat} {s:ByteArray} {r:Tr × Nat × Nat} (h:Qi0 n s=some r) (he:(Qbf s).e≠0):r=(Qkk,(Qbf s).place,(Qbf s).e):=by
 unfold Qi0 at h;rw [xO he] at h;injection h with h;exact h.symm
theorem Qsg {n:Nat} {s:ByteArray} {r:Tr × Nat × Nat} (h:Qi0 n s=some r) (he:(Qbf s).e=0):∃ t p,Qgh (Qhm n) n 1 (Qae 1) ⟨#[]⟩ [] [] [] (Qnt s)=some (t,p)∧r=(if p.e≠0 then (Qkk,p.place,p.e) else if Qdm t 40 then (t,0,0) else (Qkk,0,4)):=by
 unfold Qi0 at h;rw [xN (by omega)] at h;cases hN:Qgh (Qhm n) n 1 (Qae 1) ⟨#[]⟩ [] [] [] (Qnt s) with
 | none =>
  unfold Qnt at hN;rw [hN] at h;cases h
 | some tp =>
  refine ⟨tp.1,tp.2,rfl,?_⟩;unfold Qnt at hN;rw [hN] at h;injection h with h;exact h.symm
theorem Qmp (S:Nat→Prop) (w:World):TrAt S w Qkk ⟨0,⟨#[]⟩,none,0,0,none,0,0⟩:=by
 unfold Qkk TrAt;exact ⟨rfl,rfl,rfl,rfl,fun h=>absurd rfl h,fun h=>absurd rfl h,xA _,xA _⟩
theorem Qsh {s:ByteArray} {w:World} {B g cap:Nat} (he:(Qbf s).e=0) (hown:w.ownsRow B 119 3 (.slice (some ⟨g,0,none⟩) ((Qbf s).toks.length+1) cap) ((Qbf s).toks.length+1) (Qcf (Qbf s).toks ++ [.int .i64 0,.string (Qbf s).tail,.string ⟨#[]⟩])) (hlt:g<w.heap.size) :
  PIn (w.alloc (.cells #[.slice (some ⟨g,0,none⟩) ((Qbf s).toks.length+1) cap,.int .i64 0,.int .i64 0,.int .i64 0] 121)) w.heap.size (Qnt s):=by
 have hl:(Qnt s).rest.length=(Qbf s).toks.length+1:=by unfold Qnt;simp
 have hc:Qcf (Qnt s).rest=Qcf (Qbf s).toks ++ [.int .i64 0,.string (Qbf s).tail,.string ⟨#[]⟩]:=by
  show Qcf ((Qbf s).toks ++ [_])=_
  rw [Qhl]
 refine ⟨g,0,cap,?_,hlt,?_,?_,Ze9 he⟩
 ·rw [hl];exact xH w _
 ·rw [hl]
  rcases hown.2 with ⟨hv,_⟩|⟨g',cap',cur,hv,_,_,hn,_⟩
  ·simp at hv
  ·simp at hv
   omega
 ·exact Toks.of_own (base:=B) (c:=cap) (by rw [hl,hc];exact hown.alloc _)
theorem Qyk {n:Nat} {s:ByteArray} {r:Tr × Nat × Nat} (w:World) (hs:s.size≤maxLen) (h:Qi0 n s=some r) (he:(Qbf s).e≠0):Calls Tryz.prog 44 #[.string s] w (Qmo r w):=by
 have HR:=hQ (Qvt h he);have HS:=hQ hs;have he':(((Qbf s).e:Int) != 0)=true:=by simp;omega
 clear h he hs
 go_enter Tryz.func44,Tryz.ntmps44
 go_wp2_with fail
 go_at_call 77;refine (Qtm s _ HS.out).mono ?_;rintro e w1 ⟨tv,rfl,_,hb⟩;have HB:=hQ (((xC w.heap.size w).alloc (xA _) (.cells #[.int .i64 0,.string ⟨#[]⟩,.slice none 0 0,.slice none 0 0] 29)).trans (hb.mono (by simp)));have g0:=(hb.block w.heap.size (by simp)).trans (xH w (.cells #[.int .i64 0,.string ⟨#[]⟩,.slice none 0 0,.slice none 0 0] 29));clear hb;have r0:w1.cell? ⟨w.heap.size,0,none⟩=some (.int .i64 0):=Qab g0 0 _ rfl;have r1:w1.cell? ⟨w.heap.size,1,none⟩=some (.string ⟨#[]⟩):=Qab g0 1 _ rfl;have r2:w1.cell? ⟨w.heap.size,2,none⟩=some (.slice none 0 0):=Qab g0 2 _ rfl;have r3:w1.cell? ⟨w.heap.size,3,none⟩=some (.slice none 0 0):=Qab g0 3 _ rfl;have rf:=xL g0;clear g0
 go_wp2
 refine bodyPost_ret (v:=.tuple #[.agg #[.int .i64 0,.string ⟨#[]⟩,.slice none 0 0,.slice none 0 0],.int .i64 (Qbf s).place,.int .i64 (Qbf s).e]) (by simp [results,Tryz.results44,go_sem, *]) rfl ?_;rw [HR.out];exact ⟨⟨0,⟨#[]⟩,none,0,0,none,0,0⟩,rfl,Qmp _ _,(((HB.out.setCell (p:=⟨w.heap.size,0,none⟩) (xA _) _).setCell (p:=⟨w.heap.size,1,none⟩) (xA _) _).setCell (p:=⟨w.heap.size,2,none⟩) (xA _) _).setCell (p:=⟨w.heap.size,3,none⟩) (xA _) _⟩
theorem Qvu {n:Nat} (hn:n≤65536) {s:ByteArray} {r:Tr × Nat × Nat} (w:World) (hs:s.size≤maxLen) (h:Qi0 n s=some r) (he:(Qbf s).e=0):Calls Tryz.prog 44 #[.string s] w (Qmo r w):=by
 obtain ⟨t,p,hN,hr⟩:=Qsg h he;have HN:=hQ hN;have HR:=hQ hr;have HE:=hQ he;have HS:=hQ hs;have HNC:=hQ (Ze7 hn);have HSM:=hQ (show Qcp t=true from Qmn (Qvr n hn) hn hN);have HTL:=hQ (Qoe he).1;have he':(((Qbf s).e:Int) != 0)=false:=by simp [he]
 clear h he hs hN hr;obtain ⟨i0,hi,hz0,hz1,hz2⟩:=info_parts Qkj
 go_enter Tryz.func44,Tryz.ntmps44
 go_wp2_with fail
 go_at_call 77;refine (Qtm s _ HS.out).mono ?_;rintro e w1 ⟨tv,rfl,hown,hb⟩;rw [xI] at hown;have HB:=hQ (((xC w.heap.size w).alloc (xA _) (.cells #[.int .i64 0,.string ⟨#[]⟩,.slice none 0 0,.slice none 0 0] 29)).trans (hb.mono (by simp)));have HG0:=hQ ((hb.block w.heap.size (by simp)).trans (xH w (.cells #[.int .i64 0,.string ⟨#[]⟩,.slice none 0 0,.slice none 0 0] 29)));have HW1:=hQ (show w.heap.size+1≤w1.heap.size from by have:=hb.size;rw [xI] at this;exact this);have HOW:=hQ hown;clear hb hown;go_wp2_with (at_builtin;refine wpList_append_lies _ (by rfl) _ _ _ (by rfl) (w.heap.size+1) 119 i0 _ 3 40 Tryz.underlying115 hi hz0 hz1 hz2 rfl (by decide) tv (Qbf s).toks.length (Qcf (Qbf s).toks) (by rfl) (HOW.out.alloc _) ⟨w1.heap.size,0,none⟩ 1 1 [.int .i64 0,.string (Qbf s).tail,.string ⟨#[]⟩] (by rfl) (by rfl) (xM (cs:=#[.int .i64 0,.string (Qbf s).tail,.string ⟨#[]⟩]) (t:=119) (fr:=(0,0)) (xH w1 _)) (Qme _ _ _) (by decide) ?b1 ?b2 ?b3 (w1.heap.size+1) (by simp) ?_)
 case b1=>unfold maxLen;have:=HTL.out;omega
 case b2=>have:=HTL.out;omega
 case b3=>have:=HW1.out;simp;omega
 intro g cap w2 hown2 hgrow hat hlt2;have HP2:=hQ (Qsh HE.out hown2 hlt2);have hgb:∀ k,tv.ownBlock=some k→w.heap.size+1≤k:=fun k hk=>(HOW.out.lt k hk).1
 have HB2:=hQ ((HB.out.alloc HB.out.size (.cells #[.int .i64 0,.string (Qbf s).tail,.string ⟨#[]⟩] 119)).grown hgrow (by have:=HW1.out;simp;omega) (fun k hk=>by have:=hgb k hk;omega));have HG2:=hQ ((hgrow.block w.heap.size (by have:=HW1.out;simp;omega) (fun e=>by have:=hgb _ e.symm;omega)).trans ((Below.heap_alloc _ _ _ (Qaa HG0.out)).trans HG0.out));have HW2:=hQ (show w.heap.size+1≤w2.heap.size from by have h1:=hgrow.size;rw [xI] at h1;have:=HW1.out;omega);clear hown2 hgrow hat hlt2 hgb hi hz0 hz1 hz2;go_wp2_with fail
 go_at_call 78;refine (HNC.out w2.heap.size 1 (Qnt s) t p _ HN.out HP2.out).mono ?_;rintro e w3 ⟨v,rfl,htr,hp3,ho3⟩;have HTR:=hQ htr;have HP3:=hQ hp3;have HA2:=hQ (show Below w.heap.size w (w2.alloc (.cells #[.slice (some ⟨g,0,none⟩) ((Qbf s).toks.length+1) cap,.int .i64 0,.int .i64 0,.int .i64 0] 121)) from HB2.out.alloc HB2.out.size _);have HB3:=hQ (HA2.out.trans (ho3.below (B:=w.heap.size) (by have:=HW2.out;omega) (by rw [xI];have:=HW2.out;omega)));have HG3:=hQ ((ho3.block w.heap.size (by rw [xI];have:=HW2.out;omega) (by have:=HW2.out;omega)).trans ((Below.heap_alloc _ _ _ (Qaa HG2.out)).trans HG2.out));have HW3:=hQ (show w2.heap.size+1≤w3.heap.size from by have:=ho3.size;rw [xI] at this;exact this);clear htr hp3 ho3;obtain ⟨tb,off,c,hpa⟩:=HP3.out;have q2:w3.cell? ⟨w2.heap.size,2,none⟩=some (.int .i64 p.place):=hpa.c2;have q3:w3.cell? ⟨w2.heap.size,3,none⟩=some (.int .i64 p.e):=hpa.c3;have qe:=hpa.lt;clear hpa;have r0:w3.cell? ⟨w.heap.size,0,none⟩=some (.int .i64 0):=Qab HG3.out 0 _ rfl;have r1:w3.cell? ⟨w.heap.size,1,none⟩=some (.string ⟨#[]⟩):=Qab HG3.out 1 _ rfl;have r2:w3.cell? ⟨w.heap.size,2,none⟩=some (.slice none 0 0):=Qab HG3.out 2 _ rfl;have r3:w3.cell? ⟨w.heap.size,3,none⟩=some (.slice none 0 0):=Qab HG3.out 3 _ rfl;have rf:=xL HG3.out;have ne1:w.heap.size≠w2.heap.size:=by have:=HW2.out;omega
 by_cases hpe:p.e=0
 ·have hpe':((p.e:Int) != 0)=false:=by simp [hpe]
  have HPE:=hQ hpe;clear hpe;go_wp2_with fail
  have hR:Rest (fun k=>k=w.heap.size) w3 ((((w3.setCell ⟨w.heap.size,0,none⟩ (.int .i64 v.kind)).setCell ⟨w.heap.size,1,none⟩ (.string v.text)).setCell ⟨w.heap.size,2,none⟩ (.slice v.la v.ll v.lc)).setCell ⟨w.heap.size,3,none⟩ (.slice v.ka v.kl v.kc)):=(((Rest.set1 _ _ _).trans (Rest.set1 _ _ _)).trans (Rest.set1 _ _ _)).trans (Rest.set1 _ _ _);have hB4:Below w.heap.size w ((((w3.setCell ⟨w.heap.size,0,none⟩ (.int .i64 v.kind)).setCell ⟨w.heap.size,1,none⟩ (.string v.text)).setCell ⟨w.heap.size,2,none⟩ (.slice v.la v.ll v.lc)).setCell ⟨w.heap.size,3,none⟩ (.slice v.ka v.kl v.kc)):=(((HB3.out.setCell (p:=⟨w.heap.size,0,none⟩) (xA _) _).setCell (p:=⟨w.heap.size,1,none⟩) (xA _) _).setCell (p:=⟨w.heap.size,2,none⟩) (xA _) _).setCell (p:=⟨w.heap.size,3,none⟩) (xA _) _;have g0:(w3.setCell ⟨w.heap.size,0,none⟩ (.int .i64 v.kind)).heap[w.heap.size]? = some (.cells #[.int .i64 v.kind,.string ⟨#[]⟩,.slice none 0 0,.slice none 0 0] 29 (0,0)):=Qa2 HG3.out rfl;have g1:((w3.setCell ⟨w.heap.size,0,none⟩ (.int .i64 v.kind)).setCell ⟨w.heap.size,1,none⟩ (.string v.text)).heap[w.heap.size]? = some (.cells #[.int .i64 v.kind,.string v.text,.slice none 0 0,.slice none 0 0] 29 (0,0)):=Qa2 g0 rfl;have g2:(((w3.setCell ⟨w.heap.size,0,none⟩ (.int .i64 v.kind)).setCell ⟨w.heap.size,1,none⟩ (.string v.text)).setCell ⟨w.heap.size,2,none⟩ (.slice v.la v.ll v.lc)).heap[w.heap.size]? = some (.cells #[.int .i64 v.kind,.string v.text,.slice v.la v.ll v.lc,.slice none 0 0] 29 (0,0)):=Qa2 g1 rfl;have g3:((((w3.setCell ⟨w.heap.size,0,none⟩ (.int .i64 v.kind)).setCell ⟨w.heap.size,1,none⟩ (.string v.text)).setCell ⟨w.heap.size,2,none⟩ (.slice v.la v.ll v.lc)).setCell ⟨w.heap.size,3,none⟩ (.slice v.ka v.kl v.kc)).heap[w.heap.size]? = some (.cells #[.int .i64 v.kind,.string v.text,.slice v.la v.ll v.lc,.slice v.ka v.kl v.kc] 29 (0,0)):=Qa2 g2 rfl;have ht4:TrAt (fun k=>w.heap.size+1≤k∧k<((((w3.setCell ⟨w.heap.size,0,none⟩ (.int .i64 v.kind)).setCell ⟨w.heap.size,1,none⟩ (.string v.text)).setCell ⟨w.heap.size,2,none⟩ (.slice v.la v.ll v.lc)).setCell ⟨w.heap.size,3,none⟩ (.slice v.ka v.kl v.kc)).heap.size) ((((w3.setCell ⟨w.heap.size,0,none⟩ (.int .i64 v.kind)).setCell ⟨w.heap.size,1,none⟩ (.string v.text)).setCell ⟨w.heap.size,2,none⟩ (.slice v.la v.ll v.lc)).setCell ⟨w.heap.size,3,none⟩ (.slice v.ka v.kl v.kc)) t v:=TrAt.move (fun k hk=>⟨by have:=hk.1;rw [xI] at this;have:=HW2.out;omega,xE hk.2 hR.size⟩) (fun k hk hlt=>hR.block k hlt (fun e:k=w.heap.size=>by have:=hk.1;rw [xI] at this;have:=HW2.out;omega)) _ _ HTR.out;have HR4:=hQ hR;have HB4:=hQ hB4;have HG4:=hQ g3;have HT4:=hQ ht4;clear hR hB4 g0 g1 g2 g3 ht4 r0 r1 r2 r3 rf
  generalize ((((w3.setCell ⟨w.heap.size,0,none⟩ (.int .i64 v.kind)).setCell ⟨w.heap.size,1,none⟩ (.string v.text)).setCell ⟨w.heap.size,2,none⟩ (.slice v.la v.ll v.lc)).setCell ⟨w.heap.size,3,none⟩ (.slice v.ka v.kl v.kc))=W4 at HR4 HB4 HG4 HT4 ⊢
  go_at_call 79;refine (Qvl 40 _ t v _ (by decide) HT4.out HSM.out).mono ?_;rintro e w5 ⟨rfl,hb5⟩;have HB5:=hQ hb5;have hg5:=(hb5.block w.heap.size (Qaa HG4.out)).trans HG4.out;have r0:w5.cell? ⟨w.heap.size,0,none⟩=some (.int .i64 v.kind):=Qab hg5 0 _ rfl;have r1:w5.cell? ⟨w.heap.size,1,none⟩=some (.string v.text):=Qab hg5 1 _ rfl;have r2:w5.cell? ⟨w.heap.size,2,none⟩=some (.slice v.la v.ll v.lc):=Qab hg5 2 _ rfl;have r3:w5.cell? ⟨w.heap.size,3,none⟩=some (.slice v.ka v.kl v.kc):=Qab hg5 3 _ rfl;have rf:=xL hg5;clear hb5 hg5 q2 q3 qe;have HBW:=hQ (HB4.out.trans (HB5.out.mono HB4.out.size))
  cases hwt:Qdm t 40
  ·have HRR:=hQ (show r=(Qkk,0,4) from by rw [HR.out,HPE.out,hwt];rfl)
   go_wp2
   refine bodyPost_ret (v:=.tuple #[.agg #[.int .i64 0,.string ⟨#[]⟩,.slice none 0 0,.slice none 0 0],.int .i64 0,.int .i64 4]) (by simp [results,Tryz.results44,go_sem, *]) rfl ?_;rw [HRR.out];exact ⟨⟨0,⟨#[]⟩,none,0,0,none,0,0⟩,rfl,Qmp _ _,(((HBW.out.setCell (p:=⟨w.heap.size,0,none⟩) (xA _) _).setCell (p:=⟨w.heap.size,1,none⟩) (xA _) _).setCell (p:=⟨w.heap.size,2,none⟩) (xA _) _).setCell (p:=⟨w.heap.size,3,none⟩) (xA _) _⟩
  ·have HRR:=hQ (show r=(t,0,0) from by rw [HR.out,HPE.out,hwt];rfl)
   go_wp2
   refine bodyPost_ret (v:=.tuple #[.agg #[.int .i64 v.kind,.string v.text,.slice v.la v.ll v.lc,.slice v.ka v.kl v.kc],.int .i64 0,.int .i64 0]) (by simp [results,Tryz.results44,go_sem, *]) rfl ?_;rw [HRR.out];have hR5:=(((Rest.set1 (w:=w5) w.heap.size 0 (.int .i64 v.kind)).trans (Rest.set1 w.heap.size 1 (.string v.text))).trans (Rest.set1 w.heap.size 2 (.slice v.la v.ll v.lc))).trans (Rest.set1 w.heap.size 3 (.slice v.ka v.kl v.kc));exact ⟨v,rfl,TrAt.move (fun k hk=>⟨by have:=hk.1;omega,xE hk.2 (xQ HB5.out.size hR5.size)⟩) (fun k hk hlt=>hR5.block k hlt (fun e:k=w.heap.size=>by have:=hk.1;omega)) _ _ (HT4.out.keep HB5.out),(((HBW.out.setCell (p:=⟨w.heap.size,0,none⟩) (xA _) _).setCell (p:=⟨w.heap.size,1,none⟩) (xA _) _).setCell (p:=⟨w.heap.size,2,none⟩) (xA _) _).setCell (p:=⟨w.heap.size,3,none⟩) (xA _) _⟩
 ·have hpe':((p.e:Int) != 0)=true:=by simp;omega
  have HRR:=hQ (show r=(Qkk,p.place,p.e) from by rw [HR.out,xO hpe]);clear hpe;go_wp2_with fail
  have hR:Rest (fun k=>k=w.heap.size) w3 ((((w3.setCell ⟨w.heap.size,0,none⟩ (.int .i64 v.kind)).setCell ⟨w.heap.size,1,none⟩ (.string v.text)).setCell ⟨w.heap.size,2,none⟩ (.slice v.la v.ll v.lc)).setCell ⟨w.heap.size,3,none⟩ (.slice v.ka v.kl v.kc)):=(((Rest.set1 _ _ _).trans (Rest.set1 _ _ _)).trans (Rest.set1 _ _ _)).trans (Rest.set1 _ _ _);have hB4:Below w.heap.size w ((((w3.setCell ⟨w.heap.size,0,none⟩ (.int .i64 v.kind)).setCell ⟨w.heap.size,1,none⟩ (.string v.text)).setCell ⟨w.heap.size,2,none⟩ (.slice v.la v.ll v.lc)).setCell ⟨w.heap.size,3,none⟩ (.slice v.ka v.kl v.kc)):=(((HB3.out.setCell (p:=⟨w.heap.size,0,none⟩) (xA _) _).setCell (p:=⟨w.heap.size,1,none⟩) (xA _) _).setCell (p:=⟨w.heap.size,2,none⟩) (xA _) _).setCell (p:=⟨w.heap.size,3,none⟩) (xA _) _;have g0:(w3.setCell ⟨w.heap.size,0,none⟩ (.int .i64 v.kind)).heap[w.heap.size]? = some (.cells #[.int .i64 v.kind,.string ⟨#[]⟩,.slice none 0 0,.slice none 0 0] 29 (0,0)):=Qa2 HG3.out rfl;have g1:((w3.setCell ⟨w.heap.size,0,none⟩ (.int .i64 v.kind)).setCell ⟨w.heap.size,1,none⟩ (.string v.text)).heap[w.heap.size]? = some (.cells #[.int .i64 v.kind,.string v.text,.slice none 0 0,.slice none 0 0] 29 (0,0)):=Qa2 g0 rfl;have g2:(((w3.setCell ⟨w.heap.size,0,none⟩ (.int .i64 v.kind)).setCell ⟨w.heap.size,1,none⟩ (.string v.text)).setCell ⟨w.heap.size,2,none⟩ (.slice v.la v.ll v.lc)).heap[w.heap.size]? = some (.cells #[.int .i64 v.kind,.string v.text,.slice v.la v.ll v.lc,.slice none 0 0] 29 (0,0)):=Qa2 g1 rfl;have g3:((((w3.setCell ⟨w.heap.size,0,none⟩ (.int .i64 v.kind)).setCell ⟨w.heap.size,1,none⟩ (.string v.text)).setCell ⟨w.heap.size,2,none⟩ (.slice v.la v.ll v.lc)).setCell ⟨w.heap.size,3,none⟩ (.slice v.ka v.kl v.kc)).heap[w.heap.size]? = some (.cells #[.int .i64 v.kind,.string v.text,.slice v.la v.ll v.lc,.slice v.ka v.kl v.kc] 29 (0,0)):=Qa2 g2 rfl;have ht4:TrAt (fun k=>w.heap.size+1≤k∧k<((((w3.setCell ⟨w.heap.size,0,none⟩ (.int .i64 v.kind)).setCell ⟨w.heap.size,1,none⟩ (.string v.text)).setCell ⟨w.heap.size,2,none⟩ (.slice v.la v.ll v.lc)).setCell ⟨w.heap.size,3,none⟩ (.slice v.ka v.kl v.kc)).heap.size) ((((w3.setCell ⟨w.heap.size,0,none⟩ (.int .i64 v.kind)).setCell ⟨w.heap.size,1,none⟩ (.string v.text)).setCell ⟨w.heap.size,2,none⟩ (.slice v.la v.ll v.lc)).setCell ⟨w.heap.size,3,none⟩ (.slice v.ka v.kl v.kc)) t v:=TrAt.move (fun k hk=>⟨by have:=hk.1;rw [xI] at this;have:=HW2.out;omega,xE hk.2 hR.size⟩) (fun k hk hlt=>hR.block k hlt (fun e:k=w.heap.size=>by have:=hk.1;rw [xI] at this;have:=HW2.out;omega)) _ _ HTR.out;have HR4:=hQ hR;have HB4:=hQ hB4;have HG4:=hQ g3;have HT4:=hQ ht4;clear hR hB4 g0 g1 g2 g3 ht4 r0 r1 r2 r3 rf;have p2:=(xJ (w:=w3) (a:=⟨w2.heap.size,2,none⟩) (HR4.out.block w2.heap.size qe (fun e:w2.heap.size=w.heap.size=>ne1 e.symm))).trans q2;have p3:=(xJ (w:=w3) (a:=⟨w2.heap.size,3,none⟩) (HR4.out.block w2.heap.size qe (fun e:w2.heap.size=w.heap.size=>ne1 e.symm))).trans q3;clear q2 q3 qe
  generalize ((((w3.setCell ⟨w.heap.size,0,none⟩ (.int .i64 v.kind)).setCell ⟨w.heap.size,1,none⟩ (.string v.text)).setCell ⟨w.heap.size,2,none⟩ (.slice v.la v.ll v.lc)).setCell ⟨w.heap.size,3,none⟩ (.slice v.ka v.kl v.kc))=W4 at HR4 HB4 HG4 HT4 p2 p3 ⊢
  have r0:W4.cell? ⟨w.heap.size,0,none⟩=some (.int .i64 v.kind):=Qab HG4.out 0 _ rfl;have r1:W4.cell? ⟨w.heap.size,1,none⟩=some (.string v.text):=Qab HG4.out 1 _ rfl;have r2:W4.cell? ⟨w.heap.size,2,none⟩=some (.slice v.la v.ll v.lc):=Qab HG4.out 2 _ rfl;have r3:W4.cell? ⟨w.heap.size,3,none⟩=some (.slice v.ka v.kl v.kc):=Qab HG4.out 3 _ rfl;have rf:=xL HG4.out
  go_region
  all_goals
   go_wp2
   refine bodyPost_ret (v:=.tuple #[.agg #[.int .i64 0,.string ⟨#[]⟩,.slice none 0 0,.slice none 0 0],.int .i64 p.place,.int .i64 p.e]) (by simp [results,Tryz.results44,go_sem, *]) rfl ?_;rw [HRR.out];exact ⟨⟨0,⟨#[]⟩,none,0,0,none,0,0⟩,rfl,Qmp _ _,((((HB4.out.setCell (p:=⟨w.heap.size,0,none⟩) (xA _) _).setCell (p:=⟨w.heap.size,1,none⟩) (xA _) _).setCell (p:=⟨w.heap.size,2,none⟩) (xA _) _).setCell (p:=⟨w.heap.size,3,none⟩) (xA _) _).drew⟩
theorem Qyl {n:Nat} (hn:n≤65536) {s:ByteArray} {r:Tr × Nat × Nat} (w:World) (hs:s.size≤maxLen) (h:Qi0 n s=some r):Calls Tryz.prog 44 #[.string s] w (Qmo r w):=by
 by_cases he:(Qbf s).e=0
 ·exact Qvu hn w hs h he
 ·exact Qyk w hs h he
def Qf7 (w:World) (b:Nat) (u:TV):World:=(((w.setCell ⟨b,0,none⟩ (.int .i64 u.kind)).setCell ⟨b,1,none⟩ (.string u.text)).setCell ⟨b,2,none⟩ (.slice u.la u.ll u.lc)).setCell ⟨b,3,none⟩ (.slice u.ka u.kl u.kc)
def trO (v:TV):Obj:=.cells #[.int .i64 v.kind,.string v.text,.slice v.la v.ll v.lc,.slice v.ka v.kl v.kc] 29
theorem Qgp {w:World} {b:Nat} {v:TV} (u:TV) (h:w.heap[b]? = some (trO v)):(Qf7 w b u).heap[b]? = some (trO u):=Qa2 (Qa2 (Qa2 (Qa2 h rfl) rfl) rfl) rfl
theorem Qck (w:World) (b:Nat) (u:TV):Below b w (Qf7 w b u):=((((xC b w).setCell (p:=⟨b,0,none⟩) (xA _) _).setCell (p:=⟨b,1,none⟩) (xA _) _).setCell (p:=⟨b,2,none⟩) (xA _) _).setCell (p:=⟨b,3,none⟩) (xA _) _
mutual
def Qal:Tr→Nat
 | .mk _ _ _ ks=>1+Qao ks
def Qao:List Tr→Nat
 | []=>0
 | t :: r=>Qal t+Qao r
end
mutual
def Qed:Tr→Nat
 | .mk _ _ _ ks=>Qc2 ks+1
def Qc2:List Tr→Nat
 | []=>0
 | t :: r=>max (Qed t) (Qc2 r)
end
theorem Qa0 (t:Tr):Qal t=1+Qao t.kids:=by cases t;rw [Qal];rfl
theorem Qmq (t:Tr):Qed t=Qc2 t.kids+1:=by cases t;rw [Qed];rfl
theorem Qee:(a b:List Tr)→Qao (a ++ b)=Qao a+Qao b
 | [],b=>by rw [xU,Qao];omega
 | t :: r,b=>by rw [xV,Qao,Qao,Qee r b];omega
theorem Qj2:(a b:List Tr)→Qc2 (a ++ b)=max (Qc2 a) (Qc2 b)
 | [],b=>by rw [xU,Qc2];omega
 | t :: r,b=>by rw [xV,Qc2,Qc2,Qj2 r b];omega
theorem Qe9 {α:Type} {l:List α} {j:Nat} {k:α} (h:l[j]? = some k):l.take (j+1)=l.take j ++ [k]:=by
 rw [List.take_add_one,h];rfl
theorem Qcy {l:List Tr} {j:Nat} {k:Tr} (h:l[j]? = some k):Qao (l.take (j+1))=Qao (l.take j)+Qal k:=by
 rw [Qe9 h,Qee,Qao,Qao];omega
theorem Qjc {l:List Tr} {j:Nat} {k:Tr} (h:l[j]? = some k):Qc2 (l.take (j+1))=max (Qc2 (l.take j)) (Qed k):=by
 rw [Qe9 h,Qj2,Qc2,Qc2];omega
theorem Qdt (l:List Tr) (j:Nat):Qao (l.take j)≤Qao l:=by
 conv=>rhs;rw [←List.take_append_drop j l,Qee]
 omega
theorem Qbd {t k:Tr} {j:Nat} (h:t.kids[j]? = some k):Qal k≤Qal t:=by
 have h1:=Qcy h;have h2:=Qdt t.kids (j+1);rw [Qa0 t];omega
mutual
theorem Qdu:(t:Tr)→Qed t≤Qal t
 | .mk _ _ _ ks=>by rw [Qed,Qal];have:=Qeu ks;omega
theorem Qeu:(l:List Tr)→Qc2 l≤Qao l
 | []=>by rw [Qc2];omega
 | t :: r=>by rw [Qc2,Qao];have:=Qdu t;have:=Qeu r;omega
end
theorem Qa5:(l:List Tr)→l.length≤Qao l
 | []=>xZ _
 | t :: r=>by
  rw [Qao,xD,Qa0];have:=Qa5 r
  omega
theorem Qay {t k:Tr} {j:Nat} (h:t.kids[j]? = some k):SizeOf.sizeOf k<SizeOf.sizeOf t:=by
 cases t with
 | mk kd x ls ks =>
  have:=List.sizeOf_lt_of_mem (yA (show ks[j]? = some k from h))
  rw [Tr.mk.sizeOf_spec];omega
theorem Qgx (t:Tr):0<SizeOf.sizeOf t:=by cases t;rw [Tr.mk.sizeOf_spec];omega
def Qsi (f:List Tr→Nat) (t:Tr) (W:World) (n i:Value) (wr:World):Prop:=∃ j:Nat,i = .int .i64 j∧j≤t.kids.length∧n = .int .i64 (f (t.kids.take j):Nat)∧Below W.heap.size W wr
theorem Zgx (N:Nat):∀ (S:Nat→Prop) (t:Tr) (v:TV) (w:World),SizeOf.sizeOf t≤N→TrAt S w t v→Qal t≤140737488355328 →
  Calls Tryz.prog 14 #[.agg #[.int .i64 v.kind,.string v.text,.slice v.la v.ll v.lc,.slice v.ka v.kl v.kc]] w fun e w'=>e = .returned (.int .i64 (Qal t:Nat))∧Below w.heap.size w w':=by
 induction N with
 | zero=>intro S t v w h;have:=Qgx t;omega
 | succ N ih =>
  intro S t v w hN h hz;have HIH:=hQ ih;have HB0:=hQ ((xC w.heap.size w).alloc (xA _) (trO v));have HT:=hQ (h.keep HB0.out);have HX:=hQ (xH w (trO v));have HZ:=hQ hz;have HN:=hQ hN;have hkl:=h.kl.1;obtain ⟨vk,vx,vla,vll,vlc,vka,vkl,vkc⟩:=v;simp only at hkl;subst hkl;have hmax:t.kids.length≤140737488355328:=by have:=Qa5 t.kids;rw [Qa0] at hz;omega
  have HMX:=hQ hmax;clear ih h hz hN;have k3:(w.alloc (trO ⟨vk,vx,vla,vll,vlc,vka,t.kids.length,vkc⟩)).cell? ⟨w.heap.size,3,none⟩=some (.slice vka t.kids.length vkc):=Qab HX.out 3 _ rfl
  go_enter Tryz.func14,Tryz.ntmps14
  go_wp2
  clear k3
  go_loopw [3,4] (fun n i wr=>Qsi (fun l=>1+Qao l) t (w.alloc (trO ⟨vk,vx,vla,vll,vlc,vka,t.kids.length,vkc⟩)) n i wr) (fun _ i _=>t.kids.length-(intOf i).toNat)
  case atStart=>exact ⟨0,rfl,xZ _,rfl,xC _ _⟩
  case round =>
   obtain ⟨j,rfl,hj,rfl,hb⟩:=hrel;have HBR:=hQ hb;have hx:=(hb.block w.heap.size (Qaa HX.out)).trans HX.out;have k3:wr.cell? ⟨w.heap.size,3,none⟩=some (.slice vka t.kids.length vkc):=Qab hx 3 _ rfl;clear hb hx
   by_cases hlt:j<t.kids.length
   ·obtain ⟨k,hk⟩:∃ k,t.kids[j]? = some k:=⟨_,xF hlt⟩;obtain ⟨b,off,hka⟩:∃ b off,vka=some ⟨b,off,none⟩:=HT.out.addr.resolve_left (by omega);subst hka;obtain ⟨u,c0,c1,c2,c3,hu⟩:=(HT.out.keep HBR.out).at rfl hk;have HU:=hQ hu;have HS1:=hQ (Qcy hk);have HD1:=hQ (Qjc hk);have hs:=Qdt t.kids (j+1);have hs0:=Qcy hk;have hds:=Qeu (t.kids.take j);have hdk:=Qdu k;have HSK:=hQ (xQ (Qbd hk) HZ.out);have HNK:=hQ (show SizeOf.sizeOf k≤N from by have:=Qay hk;have:=HN.out;omega);have hz:=HZ.out;rw [Qa0] at hz;have q1:((Qao (t.kids.take j):Nat):Int)+(Qal k:Nat)+1≤140737488355328:=by omega
    have q2:((Qc2 (t.kids.take j):Nat):Int)≤140737488355328:=by omega
    have q3:((Qed k:Nat):Int)+1≤140737488355329:=by omega
    have hj0:(0:Int)≤(j:Int):=by omega
    have hj1:(j:Int)<(t.kids.length:Int):=by omega
    have hj2:(j:Int)+1≤140737488355328:=by omega
    clear hk hu hs hs0 hds hdk hz;go_wp2_with (go_at_call 14;refine (HIH.out S k u _ HNK.out (HU.out.keep (xC _ _)) HSK.out).mono ?_;rintro e w2 ⟨rfl,hb2⟩;have HB2:=hQ (HBR.out.trans (hb2.mono HBR.out.size));clear hb2)
    go_roundw
    case rel=>exact ⟨j+1,by go_num,by omega,by show _=Value.int .i64 ((1+Qao (t.kids.take (j+1)):Nat):Int);rw [HS1.out];go_num,HB2.out⟩
    case measure=>simp [intOf];omega
   ·have hjn:j=t.kids.length:=by omega
    subst hjn;have HR:=hQ (show Qal t=1+Qao (t.kids.take t.kids.length) from by rw [Qa0,List.take_length]);have hz:=HZ.out;have h1:=Qdu t;have h2:=HR.out
    go_wp2
    go_ret
    exact ⟨Qb2 (by rw [HR.out]),HB0.out.trans (HBR.out.mono (by simp))⟩
theorem Zca (N:Nat):∀ (S:Nat→Prop) (t:Tr) (v:TV) (w:World),SizeOf.sizeOf t≤N→TrAt S w t v→Qal t≤140737488355328 →
  Calls Tryz.prog 160 #[.agg #[.int .i64 v.kind,.string v.text,.slice v.la v.ll v.lc,.slice v.ka v.kl v.kc]] w fun e w'=>e = .returned (.int .i64 (Qal t:Nat))∧Below w.heap.size w w':=by
 induction N with
 | zero=>intro S t v w h;have:=Qgx t;omega
 | succ N ih =>
  intro S t v w hN h hz;have HIH:=hQ ih;have HB0:=hQ ((xC w.heap.size w).alloc (xA _) (trO v));have HT:=hQ (h.keep HB0.out);have HX:=hQ (xH w (trO v));have HZ:=hQ hz;have HN:=hQ hN;have hkl:=h.kl.1;obtain ⟨vk,vx,vla,vll,vlc,vka,vkl,vkc⟩:=v;simp only at hkl;subst hkl;have hmax:t.kids.length≤140737488355328:=by have:=Qa5 t.kids;rw [Qa0] at hz;omega
  have HMX:=hQ hmax;clear ih h hz hN;have k3:(w.alloc (trO ⟨vk,vx,vla,vll,vlc,vka,t.kids.length,vkc⟩)).cell? ⟨w.heap.size,3,none⟩=some (.slice vka t.kids.length vkc):=Qab HX.out 3 _ rfl
  go_enter Tryz.func160,Tryz.ntmps160
  go_wp2
  clear k3
  go_loopw [3,9] (fun n i wr=>Qsi (fun l=>1+Qao l) t (w.alloc (trO ⟨vk,vx,vla,vll,vlc,vka,t.kids.length,vkc⟩)) n i wr) (fun _ i _=>t.kids.length-(intOf i).toNat)
  case atStart=>exact ⟨0,rfl,xZ _,rfl,xC _ _⟩
  case round =>
   obtain ⟨j,rfl,hj,rfl,hb⟩:=hrel;have HBR:=hQ hb;have hx:=(hb.block w.heap.size (Qaa HX.out)).trans HX.out;have k3:wr.cell? ⟨w.heap.size,3,none⟩=some (.slice vka t.kids.length vkc):=Qab hx 3 _ rfl;clear hb hx
   by_cases hlt:j<t.kids.length
   ·obtain ⟨k,hk⟩:∃ k,t.kids[j]? = some k:=⟨_,xF hlt⟩;obtain ⟨b,off,hka⟩:∃ b off,vka=some ⟨b,off,none⟩:=HT.out.addr.resolve_left (by omega);subst hka;obtain ⟨u,c0,c1,c2,c3,hu⟩:=(HT.out.keep HBR.out).at rfl hk;have HU:=hQ hu;have HS1:=hQ (Qcy hk);have HD1:=hQ (Qjc hk);have hs:=Qdt t.kids (j+1);have hs0:=Qcy hk;have hds:=Qeu (t.kids.take j);have hdk:=Qdu k;have HSK:=hQ (xQ (Qbd hk) HZ.out);have HNK:=hQ (show SizeOf.sizeOf k≤N from by have:=Qay hk;have:=HN.out;omega);have hz:=HZ.out;rw [Qa0] at hz;have q1:((Qao (t.kids.take j):Nat):Int)+(Qal k:Nat)+1≤140737488355328:=by omega
    have q2:((Qc2 (t.kids.take j):Nat):Int)≤140737488355328:=by omega
    have q3:((Qed k:Nat):Int)+1≤140737488355329:=by omega
    have hj0:(0:Int)≤(j:Int):=by omega
    have hj1:(j:Int)<(t.kids.length:Int):=by omega
    have hj2:(j:Int)+1≤140737488355328:=by omega
    clear hk hu hs hs0 hds hdk hz;have HA1:=hQ ((xC wr.heap.size wr).alloc (xA _) (trO u));go_wp2_with (go_at_call 160;refine (HIH.out S k u _ HNK.out (HU.out.keep HA1.out) HSK.out).mono ?_;rintro e w2 ⟨rfl,hb2⟩;have HB2:=hQ (HBR.out.trans ((HA1.out.trans (hb2.mono HA1.out.size)).mono HBR.out.size));clear hb2)
    go_roundw
    case rel=>exact ⟨j+1,by go_num,by omega,by show _=Value.int .i64 ((1+Qao (t.kids.take (j+1)):Nat):Int);rw [HS1.out];go_num,HB2.out⟩
    case measure=>simp [intOf];omega
   ·have hjn:j=t.kids.length:=by omega
    subst hjn;have HR:=hQ (show Qal t=1+Qao (t.kids.take t.kids.length) from by rw [Qa0,List.take_length]);have hz:=HZ.out;have h1:=Qdu t;have h2:=HR.out
    go_wp2
    go_ret
    exact ⟨Qb2 (by rw [HR.out]),HB0.out.trans (HBR.out.mono (by simp))⟩
def Zgk (n m:Int):Int:=if n.tmod m<0 then n.tmod m+m else n.tmod m
theorem Qzf (n:Int) {m:Int} (hm:0<m):0≤Zgk n m∧Zgk n m<m:=by
 have h1:=Int.tmod_lt_of_pos n hm;have h2:-m<n.tmod m:=Int.lt_tmod_of_pos n hm;unfold Zgk
 split <;> omega
theorem Zfn (n m:Int) (w:World) (hm:0<m) (hm2:m≤1000000):Calls Tryz.prog 27 #[.int .i64 n,.int .i64 m] w fun e w'=>e = .returned (.int .i64 (Zgk n m))∧w=w':=by
 have h1:=Int.tmod_lt_of_pos n hm;have h2:-m<n.tmod m:=Int.lt_tmod_of_pos n hm;have HM:=hQ (show Zgk n m=if n.tmod m<0 then n.tmod m+m else n.tmod m from rfl);have h0:m≠0:=by omega
 have hb:=Qcn h0
 by_cases h:n.tmod m<0
 all_goals
  go_enter Tryz.func27,Tryz.ntmps27
  go_wp2
  go_ret
  exact ⟨Qb2 (by rw [HM.out];split <;> omega),rfl⟩
end Go.Proofs.YtjidpkcjpgdafaaGreat
