/- Part 9 -/
import Derived.Test.YtfjpemdejoejbaaGreatTt8
import Derived.Test.YtfjpemdejoejbaaGreatTt7
import Derived.Laws.OwnMore
import Derived.Laws.StructEq
import Derived.Deep.AppendLies
import Derived.StillTailTactics
import Derived.Deep.RegionHeld3
set_option maxRecDepth 100000
set_option maxHeartbeats 4000000
namespace Go.Proofs.YtfjpemdejoejbaaGreat
open Go.RowKit
theorem Qlt:(Tryz.prog.info? 88).map (fun i=>(i.zero,i.size,i.bytes))=some (some (.agg #[.int .i64 0,.string ByteArray.empty,.string ByteArray.empty]),3,40):=by kernel_rfl
def Qci (ts:List Tok):List Value:=ts.flatMap fun t=>[.int .i64 t.kind,.string t.lead,.string t.text]
theorem Qia (ts:List Tok) (t:Tok):Qci (ts ++ [t])=Qci ts ++ [.int .i64 t.kind,.string t.lead,.string t.text]:=by
 unfold Qci;rw [List.flatMap_append];rfl
theorem Qln (w:World) (x y z:Value) (t:TypeId):∀ j u,[x,y,z][j]? = some u→(w.alloc (.cells #[x,y,z] t)).cell? ((⟨w.heap.size,0,none⟩:Addr).add j)=some u:=by
 intro j u hj
 match j,hj with
 | 0,hj=>simp at hj;subst hj;simp [Addr.add]
 | 1,hj=>simp at hj;subst hj;simp [Addr.add]
 | 2,hj=>simp at hj;subst hj;simp [Addr.add]
 | (j+3),hj=>simp at hj
theorem Qoa (k:Int) (x y:ByteArray):∀ u∈[Value.int .i64 k,.string x,.string y],u.oneCell'=true:=by
 intro u hu;simp at hu
 rcases hu with rfl | rfl | rfl <;> rfl
def Qzk (r:Res) (w:World) (e:Ending) (w':World):Prop :=
 ∃ v,e = .returned (.tuple #[v,.string r.tail,.int .i64 r.place,.int .i64 r.e])∧w'.ownsRow w.heap.size 88 3 v r.toks.length (Qci r.toks)∧Below w.heap.size w w'
theorem Qlu (s:ByteArray) (a:Nat) (w:World) (h0:a<s.size) (hs:s.size<maxLen) :
  Calls Tryz.prog 82 #[.string (s.extract a s.size)] w fun e w'=>e = .returned (.tuple #[.int .i64 (Qb5 (suf s a)).kind,.int .i64 (Qb5 (suf s a)).n,.int .i64 (Qb5 (suf s a)).e])∧w=w':=by
 rw [←Qf1 s a];exact Qh9 _ w (Qh7 s a h0) (by rw [ByteArray.size_extract];omega)
def ScanRel (s:ByteArray) (w:World) (v i:Value) (wr:World):Prop :=
 ∃ (k:Nat) (acc:List Tok),i = .int .i64 k∧ScanAt s k acc∧wr.ownsRow w.heap.size 88 3 v acc.length (Qci acc)∧Below w.heap.size w wr
theorem ScanRel.start (s:ByteArray) (w:World):ScanRel s w (.slice none 0 0) (.int .i64 0) w :=
 ⟨0,[],rfl,ScanAt.start s,World.ownsRow_nil _ _ _ _,xC _ _⟩
theorem ScanRel.next {s:ByteArray} {w wr w':World} {v v':Value} {n:Nat} {acc:List Tok} {t:Tok} {o:Obj} (h:ScanAt s n (acc ++ [t])) (hown:wr.ownsRow w.heap.size 88 3 v acc.length (Qci acc)) (hb:Below w.heap.size w wr)
  (hown':w'.ownsRow w.heap.size 88 3 v' (acc.length+1) (Qci acc ++ [.int .i64 t.kind,.string t.lead,.string t.text])) (hg:(wr.alloc o).grownBy w' v.ownBlock):ScanRel s w v' (.int .i64 n) w':=by
 refine ⟨n,acc ++ [t],rfl,h,by rw [Qia];simpa using hown',?_⟩;exact (hb.alloc hb.size o).grown hg (by rw [xI];have:=hb.size;omega) (fun j hj=>(hown.lt j hj).1)
theorem Qrp (s:ByteArray) (w:World) (hs:s.size≤maxLen) :
  Calls Tryz.prog 51 #[.string s] w (Qzk (Qb7 s) w):=by
 by_cases hlong:4096<s.size
 ·have HR:=hQ (show Qb7 s=⟨[],ByteArray.empty,4096,3⟩ from by unfold Qb7;rw [xO hlong]);unfold maxLen at hs
  go_enter Tryz.func51,Tryz.ntmps51
  go_wp2
  exact bodyPost_ret (v:=.tuple #[.slice none 0 0,.string ⟨#[]⟩,.int .i64 4096,.int .i64 3]) (by simp [results,Tryz.results51,go_sem]) rfl ⟨_,by rw [HR.out];rfl,by rw [HR.out];exact World.ownsRow_nil _ _ _ _,xC _ _⟩
 ·have HR:=hQ (show Qb7 s=Qu4 s from by unfold Qb7;rw [xN hlong]);have HL:=hQ (show s.size<maxLen from by unfold maxLen;omega);have HM:=hQ hs;have hshort:s.size≤4096:=by omega
  obtain ⟨i0,hi,hz0,hz1,hz2⟩:=info_parts Qlt;clear hs hlong
  go_enter Tryz.func51,Tryz.ntmps51
  go_wp2
  go_loopw [2,6] (fun v i wr=>ScanRel s w v i wr) (fun _ i _=>s.size-(intOf i).toNat)
  case atStart=>exact ScanRel.start s w
  case round =>
   obtain ⟨k,acc,rfl,hat,hown,hbl⟩:=hrel;have HA:=hQ hat;have hk:=hat.1;have hacc:=hat.2.1;have hge:=Qh5 s k;have hle:=Qgy s k hk;clear hat;have HO:=hQ hown;have HB:=hQ hbl;clear hown hbl
   by_cases hst:Qao s k=s.size
   ·have HD:=hQ (HR.out.trans (HA.out.done hst));have hst':(((Qao s k:Nat):Int)==(s.size:Int))=true:=by simp [hst]
    have HE:=hQ (show s.extract k (Qao s k)=s.extract k s.size from by rw [hst]);clear hst;go_wp2_with (go_at_call 81;refine (Qmz s k _ hk HM.out).mono ?_;rintro e w' ⟨rfl,rfl⟩)
    exact bodyPost_ret (v:=.tuple #[u2,.string (s.extract k (Qao s k)),.int .i64 0,.int .i64 0]) (by simp [results,Tryz.results51,go_sem]) rfl ⟨_,by rw [HD.out,HE.out];rfl,by rw [HD.out];exact HO.out,HB.out⟩
   ·have hst':(((Qao s k:Nat):Int)==(s.size:Int))=false:=Qc3 hst;have hlt:Qao s k<s.size:=by omega
    by_cases he:(Qb5 (suf s (Qao s k))).e=0
    ·have HN:=hQ (HA.out.next hst he);have hlen:=Qkh he;rw [Qb0] at hlen;have he':((((Qb5 (suf s (Qao s k))).e:Nat):Int) != 0)=false:=by simp [he]
     clear he hst;go_wp2_with (first | (go_at_call 81;refine (Qmz s k _ hk HM.out).mono ?_;rintro e w' ⟨rfl,rfl⟩) | (go_at_call 82;refine (Qlu s (Qao s k) _ hlt HL.out).mono ?_;rintro e w' ⟨rfl,rfl⟩) | (at_builtin;refine wpList_append_own _ rfl (.tmp 49) (.tmp 57) 84 rfl w.heap.size 88 i0 _ 3 40 Tryz.underlying84 hi hz0 hz1 hz2 rfl (by omega) u2 acc.length (Qci acc) rfl (HO.out.alloc _) ⟨wr.heap.size,0,none⟩ 1 1 [.int .i64 (Qb5 (suf s (Qao s k))).kind,.string (s.extract k (Qao s k)),.string (s.extract (Qao s k) (Qao s k+(Qb5 (suf s (Qao s k))).n))] rfl rfl ?c1 ?c2 ?c3 ?c4 ?c5 ?_))
     case c1=>exact Qln _ _ _ _ _
     case c2=>exact Qoa _ _ _
     case c3=>unfold maxLen;omega
     case c4=>omega
     case c5=>rw [xI];have:=HB.out.size;omega
     intro v' w1 hown1 hg1 _;have HV:=hQ hown1;have HG:=hQ hg1;clear hown1 hg1
     go_wp2
     go_roundw
     case rel=>exact ScanRel.next HN.out HO.out HB.out HV.out HG.out
     case measure=>simp [intOf];omega
    ·have HD:=hQ (HR.out.trans (HA.out.stop hst he));have he':((((Qb5 (suf s (Qao s k))).e:Nat):Int) != 0)=true:=by simp;omega
     have hmax:(Qb5 (suf s (Qao s k))).n≤s.size:=by have:=Qp2 he;rw [Qb0] at this;omega
     clear he hst;go_wp2_with (first | (go_at_call 81;refine (Qmz s k _ hk HM.out).mono ?_;rintro e w' ⟨rfl,rfl⟩) | (go_at_call 82;refine (Qlu s (Qao s k) _ hlt HL.out).mono ?_;rintro e w' ⟨rfl,rfl⟩))
     exact bodyPost_ret (v:=.tuple #[.slice none 0 0,.string ⟨#[]⟩,.int .i64 (((Qao s k:Nat):Int)+((Qb5 (suf s (Qao s k))).n:Nat)),.int .i64 (Qb5 (suf s (Qao s k))).e]) (by simp [results,Tryz.results51,go_sem]) rfl ⟨_,by rw [HD.out];rfl,by rw [HD.out];exact World.ownsRow_nil _ _ _ _,HB.out⟩
def Toks (w:World) (A:Option Addr) (ts:List Tok):Prop :=
 ts≠[]→∃ b off,A=some ⟨b,off,none⟩∧∀ (i:Nat) (t:Tok),ts[i]? = some t →
  w.cell? ⟨b,off+i*3,none⟩=some (.int .i64 t.kind)∧w.cell? ⟨b,off+i*3+1,none⟩=some (.string t.lead)∧w.cell? ⟨b,off+i*3+2,none⟩=some (.string t.text)
theorem Toks.same {w w':World} {A:Option Addr} {ts:List Tok} (h:Toks w A ts) (hw:∀ p:Addr,(∃ u,w.cell? p=some u)→w'.cell? p=w.cell? p):Toks w' A ts:=fun hne=>by
 obtain ⟨b,off,hA,hc⟩:=h hne;refine ⟨b,off,hA,fun i t ht=>?_⟩;obtain ⟨h1,h2,h3⟩:=hc i t ht;exact ⟨(hw _ ⟨_,h1⟩).trans h1,(hw _ ⟨_,h2⟩).trans h2,(hw _ ⟨_,h3⟩).trans h3⟩
theorem Toks.below {w w':World} {A:Option Addr} {ts:List Tok} (h:Toks w A ts) (hb:Below w.heap.size w w'):Toks w' A ts :=
 h.same fun p ⟨_,hu⟩=>hb.cell (xK w p hu)
theorem Qqc {ts:List Tok} {i:Nat} {t:Tok} (ht:ts[i]? = some t):∀ (j:Nat) (u:Value),j<3→[Value.int .i64 t.kind,.string t.lead,.string t.text][j]? = some u→(Qci ts)[i*3+j]? = some u:=by
 induction ts generalizing i with
 | nil=>simp at ht
 | cons a r ih =>
  intro j u hj hu;have e:Qci (a :: r) = [Value.int .i64 a.kind,.string a.lead,.string a.text] ++ Qci r:=by unfold Qci;rw [List.flatMap_cons]
  rw [e];cases i with
  | zero =>
   have:a=t:=by simpa using ht
   subst this;rw [yB (by simp;omega)]
   simpa using hu
  | succ i =>
   rw [xX (by simp;omega)];have:=ih (by simpa using ht) j u hj hu
   rw [←this]
   congr 1
   simp
   omega
theorem Toks.of_own {w:World} {base:Nat} {A:Option Addr} {c:Nat} {ts:List Tok} (h:w.ownsRow base 88 3 (.slice A ts.length c) ts.length (Qci ts)):Toks w A ts:=fun hne=>by
 obtain ⟨g,cap,hv,_,_⟩:=h.form (by rcases ts with _|⟨t,r⟩;exact absurd rfl hne;simp);have hA:A=some ⟨g,0,none⟩:=by injection hv
 subst hA;refine ⟨g,0,rfl,fun i t ht=>?_⟩;have hc:=h.cells (g:=g) rfl;have hj:=Qqc ht
 have hk:∀ j (u:Value),j<3→[Value.int .i64 t.kind,.string t.lead,.string t.text][j]? = some u→w.cell? ⟨g,0+i*3+j,none⟩=some u:=fun j u h1 h2=>by
  have:=hc (i*3+j) u (hj j u h1 h2)
  unfold Addr.add at this
  split at this
  ·rename_i h0
   rw [show 0+i*3+j=0 from by omega];exact this
  ·simpa using this
 exact ⟨hk 0 _ (by omega) rfl,hk 1 _ (by omega) rfl,hk 2 _ (by omega) rfl⟩
theorem Qvv {w:World} {base e size n:Nat} {v:Value} {xs:List Value} (h:w.ownsRow base e size v n xs):∃ A c,v = .slice A n c:=by
 rcases h.2 with ⟨h1,h2⟩|⟨g,cap,_,h1,_⟩
 ·subst h2;exact ⟨none,0,h1⟩
 ·exact ⟨_,cap,h1⟩
theorem hsec (s:ByteArray) (b m:Nat) (hn:b<s.size) (hp0:0<m):Qbf ((s.extract b (b+m))[0]'(Qej s b m hn hp0)).toNat=true∨Qbf ((s.extract b (b+m))[0]'(Qej s b m hn hp0)).toNat=false:=by
 cases Qbf ((s.extract b (b+m))[0]'(Qej s b m hn hp0)).toNat
 ·exact .inr rfl
 ·exact .inl rfl
theorem Qwm (s:ByteArray) (a:Nat) (w:World) (h0:a<s.size) (hl:Qai s[a].toNat=true) (hs:s.size<maxLen) :
  Calls Tryz.prog 165 #[.string s,.int .i64 a] w (Qcz s a w):=by
 cases hu:Qbf s[a].toNat
 ·exact Qwg s a w h0 hl hs hu
 ·cases hr:Qah ((suf s a).take (Qac (suf s a)))
  ·by_cases hn:a+Qac (suf s a)+1<s.size
   ·by_cases h46:s[a+Qac (suf s a)].toNat=46
    ·cases hz:Qai s[a+Qac (suf s a)+1].toNat
     ·exact Qwi s a w h0 hl hs hu hr hn h46 hz
     ·by_cases h1:24<Qac (suf s a)
      ·exact Qz4 s a w h0 hl hs hu hr hn h46 hz h1
      ·by_cases h2:24<Qac (suf s (a+Qac (suf s a)+1))
       ·exact Qz5 s a w h0 hl hs hu hr hn h46 hz h2
       ·have hp0:0<Qac (suf s (a+Qac (suf s a)+1)):=Qet hn hz;have h24:¬ (24<Qac (suf s a)∨24<Qac (suf s (a+Qac (suf s a)+1))):=by omega
        cases hr2:Qah ((suf s (a+Qac (suf s a)+1)).take (Qac (suf s (a+Qac (suf s a)+1))))
        ·rcases hsec s (a+Qac (suf s a)+1) _ hn hp0 with hup | hup
         ·exact Qz7 s a w h0 hl hs hu hr hn h46 hz h24 hr2 hp0 hup
         ·exact Qz8 s a w h0 hl hs hu hr hn h46 hz h24 hr2 hp0 hup
        ·exact Qz6 s a w h0 hl hs hu hr hn h46 hz h24 hr2
    ·exact Qqy s a w h0 hl hs hu hr hn h46
   ·exact Qqx s a w h0 hl hs hu hr hn
  ·exact Qwh s a w h0 hl hs hu hr
theorem Zc1 (s:ByteArray) (k n:Nat) (w:World) (h0:k+n<s.size) (hs:s.size<maxLen) :
  Calls Tryz.prog 138 #[.string s,.int .i64 ((k:Int)+(n:Int))] w (Qfq (Qb5 (suf s (k+n))) (k+n) w):=by
 have h:=Qz3 s (k+n) w h0 hs (fun hl w=>Qwm s (k+n) w h0 hl hs)
 rwa [show ((k+n:Nat):Int)=(k:Int)+(n:Int) from by omega] at h
theorem Qky (s:ByteArray) (w:World) (h0:0<s.size) (hs:s.size<maxLen) :
  Calls Tryz.prog 138 #[.string s,.int .i64 0] w (Qfq (Qb5 (suf s 0)) 0 w):=by
 have h:=Zc1 s 0 0 w h0 hs
 simpa using h
theorem Qsa {l:List UInt8} (ha:Qaq (at' l 0)=true) (hl:Qai (at' l 0)=false) (hd:Qbm (at' l 0)=false) (h34:at' l 0≠34) (h61:at' l 0≠61) (ho:Qd4 (at' l 0)=false):Qb5 l=⟨0,0,2⟩:=by
 have hs:Qbh l=0:=by unfold Qbh;rw [xN h61,xN (by simp [ho])]
 unfold Qb5;rw [xN (by simp [ha]),xN (by simp [hl]),xN (by simp [hd]),xN h34];unfold Qde;rw [xO hs]
theorem Qwn {l:List UInt8} (h:Qeo (at' l 0)=true):Qb5 l=⟨0,0,2⟩:=by
 have:at' l 0=9∨at' l 0=10∨at' l 0=13∨at' l 0=32:=by
  unfold Qeo at h;simp at h
  omega
 rcases this with h | h | h | h <;> exact Qsa (by rw [h];decide) (by rw [h];decide) (by rw [h];decide) (by rw [h];decide) (by rw [h];decide) (by rw [h];decide)
theorem Qz9 {l:List UInt8} (h:at' l 0=35):Qb5 l=⟨0,0,2⟩ :=
 Qsa (by rw [h];decide) (by rw [h];decide) (by rw [h];decide) (by rw [h];decide) (by rw [h];decide) (by rw [h];decide)
theorem Qjd {l:List UInt8} (h:(Qb5 l).e≠0):Qag l=0:=by
 unfold Qag
 split
 ·rfl
 ·rw [xO (.inl h)]
theorem Qcq (s:ByteArray) (w:World) (hs:s.size<maxLen) :
  Calls Tryz.prog 90 #[.string s] w fun e w'=>e = .returned (.int .i64 (Qag (suf s 0)))∧Below w.heap.size w w':=by
 have HS:=hQ hs
 by_cases h0:0<s.size
 ·have hne:s.toList.isEmpty=false:=by
   have:=Qrs h0
   rw [Qhd] at this
   simpa using this
  have HN:=hQ (Qrs h0);have HL:=hQ (Qb0 s 0);have H0:=hQ (Qdq s 0 h0);unfold maxLen at hs
  cases hw:Qeo s[0].toNat
  ·by_cases h35:s[0].toNat=35
   ·have g35:((s[0].toNat:Int)==35)=true:=Qco h35;have HC:=hQ (Qjd (l:=suf s 0) (by rw [Qz9 (H0.out.trans h35)];decide));clear h35
    go_enter Tryz.func90,Tryz.ntmps90
    go_wp2_with (go_at_call 137;refine (Qfa _ _).mono ?_;rintro e w' ⟨rfl,rfl⟩)
    go_ret
    exact ⟨Qbx (by rw [HC.out];rfl),xC _ _⟩
   ·have g35:((s[0].toNat:Int)==35)=false:=Qc3 h35;clear h35
    by_cases he:(Qb5 (suf s 0)).e=0
    ·have he':((((Qb5 (suf s 0)).e:Nat):Int) != 0)=false:=by simp [he]
     have hil:Qy5 (Qb5 (suf s 0))=(((Qb5 (suf s 0)).n:Nat):Int):=by unfold Qy5;rw [xO he]
     by_cases hn:(Qb5 (suf s 0)).n=s.size
     ·have hn':((((Qb5 (suf s 0)).n:Nat):Int) != (s.size:Int))=false:=by simp [hn]
      have HC:=hQ (show Qag (suf s 0)=(Qb5 (suf s 0)).kind from by unfold Qag;rw [xN HN.out,xN (by rw [HL.out,he,hn];simp)]);clear he hn
      go_enter Tryz.func90,Tryz.ntmps90
      go_wp2_with (first | (go_at_call 137;refine (Qfa _ _).mono ?_;rintro e w' ⟨rfl,rfl⟩) | (go_at_call 138;refine (Qky s _ h0 HS.out).mono ?_;rintro e w1 ⟨rfl,hb1⟩;have HB:=hQ hb1;clear hb1))
      go_ret
      exact ⟨Qbx (by rw [HC.out]),HB.out.alloc HB.out.size _⟩
     ·have hn':((((Qb5 (suf s 0)).n:Nat):Int) != (s.size:Int))=true:=by simp;omega
      have HC:=hQ (show Qag (suf s 0)=0 from by unfold Qag;rw [xN HN.out,xO (.inr (by rw [HL.out];exact hn))]);clear he hn
      go_enter Tryz.func90,Tryz.ntmps90
      go_wp2_with (first | (go_at_call 137;refine (Qfa _ _).mono ?_;rintro e w' ⟨rfl,rfl⟩) | (go_at_call 138;refine (Qky s _ h0 HS.out).mono ?_;rintro e w1 ⟨rfl,hb1⟩;have HB:=hQ hb1;clear hb1))
      go_ret
      exact ⟨Qbx (by rw [HC.out];rfl),HB.out.alloc HB.out.size _⟩
    ·have he':((((Qb5 (suf s 0)).e:Nat):Int) != 0)=true:=by simp;omega
     have HC:=hQ (Qjd he);clear he
     go_enter Tryz.func90,Tryz.ntmps90
     go_wp2_with (first | (go_at_call 137;refine (Qfa _ _).mono ?_;rintro e w' ⟨rfl,rfl⟩) | (go_at_call 138;refine (Qky s _ h0 HS.out).mono ?_;rintro e w1 ⟨rfl,hb1⟩;have HB:=hQ hb1;clear hb1))
     go_ret
     exact ⟨Qbx (by rw [HC.out];rfl),HB.out.alloc HB.out.size _⟩
  ·have HC:=hQ (Qjd (l:=suf s 0) (by rw [Qwn (by rw [H0.out];exact hw)];decide))
   go_enter Tryz.func90,Tryz.ntmps90
   go_wp2_with (go_at_call 137;refine (Qfa _ _).mono ?_;rintro e w' ⟨rfl,rfl⟩)
   go_ret
   exact ⟨Qbx (by rw [HC.out];rfl),xC _ _⟩
 ·have he:s.toList.isEmpty=true:=by rw [←Qhd,Qm4 (by omega)];rfl
  have HC:=hQ (show Qag (suf s 0)=0 from by rw [Qm4 (by omega)];rfl)
  go_enter Tryz.func90,Tryz.ntmps90
  go_wp2
  go_ret
  exact ⟨Qbx (by rw [HC.out];rfl),xC _ _⟩
end Go.Proofs.YtfjpemdejoejbaaGreat
