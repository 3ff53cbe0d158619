/- Part 10 -/
import Derived.Test.YtjidpkcjpgdafaaGreatSf9
import Derived.Test.YtjidpkcjpgdafaaGreatSf8
import Derived.Laws.OwnMore
import Derived.Laws.StructEq
import Derived.Deep.AppendLies
import Derived.StillTailTactics
import Derived.Deep.RegionHeld3
set_option maxRecDepth 100000
set_option maxHeartbeats 4000000
namespace Go.Proofs.YtjidpkcjpgdafaaGreat
open Go.RowKit
theorem Qk6:(Tryz.prog.info? 119).map (fun i=>(i.zero,i.size,i.bytes))=some (some (.agg #[.int .i64 0,.string ByteArray.empty,.string ByteArray.empty]),3,40):=by kernel_rfl
def Qb3 (ts:List Tok):List Value:=ts.flatMap fun t=>[.int .i64 t.kind,.string t.lead,.string t.text]
theorem Qhs (ts:List Tok) (t:Tok):Qb3 (ts ++ [t])=Qb3 ts ++ [.int .i64 t.kind,.string t.lead,.string t.text]:=by
 unfold Qb3
 rw [List.flatMap_append]
 rfl
theorem Qkz (w:World) (x y z:Value) (t:TypeId):∀ j u,[x,y,z][j]? = some u→(w.alloc (.cells #[x,y,z] t)).cell? ((⟨w.heap.size,0,none⟩:Addr).add j)=some u:=by
 intro j u hj
 match j,hj with
 | 0,hj=>simp at hj;subst hj;simp [Addr.add]
 | 1,hj=>simp at hj;subst hj;simp [Addr.add]
 | 2,hj=>simp at hj;subst hj;simp [Addr.add]
 | (j+3),hj=>simp at hj
theorem Qm3 (k:Int) (x y:ByteArray):∀ u∈[Value.int .i64 k,.string x,.string y],u.oneCell'=true:=by
 intro u hu
 simp at hu
 rcases hu with rfl | rfl | rfl <;> rfl
def Qvt (r:Res) (w:World) (e:Ending) (w':World):Prop :=
 ∃ v,e = .returned (.tuple #[v,.string r.tail,.int .i64 r.place,.int .i64 r.e])∧w'.ownsRow w.heap.size 119 3 v r.toks.length (Qb3 r.toks)∧Below w.heap.size w w'
theorem Qk7 (s:ByteArray) (a:Nat) (w:World) (h0:a<s.size) (hs:s.size<maxLen) :
  Calls Tryz.prog 123 #[.string (s.extract a s.size)] w fun e w'=>e = .returned (.tuple #[.int .i64 (Qbu (suf s a)).kind,.int .i64 (Qbu (suf s a)).n,.int .i64 (Qbu (suf s a)).e])∧w=w':=by
 rw [←Qgw s a]
 exact Qhr _ w (Qhp s a h0) (by rw [ByteArray.size_extract];omega)
def ScanRel (s:ByteArray) (w:World) (v i:Value) (wr:World):Prop :=
 ∃ (k:Nat) (acc:List Tok),i = .int .i64 k∧ScanAt s k acc∧wr.ownsRow w.heap.size 119 3 v acc.length (Qb3 acc)∧Below w.heap.size w wr
theorem ScanRel.start (s:ByteArray) (w:World):ScanRel s w (.slice none 0 0) (.int .i64 0) w :=
 ⟨0,[],rfl,ScanAt.start s,World.ownsRow_nil _ _ _ _,xC _ _⟩
theorem ScanRel.next {s:ByteArray} {w wr w':World} {v v':Value} {n:Nat} {acc:List Tok} {t:Tok} {o:Obj} (h:ScanAt s n (acc ++ [t])) (hown:wr.ownsRow w.heap.size 119 3 v acc.length (Qb3 acc)) (hb:Below w.heap.size w wr)
  (hown':w'.ownsRow w.heap.size 119 3 v' (acc.length+1) (Qb3 acc ++ [.int .i64 t.kind,.string t.lead,.string t.text])) (hg:(wr.alloc o).grownBy w' v.ownBlock):ScanRel s w v' (.int .i64 n) w':=by
 refine ⟨n,acc ++ [t],rfl,h,by rw [Qhs];simpa using hown',?_⟩
 exact (hb.alloc hb.size o).grown hg (by rw [xI];have:=hb.size;omega) (fun j hj=>(hown.lt j hj).1)
theorem Qp0 (s:ByteArray) (w:World) (hs:s.size≤maxLen) :
  Calls Tryz.prog 77 #[.string s] w (Qvt (Qbs s) w):=by
 by_cases hlong:4096<s.size
 ·have HR:=hQ (show Qbs s=⟨[],ByteArray.empty,4096,3⟩ from by unfold Qbs;rw [xO hlong])
  unfold maxLen at hs
  go_enter Tryz.func77,Tryz.ntmps77
  go_wp2
  exact bodyPost_ret (v:=.tuple #[.slice none 0 0,.string ⟨#[]⟩,.int .i64 4096,.int .i64 3]) (by simp [results,Tryz.results77,go_sem]) rfl ⟨_,by rw [HR.out];rfl,by rw [HR.out];exact World.ownsRow_nil _ _ _ _,xC _ _⟩
 ·have HR:=hQ (show Qbs s=Qso s from by unfold Qbs;rw [xN hlong])
  have HL:=hQ (show s.size<maxLen from by unfold maxLen;omega)
  have HM:=hQ hs
  have hshort:s.size≤4096:=by omega
  obtain ⟨i0,hi,hz0,hz1,hz2⟩:=info_parts Qk6
  clear hs hlong
  go_enter Tryz.func77,Tryz.ntmps77
  go_wp2
  go_loopw [2,6] (fun v i wr=>ScanRel s w v i wr) (fun _ i _=>s.size-(intOf i).toNat)
  case atStart=>exact ScanRel.start s w
  case round =>
   obtain ⟨k,acc,rfl,hat,hown,hbl⟩:=hrel
   have HA:=hQ hat
   have hk:=hat.1
   have hacc:=hat.2.1
   have hge:=Qhn s k
   have hle:=Qgh s k hk
   clear hat
   have HO:=hQ hown
   have HB:=hQ hbl
   clear hown hbl
   by_cases hst:Qak s k=s.size
   ·have HD:=hQ (HR.out.trans (HA.out.done hst))
    have hst':(((Qak s k:Nat):Int)==(s.size:Int))=true:=by simp [hst]
    have HE:=hQ (show s.extract k (Qak s k)=s.extract k s.size from by rw [hst])
    clear hst
    go_wp2_with (go_at_call 122;refine (Ql6 s k _ hk HM.out).mono ?_;rintro e w' ⟨rfl,rfl⟩)
    exact bodyPost_ret (v:=.tuple #[u2,.string (s.extract k (Qak s k)),.int .i64 0,.int .i64 0]) (by simp [results,Tryz.results77,go_sem]) rfl ⟨_,by rw [HD.out,HE.out];rfl,by rw [HD.out];exact HO.out,HB.out⟩
   ·have hst':(((Qak s k:Nat):Int)==(s.size:Int))=false:=Qcp hst
    have hlt:Qak s k<s.size:=by omega
    by_cases he:(Qbu (suf s (Qak s k))).e=0
    ·have HN:=hQ (HA.out.next hst he)
     have hlen:=Qj3 he
     rw [Qbm] at hlen
     have he':((((Qbu (suf s (Qak s k))).e:Nat):Int) != 0)=false:=by simp [he]
     clear he hst
     go_wp2_with (first | (go_at_call 122;refine (Ql6 s k _ hk HM.out).mono ?_;rintro e w' ⟨rfl,rfl⟩) | (go_at_call 123;refine (Qk7 s (Qak s k) _ hlt HL.out).mono ?_;rintro e w' ⟨rfl,rfl⟩) | (at_builtin;refine wpList_append_own _ rfl (.tmp 49) (.tmp 57) 115 rfl w.heap.size 119 i0 _ 3 40 Tryz.underlying115 hi hz0 hz1 hz2 rfl (by omega) u2 acc.length (Qb3 acc) rfl (HO.out.alloc _) ⟨wr.heap.size,0,none⟩ 1 1 [.int .i64 (Qbu (suf s (Qak s k))).kind,.string (s.extract k (Qak s k)),.string (s.extract (Qak s k) (Qak s k+(Qbu (suf s (Qak s k))).n))] rfl rfl ?c1 ?c2 ?c3 ?c4 ?c5 ?_))
     case c1=>exact Qkz _ _ _ _ _
     case c2=>exact Qm3 _ _ _
     case c3=>unfold maxLen;omega
     case c4=>omega
     case c5=>rw [xI];have:=HB.out.size;omega
     intro v' w1 hown1 hg1 _
     have HV:=hQ hown1
     have HG:=hQ hg1
     clear hown1 hg1
     go_wp2
     go_roundw
     case rel=>exact ScanRel.next HN.out HO.out HB.out HV.out HG.out
     case measure=>simp [intOf];omega
    ·have HD:=hQ (HR.out.trans (HA.out.stop hst he))
     have he':((((Qbu (suf s (Qak s k))).e:Nat):Int) != 0)=true:=by simp;omega
     have hmax:(Qbu (suf s (Qak s k))).n≤s.size:=by have:=Qog he;rw [Qbm] at this;omega
     clear he hst
     go_wp2_with (first | (go_at_call 122;refine (Ql6 s k _ hk HM.out).mono ?_;rintro e w' ⟨rfl,rfl⟩) | (go_at_call 123;refine (Qk7 s (Qak s k) _ hlt HL.out).mono ?_;rintro e w' ⟨rfl,rfl⟩))
     exact bodyPost_ret (v:=.tuple #[.slice none 0 0,.string ⟨#[]⟩,.int .i64 (((Qak s k:Nat):Int)+((Qbu (suf s (Qak s k))).n:Nat)),.int .i64 (Qbu (suf s (Qak s k))).e]) (by simp [results,Tryz.results77,go_sem]) rfl ⟨_,by rw [HD.out];rfl,by rw [HD.out];exact World.ownsRow_nil _ _ _ _,HB.out⟩
def Toks (w:World) (A:Option Addr) (ts:List Tok):Prop :=
 ts≠[]→∃ b off,A=some ⟨b,off,none⟩∧∀ (i:Nat) (t:Tok),ts[i]? = some t →
  w.cell? ⟨b,off+i*3,none⟩=some (.int .i64 t.kind)∧w.cell? ⟨b,off+i*3+1,none⟩=some (.string t.lead)∧w.cell? ⟨b,off+i*3+2,none⟩=some (.string t.text)
theorem Toks.same {w w':World} {A:Option Addr} {ts:List Tok} (h:Toks w A ts) (hw:∀ p:Addr,(∃ u,w.cell? p=some u)→w'.cell? p=w.cell? p):Toks w' A ts:=fun hne=>by
 obtain ⟨b,off,hA,hc⟩:=h hne
 refine ⟨b,off,hA,fun i t ht=>?_⟩
 obtain ⟨h1,h2,h3⟩:=hc i t ht
 exact ⟨(hw _ ⟨_,h1⟩).trans h1,(hw _ ⟨_,h2⟩).trans h2,(hw _ ⟨_,h3⟩).trans h3⟩
theorem Toks.below {w w':World} {A:Option Addr} {ts:List Tok} (h:Toks w A ts) (hb:Below w.heap.size w w'):Toks w' A ts :=
 h.same fun p ⟨_,hu⟩=>hb.cell (xK w p hu)
theorem Qor {ts:List Tok} {i:Nat} {t:Tok} (ht:ts[i]? = some t):∀ (j:Nat) (u:Value),j<3→[Value.int .i64 t.kind,.string t.lead,.string t.text][j]? = some u→(Qb3 ts)[i*3+j]? = some u:=by
 induction ts generalizing i with
 | nil=>simp at ht
 | cons a r ih =>
  intro j u hj hu
  have e:Qb3 (a :: r) = [Value.int .i64 a.kind,.string a.lead,.string a.text] ++ Qb3 r:=by unfold Qb3;rw [List.flatMap_cons]
  rw [e]
  cases i with
  | zero =>
   have:a=t:=by simpa using ht
   subst this
   rw [yB (by simp;omega)]
   simpa using hu
  | succ i =>
   rw [xX (by simp;omega)]
   have:=ih (by simpa using ht) j u hj hu
   rw [←this]
   congr 1
   simp
   omega
theorem Toks.of_own {w:World} {base:Nat} {A:Option Addr} {c:Nat} {ts:List Tok} (h:w.ownsRow base 119 3 (.slice A ts.length c) ts.length (Qb3 ts)):Toks w A ts:=fun hne=>by
 obtain ⟨g,cap,hv,_,_⟩:=h.form (by rcases ts with _|⟨t,r⟩;exact absurd rfl hne;simp)
 have hA:A=some ⟨g,0,none⟩:=by injection hv
 subst hA
 refine ⟨g,0,rfl,fun i t ht=>?_⟩
 have hc:=h.cells (g:=g) rfl
 have hj:=Qor ht
 have hk:∀ j (u:Value),j<3→[Value.int .i64 t.kind,.string t.lead,.string t.text][j]? = some u→w.cell? ⟨g,0+i*3+j,none⟩=some u:=fun j u h1 h2=>by
  have:=hc (i*3+j) u (hj j u h1 h2)
  unfold Addr.add at this
  split at this
  ·rename_i h0
   rw [show 0+i*3+j=0 from by omega]
   exact this
  ·simpa using this
 exact ⟨hk 0 _ (by omega) rfl,hk 1 _ (by omega) rfl,hk 2 _ (by omega) rfl⟩
theorem Qem {w:World} {base e size n:Nat} {v:Value} {xs:List Value} (h:w.ownsRow base e size v n xs):∃ A c,v = .slice A n c:=by
 rcases h.2 with ⟨h1,h2⟩|⟨g,cap,_,h1,_⟩
 ·subst h2
  exact ⟨none,0,h1⟩
 ·exact ⟨_,cap,h1⟩
theorem hsec (s:ByteArray) (b m:Nat) (hn:b<s.size) (hp0:0<m):Qbc ((s.extract b (b+m))[0]'(Qd8 s b m hn hp0)).toNat=true∨Qbc ((s.extract b (b+m))[0]'(Qd8 s b m hn hp0)).toNat=false:=by
 cases Qbc ((s.extract b (b+m))[0]'(Qd8 s b m hn hp0)).toNat
 ·exact .inr rfl
 ·exact .inl rfl
theorem Qui (s:ByteArray) (a:Nat) (w:World) (h0:a<s.size) (hl:Qai s[a].toNat=true) (hs:s.size<maxLen) :
  Calls Tryz.prog 251 #[.string s,.int .i64 a] w (Qcm s a w):=by
 cases hu:Qbc s[a].toNat
 ·exact Quc s a w h0 hl hs hu
 ·cases hr:Qah ((suf s a).take (Qac (suf s a)))
  ·by_cases hn:a+Qac (suf s a)+1<s.size
   ·by_cases h46:s[a+Qac (suf s a)].toNat=46
    ·cases hz:Qai s[a+Qac (suf s a)+1].toNat
     ·exact Que s a w h0 hl hs hu hr hn h46 hz
     ·by_cases h1:24<Qac (suf s a)
      ·exact Qwn s a w h0 hl hs hu hr hn h46 hz h1
      ·by_cases h2:24<Qac (suf s (a+Qac (suf s a)+1))
       ·exact Qwo s a w h0 hl hs hu hr hn h46 hz h2
       ·have hp0:0<Qac (suf s (a+Qac (suf s a)+1)):=Qei hn hz
        have h24:¬ (24<Qac (suf s a)∨24<Qac (suf s (a+Qac (suf s a)+1))):=by omega
        cases hr2:Qah ((suf s (a+Qac (suf s a)+1)).take (Qac (suf s (a+Qac (suf s a)+1))))
        ·rcases hsec s (a+Qac (suf s a)+1) _ hn hp0 with hup | hup
         ·exact Qwq s a w h0 hl hs hu hr hn h46 hz h24 hr2 hp0 hup
         ·exact Qwr s a w h0 hl hs hu hr hn h46 hz h24 hr2 hp0 hup
        ·exact Qwp s a w h0 hl hs hu hr hn h46 hz h24 hr2
    ·exact Qpj s a w h0 hl hs hu hr hn h46
   ·exact Qpi s a w h0 hl hs hu hr hn
  ·exact Qud s a w h0 hl hs hu hr
theorem Qyt (s:ByteArray) (k n:Nat) (w:World) (h0:k+n<s.size) (hs:s.size<maxLen) :
  Calls Tryz.prog 236 #[.string s,.int .i64 ((k:Int)+(n:Int))] w (Qfc (Qbu (suf s (k+n))) (k+n) w):=by
 have h:=Qwm s (k+n) w h0 hs (fun hl w=>Qui s (k+n) w h0 hl hs)
 rwa [show ((k+n:Nat):Int)=(k:Int)+(n:Int) from by omega] at h
theorem Qkq (s:ByteArray) (w:World) (h0:0<s.size) (hs:s.size<maxLen) :
  Calls Tryz.prog 236 #[.string s,.int .i64 0] w (Qfc (Qbu (suf s 0)) 0 w):=by
 have h:=Qyt s 0 0 w h0 hs
 simpa using h
theorem Qqp {l:List UInt8} (ha:Qal (at' l 0)=true) (hl:Qai (at' l 0)=false) (hd:Qbd (at' l 0)=false) (h34:at' l 0≠34) (h61:at' l 0≠61) (ho:Qdv (at' l 0)=false):Qbu l=⟨0,0,2⟩:=by
 have hs:Qa2 l=0:=by unfold Qa2;rw [xN h61,xN (by simp [ho])]
 unfold Qbu
 rw [xN (by simp [ha]),xN (by simp [hl]),xN (by simp [hd]),xN h34]
 unfold Qc5
 rw [xO hs]
theorem Quj {l:List UInt8} (h:Qea (at' l 0)=true):Qbu l=⟨0,0,2⟩:=by
 have:at' l 0=9∨at' l 0=10∨at' l 0=13∨at' l 0=32:=by
  unfold Qea at h
  simp at h
  omega
 rcases this with h | h | h | h <;> exact Qqp (by rw [h];decide) (by rw [h];decide) (by rw [h];decide) (by rw [h];decide) (by rw [h];decide) (by rw [h];decide)
theorem Qws {l:List UInt8} (h:at' l 0=35):Qbu l=⟨0,0,2⟩ :=
 Qqp (by rw [h];decide) (by rw [h];decide) (by rw [h];decide) (by rw [h];decide) (by rw [h];decide) (by rw [h];decide)
theorem Qiy {l:List UInt8} (h:(Qbu l).e≠0):Qa6 l=0:=by
 unfold Qa6
 split
 ·rfl
 ·rw [xO (.inl h)]
theorem Qca (s:ByteArray) (w:World) (hs:s.size<maxLen) :
  Calls Tryz.prog 201 #[.string s] w fun e w'=>e = .returned (.int .i64 (Qa6 (suf s 0)))∧Below w.heap.size w w':=by
 have HS:=hQ hs
 by_cases h0:0<s.size
 ·have hne:s.toList.isEmpty=false:=by
   have:=Qp3 h0
   rw [Qgx] at this
   simpa using this
  have HN:=hQ (Qp3 h0)
  have HL:=hQ (Qbm s 0)
  have H0:=hQ (Qdj s 0 h0)
  unfold maxLen at hs
  cases hw:Qea s[0].toNat
  ·by_cases h35:s[0].toNat=35
   ·have g35:((s[0].toNat:Int)==35)=true:=Qb8 h35
    have HC:=hQ (Qiy (l:=suf s 0) (by rw [Qws (H0.out.trans h35)];decide))
    clear h35
    go_enter Tryz.func201,Tryz.ntmps201
    go_wp2_with (go_at_call 235;refine (Qew _ _).mono ?_;rintro e w' ⟨rfl,rfl⟩)
    go_ret
    exact ⟨Qbi (by rw [HC.out];rfl),xC _ _⟩
   ·have g35:((s[0].toNat:Int)==35)=false:=Qcp h35
    clear h35
    by_cases he:(Qbu (suf s 0)).e=0
    ·have he':((((Qbu (suf s 0)).e:Nat):Int) != 0)=false:=by simp [he]
     have hil:Qvh (Qbu (suf s 0))=(((Qbu (suf s 0)).n:Nat):Int):=by unfold Qvh;rw [xO he]
     by_cases hn:(Qbu (suf s 0)).n=s.size
     ·have hn':((((Qbu (suf s 0)).n:Nat):Int) != (s.size:Int))=false:=by simp [hn]
      have HC:=hQ (show Qa6 (suf s 0)=(Qbu (suf s 0)).kind from by unfold Qa6;rw [xN HN.out,xN (by rw [HL.out,he,hn];simp)])
      clear he hn
      go_enter Tryz.func201,Tryz.ntmps201
      go_wp2_with (first | (go_at_call 235;refine (Qew _ _).mono ?_;rintro e w' ⟨rfl,rfl⟩) | (go_at_call 236;refine (Qkq s _ h0 HS.out).mono ?_;rintro e w1 ⟨rfl,hb1⟩;have HB:=hQ hb1;clear hb1))
      go_ret
      exact ⟨Qbi (by rw [HC.out]),HB.out.alloc HB.out.size _⟩
     ·have hn':((((Qbu (suf s 0)).n:Nat):Int) != (s.size:Int))=true:=by simp;omega
      have HC:=hQ (show Qa6 (suf s 0)=0 from by unfold Qa6;rw [xN HN.out,xO (.inr (by rw [HL.out];exact hn))])
      clear he hn
      go_enter Tryz.func201,Tryz.ntmps201
      go_wp2_with (first | (go_at_call 235;refine (Qew _ _).mono ?_;rintro e w' ⟨rfl,rfl⟩) | (go_at_call 236;refine (Qkq s _ h0 HS.out).mono ?_;rintro e w1 ⟨rfl,hb1⟩;have HB:=hQ hb1;clear hb1))
      go_ret
      exact ⟨Qbi (by rw [HC.out];rfl),HB.out.alloc HB.out.size _⟩
    ·have he':((((Qbu (suf s 0)).e:Nat):Int) != 0)=true:=by simp;omega
     have HC:=hQ (Qiy he)
     clear he
     go_enter Tryz.func201,Tryz.ntmps201
     go_wp2_with (first | (go_at_call 235;refine (Qew _ _).mono ?_;rintro e w' ⟨rfl,rfl⟩) | (go_at_call 236;refine (Qkq s _ h0 HS.out).mono ?_;rintro e w1 ⟨rfl,hb1⟩;have HB:=hQ hb1;clear hb1))
     go_ret
     exact ⟨Qbi (by rw [HC.out];rfl),HB.out.alloc HB.out.size _⟩
  ·have HC:=hQ (Qiy (l:=suf s 0) (by rw [Quj (by rw [H0.out];exact hw)];decide))
   go_enter Tryz.func201,Tryz.ntmps201
   go_wp2_with (go_at_call 235;refine (Qew _ _).mono ?_;rintro e w' ⟨rfl,rfl⟩)
   go_ret
   exact ⟨Qbi (by rw [HC.out];rfl),xC _ _⟩
 ·have he:s.toList.isEmpty=true:=by rw [←Qgx,Qmb (by omega)];rfl
  have HC:=hQ (show Qa6 (suf s 0)=0 from by rw [Qmb (by omega)];rfl)
  go_enter Tryz.func201,Tryz.ntmps201
  go_wp2
  go_ret
  exact ⟨Qbi (by rw [HC.out];rfl),xC _ _⟩
end Go.Proofs.YtjidpkcjpgdafaaGreat
