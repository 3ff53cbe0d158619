/- Part 4 -/
import Derived.Test.YtjidpkcjpgdafaaGreatSe3
import Derived.Laws.OwnMore
import Derived.Laws.StructEq
import Derived.Deep.AppendLies
set_option maxRecDepth 100000
set_option maxHeartbeats 4000000
namespace Go.Proofs.YtjidpkcjpgdafaaGreat
open Go.RowKit
theorem Qkj:(Tryz.prog.info? 119).map (fun i=>(i.zero,i.size,i.bytes))=some (some (.agg #[.int .i64 0,.string ByteArray.empty,.string ByteArray.empty]),3,40):=by kernel_rfl
def Qcf (ts:List Tok):List Value:=ts.flatMap fun t=>[.int .i64 t.kind,.string t.lead,.string t.text]
theorem Qhl (ts:List Tok) (t:Tok):Qcf (ts ++ [t])=Qcf ts ++ [.int .i64 t.kind,.string t.lead,.string t.text]:=by
 unfold Qcf;rw [List.flatMap_append];rfl
theorem Qnr (w:World) (x y z:Value) (t:TypeId):∀ j u,[x,y,z][j]? = some u→(w.alloc (.cells #[x,y,z] t)).cell? ((⟨w.heap.size,0,none⟩:Addr).add j)=some u:=by
 intro j u hj
 match j,hj with
 | 0,hj=>simp at hj;subst hj;simp [Addr.add]
 | 1,hj=>simp at hj;subst hj;simp [Addr.add]
 | 2,hj=>simp at hj;subst hj;simp [Addr.add]
 | (j+3),hj=>simp at hj
theorem Qme (k:Int) (x y:ByteArray):∀ u∈[Value.int .i64 k,.string x,.string y],u.oneCell'=true:=by
 intro u hu;simp at hu
 rcases hu with rfl | rfl | rfl <;> rfl
def Qo7 (r:Res) (w:World) (e:Ending) (w':World):Prop :=
 ∃ v,e = .returned (.tuple #[v,.string r.tail,.int .i64 r.place,.int .i64 r.e])∧w'.ownsRow w.heap.size 119 3 v r.toks.length (Qcf r.toks)∧Below w.heap.size w w'
theorem Qn2 (s:ByteArray) (a:Nat) (w:World) (h0:a<s.size) (hs:s.size<maxLen) :
  Calls Tryz.prog 123 #[.string (s.extract a s.size)] w fun e w'=>e = .returned (.tuple #[.int .i64 (Qbe (suf s a)).kind,.int .i64 (Qbe (suf s a)).n,.int .i64 (Qbe (suf s a)).e])∧w=w':=by
 rw [←Qim s a];exact Qjp _ w (Qjn s a h0) (by rw [ByteArray.size_extract];omega)
def ScanRel (s:ByteArray) (w:World) (v i:Value) (wr:World):Prop :=
 ∃ (k:Nat) (acc:List Tok),i = .int .i64 k∧ScanAt s k acc∧wr.ownsRow w.heap.size 119 3 v acc.length (Qcf acc)∧Below w.heap.size w wr
theorem ScanRel.start (s:ByteArray) (w:World):ScanRel s w (.slice none 0 0) (.int .i64 0) w :=
 ⟨0,[],rfl,ScanAt.start s,World.ownsRow_nil _ _ _ _,xC _ _⟩
theorem ScanRel.next {s:ByteArray} {w wr w':World} {v v':Value} {n:Nat} {acc:List Tok} {t:Tok} {o:Obj} (h:ScanAt s n (acc ++ [t])) (hown:wr.ownsRow w.heap.size 119 3 v acc.length (Qcf acc)) (hb:Below w.heap.size w wr)
  (hown':w'.ownsRow w.heap.size 119 3 v' (acc.length+1) (Qcf acc ++ [.int .i64 t.kind,.string t.lead,.string t.text])) (hg:(wr.alloc o).grownBy w' v.ownBlock):ScanRel s w v' (.int .i64 n) w':=by
 refine ⟨n,acc ++ [t],rfl,h,by rw [Qhl];simpa using hown',?_⟩;exact (hb.alloc hb.size o).grown hg (by rw [xI];have:=hb.size;omega) (fun j hj=>(hown.lt j hj).1)
theorem Qtm (s:ByteArray) (w:World) (hs:s.size≤maxLen) :
  Calls Tryz.prog 77 #[.string s] w (Qo7 (Qbf s) w):=by
 by_cases hlong:4096<s.size
 ·have HR:=hQ (show Qbf s=⟨[],ByteArray.empty,4096,3⟩ from by unfold Qbf;rw [xO hlong]);unfold maxLen at hs
  go_enter Tryz.func77,Tryz.ntmps77
  go_wp2
  exact bodyPost_ret (v:=.tuple #[.slice none 0 0,.string ⟨#[]⟩,.int .i64 4096,.int .i64 3]) (by simp [results,Tryz.results77,go_sem]) rfl ⟨_,by rw [HR.out];rfl,by rw [HR.out];exact World.ownsRow_nil _ _ _ _,xC _ _⟩
 ·have HR:=hQ (show Qbf s=Qnq s from by unfold Qbf;rw [xN hlong]);have HL:=hQ (show s.size<maxLen from by unfold maxLen;omega);have HM:=hQ hs;have hshort:s.size≤4096:=by omega
  obtain ⟨i0,hi,hz0,hz1,hz2⟩:=info_parts Qkj;clear hs hlong
  go_enter Tryz.func77,Tryz.ntmps77
  go_wp2
  go_loopw [2,6] (fun v i wr=>ScanRel s w v i wr) (fun _ i _=>s.size-(intOf i).toNat)
  case atStart=>exact ScanRel.start s w
  case round =>
   obtain ⟨k,acc,rfl,hat,hown,hbl⟩:=hrel;have HA:=hQ hat;have hk:=hat.1;have hacc:=hat.2.1;have hge:=Qg7 s k;have hle:=Qge s k hk;clear hat;have HO:=hQ hown;have HB:=hQ hbl;clear hown hbl
   by_cases hst:Qam s k=s.size
   ·have HD:=hQ (HR.out.trans (HA.out.done hst));have hst':(((Qam s k:Nat):Int)==(s.size:Int))=true:=by simp [hst]
    have HE:=hQ (show s.extract k (Qam s k)=s.extract k s.size from by rw [hst]);clear hst;go_wp2_with (go_at_call 122;refine (Qo5 s k _ hk HM.out).mono ?_;rintro e w' ⟨rfl,rfl⟩)
    exact bodyPost_ret (v:=.tuple #[u2,.string (s.extract k (Qam s k)),.int .i64 0,.int .i64 0]) (by simp [results,Tryz.results77,go_sem]) rfl ⟨_,by rw [HD.out,HE.out];rfl,by rw [HD.out];exact HO.out,HB.out⟩
   ·have hst':(((Qam s k:Nat):Int)==(s.size:Int))=false:=Qdq hst;have hlt:Qam s k<s.size:=by omega
    by_cases he:(Qbe (suf s (Qam s k))).e=0
    ·have HN:=hQ (HA.out.next hst he);have hlen:=Qkh he;rw [Qbt] at hlen;have he':((((Qbe (suf s (Qam s k))).e:Nat):Int) != 0)=false:=by simp [he]
     clear he hst;go_wp2_with (first | (go_at_call 122;refine (Qo5 s k _ hk HM.out).mono ?_;rintro e w' ⟨rfl,rfl⟩) | (go_at_call 123;refine (Qn2 s (Qam s k) _ hlt HL.out).mono ?_;rintro e w' ⟨rfl,rfl⟩) | (at_builtin;refine wpList_append_own _ rfl (.tmp 49) (.tmp 57) 115 rfl w.heap.size 119 i0 _ 3 40 Tryz.underlying115 hi hz0 hz1 hz2 rfl (by omega) u2 acc.length (Qcf acc) rfl (HO.out.alloc _) ⟨wr.heap.size,0,none⟩ 1 1 [.int .i64 (Qbe (suf s (Qam s k))).kind,.string (s.extract k (Qam s k)),.string (s.extract (Qam s k) (Qam s k+(Qbe (suf s (Qam s k))).n))] rfl rfl ?c1 ?c2 ?c3 ?c4 ?c5 ?_))
     case c1=>exact Qnr _ _ _ _ _
     case c2=>exact Qme _ _ _
     case c3=>unfold maxLen;omega
     case c4=>omega
     case c5=>rw [xI];have:=HB.out.size;omega
     intro v' w1 hown1 hg1 _;have HV:=hQ hown1;have HG:=hQ hg1;clear hown1 hg1
     go_wp2
     go_roundw
     case rel=>exact ScanRel.next HN.out HO.out HB.out HV.out HG.out
     case measure=>simp [intOf];omega
    ·have HD:=hQ (HR.out.trans (HA.out.stop hst he));have he':((((Qbe (suf s (Qam s k))).e:Nat):Int) != 0)=true:=by simp;omega
     have hmax:(Qbe (suf s (Qam s k))).n≤s.size:=by have:=Qmc he;rw [Qbt] at this;omega
     clear he hst;go_wp2_with (first | (go_at_call 122;refine (Qo5 s k _ hk HM.out).mono ?_;rintro e w' ⟨rfl,rfl⟩) | (go_at_call 123;refine (Qn2 s (Qam s k) _ hlt HL.out).mono ?_;rintro e w' ⟨rfl,rfl⟩))
     exact bodyPost_ret (v:=.tuple #[.slice none 0 0,.string ⟨#[]⟩,.int .i64 (((Qam s k:Nat):Int)+((Qbe (suf s (Qam s k))).n:Nat)),.int .i64 (Qbe (suf s (Qam s k))).e]) (by simp [results,Tryz.results77,go_sem]) rfl ⟨_,by rw [HD.out];rfl,by rw [HD.out];exact World.ownsRow_nil _ _ _ _,HB.out⟩
def Toks (w:World) (A:Option Addr) (ts:List Tok):Prop :=
 ts≠[]→∃ b off,A=some ⟨b,off,none⟩∧∀ (i:Nat) (t:Tok),ts[i]? = some t →
  w.cell? ⟨b,off+i*3,none⟩=some (.int .i64 t.kind)∧w.cell? ⟨b,off+i*3+1,none⟩=some (.string t.lead)∧w.cell? ⟨b,off+i*3+2,none⟩=some (.string t.text)
theorem Toks.same {w w':World} {A:Option Addr} {ts:List Tok} (h:Toks w A ts) (hw:∀ p:Addr,(∃ u,w.cell? p=some u)→w'.cell? p=w.cell? p):Toks w' A ts:=fun hne=>by
 obtain ⟨b,off,hA,hc⟩:=h hne;refine ⟨b,off,hA,fun i t ht=>?_⟩;obtain ⟨h1,h2,h3⟩:=hc i t ht;exact ⟨(hw _ ⟨_,h1⟩).trans h1,(hw _ ⟨_,h2⟩).trans h2,(hw _ ⟨_,h3⟩).trans h3⟩
theorem Toks.below {w w':World} {A:Option Addr} {ts:List Tok} (h:Toks w A ts) (hb:Below w.heap.size w w'):Toks w' A ts :=
 h.same fun p ⟨_,hu⟩=>hb.cell (xK w p hu)
def Zeg (t u:Tok):Bool:=t.kind==u.kind && t.lead.toList==u.lead.toList && t.text.toList==u.text.toList
def Qo8:List Tok→List Tok→Bool
 | [],[]=>true
 | t :: ts,u :: us=>Zeg t u && Qo8 ts us
 | _,_=>false
theorem Qp9 {ts us:List Tok} (h:ts.length≠us.length):Qo8 ts us=false:=by
 induction ts generalizing us with
 | nil=>cases us with
  | nil=>exact absurd rfl h
  | cons u us=>rfl
 | cons t ts ih=>cases us with
  | nil=>rfl
  | cons u us =>
   unfold Qo8;rw [ih (by simpa using h),Bool.and_false]
theorem Qpc {s:ByteArray} (h:s.size=0):suf s 0 = []:=Qkg s 0 (by omega)
theorem Qqe {s:ByteArray} (h:0<s.size):suf s 0≠[]:=by
 intro e;have:=Qbt s 0
 rw [e] at this;simp at this
 omega
theorem Qgj (s:ByteArray) (w:World) (hs:s.size<maxLen) :
  Calls Tryz.prog 186 #[.string s] w fun e w'=>e = .returned (.int .i64 (Qa3 (suf s 0)))∧w=w':=by
 have HS:=hQ hs
 by_cases h0:0<s.size
 ·have hne:s.toList.isEmpty=false:=by
   have:=Qqe h0
   rw [Qdr] at this
   simpa using this
  have HN:=hQ (Qqe h0);have HL:=hQ (Qbt s 0);unfold maxLen at hs
  by_cases he:(Qbe (suf s 0)).e=0
  ·have he':(((Qbe (suf s 0)).e:Nat):Int)=0:=by omega
   by_cases hn:(Qbe (suf s 0)).n=s.size
   ·have hn':(((Qbe (suf s 0)).n:Nat):Int)=(s.size:Int):=by omega
    have HC:=hQ (show Qa3 (suf s 0)=(Qbe (suf s 0)).kind from by unfold Qa3;rw [xN HN.out,xN (by rw [HL.out,he,hn];simp)]);clear he hn
    go_enter Tryz.func186,Tryz.ntmps186
    go_wp2_with (go_at_call 123;refine (Qjp _ _ h0 HS.out).mono ?_;rintro e w' ⟨rfl,rfl⟩)
    go_ret
    exact ⟨Qb2 (by rw [HC.out]),rfl⟩
   ·have hn':¬ (((Qbe (suf s 0)).n:Nat):Int)=(s.size:Int):=by omega
    have HC:=hQ (show Qa3 (suf s 0)=0 from by unfold Qa3;rw [xN HN.out,xO (.inr (by rw [HL.out];exact hn))]);clear he hn
    go_enter Tryz.func186,Tryz.ntmps186
    go_wp2_with (go_at_call 123;refine (Qjp _ _ h0 HS.out).mono ?_;rintro e w' ⟨rfl,rfl⟩)
    go_ret
    exact ⟨Qb2 (by rw [HC.out];rfl),rfl⟩
  ·have he':¬ (((Qbe (suf s 0)).e:Nat):Int)=0:=by omega
   have HC:=hQ (show Qa3 (suf s 0)=0 from by unfold Qa3;rw [xN HN.out,xO (.inl he)]);clear he
   go_enter Tryz.func186,Tryz.ntmps186
   go_wp2_with (go_at_call 123;refine (Qjp _ _ h0 HS.out).mono ?_;rintro e w' ⟨rfl,rfl⟩)
   go_ret
   exact ⟨Qb2 (by rw [HC.out];rfl),rfl⟩
 ·have he:s.toList.isEmpty=true:=by rw [←Qdr,Qpc (by omega)];rfl
  have HC:=hQ (show Qa3 (suf s 0)=0 from by rw [Qpc (by omega)];rfl)
  go_enter Tryz.func186,Tryz.ntmps186
  go_wp2
  go_ret
  exact ⟨Qb2 (by rw [HC.out];rfl),rfl⟩
theorem Qpd (s:ByteArray) (w:World):Calls Tryz.prog 255 #[.string s] w fun e w'=>e = .returned (.bool (Qar (suf s 0)))∧w=w':=by
 go_enter Tryz.func255,Tryz.ntmps255
 go_wp2
 all_goals
  go_ret
  exact ⟨Qah (by rw [Qdr];simp_all [Qar,reservedWords]),rfl⟩
def Qvc (l:List UInt8):Nat:=if Qau (at' l 0) then Qac l else 0
theorem Qb3 (s:ByteArray) (a:Nat) (h:a<s.size):at' (suf s a) 0=s[a].toNat:=Qiz s a 0 (by omega)
theorem Qju {s:ByteArray} {a:Nat} (h:a<s.size) (hl:Qau s[a].toNat=true):Qvc (suf s a)=Qac (suf s a):=by
 unfold Qvc;rw [Qb3 s a h,xO hl]
theorem Qtp {s:ByteArray} {a:Nat} (h:a<s.size) (hl:Qau s[a].toNat=false):Qvc (suf s a)=0:=by
 unfold Qvc;rw [Qb3 s a h,xN (by simp [hl])]
theorem Qx5 {s:ByteArray} {a:Nat} (h:¬ a<s.size):Qvc (suf s a)=0:=by
 rw [Qkg s a (by omega)];rfl
theorem Qmg (s:ByteArray) (a:Nat) (w:World) (ha:a≤maxLen) (hs:s.size≤maxLen) :
  Calls Tryz.prog 254 #[.string s,.int .i64 a] w fun e w'=>e = .returned (.int .i64 (Qvc (suf s a)))∧w=w':=by
 unfold maxLen at hs ha
 by_cases hlt:a<s.size
 ·have hge:decide (s.size≤a)=false:=by simp;omega
  have HR0:=hQ (RunAt.start Qh4 s a (by omega));have HE:=hQ (show Qau s[a].toNat=(Qbz s[a].toNat || Qh3 s[a].toNat) from rfl)
  cases hu:Qbz s[a].toNat
  ·cases hl:Qh3 s[a].toNat
   ·have HW:=hQ (Qtp hlt (by rw [HE.out,hu,hl];rfl))
    go_enter Tryz.func254,Tryz.ntmps254
    go_wp2_with (first | (go_at_call 249;refine (Qba _ _).mono ?_;rintro e w' ⟨rfl,rfl⟩) | (go_at_call 250;refine (Qax _ _).mono ?_;rintro e w' ⟨rfl,rfl⟩) | (go_at_call 257;refine (Qe2 _ _).mono ?_;rintro e w' ⟨rfl,rfl⟩))
    go_ret
    exact ⟨Qb2 (by rw [HW.out];rfl),rfl⟩
   ·have HW:=hQ (Qju hlt (by rw [HE.out,hu,hl];rfl))
    go_enter Tryz.func254,Tryz.ntmps254
    go_wp2_with (first | (go_at_call 249;refine (Qba _ _).mono ?_;rintro e w' ⟨rfl,rfl⟩) | (go_at_call 250;refine (Qax _ _).mono ?_;rintro e w' ⟨rfl,rfl⟩) | (go_at_call 257;refine (Qe2 _ _).mono ?_;rintro e w' ⟨rfl,rfl⟩))
    go_loop [5] (fun x=>∃ (k:Nat),k≤s.size∧x = .int .i64 k∧RunAt Qh4 s a k) (fun x=>s.size-(intOf x).toNat)
    case atStart=>exact ⟨a,by omega,rfl,HR0.out⟩
    case round =>
     obtain ⟨k,hk,rfl,hrel⟩:=hrel;have HR:=hQ hrel;clear hrel HR0;have hk0:=HR.out.1
     by_cases hlt':k<s.size
     ·cases hw:Qh4 s[k].toNat
      ·go_wp2_with (first | (go_at_call 249;refine (Qba _ _).mono ?_;rintro e w' ⟨rfl,rfl⟩) | (go_at_call 250;refine (Qax _ _).mono ?_;rintro e w' ⟨rfl,rfl⟩) | (go_at_call 257;refine (Qe2 _ _).mono ?_;rintro e w' ⟨rfl,rfl⟩))
       go_ret
       exact ⟨Qb2 (by have:=HR.out.stop hlt' hw;rw [HW.out];unfold Qac;omega),rfl⟩
      ·go_wp2_with (first | (go_at_call 249;refine (Qba _ _).mono ?_;rintro e w' ⟨rfl,rfl⟩) | (go_at_call 250;refine (Qax _ _).mono ?_;rintro e w' ⟨rfl,rfl⟩) | (go_at_call 257;refine (Qe2 _ _).mono ?_;rintro e w' ⟨rfl,rfl⟩))
       go_round
       case rel=>exact ⟨k+1,by omega,by go_num,HR.out.next hlt' hw⟩
       case measure=>simp [intOf];omega
     ·go_wp2
      go_ret
      exact ⟨Qb2 (by have:=HR.out.done hlt';rw [HW.out];unfold Qac;omega),rfl⟩
  ·have HW:=hQ (Qju hlt (by rw [HE.out,hu];rfl));cases hl:Qh3 s[a].toNat
   all_goals
    go_enter Tryz.func254,Tryz.ntmps254
    go_wp2_with (first | (go_at_call 249;refine (Qba _ _).mono ?_;rintro e w' ⟨rfl,rfl⟩) | (go_at_call 250;refine (Qax _ _).mono ?_;rintro e w' ⟨rfl,rfl⟩) | (go_at_call 257;refine (Qe2 _ _).mono ?_;rintro e w' ⟨rfl,rfl⟩))
    go_loop [5] (fun x=>∃ (k:Nat),k≤s.size∧x = .int .i64 k∧RunAt Qh4 s a k) (fun x=>s.size-(intOf x).toNat)
    case atStart=>exact ⟨a,by omega,rfl,HR0.out⟩
    case round =>
     obtain ⟨k,hk,rfl,hrel⟩:=hrel;have HR:=hQ hrel;clear hrel HR0;have hk0:=HR.out.1
     by_cases hlt':k<s.size
     ·cases hw:Qh4 s[k].toNat
      ·go_wp2_with (first | (go_at_call 249;refine (Qba _ _).mono ?_;rintro e w' ⟨rfl,rfl⟩) | (go_at_call 250;refine (Qax _ _).mono ?_;rintro e w' ⟨rfl,rfl⟩) | (go_at_call 257;refine (Qe2 _ _).mono ?_;rintro e w' ⟨rfl,rfl⟩))
       go_ret
       exact ⟨Qb2 (by have:=HR.out.stop hlt' hw;rw [HW.out];unfold Qac;omega),rfl⟩
      ·go_wp2_with (first | (go_at_call 249;refine (Qba _ _).mono ?_;rintro e w' ⟨rfl,rfl⟩) | (go_at_call 250;refine (Qax _ _).mono ?_;rintro e w' ⟨rfl,rfl⟩) | (go_at_call 257;refine (Qe2 _ _).mono ?_;rintro e w' ⟨rfl,rfl⟩))
       go_round
       case rel=>exact ⟨k+1,by omega,by go_num,HR.out.next hlt' hw⟩
       case measure=>simp [intOf];omega
     ·go_wp2
      go_ret
      exact ⟨Qb2 (by have:=HR.out.done hlt';rw [HW.out];unfold Qac;omega),rfl⟩
 ·have HW:=hQ (Qx5 hlt)
  go_enter Tryz.func254,Tryz.ntmps254
  go_wp2
  go_ret
  exact ⟨Qb2 (by rw [HW.out];rfl),rfl⟩
theorem Qr3 {ts:List Tok} {i:Nat} {t:Tok} (ht:ts[i]? = some t):∀ (j:Nat) (u:Value),j<3→[Value.int .i64 t.kind,.string t.lead,.string t.text][j]? = some u→(Qcf ts)[i*3+j]? = some u:=by
 induction ts generalizing i with
 | nil=>simp at ht
 | cons a r ih =>
  intro j u hj hu;have e:Qcf (a :: r) = [Value.int .i64 a.kind,.string a.lead,.string a.text] ++ Qcf r:=by unfold Qcf;rw [List.flatMap_cons]
  rw [e];cases i with
  | zero =>
   have:a=t:=by simpa using ht
   subst this;rw [yB (by simp;omega)]
   simpa using hu
  | succ i =>
   rw [xX (by simp;omega)];have:=ih (by simpa using ht) j u hj hu
   rw [←this]
   congr 1
   simp
   omega
theorem Toks.of_own {w:World} {base:Nat} {A:Option Addr} {c:Nat} {ts:List Tok} (h:w.ownsRow base 119 3 (.slice A ts.length c) ts.length (Qcf ts)):Toks w A ts:=fun hne=>by
 obtain ⟨g,cap,hv,_,_⟩:=h.form (by rcases ts with _|⟨t,r⟩;exact absurd rfl hne;simp);have hA:A=some ⟨g,0,none⟩:=by injection hv
 subst hA;refine ⟨g,0,rfl,fun i t ht=>?_⟩;have hc:=h.cells (g:=g) rfl;have hj:=Qr3 ht
 have hk:∀ j (u:Value),j<3→[Value.int .i64 t.kind,.string t.lead,.string t.text][j]? = some u→w.cell? ⟨g,0+i*3+j,none⟩=some u:=fun j u h1 h2=>by
  have:=hc (i*3+j) u (hj j u h1 h2)
  unfold Addr.add at this
  split at this
  ·rename_i h0
   rw [show 0+i*3+j=0 from by omega];exact this
  ·simpa using this
 exact ⟨hk 0 _ (by omega) rfl,hk 1 _ (by omega) rfl,hk 2 _ (by omega) rfl⟩
theorem Qdv {w:World} {base e size n:Nat} {v:Value} {xs:List Value} (h:w.ownsRow base e size v n xs):∃ A c,v = .slice A n c:=by
 rcases h.2 with ⟨h1,h2⟩|⟨g,cap,_,h1,_⟩
 ·subst h2;exact ⟨none,0,h1⟩
 ·exact ⟨_,cap,h1⟩
def Qi8 (a b:ByteArray):List Tok:=[⟨Qa3 (suf a 0),ByteArray.empty,a⟩,⟨Qa3 (suf b 0),ByteArray.empty,b⟩]
def Qf8 (a b:ByteArray):Bool:=Qa3 (suf a 0) != 0 && Qa3 (suf b 0) != 0 && !Qo8 (Qbf (a ++ b)).toks (Qi8 a b)
end Go.Proofs.YtjidpkcjpgdafaaGreat
