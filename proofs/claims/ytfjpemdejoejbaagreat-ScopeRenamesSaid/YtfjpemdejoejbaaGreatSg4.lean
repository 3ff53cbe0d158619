/- Part 4 -/
import Derived.Test.YtfjpemdejoejbaaGreatSg3
import Derived.Laws.OwnMore
import Derived.Laws.StructEq
import Derived.Deep.AppendLies
set_option maxRecDepth 100000
set_option maxHeartbeats 4000000
namespace Go.Proofs.YtfjpemdejoejbaaGreat
open Go.RowKit
theorem Qkp:(Tryz.prog.info? 88).map (fun i=>(i.zero,i.size,i.bytes))=some (some (.agg #[.int .i64 0,.string ByteArray.empty,.string ByteArray.empty]),3,40):=by kernel_rfl
def Qcj (ts:List Tok):List Value:=ts.flatMap fun t=>[.int .i64 t.kind,.string t.lead,.string t.text]
theorem Qhn (ts:List Tok) (t:Tok):Qcj (ts ++ [t])=Qcj ts ++ [.int .i64 t.kind,.string t.lead,.string t.text]:=by
 unfold Qcj;rw [List.flatMap_append];rfl
theorem Qnf (w:World) (x y z:Value) (t:TypeId):∀ j u,[x,y,z][j]? = some u→(w.alloc (.cells #[x,y,z] t)).cell? ((⟨w.heap.size,0,none⟩:Addr).add j)=some u:=by
 intro j u hj
 match j,hj with
 | 0,hj=>simp at hj;subst hj;simp [Addr.add]
 | 1,hj=>simp at hj;subst hj;simp [Addr.add]
 | 2,hj=>simp at hj;subst hj;simp [Addr.add]
 | (j+3),hj=>simp at hj
theorem Qma (k:Int) (x y:ByteArray):∀ u∈[Value.int .i64 k,.string x,.string y],u.oneCell'=true:=by
 intro u hu;simp at hu
 rcases hu with rfl | rfl | rfl <;> rfl
def Qou (r:Res) (w:World) (e:Ending) (w':World):Prop :=
 ∃ v,e = .returned (.tuple #[v,.string r.tail,.int .i64 r.place,.int .i64 r.e])∧w'.ownsRow w.heap.size 88 3 v r.toks.length (Qcj r.toks)∧Below w.heap.size w w'
theorem Qno (s:ByteArray) (a:Nat) (w:World) (h0:a<s.size) (hs:s.size<maxLen) :
  Calls Tryz.prog 82 #[.string (s.extract a s.size)] w fun e w'=>e = .returned (.tuple #[.int .i64 (Qbg (suf s a)).kind,.int .i64 (Qbg (suf s a)).n,.int .i64 (Qbg (suf s a)).e])∧w=w':=by
 rw [←Qiv s a];exact Qjw _ w (Qju s a h0) (by rw [ByteArray.size_extract];omega)
def ScanRel (s:ByteArray) (w:World) (v i:Value) (wr:World):Prop :=
 ∃ (k:Nat) (acc:List Tok),i = .int .i64 k∧ScanAt s k acc∧wr.ownsRow w.heap.size 88 3 v acc.length (Qcj acc)∧Below w.heap.size w wr
theorem ScanRel.start (s:ByteArray) (w:World):ScanRel s w (.slice none 0 0) (.int .i64 0) w :=
 ⟨0,[],rfl,ScanAt.start s,World.ownsRow_nil _ _ _ _,xC _ _⟩
theorem ScanRel.next {s:ByteArray} {w wr w':World} {v v':Value} {n:Nat} {acc:List Tok} {t:Tok} {o:Obj} (h:ScanAt s n (acc ++ [t])) (hown:wr.ownsRow w.heap.size 88 3 v acc.length (Qcj acc)) (hb:Below w.heap.size w wr)
  (hown':w'.ownsRow w.heap.size 88 3 v' (acc.length+1) (Qcj acc ++ [.int .i64 t.kind,.string t.lead,.string t.text])) (hg:(wr.alloc o).grownBy w' v.ownBlock):ScanRel s w v' (.int .i64 n) w':=by
 refine ⟨n,acc ++ [t],rfl,h,by rw [Qhn];simpa using hown',?_⟩;exact (hb.alloc hb.size o).grown hg (by rw [xI];have:=hb.size;omega) (fun j hj=>(hown.lt j hj).1)
theorem Qtz (s:ByteArray) (w:World) (hs:s.size≤maxLen) :
  Calls Tryz.prog 51 #[.string s] w (Qou (Qbh s) w):=by
 by_cases hlong:4096<s.size
 ·have HR:=hQ (show Qbh s=⟨[],ByteArray.empty,4096,3⟩ from by unfold Qbh;rw [xO hlong]);unfold maxLen at hs
  go_enter Tryz.func51,Tryz.ntmps51
  go_wp2
  exact bodyPost_ret (v:=.tuple #[.slice none 0 0,.string ⟨#[]⟩,.int .i64 4096,.int .i64 3]) (by simp [results,Tryz.results51,go_sem]) rfl ⟨_,by rw [HR.out];rfl,by rw [HR.out];exact World.ownsRow_nil _ _ _ _,xC _ _⟩
 ·have HR:=hQ (show Qbh s=Qne s from by unfold Qbh;rw [xN hlong]);have HL:=hQ (show s.size<maxLen from by unfold maxLen;omega);have HM:=hQ hs;have hshort:s.size≤4096:=by omega
  obtain ⟨i0,hi,hz0,hz1,hz2⟩:=info_parts Qkp;clear hs hlong
  go_enter Tryz.func51,Tryz.ntmps51
  go_wp2
  go_loopw [2,6] (fun v i wr=>ScanRel s w v i wr) (fun _ i _=>s.size-(intOf i).toNat)
  case atStart=>exact ScanRel.start s w
  case round =>
   obtain ⟨k,acc,rfl,hat,hown,hbl⟩:=hrel;have HA:=hQ hat;have hk:=hat.1;have hacc:=hat.2.1;have hge:=Qg7 s k;have hle:=Qgc s k hk;clear hat;have HO:=hQ hown;have HB:=hQ hbl;clear hown hbl
   by_cases hst:Qal s k=s.size
   ·have HD:=hQ (HR.out.trans (HA.out.done hst));have hst':(((Qal s k:Nat):Int)==(s.size:Int))=true:=by simp [hst]
    have HE:=hQ (show s.extract k (Qal s k)=s.extract k s.size from by rw [hst]);clear hst;go_wp2_with (go_at_call 81;refine (Qos s k _ hk HM.out).mono ?_;rintro e w' ⟨rfl,rfl⟩)
    exact bodyPost_ret (v:=.tuple #[u2,.string (s.extract k (Qal s k)),.int .i64 0,.int .i64 0]) (by simp [results,Tryz.results51,go_sem]) rfl ⟨_,by rw [HD.out,HE.out];rfl,by rw [HD.out];exact HO.out,HB.out⟩
   ·have hst':(((Qal s k:Nat):Int)==(s.size:Int))=false:=Qdt hst;have hlt:Qal s k<s.size:=by omega
    by_cases he:(Qbg (suf s (Qal s k))).e=0
    ·have HN:=hQ (HA.out.next hst he);have hlen:=Qkn he;rw [Qbw] at hlen;have he':((((Qbg (suf s (Qal s k))).e:Nat):Int) != 0)=false:=by simp [he]
     clear he hst;go_wp2_with (first | (go_at_call 81;refine (Qos s k _ hk HM.out).mono ?_;rintro e w' ⟨rfl,rfl⟩) | (go_at_call 82;refine (Qno s (Qal s k) _ hlt HL.out).mono ?_;rintro e w' ⟨rfl,rfl⟩) | (at_builtin;refine wpList_append_own _ rfl (.tmp 49) (.tmp 57) 84 rfl w.heap.size 88 i0 _ 3 40 Tryz.underlying84 hi hz0 hz1 hz2 rfl (by omega) u2 acc.length (Qcj acc) rfl (HO.out.alloc _) ⟨wr.heap.size,0,none⟩ 1 1 [.int .i64 (Qbg (suf s (Qal s k))).kind,.string (s.extract k (Qal s k)),.string (s.extract (Qal s k) (Qal s k+(Qbg (suf s (Qal s k))).n))] rfl rfl ?c1 ?c2 ?c3 ?c4 ?c5 ?_))
     case c1=>exact Qnf _ _ _ _ _
     case c2=>exact Qma _ _ _
     case c3=>unfold maxLen;omega
     case c4=>omega
     case c5=>rw [xI];have:=HB.out.size;omega
     intro v' w1 hown1 hg1 _;have HV:=hQ hown1;have HG:=hQ hg1;clear hown1 hg1
     go_wp2
     go_roundw
     case rel=>exact ScanRel.next HN.out HO.out HB.out HV.out HG.out
     case measure=>simp [intOf];omega
    ·have HD:=hQ (HR.out.trans (HA.out.stop hst he));have he':((((Qbg (suf s (Qal s k))).e:Nat):Int) != 0)=true:=by simp;omega
     have hmax:(Qbg (suf s (Qal s k))).n≤s.size:=by have:=Ql8 he;rw [Qbw] at this;omega
     clear he hst;go_wp2_with (first | (go_at_call 81;refine (Qos s k _ hk HM.out).mono ?_;rintro e w' ⟨rfl,rfl⟩) | (go_at_call 82;refine (Qno s (Qal s k) _ hlt HL.out).mono ?_;rintro e w' ⟨rfl,rfl⟩))
     exact bodyPost_ret (v:=.tuple #[.slice none 0 0,.string ⟨#[]⟩,.int .i64 (((Qal s k:Nat):Int)+((Qbg (suf s (Qal s k))).n:Nat)),.int .i64 (Qbg (suf s (Qal s k))).e]) (by simp [results,Tryz.results51,go_sem]) rfl ⟨_,by rw [HD.out];rfl,by rw [HD.out];exact World.ownsRow_nil _ _ _ _,HB.out⟩
def Toks (w:World) (A:Option Addr) (ts:List Tok):Prop :=
 ts≠[]→∃ b off,A=some ⟨b,off,none⟩∧∀ (i:Nat) (t:Tok),ts[i]? = some t →
  w.cell? ⟨b,off+i*3,none⟩=some (.int .i64 t.kind)∧w.cell? ⟨b,off+i*3+1,none⟩=some (.string t.lead)∧w.cell? ⟨b,off+i*3+2,none⟩=some (.string t.text)
theorem Toks.same {w w':World} {A:Option Addr} {ts:List Tok} (h:Toks w A ts) (hw:∀ p:Addr,(∃ u,w.cell? p=some u)→w'.cell? p=w.cell? p):Toks w' A ts:=fun hne=>by
 obtain ⟨b,off,hA,hc⟩:=h hne;refine ⟨b,off,hA,fun i t ht=>?_⟩;obtain ⟨h1,h2,h3⟩:=hc i t ht;exact ⟨(hw _ ⟨_,h1⟩).trans h1,(hw _ ⟨_,h2⟩).trans h2,(hw _ ⟨_,h3⟩).trans h3⟩
theorem Toks.below {w w':World} {A:Option Addr} {ts:List Tok} (h:Toks w A ts) (hb:Below w.heap.size w w'):Toks w' A ts :=
 h.same fun p ⟨_,hu⟩=>hb.cell (xK w p hu)
def Zfh (t u:Tok):Bool:=t.kind==u.kind && t.lead.toList==u.lead.toList && t.text.toList==u.text.toList
def Qov:List Tok→List Tok→Bool
 | [],[]=>true
 | t :: ts,u :: us=>Zfh t u && Qov ts us
 | _,_=>false
theorem Qpz {ts us:List Tok} (h:ts.length≠us.length):Qov ts us=false:=by
 induction ts generalizing us with
 | nil=>cases us with
  | nil=>exact absurd rfl h
  | cons u us=>rfl
 | cons t ts ih=>cases us with
  | nil=>rfl
  | cons u us =>
   unfold Qov;rw [ih (by simpa using h),Bool.and_false]
theorem Qoz {s:ByteArray} (h:s.size=0):suf s 0 = []:=Qkm s 0 (by omega)
theorem Qp4 {s:ByteArray} (h:0<s.size):suf s 0≠[]:=by
 intro e;have:=Qbw s 0
 rw [e] at this;simp at this
 omega
theorem Qgh (s:ByteArray) (w:World) (hs:s.size<maxLen) :
  Calls Tryz.prog 139 #[.string s] w fun e w'=>e = .returned (.int .i64 (Qa4 (suf s 0)))∧w=w':=by
 have HS:=hQ hs
 by_cases h0:0<s.size
 ·have hne:s.toList.isEmpty=false:=by
   have:=Qp4 h0
   rw [Qdu] at this
   simpa using this
  have HN:=hQ (Qp4 h0);have HL:=hQ (Qbw s 0);unfold maxLen at hs
  by_cases he:(Qbg (suf s 0)).e=0
  ·have he':(((Qbg (suf s 0)).e:Nat):Int)=0:=by omega
   by_cases hn:(Qbg (suf s 0)).n=s.size
   ·have hn':(((Qbg (suf s 0)).n:Nat):Int)=(s.size:Int):=by omega
    have HC:=hQ (show Qa4 (suf s 0)=(Qbg (suf s 0)).kind from by unfold Qa4;rw [xN HN.out,xN (by rw [HL.out,he,hn];simp)]);clear he hn
    go_enter Tryz.func139,Tryz.ntmps139
    go_wp2_with (go_at_call 82;refine (Qjw _ _ h0 HS.out).mono ?_;rintro e w' ⟨rfl,rfl⟩)
    go_ret
    exact ⟨Qb5 (by rw [HC.out]),rfl⟩
   ·have hn':¬ (((Qbg (suf s 0)).n:Nat):Int)=(s.size:Int):=by omega
    have HC:=hQ (show Qa4 (suf s 0)=0 from by unfold Qa4;rw [xN HN.out,xO (.inr (by rw [HL.out];exact hn))]);clear he hn
    go_enter Tryz.func139,Tryz.ntmps139
    go_wp2_with (go_at_call 82;refine (Qjw _ _ h0 HS.out).mono ?_;rintro e w' ⟨rfl,rfl⟩)
    go_ret
    exact ⟨Qb5 (by rw [HC.out];rfl),rfl⟩
  ·have he':¬ (((Qbg (suf s 0)).e:Nat):Int)=0:=by omega
   have HC:=hQ (show Qa4 (suf s 0)=0 from by unfold Qa4;rw [xN HN.out,xO (.inl he)]);clear he
   go_enter Tryz.func139,Tryz.ntmps139
   go_wp2_with (go_at_call 82;refine (Qjw _ _ h0 HS.out).mono ?_;rintro e w' ⟨rfl,rfl⟩)
   go_ret
   exact ⟨Qb5 (by rw [HC.out];rfl),rfl⟩
 ·have he:s.toList.isEmpty=true:=by rw [←Qdu,Qoz (by omega)];rfl
  have HC:=hQ (show Qa4 (suf s 0)=0 from by rw [Qoz (by omega)];rfl)
  go_enter Tryz.func139,Tryz.ntmps139
  go_wp2
  go_ret
  exact ⟨Qb5 (by rw [HC.out];rfl),rfl⟩
theorem Qo0 (s:ByteArray) (w:World):Calls Tryz.prog 173 #[.string s] w fun e w'=>e = .returned (.bool (Qar (suf s 0)))∧w=w':=by
 go_enter Tryz.func173,Tryz.ntmps173
 go_wp2
 all_goals
  go_ret
  exact ⟨Qah (by rw [Qdu];simp_all [Qar,reservedWords]),rfl⟩
def Qvx (l:List UInt8):Nat:=if Qav (at' l 0) then Qac l else 0
theorem Qb6 (s:ByteArray) (a:Nat) (h:a<s.size):at' (suf s a) 0=s[a].toNat:=Qi9 s a 0 (by omega)
theorem Qj1 {s:ByteArray} {a:Nat} (h:a<s.size) (hl:Qav s[a].toNat=true):Qvx (suf s a)=Qac (suf s a):=by
 unfold Qvx;rw [Qb6 s a h,xO hl]
theorem Qt2 {s:ByteArray} {a:Nat} (h:a<s.size) (hl:Qav s[a].toNat=false):Qvx (suf s a)=0:=by
 unfold Qvx;rw [Qb6 s a h,xN (by simp [hl])]
theorem Qyr {s:ByteArray} {a:Nat} (h:¬ a<s.size):Qvx (suf s a)=0:=by
 rw [Qkm s a (by omega)];rfl
theorem Qmc (s:ByteArray) (a:Nat) (w:World) (ha:a≤maxLen) (hs:s.size≤maxLen) :
  Calls Tryz.prog 172 #[.string s,.int .i64 a] w fun e w'=>e = .returned (.int .i64 (Qvx (suf s a)))∧w=w':=by
 unfold maxLen at hs ha
 by_cases hlt:a<s.size
 ·have hge:decide (s.size≤a)=false:=by simp;omega
  have HR0:=hQ (RunAt.start Qh9 s a (by omega));have HE:=hQ (show Qav s[a].toNat=(Qb1 s[a].toNat || Qh5 s[a].toNat) from rfl)
  cases hu:Qb1 s[a].toNat
  ·cases hl:Qh5 s[a].toNat
   ·have HW:=hQ (Qt2 hlt (by rw [HE.out,hu,hl];rfl))
    go_enter Tryz.func172,Tryz.ntmps172
    go_wp2_with (first | (go_at_call 163;refine (Qbc _ _).mono ?_;rintro e w' ⟨rfl,rfl⟩) | (go_at_call 164;refine (Qax _ _).mono ?_;rintro e w' ⟨rfl,rfl⟩) | (go_at_call 174;refine (Qe3 _ _).mono ?_;rintro e w' ⟨rfl,rfl⟩))
    go_ret
    exact ⟨Qb5 (by rw [HW.out];rfl),rfl⟩
   ·have HW:=hQ (Qj1 hlt (by rw [HE.out,hu,hl];rfl))
    go_enter Tryz.func172,Tryz.ntmps172
    go_wp2_with (first | (go_at_call 163;refine (Qbc _ _).mono ?_;rintro e w' ⟨rfl,rfl⟩) | (go_at_call 164;refine (Qax _ _).mono ?_;rintro e w' ⟨rfl,rfl⟩) | (go_at_call 174;refine (Qe3 _ _).mono ?_;rintro e w' ⟨rfl,rfl⟩))
    go_loop [5] (fun x=>∃ (k:Nat),k≤s.size∧x = .int .i64 k∧RunAt Qh9 s a k) (fun x=>s.size-(intOf x).toNat)
    case atStart=>exact ⟨a,by omega,rfl,HR0.out⟩
    case round =>
     obtain ⟨k,hk,rfl,hrel⟩:=hrel;have HR:=hQ hrel;clear hrel HR0;have hk0:=HR.out.1
     by_cases hlt':k<s.size
     ·cases hw:Qh9 s[k].toNat
      ·go_wp2_with (first | (go_at_call 163;refine (Qbc _ _).mono ?_;rintro e w' ⟨rfl,rfl⟩) | (go_at_call 164;refine (Qax _ _).mono ?_;rintro e w' ⟨rfl,rfl⟩) | (go_at_call 174;refine (Qe3 _ _).mono ?_;rintro e w' ⟨rfl,rfl⟩))
       go_ret
       exact ⟨Qb5 (by have:=HR.out.stop hlt' hw;rw [HW.out];unfold Qac;omega),rfl⟩
      ·go_wp2_with (first | (go_at_call 163;refine (Qbc _ _).mono ?_;rintro e w' ⟨rfl,rfl⟩) | (go_at_call 164;refine (Qax _ _).mono ?_;rintro e w' ⟨rfl,rfl⟩) | (go_at_call 174;refine (Qe3 _ _).mono ?_;rintro e w' ⟨rfl,rfl⟩))
       go_round
       case rel=>exact ⟨k+1,by omega,by go_num,HR.out.next hlt' hw⟩
       case measure=>simp [intOf];omega
     ·go_wp2
      go_ret
      exact ⟨Qb5 (by have:=HR.out.done hlt';rw [HW.out];unfold Qac;omega),rfl⟩
  ·have HW:=hQ (Qj1 hlt (by rw [HE.out,hu];rfl));cases hl:Qh5 s[a].toNat
   all_goals
    go_enter Tryz.func172,Tryz.ntmps172
    go_wp2_with (first | (go_at_call 163;refine (Qbc _ _).mono ?_;rintro e w' ⟨rfl,rfl⟩) | (go_at_call 164;refine (Qax _ _).mono ?_;rintro e w' ⟨rfl,rfl⟩) | (go_at_call 174;refine (Qe3 _ _).mono ?_;rintro e w' ⟨rfl,rfl⟩))
    go_loop [5] (fun x=>∃ (k:Nat),k≤s.size∧x = .int .i64 k∧RunAt Qh9 s a k) (fun x=>s.size-(intOf x).toNat)
    case atStart=>exact ⟨a,by omega,rfl,HR0.out⟩
    case round =>
     obtain ⟨k,hk,rfl,hrel⟩:=hrel;have HR:=hQ hrel;clear hrel HR0;have hk0:=HR.out.1
     by_cases hlt':k<s.size
     ·cases hw:Qh9 s[k].toNat
      ·go_wp2_with (first | (go_at_call 163;refine (Qbc _ _).mono ?_;rintro e w' ⟨rfl,rfl⟩) | (go_at_call 164;refine (Qax _ _).mono ?_;rintro e w' ⟨rfl,rfl⟩) | (go_at_call 174;refine (Qe3 _ _).mono ?_;rintro e w' ⟨rfl,rfl⟩))
       go_ret
       exact ⟨Qb5 (by have:=HR.out.stop hlt' hw;rw [HW.out];unfold Qac;omega),rfl⟩
      ·go_wp2_with (first | (go_at_call 163;refine (Qbc _ _).mono ?_;rintro e w' ⟨rfl,rfl⟩) | (go_at_call 164;refine (Qax _ _).mono ?_;rintro e w' ⟨rfl,rfl⟩) | (go_at_call 174;refine (Qe3 _ _).mono ?_;rintro e w' ⟨rfl,rfl⟩))
       go_round
       case rel=>exact ⟨k+1,by omega,by go_num,HR.out.next hlt' hw⟩
       case measure=>simp [intOf];omega
     ·go_wp2
      go_ret
      exact ⟨Qb5 (by have:=HR.out.done hlt';rw [HW.out];unfold Qac;omega),rfl⟩
 ·have HW:=hQ (Qyr hlt)
  go_enter Tryz.func172,Tryz.ntmps172
  go_wp2
  go_ret
  exact ⟨Qb5 (by rw [HW.out];rfl),rfl⟩
theorem Qr8 {ts:List Tok} {i:Nat} {t:Tok} (ht:ts[i]? = some t):∀ (j:Nat) (u:Value),j<3→[Value.int .i64 t.kind,.string t.lead,.string t.text][j]? = some u→(Qcj ts)[i*3+j]? = some u:=by
 induction ts generalizing i with
 | nil=>simp at ht
 | cons a r ih =>
  intro j u hj hu;have e:Qcj (a :: r) = [Value.int .i64 a.kind,.string a.lead,.string a.text] ++ Qcj r:=by unfold Qcj;rw [List.flatMap_cons]
  rw [e];cases i with
  | zero =>
   have:a=t:=by simpa using ht
   subst this;rw [yB (by simp;omega)]
   simpa using hu
  | succ i =>
   rw [xX (by simp;omega)];have:=ih (by simpa using ht) j u hj hu
   rw [←this]
   congr 1
   simp
   omega
theorem Toks.of_own {w:World} {base:Nat} {A:Option Addr} {c:Nat} {ts:List Tok} (h:w.ownsRow base 88 3 (.slice A ts.length c) ts.length (Qcj ts)):Toks w A ts:=fun hne=>by
 obtain ⟨g,cap,hv,_,_⟩:=h.form (by rcases ts with _|⟨t,r⟩;exact absurd rfl hne;simp);have hA:A=some ⟨g,0,none⟩:=by injection hv
 subst hA;refine ⟨g,0,rfl,fun i t ht=>?_⟩;have hc:=h.cells (g:=g) rfl;have hj:=Qr8 ht
 have hk:∀ j (u:Value),j<3→[Value.int .i64 t.kind,.string t.lead,.string t.text][j]? = some u→w.cell? ⟨g,0+i*3+j,none⟩=some u:=fun j u h1 h2=>by
  have:=hc (i*3+j) u (hj j u h1 h2)
  unfold Addr.add at this
  split at this
  ·rename_i h0
   rw [show 0+i*3+j=0 from by omega];exact this
  ·simpa using this
 exact ⟨hk 0 _ (by omega) rfl,hk 1 _ (by omega) rfl,hk 2 _ (by omega) rfl⟩
theorem Qet {w:World} {base e size n:Nat} {v:Value} {xs:List Value} (h:w.ownsRow base e size v n xs):∃ A c,v = .slice A n c:=by
 rcases h.2 with ⟨h1,h2⟩|⟨g,cap,_,h1,_⟩
 ·subst h2;exact ⟨none,0,h1⟩
 ·exact ⟨_,cap,h1⟩
def Qji (a b:ByteArray):List Tok:=[⟨Qa4 (suf a 0),ByteArray.empty,a⟩,⟨Qa4 (suf b 0),ByteArray.empty,b⟩]
def Qf6 (a b:ByteArray):Bool:=Qa4 (suf a 0) != 0 && Qa4 (suf b 0) != 0 && !Qov (Qbh (a ++ b)).toks (Qji a b)
end Go.Proofs.YtfjpemdejoejbaaGreat
