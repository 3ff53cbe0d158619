/- Part 3 -/
import Derived.Test.YtfjpemdejoejbaaGreatTp2
import Derived.Laws.OwnMore
import Derived.Laws.StructEq
import Derived.Deep.AppendLies
set_option maxRecDepth 100000
set_option maxHeartbeats 4000000
namespace Go.Proofs.YtfjpemdejoejbaaGreat
open Go.Proofs.Tryz Go.RowKit
theorem Qlh:(prog.info? 88).map (fun i=>(i.zero,i.size,i.bytes))=some (some (.agg #[.int .i64 0,.string ByteArray.empty,.string ByteArray.empty]),3,40):=by kernel_rfl
def Qcu(ts:List Tok):List Value:=ts.flatMap fun t=>[.int .i64 t.kind,.string t.lead,.string t.text]
theorem Qh5(ts:List Tok)(t:Tok):Qcu (ts ++ [t])=Qcu ts ++ [.int .i64 t.kind,.string t.lead,.string t.text]:=by
 unfold Qcu;rw[List.flatMap_append];rfl
theorem Qof(w:World)(x y z:Value)(t:TypeId):∀ j u,[x,y,z][j]? = some u->(w.alloc (.cells #[x,y,z] t)).cell? ((⟨w.heap.size,0,none⟩:Addr).add j)=some u:=by
 intro j u hj
 match j,hj with
 | 0,hj=>simp at hj;subst hj;simp[Addr.add]
 | 1,hj=>simp at hj;subst hj;simp[Addr.add]
 | 2,hj=>simp at hj;subst hj;simp[Addr.add]
 | (j+3),hj=>simp at hj
theorem Qm2(k:Int)(x y:yD):∀ u∈[Value.int .i64 k,.string x,.string y],u.oneCell'=true:=by
 intro u hu;simp at hu
 rcases hu with rfl | rfl | rfl <;> rfl
def Qp4(r:Res)(w:World)(e:Ending)(w':World):Prop :=
 ∃ v,e = .returned (.tuple #[v,.string r.tail,.int .i64 r.place,.int .i64 r.e])/\w'.ownsRow w.heap.size 88 3 v r.toks.length (Qcu r.toks)/\Below w.heap.size w w'
theorem Qon(s:yD)(a:Nat)(w:World)(h0:a<s.size)(hs:s.size<maxLen) :
  Calls prog 82 #[.string (s.extract a s.size)] w fun e w'=>e = .returned (.tuple #[.int .i64 (Qbl (suf s a)).kind,.int .i64 (Qbl (suf s a)).n,.int .i64 (Qbl (suf s a)).e])/\w=w':=by
 rw[<-Qhj s a];exact Qkc _ w (Qka s a h0) (by rw[ByteArray.size_extract];omega)
def ScanRel(s:yD)(w:World)(v i:Value)(wr:World):Prop :=
 ∃ (k:Nat) (acc:List Tok),i = .int .i64 k/\ScanAt s k acc/\wr.ownsRow w.heap.size 88 3 v acc.length (Qcu acc)/\Below w.heap.size w wr
theorem ScanRel.start(s:yD)(w:World):ScanRel s w (.slice none 0 0) (.int .i64 0) w :=
 ⟨0,[],rfl,ScanAt.start s,World.ownsRow_nil _ _ _ _,xC _ _⟩
theorem ScanRel.next{s:yD}{w wr w':World}{v v':Value}{n:Nat}{acc:List Tok}{t:Tok}{o:Obj}(h:ScanAt s n (acc ++ [t]))(hown:wr.ownsRow w.heap.size 88 3 v acc.length (Qcu acc))(hb:Below w.heap.size w wr)
  (hown':w'.ownsRow w.heap.size 88 3 v' (acc.length+1) (Qcu acc ++ [.int .i64 t.kind,.string t.lead,.string t.text])) (hg:(wr.alloc o).grownBy w' v.ownBlock):ScanRel s w v' (.int .i64 n) w':=by
 refine⟨n,acc ++ [t],rfl,h,by rw[Qh5];simpa using hown',?_⟩;exact(hb.alloc hb.size o).grown hg (by rw[xI];have:=hb.size;omega) (fun j hj=>(hown.lt j hj).1)
theorem Qva(s:yD)(w:World)(hs:s.size<=maxLen) :
  Calls prog 51 #[.string s] w (Qp4 (Qbp s) w):=by
 by_cases hlong:4096<s.size
 ·have HR:=hQ (show Qbp s=⟨[],ByteArray.empty,4096,3⟩ from by unfold Qbp;rw[xO hlong]);unfold maxLen at hs;go_enter func51,ntmps51;go_wp2;exact bodyPost_ret (v:=.tuple #[.slice none 0 0,.string ⟨#[]⟩,.int .i64 4096,.int .i64 3]) (by simp[results,results51,go_sem]) rfl ⟨_,by rw[HR.out];rfl,by rw[HR.out];exact World.ownsRow_nil _ _ _ _,xC _ _⟩
 ·have HR:=hQ (show Qbp s=Qoe s from by unfold Qbp;rw[xN hlong]);have HL:=hQ (show s.size<maxLen from by unfold maxLen;omega);have HM:=hQ hs;have hshort:s.size<=4096:=by omega
  obtain⟨i0,hi,hz0,hz1,hz2⟩:=info_parts Qlh;clear hs hlong;go_enter func51,ntmps51;go_wp2
  go_loopw [2,6] (fun v i wr=>ScanRel s w v i wr) (fun _ i _=>s.size-(intOf i).toNat)
  case atStart=>exact ScanRel.start s w
  case round =>
   obtain⟨k,acc,rfl,hat,hown,hbl⟩:=hrel;have HA:=hQ hat;have hk:=hat.1;have hacc:=hat.2.1;have hge:=Qhi s k;have hle:=Qgp s k hk;clear hat;have HO:=hQ hown;have HB:=hQ hbl;clear hown hbl
   by_cases hst:Qan s k=s.size
   ·have HD:=hQ (HR.out.trans (HA.out.done hst));have hst':(((Qan s k:Nat):Int)==(s.size:Int))=true:=by simp[hst]
    have HE:=hQ (show s.extract k (Qan s k)=s.extract k s.size from by rw[hst]);clear hst;go_wp2_with (go_at_call 81;refine(Qp2 s k _ hk HM.out).mono ?_;rintro e w'⟨rfl,rfl⟩)
    exact bodyPost_ret (v:=.tuple #[u2,.string (s.extract k (Qan s k)),.int .i64 0,.int .i64 0]) (by simp[results,results51,go_sem]) rfl ⟨_,by rw[HD.out,HE.out];rfl,by rw[HD.out];exact HO.out,HB.out⟩
   ·have hst':(((Qan s k:Nat):Int)==(s.size:Int))=false:=Qdy hst;have hlt:Qan s k<s.size:=by omega
    by_cases he:(Qbl (suf s (Qan s k))).e=0
    ·have HN:=hQ (HA.out.next hst he);have hlen:=Qlf he;rw[Qb4]at hlen;have he':((((Qbl (suf s (Qan s k))).e:Nat):Int) != 0)=false:=by simp[he]
     clear he hst;go_wp2_with (first | (go_at_call 81;refine(Qp2 s k _ hk HM.out).mono ?_;rintro e w'⟨rfl,rfl⟩) | (go_at_call 82;refine(Qon s (Qan s k) _ hlt HL.out).mono ?_;rintro e w'⟨rfl,rfl⟩) | (at_builtin;refine wpList_append_own _ rfl (.tmp 49) (.tmp 57) 84 rfl w.heap.size 88 i0 _ 3 40 underlying84 hi hz0 hz1 hz2 rfl (by omega) u2 acc.length (Qcu acc) rfl (HO.out.alloc _) ⟨wr.heap.size,0,none⟩ 1 1 [.int .i64 (Qbl (suf s (Qan s k))).kind,.string (s.extract k (Qan s k)),.string (s.extract (Qan s k) (Qan s k+(Qbl (suf s (Qan s k))).n))] rfl rfl ?c1 ?c2 ?c3 ?c4 ?c5 ?_))
     case c1=>exact Qof _ _ _ _ _
     case c2=>exact Qm2 _ _ _
     case c3=>unfold maxLen;omega
     case c4=>omega
     case c5=>rw[xI];have:=HB.out.size;omega
     intro v' w1 hown1 hg1 _;have HV:=hQ hown1;have HG:=hQ hg1;clear hown1 hg1;go_wp2;go_roundw
     case rel=>exact ScanRel.next HN.out HO.out HB.out HV.out HG.out
     case measure=>simp[intOf];omega
    ·have HD:=hQ (HR.out.trans (HA.out.stop hst he));have he':((((Qbl (suf s (Qan s k))).e:Nat):Int) != 0)=true:=by simp;omega
     have hmax:(Qbl (suf s (Qan s k))).n<=s.size:=by have:=Qm0 he;rw[Qb4]at this;omega
     clear he hst;go_wp2_with (first | (go_at_call 81;refine(Qp2 s k _ hk HM.out).mono ?_;rintro e w'⟨rfl,rfl⟩) | (go_at_call 82;refine(Qon s (Qan s k) _ hlt HL.out).mono ?_;rintro e w'⟨rfl,rfl⟩))
     exact bodyPost_ret (v:=.tuple #[.slice none 0 0,.string ⟨#[]⟩,.int .i64 (((Qan s k:Nat):Int)+((Qbl (suf s (Qan s k))).n:Nat)),.int .i64 (Qbl (suf s (Qan s k))).e]) (by simp[results,results51,go_sem]) rfl ⟨_,by rw[HD.out];rfl,by rw[HD.out];exact World.ownsRow_nil _ _ _ _,HB.out⟩
def Toks(w:World)(A:yE)(ts:List Tok):Prop :=
 ts≠[]->∃ b off,A=some ⟨b,off,none⟩/\∀ (i:Nat) (t:Tok),ts[i]? = some t ->
  w.cell? ⟨b,off+i*3,none⟩=some (.int .i64 t.kind)/\w.cell? ⟨b,off+i*3+1,none⟩=some (.string t.lead)/\w.cell? ⟨b,off+i*3+2,none⟩=some (.string t.text)
theorem Toks.same{w w':World}{A:yE}{ts:List Tok}(h:Toks w A ts)(hw:∀ p:Addr,(∃ u,w.cell? p=some u)->w'.cell? p=w.cell? p):Toks w' A ts:=fun hne=>by
 obtain⟨b,off,hA,hc⟩:=h hne;refine⟨b,off,hA,fun i t ht=>?_⟩;obtain⟨h1,h2,h3⟩:=hc i t ht;exact⟨(hw _ ⟨_,h1⟩).trans h1,(hw _ ⟨_,h2⟩).trans h2,(hw _ ⟨_,h3⟩).trans h3⟩
theorem Toks.below{w w':World}{A:yE}{ts:List Tok}(h:Toks w A ts)(hb:Below w.heap.size w w'):Toks w' A ts :=
 h.same fun p⟨_,hu⟩=>hb.cell (xK w p hu)
def Zis(t u:Tok):Bool:=t.kind==u.kind && t.lead.toList==u.lead.toList && t.text.toList==u.text.toList
def Qp5:List Tok->List Tok->Bool
 | [],[]=>true
 | t :: ts,u :: us=>Zis t u && Qp5 ts us
 | _,_=>false
theorem Qrc{ts us:List Tok}(h:ts.length≠us.length):Qp5 ts us=false:=by
 induction ts generalizing us with
 | nil=>cases us with
  | nil=>exact absurd rfl h
  | cons u us=>rfl
 | cons t ts ih=>cases us with
  | nil=>rfl
  | cons u us =>
   unfold Qp5;rw[ih (by simpa using h),Bool.and_false]
theorem Qp9{s:yD}(h:s.size=0):suf s 0 = []:=Qle s 0 (by omega)
theorem Qrh{s:yD}(h:0<s.size):suf s 0≠[]:=by
 intro e;have:=Qb4 s 0
 rw[e]at this;simp at this
 omega
theorem Qgt(s:yD)(w:World)(hs:s.size<maxLen) :
  Calls prog 139 #[.string s] w fun e w'=>e = .returned (.int .i64 (Qap (suf s 0)))/\w=w':=by
 have HS:=hQ hs
 by_cases h0:0<s.size
 ·have hne:s.toList.isEmpty=false:=by
   have:=Qrh h0
   rw[Qdz]at this
   simpa using this
  have HN:=hQ (Qrh h0);have HL:=hQ (Qb4 s 0);unfold maxLen at hs
  by_cases he:(Qbl (suf s 0)).e=0
  ·have he':(((Qbl (suf s 0)).e:Nat):Int)=0:=by omega
   by_cases hn:(Qbl (suf s 0)).n=s.size
   ·have hn':(((Qbl (suf s 0)).n:Nat):Int)=(s.size:Int):=by omega
    have HC:=hQ (show Qap (suf s 0)=(Qbl (suf s 0)).kind from by unfold Qap;rw[xN HN.out,xN (by rw[HL.out,he,hn];simp)]);clear he hn;go_enter func139,ntmps139;go_wp2_with (go_at_call 82;refine(Qkc _ _ h0 HS.out).mono ?_;rintro e w'⟨rfl,rfl⟩)
    go_ret;exact⟨Qcl (by rw[HC.out]),rfl⟩
   ·have hn':¬ (((Qbl (suf s 0)).n:Nat):Int)=(s.size:Int):=by omega
    have HC:=hQ (show Qap (suf s 0)=0 from by unfold Qap;rw[xN HN.out,xO (.inr (by rw[HL.out];exact hn))]);clear he hn;go_enter func139,ntmps139;go_wp2_with (go_at_call 82;refine(Qkc _ _ h0 HS.out).mono ?_;rintro e w'⟨rfl,rfl⟩)
    go_ret;exact⟨Qcl (by rw[HC.out];rfl),rfl⟩
  ·have he':¬ (((Qbl (suf s 0)).e:Nat):Int)=0:=by omega
   have HC:=hQ (show Qap (suf s 0)=0 from by unfold Qap;rw[xN HN.out,xO (.inl he)]);clear he;go_enter func139,ntmps139;go_wp2_with (go_at_call 82;refine(Qkc _ _ h0 HS.out).mono ?_;rintro e w'⟨rfl,rfl⟩)
   go_ret;exact⟨Qcl (by rw[HC.out];rfl),rfl⟩
 ·have he:s.toList.isEmpty=true:=by rw[<-Qdz,Qp9 (by omega)];rfl
  have HC:=hQ (show Qap (suf s 0)=0 from by rw[Qp9 (by omega)];rfl);go_enter func139,ntmps139;go_wp2;go_ret;exact⟨Qcl (by rw[HC.out];rfl),rfl⟩
theorem Qqa(s:yD)(w:World):Calls prog 173 #[.string s] w fun e w'=>e = .returned (.bool (Qau (suf s 0)))/\w=w':=by
 go_enter func173,ntmps173;go_wp2
 all_goals
  go_ret;exact⟨Qaj (by rw[Qdz];simp_all [Qau,reservedWords]),rfl⟩
def Qxh(l:List UInt8):Nat:=if Qax (at' l 0) then Qac l else 0
theorem Qcb(s:yD)(a:Nat)(h:a<s.size):at' (suf s a) 0=s[a].toNat:=Qjn s a 0 (by omega)
theorem Qkh{s:yD}{a:Nat}(h:a<s.size)(hl:Qax s[a].toNat=true):Qxh (suf s a)=Qac (suf s a):=by
 unfold Qxh;rw[Qcb s a h,xO hl]
theorem Qvd{s:yD}{a:Nat}(h:a<s.size)(hl:Qax s[a].toNat=false):Qxh (suf s a)=0:=by
 unfold Qxh;rw[Qcb s a h,xN (by simp[hl])]
theorem Zaj{s:yD}{a:Nat}(h:¬ a<s.size):Qxh (suf s a)=0:=by
 rw[Qle s a (by omega)];rfl
theorem Qm4(s:yD)(a:Nat)(w:World)(ha:a<=maxLen)(hs:s.size<=maxLen) :
  Calls prog 172 #[.string s,.int .i64 a] w fun e w'=>e = .returned (.int .i64 (Qxh (suf s a)))/\w=w':=by
 unfold maxLen at hs ha
 by_cases hlt:a<s.size
 ·have hge:decide (s.size<=a)=false:=by simp;omega
  have HR0:=hQ (RunAt.start Qhh s a (by omega));have HE:=hQ (show Qax s[a].toNat=(Qbx s[a].toNat || Qik s[a].toNat) from rfl)
  cases hu:Qbx s[a].toNat
  ·cases hl:Qik s[a].toNat
   ·have HW:=hQ (Qvd hlt (by rw[HE.out,hu,hl];rfl));go_enter func172,ntmps172;go_wp2_with (first | (go_at_call 163;refine(Qbk _ _).mono ?_;rintro e w'⟨rfl,rfl⟩) | (go_at_call 164;refine(Qaz _ _).mono ?_;rintro e w'⟨rfl,rfl⟩) | (go_at_call 174;refine(Qe7 _ _).mono ?_;rintro e w'⟨rfl,rfl⟩))
    go_ret;exact⟨Qcl (by rw[HW.out];rfl),rfl⟩
   ·have HW:=hQ (Qkh hlt (by rw[HE.out,hu,hl];rfl));go_enter func172,ntmps172;go_wp2_with (first | (go_at_call 163;refine(Qbk _ _).mono ?_;rintro e w'⟨rfl,rfl⟩) | (go_at_call 164;refine(Qaz _ _).mono ?_;rintro e w'⟨rfl,rfl⟩) | (go_at_call 174;refine(Qe7 _ _).mono ?_;rintro e w'⟨rfl,rfl⟩))
    go_loop [5] (fun x=>∃ (k:Nat),k<=s.size/\x = .int .i64 k/\RunAt Qhh s a k) (fun x=>s.size-(intOf x).toNat)
    case atStart=>exact⟨a,by omega,rfl,HR0.out⟩
    case round =>
     obtain⟨k,hk,rfl,hrel⟩:=hrel;have HR:=hQ hrel;clear hrel HR0;have hk0:=HR.out.1
     by_cases hlt':k<s.size
     ·cases hw:Qhh s[k].toNat
      ·go_wp2_with (first | (go_at_call 163;refine(Qbk _ _).mono ?_;rintro e w'⟨rfl,rfl⟩) | (go_at_call 164;refine(Qaz _ _).mono ?_;rintro e w'⟨rfl,rfl⟩) | (go_at_call 174;refine(Qe7 _ _).mono ?_;rintro e w'⟨rfl,rfl⟩))
       go_ret;exact⟨Qcl (by have:=HR.out.stop hlt' hw;rw[HW.out];unfold Qac;omega),rfl⟩
      ·go_wp2_with (first | (go_at_call 163;refine(Qbk _ _).mono ?_;rintro e w'⟨rfl,rfl⟩) | (go_at_call 164;refine(Qaz _ _).mono ?_;rintro e w'⟨rfl,rfl⟩) | (go_at_call 174;refine(Qe7 _ _).mono ?_;rintro e w'⟨rfl,rfl⟩))
       go_round
       case rel=>exact⟨k+1,by omega,by go_num,HR.out.next hlt' hw⟩
       case measure=>simp[intOf];omega
     ·go_wp2;go_ret;exact⟨Qcl (by have:=HR.out.done hlt';rw[HW.out];unfold Qac;omega),rfl⟩
  ·have HW:=hQ (Qkh hlt (by rw[HE.out,hu];rfl));cases hl:Qik s[a].toNat
   all_goals
    go_enter func172,ntmps172;go_wp2_with (first | (go_at_call 163;refine(Qbk _ _).mono ?_;rintro e w'⟨rfl,rfl⟩) | (go_at_call 164;refine(Qaz _ _).mono ?_;rintro e w'⟨rfl,rfl⟩) | (go_at_call 174;refine(Qe7 _ _).mono ?_;rintro e w'⟨rfl,rfl⟩))
    go_loop [5] (fun x=>∃ (k:Nat),k<=s.size/\x = .int .i64 k/\RunAt Qhh s a k) (fun x=>s.size-(intOf x).toNat)
    case atStart=>exact⟨a,by omega,rfl,HR0.out⟩
    case round =>
     obtain⟨k,hk,rfl,hrel⟩:=hrel;have HR:=hQ hrel;clear hrel HR0;have hk0:=HR.out.1
     by_cases hlt':k<s.size
     ·cases hw:Qhh s[k].toNat
      ·go_wp2_with (first | (go_at_call 163;refine(Qbk _ _).mono ?_;rintro e w'⟨rfl,rfl⟩) | (go_at_call 164;refine(Qaz _ _).mono ?_;rintro e w'⟨rfl,rfl⟩) | (go_at_call 174;refine(Qe7 _ _).mono ?_;rintro e w'⟨rfl,rfl⟩))
       go_ret;exact⟨Qcl (by have:=HR.out.stop hlt' hw;rw[HW.out];unfold Qac;omega),rfl⟩
      ·go_wp2_with (first | (go_at_call 163;refine(Qbk _ _).mono ?_;rintro e w'⟨rfl,rfl⟩) | (go_at_call 164;refine(Qaz _ _).mono ?_;rintro e w'⟨rfl,rfl⟩) | (go_at_call 174;refine(Qe7 _ _).mono ?_;rintro e w'⟨rfl,rfl⟩))
       go_round
       case rel=>exact⟨k+1,by omega,by go_num,HR.out.next hlt' hw⟩
       case measure=>simp[intOf];omega
     ·go_wp2;go_ret;exact⟨Qcl (by have:=HR.out.done hlt';rw[HW.out];unfold Qac;omega),rfl⟩
 ·have HW:=hQ (Zaj hlt);go_enter func172,ntmps172;go_wp2;go_ret;exact⟨Qcl (by rw[HW.out];rfl),rfl⟩
theorem Qtq{ts:List Tok}{i:Nat}{t:Tok}(ht:ts[i]? = some t):∀ (j:Nat) (u:Value),j<3->[Value.int .i64 t.kind,.string t.lead,.string t.text][j]? = some u->(Qcu ts)[i*3+j]? = some u:=by
 induction ts generalizing i with
 | nil=>simp at ht
 | cons a r ih =>
  intro j u hj hu;have e:Qcu (a :: r) = [Value.int .i64 a.kind,.string a.lead,.string a.text] ++ Qcu r:=by unfold Qcu;rw[List.flatMap_cons]
  rw[e];cases i with
  | zero =>
   have:a=t:=by simpa using ht
   subst this;rw[yB (by simp;omega)]
   simpa using hu
  | succ i =>
   rw[xX (by simp;omega)];have:=ih (by simpa using ht) j u hj hu
   rw[<-this]
   congr 1
   simp
   omega
theorem Toks.of_own{w:World}{base:Nat}{A:yE}{c:Nat}{ts:List Tok}(h:w.ownsRow base 88 3 (.slice A ts.length c) ts.length (Qcu ts)):Toks w A ts:=fun hne=>by
 obtain⟨g,cap,hv,_,_⟩:=h.form (by rcases ts with _|⟨t,r⟩;exact absurd rfl hne;simp);have hA:A=some ⟨g,0,none⟩:=by injection hv
 subst hA;refine⟨g,0,rfl,fun i t ht=>?_⟩;have hc:=h.cells (g:=g) rfl;have hj:=Qtq ht
 have hk:∀ j (u:Value),j<3->[Value.int .i64 t.kind,.string t.lead,.string t.text][j]? = some u->w.cell? ⟨g,0+i*3+j,none⟩=some u:=fun j u h1 h2=>by
  have:=hc (i*3+j) u (hj j u h1 h2)
  unfold Addr.add at this
  split at this
  ·rename_i h0;rw[show 0+i*3+j=0 from by omega];exact this
  ·simpa using this
 exact⟨hk 0 _ (by omega) rfl,hk 1 _ (by omega) rfl,hk 2 _ (by omega) rfl⟩
theorem Qhp{w:World}{base e size n:Nat}{v:Value}{xs:List Value}(h:w.ownsRow base e size v n xs):∃ A c,v = .slice A n c:=by
 rcases h.2 with⟨h1,h2⟩|⟨g,cap,_,h1,_⟩
 ·subst h2;exact⟨none,0,h1⟩
 ·exact⟨_,cap,h1⟩
def Qjw(a b:yD):List Tok:=[⟨Qap (suf a 0),ByteArray.empty,a⟩,⟨Qap (suf b 0),ByteArray.empty,b⟩]
def Qgh(a b:yD):Bool:=Qap (suf a 0) != 0 && Qap (suf b 0) != 0 && !Qp5 (Qbp (a ++ b)).toks (Qjw a b)
section
variable {s:yD} {a:Nat}
theorem Zlp(h0:a<s.size)(h:s[a].toNat=61)(h1:a+1<s.size)(h2:s[a+1].toNat=61):Qbz (suf s a)=2:=by
 unfold Qbz;rw[Qcb s a h0,xO h,Qjn s a 1 h1,xO h2]
theorem Zlq(h0:a<s.size)(h:s[a].toNat=61)(h1:∀ h:a+1<s.size,s[a+1].toNat≠61):Qbz (suf s a)=1:=by
 unfold Qbz;rw[Qcb s a h0,xO h]
 by_cases h2:a+1<s.size
 ·rw[Qjn s a 1 h2,xN (h1 h2)]
 ·unfold at';rw[List.getD_eq_getElem?_getD,List.getElem?_eq_none (by rw[Qb4];omega)]
  decide
theorem Zlr(h0:a<s.size)(h:s[a].toNat≠61)(h1:Qe6 s[a].toNat=true):Qbz (suf s a)=1:=by
 unfold Qbz;rw[Qcb s a h0,xN h,xO h1]
theorem Zju(h0:a<s.size)(h:s[a].toNat≠61)(h1:Qe6 s[a].toNat=false):Qbz (suf s a)=0:=by
 unfold Qbz;rw[Qcb s a h0,xN h,xN (by simp[h1])]
end
theorem Qiv(s:yD)(a:Nat)(w:World)(h0:a<s.size)(hs:s.size<=maxLen) :
  Calls prog 166 #[.string s,.int .i64 a] w fun e w'=>e = .returned (.int .i64 (Qbz (suf s a)))/\w=w':=by
 unfold maxLen at hs
 by_cases h61:s[a].toNat=61
 ·have g61:((s[a].toNat:Int)==61)=true:=Qdb h61;have H61:=hQ h61;clear h61
  by_cases h1:a+1<s.size
  ·by_cases h2:s[a+1].toNat=61
   ·have g2:((s[a+1].toNat:Int)==61)=true:=Qdb h2;have H2:=hQ h2;clear h2;go_enter func166,ntmps166;go_wp2;go_ret;exact⟨Qcl (by rw[Zlp h0 H61.out h1 H2.out];rfl),rfl⟩
   ·have g2:((s[a+1].toNat:Int)==61)=false:=Qdy h2;have H2:=hQ h2;clear h2;go_enter func166,ntmps166;go_wp2;go_ret;exact⟨Qcl (by rw[Zlq h0 H61.out (fun _=>H2.out)];rfl),rfl⟩
  ·go_enter func166,ntmps166;go_wp2;go_ret;exact⟨Qcl (by rw[Zlq h0 H61.out (fun h=>absurd h h1)];rfl),rfl⟩
 ·have g61:((s[a].toNat:Int)==61)=false:=Qdy h61;have H61:=hQ h61;clear h61
  cases ho:Qe6 s[a].toNat
  ·have H1:=hQ ho;simp only[Qe6,Bool.or_eq_false_iff,and_assoc]at ho;obtain⟨a1,a2,a3,a4,a5,a6,a7,a8,a9,a10,a11⟩:=ho;go_enter func166,ntmps166;go_wp2;go_ret;exact⟨Qcl (by rw[Zju h0 H61.out H1.out];rfl),rfl⟩
  ·have H1:=hQ ho;clear ho;go_enter func166,ntmps166;go_wp2
   all_goals
    first
     | (go_ret;exact⟨Qcl (by rw[Zlr h0 H61.out H1.out];rfl),rfl⟩)
     | (exfalso;have:=H1.out;simp_all [Qe6])
def Qzp(t:Tk):Int:=if t.e=0 then t.n else 0
def iAt(t:Tk)(a:Nat):Int:=if t.e=0 then 0 else a+t.n
theorem Qvt{t:Tk}{a:Nat}{x y z u:Int}(hx:x=Qzp t)(hy:y=t.kind)(hz:z=t.e)(hu:u=iAt t a) :
  Ending.returned (.agg #[.int .i64 x,.int .i64 y,.int .i64 z,.int .i64 u]) = .returned (.agg #[.int .i64 (Qzp t),.int .i64 t.kind,.int .i64 t.e,.int .i64 (iAt t a)]):=by rw[hx,hy,hz,hu]
theorem Qey{t:Tk}{a:Nat}{x y:Int}(k n:Nat)(h:t=⟨k,n,0⟩)(hx:x=n)(hy:y=k) :
  Ending.returned (.agg #[.int .i64 x,.int .i64 y,.int .i64 0,.int .i64 0]) = .returned (.agg #[.int .i64 (Qzp t),.int .i64 t.kind,.int .i64 t.e,.int .i64 (iAt t a)]):=by
 subst h hx hy;rfl
theorem Qet{t:Tk}{a:Nat}{z u:Int}(n e:Nat)(h:t=⟨0,n,e+1⟩)(hz:z=(e+1:Nat))(hu:u=a+n) :
  Ending.returned (.agg #[.int .i64 0,.int .i64 0,.int .i64 z,.int .i64 u]) = .returned (.agg #[.int .i64 (Qzp t),.int .i64 t.kind,.int .i64 t.e,.int .i64 (iAt t a)]):=by
 subst h hz hu;rfl
theorem Qck(s:yD)(a b:Nat)(w:World) :
  Calls prog 173 #[.string (s.extract a b)] w fun e w'=>e = .returned (.bool (Qau ((suf s a).take (b-a))))/\w=w':=by
 rw[<-Qeg];exact Qqa _ w
theorem Qd7(s:yD)(a:Nat)(w:World)(h0:a<s.size)(hl:Qax s[a].toNat=true)(hs:s.size<=maxLen) :
  Calls prog 172 #[.string s,.int .i64 a] w fun e w'=>e = .returned (.int .i64 (Qac (suf s a)))/\w=w':=by
 rw[<-Qkh h0 hl];exact Qm4 s a w (by omega) hs
theorem Zf2(s:yD)(a n:Nat)(w:World)(hb:a+n+1<s.size)(hl:Qax s[a+n+1].toNat=false)(hs:s.size<=maxLen) :
  Calls prog 172 #[.string s,.int .i64 ((a:Int)+(n:Int)+1)] w fun e w'=>e = .returned (.int .i64 0)/\w=w':=by
 have h:=Qm4 s (a+n+1) w (by omega) hs;rw[Qvd hb hl]at h
 rwa[show((a+n+1:Nat):Int)=(a:Int)+(n:Int)+1 from by omega]at h
theorem Qiw(s:yD)(a n:Nat)(w:World)(hb:a+n+1<s.size)(hl:Qax s[a+n+1].toNat=true)(hs:s.size<=maxLen) :
  Calls prog 172 #[.string s,.int .i64 ((a:Int)+(n:Int)+1)] w fun e w'=>e = .returned (.int .i64 (Qac (suf s (a+n+1))))/\w=w':=by
 have h:=Qm4 s (a+n+1) w (by omega) hs;rw[Qkh hb hl]at h
 rwa[show((a+n+1:Nat):Int)=(a:Int)+(n:Int)+1 from by omega]at h
theorem Qt8{c:Int}(h:Qax c=true):Qhh c=true:=by unfold Qhh;rw[h];rfl
theorem Qfr{s:yD}{a:Nat}(h:a<s.size)(hl:Qax s[a].toNat=true):0<Qac (suf s a):=by
 unfold Qac;rw[Qdd s a h];simp[Qd2,Qt8 hl]
theorem Qr0(s:yD)(a m:Nat)(h:0<(s.extract a (a+m)).size):(s.extract a (a+m))[0].toNat=at' (suf s a) 0:=by
 have hm:0<m:=by rw[ByteArray.size_extract]at h;omega
 rw[<-Qes _ 0 h,Qeg];unfold at';rw[List.getD_eq_getElem?_getD,List.getD_eq_getElem?_getD,List.getElem?_take,xO (by omega)]
section
variable (s:yD) (a n:Nat)
theorem Qma:at' (suf s a) (n+1)=at' (suf s (a+n+1)) 0:=by
 rw[Qtm s a,Qtm s (a+n+1)];rfl
theorem Zia(h:24<n\/24<Qac (suf s (a+n+1))):Qda (suf s a) n=⟨0,0,3⟩:=by
 unfold Qda;rw[Qe1,<-Nat.add_assoc,xO h]
theorem Zm4(h:¬ (24<n\/24<Qac (suf s (a+n+1))))(hr:Qau ((suf s (a+n+1)).take (Qac (suf s (a+n+1))))=true):Qda (suf s a) n=⟨0,0,2⟩:=by
 unfold Qda;rw[Qe1,<-Nat.add_assoc,xN h,xO hr]
theorem q_up(h:¬ (24<n\/24<Qac (suf s (a+n+1))))(hr:Qau ((suf s (a+n+1)).take (Qac (suf s (a+n+1))))=false)(hu:Qbx (at' (suf s (a+n+1)) 0)=true) :
  Qda (suf s a) n=⟨4,n+1+Qac (suf s (a+n+1)),0⟩:=by
 unfold Qda;rw[Qe1,<-Nat.add_assoc,xN h,xN (by simp[hr]),xO (by rw[Qma];exact hu)]
theorem Zm5(h:¬ (24<n\/24<Qac (suf s (a+n+1))))(hr:Qau ((suf s (a+n+1)).take (Qac (suf s (a+n+1))))=false)(hu:Qbx (at' (suf s (a+n+1)) 0)=false) :
  Qda (suf s a) n=⟨3,n+1+Qac (suf s (a+n+1)),0⟩:=by
 unfold Qda;rw[Qe1,<-Nat.add_assoc,xN h,xN (by simp[hr]),xN (by rw[Qma];simp[hu])]
end
def Qdt(s:yD)(a:Nat)(w:World)(e:Ending)(w':World):Prop :=
 e = .returned (.agg #[.int .i64 (Qzp (Qdp (suf s a))),.int .i64 (Qdp (suf s a)).kind,.int .i64 (Qdp (suf s a)).e,.int .i64 (iAt (Qdp (suf s a)) a)])/\Below w.heap.size w w'
theorem Qez(s:yD)(a:Nat)(h0:a<s.size):Qc9 (suf s a)=(Qbx s[a].toNat && !Qau ((suf s a).take (Qac (suf s a))) && decide (a+Qac (suf s a)+1<s.size) && at' (suf s a) (Qac (suf s a))==46 && Qax (at' (suf s a) (Qac (suf s a)+1))):=by
 unfold Qc9;rw[Qcb s a h0,Qb4]
 congr 3
 exact decide_eq_decide.2 (by omega)
theorem Za7(s:yD)(a:Nat)(w:World)(h0:a<s.size)(hl:Qax s[a].toNat=true)(hs:s.size<maxLen)(hu:Qbx s[a].toNat=false) :
  Calls prog 165 #[.string s,.int .i64 a] w (Qdt s a w):=by
 have HS:=hQ (Nat.le_of_lt hs);have hm:=Qcg s a;have HL:=hQ hl;have H0:=hQ (Qcb s a h0);have HD:=hQ (Qez s a h0);clear hl;unfold maxLen at hs;cases hr:Qau ((suf s a).take (Qac (suf s a)))
 all_goals
  have HP:=hQ (Qdi (show Qc9 (suf s a)=false from by rw[HD.out,hu];rfl));by_cases h24:24<Qac (suf s a)
  all_goals
   go_enter func165,ntmps165;go_wp2_with (first | (go_at_call 172;((with_reducible refine(Qd7 _ _ _ h0 HL.out HS.out).mono ?_);rintro e w'⟨rfl,rfl⟩)) | (go_at_call 173;refine(Qck _ _ _ _).mono ?_;rintro e w'⟨rfl,rfl⟩) | (go_at_call 164;refine(Qaz _ _).mono ?_;rintro e w'⟨rfl,rfl⟩))
   first
    | exact bodyPost_ret (v:=.agg #[.int .i64 0,.int .i64 0,.int .i64 3,.int .i64 a]) (by simp[results,results165,go_sem]) rfl ⟨Qet 0 2 (HP.out.trans (Qd5 h24)) rfl (by omega),(xC _ _).alloc (xA _) _⟩
    | exact bodyPost_ret (v:=.agg #[.int .i64 (Qac (suf s a):Nat),.int .i64 7,.int .i64 0,.int .i64 0]) (by simp[results,results165,go_sem]) rfl ⟨Qey 7 _ (HP.out.trans (Qev h24 hr)) rfl rfl,(xC _ _).alloc (xA _) _⟩
    | exact bodyPost_ret (v:=.agg #[.int .i64 (Qac (suf s a):Nat),.int .i64 2,.int .i64 0,.int .i64 0]) (by simp[results,results165,go_sem]) rfl ⟨Qey 2 _ (HP.out.trans (Qfx h24 hr (by rw[H0.out];exact hu))) rfl rfl,(xC _ _).alloc (xA _) _⟩
    | exact bodyPost_ret (v:=.agg #[.int .i64 (Qac (suf s a):Nat),.int .i64 1,.int .i64 0,.int .i64 0]) (by simp[results,results165,go_sem]) rfl ⟨Qey 1 _ (HP.out.trans (Qew h24 hr (by rw[H0.out];exact hu))) rfl rfl,(xC _ _).alloc (xA _) _⟩
theorem Za8(s:yD)(a:Nat)(w:World)(h0:a<s.size)(hl:Qax s[a].toNat=true)(hs:s.size<maxLen)(hu:Qbx s[a].toNat=true)(hr:Qau ((suf s a).take (Qac (suf s a)))=true) :
  Calls prog 165 #[.string s,.int .i64 a] w (Qdt s a w):=by
 have HS:=hQ (Nat.le_of_lt hs);have hm:=Qcg s a;have HL:=hQ hl;have H0:=hQ (Qcb s a h0);have HD:=hQ (Qez s a h0);clear hl;unfold maxLen at hs;have HP:=hQ (Qdi (show Qc9 (suf s a)=false from by rw[HD.out,hr];simp));by_cases h24:24<Qac (suf s a)
 all_goals
  go_enter func165,ntmps165;go_wp2_with (first | (go_at_call 172;((with_reducible refine(Qd7 _ _ _ h0 HL.out HS.out).mono ?_);rintro e w'⟨rfl,rfl⟩)) | (go_at_call 173;refine(Qck _ _ _ _).mono ?_;rintro e w'⟨rfl,rfl⟩) | (go_at_call 164;refine(Qaz _ _).mono ?_;rintro e w'⟨rfl,rfl⟩))
  first
   | exact bodyPost_ret (v:=.agg #[.int .i64 0,.int .i64 0,.int .i64 3,.int .i64 a]) (by simp[results,results165,go_sem]) rfl ⟨Qet 0 2 (HP.out.trans (Qd5 h24)) rfl (by omega),(xC _ _).alloc (xA _) _⟩
   | exact bodyPost_ret (v:=.agg #[.int .i64 (Qac (suf s a):Nat),.int .i64 7,.int .i64 0,.int .i64 0]) (by simp[results,results165,go_sem]) rfl ⟨Qey 7 _ (HP.out.trans (Qev h24 hr)) rfl rfl,(xC _ _).alloc (xA _) _⟩
   | exact bodyPost_ret (v:=.agg #[.int .i64 (Qac (suf s a):Nat),.int .i64 2,.int .i64 0,.int .i64 0]) (by simp[results,results165,go_sem]) rfl ⟨Qey 2 _ (HP.out.trans (Qfx h24 hr (by rw[H0.out];exact hu))) rfl rfl,(xC _ _).alloc (xA _) _⟩
   | exact bodyPost_ret (v:=.agg #[.int .i64 (Qac (suf s a):Nat),.int .i64 1,.int .i64 0,.int .i64 0]) (by simp[results,results165,go_sem]) rfl ⟨Qey 1 _ (HP.out.trans (Qew h24 hr (by rw[H0.out];exact hu))) rfl rfl,(xC _ _).alloc (xA _) _⟩
theorem Qt9(s:yD)(a:Nat)(w:World)(h0:a<s.size)(hl:Qax s[a].toNat=true)(hs:s.size<maxLen)(hu:Qbx s[a].toNat=true)(hr:Qau ((suf s a).take (Qac (suf s a)))=false)(hn:¬ a+Qac (suf s a)+1<s.size) :
  Calls prog 165 #[.string s,.int .i64 a] w (Qdt s a w):=by
 have HS:=hQ (Nat.le_of_lt hs);have hm:=Qcg s a;have HL:=hQ hl;have H0:=hQ (Qcb s a h0);have HD:=hQ (Qez s a h0);clear hl;unfold maxLen at hs;have hn':¬ (a:Int)+(Qac (suf s a):Nat)+1<(s.size:Int):=by omega
 have HP:=hQ (Qdi (show Qc9 (suf s a)=false from by rw[HD.out,xR hn];simp));by_cases h24:24<Qac (suf s a)
 all_goals
  go_enter func165,ntmps165;go_wp2_with (first | (go_at_call 172;((with_reducible refine(Qd7 _ _ _ h0 HL.out HS.out).mono ?_);rintro e w'⟨rfl,rfl⟩)) | (go_at_call 173;refine(Qck _ _ _ _).mono ?_;rintro e w'⟨rfl,rfl⟩) | (go_at_call 164;refine(Qaz _ _).mono ?_;rintro e w'⟨rfl,rfl⟩))
  first
   | exact bodyPost_ret (v:=.agg #[.int .i64 0,.int .i64 0,.int .i64 3,.int .i64 a]) (by simp[results,results165,go_sem]) rfl ⟨Qet 0 2 (HP.out.trans (Qd5 h24)) rfl (by omega),(xC _ _).alloc (xA _) _⟩
   | exact bodyPost_ret (v:=.agg #[.int .i64 (Qac (suf s a):Nat),.int .i64 7,.int .i64 0,.int .i64 0]) (by simp[results,results165,go_sem]) rfl ⟨Qey 7 _ (HP.out.trans (Qev h24 hr)) rfl rfl,(xC _ _).alloc (xA _) _⟩
   | exact bodyPost_ret (v:=.agg #[.int .i64 (Qac (suf s a):Nat),.int .i64 2,.int .i64 0,.int .i64 0]) (by simp[results,results165,go_sem]) rfl ⟨Qey 2 _ (HP.out.trans (Qfx h24 hr (by rw[H0.out];exact hu))) rfl rfl,(xC _ _).alloc (xA _) _⟩
   | exact bodyPost_ret (v:=.agg #[.int .i64 (Qac (suf s a):Nat),.int .i64 1,.int .i64 0,.int .i64 0]) (by simp[results,results165,go_sem]) rfl ⟨Qey 1 _ (HP.out.trans (Qew h24 hr (by rw[H0.out];exact hu))) rfl rfl,(xC _ _).alloc (xA _) _⟩
theorem Qua(s:yD)(a:Nat)(w:World)(h0:a<s.size)(hl:Qax s[a].toNat=true)(hs:s.size<maxLen)(hu:Qbx s[a].toNat=true)(hr:Qau ((suf s a).take (Qac (suf s a)))=false)(hn:a+Qac (suf s a)+1<s.size)(h46:s[a+Qac (suf s a)].toNat≠46) :
  Calls prog 165 #[.string s,.int .i64 a] w (Qdt s a w):=by
 have HS:=hQ (Nat.le_of_lt hs);have hm:=Qcg s a;have HL:=hQ hl;have H0:=hQ (Qcb s a h0);have HD:=hQ (Qez s a h0);clear hl;unfold maxLen at hs;have hn':(a:Int)+(Qac (suf s a):Nat)+1<(s.size:Int):=by omega
 have g46:((s[a+Qac (suf s a)].toNat:Int)==46)=false:=Qdy h46;have H46:=hQ h46;clear h46;have HP:=hQ (Qdi (show Qc9 (suf s a)=false from by rw[HD.out,Qjn s a (Qac (suf s a)) (by omega),beq_eq_false_iff_ne.2 H46.out];simp));by_cases h24:24<Qac (suf s a)
 all_goals
  go_enter func165,ntmps165;go_wp2_with (first | (go_at_call 172;((with_reducible refine(Qd7 _ _ _ h0 HL.out HS.out).mono ?_);rintro e w'⟨rfl,rfl⟩)) | (go_at_call 173;refine(Qck _ _ _ _).mono ?_;rintro e w'⟨rfl,rfl⟩) | (go_at_call 164;refine(Qaz _ _).mono ?_;rintro e w'⟨rfl,rfl⟩))
  first
   | exact bodyPost_ret (v:=.agg #[.int .i64 0,.int .i64 0,.int .i64 3,.int .i64 a]) (by simp[results,results165,go_sem]) rfl ⟨Qet 0 2 (HP.out.trans (Qd5 h24)) rfl (by omega),(xC _ _).alloc (xA _) _⟩
   | exact bodyPost_ret (v:=.agg #[.int .i64 (Qac (suf s a):Nat),.int .i64 7,.int .i64 0,.int .i64 0]) (by simp[results,results165,go_sem]) rfl ⟨Qey 7 _ (HP.out.trans (Qev h24 hr)) rfl rfl,(xC _ _).alloc (xA _) _⟩
   | exact bodyPost_ret (v:=.agg #[.int .i64 (Qac (suf s a):Nat),.int .i64 2,.int .i64 0,.int .i64 0]) (by simp[results,results165,go_sem]) rfl ⟨Qey 2 _ (HP.out.trans (Qfx h24 hr (by rw[H0.out];exact hu))) rfl rfl,(xC _ _).alloc (xA _) _⟩
   | exact bodyPost_ret (v:=.agg #[.int .i64 (Qac (suf s a):Nat),.int .i64 1,.int .i64 0,.int .i64 0]) (by simp[results,results165,go_sem]) rfl ⟨Qey 1 _ (HP.out.trans (Qew h24 hr (by rw[H0.out];exact hu))) rfl rfl,(xC _ _).alloc (xA _) _⟩
theorem Za9(s:yD)(a:Nat)(w:World)(h0:a<s.size)(hl:Qax s[a].toNat=true)(hs:s.size<maxLen)(hu:Qbx s[a].toNat=true)(hr:Qau ((suf s a).take (Qac (suf s a)))=false)(hn:a+Qac (suf s a)+1<s.size)(h46:s[a+Qac (suf s a)].toNat=46)(hz:Qax s[a+Qac (suf s a)+1].toNat=false) :
  Calls prog 165 #[.string s,.int .i64 a] w (Qdt s a w):=by
 have HS:=hQ (Nat.le_of_lt hs);have hm:=Qcg s a;have HL:=hQ hl;have H0:=hQ (Qcb s a h0);have HD:=hQ (Qez s a h0);clear hl;unfold maxLen at hs;have hn':(a:Int)+(Qac (suf s a):Nat)+1<(s.size:Int):=by omega
 have g46:((s[a+Qac (suf s a)].toNat:Int)==46)=true:=Qdb h46;have HZ:=hQ hz;clear h46 hz;have HP:=hQ (Qdi (show Qc9 (suf s a)=false from by rw[HD.out,Qma,Qcb s (a+Qac (suf s a)+1) hn,HZ.out];simp));by_cases h24:24<Qac (suf s a)
 all_goals
  go_enter func165,ntmps165;go_wp2_with (first | (go_at_call 172;((with_reducible refine(Qd7 _ _ _ h0 HL.out HS.out).mono ?_);rintro e w'⟨rfl,rfl⟩)) | (go_at_call 173;refine(Qck _ _ _ _).mono ?_;rintro e w'⟨rfl,rfl⟩) | (go_at_call 164;refine(Qaz _ _).mono ?_;rintro e w'⟨rfl,rfl⟩) | (go_at_call 172;((with_reducible refine(Zf2 _ _ _ _ hn HZ.out HS.out).mono ?_);rintro e w'⟨rfl,rfl⟩)))
  first
   | exact bodyPost_ret (v:=.agg #[.int .i64 0,.int .i64 0,.int .i64 3,.int .i64 a]) (by simp[results,results165,go_sem]) rfl ⟨Qet 0 2 (HP.out.trans (Qd5 h24)) rfl (by omega),(xC _ _).alloc (xA _) _⟩
   | exact bodyPost_ret (v:=.agg #[.int .i64 (Qac (suf s a):Nat),.int .i64 7,.int .i64 0,.int .i64 0]) (by simp[results,results165,go_sem]) rfl ⟨Qey 7 _ (HP.out.trans (Qev h24 hr)) rfl rfl,(xC _ _).alloc (xA _) _⟩
   | exact bodyPost_ret (v:=.agg #[.int .i64 (Qac (suf s a):Nat),.int .i64 2,.int .i64 0,.int .i64 0]) (by simp[results,results165,go_sem]) rfl ⟨Qey 2 _ (HP.out.trans (Qfx h24 hr (by rw[H0.out];exact hu))) rfl rfl,(xC _ _).alloc (xA _) _⟩
   | exact bodyPost_ret (v:=.agg #[.int .i64 (Qac (suf s a):Nat),.int .i64 1,.int .i64 0,.int .i64 0]) (by simp[results,results165,go_sem]) rfl ⟨Qey 1 _ (HP.out.trans (Qew h24 hr (by rw[H0.out];exact hu))) rfl rfl,(xC _ _).alloc (xA _) _⟩
section
variable (s:yD) (a n:Nat)
theorem Qfi(b m:Nat)(h:b<s.size)(hm:0<m):0<(s.extract b (b+m)).size:=by
 rw[ByteArray.size_extract];omega
theorem Zm6(h:¬ (24<n\/24<Qac (suf s (a+n+1))))(hr:Qau ((suf s (a+n+1)).take (Qac (suf s (a+n+1))))=false)(hn:a+n+1<s.size)(hp:0<Qac (suf s (a+n+1)))
  (hu:Qbx ((s.extract (a+n+1) (a+n+1+Qac (suf s (a+n+1))))[0]'(Qfi s _ _ hn hp)).toNat=true):Qda (suf s a) n=⟨4,n+1+Qac (suf s (a+n+1)),0⟩ :=
 q_up s a n h hr (by rwa[Qr0 _ _ _ (Qfi s _ _ hn hp)]at hu)
theorem Zls(h:¬ (24<n\/24<Qac (suf s (a+n+1))))(hr:Qau ((suf s (a+n+1)).take (Qac (suf s (a+n+1))))=false)(hn:a+n+1<s.size)(hp:0<Qac (suf s (a+n+1)))
  (hu:Qbx ((s.extract (a+n+1) (a+n+1+Qac (suf s (a+n+1))))[0]'(Qfi s _ _ hn hp)).toNat=false):Qda (suf s a) n=⟨3,n+1+Qac (suf s (a+n+1)),0⟩ :=
 Zm5 s a n h hr (by rwa[Qr0 _ _ _ (Qfi s _ _ hn hp)]at hu)
end
theorem Zgb(s:yD)(a:Nat)(w:World)(h0:a<s.size)(hl:Qax s[a].toNat=true)(hs:s.size<maxLen)(hu:Qbx s[a].toNat=true)(hr:Qau ((suf s a).take (Qac (suf s a)))=false)(hn:a+Qac (suf s a)+1<s.size)(h46:s[a+Qac (suf s a)].toNat=46)(hz:Qax s[a+Qac (suf s a)+1].toNat=true)(h24:24<Qac (suf s a)) :
  Calls prog 165 #[.string s,.int .i64 a] w (Qdt s a w):=by
 have HS:=hQ (Nat.le_of_lt hs);have hm:=Qcg s a;have HL:=hQ hl;have H0:=hQ (Qcb s a h0);have HD:=hQ (Qez s a h0);clear hl;unfold maxLen at hs;have hn':(a:Int)+(Qac (suf s a):Nat)+1<(s.size:Int):=by omega
 have g46:((s[a+Qac (suf s a)].toNat:Int)==46)=true:=Qdb h46;have hp:=Qfr hn hz;have hm2:=Qcg s (a+Qac (suf s a)+1);have HZ:=hQ hz
 have HT:=hQ (show Qdp (suf s a)=Qda (suf s a) (Qac (suf s a)) from by
  unfold Qdp;rw[xO (by rw[HD.out,hu,hr,Qjn s a _ (by omega),h46,Qma,Qcb s (a+Qac (suf s a)+1) hn,hz];simpa using hn)])
 clear h46 hz;have HQ:=hQ (HT.out.trans (Zia s a _ (.inl h24)));go_enter func165,ntmps165;go_wp2_with (first | (go_at_call 172;((with_reducible refine(Qd7 _ _ _ h0 HL.out HS.out).mono ?_);rintro e w'⟨rfl,rfl⟩)) | (go_at_call 173;refine(Qck _ _ _ _).mono ?_;rintro e w'⟨rfl,rfl⟩) | (go_at_call 164;refine(Qaz _ _).mono ?_;rintro e w'⟨rfl,rfl⟩) | (go_at_call 172;((with_reducible refine(Qiw _ _ _ _ hn HZ.out HS.out).mono ?_);rintro e w'⟨rfl,rfl⟩)))
 all_goals
  exact bodyPost_ret (v:=.agg #[.int .i64 0,.int .i64 0,.int .i64 3,.int .i64 a]) (by simp[results,results165,go_sem]) rfl ⟨Qet 0 2 HQ.out rfl (by omega),(xC _ _).alloc (xA _) _⟩
theorem Zgc(s:yD)(a:Nat)(w:World)(h0:a<s.size)(hl:Qax s[a].toNat=true)(hs:s.size<maxLen)(hu:Qbx s[a].toNat=true)(hr:Qau ((suf s a).take (Qac (suf s a)))=false)(hn:a+Qac (suf s a)+1<s.size)(h46:s[a+Qac (suf s a)].toNat=46)(hz:Qax s[a+Qac (suf s a)+1].toNat=true)(h24:24<Qac (suf s (a+Qac (suf s a)+1))) :
  Calls prog 165 #[.string s,.int .i64 a] w (Qdt s a w):=by
 have HS:=hQ (Nat.le_of_lt hs);have hm:=Qcg s a;have HL:=hQ hl;have H0:=hQ (Qcb s a h0);have HD:=hQ (Qez s a h0);clear hl;unfold maxLen at hs;have hn':(a:Int)+(Qac (suf s a):Nat)+1<(s.size:Int):=by omega
 have g46:((s[a+Qac (suf s a)].toNat:Int)==46)=true:=Qdb h46;have hp:=Qfr hn hz;have hm2:=Qcg s (a+Qac (suf s a)+1);have HZ:=hQ hz
 have HT:=hQ (show Qdp (suf s a)=Qda (suf s a) (Qac (suf s a)) from by
  unfold Qdp;rw[xO (by rw[HD.out,hu,hr,Qjn s a _ (by omega),h46,Qma,Qcb s (a+Qac (suf s a)+1) hn,hz];simpa using hn)])
 clear h46 hz;have HQ:=hQ (HT.out.trans (Zia s a _ (.inr h24)));go_enter func165,ntmps165;go_wp2_with (first | (go_at_call 172;((with_reducible refine(Qd7 _ _ _ h0 HL.out HS.out).mono ?_);rintro e w'⟨rfl,rfl⟩)) | (go_at_call 173;refine(Qck _ _ _ _).mono ?_;rintro e w'⟨rfl,rfl⟩) | (go_at_call 164;refine(Qaz _ _).mono ?_;rintro e w'⟨rfl,rfl⟩) | (go_at_call 172;((with_reducible refine(Qiw _ _ _ _ hn HZ.out HS.out).mono ?_);rintro e w'⟨rfl,rfl⟩)))
 all_goals
  exact bodyPost_ret (v:=.agg #[.int .i64 0,.int .i64 0,.int .i64 3,.int .i64 a]) (by simp[results,results165,go_sem]) rfl ⟨Qet 0 2 HQ.out rfl (by omega),(xC _ _).alloc (xA _) _⟩
theorem Zgd(s:yD)(a:Nat)(w:World)(h0:a<s.size)(hl:Qax s[a].toNat=true)(hs:s.size<maxLen)(hu:Qbx s[a].toNat=true)(hr:Qau ((suf s a).take (Qac (suf s a)))=false)(hn:a+Qac (suf s a)+1<s.size)(h46:s[a+Qac (suf s a)].toNat=46)(hz:Qax s[a+Qac (suf s a)+1].toNat=true)(h24:¬ (24<Qac (suf s a)\/24<Qac (suf s (a+Qac (suf s a)+1))))(hr2:Qau ((suf s (a+Qac (suf s a)+1)).take (Qac (suf s (a+Qac (suf s a)+1))))=true) :
  Calls prog 165 #[.string s,.int .i64 a] w (Qdt s a w):=by
 have HS:=hQ (Nat.le_of_lt hs);have hm:=Qcg s a;have HL:=hQ hl;have H0:=hQ (Qcb s a h0);have HD:=hQ (Qez s a h0);clear hl;unfold maxLen at hs;have hn':(a:Int)+(Qac (suf s a):Nat)+1<(s.size:Int):=by omega
 have g46:((s[a+Qac (suf s a)].toNat:Int)==46)=true:=Qdb h46;have hp:=Qfr hn hz;have hm2:=Qcg s (a+Qac (suf s a)+1);have HZ:=hQ hz
 have HT:=hQ (show Qdp (suf s a)=Qda (suf s a) (Qac (suf s a)) from by
  unfold Qdp;rw[xO (by rw[HD.out,hu,hr,Qjn s a _ (by omega),h46,Qma,Qcb s (a+Qac (suf s a)+1) hn,hz];simpa using hn)])
 clear h46 hz;have h24a:Qac (suf s a)<=24:=by omega
 have h24b:Qac (suf s (a+Qac (suf s a)+1))<=24:=by omega
 have H24:=hQ h24;clear h24;have HQ:=hQ (HT.out.trans (Zm4 s a _ H24.out hr2));go_enter func165,ntmps165;go_wp2_with (first | (go_at_call 172;((with_reducible refine(Qd7 _ _ _ h0 HL.out HS.out).mono ?_);rintro e w'⟨rfl,rfl⟩)) | (go_at_call 173;refine(Qck _ _ _ _).mono ?_;rintro e w'⟨rfl,rfl⟩) | (go_at_call 164;refine(Qaz _ _).mono ?_;rintro e w'⟨rfl,rfl⟩) | (go_at_call 172;((with_reducible refine(Qiw _ _ _ _ hn HZ.out HS.out).mono ?_);rintro e w'⟨rfl,rfl⟩)))
 all_goals
  exact bodyPost_ret (v:=.agg #[.int .i64 0,.int .i64 0,.int .i64 2,.int .i64 a]) (by simp[results,results165,go_sem]) rfl ⟨Qet 0 1 HQ.out rfl (by omega),(xC _ _).alloc (xA _) _⟩
theorem Zge(s:yD)(a:Nat)(w:World)(h0:a<s.size)(hl:Qax s[a].toNat=true)(hs:s.size<maxLen)(hu:Qbx s[a].toNat=true)(hr:Qau ((suf s a).take (Qac (suf s a)))=false)(hn:a+Qac (suf s a)+1<s.size)(h46:s[a+Qac (suf s a)].toNat=46)(hz:Qax s[a+Qac (suf s a)+1].toNat=true)(h24:¬ (24<Qac (suf s a)\/24<Qac (suf s (a+Qac (suf s a)+1))))(hr2:Qau ((suf s (a+Qac (suf s a)+1)).take (Qac (suf s (a+Qac (suf s a)+1))))=false)(hp0:0<Qac (suf s (a+Qac (suf s a)+1)))(hup:Qbx ((s.extract (a+Qac (suf s a)+1) (a+Qac (suf s a)+1+Qac (suf s (a+Qac (suf s a)+1))))[0]'(Qfi s _ _ hn hp0)).toNat=true) :
  Calls prog 165 #[.string s,.int .i64 a] w (Qdt s a w):=by
 have HS:=hQ (Nat.le_of_lt hs);have hm:=Qcg s a;have HL:=hQ hl;have H0:=hQ (Qcb s a h0);have HD:=hQ (Qez s a h0);clear hl;unfold maxLen at hs;have hn':(a:Int)+(Qac (suf s a):Nat)+1<(s.size:Int):=by omega
 have g46:((s[a+Qac (suf s a)].toNat:Int)==46)=true:=Qdb h46;have hp:=Qfr hn hz;have hm2:=Qcg s (a+Qac (suf s a)+1);have HZ:=hQ hz
 have HT:=hQ (show Qdp (suf s a)=Qda (suf s a) (Qac (suf s a)) from by
  unfold Qdp;rw[xO (by rw[HD.out,hu,hr,Qjn s a _ (by omega),h46,Qma,Qcb s (a+Qac (suf s a)+1) hn,hz];simpa using hn)])
 clear h46 hz;have h24a:Qac (suf s a)<=24:=by omega
 have h24b:Qac (suf s (a+Qac (suf s a)+1))<=24:=by omega
 have H24:=hQ h24;clear h24;go_enter func165,ntmps165;go_wp2_with (first | (go_at_call 172;((with_reducible refine(Qd7 _ _ _ h0 HL.out HS.out).mono ?_);rintro e w'⟨rfl,rfl⟩)) | (go_at_call 173;refine(Qck _ _ _ _).mono ?_;rintro e w'⟨rfl,rfl⟩) | (go_at_call 164;refine(Qaz _ _).mono ?_;rintro e w'⟨rfl,rfl⟩) | (go_at_call 172;((with_reducible refine(Qiw _ _ _ _ hn HZ.out HS.out).mono ?_);rintro e w'⟨rfl,rfl⟩)))
 all_goals
  exact bodyPost_ret (v:=.agg #[.int .i64 (((Qac (suf s a):Nat):Int)+1+(Qac (suf s (a+Qac (suf s a)+1)):Nat)),.int .i64 4,.int .i64 0,.int .i64 0]) (by simp[results,results165,go_sem]) rfl ⟨Qey 4 _ (HT.out.trans (Zm6 s a _ H24.out hr2 hn hp hup)) (by omega) rfl,(xC _ _).alloc (xA _) _⟩
theorem Zgf(s:yD)(a:Nat)(w:World)(h0:a<s.size)(hl:Qax s[a].toNat=true)(hs:s.size<maxLen)(hu:Qbx s[a].toNat=true)(hr:Qau ((suf s a).take (Qac (suf s a)))=false)(hn:a+Qac (suf s a)+1<s.size)(h46:s[a+Qac (suf s a)].toNat=46)(hz:Qax s[a+Qac (suf s a)+1].toNat=true)(h24:¬ (24<Qac (suf s a)\/24<Qac (suf s (a+Qac (suf s a)+1))))(hr2:Qau ((suf s (a+Qac (suf s a)+1)).take (Qac (suf s (a+Qac (suf s a)+1))))=false)(hp0:0<Qac (suf s (a+Qac (suf s a)+1)))(hup:Qbx ((s.extract (a+Qac (suf s a)+1) (a+Qac (suf s a)+1+Qac (suf s (a+Qac (suf s a)+1))))[0]'(Qfi s _ _ hn hp0)).toNat=false) :
  Calls prog 165 #[.string s,.int .i64 a] w (Qdt s a w):=by
 have HS:=hQ (Nat.le_of_lt hs);have hm:=Qcg s a;have HL:=hQ hl;have H0:=hQ (Qcb s a h0);have HD:=hQ (Qez s a h0);clear hl;unfold maxLen at hs;have hn':(a:Int)+(Qac (suf s a):Nat)+1<(s.size:Int):=by omega
 have g46:((s[a+Qac (suf s a)].toNat:Int)==46)=true:=Qdb h46;have hp:=Qfr hn hz;have hm2:=Qcg s (a+Qac (suf s a)+1);have HZ:=hQ hz
 have HT:=hQ (show Qdp (suf s a)=Qda (suf s a) (Qac (suf s a)) from by
  unfold Qdp;rw[xO (by rw[HD.out,hu,hr,Qjn s a _ (by omega),h46,Qma,Qcb s (a+Qac (suf s a)+1) hn,hz];simpa using hn)])
 clear h46 hz;have h24a:Qac (suf s a)<=24:=by omega
 have h24b:Qac (suf s (a+Qac (suf s a)+1))<=24:=by omega
 have H24:=hQ h24;clear h24;go_enter func165,ntmps165;go_wp2_with (first | (go_at_call 172;((with_reducible refine(Qd7 _ _ _ h0 HL.out HS.out).mono ?_);rintro e w'⟨rfl,rfl⟩)) | (go_at_call 173;refine(Qck _ _ _ _).mono ?_;rintro e w'⟨rfl,rfl⟩) | (go_at_call 164;refine(Qaz _ _).mono ?_;rintro e w'⟨rfl,rfl⟩) | (go_at_call 172;((with_reducible refine(Qiw _ _ _ _ hn HZ.out HS.out).mono ?_);rintro e w'⟨rfl,rfl⟩)))
 all_goals
  exact bodyPost_ret (v:=.agg #[.int .i64 (((Qac (suf s a):Nat):Int)+1+(Qac (suf s (a+Qac (suf s a)+1)):Nat)),.int .i64 3,.int .i64 0,.int .i64 0]) (by simp[results,results165,go_sem]) rfl ⟨Qey 3 _ (HT.out.trans (Zls s a _ H24.out hr2 hn hp hup)) (by omega) rfl,(xC _ _).alloc (xA _) _⟩
theorem hsec(s:yD)(b m:Nat)(hn:b<s.size)(hp0:0<m):Qbx ((s.extract b (b+m))[0]'(Qfi s b m hn hp0)).toNat=true\/Qbx ((s.extract b (b+m))[0]'(Qfi s b m hn hp0)).toNat=false:=by
 cases Qbx ((s.extract b (b+m))[0]'(Qfi s b m hn hp0)).toNat
 ·exact .inr rfl
 ·exact .inl rfl
theorem Zbd(s:yD)(a:Nat)(w:World)(h0:a<s.size)(hl:Qax s[a].toNat=true)(hs:s.size<maxLen) :
  Calls prog 165 #[.string s,.int .i64 a] w (Qdt s a w):=by
 cases hu:Qbx s[a].toNat
 ·exact Za7 s a w h0 hl hs hu
 ·cases hr:Qau ((suf s a).take (Qac (suf s a)))
  ·by_cases hn:a+Qac (suf s a)+1<s.size
   ·by_cases h46:s[a+Qac (suf s a)].toNat=46
    ·cases hz:Qax s[a+Qac (suf s a)+1].toNat
     ·exact Za9 s a w h0 hl hs hu hr hn h46 hz
     ·by_cases h1:24<Qac (suf s a)
      ·exact Zgb s a w h0 hl hs hu hr hn h46 hz h1
      ·by_cases h2:24<Qac (suf s (a+Qac (suf s a)+1))
       ·exact Zgc s a w h0 hl hs hu hr hn h46 hz h2
       ·have hp0:0<Qac (suf s (a+Qac (suf s a)+1)):=Qfr hn hz;have h24:¬ (24<Qac (suf s a)\/24<Qac (suf s (a+Qac (suf s a)+1))):=by omega
        cases hr2:Qau ((suf s (a+Qac (suf s a)+1)).take (Qac (suf s (a+Qac (suf s a)+1))))
        ·rcases hsec s (a+Qac (suf s a)+1) _ hn hp0 with hup | hup
         ·exact Zge s a w h0 hl hs hu hr hn h46 hz h24 hr2 hp0 hup
         ·exact Zgf s a w h0 hl hs hu hr hn h46 hz h24 hr2 hp0 hup
        ·exact Zgd s a w h0 hl hs hu hr hn h46 hz h24 hr2
    ·exact Qua s a w h0 hl hs hu hr hn h46
   ·exact Qt9 s a w h0 hl hs hu hr hn
  ·exact Za8 s a w h0 hl hs hu hr
end Go.Proofs.YtfjpemdejoejbaaGreat
