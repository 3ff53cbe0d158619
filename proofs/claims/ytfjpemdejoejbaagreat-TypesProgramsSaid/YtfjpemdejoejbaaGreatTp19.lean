/- Part 19 -/
import Derived.Test.YtfjpemdejoejbaaGreatTp18
set_option maxRecDepth 100000
set_option maxHeartbeats 4000000
namespace Go.Proofs.YtfjpemdejoejbaaGreat
open Go.Proofs.Tryz Go.RowKit
theorem Qjz(N:Nat):∀ (S:Nat->Prop) (t:Tr) (v:TV) (w:World),SizeOf.sizeOf t<=N->TrAt S w t v->Qai t<=140737488355328 ->
  Calls prog 71 #[.agg #[.int .i64 v.kind,.string v.text,.slice v.la v.ll v.lc,.slice v.ka v.kl v.kc]] w fun e w'=>e = .returned (.int .i64 (Qex t:Nat))/\Below w.heap.size w w':=by
 induction N with
 | zero=>intro S t v w h;have:=Qf3 t;omega
 | succ N ih =>
  intro S t v w hN h hz;have HIH:=hQ ih;have HB0:=hQ ((xC w.heap.size w).alloc (xA _) (trO v));have HT:=hQ (h.keep HB0.out);have HX:=hQ (xH w (trO v));have HZ:=hQ hz;have HN:=hQ hN;have hkl:=h.kl.1;obtain⟨vk,vx,vla,vll,vlc,vka,vkl,vkc⟩:=v;simp only at hkl;subst hkl;have hmax:t.kids.length<=140737488355328:=by have:=Qa0 t.kids;rw[Qa5]at hz;omega
  have HMX:=hQ hmax;clear ih h hz hN;have k3:(w.alloc (trO ⟨vk,vx,vla,vll,vlc,vka,t.kids.length,vkc⟩)).cell? ⟨w.heap.size,3,none⟩=some (.slice vka t.kids.length vkc):=Qab HX.out 3 _ rfl;go_enter func71,ntmps71;go_wp2;clear k3
  go_loopw [3,4] (fun n i wr=>Zjm (fun l=>Qdo l) t (w.alloc (trO ⟨vk,vx,vla,vll,vlc,vka,t.kids.length,vkc⟩)) n i wr) (fun _ i _=>t.kids.length-(intOf i).toNat)
  case atStart=>exact⟨0,rfl,xZ _,rfl,xC _ _⟩
  case round =>
   obtain⟨j,rfl,hj,rfl,hb⟩:=hrel;have HBR:=hQ hb;have hx:=(hb.block w.heap.size (Qaa HX.out)).trans HX.out;have k3:wr.cell? ⟨w.heap.size,3,none⟩=some (.slice vka t.kids.length vkc):=Qab hx 3 _ rfl;clear hb hx
   by_cases hlt:j<t.kids.length
   ·obtain⟨k,hk⟩:∃ k,t.kids[j]? = some k:=⟨_,xF hlt⟩;obtain⟨b,off,hka⟩:∃ b off,vka=some ⟨b,off,none⟩:=HT.out.addr.resolve_left (by omega);subst hka;obtain⟨u,c0,c1,c2,c3,hu⟩:=(HT.out.keep HBR.out).at rfl hk;have HU:=hQ hu;have HS1:=hQ (Qe9 hk);have HD1:=hQ (Qt5 hk);have hs:=Qfh t.kids (j+1);have hs0:=Qe9 hk;have hds:=Qhd (t.kids.take j);have hdk:=Qic k;have HSK:=hQ (xQ (Qbi hk) HZ.out);have HNK:=hQ (show SizeOf.sizeOf k<=N from by have:=Qar hk;have:=HN.out;omega);have hz:=HZ.out;rw[Qa5]at hz;have q1:((Qal (t.kids.take j):Nat):Int)+(Qai k:Nat)+1<=140737488355328:=by omega
    have q2:((Qdo (t.kids.take j):Nat):Int)<=140737488355328:=by omega
    have q3:((Qex k:Nat):Int)+1<=140737488355329:=by omega
    have hj0:(0:Int)<=(j:Int):=by omega
    have hj1:(j:Int)<(t.kids.length:Int):=by omega
    have hj2:(j:Int)+1<=140737488355328:=by omega
    clear hk hu hs hs0 hds hdk hz;go_wp2_with (go_at_call 71;refine(HIH.out S k u _ HNK.out (HU.out.keep (xC _ _)) HSK.out).mono ?_;rintro e w2⟨rfl,hb2⟩;have HB2:=hQ (yC HBR.out hb2);clear hb2)
    go_roundw
    case rel=>exact⟨j+1,by go_num,by omega,by show _=Value.int .i64 ((Qdo (t.kids.take (j+1)):Nat):Int);rw[HD1.out];go_num,HB2.out⟩
    case measure=>simp[intOf];omega
   ·have hjn:j=t.kids.length:=by omega
    subst hjn;have HR:=hQ (show Qex t=Qdo (t.kids.take t.kids.length)+1 from by rw[Qnd,List.take_length]);have hz:=HZ.out;have h1:=Qic t;have h2:=HR.out;go_wp2;go_ret;exact⟨Qcl (by have h3:=Qnd t;unfold wrap64;omega),HB0.out.trans (HBR.out.mono (by simp))⟩
def Qlp(k:Int):Bool:=decide (10<=k) && decide (k<=22) && (k != 17)
def Qj0(k:Int):Bool:=Qlp k && (k != 19) && (k != 20) && (k != 21)
theorem Qht(k:Int):Qlp k=Qfd 5 k:=by
 unfold Qlp Qfd
 by_cases h17:k=17
 ·subst h17;rfl
 ·by_cases h19:k=19
  ·subst h19;rfl
  ·by_cases h20:k=20
   ·subst h20;rfl
   ·by_cases h21:k=21
    ·subst h21;rfl
    ·simp[h17,h19,h20,h21]
theorem Zbv(k:Int):Qj0 k=Qfd 7 k:=by
 unfold Qj0 Qlp Qfd
 by_cases h17:k=17
 ·subst h17;rfl
 ·by_cases h19:k=19
  ·subst h19;rfl
  ·by_cases h20:k=20
   ·subst h20;rfl
   ·by_cases h21:k=21
    ·subst h21;rfl
    ·have b17:(k != 17)=true:=bne_iff_ne.2 h17;have b19:(k != 19)=true:=bne_iff_ne.2 h19;have b20:(k != 20)=true:=bne_iff_ne.2 h20;have b21:(k != 21)=true:=bne_iff_ne.2 h21;have c21:(k==21)=false:=Qcr h21;rw[xN (by decide),xN (by decide),xN (by decide),xN (by decide),xN h17,xN (fun h=>by omega),xN h21];simp only[b17,b19,b20,b21,Bool.and_true]
theorem Qx7(k:Int):(Qj0 k || k==21)=Qfd 6 k:=by
 unfold Qj0 Qlp Qfd
 by_cases h17:k=17
 ·subst h17;rfl
 ·by_cases h19:k=19
  ·subst h19;rfl
  ·by_cases h20:k=20
   ·subst h20;rfl
   ·by_cases h21:k=21
    ·subst h21;rfl
    ·have b17:(k != 17)=true:=bne_iff_ne.2 h17;have b19:(k != 19)=true:=bne_iff_ne.2 h19;have b20:(k != 20)=true:=bne_iff_ne.2 h20;have b21:(k != 21)=true:=bne_iff_ne.2 h21;have c21:(k==21)=false:=Qcr h21;rw[xN (by decide),xN (by decide),xN (by decide),xN (by decide),xN h17,xN (fun h=>by omega),xN h21];simp only[b17,b19,b20,b21,Bool.and_true,c21,Bool.or_false]
theorem Qcd(k:Int)(w:World):Calls prog 30 #[.int .i64 k] w fun e w'=>e = .returned (.bool (Qfd 3 k))/\w=w':=by
 go_enter func30,ntmps30;go_wp2
 all_goals
  go_ret;exact⟨Qaj (by simp_all [Qfd];try omega),rfl⟩
theorem Qco(k:Int)(w:World):Calls prog 92 #[.int .i64 k] w fun e w'=>e = .returned (.bool (Qlp k))/\w=w':=by
 go_enter func92,ntmps92;go_wp2
 all_goals
  go_ret;exact⟨Qaj (by simp_all [Qlp];try omega),rfl⟩
theorem Qc0(k:Int)(w:World):Calls prog 93 #[.int .i64 k] w fun e w'=>e = .returned (.bool (Qj0 k))/\w=w':=by
 have HR:=hQ (show Qj0 k=(Qlp k && (k != 19) && (k != 20) && (k != 21)) from rfl)
 cases hx:Qlp k
 ·go_enter func93,ntmps93;go_wp2_with (go_at_call 92;refine(Qco _ _).mono ?_;rw[hx];rintro e w'⟨rfl,rfl⟩)
  go_ret;exact⟨Qaj (by rw[HR.out,hx];rfl),rfl⟩
 ·go_enter func93,ntmps93;go_wp2_with (go_at_call 92;refine(Qco _ _).mono ?_;rw[hx];rintro e w'⟨rfl,rfl⟩)
  all_goals
   go_ret;exact⟨Qaj (by rw[HR.out,hx];simp_all),rfl⟩
theorem Zjz(s:yD)(w:World)(h0:(s.toList == [43])=true):Calls prog 91 #[.string s] w fun e w'=>e = .returned (.bool (opB s))/\w=w':=by
 have HR:=hQ (show opB s=true from by unfold opB;simp only[<-Qbj,h0];rfl);go_enter func91,ntmps91;go_wp2;go_ret;exact⟨by rw[HR.out];rfl,rfl⟩
theorem Zj0(s:yD)(w:World)(h0:(s.toList == [43])=false)(h1:(s.toList == [45])=true):Calls prog 91 #[.string s] w fun e w'=>e = .returned (.bool (opB s))/\w=w':=by
 have HR:=hQ (show opB s=true from by unfold opB;simp only[<-Qbj,h0,h1];rfl);go_enter func91,ntmps91;go_wp2;go_ret;exact⟨by rw[HR.out];rfl,rfl⟩
theorem Zj1(s:yD)(w:World)(h0:(s.toList == [43])=false)(h1:(s.toList == [45])=false)(h2:(s.toList == [42])=true):Calls prog 91 #[.string s] w fun e w'=>e = .returned (.bool (opB s))/\w=w':=by
 have HR:=hQ (show opB s=true from by unfold opB;simp only[<-Qbj,h0,h1,h2];rfl);go_enter func91,ntmps91;go_wp2;go_ret;exact⟨by rw[HR.out];rfl,rfl⟩
theorem Zj2(s:yD)(w:World)(h0:(s.toList == [43])=false)(h1:(s.toList == [45])=false)(h2:(s.toList == [42])=false)(h3:(s.toList == [60])=true):Calls prog 91 #[.string s] w fun e w'=>e = .returned (.bool (opB s))/\w=w':=by
 have HR:=hQ (show opB s=true from by unfold opB;simp only[<-Qbj,h0,h1,h2,h3];rfl);go_enter func91,ntmps91;go_wp2;go_ret;exact⟨by rw[HR.out];rfl,rfl⟩
theorem Zj3(s:yD)(w:World)(h0:(s.toList == [43])=false)(h1:(s.toList == [45])=false)(h2:(s.toList == [42])=false)(h3:(s.toList == [60])=false)(h4:(s.toList == [61,61])=true):Calls prog 91 #[.string s] w fun e w'=>e = .returned (.bool (opB s))/\w=w':=by
 have HR:=hQ (show opB s=true from by unfold opB;simp only[<-Qbj,h0,h1,h2,h3,h4];rfl);go_enter func91,ntmps91;go_wp2;go_ret;exact⟨by rw[HR.out];rfl,rfl⟩
theorem Zj4(s:yD)(w:World)(h0:(s.toList == [43])=false)(h1:(s.toList == [45])=false)(h2:(s.toList == [42])=false)(h3:(s.toList == [60])=false)(h4:(s.toList == [61,61])=false):Calls prog 91 #[.string s] w fun e w'=>e = .returned (.bool (opB s))/\w=w':=by
 have HR:=hQ (show opB s=false from by unfold opB;simp only[<-Qbj,h0,h1,h2,h3,h4];rfl);go_enter func91,ntmps91;go_wp2;go_ret;exact⟨by rw[HR.out];rfl,rfl⟩
theorem Zbw(s:yD)(w:World):Calls prog 91 #[.string s] w fun e w'=>e = .returned (.bool (opB s))/\w=w':=by
 cases h0:(s.toList == [43])
 case true=>exact Zjz s w h0
 cases h1:(s.toList == [45])
 case true=>exact Zj0 s w h0 h1
 cases h2:(s.toList == [42])
 case true=>exact Zj1 s w h0 h1 h2
 cases h3:(s.toList == [60])
 case true=>exact Zj2 s w h0 h1 h2 h3
 cases h4:(s.toList == [61,61])
 case true=>exact Zj3 s w h0 h1 h2 h3 h4
 exact Zj4 s w h0 h1 h2 h3 h4
theorem Quf(s:yD)(w:World)(hs:s.size<maxLen):Calls prog 58 #[.int .i64 1,.string s] w fun e w'=>e = .returned (.bool (Qba (Qae 1) s))/\Below w.heap.size w w':=by
 have HS:=hQ hs;have HR:=hQ (show Qba (Qae 1) s=Qbv 1 (Qap (suf s 0):Nat) s from rfl);clear hs;go_enter func58,ntmps58;go_wp2_with (first | (go_at_call 90;refine(Qa4 s _ HS.out).mono ?_;rintro e w1⟨rfl,hb1⟩;have HB1:=hQ hb1;clear hb1))
 all_goals
  go_ret;exact⟨Qaj (by first | exact HR.out.symm | (rw[HR.out];simp_all [Qbv];done) | (rw[HR.out];simp[Qbv];omega)),HB1.out⟩
theorem Qug(s:yD)(w:World)(hs:s.size<maxLen):Calls prog 58 #[.int .i64 2,.string s] w fun e w'=>e = .returned (.bool (Qba (Qae 2) s))/\Below w.heap.size w w':=by
 have HS:=hQ hs;have HR:=hQ (show Qba (Qae 2) s=Qbv 2 (Qap (suf s 0):Nat) s from rfl);clear hs;go_enter func58,ntmps58;go_wp2_with (first | (go_at_call 90;refine(Qa4 s _ HS.out).mono ?_;rintro e w1⟨rfl,hb1⟩;have HB1:=hQ hb1;clear hb1))
 all_goals
  go_ret;exact⟨Qaj (by first | exact HR.out.symm | (rw[HR.out];simp_all [Qbv];done) | (rw[HR.out];simp[Qbv];omega)),HB1.out⟩
theorem Quh(s:yD)(w:World)(hs:s.size<maxLen):Calls prog 58 #[.int .i64 3,.string s] w fun e w'=>e = .returned (.bool (Qba (Qae 3) s))/\Below w.heap.size w w':=by
 have HS:=hQ hs;have HR:=hQ (show Qba (Qae 3) s=Qbv 1 (Qap (suf s 0):Nat) s from rfl);clear hs;go_enter func58,ntmps58;go_wp2_with (first | (go_at_call 90;refine(Qa4 s _ HS.out).mono ?_;rintro e w1⟨rfl,hb1⟩;have HB1:=hQ hb1;clear hb1))
 all_goals
  go_ret;exact⟨Qaj (by first | exact HR.out.symm | (rw[HR.out];simp_all [Qbv];done) | (rw[HR.out];simp[Qbv];omega)),HB1.out⟩
theorem Qui(s:yD)(w:World)(hs:s.size<maxLen):Calls prog 58 #[.int .i64 4,.string s] w fun e w'=>e = .returned (.bool (Qba (Qae 4) s))/\Below w.heap.size w w':=by
 have HS:=hQ hs;have HR:=hQ (show Qba (Qae 4) s=Qbv 2 (Qap (suf s 0):Nat) s from rfl);clear hs;go_enter func58,ntmps58;go_wp2_with (first | (go_at_call 90;refine(Qa4 s _ HS.out).mono ?_;rintro e w1⟨rfl,hb1⟩;have HB1:=hQ hb1;clear hb1))
 all_goals
  go_ret;exact⟨Qaj (by first | exact HR.out.symm | (rw[HR.out];simp_all [Qbv];done) | (rw[HR.out];simp[Qbv];omega)),HB1.out⟩
theorem Quj(s:yD)(w:World)(hs:s.size<maxLen):Calls prog 58 #[.int .i64 9,.string s] w fun e w'=>e = .returned (.bool (Qba (Qae 9) s))/\Below w.heap.size w w':=by
 have HS:=hQ hs;have HR:=hQ (show Qba (Qae 9) s=Qbv 3 (Qap (suf s 0):Nat) s from rfl);clear hs;go_enter func58,ntmps58;go_wp2_with (first | (go_at_call 90;refine(Qa4 s _ HS.out).mono ?_;rintro e w1⟨rfl,hb1⟩;have HB1:=hQ hb1;clear hb1))
 all_goals
  go_ret;exact⟨Qaj (by first | exact HR.out.symm | (rw[HR.out];simp_all [Qbv];done) | (rw[HR.out];simp[Qbv];omega)),HB1.out⟩
theorem Qr3(s:yD)(w:World)(hs:s.size<maxLen):Calls prog 58 #[.int .i64 10,.string s] w fun e w'=>e = .returned (.bool (Qba (Qae 10) s))/\Below w.heap.size w w':=by
 have HS:=hQ hs;have HR:=hQ (show Qba (Qae 10) s=Qbv 5 (Qap (suf s 0):Nat) s from rfl);clear hs;go_enter func58,ntmps58;go_wp2_with (first | (go_at_call 90;refine(Qa4 s _ HS.out).mono ?_;rintro e w1⟨rfl,hb1⟩;have HB1:=hQ hb1;clear hb1))
 all_goals
  go_ret;exact⟨Qaj (by first | exact HR.out.symm | (rw[HR.out];simp_all [Qbv];done) | (rw[HR.out];simp[Qbv];omega)),HB1.out⟩
theorem Qr4(s:yD)(w:World)(hs:s.size<maxLen):Calls prog 58 #[.int .i64 11,.string s] w fun e w'=>e = .returned (.bool (Qba (Qae 11) s))/\Below w.heap.size w w':=by
 have HS:=hQ hs;have HR:=hQ (show Qba (Qae 11) s=Qbv 6 (Qap (suf s 0):Nat) s from rfl);clear hs;go_enter func58,ntmps58;go_wp2_with (first | (go_at_call 90;refine(Qa4 s _ HS.out).mono ?_;rintro e w1⟨rfl,hb1⟩;have HB1:=hQ hb1;clear hb1))
 all_goals
  go_ret;exact⟨Qaj (by first | exact HR.out.symm | (rw[HR.out];simp_all [Qbv];done) | (rw[HR.out];simp[Qbv];omega)),HB1.out⟩
theorem Qr5(s:yD)(w:World)(hs:s.size<maxLen):Calls prog 58 #[.int .i64 12,.string s] w fun e w'=>e = .returned (.bool (Qba (Qae 12) s))/\Below w.heap.size w w':=by
 have HS:=hQ hs;have HR:=hQ (show Qba (Qae 12) s=Qbv 2 (Qap (suf s 0):Nat) s from rfl);clear hs;go_enter func58,ntmps58;go_wp2_with (first | (go_at_call 90;refine(Qa4 s _ HS.out).mono ?_;rintro e w1⟨rfl,hb1⟩;have HB1:=hQ hb1;clear hb1))
 all_goals
  go_ret;exact⟨Qaj (by first | exact HR.out.symm | (rw[HR.out];simp_all [Qbv];done) | (rw[HR.out];simp[Qbv];omega)),HB1.out⟩
theorem Qr6(s:yD)(w:World)(hs:s.size<maxLen):Calls prog 58 #[.int .i64 16,.string s] w fun e w'=>e = .returned (.bool (Qba (Qae 16) s))/\Below w.heap.size w w':=by
 have HS:=hQ hs;have HR:=hQ (show Qba (Qae 16) s=Qbv 4 (Qap (suf s 0):Nat) s from rfl);clear hs;go_enter func58,ntmps58;go_wp2_with (first | (go_at_call 90;refine(Qa4 s _ HS.out).mono ?_;rintro e w1⟨rfl,hb1⟩;have HB1:=hQ hb1;clear hb1))
 all_goals
  go_ret;exact⟨Qaj (by first | exact HR.out.symm | (rw[HR.out];simp_all [Qbv];done) | (rw[HR.out];simp[Qbv];omega)),HB1.out⟩
theorem Qr7(s:yD)(w:World)(hs:s.size<maxLen):Calls prog 58 #[.int .i64 20,.string s] w fun e w'=>e = .returned (.bool (Qba (Qae 20) s))/\Below w.heap.size w w':=by
 have HS:=hQ hs;have HR:=hQ (show Qba (Qae 20) s=Qbv 2 (Qap (suf s 0):Nat) s from rfl);clear hs;go_enter func58,ntmps58;go_wp2_with (first | (go_at_call 90;refine(Qa4 s _ HS.out).mono ?_;rintro e w1⟨rfl,hb1⟩;have HB1:=hQ hb1;clear hb1))
 all_goals
  go_ret;exact⟨Qaj (by first | exact HR.out.symm | (rw[HR.out];simp_all [Qbv];done) | (rw[HR.out];simp[Qbv];omega)),HB1.out⟩
theorem Qr8(s:yD)(w:World)(hs:s.size<maxLen):Calls prog 58 #[.int .i64 21,.string s] w fun e w'=>e = .returned (.bool (Qba (Qae 21) s))/\Below w.heap.size w w':=by
 have HS:=hQ hs;have HR:=hQ (show Qba (Qae 21) s=Qbv 7 (Qap (suf s 0):Nat) s from rfl);clear hs;go_enter func58,ntmps58;go_wp2_with (first | (go_at_call 90;refine(Qa4 s _ HS.out).mono ?_;rintro e w1⟨rfl,hb1⟩;have HB1:=hQ hb1;clear hb1) | (go_at_call 91;refine(Zbw s _).mono ?_;rintro e w2⟨rfl,rfl⟩))
 all_goals
  go_ret;exact⟨Qaj (by first | exact HR.out.symm | (rw[HR.out];simp_all [Qbv];done) | (rw[HR.out];simp[Qbv];omega)),HB1.out⟩
theorem Zlt(s:yD):is s [] = s.toList.isEmpty:=by
 rw[<-Qbj];cases s.toList <;> rfl
theorem Quk(k:Int)(s:yD)(h:k≠1/\k≠2/\k≠3/\k≠4/\k≠9/\k≠10/\k≠11/\k≠12/\k≠16/\k≠20/\k≠21):Qba (Qae k) s=is s []:=by
 by_cases h0:k<=0\/23<=k
 ·rw[Qd0 h0];rfl
 ·rcases(show k=5\/k=6\/k=7\/k=8\/k=13\/k=14\/k=15\/k=17\/k=18\/k=19\/k=22 from by omega) with rfl | rfl | rfl | rfl | rfl | rfl | rfl | rfl | rfl | rfl | rfl <;> rfl
theorem Qnm(k:Int)(s:yD)(w:World)(hs:s.size<maxLen)(h:k≠1/\k≠2/\k≠3/\k≠4/\k≠9/\k≠10/\k≠11/\k≠12/\k≠16/\k≠20/\k≠21):Calls prog 58 #[.int .i64 k,.string s] w fun e w'=>e = .returned (.bool (Qba (Qae k) s))/\Below w.heap.size w w':=by
 have HS:=hQ hs;have HR:=hQ ((Quk k s h).trans (Zlt s));have e1:=Qcr (show k≠1 from by omega);have e2:=Qcr (show k≠2 from by omega);have e3:=Qcr (show k≠3 from by omega);have e4:=Qcr (show k≠4 from by omega);have e9:=Qcr (show k≠9 from by omega);have e10:=Qcr (show k≠10 from by omega);have e11:=Qcr (show k≠11 from by omega);have e12:=Qcr (show k≠12 from by omega);have e16:=Qcr (show k≠16 from by omega);have e20:=Qcr (show k≠20 from by omega);have e21:=Qcr (show k≠21 from by omega);clear hs h;go_enter func58,ntmps58;go_wp2_with (go_at_call 90;refine(Qa4 s _ HS.out).mono ?_;rintro e w1⟨rfl,hb1⟩;have HB1:=hQ hb1;clear hb1)
 go_ret;exact⟨Qaj (by first | exact HR.out.symm | (rw[HR.out];simp;done)),HB1.out⟩
theorem Qkv(k:Int)(s:yD)(w:World)(hs:s.size<maxLen):Calls prog 58 #[.int .i64 k,.string s] w fun e w'=>e = .returned (.bool (Qba (Qae k) s))/\Below w.heap.size w w':=by
 by_cases h:k≠1/\k≠2/\k≠3/\k≠4/\k≠9/\k≠10/\k≠11/\k≠12/\k≠16/\k≠20/\k≠21
 ·exact Qnm k s w hs h
 ·rcases(show k=1\/k=2\/k=3\/k=4\/k=9\/k=10\/k=11\/k=12\/k=16\/k=20\/k=21 from by omega) with rfl | rfl | rfl | rfl | rfl | rfl | rfl | rfl | rfl | rfl | rfl
  ·exact Quf s w hs
  ·exact Qug s w hs
  ·exact Quh s w hs
  ·exact Qui s w hs
  ·exact Quj s w hs
  ·exact Qr3 s w hs
  ·exact Qr4 s w hs
  ·exact Qr5 s w hs
  ·exact Qr6 s w hs
  ·exact Qr7 s w hs
  ·exact Qr8 s w hs
def Qg0(tk:Int)(n i:Nat)(k:Int):Bool :=
 if tk=1 then k==2 || k==3
 else if tk=2 then (if i+1=n then Qlp k else if i+2=n then Qfd 3 k else k==4)
 else if tk=3\/tk=4\/tk=8 then Qfd 3 k
 else if tk=16 then k==17
 else if tk=21 then (Qj0 k || (decide (i=0) && k==21))
 else Qlp k
theorem Zlu(vx:yD)(vla:yE)(vll vlc:Nat)(vka:yE)(vkl vkc i:Nat)(k:Int)(w:World)(_hi:i<1000)(_hn:vkl<=1000):Calls prog 59 #[.agg #[.int .i64 1,.string vx,.slice vla vll vlc,.slice vka vkl vkc],.int .i64 i,.int .i64 k] w fun e w'=>e = .returned (.bool (Qg0 1 vkl i k))/\Below w.heap.size w w':=by
 have HX:=hQ (xH w (.cells #[.int .i64 1,.string vx,.slice vla vll vlc,.slice vka vkl vkc] 25));have HB0:=hQ ((xC w.heap.size w).alloc (xA _) (.cells #[.int .i64 1,.string vx,.slice vla vll vlc,.slice vka vkl vkc] 25));have k0:(w.alloc (.cells #[.int .i64 1,.string vx,.slice vla vll vlc,.slice vka vkl vkc] 25)).cell? ⟨w.heap.size,0,none⟩=some (.int .i64 1):=Qab HX.out 0 _ rfl;have k3:(w.alloc (.cells #[.int .i64 1,.string vx,.slice vla vll vlc,.slice vka vkl vkc] 25)).cell? ⟨w.heap.size,3,none⟩=some (.slice vka vkl vkc):=Qab HX.out 3 _ rfl;have HR:=hQ (show Qg0 1 vkl i k=(k==2 || k==3) from rfl);go_enter func59,ntmps59;go_wp2_with (first | (go_at_call 92;refine(Qco _ _).mono ?_;rintro e w1⟨rfl,rfl⟩) | (go_at_call 30;refine(Qcd _ _).mono ?_;rintro e w1⟨rfl,rfl⟩) | (go_at_call 93;refine(Qc0 _ _).mono ?_;rintro e w1⟨rfl,rfl⟩))
 all_goals
  go_ret;exact⟨Qaj (by first | exact HR.out.symm | (rw[HR.out];done) | (rw[HR.out];simp_all;done)),HB0.out⟩
theorem Zj5(vx:yD)(vla:yE)(vll vlc:Nat)(vka:yE)(vkl vkc i:Nat)(k:Int)(w:World)(_hi:i<1000)(_hn:vkl<=1000)(h:i+1=vkl):Calls prog 59 #[.agg #[.int .i64 2,.string vx,.slice vla vll vlc,.slice vka vkl vkc],.int .i64 i,.int .i64 k] w fun e w'=>e = .returned (.bool (Qg0 2 vkl i k))/\Below w.heap.size w w':=by
 have HX:=hQ (xH w (.cells #[.int .i64 2,.string vx,.slice vla vll vlc,.slice vka vkl vkc] 25));have HB0:=hQ ((xC w.heap.size w).alloc (xA _) (.cells #[.int .i64 2,.string vx,.slice vla vll vlc,.slice vka vkl vkc] 25));have k0:(w.alloc (.cells #[.int .i64 2,.string vx,.slice vla vll vlc,.slice vka vkl vkc] 25)).cell? ⟨w.heap.size,0,none⟩=some (.int .i64 2):=Qab HX.out 0 _ rfl;have k3:(w.alloc (.cells #[.int .i64 2,.string vx,.slice vla vll vlc,.slice vka vkl vkc] 25)).cell? ⟨w.heap.size,3,none⟩=some (.slice vka vkl vkc):=Qab HX.out 3 _ rfl;have HR:=hQ (show Qg0 2 vkl i k=Qlp k from by unfold Qg0;rw[xN (by decide),xO rfl,xO h]);have d1:((i:Int)==(vkl:Int)-1)=true:=beq_iff_eq.2 (by omega);clear h;go_enter func59,ntmps59;go_wp2_with (first | (go_at_call 92;refine(Qco _ _).mono ?_;rintro e w1⟨rfl,rfl⟩) | (go_at_call 30;refine(Qcd _ _).mono ?_;rintro e w1⟨rfl,rfl⟩) | (go_at_call 93;refine(Qc0 _ _).mono ?_;rintro e w1⟨rfl,rfl⟩))
 all_goals
  go_ret;exact⟨Qaj (by first | exact HR.out.symm | (rw[HR.out];done) | (rw[HR.out];simp_all;done)),HB0.out⟩
theorem Zj6(vx:yD)(vla:yE)(vll vlc:Nat)(vka:yE)(vkl vkc i:Nat)(k:Int)(w:World)(_hi:i<1000)(_hn:vkl<=1000)(h1:i+1≠vkl)(h:i+2=vkl):Calls prog 59 #[.agg #[.int .i64 2,.string vx,.slice vla vll vlc,.slice vka vkl vkc],.int .i64 i,.int .i64 k] w fun e w'=>e = .returned (.bool (Qg0 2 vkl i k))/\Below w.heap.size w w':=by
 have HX:=hQ (xH w (.cells #[.int .i64 2,.string vx,.slice vla vll vlc,.slice vka vkl vkc] 25));have HB0:=hQ ((xC w.heap.size w).alloc (xA _) (.cells #[.int .i64 2,.string vx,.slice vla vll vlc,.slice vka vkl vkc] 25));have k0:(w.alloc (.cells #[.int .i64 2,.string vx,.slice vla vll vlc,.slice vka vkl vkc] 25)).cell? ⟨w.heap.size,0,none⟩=some (.int .i64 2):=Qab HX.out 0 _ rfl;have k3:(w.alloc (.cells #[.int .i64 2,.string vx,.slice vla vll vlc,.slice vka vkl vkc] 25)).cell? ⟨w.heap.size,3,none⟩=some (.slice vka vkl vkc):=Qab HX.out 3 _ rfl;have HR:=hQ (show Qg0 2 vkl i k=Qfd 3 k from by unfold Qg0;rw[xN (by decide),xO rfl,xN h1,xO h]);have d1:((i:Int)==(vkl:Int)-1)=false:=beq_eq_false_iff_ne.2 (by omega);have d2:((i:Int)==(vkl:Int)-2)=true:=beq_iff_eq.2 (by omega);clear h h1;go_enter func59,ntmps59;go_wp2_with (first | (go_at_call 92;refine(Qco _ _).mono ?_;rintro e w1⟨rfl,rfl⟩) | (go_at_call 30;refine(Qcd _ _).mono ?_;rintro e w1⟨rfl,rfl⟩) | (go_at_call 93;refine(Qc0 _ _).mono ?_;rintro e w1⟨rfl,rfl⟩))
 all_goals
  go_ret;exact⟨Qaj (by first | exact HR.out.symm | (rw[HR.out];done) | (rw[HR.out];simp_all;done)),HB0.out⟩
theorem Zj7(vx:yD)(vla:yE)(vll vlc:Nat)(vka:yE)(vkl vkc i:Nat)(k:Int)(w:World)(_hi:i<1000)(_hn:vkl<=1000)(h1:i+1≠vkl)(h:i+2≠vkl):Calls prog 59 #[.agg #[.int .i64 2,.string vx,.slice vla vll vlc,.slice vka vkl vkc],.int .i64 i,.int .i64 k] w fun e w'=>e = .returned (.bool (Qg0 2 vkl i k))/\Below w.heap.size w w':=by
 have HX:=hQ (xH w (.cells #[.int .i64 2,.string vx,.slice vla vll vlc,.slice vka vkl vkc] 25));have HB0:=hQ ((xC w.heap.size w).alloc (xA _) (.cells #[.int .i64 2,.string vx,.slice vla vll vlc,.slice vka vkl vkc] 25));have k0:(w.alloc (.cells #[.int .i64 2,.string vx,.slice vla vll vlc,.slice vka vkl vkc] 25)).cell? ⟨w.heap.size,0,none⟩=some (.int .i64 2):=Qab HX.out 0 _ rfl;have k3:(w.alloc (.cells #[.int .i64 2,.string vx,.slice vla vll vlc,.slice vka vkl vkc] 25)).cell? ⟨w.heap.size,3,none⟩=some (.slice vka vkl vkc):=Qab HX.out 3 _ rfl;have HR:=hQ (show Qg0 2 vkl i k=(k==4) from by unfold Qg0;rw[xN (by decide),xO rfl,xN h1,xN h]);have d1:((i:Int)==(vkl:Int)-1)=false:=beq_eq_false_iff_ne.2 (by omega);have d2:((i:Int)==(vkl:Int)-2)=false:=beq_eq_false_iff_ne.2 (by omega);clear h h1;go_enter func59,ntmps59;go_wp2_with (first | (go_at_call 92;refine(Qco _ _).mono ?_;rintro e w1⟨rfl,rfl⟩) | (go_at_call 30;refine(Qcd _ _).mono ?_;rintro e w1⟨rfl,rfl⟩) | (go_at_call 93;refine(Qc0 _ _).mono ?_;rintro e w1⟨rfl,rfl⟩))
 all_goals
  go_ret;exact⟨Qaj (by first | exact HR.out.symm | (rw[HR.out];done) | (rw[HR.out];simp_all;done)),HB0.out⟩
theorem Zlv(vx:yD)(vla:yE)(vll vlc:Nat)(vka:yE)(vkl vkc i:Nat)(k:Int)(w:World)(_hi:i<1000)(_hn:vkl<=1000):Calls prog 59 #[.agg #[.int .i64 3,.string vx,.slice vla vll vlc,.slice vka vkl vkc],.int .i64 i,.int .i64 k] w fun e w'=>e = .returned (.bool (Qg0 3 vkl i k))/\Below w.heap.size w w':=by
 have HX:=hQ (xH w (.cells #[.int .i64 3,.string vx,.slice vla vll vlc,.slice vka vkl vkc] 25));have HB0:=hQ ((xC w.heap.size w).alloc (xA _) (.cells #[.int .i64 3,.string vx,.slice vla vll vlc,.slice vka vkl vkc] 25));have k0:(w.alloc (.cells #[.int .i64 3,.string vx,.slice vla vll vlc,.slice vka vkl vkc] 25)).cell? ⟨w.heap.size,0,none⟩=some (.int .i64 3):=Qab HX.out 0 _ rfl;have k3:(w.alloc (.cells #[.int .i64 3,.string vx,.slice vla vll vlc,.slice vka vkl vkc] 25)).cell? ⟨w.heap.size,3,none⟩=some (.slice vka vkl vkc):=Qab HX.out 3 _ rfl;have HR:=hQ (show Qg0 3 vkl i k=Qfd 3 k from rfl);go_enter func59,ntmps59;go_wp2_with (first | (go_at_call 92;refine(Qco _ _).mono ?_;rintro e w1⟨rfl,rfl⟩) | (go_at_call 30;refine(Qcd _ _).mono ?_;rintro e w1⟨rfl,rfl⟩) | (go_at_call 93;refine(Qc0 _ _).mono ?_;rintro e w1⟨rfl,rfl⟩))
 all_goals
  go_ret;exact⟨Qaj (by first | exact HR.out.symm | (rw[HR.out];done) | (rw[HR.out];simp_all;done)),HB0.out⟩
theorem Zlw(vx:yD)(vla:yE)(vll vlc:Nat)(vka:yE)(vkl vkc i:Nat)(k:Int)(w:World)(_hi:i<1000)(_hn:vkl<=1000):Calls prog 59 #[.agg #[.int .i64 4,.string vx,.slice vla vll vlc,.slice vka vkl vkc],.int .i64 i,.int .i64 k] w fun e w'=>e = .returned (.bool (Qg0 4 vkl i k))/\Below w.heap.size w w':=by
 have HX:=hQ (xH w (.cells #[.int .i64 4,.string vx,.slice vla vll vlc,.slice vka vkl vkc] 25));have HB0:=hQ ((xC w.heap.size w).alloc (xA _) (.cells #[.int .i64 4,.string vx,.slice vla vll vlc,.slice vka vkl vkc] 25));have k0:(w.alloc (.cells #[.int .i64 4,.string vx,.slice vla vll vlc,.slice vka vkl vkc] 25)).cell? ⟨w.heap.size,0,none⟩=some (.int .i64 4):=Qab HX.out 0 _ rfl;have k3:(w.alloc (.cells #[.int .i64 4,.string vx,.slice vla vll vlc,.slice vka vkl vkc] 25)).cell? ⟨w.heap.size,3,none⟩=some (.slice vka vkl vkc):=Qab HX.out 3 _ rfl;have HR:=hQ (show Qg0 4 vkl i k=Qfd 3 k from rfl);go_enter func59,ntmps59;go_wp2_with (first | (go_at_call 92;refine(Qco _ _).mono ?_;rintro e w1⟨rfl,rfl⟩) | (go_at_call 30;refine(Qcd _ _).mono ?_;rintro e w1⟨rfl,rfl⟩) | (go_at_call 93;refine(Qc0 _ _).mono ?_;rintro e w1⟨rfl,rfl⟩))
 all_goals
  go_ret;exact⟨Qaj (by first | exact HR.out.symm | (rw[HR.out];done) | (rw[HR.out];simp_all;done)),HB0.out⟩
theorem Zlx(vx:yD)(vla:yE)(vll vlc:Nat)(vka:yE)(vkl vkc i:Nat)(k:Int)(w:World)(_hi:i<1000)(_hn:vkl<=1000):Calls prog 59 #[.agg #[.int .i64 8,.string vx,.slice vla vll vlc,.slice vka vkl vkc],.int .i64 i,.int .i64 k] w fun e w'=>e = .returned (.bool (Qg0 8 vkl i k))/\Below w.heap.size w w':=by
 have HX:=hQ (xH w (.cells #[.int .i64 8,.string vx,.slice vla vll vlc,.slice vka vkl vkc] 25));have HB0:=hQ ((xC w.heap.size w).alloc (xA _) (.cells #[.int .i64 8,.string vx,.slice vla vll vlc,.slice vka vkl vkc] 25));have k0:(w.alloc (.cells #[.int .i64 8,.string vx,.slice vla vll vlc,.slice vka vkl vkc] 25)).cell? ⟨w.heap.size,0,none⟩=some (.int .i64 8):=Qab HX.out 0 _ rfl;have k3:(w.alloc (.cells #[.int .i64 8,.string vx,.slice vla vll vlc,.slice vka vkl vkc] 25)).cell? ⟨w.heap.size,3,none⟩=some (.slice vka vkl vkc):=Qab HX.out 3 _ rfl;have HR:=hQ (show Qg0 8 vkl i k=Qfd 3 k from rfl);go_enter func59,ntmps59;go_wp2_with (first | (go_at_call 92;refine(Qco _ _).mono ?_;rintro e w1⟨rfl,rfl⟩) | (go_at_call 30;refine(Qcd _ _).mono ?_;rintro e w1⟨rfl,rfl⟩) | (go_at_call 93;refine(Qc0 _ _).mono ?_;rintro e w1⟨rfl,rfl⟩))
 all_goals
  go_ret;exact⟨Qaj (by first | exact HR.out.symm | (rw[HR.out];done) | (rw[HR.out];simp_all;done)),HB0.out⟩
theorem Zj8(vx:yD)(vla:yE)(vll vlc:Nat)(vka:yE)(vkl vkc i:Nat)(k:Int)(w:World)(_hi:i<1000)(_hn:vkl<=1000):Calls prog 59 #[.agg #[.int .i64 16,.string vx,.slice vla vll vlc,.slice vka vkl vkc],.int .i64 i,.int .i64 k] w fun e w'=>e = .returned (.bool (Qg0 16 vkl i k))/\Below w.heap.size w w':=by
 have HX:=hQ (xH w (.cells #[.int .i64 16,.string vx,.slice vla vll vlc,.slice vka vkl vkc] 25));have HB0:=hQ ((xC w.heap.size w).alloc (xA _) (.cells #[.int .i64 16,.string vx,.slice vla vll vlc,.slice vka vkl vkc] 25));have k0:(w.alloc (.cells #[.int .i64 16,.string vx,.slice vla vll vlc,.slice vka vkl vkc] 25)).cell? ⟨w.heap.size,0,none⟩=some (.int .i64 16):=Qab HX.out 0 _ rfl;have k3:(w.alloc (.cells #[.int .i64 16,.string vx,.slice vla vll vlc,.slice vka vkl vkc] 25)).cell? ⟨w.heap.size,3,none⟩=some (.slice vka vkl vkc):=Qab HX.out 3 _ rfl;have HR:=hQ (show Qg0 16 vkl i k=(k==17) from rfl);go_enter func59,ntmps59;go_wp2_with (first | (go_at_call 92;refine(Qco _ _).mono ?_;rintro e w1⟨rfl,rfl⟩) | (go_at_call 30;refine(Qcd _ _).mono ?_;rintro e w1⟨rfl,rfl⟩) | (go_at_call 93;refine(Qc0 _ _).mono ?_;rintro e w1⟨rfl,rfl⟩))
 all_goals
  go_ret;exact⟨Qaj (by first | exact HR.out.symm | (rw[HR.out];done) | (rw[HR.out];simp_all;done)),HB0.out⟩
theorem Zgq(vx:yD)(vla:yE)(vll vlc:Nat)(vka:yE)(vkl vkc i:Nat)(k:Int)(w:World)(_hi:i<1000)(_hn:vkl<=1000)(hu:Qj0 k=true):Calls prog 59 #[.agg #[.int .i64 21,.string vx,.slice vla vll vlc,.slice vka vkl vkc],.int .i64 i,.int .i64 k] w fun e w'=>e = .returned (.bool (Qg0 21 vkl i k))/\Below w.heap.size w w':=by
 have HX:=hQ (xH w (.cells #[.int .i64 21,.string vx,.slice vla vll vlc,.slice vka vkl vkc] 25));have HB0:=hQ ((xC w.heap.size w).alloc (xA _) (.cells #[.int .i64 21,.string vx,.slice vla vll vlc,.slice vka vkl vkc] 25));have k0:(w.alloc (.cells #[.int .i64 21,.string vx,.slice vla vll vlc,.slice vka vkl vkc] 25)).cell? ⟨w.heap.size,0,none⟩=some (.int .i64 21):=Qab HX.out 0 _ rfl;have k3:(w.alloc (.cells #[.int .i64 21,.string vx,.slice vla vll vlc,.slice vka vkl vkc] 25)).cell? ⟨w.heap.size,3,none⟩=some (.slice vka vkl vkc):=Qab HX.out 3 _ rfl;have HR:=hQ (show Qg0 21 vkl i k=true from by show(Qj0 k || (decide (i=0) && k==21))=true;rw[hu];rfl);go_enter func59,ntmps59;go_wp2_with (first | (go_at_call 92;refine(Qco _ _).mono ?_;rintro e w1⟨rfl,rfl⟩) | (go_at_call 30;refine(Qcd _ _).mono ?_;rintro e w1⟨rfl,rfl⟩) | (go_at_call 93;refine(Qc0 _ _).mono ?_;rw[hu];rintro e w1⟨rfl,rfl⟩))
 all_goals
  go_ret;exact⟨Qaj (by first | exact HR.out.symm | (rw[HR.out];done) | (rw[HR.out];simp_all;done)),HB0.out⟩
theorem Zgr(vx:yD)(vla:yE)(vll vlc:Nat)(vka:yE)(vkl vkc i:Nat)(k:Int)(w:World)(_hi:i<1000)(_hn:vkl<=1000)(hu:Qj0 k=false):Calls prog 59 #[.agg #[.int .i64 21,.string vx,.slice vla vll vlc,.slice vka vkl vkc],.int .i64 i,.int .i64 k] w fun e w'=>e = .returned (.bool (Qg0 21 vkl i k))/\Below w.heap.size w w':=by
 have HX:=hQ (xH w (.cells #[.int .i64 21,.string vx,.slice vla vll vlc,.slice vka vkl vkc] 25));have HB0:=hQ ((xC w.heap.size w).alloc (xA _) (.cells #[.int .i64 21,.string vx,.slice vla vll vlc,.slice vka vkl vkc] 25));have k0:(w.alloc (.cells #[.int .i64 21,.string vx,.slice vla vll vlc,.slice vka vkl vkc] 25)).cell? ⟨w.heap.size,0,none⟩=some (.int .i64 21):=Qab HX.out 0 _ rfl;have k3:(w.alloc (.cells #[.int .i64 21,.string vx,.slice vla vll vlc,.slice vka vkl vkc] 25)).cell? ⟨w.heap.size,3,none⟩=some (.slice vka vkl vkc):=Qab HX.out 3 _ rfl;have HR:=hQ (show Qg0 21 vkl i k=(decide (i=0) && k==21) from by show(Qj0 k || (decide (i=0) && k==21))=_;rw[hu];rfl)
 by_cases h0:i=0
 ·subst h0;go_enter func59,ntmps59;go_wp2_with (first | (go_at_call 92;refine(Qco _ _).mono ?_;rintro e w1⟨rfl,rfl⟩) | (go_at_call 30;refine(Qcd _ _).mono ?_;rintro e w1⟨rfl,rfl⟩) | (go_at_call 93;refine(Qc0 _ _).mono ?_;rw[hu];rintro e w1⟨rfl,rfl⟩))
  all_goals
   go_ret;exact⟨Qaj (by first | exact HR.out.symm | (rw[HR.out];simp_all;done)),HB0.out⟩
 ·have d1:((i:Int)==0)=false:=beq_eq_false_iff_ne.2 (by omega);have d2:(i==0)=false:=beq_eq_false_iff_ne.2 h0;have HR2:=hQ (show Qg0 21 vkl i k=false from by rw[HR.out,xR h0];rfl);clear h0;go_enter func59,ntmps59;go_wp2_with (first | (go_at_call 92;refine(Qco _ _).mono ?_;rintro e w1⟨rfl,rfl⟩) | (go_at_call 30;refine(Qcd _ _).mono ?_;rintro e w1⟨rfl,rfl⟩) | (go_at_call 93;refine(Qc0 _ _).mono ?_;rw[hu];rintro e w1⟨rfl,rfl⟩))
  all_goals
   go_ret;exact⟨Qaj (by first | exact HR2.out.symm | (rw[HR2.out];simp_all;done)),HB0.out⟩
theorem Qx8(tk:Int)(vx:yD)(vla:yE)(vll vlc:Nat)(vka:yE)(vkl vkc i:Nat)(k:Int)(w:World)(_hi:i<1000)(_hn:vkl<=1000)(h:tk≠1/\tk≠2/\tk≠3/\tk≠4/\tk≠8/\tk≠16/\tk≠21):Calls prog 59 #[.agg #[.int .i64 tk,.string vx,.slice vla vll vlc,.slice vka vkl vkc],.int .i64 i,.int .i64 k] w fun e w'=>e = .returned (.bool (Qg0 tk vkl i k))/\Below w.heap.size w w':=by
 have HX:=hQ (xH w (.cells #[.int .i64 tk,.string vx,.slice vla vll vlc,.slice vka vkl vkc] 25));have HB0:=hQ ((xC w.heap.size w).alloc (xA _) (.cells #[.int .i64 tk,.string vx,.slice vla vll vlc,.slice vka vkl vkc] 25));have k0:(w.alloc (.cells #[.int .i64 tk,.string vx,.slice vla vll vlc,.slice vka vkl vkc] 25)).cell? ⟨w.heap.size,0,none⟩=some (.int .i64 tk):=Qab HX.out 0 _ rfl;have k3:(w.alloc (.cells #[.int .i64 tk,.string vx,.slice vla vll vlc,.slice vka vkl vkc] 25)).cell? ⟨w.heap.size,3,none⟩=some (.slice vka vkl vkc):=Qab HX.out 3 _ rfl;have HR:=hQ (show Qg0 tk vkl i k=Qlp k from by unfold Qg0;rw[xN (by omega),xN (by omega),xN (by omega),xN (by omega),xN (by omega)]);have e1:=Qcr (show tk≠1 from by omega);have e2:=Qcr (show tk≠2 from by omega);have e3:=Qcr (show tk≠3 from by omega);have e4:=Qcr (show tk≠4 from by omega);have e8:=Qcr (show tk≠8 from by omega);have e16:=Qcr (show tk≠16 from by omega);have e21:=Qcr (show tk≠21 from by omega);clear h;go_enter func59,ntmps59;go_wp2_with (first | (go_at_call 92;refine(Qco _ _).mono ?_;rintro e w1⟨rfl,rfl⟩) | (go_at_call 30;refine(Qcd _ _).mono ?_;rintro e w1⟨rfl,rfl⟩) | (go_at_call 93;refine(Qc0 _ _).mono ?_;rintro e w1⟨rfl,rfl⟩))
 all_goals
  go_ret;exact⟨Qaj (by first | exact HR.out.symm | (rw[HR.out];done) | (rw[HR.out];simp_all;done)),HB0.out⟩
theorem Qqm(tk:Int)(vx:yD)(vla:yE)(vll vlc:Nat)(vka:yE)(vkl vkc i:Nat)(k:Int)(w:World)(hi:i<1000)(hn:vkl<=1000):Calls prog 59 #[.agg #[.int .i64 tk,.string vx,.slice vla vll vlc,.slice vka vkl vkc],.int .i64 i,.int .i64 k] w fun e w'=>e = .returned (.bool (Qg0 tk vkl i k))/\Below w.heap.size w w':=by
 by_cases h:tk≠1/\tk≠2/\tk≠3/\tk≠4/\tk≠8/\tk≠16/\tk≠21
 ·exact Qx8 tk vx vla vll vlc vka vkl vkc i k w hi hn h
 ·rcases(show tk=1\/tk=2\/tk=3\/tk=4\/tk=8\/tk=16\/tk=21 from by omega) with rfl | rfl | rfl | rfl | rfl | rfl | rfl
  ·exact Zlu vx vla vll vlc vka vkl vkc i k w hi hn
  ·by_cases h1:i+1=vkl
   ·exact Zj5 vx vla vll vlc vka vkl vkc i k w hi hn h1
   ·by_cases h2:i+2=vkl
    ·exact Zj6 vx vla vll vlc vka vkl vkc i k w hi hn h1 h2
    ·exact Zj7 vx vla vll vlc vka vkl vkc i k w hi hn h1 h2
  ·exact Zlv vx vla vll vlc vka vkl vkc i k w hi hn
  ·exact Zlw vx vla vll vlc vka vkl vkc i k w hi hn
  ·exact Zlx vx vla vll vlc vka vkl vkc i k w hi hn
  ·exact Zj8 vx vla vll vlc vka vkl vkc i k w hi hn
  ·cases hu:Qj0 k
   ·exact Zgr vx vla vll vlc vka vkl vkc i k w hi hn hu
   ·exact Zgq vx vla vll vlc vka vkl vkc i k w hi hn hu
mutual
def Qa2:Tr->Bool
 | .mk k x _ ks=>!decide (Qat k ks.length<0) && Qba (Qae k) x && Qbo k ks.length 0 ks
def Qbo:Int->Nat->Nat->List Tr->Bool
 | _,_,_,[]=>true
 | k,n,i,a :: r=>Qg0 k n i a.kind && Qa2 a && Qbo k n (i+1) r
end
theorem Qd8(t:Tr):Qa2 t=(!decide (Qat t.kind t.kids.length<0) && Qba (Qae t.kind) t.text && Qbo t.kind t.kids.length 0 t.kids):=by
 cases t with
 | mk k x ls ks=>rw[Qa2];rfl
theorem Qul(k:Int)(n:Nat)(l:List Tr)(j:Nat)(a:Tr)(h:l[j]? = some a):Qbo k n j (l.drop j)=(Qg0 k n j a.kind && Qa2 a && Qbo k n (j+1) (l.drop (j+1))):=by
 obtain⟨hj,he⟩:=xP.1 h;rw[List.drop_eq_getElem_cons hj,he,Qbo]
theorem Qr9(k:Int)(n:Nat)(l:List Tr)(j:Nat)(h:l.length<=j):Qbo k n j (l.drop j)=true:=by
 rw[List.drop_eq_nil_of_le h,Qbo]
theorem Qo5(k:Int)(n:Nat)(hn:n<=1000):(Qca (Qae k) n).2 = !decide (Qat k n<0):=by
 rw[<-Qvv k n (by omega)];unfold Ql5
 have hc:∀ (l:List Part) (m:Int),0<=Qiu l m:=by
  intro l m
  induction l with
  | nil=>exact Int.le_refl 0
  | cons x r ih =>
   rw[Qiu]
   split
   ·rename_i h;simp only[Bool.and_eq_true,decide_eq_true_eq]at h;omega
   ·omega
 cases (Qca (Qae k) n).2
 ·rw[xN (by decide)];rfl
 ·rw[xO rfl];have:=hc (Qae k) (Qca (Qae k) n).1
  rw[xR (by omega)];rfl
theorem Qe3{k:Int}{n:Nat}{o:Int}(hl:Qae k≠[])(ho:(Qqg (Qae k):Int)=o):(Qca (Qae k) n).1=n-o:=by
 unfold Qca;rw[xN (fun h=>by rcases h with h | h;exact hl h;omega),Qlj,ho]
theorem Qfp{n:Nat}{must m:Int}(h:(!decide (Qbc n must m<0))=true):(n:Int)=must:=by
 unfold Qbc at h
 by_cases e:(n:Int)=must
 ·exact e
 ·rw[xN e]at h;exact absurd h (by decide)
theorem Zj9(n:Nat):Qer (Qae 1) (Qca (Qae 1) n).1=List.replicate n 1:=by
 rw[Qe3 (o:=0) (by decide) rfl];simp[Qae,Qer,Qb9,Qcy,Qfc,Qgq]
theorem Zka(n:Nat)(h:2<=n):Qer (Qae 2) (Qca (Qae 2) n).1=List.replicate (n-2) 2 ++ [3,5]:=by
 rw[Qe3 (o:=2) (by decide) rfl];have:((n:Int)-2).toNat=n-2:=by omega
 simp[Qae,Qer,Qb9,Qcy,Qfc,Qgq,Qli,this]
theorem Zgs(n:Nat):Qer (Qae 16) (Qca (Qae 16) n).1=List.replicate n 4:=by
 rw[Qe3 (o:=0) (by decide) rfl];simp[Qae,Qer,Qb9,Qcy,Qfc,Qgq]
theorem Zgt(n:Nat):Qer (Qae 18) (Qca (Qae 18) n).1=List.replicate n 5:=by
 rw[Qe3 (o:=0) (by decide) rfl];simp[Qae,Qer,Qb9,Qcy,Qgq]
theorem Qqn{n j:Nat}{s:Int}(h:j<n):(List.replicate n s)[j]? = some s:=by rw[List.getElem?_replicate];simp[h]
theorem Qix{k:Int}(h:¬ (k<=0\/23<=k)):k=1\/k=2\/k=3\/k=4\/k=5\/k=6\/k=7\/k=8\/k=9\/k=10\/k=11\/k=12\/k=13\/k=14\/k=15\/k=16\/k=17\/k=18\/k=19\/k=20\/k=21\/k=22:=by omega
theorem Zbx(k:Int)(n:Nat)(hn:n<=1000)(h:(Qca (Qae k) n).2=true)(j:Nat)(hj:j<n):∃ s,(Qer (Qae k) (Qca (Qae k) n).1)[j]? = some s/\∀ kd,Qg0 k n j kd=Qfd s kd:=by
 have hq:=h;rw[Qo5 k n hn]at hq
 by_cases h0:k<=0\/23<=k
 ·rw[Qd0 h0]at h;simp[Qca]at h
 ·rcases Qix h0 with rfl | rfl | rfl | rfl | rfl | rfl | rfl | rfl | rfl | rfl | rfl | rfl | rfl | rfl | rfl | rfl | rfl | rfl | rfl | rfl | rfl | rfl
  ·exact⟨1,by rw[Zj9];exact Qqn hj,fun kd=>rfl⟩
  ·have h2:2<=n:=by
    rcases Nat.lt_or_ge n 2 with h' | h'
    ·rw[show Qat 2 n = -1 from by show(if 2<=(n:Int) then 6+max 0 ((n:Int)-3) else -1)=_;rw[xN (by omega)]]at hq;exact absurd hq (by decide)
    ·exact h'
   rw[Zka n h2]
   by_cases j1:j+1=n
   ·refine⟨5,?_,fun kd=>?_⟩
    ·rw[xX (by simp;omega),List.length_replicate,show j-(n-2)=1 from by omega];rfl
    ·unfold Qg0;rw[xN (by decide),xO rfl,xO j1];exact Qht kd
   ·by_cases j2:j+2=n
    ·refine⟨3,?_,fun kd=>?_⟩
     ·rw[xX (by simp;omega),List.length_replicate,show j-(n-2)=0 from by omega];rfl
     ·unfold Qg0;rw[xN (by decide),xO rfl,xN j1,xO j2]
    ·refine⟨2,?_,fun kd=>?_⟩
     ·rw[yB (by simp;omega)];exact Qqn (by omega)
     ·unfold Qg0;rw[xN (by decide),xO rfl,xN j1,xN j2];rfl
  ·obtain rfl:n=1:=by have:=Qfp (n:=n) (must:=1) (m:=3) hq;omega
   obtain rfl:j=0:=by omega
   exact⟨3,rfl,fun kd=>rfl⟩
  ·obtain rfl:n=1:=by have:=Qfp (n:=n) (must:=1) (m:=2) hq;omega
   obtain rfl:j=0:=by omega
   exact⟨3,rfl,fun kd=>rfl⟩
  ·have:=Qfp (n:=n) (must:=0) (m:=1) hq;omega
  ·have:=Qfp (n:=n) (must:=0) (m:=1) hq;omega
  ·have:=Qfp (n:=n) (must:=0) (m:=1) hq;omega
  ·obtain rfl:n=1:=by have:=Qfp (n:=n) (must:=1) (m:=2) hq;omega
   obtain rfl:j=0:=by omega
   exact⟨3,rfl,fun kd=>rfl⟩
  ·have:=Qfp (n:=n) (must:=0) (m:=1) hq;omega
  ·have:=Qfp (n:=n) (must:=0) (m:=1) hq;omega
  ·have:=Qfp (n:=n) (must:=0) (m:=1) hq;omega
  ·have:=Qfp (n:=n) (must:=0) (m:=1) hq;omega
  ·have:=Qfp (n:=n) (must:=0) (m:=1) hq;omega
  ·have:=Qfp (n:=n) (must:=0) (m:=1) hq;omega
  ·have:=Qfp (n:=n) (must:=0) (m:=1) hq;omega
  ·exact⟨4,by rw[Zgs];exact Qqn hj,fun kd=>rfl⟩
  ·obtain rfl:n=1:=by have:=Qfp (n:=n) (must:=1) (m:=0) hq;omega
   obtain rfl:j=0:=by omega
   exact⟨5,rfl,fun kd=>Qht kd⟩
  ·exact⟨5,by rw[Zgt];exact Qqn hj,fun kd=>Qht kd⟩
  ·obtain rfl:n=3:=by have:=Qfp (n:=n) (must:=3) (m:=3) hq;omega
   rcases(show j=0\/j=1\/j=2 from by omega) with rfl | rfl | rfl <;> exact⟨5,rfl,fun kd=>Qht kd⟩
  ·obtain rfl:n=2:=by have:=Qfp (n:=n) (must:=2) (m:=4) hq;omega
   rcases(show j=0\/j=1 from by omega) with rfl | rfl <;> exact⟨5,rfl,fun kd=>Qht kd⟩
  ·obtain rfl:n=2:=by have:=Qfp (n:=n) (must:=2) (m:=1) hq;omega
   rcases(show j=0\/j=1 from by omega) with rfl | rfl
   ·exact⟨6,rfl,fun kd=>Qx7 kd⟩
   ·exact⟨7,rfl,fun kd=>by rw[<-Zbv];show(Qj0 kd || (decide (1=0) && kd==21))=Qj0 kd;simp⟩
  ·obtain rfl:n=1:=by have:=Qfp (n:=n) (must:=1) (m:=2) hq;omega
   obtain rfl:j=0:=by omega
   exact⟨5,rfl,fun kd=>Qht kd⟩
theorem Qnn(k:Int)(n:Nat):∀ (ks:List Tr) (i:Nat) (ss:List Int),(∀ a∈ks,Qa2 a=Qam a)->(∀ j,j<ks.length->∃ s,ss[j]? = some s/\∀ kd,Qg0 k n (i+j) kd=Qfd s kd)->Qbo k n i ks=Qej ks ss
 | [],i,ss,_,_=>by rw[Qbo,Qjy]
 | a :: r,i,ss,ha,hs=>by
  obtain⟨s,h0,hk⟩:=hs 0 (by simp);cases ss with
  | nil=>simp at h0
  | cons s' ss =>
   simp at h0
   subst h0;have hk0:Qg0 k n i a.kind=Qfd s' a.kind:=hk a.kind
   rw[Qbo,Ql7,<-hk0,ha a (by simp),Qnn k n r (i+1) ss (fun x hx=>ha x (by simp[hx])) (fun j hj=>by
    obtain⟨s,h1,h2⟩:=hs (j+1) (by simp;omega);exact⟨s,by simpa using h1,fun kd=>by rw[show i+1+j=i+(j+1) from by omega];exact h2 kd⟩)]
theorem Qvw{l:List Tr}{a:Tr}(h:a∈l):Qai a<=Qal l:=by
 induction l with
 | nil=>simp at h
 | cons x r ih =>
  rw[Qal]
  rcases List.mem_cons.1 h with rfl | h
  ·omega
  ·have:=ih h;omega
theorem Qx9{l:List Tr}{a:Tr}(h:a∈l):SizeOf.sizeOf a<SizeOf.sizeOf l:=List.sizeOf_lt_of_mem h
theorem Qce(N:Nat):∀ t:Tr,SizeOf.sizeOf t<=N->Qai t<=1000->Qa2 t=Qam t:=by
 induction N with
 | zero=>intro t h;have:=Qf3 t;omega
 | succ N ih =>
  intro t hN hs;have hkl:=Qa0 t.kids;have hsz:=Qa5 t;rw[Qd8,Qi8,<-Qo5 t.kind t.kids.length (by omega)]
  cases hf:(Qca (Qae t.kind) t.kids.length).2
  ·rfl
  ·rw[Qnn t.kind t.kids.length t.kids 0 _ (fun a ha=>ih a (by
    have h1:=Qx9 ha;cases t with
    | mk k x ls ks =>
     simp at hN
     have:SizeOf.sizeOf (Tr.mk k x ls ks).kids=SizeOf.sizeOf ks:=rfl
     omega) (by have:=Qvw ha;omega)) (fun j hj=>by rw[Nat.zero_add];exact Zbx t.kind t.kids.length (by omega) hf j hj)]
mutual
theorem Qmb:(t:Tr)->(n:Nat)->Qds t n=decide (Qex t<=n)
 | t,0=>by
  rw[show Qds t 0=false from by cases t;rw[Qds],xR];rw[Qnd];omega
 | .mk k x ls ks,n+1=>by
  rw[Qds,Qex,Qkw ks n]
  by_cases h:Qdo ks<=n
  ·rw[xS h,xS (by omega)]
  ·rw[xR h,xR (by omega)]
theorem Qkw:(l:List Tr)->(n:Nat)->Qfg l n=decide (Qdo l<=n)
 | [],n=>by rw[Qfg,Qdo];simp
 | t :: r,n=>by
  rw[Qfg,Qdo,Qmb t n,Qkw r n]
  by_cases h1:Qex t<=n
  ·by_cases h2:Qdo r<=n
   ·rw[xS h1,xS h2,xS (p:=max (Qex t) (Qdo r)<=n) (by omega)];rfl
   ·rw[xS h1,xR h2,xR (p:=max (Qex t) (Qdo r)<=n) (by omega)];rfl
  ·rw[xR h1,xR (p:=max (Qex t) (Qdo r)<=n) (by omega),Bool.false_and]
end
def Qmn(k:Int)(n:Nat):Bool:=(k==1 && decide (40<n)) || (k==2 && decide (10<n)) || (k==16 && decide (8<n)) || (k==18 && decide (16<n))
theorem Zby(k:Int)(n:Nat):Qml (Qae k) (Qca (Qae k) n).1 = !Qmn k n:=by
 by_cases h0:k<=0\/23<=k
 ·rw[Qd0 h0];unfold Qmn;rw[show(k==1)=false from Qcr (by omega),show(k==2)=false from Qcr (by omega),show(k==16)=false from Qcr (by omega),show(k==18)=false from Qcr (by omega)];rfl
 ·rcases Qix h0 with rfl | rfl | rfl | rfl | rfl | rfl | rfl | rfl | rfl | rfl | rfl | rfl | rfl | rfl | rfl | rfl | rfl | rfl | rfl | rfl | rfl | rfl
  ·rw[Qe3 (o:=0) (by decide) rfl]
   by_cases h:40<n
   ·simp[Qae,Qml,Qb9,Qcy,Qfc,Qgq,Qmn,h];omega
   ·simp[Qae,Qml,Qb9,Qcy,Qfc,Qgq,Qmn,h];omega
  ·rw[Qe3 (o:=2) (by decide) rfl]
   by_cases h:10<n
   ·simp[Qae,Qml,Qb9,Qcy,Qfc,Qgq,Qli,Qmn,h];omega
   ·simp[Qae,Qml,Qb9,Qcy,Qfc,Qgq,Qli,Qmn,h];omega
  ·rfl
  ·rfl
  ·rfl
  ·rfl
  ·rfl
  ·rfl
  ·rfl
  ·rfl
  ·rfl
  ·rfl
  ·rfl
  ·rfl
  ·rfl
  ·rw[Qe3 (o:=0) (by decide) rfl]
   by_cases h:8<n
   ·simp[Qae,Qml,Qb9,Qcy,Qfc,Qgq,Qmn,h];omega
   ·simp[Qae,Qml,Qb9,Qcy,Qfc,Qgq,Qmn,h];omega
  ·rfl
  ·rw[Qe3 (o:=0) (by decide) rfl]
   by_cases h:16<n
   ·simp[Qae,Qml,Qb9,Qcy,Qgq,Qmn,h];omega
   ·simp[Qae,Qml,Qb9,Qcy,Qgq,Qmn,h];omega
  ·rfl
  ·rfl
  ·rfl
  ·rfl
theorem Zbz(t:Tr):Qgk t=(!Qmn t.kind t.kids.length && Qmm t.kids):=by rw[Zjg,Zby]
def ldR(ls:List yD)(i:Nat):yD:=(ls[i]?).getD ⟨#[]⟩
theorem Qjr(cs:List yD):∀ (l:List (List Qbt)) (i:Nat),Qbh false cs i l=l.flatten
 | [],i=>by rw[Qbh];rfl
 | p :: r,i=>by rw[Qbh,Qjr cs r (i+1),xN (by simp)];rfl
theorem Qkx(co:Bool)(cs:List yD)(p:List Qbt):∀ (l:List (List Qbt)) (i:Nat),Qbh co cs i (l ++ [p])=Qbh co cs i l ++ ((if 0<i+l.length/\co=true then [(ldR cs (i+l.length-1),⟨#[44]⟩)] else []) ++ p)
 | [],i=>by rw[xU,Qbh,Qbh,Qbh,List.append_nil,xU,xG,Nat.add_zero];rfl
 | a :: r,i=>by rw[xV,Qbh,Qbh,Qkx co cs p r (i+1),xD,show i+1+r.length=i+(r.length+1) from by omega];simp only[xT]
def Qgd(ls:List yD)(comma:Nat)(ks:List Tr):List Qbt:=Qbh true (ls.drop comma) 0 (ks.map Qaf)
theorem Zgu(ls:List yD)(comma:Nat):Qgd ls comma [] = []:=by unfold Qgd;rw[List.map_nil,Qbh]
theorem Zgv(ls:List yD)(c i:Nat):ldR (ls.drop c) i=ldR ls (c+i):=by unfold ldR;rw[List.getElem?_drop]
theorem Zb0(ls:List yD)(comma:Nat)(ks:List Tr)(k:Tr):Qgd ls comma (ks ++ [k])=Qgd ls comma ks ++ ((if 0<ks.length then [(ldR ls (comma+ks.length-1),⟨#[44]⟩)] else []) ++ Qaf k):=by
 unfold Qgd;rw[List.map_append,List.map_cons,List.map_nil,Qkx,List.length_map,Nat.zero_add,Zgv]
 by_cases h:0<ks.length
 ·rw[xO ⟨h,rfl⟩,xO h,show comma+(ks.length-1)=comma+ks.length-1 from by omega]
 ·rw[xN (fun e=>h e.1),xN h]
section
variable (x:yD) (ls:List yD)
theorem Zgw(ks:List Tr):Qaf (.mk 1 x ls ks) = [(ldR ls 0,⟨#[109,111,100,117,108,101]⟩),(ldR ls 1,x)] ++ ((ks.map Qaf).flatten ++ [(ldR ls 2,⟨#[]⟩)]):=by
 rw[Qdg];show Qb0 (Qca (Qae 1) ks.length).1 x (ls.drop (Qcn (Qae 1))) (Qae 1) ls (ks.map Qaf)=_
 rw[Qe3 (o:=0) (by decide) rfl];have ht:List.take ks.length (ks.map Qaf)=ks.map Qaf:=List.take_of_length_le (by simp);simp[Qae,Qb0,Qb9,Qcy,Qfc,Qgq,Qjr,ldR,ht]
theorem Zgx(ps:List Tr)(a b:Tr):Qaf (.mk 2 x ls (ps ++ [a,b])) = [(ldR ls 0,⟨#[100,101,102]⟩),(ldR ls 1,x),(ldR ls 2,⟨#[40]⟩)] ++ (Qgd ls 6 ps ++ ([(ldR ls 3,⟨#[41]⟩),(ldR ls 4,⟨#[58]⟩)] ++ (Qaf a ++ ([(ldR ls 5,⟨#[61]⟩)] ++ Qaf b)))):=by
 rw[Qdg];show Qb0 (Qca (Qae 2) (ps ++ [a,b]).length).1 x (ls.drop (Qcn (Qae 2))) (Qae 2) ls ((ps ++ [a,b]).map Qaf)=_
 rw[Qe3 (o:=2) (by decide) rfl];have hn:(((ps ++ [a,b]).length:Nat):Int)-2=(ps.length:Int):=by simp
 rw[hn];have h1:List.take ps.length (ps.map Qaf ++ [Qaf a,Qaf b])=ps.map Qaf:=by rw[List.take_append_of_le_length (by simp),List.take_of_length_le (by simp)]
 have h2:List.drop ps.length (ps.map Qaf ++ [Qaf a,Qaf b]) = [Qaf a,Qaf b]:=by rw[List.drop_append_of_le_length (by simp),List.drop_of_length_le (by simp)];rfl
 simp[Qae,Qb0,Qb9,Qcy,Qfc,Qgq,Qli,Qcn,Qbh,ldR,h1,h2,Qgd]
theorem Zgy(a:Tr):Qaf (.mk 3 x ls [a]) = [(ldR ls 0,⟨#[116,121,112,101]⟩),(ldR ls 1,x),(ldR ls 2,⟨#[61]⟩)] ++ Qaf a:=by
 rw[Qdg];show Qb0 (Qca (Qae 3) 1).1 x (ls.drop (Qcn (Qae 3))) (Qae 3) ls [Qaf a] = _
 simp[Qae,Qb0,Qb9,Qcy,Qfc,Qli,Qbh,ldR]
theorem Zgz(a:Tr):Qaf (.mk 4 x ls [a]) = [(ldR ls 0,x),(ldR ls 1,⟨#[58]⟩)] ++ Qaf a:=by
 rw[Qdg];show Qb0 (Qca (Qae 4) 1).1 x (ls.drop (Qcn (Qae 4))) (Qae 4) ls [Qaf a] = _
 simp[Qae,Qb0,Qb9,Qcy,Qfc,Qli,Qbh,ldR]
theorem Zg0(a:Tr):Qaf (.mk 8 x ls [a]) = [(ldR ls 0,⟨#[91]⟩)] ++ (Qaf a ++ [(ldR ls 1,⟨#[93]⟩)]):=by
 rw[Qdg];show Qb0 (Qca (Qae 8) 1).1 x (ls.drop (Qcn (Qae 8))) (Qae 8) ls [Qaf a] = _
 simp[Qae,Qb0,Qb9,Qcy,Qli,Qbh,ldR]
theorem Zb1(ks:List Tr):Qaf (.mk 16 x ls ks) = [(ldR ls 0,x),(ldR ls 1,⟨#[40]⟩)] ++ (Qgd ls 3 ks ++ [(ldR ls 2,⟨#[41]⟩)]):=by
 rw[Qdg];show Qb0 (Qca (Qae 16) ks.length).1 x (ls.drop (Qcn (Qae 16))) (Qae 16) ls (ks.map Qaf)=_
 rw[Qe3 (o:=0) (by decide) rfl];have ht:List.take ks.length (ks.map Qaf)=ks.map Qaf:=List.take_of_length_le (by simp);simp[Qae,Qb0,Qb9,Qcy,Qfc,Qgq,Qcn,ldR,ht,Qgd]
theorem Qsa(a:Tr):Qaf (.mk 17 x ls [a])=Qaf a:=by
 rw[Qdg];show Qb0 (Qca (Qae 17) 1).1 x (ls.drop (Qcn (Qae 17))) (Qae 17) ls [Qaf a] = _
 simp[Qae,Qb0,Qb9,Qli,Qbh]
theorem Zb2(ks:List Tr):Qaf (.mk 18 x ls ks) = [(ldR ls 0,⟨#[91]⟩)] ++ (Qgd ls 2 ks ++ [(ldR ls 1,⟨#[93]⟩)]):=by
 rw[Qdg];show Qb0 (Qca (Qae 18) ks.length).1 x (ls.drop (Qcn (Qae 18))) (Qae 18) ls (ks.map Qaf)=_
 rw[Qe3 (o:=0) (by decide) rfl];have ht:List.take ks.length (ks.map Qaf)=ks.map Qaf:=List.take_of_length_le (by simp);simp[Qae,Qb0,Qb9,Qcy,Qgq,Qcn,ldR,ht,Qgd]
theorem Zb3(a b c:Tr):Qaf (.mk 19 x ls [a,b,c]) = [(ldR ls 0,⟨#[105,102]⟩)] ++ (Qaf a ++ ([(ldR ls 1,⟨#[116,104,101,110]⟩)] ++ (Qaf b ++ ([(ldR ls 2,⟨#[101,108,115,101]⟩)] ++ Qaf c)))):=by
 rw[Qdg];show Qb0 (Qca (Qae 19) 3).1 x (ls.drop (Qcn (Qae 19))) (Qae 19) ls [Qaf a,Qaf b,Qaf c] = _
 simp[Qae,Qb0,Qb9,Qcy,Qli,Qbh,ldR]
theorem Zb4(a b:Tr):Qaf (.mk 20 x ls [a,b]) = [(ldR ls 0,⟨#[108,101,116]⟩),(ldR ls 1,x),(ldR ls 2,⟨#[61]⟩)] ++ (Qaf a ++ ([(ldR ls 3,⟨#[105,110]⟩)] ++ Qaf b)):=by
 rw[Qdg];show Qb0 (Qca (Qae 20) 2).1 x (ls.drop (Qcn (Qae 20))) (Qae 20) ls [Qaf a,Qaf b] = _
 simp[Qae,Qb0,Qb9,Qcy,Qfc,Qli,Qbh,ldR]
theorem Zb5(a b:Tr):Qaf (.mk 21 x ls [a,b])=Qaf a ++ ([(ldR ls 0,x)] ++ Qaf b):=by
 rw[Qdg];show Qb0 (Qca (Qae 21) 2).1 x (ls.drop (Qcn (Qae 21))) (Qae 21) ls [Qaf a,Qaf b] = _
 simp[Qae,Qb0,Qb9,Qfc,Qli,Qbh,ldR]
theorem Zb6(a:Tr):Qaf (.mk 22 x ls [a]) = [(ldR ls 0,⟨#[40]⟩)] ++ (Qaf a ++ [(ldR ls 1,⟨#[41]⟩)]):=by
 rw[Qdg];show Qb0 (Qca (Qae 22) 1).1 x (ls.drop (Qcn (Qae 22))) (Qae 22) ls [Qaf a] = _
 simp[Qae,Qb0,Qb9,Qcy,Qli,Qbh,ldR]
def Zly(k:Int):Option yD :=
 if k=5 then some ⟨#[73,110,116]⟩ else if k=6 then some ⟨#[84,101,120,116]⟩ else if k=7 then some ⟨#[66,111,111,108]⟩
 else if k=13 then some ⟨#[116,114,117,101]⟩ else if k=14 then some ⟨#[102,97,108,115,101]⟩ else if k=15 then some ⟨#[63]⟩ else none
theorem Qfs(k:Int)(y:yD)(h:Zly k=some y):Qaf (.mk k x ls []) = [(ldR ls 0,y)]:=by
 have:k=5\/k=6\/k=7\/k=13\/k=14\/k=15:=by
  unfold Zly at h
  repeat' split at h
  all_goals first | omega | simp at h
 rcases this with rfl | rfl | rfl | rfl | rfl | rfl <;> (cases h;rw[Qdg];simp[Tr.kind,Tr.text,Tr.leads,Tr.kids,Qae,Qb0,Qcy,ldR])
theorem Qid(k:Int)(h:k=9\/k=10\/k=11\/k=12):Qaf (.mk k x ls []) = [(ldR ls 0,x)]:=by
 rcases h with rfl | rfl | rfl | rfl <;> (rw[Qdg];simp[Tr.kind,Tr.text,Tr.leads,Tr.kids,Qae,Qb0,Qfc,ldR])
end
end Go.Proofs.YtfjpemdejoejbaaGreat
