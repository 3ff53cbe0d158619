/- Part 28 -/
import Derived.Test.YtfjpemdejoejbaaGreatSg26
import Derived.Test.YtfjpemdejoejbaaGreatSg27
set_option maxRecDepth 100000
set_option maxHeartbeats 4000000
namespace Go.Proofs.YtfjpemdejoejbaaGreat
open Go.RowKit
theorem Qjp (N:Nat):∀ (S:Nat→Prop) (t:Tr) (v:TV) (w:World),SizeOf.sizeOf t≤N→TrAt S w t v→Qak t≤140737488355328 →
  Calls Tryz.prog 71 #[.agg #[.int .i64 v.kind,.string v.text,.slice v.la v.ll v.lc,.slice v.ka v.kl v.kc]] w fun e w'=>e = .returned (.int .i64 (Qeh t:Nat))∧Below w.heap.size w w':=by
 induction N with
 | zero=>intro S t v w h;have:=Qgu t;omega
 | succ N ih =>
  intro S t v w hN h hz;have HIH:=hQ ih;have HB0:=hQ ((xC w.heap.size w).alloc (xA _) (trO v));have HT:=hQ (h.keep HB0.out);have HX:=hQ (xH w (trO v));have HZ:=hQ hz;have HN:=hQ hN;have hkl:=h.kl.1;obtain ⟨vk,vx,vla,vll,vlc,vka,vkl,vkc⟩:=v;simp only at hkl;subst hkl;have hmax:t.kids.length≤140737488355328:=by have:=Qba t.kids;rw [Qa7] at hz;omega
  have HMX:=hQ hmax;clear ih h hz hN;have k3:(w.alloc (trO ⟨vk,vx,vla,vll,vlc,vka,t.kids.length,vkc⟩)).cell? ⟨w.heap.size,3,none⟩=some (.slice vka t.kids.length vkc):=Qab HX.out 3 _ rfl
  go_enter Tryz.func71,Tryz.ntmps71
  go_wp2
  clear k3
  go_loopw [3,4] (fun n i wr=>Qsn (fun l=>Qc5 l) t (w.alloc (trO ⟨vk,vx,vla,vll,vlc,vka,t.kids.length,vkc⟩)) n i wr) (fun _ i _=>t.kids.length-(intOf i).toNat)
  case atStart=>exact ⟨0,rfl,xZ _,rfl,xC _ _⟩
  case round =>
   obtain ⟨j,rfl,hj,rfl,hb⟩:=hrel;have HBR:=hQ hb;have hx:=(hb.block w.heap.size (Qaa HX.out)).trans HX.out;have k3:wr.cell? ⟨w.heap.size,3,none⟩=some (.slice vka t.kids.length vkc):=Qab hx 3 _ rfl;clear hb hx
   by_cases hlt:j<t.kids.length
   ·obtain ⟨k,hk⟩:∃ k,t.kids[j]? = some k:=⟨_,xF hlt⟩;obtain ⟨b,off,hka⟩:∃ b off,vka=some ⟨b,off,none⟩:=HT.out.addr.resolve_left (by omega);subst hka;obtain ⟨u,c0,c1,c2,c3,hu⟩:=(HT.out.keep HBR.out).at rfl hk;have HU:=hQ hu;have HS1:=hQ (Qc0 hk);have HD1:=hQ (Qjm hk);have hs:=Qdw t.kids (j+1);have hs0:=Qc0 hk;have hds:=Qev (t.kids.take j);have hdk:=Qdx k;have HSK:=hQ (xQ (Qbe hk) HZ.out);have HNK:=hQ (show SizeOf.sizeOf k≤N from by have:=Qa0 hk;have:=HN.out;omega);have hz:=HZ.out;rw [Qa7] at hz;have q1:((Qaq (t.kids.take j):Nat):Int)+(Qak k:Nat)+1≤140737488355328:=by omega
    have q2:((Qc5 (t.kids.take j):Nat):Int)≤140737488355328:=by omega
    have q3:((Qeh k:Nat):Int)+1≤140737488355329:=by omega
    have hj0:(0:Int)≤(j:Int):=by omega
    have hj1:(j:Int)<(t.kids.length:Int):=by omega
    have hj2:(j:Int)+1≤140737488355328:=by omega
    clear hk hu hs hs0 hds hdk hz;go_wp2_with (go_at_call 71;refine (HIH.out S k u _ HNK.out (HU.out.keep (xC _ _)) HSK.out).mono ?_;rintro e w2 ⟨rfl,hb2⟩;have HB2:=hQ (HBR.out.trans (hb2.mono HBR.out.size));clear hb2)
    go_roundw
    case rel=>exact ⟨j+1,by go_num,by omega,by show _=Value.int .i64 ((Qc5 (t.kids.take (j+1)):Nat):Int);rw [HD1.out];go_num,HB2.out⟩
    case measure=>simp [intOf];omega
   ·have hjn:j=t.kids.length:=by omega
    subst hjn;have HR:=hQ (show Qeh t=Qc5 (t.kids.take t.kids.length)+1 from by rw [Qml,List.take_length]);have hz:=HZ.out;have h1:=Qdx t;have h2:=HR.out
    go_wp2
    go_ret
    exact ⟨Qb5 (by have h3:=Qml t;unfold wrap64;omega),HB0.out.trans (HBR.out.mono (by simp))⟩
def Qk1 (k:Int):Bool:=decide (10≤k) && decide (k≤22) && (k != 17)
def Qim (k:Int):Bool:=Qk1 k && (k != 19) && (k != 20) && (k != 21)
theorem Qhh (k:Int):Qk1 k=Qfg 5 k:=by
 unfold Qk1 Qfg
 by_cases h17:k=17
 ·subst h17;rfl
 ·by_cases h19:k=19
  ·subst h19;rfl
  ·by_cases h20:k=20
   ·subst h20;rfl
   ·by_cases h21:k=21
    ·subst h21;rfl
    ·simp [h17,h19,h20,h21]
theorem Zaf (k:Int):Qim k=Qfg 7 k:=by
 unfold Qim Qk1 Qfg
 by_cases h17:k=17
 ·subst h17;rfl
 ·by_cases h19:k=19
  ·subst h19;rfl
  ·by_cases h20:k=20
   ·subst h20;rfl
   ·by_cases h21:k=21
    ·subst h21;rfl
    ·have b17:(k != 17)=true:=bne_iff_ne.2 h17;have b19:(k != 19)=true:=bne_iff_ne.2 h19;have b20:(k != 20)=true:=bne_iff_ne.2 h20;have b21:(k != 21)=true:=bne_iff_ne.2 h21;have c21:(k==21)=false:=Qcr h21;rw [xN (by decide),xN (by decide),xN (by decide),xN (by decide),xN h17,xN (fun h=>by omega),xN h21];simp only [b17,b19,b20,b21,Bool.and_true]
theorem Qws (k:Int):(Qim k || k==21)=Qfg 6 k:=by
 unfold Qim Qk1 Qfg
 by_cases h17:k=17
 ·subst h17;rfl
 ·by_cases h19:k=19
  ·subst h19;rfl
  ·by_cases h20:k=20
   ·subst h20;rfl
   ·by_cases h21:k=21
    ·subst h21;rfl
    ·have b17:(k != 17)=true:=bne_iff_ne.2 h17;have b19:(k != 19)=true:=bne_iff_ne.2 h19;have b20:(k != 20)=true:=bne_iff_ne.2 h20;have b21:(k != 21)=true:=bne_iff_ne.2 h21;have c21:(k==21)=false:=Qcr h21;rw [xN (by decide),xN (by decide),xN (by decide),xN (by decide),xN h17,xN (fun h=>by omega),xN h21];simp only [b17,b19,b20,b21,Bool.and_true,c21,Bool.or_false]
theorem Qcx (k:Int) (w:World):Calls Tryz.prog 30 #[.int .i64 k] w fun e w'=>e = .returned (.bool (Qfg 3 k))∧w=w':=by
 go_enter Tryz.func30,Tryz.ntmps30
 go_wp2
 all_goals
  go_ret
  exact ⟨Qah (by simp_all [Qfg];try omega),rfl⟩
theorem Qcg (k:Int) (w:World):Calls Tryz.prog 92 #[.int .i64 k] w fun e w'=>e = .returned (.bool (Qk1 k))∧w=w':=by
 go_enter Tryz.func92,Tryz.ntmps92
 go_wp2
 all_goals
  go_ret
  exact ⟨Qah (by simp_all [Qk1];try omega),rfl⟩
theorem Qco (k:Int) (w:World):Calls Tryz.prog 93 #[.int .i64 k] w fun e w'=>e = .returned (.bool (Qim k))∧w=w':=by
 have HR:=hQ (show Qim k=(Qk1 k && (k != 19) && (k != 20) && (k != 21)) from rfl)
 cases hx:Qk1 k
 ·go_enter Tryz.func93,Tryz.ntmps93
  go_wp2_with (go_at_call 92;refine (Qcg _ _).mono ?_;rw [hx];rintro e w' ⟨rfl,rfl⟩)
  go_ret
  exact ⟨Qah (by rw [HR.out,hx];rfl),rfl⟩
 ·go_enter Tryz.func93,Tryz.ntmps93
  go_wp2_with (go_at_call 92;refine (Qcg _ _).mono ?_;rw [hx];rintro e w' ⟨rfl,rfl⟩)
  all_goals
   go_ret
   exact ⟨Qah (by rw [HR.out,hx];simp_all),rfl⟩
theorem Zgm (s:ByteArray) (w:World) (h0:(s.toList == [43])=true):Calls Tryz.prog 91 #[.string s] w fun e w'=>e = .returned (.bool (opB s))∧w=w':=by
 have HR:=hQ (show opB s=true from by unfold opB;simp only [←Qbb,h0];rfl)
 go_enter Tryz.func91,Tryz.ntmps91
 go_wp2
 go_ret
 exact ⟨by rw [HR.out];rfl,rfl⟩
theorem Zgn (s:ByteArray) (w:World) (h0:(s.toList == [43])=false) (h1:(s.toList == [45])=true):Calls Tryz.prog 91 #[.string s] w fun e w'=>e = .returned (.bool (opB s))∧w=w':=by
 have HR:=hQ (show opB s=true from by unfold opB;simp only [←Qbb,h0,h1];rfl)
 go_enter Tryz.func91,Tryz.ntmps91
 go_wp2
 go_ret
 exact ⟨by rw [HR.out];rfl,rfl⟩
theorem Zgo (s:ByteArray) (w:World) (h0:(s.toList == [43])=false) (h1:(s.toList == [45])=false) (h2:(s.toList == [42])=true):Calls Tryz.prog 91 #[.string s] w fun e w'=>e = .returned (.bool (opB s))∧w=w':=by
 have HR:=hQ (show opB s=true from by unfold opB;simp only [←Qbb,h0,h1,h2];rfl)
 go_enter Tryz.func91,Tryz.ntmps91
 go_wp2
 go_ret
 exact ⟨by rw [HR.out];rfl,rfl⟩
theorem Zgp (s:ByteArray) (w:World) (h0:(s.toList == [43])=false) (h1:(s.toList == [45])=false) (h2:(s.toList == [42])=false) (h3:(s.toList == [60])=true):Calls Tryz.prog 91 #[.string s] w fun e w'=>e = .returned (.bool (opB s))∧w=w':=by
 have HR:=hQ (show opB s=true from by unfold opB;simp only [←Qbb,h0,h1,h2,h3];rfl)
 go_enter Tryz.func91,Tryz.ntmps91
 go_wp2
 go_ret
 exact ⟨by rw [HR.out];rfl,rfl⟩
theorem Zgq (s:ByteArray) (w:World) (h0:(s.toList == [43])=false) (h1:(s.toList == [45])=false) (h2:(s.toList == [42])=false) (h3:(s.toList == [60])=false) (h4:(s.toList == [61,61])=true):Calls Tryz.prog 91 #[.string s] w fun e w'=>e = .returned (.bool (opB s))∧w=w':=by
 have HR:=hQ (show opB s=true from by unfold opB;simp only [←Qbb,h0,h1,h2,h3,h4];rfl)
 go_enter Tryz.func91,Tryz.ntmps91
 go_wp2
 go_ret
 exact ⟨by rw [HR.out];rfl,rfl⟩
theorem Zgr (s:ByteArray) (w:World) (h0:(s.toList == [43])=false) (h1:(s.toList == [45])=false) (h2:(s.toList == [42])=false) (h3:(s.toList == [60])=false) (h4:(s.toList == [61,61])=false):Calls Tryz.prog 91 #[.string s] w fun e w'=>e = .returned (.bool (opB s))∧w=w':=by
 have HR:=hQ (show opB s=false from by unfold opB;simp only [←Qbb,h0,h1,h2,h3,h4];rfl)
 go_enter Tryz.func91,Tryz.ntmps91
 go_wp2
 go_ret
 exact ⟨by rw [HR.out];rfl,rfl⟩
theorem Zag (s:ByteArray) (w:World):Calls Tryz.prog 91 #[.string s] w fun e w'=>e = .returned (.bool (opB s))∧w=w':=by
 cases h0:(s.toList == [43])
 case true=>exact Zgm s w h0
 cases h1:(s.toList == [45])
 case true=>exact Zgn s w h0 h1
 cases h2:(s.toList == [42])
 case true=>exact Zgo s w h0 h1 h2
 cases h3:(s.toList == [60])
 case true=>exact Zgp s w h0 h1 h2 h3
 cases h4:(s.toList == [61,61])
 case true=>exact Zgq s w h0 h1 h2 h3 h4
 exact Zgr s w h0 h1 h2 h3 h4
theorem Qs8 (s:ByteArray) (w:World) (hs:s.size<maxLen):Calls Tryz.prog 58 #[.int .i64 1,.string s] w fun e w'=>e = .returned (.bool (Qbn (Qae 1) s))∧Below w.heap.size w w':=by
 have HS:=hQ hs;have HR:=hQ (show Qbn (Qae 1) s=Qby 1 (Qa4 (suf s 0):Nat) s from rfl);clear hs
 go_enter Tryz.func58,Tryz.ntmps58
 go_wp2_with (first | (go_at_call 90;refine (Qa2 s _ HS.out).mono ?_;rintro e w1 ⟨rfl,hb1⟩;have HB1:=hQ hb1;clear hb1))
 all_goals
  go_ret
  exact ⟨Qah (by first | exact HR.out.symm | (rw [HR.out];simp_all [Qby];done) | (rw [HR.out];simp [Qby];omega)),HB1.out⟩
theorem Qs9 (s:ByteArray) (w:World) (hs:s.size<maxLen):Calls Tryz.prog 58 #[.int .i64 2,.string s] w fun e w'=>e = .returned (.bool (Qbn (Qae 2) s))∧Below w.heap.size w w':=by
 have HS:=hQ hs;have HR:=hQ (show Qbn (Qae 2) s=Qby 2 (Qa4 (suf s 0):Nat) s from rfl);clear hs
 go_enter Tryz.func58,Tryz.ntmps58
 go_wp2_with (first | (go_at_call 90;refine (Qa2 s _ HS.out).mono ?_;rintro e w1 ⟨rfl,hb1⟩;have HB1:=hQ hb1;clear hb1))
 all_goals
  go_ret
  exact ⟨Qah (by first | exact HR.out.symm | (rw [HR.out];simp_all [Qby];done) | (rw [HR.out];simp [Qby];omega)),HB1.out⟩
theorem Qta (s:ByteArray) (w:World) (hs:s.size<maxLen):Calls Tryz.prog 58 #[.int .i64 3,.string s] w fun e w'=>e = .returned (.bool (Qbn (Qae 3) s))∧Below w.heap.size w w':=by
 have HS:=hQ hs;have HR:=hQ (show Qbn (Qae 3) s=Qby 1 (Qa4 (suf s 0):Nat) s from rfl);clear hs
 go_enter Tryz.func58,Tryz.ntmps58
 go_wp2_with (first | (go_at_call 90;refine (Qa2 s _ HS.out).mono ?_;rintro e w1 ⟨rfl,hb1⟩;have HB1:=hQ hb1;clear hb1))
 all_goals
  go_ret
  exact ⟨Qah (by first | exact HR.out.symm | (rw [HR.out];simp_all [Qby];done) | (rw [HR.out];simp [Qby];omega)),HB1.out⟩
theorem Qtb (s:ByteArray) (w:World) (hs:s.size<maxLen):Calls Tryz.prog 58 #[.int .i64 4,.string s] w fun e w'=>e = .returned (.bool (Qbn (Qae 4) s))∧Below w.heap.size w w':=by
 have HS:=hQ hs;have HR:=hQ (show Qbn (Qae 4) s=Qby 2 (Qa4 (suf s 0):Nat) s from rfl);clear hs
 go_enter Tryz.func58,Tryz.ntmps58
 go_wp2_with (first | (go_at_call 90;refine (Qa2 s _ HS.out).mono ?_;rintro e w1 ⟨rfl,hb1⟩;have HB1:=hQ hb1;clear hb1))
 all_goals
  go_ret
  exact ⟨Qah (by first | exact HR.out.symm | (rw [HR.out];simp_all [Qby];done) | (rw [HR.out];simp [Qby];omega)),HB1.out⟩
theorem Qtc (s:ByteArray) (w:World) (hs:s.size<maxLen):Calls Tryz.prog 58 #[.int .i64 9,.string s] w fun e w'=>e = .returned (.bool (Qbn (Qae 9) s))∧Below w.heap.size w w':=by
 have HS:=hQ hs;have HR:=hQ (show Qbn (Qae 9) s=Qby 3 (Qa4 (suf s 0):Nat) s from rfl);clear hs
 go_enter Tryz.func58,Tryz.ntmps58
 go_wp2_with (first | (go_at_call 90;refine (Qa2 s _ HS.out).mono ?_;rintro e w1 ⟨rfl,hb1⟩;have HB1:=hQ hb1;clear hb1))
 all_goals
  go_ret
  exact ⟨Qah (by first | exact HR.out.symm | (rw [HR.out];simp_all [Qby];done) | (rw [HR.out];simp [Qby];omega)),HB1.out⟩
theorem Qqw (s:ByteArray) (w:World) (hs:s.size<maxLen):Calls Tryz.prog 58 #[.int .i64 10,.string s] w fun e w'=>e = .returned (.bool (Qbn (Qae 10) s))∧Below w.heap.size w w':=by
 have HS:=hQ hs;have HR:=hQ (show Qbn (Qae 10) s=Qby 5 (Qa4 (suf s 0):Nat) s from rfl);clear hs
 go_enter Tryz.func58,Tryz.ntmps58
 go_wp2_with (first | (go_at_call 90;refine (Qa2 s _ HS.out).mono ?_;rintro e w1 ⟨rfl,hb1⟩;have HB1:=hQ hb1;clear hb1))
 all_goals
  go_ret
  exact ⟨Qah (by first | exact HR.out.symm | (rw [HR.out];simp_all [Qby];done) | (rw [HR.out];simp [Qby];omega)),HB1.out⟩
theorem Qqx (s:ByteArray) (w:World) (hs:s.size<maxLen):Calls Tryz.prog 58 #[.int .i64 11,.string s] w fun e w'=>e = .returned (.bool (Qbn (Qae 11) s))∧Below w.heap.size w w':=by
 have HS:=hQ hs;have HR:=hQ (show Qbn (Qae 11) s=Qby 6 (Qa4 (suf s 0):Nat) s from rfl);clear hs
 go_enter Tryz.func58,Tryz.ntmps58
 go_wp2_with (first | (go_at_call 90;refine (Qa2 s _ HS.out).mono ?_;rintro e w1 ⟨rfl,hb1⟩;have HB1:=hQ hb1;clear hb1))
 all_goals
  go_ret
  exact ⟨Qah (by first | exact HR.out.symm | (rw [HR.out];simp_all [Qby];done) | (rw [HR.out];simp [Qby];omega)),HB1.out⟩
theorem Qqy (s:ByteArray) (w:World) (hs:s.size<maxLen):Calls Tryz.prog 58 #[.int .i64 12,.string s] w fun e w'=>e = .returned (.bool (Qbn (Qae 12) s))∧Below w.heap.size w w':=by
 have HS:=hQ hs;have HR:=hQ (show Qbn (Qae 12) s=Qby 2 (Qa4 (suf s 0):Nat) s from rfl);clear hs
 go_enter Tryz.func58,Tryz.ntmps58
 go_wp2_with (first | (go_at_call 90;refine (Qa2 s _ HS.out).mono ?_;rintro e w1 ⟨rfl,hb1⟩;have HB1:=hQ hb1;clear hb1))
 all_goals
  go_ret
  exact ⟨Qah (by first | exact HR.out.symm | (rw [HR.out];simp_all [Qby];done) | (rw [HR.out];simp [Qby];omega)),HB1.out⟩
theorem Qqz (s:ByteArray) (w:World) (hs:s.size<maxLen):Calls Tryz.prog 58 #[.int .i64 16,.string s] w fun e w'=>e = .returned (.bool (Qbn (Qae 16) s))∧Below w.heap.size w w':=by
 have HS:=hQ hs;have HR:=hQ (show Qbn (Qae 16) s=Qby 4 (Qa4 (suf s 0):Nat) s from rfl);clear hs
 go_enter Tryz.func58,Tryz.ntmps58
 go_wp2_with (first | (go_at_call 90;refine (Qa2 s _ HS.out).mono ?_;rintro e w1 ⟨rfl,hb1⟩;have HB1:=hQ hb1;clear hb1))
 all_goals
  go_ret
  exact ⟨Qah (by first | exact HR.out.symm | (rw [HR.out];simp_all [Qby];done) | (rw [HR.out];simp [Qby];omega)),HB1.out⟩
theorem Qq0 (s:ByteArray) (w:World) (hs:s.size<maxLen):Calls Tryz.prog 58 #[.int .i64 20,.string s] w fun e w'=>e = .returned (.bool (Qbn (Qae 20) s))∧Below w.heap.size w w':=by
 have HS:=hQ hs;have HR:=hQ (show Qbn (Qae 20) s=Qby 2 (Qa4 (suf s 0):Nat) s from rfl);clear hs
 go_enter Tryz.func58,Tryz.ntmps58
 go_wp2_with (first | (go_at_call 90;refine (Qa2 s _ HS.out).mono ?_;rintro e w1 ⟨rfl,hb1⟩;have HB1:=hQ hb1;clear hb1))
 all_goals
  go_ret
  exact ⟨Qah (by first | exact HR.out.symm | (rw [HR.out];simp_all [Qby];done) | (rw [HR.out];simp [Qby];omega)),HB1.out⟩
theorem Qq1 (s:ByteArray) (w:World) (hs:s.size<maxLen):Calls Tryz.prog 58 #[.int .i64 21,.string s] w fun e w'=>e = .returned (.bool (Qbn (Qae 21) s))∧Below w.heap.size w w':=by
 have HS:=hQ hs;have HR:=hQ (show Qbn (Qae 21) s=Qby 7 (Qa4 (suf s 0):Nat) s from rfl);clear hs
 go_enter Tryz.func58,Tryz.ntmps58
 go_wp2_with (first | (go_at_call 90;refine (Qa2 s _ HS.out).mono ?_;rintro e w1 ⟨rfl,hb1⟩;have HB1:=hQ hb1;clear hb1) | (go_at_call 91;refine (Zag s _).mono ?_;rintro e w2 ⟨rfl,rfl⟩))
 all_goals
  go_ret
  exact ⟨Qah (by first | exact HR.out.symm | (rw [HR.out];simp_all [Qby];done) | (rw [HR.out];simp [Qby];omega)),HB1.out⟩
theorem Zh8 (s:ByteArray):is s [] = s.toList.isEmpty:=by
 rw [←Qbb];cases s.toList <;> rfl
theorem Qtd (k:Int) (s:ByteArray) (h:k≠1∧k≠2∧k≠3∧k≠4∧k≠9∧k≠10∧k≠11∧k≠12∧k≠16∧k≠20∧k≠21):Qbn (Qae k) s=is s []:=by
 by_cases h0:k≤0∨23≤k
 ·rw [Qdv h0];rfl
 ·rcases (show k=5∨k=6∨k=7∨k=8∨k=13∨k=14∨k=15∨k=17∨k=18∨k=19∨k=22 from by omega) with rfl | rfl | rfl | rfl | rfl | rfl | rfl | rfl | rfl | rfl | rfl <;> rfl
theorem Qmy (k:Int) (s:ByteArray) (w:World) (hs:s.size<maxLen) (h:k≠1∧k≠2∧k≠3∧k≠4∧k≠9∧k≠10∧k≠11∧k≠12∧k≠16∧k≠20∧k≠21):Calls Tryz.prog 58 #[.int .i64 k,.string s] w fun e w'=>e = .returned (.bool (Qbn (Qae k) s))∧Below w.heap.size w w':=by
 have HS:=hQ hs;have HR:=hQ ((Qtd k s h).trans (Zh8 s));have e1:=Qcr (show k≠1 from by omega);have e2:=Qcr (show k≠2 from by omega);have e3:=Qcr (show k≠3 from by omega);have e4:=Qcr (show k≠4 from by omega);have e9:=Qcr (show k≠9 from by omega);have e10:=Qcr (show k≠10 from by omega);have e11:=Qcr (show k≠11 from by omega);have e12:=Qcr (show k≠12 from by omega);have e16:=Qcr (show k≠16 from by omega);have e20:=Qcr (show k≠20 from by omega);have e21:=Qcr (show k≠21 from by omega);clear hs h
 go_enter Tryz.func58,Tryz.ntmps58
 go_wp2_with (go_at_call 90;refine (Qa2 s _ HS.out).mono ?_;rintro e w1 ⟨rfl,hb1⟩;have HB1:=hQ hb1;clear hb1)
 go_ret
 exact ⟨Qah (by first | exact HR.out.symm | (rw [HR.out];simp;done)),HB1.out⟩
theorem Qkc (k:Int) (s:ByteArray) (w:World) (hs:s.size<maxLen):Calls Tryz.prog 58 #[.int .i64 k,.string s] w fun e w'=>e = .returned (.bool (Qbn (Qae k) s))∧Below w.heap.size w w':=by
 by_cases h:k≠1∧k≠2∧k≠3∧k≠4∧k≠9∧k≠10∧k≠11∧k≠12∧k≠16∧k≠20∧k≠21
 ·exact Qmy k s w hs h
 ·rcases (show k=1∨k=2∨k=3∨k=4∨k=9∨k=10∨k=11∨k=12∨k=16∨k=20∨k=21 from by omega) with rfl | rfl | rfl | rfl | rfl | rfl | rfl | rfl | rfl | rfl | rfl
  ·exact Qs8 s w hs
  ·exact Qs9 s w hs
  ·exact Qta s w hs
  ·exact Qtb s w hs
  ·exact Qtc s w hs
  ·exact Qqw s w hs
  ·exact Qqx s w hs
  ·exact Qqy s w hs
  ·exact Qqz s w hs
  ·exact Qq0 s w hs
  ·exact Qq1 s w hs
def Qgq (tk:Int) (n i:Nat) (k:Int):Bool :=
 if tk=1 then k==2 || k==3
 else if tk=2 then (if i+1=n then Qk1 k else if i+2=n then Qfg 3 k else k==4)
 else if tk=3∨tk=4∨tk=8 then Qfg 3 k
 else if tk=16 then k==17
 else if tk=21 then (Qim k || (decide (i=0) && k==21))
 else Qk1 k
theorem Zh9 (vx:ByteArray) (vla:Option Addr) (vll vlc:Nat) (vka:Option Addr) (vkl vkc i:Nat) (k:Int) (w:World) (_hi:i<1000) (_hn:vkl≤1000):Calls Tryz.prog 59 #[.agg #[.int .i64 1,.string vx,.slice vla vll vlc,.slice vka vkl vkc],.int .i64 i,.int .i64 k] w fun e w'=>e = .returned (.bool (Qgq 1 vkl i k))∧Below w.heap.size w w':=by
 have HX:=hQ (xH w (.cells #[.int .i64 1,.string vx,.slice vla vll vlc,.slice vka vkl vkc] 25));have HB0:=hQ ((xC w.heap.size w).alloc (xA _) (.cells #[.int .i64 1,.string vx,.slice vla vll vlc,.slice vka vkl vkc] 25));have k0:(w.alloc (.cells #[.int .i64 1,.string vx,.slice vla vll vlc,.slice vka vkl vkc] 25)).cell? ⟨w.heap.size,0,none⟩=some (.int .i64 1):=Qab HX.out 0 _ rfl;have k3:(w.alloc (.cells #[.int .i64 1,.string vx,.slice vla vll vlc,.slice vka vkl vkc] 25)).cell? ⟨w.heap.size,3,none⟩=some (.slice vka vkl vkc):=Qab HX.out 3 _ rfl;have HR:=hQ (show Qgq 1 vkl i k=(k==2 || k==3) from rfl)
 go_enter Tryz.func59,Tryz.ntmps59
 go_wp2_with (first | (go_at_call 92;refine (Qcg _ _).mono ?_;rintro e w1 ⟨rfl,rfl⟩) | (go_at_call 30;refine (Qcx _ _).mono ?_;rintro e w1 ⟨rfl,rfl⟩) | (go_at_call 93;refine (Qco _ _).mono ?_;rintro e w1 ⟨rfl,rfl⟩))
 all_goals
  go_ret
  exact ⟨Qah (by first | exact HR.out.symm | (rw [HR.out];done) | (rw [HR.out];simp_all;done)),HB0.out⟩
theorem Zgs (vx:ByteArray) (vla:Option Addr) (vll vlc:Nat) (vka:Option Addr) (vkl vkc i:Nat) (k:Int) (w:World) (_hi:i<1000) (_hn:vkl≤1000) (h:i+1=vkl):Calls Tryz.prog 59 #[.agg #[.int .i64 2,.string vx,.slice vla vll vlc,.slice vka vkl vkc],.int .i64 i,.int .i64 k] w fun e w'=>e = .returned (.bool (Qgq 2 vkl i k))∧Below w.heap.size w w':=by
 have HX:=hQ (xH w (.cells #[.int .i64 2,.string vx,.slice vla vll vlc,.slice vka vkl vkc] 25));have HB0:=hQ ((xC w.heap.size w).alloc (xA _) (.cells #[.int .i64 2,.string vx,.slice vla vll vlc,.slice vka vkl vkc] 25));have k0:(w.alloc (.cells #[.int .i64 2,.string vx,.slice vla vll vlc,.slice vka vkl vkc] 25)).cell? ⟨w.heap.size,0,none⟩=some (.int .i64 2):=Qab HX.out 0 _ rfl;have k3:(w.alloc (.cells #[.int .i64 2,.string vx,.slice vla vll vlc,.slice vka vkl vkc] 25)).cell? ⟨w.heap.size,3,none⟩=some (.slice vka vkl vkc):=Qab HX.out 3 _ rfl;have HR:=hQ (show Qgq 2 vkl i k=Qk1 k from by unfold Qgq;rw [xN (by decide),xO rfl,xO h]);have d1:((i:Int)==(vkl:Int)-1)=true:=beq_iff_eq.2 (by omega);clear h
 go_enter Tryz.func59,Tryz.ntmps59
 go_wp2_with (first | (go_at_call 92;refine (Qcg _ _).mono ?_;rintro e w1 ⟨rfl,rfl⟩) | (go_at_call 30;refine (Qcx _ _).mono ?_;rintro e w1 ⟨rfl,rfl⟩) | (go_at_call 93;refine (Qco _ _).mono ?_;rintro e w1 ⟨rfl,rfl⟩))
 all_goals
  go_ret
  exact ⟨Qah (by first | exact HR.out.symm | (rw [HR.out];done) | (rw [HR.out];simp_all;done)),HB0.out⟩
theorem Zgt (vx:ByteArray) (vla:Option Addr) (vll vlc:Nat) (vka:Option Addr) (vkl vkc i:Nat) (k:Int) (w:World) (_hi:i<1000) (_hn:vkl≤1000) (h1:i+1≠vkl) (h:i+2=vkl):Calls Tryz.prog 59 #[.agg #[.int .i64 2,.string vx,.slice vla vll vlc,.slice vka vkl vkc],.int .i64 i,.int .i64 k] w fun e w'=>e = .returned (.bool (Qgq 2 vkl i k))∧Below w.heap.size w w':=by
 have HX:=hQ (xH w (.cells #[.int .i64 2,.string vx,.slice vla vll vlc,.slice vka vkl vkc] 25));have HB0:=hQ ((xC w.heap.size w).alloc (xA _) (.cells #[.int .i64 2,.string vx,.slice vla vll vlc,.slice vka vkl vkc] 25));have k0:(w.alloc (.cells #[.int .i64 2,.string vx,.slice vla vll vlc,.slice vka vkl vkc] 25)).cell? ⟨w.heap.size,0,none⟩=some (.int .i64 2):=Qab HX.out 0 _ rfl;have k3:(w.alloc (.cells #[.int .i64 2,.string vx,.slice vla vll vlc,.slice vka vkl vkc] 25)).cell? ⟨w.heap.size,3,none⟩=some (.slice vka vkl vkc):=Qab HX.out 3 _ rfl;have HR:=hQ (show Qgq 2 vkl i k=Qfg 3 k from by unfold Qgq;rw [xN (by decide),xO rfl,xN h1,xO h]);have d1:((i:Int)==(vkl:Int)-1)=false:=beq_eq_false_iff_ne.2 (by omega);have d2:((i:Int)==(vkl:Int)-2)=true:=beq_iff_eq.2 (by omega);clear h h1
 go_enter Tryz.func59,Tryz.ntmps59
 go_wp2_with (first | (go_at_call 92;refine (Qcg _ _).mono ?_;rintro e w1 ⟨rfl,rfl⟩) | (go_at_call 30;refine (Qcx _ _).mono ?_;rintro e w1 ⟨rfl,rfl⟩) | (go_at_call 93;refine (Qco _ _).mono ?_;rintro e w1 ⟨rfl,rfl⟩))
 all_goals
  go_ret
  exact ⟨Qah (by first | exact HR.out.symm | (rw [HR.out];done) | (rw [HR.out];simp_all;done)),HB0.out⟩
theorem Zgu (vx:ByteArray) (vla:Option Addr) (vll vlc:Nat) (vka:Option Addr) (vkl vkc i:Nat) (k:Int) (w:World) (_hi:i<1000) (_hn:vkl≤1000) (h1:i+1≠vkl) (h:i+2≠vkl):Calls Tryz.prog 59 #[.agg #[.int .i64 2,.string vx,.slice vla vll vlc,.slice vka vkl vkc],.int .i64 i,.int .i64 k] w fun e w'=>e = .returned (.bool (Qgq 2 vkl i k))∧Below w.heap.size w w':=by
 have HX:=hQ (xH w (.cells #[.int .i64 2,.string vx,.slice vla vll vlc,.slice vka vkl vkc] 25));have HB0:=hQ ((xC w.heap.size w).alloc (xA _) (.cells #[.int .i64 2,.string vx,.slice vla vll vlc,.slice vka vkl vkc] 25));have k0:(w.alloc (.cells #[.int .i64 2,.string vx,.slice vla vll vlc,.slice vka vkl vkc] 25)).cell? ⟨w.heap.size,0,none⟩=some (.int .i64 2):=Qab HX.out 0 _ rfl;have k3:(w.alloc (.cells #[.int .i64 2,.string vx,.slice vla vll vlc,.slice vka vkl vkc] 25)).cell? ⟨w.heap.size,3,none⟩=some (.slice vka vkl vkc):=Qab HX.out 3 _ rfl;have HR:=hQ (show Qgq 2 vkl i k=(k==4) from by unfold Qgq;rw [xN (by decide),xO rfl,xN h1,xN h]);have d1:((i:Int)==(vkl:Int)-1)=false:=beq_eq_false_iff_ne.2 (by omega);have d2:((i:Int)==(vkl:Int)-2)=false:=beq_eq_false_iff_ne.2 (by omega);clear h h1
 go_enter Tryz.func59,Tryz.ntmps59
 go_wp2_with (first | (go_at_call 92;refine (Qcg _ _).mono ?_;rintro e w1 ⟨rfl,rfl⟩) | (go_at_call 30;refine (Qcx _ _).mono ?_;rintro e w1 ⟨rfl,rfl⟩) | (go_at_call 93;refine (Qco _ _).mono ?_;rintro e w1 ⟨rfl,rfl⟩))
 all_goals
  go_ret
  exact ⟨Qah (by first | exact HR.out.symm | (rw [HR.out];done) | (rw [HR.out];simp_all;done)),HB0.out⟩
theorem Zia (vx:ByteArray) (vla:Option Addr) (vll vlc:Nat) (vka:Option Addr) (vkl vkc i:Nat) (k:Int) (w:World) (_hi:i<1000) (_hn:vkl≤1000):Calls Tryz.prog 59 #[.agg #[.int .i64 3,.string vx,.slice vla vll vlc,.slice vka vkl vkc],.int .i64 i,.int .i64 k] w fun e w'=>e = .returned (.bool (Qgq 3 vkl i k))∧Below w.heap.size w w':=by
 have HX:=hQ (xH w (.cells #[.int .i64 3,.string vx,.slice vla vll vlc,.slice vka vkl vkc] 25));have HB0:=hQ ((xC w.heap.size w).alloc (xA _) (.cells #[.int .i64 3,.string vx,.slice vla vll vlc,.slice vka vkl vkc] 25));have k0:(w.alloc (.cells #[.int .i64 3,.string vx,.slice vla vll vlc,.slice vka vkl vkc] 25)).cell? ⟨w.heap.size,0,none⟩=some (.int .i64 3):=Qab HX.out 0 _ rfl;have k3:(w.alloc (.cells #[.int .i64 3,.string vx,.slice vla vll vlc,.slice vka vkl vkc] 25)).cell? ⟨w.heap.size,3,none⟩=some (.slice vka vkl vkc):=Qab HX.out 3 _ rfl;have HR:=hQ (show Qgq 3 vkl i k=Qfg 3 k from rfl)
 go_enter Tryz.func59,Tryz.ntmps59
 go_wp2_with (first | (go_at_call 92;refine (Qcg _ _).mono ?_;rintro e w1 ⟨rfl,rfl⟩) | (go_at_call 30;refine (Qcx _ _).mono ?_;rintro e w1 ⟨rfl,rfl⟩) | (go_at_call 93;refine (Qco _ _).mono ?_;rintro e w1 ⟨rfl,rfl⟩))
 all_goals
  go_ret
  exact ⟨Qah (by first | exact HR.out.symm | (rw [HR.out];done) | (rw [HR.out];simp_all;done)),HB0.out⟩
theorem Zib (vx:ByteArray) (vla:Option Addr) (vll vlc:Nat) (vka:Option Addr) (vkl vkc i:Nat) (k:Int) (w:World) (_hi:i<1000) (_hn:vkl≤1000):Calls Tryz.prog 59 #[.agg #[.int .i64 4,.string vx,.slice vla vll vlc,.slice vka vkl vkc],.int .i64 i,.int .i64 k] w fun e w'=>e = .returned (.bool (Qgq 4 vkl i k))∧Below w.heap.size w w':=by
 have HX:=hQ (xH w (.cells #[.int .i64 4,.string vx,.slice vla vll vlc,.slice vka vkl vkc] 25));have HB0:=hQ ((xC w.heap.size w).alloc (xA _) (.cells #[.int .i64 4,.string vx,.slice vla vll vlc,.slice vka vkl vkc] 25));have k0:(w.alloc (.cells #[.int .i64 4,.string vx,.slice vla vll vlc,.slice vka vkl vkc] 25)).cell? ⟨w.heap.size,0,none⟩=some (.int .i64 4):=Qab HX.out 0 _ rfl;have k3:(w.alloc (.cells #[.int .i64 4,.string vx,.slice vla vll vlc,.slice vka vkl vkc] 25)).cell? ⟨w.heap.size,3,none⟩=some (.slice vka vkl vkc):=Qab HX.out 3 _ rfl;have HR:=hQ (show Qgq 4 vkl i k=Qfg 3 k from rfl)
 go_enter Tryz.func59,Tryz.ntmps59
 go_wp2_with (first | (go_at_call 92;refine (Qcg _ _).mono ?_;rintro e w1 ⟨rfl,rfl⟩) | (go_at_call 30;refine (Qcx _ _).mono ?_;rintro e w1 ⟨rfl,rfl⟩) | (go_at_call 93;refine (Qco _ _).mono ?_;rintro e w1 ⟨rfl,rfl⟩))
 all_goals
  go_ret
  exact ⟨Qah (by first | exact HR.out.symm | (rw [HR.out];done) | (rw [HR.out];simp_all;done)),HB0.out⟩
theorem Zic (vx:ByteArray) (vla:Option Addr) (vll vlc:Nat) (vka:Option Addr) (vkl vkc i:Nat) (k:Int) (w:World) (_hi:i<1000) (_hn:vkl≤1000):Calls Tryz.prog 59 #[.agg #[.int .i64 8,.string vx,.slice vla vll vlc,.slice vka vkl vkc],.int .i64 i,.int .i64 k] w fun e w'=>e = .returned (.bool (Qgq 8 vkl i k))∧Below w.heap.size w w':=by
 have HX:=hQ (xH w (.cells #[.int .i64 8,.string vx,.slice vla vll vlc,.slice vka vkl vkc] 25));have HB0:=hQ ((xC w.heap.size w).alloc (xA _) (.cells #[.int .i64 8,.string vx,.slice vla vll vlc,.slice vka vkl vkc] 25));have k0:(w.alloc (.cells #[.int .i64 8,.string vx,.slice vla vll vlc,.slice vka vkl vkc] 25)).cell? ⟨w.heap.size,0,none⟩=some (.int .i64 8):=Qab HX.out 0 _ rfl;have k3:(w.alloc (.cells #[.int .i64 8,.string vx,.slice vla vll vlc,.slice vka vkl vkc] 25)).cell? ⟨w.heap.size,3,none⟩=some (.slice vka vkl vkc):=Qab HX.out 3 _ rfl;have HR:=hQ (show Qgq 8 vkl i k=Qfg 3 k from rfl)
 go_enter Tryz.func59,Tryz.ntmps59
 go_wp2_with (first | (go_at_call 92;refine (Qcg _ _).mono ?_;rintro e w1 ⟨rfl,rfl⟩) | (go_at_call 30;refine (Qcx _ _).mono ?_;rintro e w1 ⟨rfl,rfl⟩) | (go_at_call 93;refine (Qco _ _).mono ?_;rintro e w1 ⟨rfl,rfl⟩))
 all_goals
  go_ret
  exact ⟨Qah (by first | exact HR.out.symm | (rw [HR.out];done) | (rw [HR.out];simp_all;done)),HB0.out⟩
theorem Zgv (vx:ByteArray) (vla:Option Addr) (vll vlc:Nat) (vka:Option Addr) (vkl vkc i:Nat) (k:Int) (w:World) (_hi:i<1000) (_hn:vkl≤1000):Calls Tryz.prog 59 #[.agg #[.int .i64 16,.string vx,.slice vla vll vlc,.slice vka vkl vkc],.int .i64 i,.int .i64 k] w fun e w'=>e = .returned (.bool (Qgq 16 vkl i k))∧Below w.heap.size w w':=by
 have HX:=hQ (xH w (.cells #[.int .i64 16,.string vx,.slice vla vll vlc,.slice vka vkl vkc] 25));have HB0:=hQ ((xC w.heap.size w).alloc (xA _) (.cells #[.int .i64 16,.string vx,.slice vla vll vlc,.slice vka vkl vkc] 25));have k0:(w.alloc (.cells #[.int .i64 16,.string vx,.slice vla vll vlc,.slice vka vkl vkc] 25)).cell? ⟨w.heap.size,0,none⟩=some (.int .i64 16):=Qab HX.out 0 _ rfl;have k3:(w.alloc (.cells #[.int .i64 16,.string vx,.slice vla vll vlc,.slice vka vkl vkc] 25)).cell? ⟨w.heap.size,3,none⟩=some (.slice vka vkl vkc):=Qab HX.out 3 _ rfl;have HR:=hQ (show Qgq 16 vkl i k=(k==17) from rfl)
 go_enter Tryz.func59,Tryz.ntmps59
 go_wp2_with (first | (go_at_call 92;refine (Qcg _ _).mono ?_;rintro e w1 ⟨rfl,rfl⟩) | (go_at_call 30;refine (Qcx _ _).mono ?_;rintro e w1 ⟨rfl,rfl⟩) | (go_at_call 93;refine (Qco _ _).mono ?_;rintro e w1 ⟨rfl,rfl⟩))
 all_goals
  go_ret
  exact ⟨Qah (by first | exact HR.out.symm | (rw [HR.out];done) | (rw [HR.out];simp_all;done)),HB0.out⟩
theorem Zd2 (vx:ByteArray) (vla:Option Addr) (vll vlc:Nat) (vka:Option Addr) (vkl vkc i:Nat) (k:Int) (w:World) (_hi:i<1000) (_hn:vkl≤1000) (hu:Qim k=true):Calls Tryz.prog 59 #[.agg #[.int .i64 21,.string vx,.slice vla vll vlc,.slice vka vkl vkc],.int .i64 i,.int .i64 k] w fun e w'=>e = .returned (.bool (Qgq 21 vkl i k))∧Below w.heap.size w w':=by
 have HX:=hQ (xH w (.cells #[.int .i64 21,.string vx,.slice vla vll vlc,.slice vka vkl vkc] 25));have HB0:=hQ ((xC w.heap.size w).alloc (xA _) (.cells #[.int .i64 21,.string vx,.slice vla vll vlc,.slice vka vkl vkc] 25));have k0:(w.alloc (.cells #[.int .i64 21,.string vx,.slice vla vll vlc,.slice vka vkl vkc] 25)).cell? ⟨w.heap.size,0,none⟩=some (.int .i64 21):=Qab HX.out 0 _ rfl;have k3:(w.alloc (.cells #[.int .i64 21,.string vx,.slice vla vll vlc,.slice vka vkl vkc] 25)).cell? ⟨w.heap.size,3,none⟩=some (.slice vka vkl vkc):=Qab HX.out 3 _ rfl;have HR:=hQ (show Qgq 21 vkl i k=true from by show (Qim k || (decide (i=0) && k==21))=true;rw [hu];rfl)
 go_enter Tryz.func59,Tryz.ntmps59
 go_wp2_with (first | (go_at_call 92;refine (Qcg _ _).mono ?_;rintro e w1 ⟨rfl,rfl⟩) | (go_at_call 30;refine (Qcx _ _).mono ?_;rintro e w1 ⟨rfl,rfl⟩) | (go_at_call 93;refine (Qco _ _).mono ?_;rw [hu];rintro e w1 ⟨rfl,rfl⟩))
 all_goals
  go_ret
  exact ⟨Qah (by first | exact HR.out.symm | (rw [HR.out];done) | (rw [HR.out];simp_all;done)),HB0.out⟩
theorem Zd3 (vx:ByteArray) (vla:Option Addr) (vll vlc:Nat) (vka:Option Addr) (vkl vkc i:Nat) (k:Int) (w:World) (_hi:i<1000) (_hn:vkl≤1000) (hu:Qim k=false):Calls Tryz.prog 59 #[.agg #[.int .i64 21,.string vx,.slice vla vll vlc,.slice vka vkl vkc],.int .i64 i,.int .i64 k] w fun e w'=>e = .returned (.bool (Qgq 21 vkl i k))∧Below w.heap.size w w':=by
 have HX:=hQ (xH w (.cells #[.int .i64 21,.string vx,.slice vla vll vlc,.slice vka vkl vkc] 25));have HB0:=hQ ((xC w.heap.size w).alloc (xA _) (.cells #[.int .i64 21,.string vx,.slice vla vll vlc,.slice vka vkl vkc] 25));have k0:(w.alloc (.cells #[.int .i64 21,.string vx,.slice vla vll vlc,.slice vka vkl vkc] 25)).cell? ⟨w.heap.size,0,none⟩=some (.int .i64 21):=Qab HX.out 0 _ rfl;have k3:(w.alloc (.cells #[.int .i64 21,.string vx,.slice vla vll vlc,.slice vka vkl vkc] 25)).cell? ⟨w.heap.size,3,none⟩=some (.slice vka vkl vkc):=Qab HX.out 3 _ rfl;have HR:=hQ (show Qgq 21 vkl i k=(decide (i=0) && k==21) from by show (Qim k || (decide (i=0) && k==21))=_;rw [hu];rfl)
 by_cases h0:i=0
 ·subst h0
  go_enter Tryz.func59,Tryz.ntmps59
  go_wp2_with (first | (go_at_call 92;refine (Qcg _ _).mono ?_;rintro e w1 ⟨rfl,rfl⟩) | (go_at_call 30;refine (Qcx _ _).mono ?_;rintro e w1 ⟨rfl,rfl⟩) | (go_at_call 93;refine (Qco _ _).mono ?_;rw [hu];rintro e w1 ⟨rfl,rfl⟩))
  all_goals
   go_ret
   exact ⟨Qah (by first | exact HR.out.symm | (rw [HR.out];simp_all;done)),HB0.out⟩
 ·have d1:((i:Int)==0)=false:=beq_eq_false_iff_ne.2 (by omega);have d2:(i==0)=false:=beq_eq_false_iff_ne.2 h0;have HR2:=hQ (show Qgq 21 vkl i k=false from by rw [HR.out,xR h0];rfl);clear h0
  go_enter Tryz.func59,Tryz.ntmps59
  go_wp2_with (first | (go_at_call 92;refine (Qcg _ _).mono ?_;rintro e w1 ⟨rfl,rfl⟩) | (go_at_call 30;refine (Qcx _ _).mono ?_;rintro e w1 ⟨rfl,rfl⟩) | (go_at_call 93;refine (Qco _ _).mono ?_;rw [hu];rintro e w1 ⟨rfl,rfl⟩))
  all_goals
   go_ret
   exact ⟨Qah (by first | exact HR2.out.symm | (rw [HR2.out];simp_all;done)),HB0.out⟩
theorem Qwt (tk:Int) (vx:ByteArray) (vla:Option Addr) (vll vlc:Nat) (vka:Option Addr) (vkl vkc i:Nat) (k:Int) (w:World) (_hi:i<1000) (_hn:vkl≤1000) (h:tk≠1∧tk≠2∧tk≠3∧tk≠4∧tk≠8∧tk≠16∧tk≠21):Calls Tryz.prog 59 #[.agg #[.int .i64 tk,.string vx,.slice vla vll vlc,.slice vka vkl vkc],.int .i64 i,.int .i64 k] w fun e w'=>e = .returned (.bool (Qgq tk vkl i k))∧Below w.heap.size w w':=by
 have HX:=hQ (xH w (.cells #[.int .i64 tk,.string vx,.slice vla vll vlc,.slice vka vkl vkc] 25));have HB0:=hQ ((xC w.heap.size w).alloc (xA _) (.cells #[.int .i64 tk,.string vx,.slice vla vll vlc,.slice vka vkl vkc] 25));have k0:(w.alloc (.cells #[.int .i64 tk,.string vx,.slice vla vll vlc,.slice vka vkl vkc] 25)).cell? ⟨w.heap.size,0,none⟩=some (.int .i64 tk):=Qab HX.out 0 _ rfl;have k3:(w.alloc (.cells #[.int .i64 tk,.string vx,.slice vla vll vlc,.slice vka vkl vkc] 25)).cell? ⟨w.heap.size,3,none⟩=some (.slice vka vkl vkc):=Qab HX.out 3 _ rfl;have HR:=hQ (show Qgq tk vkl i k=Qk1 k from by unfold Qgq;rw [xN (by omega),xN (by omega),xN (by omega),xN (by omega),xN (by omega)]);have e1:=Qcr (show tk≠1 from by omega);have e2:=Qcr (show tk≠2 from by omega);have e3:=Qcr (show tk≠3 from by omega);have e4:=Qcr (show tk≠4 from by omega);have e8:=Qcr (show tk≠8 from by omega);have e16:=Qcr (show tk≠16 from by omega);have e21:=Qcr (show tk≠21 from by omega);clear h
 go_enter Tryz.func59,Tryz.ntmps59
 go_wp2_with (first | (go_at_call 92;refine (Qcg _ _).mono ?_;rintro e w1 ⟨rfl,rfl⟩) | (go_at_call 30;refine (Qcx _ _).mono ?_;rintro e w1 ⟨rfl,rfl⟩) | (go_at_call 93;refine (Qco _ _).mono ?_;rintro e w1 ⟨rfl,rfl⟩))
 all_goals
  go_ret
  exact ⟨Qah (by first | exact HR.out.symm | (rw [HR.out];done) | (rw [HR.out];simp_all;done)),HB0.out⟩
theorem Qpj (tk:Int) (vx:ByteArray) (vla:Option Addr) (vll vlc:Nat) (vka:Option Addr) (vkl vkc i:Nat) (k:Int) (w:World) (hi:i<1000) (hn:vkl≤1000):Calls Tryz.prog 59 #[.agg #[.int .i64 tk,.string vx,.slice vla vll vlc,.slice vka vkl vkc],.int .i64 i,.int .i64 k] w fun e w'=>e = .returned (.bool (Qgq tk vkl i k))∧Below w.heap.size w w':=by
 by_cases h:tk≠1∧tk≠2∧tk≠3∧tk≠4∧tk≠8∧tk≠16∧tk≠21
 ·exact Qwt tk vx vla vll vlc vka vkl vkc i k w hi hn h
 ·rcases (show tk=1∨tk=2∨tk=3∨tk=4∨tk=8∨tk=16∨tk=21 from by omega) with rfl | rfl | rfl | rfl | rfl | rfl | rfl
  ·exact Zh9 vx vla vll vlc vka vkl vkc i k w hi hn
  ·by_cases h1:i+1=vkl
   ·exact Zgs vx vla vll vlc vka vkl vkc i k w hi hn h1
   ·by_cases h2:i+2=vkl
    ·exact Zgt vx vla vll vlc vka vkl vkc i k w hi hn h1 h2
    ·exact Zgu vx vla vll vlc vka vkl vkc i k w hi hn h1 h2
  ·exact Zia vx vla vll vlc vka vkl vkc i k w hi hn
  ·exact Zib vx vla vll vlc vka vkl vkc i k w hi hn
  ·exact Zic vx vla vll vlc vka vkl vkc i k w hi hn
  ·exact Zgv vx vla vll vlc vka vkl vkc i k w hi hn
  ·cases hu:Qim k
   ·exact Zd3 vx vla vll vlc vka vkl vkc i k w hi hn hu
   ·exact Zd2 vx vla vll vlc vka vkl vkc i k w hi hn hu
mutual
def Qcy:Tr→Bool
 | .mk k x _ ks=>!decide (Qau k ks.length<0) && Qbn (Qae k) x && Qcq k ks.length 0 ks
def Qcq:Int→Nat→Nat→List Tr→Bool
 | _,_,_,[]=>true
 | k,n,i,a :: r=>Qgq k n i a.kind && Qcy a && Qcq k n (i+1) r
end
theorem Qhi (t:Tr):Qcy t=(!decide (Qau t.kind t.kids.length<0) && Qbn (Qae t.kind) t.text && Qcq t.kind t.kids.length 0 t.kids):=by
 cases t with
 | mk k x ls ks=>rw [Qcy];rfl
theorem Qte (k:Int) (n:Nat) (l:List Tr) (j:Nat) (a:Tr) (h:l[j]? = some a):Qcq k n j (l.drop j)=(Qgq k n j a.kind && Qcy a && Qcq k n (j+1) (l.drop (j+1))):=by
 obtain ⟨hj,he⟩:=xP.1 h;rw [List.drop_eq_getElem_cons hj,he,Qcq]
theorem Qq2 (k:Int) (n:Nat) (l:List Tr) (j:Nat) (h:l.length≤j):Qcq k n j (l.drop j)=true:=by
 rw [List.drop_eq_nil_of_le h,Qcq]
theorem Qn8 (k:Int) (n:Nat) (hn:n≤1000):(Qb4 (Qae k) n).2 = !decide (Qau k n<0):=by
 rw [←Qun k n (by omega)];unfold Qla
 have hc:∀ (l:List Part) (m:Int),0≤Qig l m:=by
  intro l m
  induction l with
  | nil=>exact Int.le_refl 0
  | cons x r ih =>
   rw [Qig]
   split
   ·rename_i h
    simp only [Bool.and_eq_true,decide_eq_true_eq] at h;omega
   ·omega
 cases (Qb4 (Qae k) n).2
 ·rw [xN (by decide)];rfl
 ·rw [xO rfl];have:=hc (Qae k) (Qb4 (Qae k) n).1
  rw [xR (by omega)];rfl
theorem Qez {k:Int} {n:Nat} {o:Int} (hl:Qae k≠[]) (ho:(Qo6 (Qae k):Int)=o):(Qb4 (Qae k) n).1=n-o:=by
 unfold Qb4;rw [xN (fun h=>by rcases h with h | h;exact hl h;omega),Qks,ho]
theorem Qfh {n:Nat} {must m:Int} (h:(!decide (Qbd n must m<0))=true):(n:Int)=must:=by
 unfold Qbd at h
 by_cases e:(n:Int)=must
 ·exact e
 ·rw [xN e] at h;exact absurd h (by decide)
theorem Zgw (n:Nat):Qen (Qae 1) (Qb4 (Qae 1) n).1=List.replicate n 1:=by
 rw [Qez (o:=0) (by decide) rfl];simp [Qae,Qen,Qb0,Qcn,Qe5,Qge]
theorem Zgx (n:Nat) (h:2≤n):Qen (Qae 2) (Qb4 (Qae 2) n).1=List.replicate (n-2) 2 ++ [3,5]:=by
 rw [Qez (o:=2) (by decide) rfl];have:((n:Int)-2).toNat=n-2:=by omega
 simp [Qae,Qen,Qb0,Qcn,Qe5,Qge,Qkq,this]
theorem Zd4 (n:Nat):Qen (Qae 16) (Qb4 (Qae 16) n).1=List.replicate n 4:=by
 rw [Qez (o:=0) (by decide) rfl];simp [Qae,Qen,Qb0,Qcn,Qe5,Qge]
theorem Zd5 (n:Nat):Qen (Qae 18) (Qb4 (Qae 18) n).1=List.replicate n 5:=by
 rw [Qez (o:=0) (by decide) rfl];simp [Qae,Qen,Qb0,Qcn,Qge]
theorem Qpk {n j:Nat} {s:Int} (h:j<n):(List.replicate n s)[j]? = some s:=by rw [List.getElem?_replicate];simp [h]
theorem Qin {k:Int} (h:¬ (k≤0∨23≤k)):k=1∨k=2∨k=3∨k=4∨k=5∨k=6∨k=7∨k=8∨k=9∨k=10∨k=11∨k=12∨k=13∨k=14∨k=15∨k=16∨k=17∨k=18∨k=19∨k=20∨k=21∨k=22:=by omega
theorem Zah (k:Int) (n:Nat) (hn:n≤1000) (h:(Qb4 (Qae k) n).2=true) (j:Nat) (hj:j<n):∃ s,(Qen (Qae k) (Qb4 (Qae k) n).1)[j]? = some s∧∀ kd,Qgq k n j kd=Qfg s kd:=by
 have hq:=h;rw [Qn8 k n hn] at hq
 by_cases h0:k≤0∨23≤k
 ·rw [Qdv h0] at h;simp [Qb4] at h
 ·rcases Qin h0 with rfl | rfl | rfl | rfl | rfl | rfl | rfl | rfl | rfl | rfl | rfl | rfl | rfl | rfl | rfl | rfl | rfl | rfl | rfl | rfl | rfl | rfl
  ·exact ⟨1,by rw [Zgw];exact Qpk hj,fun kd=>rfl⟩
  ·have h2:2≤n:=by
    rcases Nat.lt_or_ge n 2 with h' | h'
    ·rw [show Qau 2 n = -1 from by show (if 2≤(n:Int) then 6+max 0 ((n:Int)-3) else -1)=_;rw [xN (by omega)]] at hq;exact absurd hq (by decide)
    ·exact h'
   rw [Zgx n h2]
   by_cases j1:j+1=n
   ·refine ⟨5,?_,fun kd=>?_⟩
    ·rw [xX (by simp;omega),List.length_replicate,show j-(n-2)=1 from by omega];rfl
    ·unfold Qgq;rw [xN (by decide),xO rfl,xO j1];exact Qhh kd
   ·by_cases j2:j+2=n
    ·refine ⟨3,?_,fun kd=>?_⟩
     ·rw [xX (by simp;omega),List.length_replicate,show j-(n-2)=0 from by omega];rfl
     ·unfold Qgq;rw [xN (by decide),xO rfl,xN j1,xO j2]
    ·refine ⟨2,?_,fun kd=>?_⟩
     ·rw [yB (by simp;omega)];exact Qpk (by omega)
     ·unfold Qgq;rw [xN (by decide),xO rfl,xN j1,xN j2];rfl
  ·obtain rfl:n=1:=by have:=Qfh (n:=n) (must:=1) (m:=3) hq;omega
   obtain rfl:j=0:=by omega
   exact ⟨3,rfl,fun kd=>rfl⟩
  ·obtain rfl:n=1:=by have:=Qfh (n:=n) (must:=1) (m:=2) hq;omega
   obtain rfl:j=0:=by omega
   exact ⟨3,rfl,fun kd=>rfl⟩
  ·have:=Qfh (n:=n) (must:=0) (m:=1) hq;omega
  ·have:=Qfh (n:=n) (must:=0) (m:=1) hq;omega
  ·have:=Qfh (n:=n) (must:=0) (m:=1) hq;omega
  ·obtain rfl:n=1:=by have:=Qfh (n:=n) (must:=1) (m:=2) hq;omega
   obtain rfl:j=0:=by omega
   exact ⟨3,rfl,fun kd=>rfl⟩
  ·have:=Qfh (n:=n) (must:=0) (m:=1) hq;omega
  ·have:=Qfh (n:=n) (must:=0) (m:=1) hq;omega
  ·have:=Qfh (n:=n) (must:=0) (m:=1) hq;omega
  ·have:=Qfh (n:=n) (must:=0) (m:=1) hq;omega
  ·have:=Qfh (n:=n) (must:=0) (m:=1) hq;omega
  ·have:=Qfh (n:=n) (must:=0) (m:=1) hq;omega
  ·have:=Qfh (n:=n) (must:=0) (m:=1) hq;omega
  ·exact ⟨4,by rw [Zd4];exact Qpk hj,fun kd=>rfl⟩
  ·obtain rfl:n=1:=by have:=Qfh (n:=n) (must:=1) (m:=0) hq;omega
   obtain rfl:j=0:=by omega
   exact ⟨5,rfl,fun kd=>Qhh kd⟩
  ·exact ⟨5,by rw [Zd5];exact Qpk hj,fun kd=>Qhh kd⟩
  ·obtain rfl:n=3:=by have:=Qfh (n:=n) (must:=3) (m:=3) hq;omega
   rcases (show j=0∨j=1∨j=2 from by omega) with rfl | rfl | rfl <;> exact ⟨5,rfl,fun kd=>Qhh kd⟩
  ·obtain rfl:n=2:=by have:=Qfh (n:=n) (must:=2) (m:=4) hq;omega
   rcases (show j=0∨j=1 from by omega) with rfl | rfl <;> exact ⟨5,rfl,fun kd=>Qhh kd⟩
  ·obtain rfl:n=2:=by have:=Qfh (n:=n) (must:=2) (m:=1) hq;omega
   rcases (show j=0∨j=1 from by omega) with rfl | rfl
   ·exact ⟨6,rfl,fun kd=>Qws kd⟩
   ·exact ⟨7,rfl,fun kd=>by rw [←Zaf];show (Qim kd || (decide (1=0) && kd==21))=Qim kd;simp⟩
  ·obtain rfl:n=1:=by have:=Qfh (n:=n) (must:=1) (m:=2) hq;omega
   obtain rfl:j=0:=by omega
   exact ⟨5,rfl,fun kd=>Qhh kd⟩
theorem Qmz (k:Int) (n:Nat):∀ (ks:List Tr) (i:Nat) (ss:List Int),(∀ a∈ks,Qcy a=Qan a)→(∀ j,j<ks.length→∃ s,ss[j]? = some s∧∀ kd,Qgq k n (i+j) kd=Qfg s kd)→Qcq k n i ks=Qc1 ks ss
 | [],i,ss,_,_=>by rw [Qcq,Qjl]
 | a :: r,i,ss,ha,hs=>by
  obtain ⟨s,h0,hk⟩:=hs 0 (by simp);cases ss with
  | nil=>simp at h0
  | cons s' ss =>
   simp at h0
   subst h0;have hk0:Qgq k n i a.kind=Qfg s' a.kind:=hk a.kind
   rw [Qcq,Qlc,←hk0,ha a (by simp),Qmz k n r (i+1) ss (fun x hx=>ha x (by simp [hx])) (fun j hj=>by
    obtain ⟨s,h1,h2⟩:=hs (j+1) (by simp;omega);exact ⟨s,by simpa using h1,fun kd=>by rw [show i+1+j=i+(j+1) from by omega];exact h2 kd⟩)]
theorem Quo {l:List Tr} {a:Tr} (h:a∈l):Qak a≤Qaq l:=by
 induction l with
 | nil=>simp at h
 | cons x r ih =>
  rw [Qaq]
  rcases List.mem_cons.1 h with rfl | h
  ·omega
  ·have:=ih h;omega
theorem Qwu {l:List Tr} {a:Tr} (h:a∈l):SizeOf.sizeOf a<SizeOf.sizeOf l:=List.sizeOf_lt_of_mem h
theorem Qgo (N:Nat):∀ t:Tr,SizeOf.sizeOf t≤N→Qak t≤1000→Qcy t=Qan t:=by
 induction N with
 | zero=>intro t h;have:=Qgu t;omega
 | succ N ih =>
  intro t hN hs;have hkl:=Qba t.kids;have hsz:=Qa7 t;rw [Qhi,Qkr,←Qn8 t.kind t.kids.length (by omega)]
  cases hf:(Qb4 (Qae t.kind) t.kids.length).2
  ·rfl
  ·rw [Qmz t.kind t.kids.length t.kids 0 _ (fun a ha=>ih a (by
    have h1:=Qwu ha;cases t with
    | mk k x ls ks =>
     simp at hN
     have:SizeOf.sizeOf (Tr.mk k x ls ks).kids=SizeOf.sizeOf ks:=rfl
     omega) (by have:=Quo ha;omega)) (fun j hj=>by rw [Nat.zero_add];exact Zah t.kind t.kids.length (by omega) hf j hj)]
mutual
theorem Qlh:(t:Tr)→(n:Nat)→Qdn t n=decide (Qeh t≤n)
 | t,0=>by
  rw [show Qdn t 0=false from by cases t;rw [Qdn],xR];rw [Qml];omega
 | .mk k x ls ks,n+1=>by
  rw [Qdn,Qeh,Qkd ks n]
  by_cases h:Qc5 ks≤n
  ·rw [xS h,xS (by omega)]
  ·rw [xR h,xR (by omega)]
theorem Qkd:(l:List Tr)→(n:Nat)→Qfa l n=decide (Qc5 l≤n)
 | [],n=>by rw [Qfa,Qc5];simp
 | t :: r,n=>by
  rw [Qfa,Qc5,Qlh t n,Qkd r n]
  by_cases h1:Qeh t≤n
  ·by_cases h2:Qc5 r≤n
   ·rw [xS h1,xS h2,xS (p:=max (Qeh t) (Qc5 r)≤n) (by omega)];rfl
   ·rw [xS h1,xR h2,xR (p:=max (Qeh t) (Qc5 r)≤n) (by omega)];rfl
  ·rw [xR h1,xR (p:=max (Qeh t) (Qc5 r)≤n) (by omega),Bool.false_and]
end
def Qlx (k:Int) (n:Nat):Bool:=(k==1 && decide (40<n)) || (k==2 && decide (10<n)) || (k==16 && decide (8<n)) || (k==18 && decide (16<n))
theorem Zai (k:Int) (n:Nat):Qlv (Qae k) (Qb4 (Qae k) n).1 = !Qlx k n:=by
 by_cases h0:k≤0∨23≤k
 ·rw [Qdv h0];unfold Qlx;rw [show (k==1)=false from Qcr (by omega),show (k==2)=false from Qcr (by omega),show (k==16)=false from Qcr (by omega),show (k==18)=false from Qcr (by omega)];rfl
 ·rcases Qin h0 with rfl | rfl | rfl | rfl | rfl | rfl | rfl | rfl | rfl | rfl | rfl | rfl | rfl | rfl | rfl | rfl | rfl | rfl | rfl | rfl | rfl | rfl
  ·rw [Qez (o:=0) (by decide) rfl]
   by_cases h:40<n
   ·simp [Qae,Qlv,Qb0,Qcn,Qe5,Qge,Qlx,h];omega
   ·simp [Qae,Qlv,Qb0,Qcn,Qe5,Qge,Qlx,h];omega
  ·rw [Qez (o:=2) (by decide) rfl]
   by_cases h:10<n
   ·simp [Qae,Qlv,Qb0,Qcn,Qe5,Qge,Qkq,Qlx,h];omega
   ·simp [Qae,Qlv,Qb0,Qcn,Qe5,Qge,Qkq,Qlx,h];omega
  ·rfl
  ·rfl
  ·rfl
  ·rfl
  ·rfl
  ·rfl
  ·rfl
  ·rfl
  ·rfl
  ·rfl
  ·rfl
  ·rfl
  ·rfl
  ·rw [Qez (o:=0) (by decide) rfl]
   by_cases h:8<n
   ·simp [Qae,Qlv,Qb0,Qcn,Qe5,Qge,Qlx,h];omega
   ·simp [Qae,Qlv,Qb0,Qcn,Qe5,Qge,Qlx,h];omega
  ·rfl
  ·rw [Qez (o:=0) (by decide) rfl]
   by_cases h:16<n
   ·simp [Qae,Qlv,Qb0,Qcn,Qge,Qlx,h];omega
   ·simp [Qae,Qlv,Qb0,Qcn,Qge,Qlx,h];omega
  ·rfl
  ·rfl
  ·rfl
  ·rfl
theorem Zaj (t:Tr):Qf8 t=(!Qlx t.kind t.kids.length && Qlw t.kids):=by rw [Zf5,Zai]
def ldR (ls:List ByteArray) (i:Nat):ByteArray:=(ls[i]?).getD ⟨#[]⟩
theorem Qjd (cs:List ByteArray):∀ (l:List (List Qbl)) (i:Nat),Qa9 false cs i l=l.flatten
 | [],i=>by rw [Qa9];rfl
 | p :: r,i=>by rw [Qa9,Qjd cs r (i+1),xN (by simp)];rfl
theorem Qke (co:Bool) (cs:List ByteArray) (p:List Qbl):∀ (l:List (List Qbl)) (i:Nat),Qa9 co cs i (l ++ [p])=Qa9 co cs i l ++ ((if 0<i+l.length∧co=true then [(ldR cs (i+l.length-1),⟨#[44]⟩)] else []) ++ p)
 | [],i=>by rw [xU,Qa9,Qa9,Qa9,List.append_nil,xU,xG,Nat.add_zero];rfl
 | a :: r,i=>by rw [xV,Qa9,Qa9,Qke co cs p r (i+1),xD,show i+1+r.length=i+(r.length+1) from by omega];simp only [xT]
def Qf3 (ls:List ByteArray) (comma:Nat) (ks:List Tr):List Qbl:=Qa9 true (ls.drop comma) 0 (ks.map Qaf)
theorem Zd6 (ls:List ByteArray) (comma:Nat):Qf3 ls comma [] = []:=by unfold Qf3;rw [List.map_nil,Qa9]
theorem Zd7 (ls:List ByteArray) (c i:Nat):ldR (ls.drop c) i=ldR ls (c+i):=by unfold ldR;rw [List.getElem?_drop]
theorem Zak (ls:List ByteArray) (comma:Nat) (ks:List Tr) (k:Tr):Qf3 ls comma (ks ++ [k])=Qf3 ls comma ks ++ ((if 0<ks.length then [(ldR ls (comma+ks.length-1),⟨#[44]⟩)] else []) ++ Qaf k):=by
 unfold Qf3;rw [List.map_append,List.map_cons,List.map_nil,Qke,List.length_map,Nat.zero_add,Zd7]
 by_cases h:0<ks.length
 ·rw [xO ⟨h,rfl⟩,xO h,show comma+(ks.length-1)=comma+ks.length-1 from by omega]
 ·rw [xN (fun e=>h e.1),xN h]
section
variable (x:ByteArray) (ls:List ByteArray)
theorem Zd8 (ks:List Tr):Qaf (.mk 1 x ls ks) = [(ldR ls 0,⟨#[109,111,100,117,108,101]⟩),(ldR ls 1,x)] ++ ((ks.map Qaf).flatten ++ [(ldR ls 2,⟨#[]⟩)]):=by
 rw [Qdc]
 show Qbr (Qb4 (Qae 1) ks.length).1 x (ls.drop (Qce (Qae 1))) (Qae 1) ls (ks.map Qaf)=_
 rw [Qez (o:=0) (by decide) rfl];have ht:List.take ks.length (ks.map Qaf)=ks.map Qaf:=List.take_of_length_le (by simp);simp [Qae,Qbr,Qb0,Qcn,Qe5,Qge,Qjd,ldR,ht]
theorem Zd9 (ps:List Tr) (a b:Tr):Qaf (.mk 2 x ls (ps ++ [a,b])) = [(ldR ls 0,⟨#[100,101,102]⟩),(ldR ls 1,x),(ldR ls 2,⟨#[40]⟩)] ++ (Qf3 ls 6 ps ++ ([(ldR ls 3,⟨#[41]⟩),(ldR ls 4,⟨#[58]⟩)] ++ (Qaf a ++ ([(ldR ls 5,⟨#[61]⟩)] ++ Qaf b)))):=by
 rw [Qdc]
 show Qbr (Qb4 (Qae 2) (ps ++ [a,b]).length).1 x (ls.drop (Qce (Qae 2))) (Qae 2) ls ((ps ++ [a,b]).map Qaf)=_
 rw [Qez (o:=2) (by decide) rfl];have hn:(((ps ++ [a,b]).length:Nat):Int)-2=(ps.length:Int):=by simp
 rw [hn];have h1:List.take ps.length (ps.map Qaf ++ [Qaf a,Qaf b])=ps.map Qaf:=by rw [List.take_append_of_le_length (by simp),List.take_of_length_le (by simp)]
 have h2:List.drop ps.length (ps.map Qaf ++ [Qaf a,Qaf b]) = [Qaf a,Qaf b]:=by rw [List.drop_append_of_le_length (by simp),List.drop_of_length_le (by simp)];rfl
 simp [Qae,Qbr,Qb0,Qcn,Qe5,Qge,Qkq,Qce,Qa9,ldR,h1,h2,Qf3]
theorem Zea (a:Tr):Qaf (.mk 3 x ls [a]) = [(ldR ls 0,⟨#[116,121,112,101]⟩),(ldR ls 1,x),(ldR ls 2,⟨#[61]⟩)] ++ Qaf a:=by
 rw [Qdc]
 show Qbr (Qb4 (Qae 3) 1).1 x (ls.drop (Qce (Qae 3))) (Qae 3) ls [Qaf a] = _
 simp [Qae,Qbr,Qb0,Qcn,Qe5,Qkq,Qa9,ldR]
theorem Zeb (a:Tr):Qaf (.mk 4 x ls [a]) = [(ldR ls 0,x),(ldR ls 1,⟨#[58]⟩)] ++ Qaf a:=by
 rw [Qdc]
 show Qbr (Qb4 (Qae 4) 1).1 x (ls.drop (Qce (Qae 4))) (Qae 4) ls [Qaf a] = _
 simp [Qae,Qbr,Qb0,Qcn,Qe5,Qkq,Qa9,ldR]
theorem Zec (a:Tr):Qaf (.mk 8 x ls [a]) = [(ldR ls 0,⟨#[91]⟩)] ++ (Qaf a ++ [(ldR ls 1,⟨#[93]⟩)]):=by
 rw [Qdc]
 show Qbr (Qb4 (Qae 8) 1).1 x (ls.drop (Qce (Qae 8))) (Qae 8) ls [Qaf a] = _
 simp [Qae,Qbr,Qb0,Qcn,Qkq,Qa9,ldR]
theorem Zal (ks:List Tr):Qaf (.mk 16 x ls ks) = [(ldR ls 0,x),(ldR ls 1,⟨#[40]⟩)] ++ (Qf3 ls 3 ks ++ [(ldR ls 2,⟨#[41]⟩)]):=by
 rw [Qdc]
 show Qbr (Qb4 (Qae 16) ks.length).1 x (ls.drop (Qce (Qae 16))) (Qae 16) ls (ks.map Qaf)=_
 rw [Qez (o:=0) (by decide) rfl];have ht:List.take ks.length (ks.map Qaf)=ks.map Qaf:=List.take_of_length_le (by simp);simp [Qae,Qbr,Qb0,Qcn,Qe5,Qge,Qce,ldR,ht,Qf3]
theorem Qq3 (a:Tr):Qaf (.mk 17 x ls [a])=Qaf a:=by
 rw [Qdc]
 show Qbr (Qb4 (Qae 17) 1).1 x (ls.drop (Qce (Qae 17))) (Qae 17) ls [Qaf a] = _
 simp [Qae,Qbr,Qb0,Qkq,Qa9]
theorem Zam (ks:List Tr):Qaf (.mk 18 x ls ks) = [(ldR ls 0,⟨#[91]⟩)] ++ (Qf3 ls 2 ks ++ [(ldR ls 1,⟨#[93]⟩)]):=by
 rw [Qdc]
 show Qbr (Qb4 (Qae 18) ks.length).1 x (ls.drop (Qce (Qae 18))) (Qae 18) ls (ks.map Qaf)=_
 rw [Qez (o:=0) (by decide) rfl];have ht:List.take ks.length (ks.map Qaf)=ks.map Qaf:=List.take_of_length_le (by simp);simp [Qae,Qbr,Qb0,Qcn,Qge,Qce,ldR,ht,Qf3]
theorem Zan (a b c:Tr):Qaf (.mk 19 x ls [a,b,c]) = [(ldR ls 0,⟨#[105,102]⟩)] ++ (Qaf a ++ ([(ldR ls 1,⟨#[116,104,101,110]⟩)] ++ (Qaf b ++ ([(ldR ls 2,⟨#[101,108,115,101]⟩)] ++ Qaf c)))):=by
 rw [Qdc]
 show Qbr (Qb4 (Qae 19) 3).1 x (ls.drop (Qce (Qae 19))) (Qae 19) ls [Qaf a,Qaf b,Qaf c] = _
 simp [Qae,Qbr,Qb0,Qcn,Qkq,Qa9,ldR]
theorem Zao (a b:Tr):Qaf (.mk 20 x ls [a,b]) = [(ldR ls 0,⟨#[108,101,116]⟩),(ldR ls 1,x),(ldR ls 2,⟨#[61]⟩)] ++ (Qaf a ++ ([(ldR ls 3,⟨#[105,110]⟩)] ++ Qaf b)):=by
 rw [Qdc]
 show Qbr (Qb4 (Qae 20) 2).1 x (ls.drop (Qce (Qae 20))) (Qae 20) ls [Qaf a,Qaf b] = _
 simp [Qae,Qbr,Qb0,Qcn,Qe5,Qkq,Qa9,ldR]
theorem Zap (a b:Tr):Qaf (.mk 21 x ls [a,b])=Qaf a ++ ([(ldR ls 0,x)] ++ Qaf b):=by
 rw [Qdc]
 show Qbr (Qb4 (Qae 21) 2).1 x (ls.drop (Qce (Qae 21))) (Qae 21) ls [Qaf a,Qaf b] = _
 simp [Qae,Qbr,Qb0,Qe5,Qkq,Qa9,ldR]
theorem Zaq (a:Tr):Qaf (.mk 22 x ls [a]) = [(ldR ls 0,⟨#[40]⟩)] ++ (Qaf a ++ [(ldR ls 1,⟨#[41]⟩)]):=by
 rw [Qdc]
 show Qbr (Qb4 (Qae 22) 1).1 x (ls.drop (Qce (Qae 22))) (Qae 22) ls [Qaf a] = _
 simp [Qae,Qbr,Qb0,Qcn,Qkq,Qa9,ldR]
def Zid (k:Int):Option ByteArray :=
 if k=5 then some ⟨#[73,110,116]⟩ else if k=6 then some ⟨#[84,101,120,116]⟩ else if k=7 then some ⟨#[66,111,111,108]⟩
 else if k=13 then some ⟨#[116,114,117,101]⟩ else if k=14 then some ⟨#[102,97,108,115,101]⟩ else if k=15 then some ⟨#[63]⟩ else none
theorem Qfq (k:Int) (y:ByteArray) (h:Zid k=some y):Qaf (.mk k x ls []) = [(ldR ls 0,y)]:=by
 have:k=5∨k=6∨k=7∨k=13∨k=14∨k=15:=by
  unfold Zid at h
  repeat' split at h
  all_goals first | omega | simp at h
 rcases this with rfl | rfl | rfl | rfl | rfl | rfl <;> (cases h;rw [Qdc];simp [Tr.kind,Tr.text,Tr.leads,Tr.kids,Qae,Qbr,Qcn,ldR])
theorem Qh0 (k:Int) (h:k=9∨k=10∨k=11∨k=12):Qaf (.mk k x ls []) = [(ldR ls 0,x)]:=by
 rcases h with rfl | rfl | rfl | rfl <;> (rw [Qdc];simp [Tr.kind,Tr.text,Tr.leads,Tr.kids,Qae,Qbr,Qe5,ldR])
end
end Go.Proofs.YtfjpemdejoejbaaGreat
