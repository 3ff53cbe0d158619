/- Part 31 -/
import Derived.Test.YtfjpemdejoejbaaGreatTt30
set_option maxRecDepth 100000
set_option maxHeartbeats 4000000
namespace Go.Proofs.YtfjpemdejoejbaaGreat
open Go.RowKit
theorem depthT_eq (t:Tr):Qju t=Qd8 t.kids+1:=by cases t;rw [Qju];rfl
theorem Zc2 (N:Nat):∀ (S:Nat→Prop) (t:Tr) (v:TV) (w:World),SizeOf.sizeOf t≤N→TrAt S w t v→Qal t≤140737488355328 →
  Calls Tryz.prog 71 #[.agg #[.int .i64 v.kind,.string v.text,.slice v.la v.ll v.lc,.slice v.ka v.kl v.kc]] w fun e w'=>e = .returned (.int .i64 (Qju t:Nat))∧Below w.heap.size w w':=by
 induction N with
 | zero=>intro S t v w h;have:=Qf7 t;omega
 | succ N ih =>
  intro S t v w hN h hz;have HIH:=hQ ih;have HB0:=hQ ((xC w.heap.size w).alloc (xA _) (trO v));have HT:=hQ (h.keep HB0.out);have HX:=hQ (xH w (trO v));have HZ:=hQ hz;have HN:=hQ hN;have hkl:=h.kl.1;obtain ⟨vk,vx,vla,vll,vlc,vka,vkl,vkc⟩:=v;simp only at hkl;subst hkl;have hmax:t.kids.length≤140737488355328:=by have:=Qa4 t.kids;rw [Qa9] at hz;omega
  have HMX:=hQ hmax;clear ih h hz hN;have k3:(w.alloc (trO ⟨vk,vx,vla,vll,vlc,vka,t.kids.length,vkc⟩)).cell? ⟨w.heap.size,3,none⟩=some (.slice vka t.kids.length vkc):=Qaa HX.out 3 _ rfl
  go_enter Tryz.func71,Tryz.ntmps71
  go_wp2
  clear k3
  go_loopw [3,4] (fun n i wr=>Qv9 (fun l=>Qd8 l) t (w.alloc (trO ⟨vk,vx,vla,vll,vlc,vka,t.kids.length,vkc⟩)) n i wr) (fun _ i _=>t.kids.length-(intOf i).toNat)
  case atStart=>exact ⟨0,rfl,xZ _,rfl,xC _ _⟩
  case round =>
   obtain ⟨j,rfl,hj,rfl,hb⟩:=hrel;have HBR:=hQ hb;have hx:=(hb.block w.heap.size (Qab HX.out)).trans HX.out;have k3:wr.cell? ⟨w.heap.size,3,none⟩=some (.slice vka t.kids.length vkc):=Qaa hx 3 _ rfl;clear hb hx
   by_cases hlt:j<t.kids.length
   ·obtain ⟨k,hk⟩:∃ k,t.kids[j]? = some k:=⟨_,xF hlt⟩;obtain ⟨b,off,hka⟩:∃ b off,vka=some ⟨b,off,none⟩:=HT.out.addr.resolve_left (by omega);subst hka;obtain ⟨u,c0,c1,c2,c3,hu⟩:=(HT.out.keep HBR.out).at rfl hk;have HU:=hQ hu;have HS1:=hQ (Qd9 hk);have HD1:=hQ (Qks hk);have hs:=Qdm t.kids (j+1);have hs0:=Qd9 hk;have hds:=Qey (t.kids.take j);have hdk:=Qeg k;have HSK:=hQ (xQ (Qdn hk) HZ.out);have HNK:=hQ (show SizeOf.sizeOf k≤N from by have:=Qbn hk;have:=HN.out;omega);have hz:=HZ.out;rw [Qa9] at hz;have q1:((Qak (t.kids.take j):Nat):Int)+(Qal k:Nat)+1≤140737488355328:=by omega
    have q2:((Qd8 (t.kids.take j):Nat):Int)≤140737488355328:=by omega
    have q3:((Qju k:Nat):Int)+1≤140737488355329:=by omega
    have hj0:(0:Int)≤(j:Int):=by omega
    have hj1:(j:Int)<(t.kids.length:Int):=by omega
    have hj2:(j:Int)+1≤140737488355328:=by omega
    clear hk hu hs hs0 hds hdk hz;go_wp2_with (go_at_call 71;refine (HIH.out S k u _ HNK.out (HU.out.keep (xC _ _)) HSK.out).mono ?_;rintro e w2 ⟨rfl,hb2⟩;have HB2:=hQ (HBR.out.trans (hb2.mono HBR.out.size));clear hb2)
    go_roundw
    case rel=>exact ⟨j+1,by go_num,by omega,by show _=Value.int .i64 ((Qd8 (t.kids.take (j+1)):Nat):Int);rw [HD1.out];go_num,HB2.out⟩
    case measure=>simp [intOf];omega
   ·have hjn:j=t.kids.length:=by omega
    subst hjn;have HR:=hQ (show Qju t=Qd8 (t.kids.take t.kids.length)+1 from by rw [depthT_eq,List.take_length]);have hz:=HZ.out;have h1:=Qeg t;have h2:=HR.out
    go_wp2
    go_ret
    exact ⟨Qbx (by have h3:=depthT_eq t;unfold wrap64;omega),HB0.out.trans (HBR.out.mono (by simp))⟩
def Qjf (k:Int):Bool:=decide (10≤k) && decide (k≤22) && (k != 17)
def Qir (k:Int):Bool:=Qjf k && (k != 19) && (k != 20) && (k != 21)
theorem Qf9 (k:Int):Qjf k=Qed 5 k:=by
 unfold Qjf Qed
 by_cases h17:k=17
 ·subst h17;rfl
 ·by_cases h19:k=19
  ·subst h19;rfl
  ·by_cases h20:k=20
   ·subst h20;rfl
   ·by_cases h21:k=21
    ·subst h21;rfl
    ·simp [h17,h19,h20,h21]
theorem Qw1 (k:Int):Qir k=Qed 7 k:=by
 unfold Qir Qjf Qed
 by_cases h17:k=17
 ·subst h17;rfl
 ·by_cases h19:k=19
  ·subst h19;rfl
  ·by_cases h20:k=20
   ·subst h20;rfl
   ·by_cases h21:k=21
    ·subst h21;rfl
    ·have b17:(k != 17)=true:=bne_iff_ne.2 h17;have b19:(k != 19)=true:=bne_iff_ne.2 h19;have b20:(k != 20)=true:=bne_iff_ne.2 h20;have b21:(k != 21)=true:=bne_iff_ne.2 h21;have c21:(k==21)=false:=Qcm h21;rw [xN (by decide),xN (by decide),xN (by decide),xN (by decide),xN h17,xN (fun h=>by omega),xN h21];simp only [b17,b19,b20,b21,Bool.and_true]
theorem Que (k:Int):(Qir k || k==21)=Qed 6 k:=by
 unfold Qir Qjf Qed
 by_cases h17:k=17
 ·subst h17;rfl
 ·by_cases h19:k=19
  ·subst h19;rfl
  ·by_cases h20:k=20
   ·subst h20;rfl
   ·by_cases h21:k=21
    ·subst h21;rfl
    ·have b17:(k != 17)=true:=bne_iff_ne.2 h17;have b19:(k != 19)=true:=bne_iff_ne.2 h19;have b20:(k != 20)=true:=bne_iff_ne.2 h20;have b21:(k != 21)=true:=bne_iff_ne.2 h21;have c21:(k==21)=false:=Qcm h21;rw [xN (by decide),xN (by decide),xN (by decide),xN (by decide),xN h17,xN (fun h=>by omega),xN h21];simp only [b17,b19,b20,b21,Bool.and_true,c21,Bool.or_false]
theorem Qbs (k:Int) (w:World):Calls Tryz.prog 30 #[.int .i64 k] w fun e w'=>e = .returned (.bool (Qed 3 k))∧w=w':=by
 go_enter Tryz.func30,Tryz.ntmps30
 go_wp2
 all_goals
  go_ret
  exact ⟨Qam (by simp_all [Qed];try omega),rfl⟩
theorem Qbz (k:Int) (w:World):Calls Tryz.prog 92 #[.int .i64 k] w fun e w'=>e = .returned (.bool (Qjf k))∧w=w':=by
 go_enter Tryz.func92,Tryz.ntmps92
 go_wp2
 all_goals
  go_ret
  exact ⟨Qam (by simp_all [Qjf];try omega),rfl⟩
theorem Qcd (k:Int) (w:World):Calls Tryz.prog 93 #[.int .i64 k] w fun e w'=>e = .returned (.bool (Qir k))∧w=w':=by
 have HR:=hQ (show Qir k=(Qjf k && (k != 19) && (k != 20) && (k != 21)) from rfl)
 cases hx:Qjf k
 ·go_enter Tryz.func93,Tryz.ntmps93
  go_wp2_with (go_at_call 92;refine (Qbz _ _).mono ?_;rw [hx];rintro e w' ⟨rfl,rfl⟩)
  go_ret
  exact ⟨Qam (by rw [HR.out,hx];rfl),rfl⟩
 ·go_enter Tryz.func93,Tryz.ntmps93
  go_wp2_with (go_at_call 92;refine (Qbz _ _).mono ?_;rw [hx];rintro e w' ⟨rfl,rfl⟩)
  all_goals
   go_ret
   exact ⟨Qam (by rw [HR.out,hx];simp_all),rfl⟩
theorem Zc3 (s:ByteArray) (w:World) (h0:(s.toList == [43])=true):Calls Tryz.prog 91 #[.string s] w fun e w'=>e = .returned (.bool (opB s))∧w=w':=by
 have HR:=hQ (show opB s=true from by unfold opB;simp only [←Qa0,h0];rfl)
 go_enter Tryz.func91,Tryz.ntmps91
 go_wp2
 go_ret
 exact ⟨by rw [HR.out];rfl,rfl⟩
theorem Zc4 (s:ByteArray) (w:World) (h0:(s.toList == [43])=false) (h1:(s.toList == [45])=true):Calls Tryz.prog 91 #[.string s] w fun e w'=>e = .returned (.bool (opB s))∧w=w':=by
 have HR:=hQ (show opB s=true from by unfold opB;simp only [←Qa0,h0,h1];rfl)
 go_enter Tryz.func91,Tryz.ntmps91
 go_wp2
 go_ret
 exact ⟨by rw [HR.out];rfl,rfl⟩
theorem Zc5 (s:ByteArray) (w:World) (h0:(s.toList == [43])=false) (h1:(s.toList == [45])=false) (h2:(s.toList == [42])=true):Calls Tryz.prog 91 #[.string s] w fun e w'=>e = .returned (.bool (opB s))∧w=w':=by
 have HR:=hQ (show opB s=true from by unfold opB;simp only [←Qa0,h0,h1,h2];rfl)
 go_enter Tryz.func91,Tryz.ntmps91
 go_wp2
 go_ret
 exact ⟨by rw [HR.out];rfl,rfl⟩
theorem Zc6 (s:ByteArray) (w:World) (h0:(s.toList == [43])=false) (h1:(s.toList == [45])=false) (h2:(s.toList == [42])=false) (h3:(s.toList == [60])=true):Calls Tryz.prog 91 #[.string s] w fun e w'=>e = .returned (.bool (opB s))∧w=w':=by
 have HR:=hQ (show opB s=true from by unfold opB;simp only [←Qa0,h0,h1,h2,h3];rfl)
 go_enter Tryz.func91,Tryz.ntmps91
 go_wp2
 go_ret
 exact ⟨by rw [HR.out];rfl,rfl⟩
theorem Zc7 (s:ByteArray) (w:World) (h0:(s.toList == [43])=false) (h1:(s.toList == [45])=false) (h2:(s.toList == [42])=false) (h3:(s.toList == [60])=false) (h4:(s.toList == [61,61])=true):Calls Tryz.prog 91 #[.string s] w fun e w'=>e = .returned (.bool (opB s))∧w=w':=by
 have HR:=hQ (show opB s=true from by unfold opB;simp only [←Qa0,h0,h1,h2,h3,h4];rfl)
 go_enter Tryz.func91,Tryz.ntmps91
 go_wp2
 go_ret
 exact ⟨by rw [HR.out];rfl,rfl⟩
theorem Zc8 (s:ByteArray) (w:World) (h0:(s.toList == [43])=false) (h1:(s.toList == [45])=false) (h2:(s.toList == [42])=false) (h3:(s.toList == [60])=false) (h4:(s.toList == [61,61])=false):Calls Tryz.prog 91 #[.string s] w fun e w'=>e = .returned (.bool (opB s))∧w=w':=by
 have HR:=hQ (show opB s=false from by unfold opB;simp only [←Qa0,h0,h1,h2,h3,h4];rfl)
 go_enter Tryz.func91,Tryz.ntmps91
 go_wp2
 go_ret
 exact ⟨by rw [HR.out];rfl,rfl⟩
theorem Qw2 (s:ByteArray) (w:World):Calls Tryz.prog 91 #[.string s] w fun e w'=>e = .returned (.bool (opB s))∧w=w':=by
 cases h0:(s.toList == [43])
 case true=>exact Zc3 s w h0
 cases h1:(s.toList == [45])
 case true=>exact Zc4 s w h0 h1
 cases h2:(s.toList == [42])
 case true=>exact Zc5 s w h0 h1 h2
 cases h3:(s.toList == [60])
 case true=>exact Zc6 s w h0 h1 h2 h3
 cases h4:(s.toList == [61,61])
 case true=>exact Zc7 s w h0 h1 h2 h3 h4
 exact Zc8 s w h0 h1 h2 h3 h4
theorem Qq2 (s:ByteArray) (w:World) (hs:s.size<maxLen):Calls Tryz.prog 58 #[.int .i64 1,.string s] w fun e w'=>e = .returned (.bool (Qau (Qae 1) s))∧Below w.heap.size w w':=by
 have HS:=hQ hs;have HR:=hQ (show Qau (Qae 1) s=Qba 1 (Qag (suf s 0):Nat) s from rfl);clear hs
 go_enter Tryz.func58,Tryz.ntmps58
 go_wp2_with (first | (go_at_call 90;refine (Qcq s _ HS.out).mono ?_;rintro e w1 ⟨rfl,hb1⟩;have HB1:=hQ hb1;clear hb1))
 all_goals
  go_ret
  exact ⟨Qam (by first | exact HR.out.symm | (rw [HR.out];simp_all [Qba];done) | (rw [HR.out];simp [Qba];omega)),HB1.out⟩
theorem Qq3 (s:ByteArray) (w:World) (hs:s.size<maxLen):Calls Tryz.prog 58 #[.int .i64 2,.string s] w fun e w'=>e = .returned (.bool (Qau (Qae 2) s))∧Below w.heap.size w w':=by
 have HS:=hQ hs;have HR:=hQ (show Qau (Qae 2) s=Qba 2 (Qag (suf s 0):Nat) s from rfl);clear hs
 go_enter Tryz.func58,Tryz.ntmps58
 go_wp2_with (first | (go_at_call 90;refine (Qcq s _ HS.out).mono ?_;rintro e w1 ⟨rfl,hb1⟩;have HB1:=hQ hb1;clear hb1))
 all_goals
  go_ret
  exact ⟨Qam (by first | exact HR.out.symm | (rw [HR.out];simp_all [Qba];done) | (rw [HR.out];simp [Qba];omega)),HB1.out⟩
theorem Qq4 (s:ByteArray) (w:World) (hs:s.size<maxLen):Calls Tryz.prog 58 #[.int .i64 3,.string s] w fun e w'=>e = .returned (.bool (Qau (Qae 3) s))∧Below w.heap.size w w':=by
 have HS:=hQ hs;have HR:=hQ (show Qau (Qae 3) s=Qba 1 (Qag (suf s 0):Nat) s from rfl);clear hs
 go_enter Tryz.func58,Tryz.ntmps58
 go_wp2_with (first | (go_at_call 90;refine (Qcq s _ HS.out).mono ?_;rintro e w1 ⟨rfl,hb1⟩;have HB1:=hQ hb1;clear hb1))
 all_goals
  go_ret
  exact ⟨Qam (by first | exact HR.out.symm | (rw [HR.out];simp_all [Qba];done) | (rw [HR.out];simp [Qba];omega)),HB1.out⟩
theorem Qq5 (s:ByteArray) (w:World) (hs:s.size<maxLen):Calls Tryz.prog 58 #[.int .i64 4,.string s] w fun e w'=>e = .returned (.bool (Qau (Qae 4) s))∧Below w.heap.size w w':=by
 have HS:=hQ hs;have HR:=hQ (show Qau (Qae 4) s=Qba 2 (Qag (suf s 0):Nat) s from rfl);clear hs
 go_enter Tryz.func58,Tryz.ntmps58
 go_wp2_with (first | (go_at_call 90;refine (Qcq s _ HS.out).mono ?_;rintro e w1 ⟨rfl,hb1⟩;have HB1:=hQ hb1;clear hb1))
 all_goals
  go_ret
  exact ⟨Qam (by first | exact HR.out.symm | (rw [HR.out];simp_all [Qba];done) | (rw [HR.out];simp [Qba];omega)),HB1.out⟩
theorem Qq6 (s:ByteArray) (w:World) (hs:s.size<maxLen):Calls Tryz.prog 58 #[.int .i64 9,.string s] w fun e w'=>e = .returned (.bool (Qau (Qae 9) s))∧Below w.heap.size w w':=by
 have HS:=hQ hs;have HR:=hQ (show Qau (Qae 9) s=Qba 3 (Qag (suf s 0):Nat) s from rfl);clear hs
 go_enter Tryz.func58,Tryz.ntmps58
 go_wp2_with (first | (go_at_call 90;refine (Qcq s _ HS.out).mono ?_;rintro e w1 ⟨rfl,hb1⟩;have HB1:=hQ hb1;clear hb1))
 all_goals
  go_ret
  exact ⟨Qam (by first | exact HR.out.symm | (rw [HR.out];simp_all [Qba];done) | (rw [HR.out];simp [Qba];omega)),HB1.out⟩
theorem Qo1 (s:ByteArray) (w:World) (hs:s.size<maxLen):Calls Tryz.prog 58 #[.int .i64 10,.string s] w fun e w'=>e = .returned (.bool (Qau (Qae 10) s))∧Below w.heap.size w w':=by
 have HS:=hQ hs;have HR:=hQ (show Qau (Qae 10) s=Qba 5 (Qag (suf s 0):Nat) s from rfl);clear hs
 go_enter Tryz.func58,Tryz.ntmps58
 go_wp2_with (first | (go_at_call 90;refine (Qcq s _ HS.out).mono ?_;rintro e w1 ⟨rfl,hb1⟩;have HB1:=hQ hb1;clear hb1))
 all_goals
  go_ret
  exact ⟨Qam (by first | exact HR.out.symm | (rw [HR.out];simp_all [Qba];done) | (rw [HR.out];simp [Qba];omega)),HB1.out⟩
theorem Qo2 (s:ByteArray) (w:World) (hs:s.size<maxLen):Calls Tryz.prog 58 #[.int .i64 11,.string s] w fun e w'=>e = .returned (.bool (Qau (Qae 11) s))∧Below w.heap.size w w':=by
 have HS:=hQ hs;have HR:=hQ (show Qau (Qae 11) s=Qba 6 (Qag (suf s 0):Nat) s from rfl);clear hs
 go_enter Tryz.func58,Tryz.ntmps58
 go_wp2_with (first | (go_at_call 90;refine (Qcq s _ HS.out).mono ?_;rintro e w1 ⟨rfl,hb1⟩;have HB1:=hQ hb1;clear hb1))
 all_goals
  go_ret
  exact ⟨Qam (by first | exact HR.out.symm | (rw [HR.out];simp_all [Qba];done) | (rw [HR.out];simp [Qba];omega)),HB1.out⟩
theorem Qo3 (s:ByteArray) (w:World) (hs:s.size<maxLen):Calls Tryz.prog 58 #[.int .i64 12,.string s] w fun e w'=>e = .returned (.bool (Qau (Qae 12) s))∧Below w.heap.size w w':=by
 have HS:=hQ hs;have HR:=hQ (show Qau (Qae 12) s=Qba 2 (Qag (suf s 0):Nat) s from rfl);clear hs
 go_enter Tryz.func58,Tryz.ntmps58
 go_wp2_with (first | (go_at_call 90;refine (Qcq s _ HS.out).mono ?_;rintro e w1 ⟨rfl,hb1⟩;have HB1:=hQ hb1;clear hb1))
 all_goals
  go_ret
  exact ⟨Qam (by first | exact HR.out.symm | (rw [HR.out];simp_all [Qba];done) | (rw [HR.out];simp [Qba];omega)),HB1.out⟩
theorem Qo4 (s:ByteArray) (w:World) (hs:s.size<maxLen):Calls Tryz.prog 58 #[.int .i64 16,.string s] w fun e w'=>e = .returned (.bool (Qau (Qae 16) s))∧Below w.heap.size w w':=by
 have HS:=hQ hs;have HR:=hQ (show Qau (Qae 16) s=Qba 4 (Qag (suf s 0):Nat) s from rfl);clear hs
 go_enter Tryz.func58,Tryz.ntmps58
 go_wp2_with (first | (go_at_call 90;refine (Qcq s _ HS.out).mono ?_;rintro e w1 ⟨rfl,hb1⟩;have HB1:=hQ hb1;clear hb1))
 all_goals
  go_ret
  exact ⟨Qam (by first | exact HR.out.symm | (rw [HR.out];simp_all [Qba];done) | (rw [HR.out];simp [Qba];omega)),HB1.out⟩
theorem Qo5 (s:ByteArray) (w:World) (hs:s.size<maxLen):Calls Tryz.prog 58 #[.int .i64 20,.string s] w fun e w'=>e = .returned (.bool (Qau (Qae 20) s))∧Below w.heap.size w w':=by
 have HS:=hQ hs;have HR:=hQ (show Qau (Qae 20) s=Qba 2 (Qag (suf s 0):Nat) s from rfl);clear hs
 go_enter Tryz.func58,Tryz.ntmps58
 go_wp2_with (first | (go_at_call 90;refine (Qcq s _ HS.out).mono ?_;rintro e w1 ⟨rfl,hb1⟩;have HB1:=hQ hb1;clear hb1))
 all_goals
  go_ret
  exact ⟨Qam (by first | exact HR.out.symm | (rw [HR.out];simp_all [Qba];done) | (rw [HR.out];simp [Qba];omega)),HB1.out⟩
theorem Qo6 (s:ByteArray) (w:World) (hs:s.size<maxLen):Calls Tryz.prog 58 #[.int .i64 21,.string s] w fun e w'=>e = .returned (.bool (Qau (Qae 21) s))∧Below w.heap.size w w':=by
 have HS:=hQ hs;have HR:=hQ (show Qau (Qae 21) s=Qba 7 (Qag (suf s 0):Nat) s from rfl);clear hs
 go_enter Tryz.func58,Tryz.ntmps58
 go_wp2_with (first | (go_at_call 90;refine (Qcq s _ HS.out).mono ?_;rintro e w1 ⟨rfl,hb1⟩;have HB1:=hQ hb1;clear hb1) | (go_at_call 91;refine (Qw2 s _).mono ?_;rintro e w2 ⟨rfl,rfl⟩))
 all_goals
  go_ret
  exact ⟨Qam (by first | exact HR.out.symm | (rw [HR.out];simp_all [Qba];done) | (rw [HR.out];simp [Qba];omega)),HB1.out⟩
theorem Zep (s:ByteArray):is s [] = s.toList.isEmpty:=by
 rw [←Qa0];cases s.toList <;> rfl
theorem Qq7 (k:Int) (s:ByteArray) (h:k≠1∧k≠2∧k≠3∧k≠4∧k≠9∧k≠10∧k≠11∧k≠12∧k≠16∧k≠20∧k≠21):Qau (Qae k) s=is s []:=by
 by_cases h0:k≤0∨23≤k
 ·rw [Qer h0];rfl
 ·rcases (show k=5∨k=6∨k=7∨k=8∨k=13∨k=14∨k=15∨k=17∨k=18∨k=19∨k=22 from by omega) with rfl | rfl | rfl | rfl | rfl | rfl | rfl | rfl | rfl | rfl | rfl <;> rfl
theorem Qkz (k:Int) (s:ByteArray) (w:World) (hs:s.size<maxLen) (h:k≠1∧k≠2∧k≠3∧k≠4∧k≠9∧k≠10∧k≠11∧k≠12∧k≠16∧k≠20∧k≠21):Calls Tryz.prog 58 #[.int .i64 k,.string s] w fun e w'=>e = .returned (.bool (Qau (Qae k) s))∧Below w.heap.size w w':=by
 have HS:=hQ hs;have HR:=hQ ((Qq7 k s h).trans (Zep s));have e1:=Qcm (show k≠1 from by omega);have e2:=Qcm (show k≠2 from by omega);have e3:=Qcm (show k≠3 from by omega);have e4:=Qcm (show k≠4 from by omega);have e9:=Qcm (show k≠9 from by omega);have e10:=Qcm (show k≠10 from by omega);have e11:=Qcm (show k≠11 from by omega);have e12:=Qcm (show k≠12 from by omega);have e16:=Qcm (show k≠16 from by omega);have e20:=Qcm (show k≠20 from by omega);have e21:=Qcm (show k≠21 from by omega);clear hs h
 go_enter Tryz.func58,Tryz.ntmps58
 go_wp2_with (go_at_call 90;refine (Qcq s _ HS.out).mono ?_;rintro e w1 ⟨rfl,hb1⟩;have HB1:=hQ hb1;clear hb1)
 go_ret
 exact ⟨Qam (by first | exact HR.out.symm | (rw [HR.out];simp;done)),HB1.out⟩
theorem Qis (k:Int) (s:ByteArray) (w:World) (hs:s.size<maxLen):Calls Tryz.prog 58 #[.int .i64 k,.string s] w fun e w'=>e = .returned (.bool (Qau (Qae k) s))∧Below w.heap.size w w':=by
 by_cases h:k≠1∧k≠2∧k≠3∧k≠4∧k≠9∧k≠10∧k≠11∧k≠12∧k≠16∧k≠20∧k≠21
 ·exact Qkz k s w hs h
 ·rcases (show k=1∨k=2∨k=3∨k=4∨k=9∨k=10∨k=11∨k=12∨k=16∨k=20∨k=21 from by omega) with rfl | rfl | rfl | rfl | rfl | rfl | rfl | rfl | rfl | rfl | rfl
  ·exact Qq2 s w hs
  ·exact Qq3 s w hs
  ·exact Qq4 s w hs
  ·exact Qq5 s w hs
  ·exact Qq6 s w hs
  ·exact Qo1 s w hs
  ·exact Qo2 s w hs
  ·exact Qo3 s w hs
  ·exact Qo4 s w hs
  ·exact Qo5 s w hs
  ·exact Qo6 s w hs
def Qfl (tk:Int) (n i:Nat) (k:Int):Bool :=
 if tk=1 then k==2 || k==3
 else if tk=2 then (if i+1=n then Qjf k else if i+2=n then Qed 3 k else k==4)
 else if tk=3∨tk=4∨tk=8 then Qed 3 k
 else if tk=16 then k==17
 else if tk=21 then (Qir k || (decide (i=0) && k==21))
 else Qjf k
theorem Zeq (vx:ByteArray) (vla:Option Addr) (vll vlc:Nat) (vka:Option Addr) (vkl vkc i:Nat) (k:Int) (w:World) (_hi:i<1000) (_hn:vkl≤1000):Calls Tryz.prog 59 #[.agg #[.int .i64 1,.string vx,.slice vla vll vlc,.slice vka vkl vkc],.int .i64 i,.int .i64 k] w fun e w'=>e = .returned (.bool (Qfl 1 vkl i k))∧Below w.heap.size w w':=by
 have HX:=hQ (xH w (.cells #[.int .i64 1,.string vx,.slice vla vll vlc,.slice vka vkl vkc] 25));have HB0:=hQ ((xC w.heap.size w).alloc (xA _) (.cells #[.int .i64 1,.string vx,.slice vla vll vlc,.slice vka vkl vkc] 25));have k0:(w.alloc (.cells #[.int .i64 1,.string vx,.slice vla vll vlc,.slice vka vkl vkc] 25)).cell? ⟨w.heap.size,0,none⟩=some (.int .i64 1):=Qaa HX.out 0 _ rfl;have k3:(w.alloc (.cells #[.int .i64 1,.string vx,.slice vla vll vlc,.slice vka vkl vkc] 25)).cell? ⟨w.heap.size,3,none⟩=some (.slice vka vkl vkc):=Qaa HX.out 3 _ rfl;have HR:=hQ (show Qfl 1 vkl i k=(k==2 || k==3) from rfl)
 go_enter Tryz.func59,Tryz.ntmps59
 go_wp2_with (first | (go_at_call 92;refine (Qbz _ _).mono ?_;rintro e w1 ⟨rfl,rfl⟩) | (go_at_call 30;refine (Qbs _ _).mono ?_;rintro e w1 ⟨rfl,rfl⟩) | (go_at_call 93;refine (Qcd _ _).mono ?_;rintro e w1 ⟨rfl,rfl⟩))
 all_goals
  go_ret
  exact ⟨Qam (by first | exact HR.out.symm | (rw [HR.out];done) | (rw [HR.out];simp_all;done)),HB0.out⟩
theorem Zc9 (vx:ByteArray) (vla:Option Addr) (vll vlc:Nat) (vka:Option Addr) (vkl vkc i:Nat) (k:Int) (w:World) (_hi:i<1000) (_hn:vkl≤1000) (h:i+1=vkl):Calls Tryz.prog 59 #[.agg #[.int .i64 2,.string vx,.slice vla vll vlc,.slice vka vkl vkc],.int .i64 i,.int .i64 k] w fun e w'=>e = .returned (.bool (Qfl 2 vkl i k))∧Below w.heap.size w w':=by
 have HX:=hQ (xH w (.cells #[.int .i64 2,.string vx,.slice vla vll vlc,.slice vka vkl vkc] 25));have HB0:=hQ ((xC w.heap.size w).alloc (xA _) (.cells #[.int .i64 2,.string vx,.slice vla vll vlc,.slice vka vkl vkc] 25));have k0:(w.alloc (.cells #[.int .i64 2,.string vx,.slice vla vll vlc,.slice vka vkl vkc] 25)).cell? ⟨w.heap.size,0,none⟩=some (.int .i64 2):=Qaa HX.out 0 _ rfl;have k3:(w.alloc (.cells #[.int .i64 2,.string vx,.slice vla vll vlc,.slice vka vkl vkc] 25)).cell? ⟨w.heap.size,3,none⟩=some (.slice vka vkl vkc):=Qaa HX.out 3 _ rfl;have HR:=hQ (show Qfl 2 vkl i k=Qjf k from by unfold Qfl;rw [xN (by decide),xO rfl,xO h]);have d1:((i:Int)==(vkl:Int)-1)=true:=beq_iff_eq.2 (by omega);clear h
 go_enter Tryz.func59,Tryz.ntmps59
 go_wp2_with (first | (go_at_call 92;refine (Qbz _ _).mono ?_;rintro e w1 ⟨rfl,rfl⟩) | (go_at_call 30;refine (Qbs _ _).mono ?_;rintro e w1 ⟨rfl,rfl⟩) | (go_at_call 93;refine (Qcd _ _).mono ?_;rintro e w1 ⟨rfl,rfl⟩))
 all_goals
  go_ret
  exact ⟨Qam (by first | exact HR.out.symm | (rw [HR.out];done) | (rw [HR.out];simp_all;done)),HB0.out⟩
theorem Zda (vx:ByteArray) (vla:Option Addr) (vll vlc:Nat) (vka:Option Addr) (vkl vkc i:Nat) (k:Int) (w:World) (_hi:i<1000) (_hn:vkl≤1000) (h1:i+1≠vkl) (h:i+2=vkl):Calls Tryz.prog 59 #[.agg #[.int .i64 2,.string vx,.slice vla vll vlc,.slice vka vkl vkc],.int .i64 i,.int .i64 k] w fun e w'=>e = .returned (.bool (Qfl 2 vkl i k))∧Below w.heap.size w w':=by
 have HX:=hQ (xH w (.cells #[.int .i64 2,.string vx,.slice vla vll vlc,.slice vka vkl vkc] 25));have HB0:=hQ ((xC w.heap.size w).alloc (xA _) (.cells #[.int .i64 2,.string vx,.slice vla vll vlc,.slice vka vkl vkc] 25));have k0:(w.alloc (.cells #[.int .i64 2,.string vx,.slice vla vll vlc,.slice vka vkl vkc] 25)).cell? ⟨w.heap.size,0,none⟩=some (.int .i64 2):=Qaa HX.out 0 _ rfl;have k3:(w.alloc (.cells #[.int .i64 2,.string vx,.slice vla vll vlc,.slice vka vkl vkc] 25)).cell? ⟨w.heap.size,3,none⟩=some (.slice vka vkl vkc):=Qaa HX.out 3 _ rfl;have HR:=hQ (show Qfl 2 vkl i k=Qed 3 k from by unfold Qfl;rw [xN (by decide),xO rfl,xN h1,xO h]);have d1:((i:Int)==(vkl:Int)-1)=false:=beq_eq_false_iff_ne.2 (by omega);have d2:((i:Int)==(vkl:Int)-2)=true:=beq_iff_eq.2 (by omega);clear h h1
 go_enter Tryz.func59,Tryz.ntmps59
 go_wp2_with (first | (go_at_call 92;refine (Qbz _ _).mono ?_;rintro e w1 ⟨rfl,rfl⟩) | (go_at_call 30;refine (Qbs _ _).mono ?_;rintro e w1 ⟨rfl,rfl⟩) | (go_at_call 93;refine (Qcd _ _).mono ?_;rintro e w1 ⟨rfl,rfl⟩))
 all_goals
  go_ret
  exact ⟨Qam (by first | exact HR.out.symm | (rw [HR.out];done) | (rw [HR.out];simp_all;done)),HB0.out⟩
theorem Zdb (vx:ByteArray) (vla:Option Addr) (vll vlc:Nat) (vka:Option Addr) (vkl vkc i:Nat) (k:Int) (w:World) (_hi:i<1000) (_hn:vkl≤1000) (h1:i+1≠vkl) (h:i+2≠vkl):Calls Tryz.prog 59 #[.agg #[.int .i64 2,.string vx,.slice vla vll vlc,.slice vka vkl vkc],.int .i64 i,.int .i64 k] w fun e w'=>e = .returned (.bool (Qfl 2 vkl i k))∧Below w.heap.size w w':=by
 have HX:=hQ (xH w (.cells #[.int .i64 2,.string vx,.slice vla vll vlc,.slice vka vkl vkc] 25));have HB0:=hQ ((xC w.heap.size w).alloc (xA _) (.cells #[.int .i64 2,.string vx,.slice vla vll vlc,.slice vka vkl vkc] 25));have k0:(w.alloc (.cells #[.int .i64 2,.string vx,.slice vla vll vlc,.slice vka vkl vkc] 25)).cell? ⟨w.heap.size,0,none⟩=some (.int .i64 2):=Qaa HX.out 0 _ rfl;have k3:(w.alloc (.cells #[.int .i64 2,.string vx,.slice vla vll vlc,.slice vka vkl vkc] 25)).cell? ⟨w.heap.size,3,none⟩=some (.slice vka vkl vkc):=Qaa HX.out 3 _ rfl;have HR:=hQ (show Qfl 2 vkl i k=(k==4) from by unfold Qfl;rw [xN (by decide),xO rfl,xN h1,xN h]);have d1:((i:Int)==(vkl:Int)-1)=false:=beq_eq_false_iff_ne.2 (by omega);have d2:((i:Int)==(vkl:Int)-2)=false:=beq_eq_false_iff_ne.2 (by omega);clear h h1
 go_enter Tryz.func59,Tryz.ntmps59
 go_wp2_with (first | (go_at_call 92;refine (Qbz _ _).mono ?_;rintro e w1 ⟨rfl,rfl⟩) | (go_at_call 30;refine (Qbs _ _).mono ?_;rintro e w1 ⟨rfl,rfl⟩) | (go_at_call 93;refine (Qcd _ _).mono ?_;rintro e w1 ⟨rfl,rfl⟩))
 all_goals
  go_ret
  exact ⟨Qam (by first | exact HR.out.symm | (rw [HR.out];done) | (rw [HR.out];simp_all;done)),HB0.out⟩
theorem Zer (vx:ByteArray) (vla:Option Addr) (vll vlc:Nat) (vka:Option Addr) (vkl vkc i:Nat) (k:Int) (w:World) (_hi:i<1000) (_hn:vkl≤1000):Calls Tryz.prog 59 #[.agg #[.int .i64 3,.string vx,.slice vla vll vlc,.slice vka vkl vkc],.int .i64 i,.int .i64 k] w fun e w'=>e = .returned (.bool (Qfl 3 vkl i k))∧Below w.heap.size w w':=by
 have HX:=hQ (xH w (.cells #[.int .i64 3,.string vx,.slice vla vll vlc,.slice vka vkl vkc] 25));have HB0:=hQ ((xC w.heap.size w).alloc (xA _) (.cells #[.int .i64 3,.string vx,.slice vla vll vlc,.slice vka vkl vkc] 25));have k0:(w.alloc (.cells #[.int .i64 3,.string vx,.slice vla vll vlc,.slice vka vkl vkc] 25)).cell? ⟨w.heap.size,0,none⟩=some (.int .i64 3):=Qaa HX.out 0 _ rfl;have k3:(w.alloc (.cells #[.int .i64 3,.string vx,.slice vla vll vlc,.slice vka vkl vkc] 25)).cell? ⟨w.heap.size,3,none⟩=some (.slice vka vkl vkc):=Qaa HX.out 3 _ rfl;have HR:=hQ (show Qfl 3 vkl i k=Qed 3 k from rfl)
 go_enter Tryz.func59,Tryz.ntmps59
 go_wp2_with (first | (go_at_call 92;refine (Qbz _ _).mono ?_;rintro e w1 ⟨rfl,rfl⟩) | (go_at_call 30;refine (Qbs _ _).mono ?_;rintro e w1 ⟨rfl,rfl⟩) | (go_at_call 93;refine (Qcd _ _).mono ?_;rintro e w1 ⟨rfl,rfl⟩))
 all_goals
  go_ret
  exact ⟨Qam (by first | exact HR.out.symm | (rw [HR.out];done) | (rw [HR.out];simp_all;done)),HB0.out⟩
theorem Zes (vx:ByteArray) (vla:Option Addr) (vll vlc:Nat) (vka:Option Addr) (vkl vkc i:Nat) (k:Int) (w:World) (_hi:i<1000) (_hn:vkl≤1000):Calls Tryz.prog 59 #[.agg #[.int .i64 4,.string vx,.slice vla vll vlc,.slice vka vkl vkc],.int .i64 i,.int .i64 k] w fun e w'=>e = .returned (.bool (Qfl 4 vkl i k))∧Below w.heap.size w w':=by
 have HX:=hQ (xH w (.cells #[.int .i64 4,.string vx,.slice vla vll vlc,.slice vka vkl vkc] 25));have HB0:=hQ ((xC w.heap.size w).alloc (xA _) (.cells #[.int .i64 4,.string vx,.slice vla vll vlc,.slice vka vkl vkc] 25));have k0:(w.alloc (.cells #[.int .i64 4,.string vx,.slice vla vll vlc,.slice vka vkl vkc] 25)).cell? ⟨w.heap.size,0,none⟩=some (.int .i64 4):=Qaa HX.out 0 _ rfl;have k3:(w.alloc (.cells #[.int .i64 4,.string vx,.slice vla vll vlc,.slice vka vkl vkc] 25)).cell? ⟨w.heap.size,3,none⟩=some (.slice vka vkl vkc):=Qaa HX.out 3 _ rfl;have HR:=hQ (show Qfl 4 vkl i k=Qed 3 k from rfl)
 go_enter Tryz.func59,Tryz.ntmps59
 go_wp2_with (first | (go_at_call 92;refine (Qbz _ _).mono ?_;rintro e w1 ⟨rfl,rfl⟩) | (go_at_call 30;refine (Qbs _ _).mono ?_;rintro e w1 ⟨rfl,rfl⟩) | (go_at_call 93;refine (Qcd _ _).mono ?_;rintro e w1 ⟨rfl,rfl⟩))
 all_goals
  go_ret
  exact ⟨Qam (by first | exact HR.out.symm | (rw [HR.out];done) | (rw [HR.out];simp_all;done)),HB0.out⟩
theorem Zet (vx:ByteArray) (vla:Option Addr) (vll vlc:Nat) (vka:Option Addr) (vkl vkc i:Nat) (k:Int) (w:World) (_hi:i<1000) (_hn:vkl≤1000):Calls Tryz.prog 59 #[.agg #[.int .i64 8,.string vx,.slice vla vll vlc,.slice vka vkl vkc],.int .i64 i,.int .i64 k] w fun e w'=>e = .returned (.bool (Qfl 8 vkl i k))∧Below w.heap.size w w':=by
 have HX:=hQ (xH w (.cells #[.int .i64 8,.string vx,.slice vla vll vlc,.slice vka vkl vkc] 25));have HB0:=hQ ((xC w.heap.size w).alloc (xA _) (.cells #[.int .i64 8,.string vx,.slice vla vll vlc,.slice vka vkl vkc] 25));have k0:(w.alloc (.cells #[.int .i64 8,.string vx,.slice vla vll vlc,.slice vka vkl vkc] 25)).cell? ⟨w.heap.size,0,none⟩=some (.int .i64 8):=Qaa HX.out 0 _ rfl;have k3:(w.alloc (.cells #[.int .i64 8,.string vx,.slice vla vll vlc,.slice vka vkl vkc] 25)).cell? ⟨w.heap.size,3,none⟩=some (.slice vka vkl vkc):=Qaa HX.out 3 _ rfl;have HR:=hQ (show Qfl 8 vkl i k=Qed 3 k from rfl)
 go_enter Tryz.func59,Tryz.ntmps59
 go_wp2_with (first | (go_at_call 92;refine (Qbz _ _).mono ?_;rintro e w1 ⟨rfl,rfl⟩) | (go_at_call 30;refine (Qbs _ _).mono ?_;rintro e w1 ⟨rfl,rfl⟩) | (go_at_call 93;refine (Qcd _ _).mono ?_;rintro e w1 ⟨rfl,rfl⟩))
 all_goals
  go_ret
  exact ⟨Qam (by first | exact HR.out.symm | (rw [HR.out];done) | (rw [HR.out];simp_all;done)),HB0.out⟩
theorem Zdc (vx:ByteArray) (vla:Option Addr) (vll vlc:Nat) (vka:Option Addr) (vkl vkc i:Nat) (k:Int) (w:World) (_hi:i<1000) (_hn:vkl≤1000):Calls Tryz.prog 59 #[.agg #[.int .i64 16,.string vx,.slice vla vll vlc,.slice vka vkl vkc],.int .i64 i,.int .i64 k] w fun e w'=>e = .returned (.bool (Qfl 16 vkl i k))∧Below w.heap.size w w':=by
 have HX:=hQ (xH w (.cells #[.int .i64 16,.string vx,.slice vla vll vlc,.slice vka vkl vkc] 25));have HB0:=hQ ((xC w.heap.size w).alloc (xA _) (.cells #[.int .i64 16,.string vx,.slice vla vll vlc,.slice vka vkl vkc] 25));have k0:(w.alloc (.cells #[.int .i64 16,.string vx,.slice vla vll vlc,.slice vka vkl vkc] 25)).cell? ⟨w.heap.size,0,none⟩=some (.int .i64 16):=Qaa HX.out 0 _ rfl;have k3:(w.alloc (.cells #[.int .i64 16,.string vx,.slice vla vll vlc,.slice vka vkl vkc] 25)).cell? ⟨w.heap.size,3,none⟩=some (.slice vka vkl vkc):=Qaa HX.out 3 _ rfl;have HR:=hQ (show Qfl 16 vkl i k=(k==17) from rfl)
 go_enter Tryz.func59,Tryz.ntmps59
 go_wp2_with (first | (go_at_call 92;refine (Qbz _ _).mono ?_;rintro e w1 ⟨rfl,rfl⟩) | (go_at_call 30;refine (Qbs _ _).mono ?_;rintro e w1 ⟨rfl,rfl⟩) | (go_at_call 93;refine (Qcd _ _).mono ?_;rintro e w1 ⟨rfl,rfl⟩))
 all_goals
  go_ret
  exact ⟨Qam (by first | exact HR.out.symm | (rw [HR.out];done) | (rw [HR.out];simp_all;done)),HB0.out⟩
theorem Zak (vx:ByteArray) (vla:Option Addr) (vll vlc:Nat) (vka:Option Addr) (vkl vkc i:Nat) (k:Int) (w:World) (_hi:i<1000) (_hn:vkl≤1000) (hu:Qir k=true):Calls Tryz.prog 59 #[.agg #[.int .i64 21,.string vx,.slice vla vll vlc,.slice vka vkl vkc],.int .i64 i,.int .i64 k] w fun e w'=>e = .returned (.bool (Qfl 21 vkl i k))∧Below w.heap.size w w':=by
 have HX:=hQ (xH w (.cells #[.int .i64 21,.string vx,.slice vla vll vlc,.slice vka vkl vkc] 25));have HB0:=hQ ((xC w.heap.size w).alloc (xA _) (.cells #[.int .i64 21,.string vx,.slice vla vll vlc,.slice vka vkl vkc] 25));have k0:(w.alloc (.cells #[.int .i64 21,.string vx,.slice vla vll vlc,.slice vka vkl vkc] 25)).cell? ⟨w.heap.size,0,none⟩=some (.int .i64 21):=Qaa HX.out 0 _ rfl;have k3:(w.alloc (.cells #[.int .i64 21,.string vx,.slice vla vll vlc,.slice vka vkl vkc] 25)).cell? ⟨w.heap.size,3,none⟩=some (.slice vka vkl vkc):=Qaa HX.out 3 _ rfl;have HR:=hQ (show Qfl 21 vkl i k=true from by show (Qir k || (decide (i=0) && k==21))=true;rw [hu];rfl)
 go_enter Tryz.func59,Tryz.ntmps59
 go_wp2_with (first | (go_at_call 92;refine (Qbz _ _).mono ?_;rintro e w1 ⟨rfl,rfl⟩) | (go_at_call 30;refine (Qbs _ _).mono ?_;rintro e w1 ⟨rfl,rfl⟩) | (go_at_call 93;refine (Qcd _ _).mono ?_;rw [hu];rintro e w1 ⟨rfl,rfl⟩))
 all_goals
  go_ret
  exact ⟨Qam (by first | exact HR.out.symm | (rw [HR.out];done) | (rw [HR.out];simp_all;done)),HB0.out⟩
theorem Zal (vx:ByteArray) (vla:Option Addr) (vll vlc:Nat) (vka:Option Addr) (vkl vkc i:Nat) (k:Int) (w:World) (_hi:i<1000) (_hn:vkl≤1000) (hu:Qir k=false):Calls Tryz.prog 59 #[.agg #[.int .i64 21,.string vx,.slice vla vll vlc,.slice vka vkl vkc],.int .i64 i,.int .i64 k] w fun e w'=>e = .returned (.bool (Qfl 21 vkl i k))∧Below w.heap.size w w':=by
 have HX:=hQ (xH w (.cells #[.int .i64 21,.string vx,.slice vla vll vlc,.slice vka vkl vkc] 25));have HB0:=hQ ((xC w.heap.size w).alloc (xA _) (.cells #[.int .i64 21,.string vx,.slice vla vll vlc,.slice vka vkl vkc] 25));have k0:(w.alloc (.cells #[.int .i64 21,.string vx,.slice vla vll vlc,.slice vka vkl vkc] 25)).cell? ⟨w.heap.size,0,none⟩=some (.int .i64 21):=Qaa HX.out 0 _ rfl;have k3:(w.alloc (.cells #[.int .i64 21,.string vx,.slice vla vll vlc,.slice vka vkl vkc] 25)).cell? ⟨w.heap.size,3,none⟩=some (.slice vka vkl vkc):=Qaa HX.out 3 _ rfl;have HR:=hQ (show Qfl 21 vkl i k=(decide (i=0) && k==21) from by show (Qir k || (decide (i=0) && k==21))=_;rw [hu];rfl)
 by_cases h0:i=0
 ·subst h0
  go_enter Tryz.func59,Tryz.ntmps59
  go_wp2_with (first | (go_at_call 92;refine (Qbz _ _).mono ?_;rintro e w1 ⟨rfl,rfl⟩) | (go_at_call 30;refine (Qbs _ _).mono ?_;rintro e w1 ⟨rfl,rfl⟩) | (go_at_call 93;refine (Qcd _ _).mono ?_;rw [hu];rintro e w1 ⟨rfl,rfl⟩))
  all_goals
   go_ret
   exact ⟨Qam (by first | exact HR.out.symm | (rw [HR.out];simp_all;done)),HB0.out⟩
 ·have d1:((i:Int)==0)=false:=beq_eq_false_iff_ne.2 (by omega);have d2:(i==0)=false:=beq_eq_false_iff_ne.2 h0;have HR2:=hQ (show Qfl 21 vkl i k=false from by rw [HR.out,xR h0];rfl);clear h0
  go_enter Tryz.func59,Tryz.ntmps59
  go_wp2_with (first | (go_at_call 92;refine (Qbz _ _).mono ?_;rintro e w1 ⟨rfl,rfl⟩) | (go_at_call 30;refine (Qbs _ _).mono ?_;rintro e w1 ⟨rfl,rfl⟩) | (go_at_call 93;refine (Qcd _ _).mono ?_;rw [hu];rintro e w1 ⟨rfl,rfl⟩))
  all_goals
   go_ret
   exact ⟨Qam (by first | exact HR2.out.symm | (rw [HR2.out];simp_all;done)),HB0.out⟩
theorem Quf (tk:Int) (vx:ByteArray) (vla:Option Addr) (vll vlc:Nat) (vka:Option Addr) (vkl vkc i:Nat) (k:Int) (w:World) (_hi:i<1000) (_hn:vkl≤1000) (h:tk≠1∧tk≠2∧tk≠3∧tk≠4∧tk≠8∧tk≠16∧tk≠21):Calls Tryz.prog 59 #[.agg #[.int .i64 tk,.string vx,.slice vla vll vlc,.slice vka vkl vkc],.int .i64 i,.int .i64 k] w fun e w'=>e = .returned (.bool (Qfl tk vkl i k))∧Below w.heap.size w w':=by
 have HX:=hQ (xH w (.cells #[.int .i64 tk,.string vx,.slice vla vll vlc,.slice vka vkl vkc] 25));have HB0:=hQ ((xC w.heap.size w).alloc (xA _) (.cells #[.int .i64 tk,.string vx,.slice vla vll vlc,.slice vka vkl vkc] 25));have k0:(w.alloc (.cells #[.int .i64 tk,.string vx,.slice vla vll vlc,.slice vka vkl vkc] 25)).cell? ⟨w.heap.size,0,none⟩=some (.int .i64 tk):=Qaa HX.out 0 _ rfl;have k3:(w.alloc (.cells #[.int .i64 tk,.string vx,.slice vla vll vlc,.slice vka vkl vkc] 25)).cell? ⟨w.heap.size,3,none⟩=some (.slice vka vkl vkc):=Qaa HX.out 3 _ rfl;have HR:=hQ (show Qfl tk vkl i k=Qjf k from by unfold Qfl;rw [xN (by omega),xN (by omega),xN (by omega),xN (by omega),xN (by omega)]);have e1:=Qcm (show tk≠1 from by omega);have e2:=Qcm (show tk≠2 from by omega);have e3:=Qcm (show tk≠3 from by omega);have e4:=Qcm (show tk≠4 from by omega);have e8:=Qcm (show tk≠8 from by omega);have e16:=Qcm (show tk≠16 from by omega);have e21:=Qcm (show tk≠21 from by omega);clear h
 go_enter Tryz.func59,Tryz.ntmps59
 go_wp2_with (first | (go_at_call 92;refine (Qbz _ _).mono ?_;rintro e w1 ⟨rfl,rfl⟩) | (go_at_call 30;refine (Qbs _ _).mono ?_;rintro e w1 ⟨rfl,rfl⟩) | (go_at_call 93;refine (Qcd _ _).mono ?_;rintro e w1 ⟨rfl,rfl⟩))
 all_goals
  go_ret
  exact ⟨Qam (by first | exact HR.out.symm | (rw [HR.out];done) | (rw [HR.out];simp_all;done)),HB0.out⟩
theorem Qni (tk:Int) (vx:ByteArray) (vla:Option Addr) (vll vlc:Nat) (vka:Option Addr) (vkl vkc i:Nat) (k:Int) (w:World) (hi:i<1000) (hn:vkl≤1000):Calls Tryz.prog 59 #[.agg #[.int .i64 tk,.string vx,.slice vla vll vlc,.slice vka vkl vkc],.int .i64 i,.int .i64 k] w fun e w'=>e = .returned (.bool (Qfl tk vkl i k))∧Below w.heap.size w w':=by
 by_cases h:tk≠1∧tk≠2∧tk≠3∧tk≠4∧tk≠8∧tk≠16∧tk≠21
 ·exact Quf tk vx vla vll vlc vka vkl vkc i k w hi hn h
 ·rcases (show tk=1∨tk=2∨tk=3∨tk=4∨tk=8∨tk=16∨tk=21 from by omega) with rfl | rfl | rfl | rfl | rfl | rfl | rfl
  ·exact Zeq vx vla vll vlc vka vkl vkc i k w hi hn
  ·by_cases h1:i+1=vkl
   ·exact Zc9 vx vla vll vlc vka vkl vkc i k w hi hn h1
   ·by_cases h2:i+2=vkl
    ·exact Zda vx vla vll vlc vka vkl vkc i k w hi hn h1 h2
    ·exact Zdb vx vla vll vlc vka vkl vkc i k w hi hn h1 h2
  ·exact Zer vx vla vll vlc vka vkl vkc i k w hi hn
  ·exact Zes vx vla vll vlc vka vkl vkc i k w hi hn
  ·exact Zet vx vla vll vlc vka vkl vkc i k w hi hn
  ·exact Zdc vx vla vll vlc vka vkl vkc i k w hi hn
  ·cases hu:Qir k
   ·exact Zal vx vla vll vlc vka vkl vkc i k w hi hn hu
   ·exact Zak vx vla vll vlc vka vkl vkc i k w hi hn hu
mutual
def Qar:Tr→Bool
 | .mk k x _ ks=>!decide (Qat k ks.length<0) && Qau (Qae k) x && Qbc k ks.length 0 ks
def Qbc:Int→Nat→Nat→List Tr→Bool
 | _,_,_,[]=>true
 | k,n,i,a :: r=>Qfl k n i a.kind && Qar a && Qbc k n (i+1) r
end
theorem Qdo (t:Tr):Qar t=(!decide (Qat t.kind t.kids.length<0) && Qau (Qae t.kind) t.text && Qbc t.kind t.kids.length 0 t.kids):=by
 cases t with
 | mk k x ls ks=>rw [Qar];rfl
theorem Qq8 (k:Int) (n:Nat) (l:List Tr) (j:Nat) (a:Tr) (h:l[j]? = some a):Qbc k n j (l.drop j)=(Qfl k n j a.kind && Qar a && Qbc k n (j+1) (l.drop (j+1))):=by
 obtain ⟨hj,he⟩:=xP.1 h;rw [List.drop_eq_getElem_cons hj,he,Qbc]
theorem Qo7 (k:Int) (n:Nat) (l:List Tr) (j:Nat) (h:l.length≤j):Qbc k n j (l.drop j)=true:=by
 rw [List.drop_eq_nil_of_le h,Qbc]
theorem Qmc (k:Int) (n:Nat) (hn:n≤1000):(Qck (Qae k) n).2 = !decide (Qat k n<0):=by
 rw [←Zaj k n (by omega)];unfold Ql1
 have hc:∀ (l:List Part) (m:Int),0≤Qg4 l m:=by
  intro l m
  induction l with
  | nil=>exact Int.le_refl 0
  | cons x r ih =>
   rw [Qg4]
   split
   ·rename_i h
    simp only [Bool.and_eq_true,decide_eq_true_eq] at h;omega
   ·omega
 cases (Qck (Qae k) n).2
 ·rw [xN (by decide)];rfl
 ·rw [xO rfl];have:=hc (Qae k) (Qck (Qae k) n).1
  rw [xR (by omega)];rfl
theorem Qj9 {k:Int} {n:Nat} {o:Int} (hl:Qae k≠[]) (ho:(Qnc (Qae k):Int)=o):(Qck (Qae k) n).1=n-o:=by
 unfold Qck;rw [xN (fun h=>by rcases h with h | h;exact hl h;omega),Qi7,ho]
theorem Qeq {n:Nat} {must m:Int} (h:(!decide (Qa2 n must m<0))=true):(n:Int)=must:=by
 unfold Qa2 at h
 by_cases e:(n:Int)=must
 ·exact e
 ·rw [xN e] at h;exact absurd h (by decide)
theorem Zdd (n:Nat):Qdp (Qae 1) (Qck (Qae 1) n).1=List.replicate n 1:=by
 rw [Qj9 (o:=0) (by decide) rfl];simp [Qae,Qdp,Qep,Qda,Qhn,Qkj]
theorem Zde (n:Nat) (h:2≤n):Qdp (Qae 2) (Qck (Qae 2) n).1=List.replicate (n-2) 2 ++ [3,5]:=by
 rw [Qj9 (o:=2) (by decide) rfl];have:((n:Int)-2).toNat=n-2:=by omega
 simp [Qae,Qdp,Qep,Qda,Qhn,Qkj,Qp0,this]
theorem Zam (n:Nat):Qdp (Qae 16) (Qck (Qae 16) n).1=List.replicate n 4:=by
 rw [Qj9 (o:=0) (by decide) rfl];simp [Qae,Qdp,Qep,Qda,Qhn,Qkj]
theorem Zan (n:Nat):Qdp (Qae 18) (Qck (Qae 18) n).1=List.replicate n 5:=by
 rw [Qj9 (o:=0) (by decide) rfl];simp [Qae,Qdp,Qep,Qda,Qkj]
theorem Qnj {n j:Nat} {s:Int} (h:j<n):(List.replicate n s)[j]? = some s:=by rw [List.getElem?_replicate];simp [h]
theorem Qw3 {k:Int} (h:¬ (k≤0∨23≤k)):k=1∨k=2∨k=3∨k=4∨k=5∨k=6∨k=7∨k=8∨k=9∨k=10∨k=11∨k=12∨k=13∨k=14∨k=15∨k=16∨k=17∨k=18∨k=19∨k=20∨k=21∨k=22:=by omega
theorem Qw4 (k:Int) (n:Nat) (hn:n≤1000) (h:(Qck (Qae k) n).2=true) (j:Nat) (hj:j<n):∃ s,(Qdp (Qae k) (Qck (Qae k) n).1)[j]? = some s∧∀ kd,Qfl k n j kd=Qed s kd:=by
 have hq:=h;rw [Qmc k n hn] at hq
 by_cases h0:k≤0∨23≤k
 ·rw [Qer h0] at h;simp [Qck] at h
 ·rcases Qw3 h0 with rfl | rfl | rfl | rfl | rfl | rfl | rfl | rfl | rfl | rfl | rfl | rfl | rfl | rfl | rfl | rfl | rfl | rfl | rfl | rfl | rfl | rfl
  ·exact ⟨1,by rw [Zdd];exact Qnj hj,fun kd=>rfl⟩
  ·have h2:2≤n:=by
    rcases Nat.lt_or_ge n 2 with h' | h'
    ·rw [show Qat 2 n = -1 from by show (if 2≤(n:Int) then 6+max 0 ((n:Int)-3) else -1)=_;rw [xN (by omega)]] at hq;exact absurd hq (by decide)
    ·exact h'
   rw [Zde n h2]
   by_cases j1:j+1=n
   ·refine ⟨5,?_,fun kd=>?_⟩
    ·rw [xX (by simp;omega),List.length_replicate,show j-(n-2)=1 from by omega];rfl
    ·unfold Qfl;rw [xN (by decide),xO rfl,xO j1];exact Qf9 kd
   ·by_cases j2:j+2=n
    ·refine ⟨3,?_,fun kd=>?_⟩
     ·rw [xX (by simp;omega),List.length_replicate,show j-(n-2)=0 from by omega];rfl
     ·unfold Qfl;rw [xN (by decide),xO rfl,xN j1,xO j2]
    ·refine ⟨2,?_,fun kd=>?_⟩
     ·rw [yB (by simp;omega)];exact Qnj (by omega)
     ·unfold Qfl;rw [xN (by decide),xO rfl,xN j1,xN j2];rfl
  ·obtain rfl:n=1:=by have:=Qeq (n:=n) (must:=1) (m:=3) hq;omega
   obtain rfl:j=0:=by omega
   exact ⟨3,rfl,fun kd=>rfl⟩
  ·obtain rfl:n=1:=by have:=Qeq (n:=n) (must:=1) (m:=2) hq;omega
   obtain rfl:j=0:=by omega
   exact ⟨3,rfl,fun kd=>rfl⟩
  ·have:=Qeq (n:=n) (must:=0) (m:=1) hq;omega
  ·have:=Qeq (n:=n) (must:=0) (m:=1) hq;omega
  ·have:=Qeq (n:=n) (must:=0) (m:=1) hq;omega
  ·obtain rfl:n=1:=by have:=Qeq (n:=n) (must:=1) (m:=2) hq;omega
   obtain rfl:j=0:=by omega
   exact ⟨3,rfl,fun kd=>rfl⟩
  ·have:=Qeq (n:=n) (must:=0) (m:=1) hq;omega
  ·have:=Qeq (n:=n) (must:=0) (m:=1) hq;omega
  ·have:=Qeq (n:=n) (must:=0) (m:=1) hq;omega
  ·have:=Qeq (n:=n) (must:=0) (m:=1) hq;omega
  ·have:=Qeq (n:=n) (must:=0) (m:=1) hq;omega
  ·have:=Qeq (n:=n) (must:=0) (m:=1) hq;omega
  ·have:=Qeq (n:=n) (must:=0) (m:=1) hq;omega
  ·exact ⟨4,by rw [Zam];exact Qnj hj,fun kd=>rfl⟩
  ·obtain rfl:n=1:=by have:=Qeq (n:=n) (must:=1) (m:=0) hq;omega
   obtain rfl:j=0:=by omega
   exact ⟨5,rfl,fun kd=>Qf9 kd⟩
  ·exact ⟨5,by rw [Zan];exact Qnj hj,fun kd=>Qf9 kd⟩
  ·obtain rfl:n=3:=by have:=Qeq (n:=n) (must:=3) (m:=3) hq;omega
   rcases (show j=0∨j=1∨j=2 from by omega) with rfl | rfl | rfl <;> exact ⟨5,rfl,fun kd=>Qf9 kd⟩
  ·obtain rfl:n=2:=by have:=Qeq (n:=n) (must:=2) (m:=4) hq;omega
   rcases (show j=0∨j=1 from by omega) with rfl | rfl <;> exact ⟨5,rfl,fun kd=>Qf9 kd⟩
  ·obtain rfl:n=2:=by have:=Qeq (n:=n) (must:=2) (m:=1) hq;omega
   rcases (show j=0∨j=1 from by omega) with rfl | rfl
   ·exact ⟨6,rfl,fun kd=>Que kd⟩
   ·exact ⟨7,rfl,fun kd=>by rw [←Qw1];show (Qir kd || (decide (1=0) && kd==21))=Qir kd;simp⟩
  ·obtain rfl:n=1:=by have:=Qeq (n:=n) (must:=1) (m:=2) hq;omega
   obtain rfl:j=0:=by omega
   exact ⟨5,rfl,fun kd=>Qf9 kd⟩
theorem Qk0 (k:Int) (n:Nat):∀ (ks:List Tr) (i:Nat) (ss:List Int),(∀ a∈ks,Qar a=Qaj a)→(∀ j,j<ks.length→∃ s,ss[j]? = some s∧∀ kd,Qfl k n (i+j) kd=Qed s kd)→Qbc k n i ks=Qdj ks ss
 | [],i,ss,_,_=>by rw [Qbc,Qhz]
 | a :: r,i,ss,ha,hs=>by
  obtain ⟨s,h0,hk⟩:=hs 0 (by simp);cases ss with
  | nil=>simp at h0
  | cons s' ss =>
   simp at h0
   subst h0;have hk0:Qfl k n i a.kind=Qed s' a.kind:=hk a.kind
   rw [Qbc,Qjt,←hk0,ha a (by simp),Qk0 k n r (i+1) ss (fun x hx=>ha x (by simp [hx])) (fun j hj=>by
    obtain ⟨s,h1,h2⟩:=hs (j+1) (by simp;omega);exact ⟨s,by simpa using h1,fun kd=>by rw [show i+1+j=i+(j+1) from by omega];exact h2 kd⟩)]
theorem Qsb {l:List Tr} {a:Tr} (h:a∈l):Qal a≤Qak l:=by
 induction l with
 | nil=>simp at h
 | cons x r ih =>
  rw [Qak]
  rcases List.mem_cons.1 h with rfl | h
  ·omega
  ·have:=ih h;omega
theorem Qug {l:List Tr} {a:Tr} (h:a∈l):SizeOf.sizeOf a<SizeOf.sizeOf l:=List.sizeOf_lt_of_mem h
theorem Qbl (N:Nat):∀ t:Tr,SizeOf.sizeOf t≤N→Qal t≤1000→Qar t=Qaj t:=by
 induction N with
 | zero=>intro t h;have:=Qf7 t;omega
 | succ N ih =>
  intro t hN hs;have hkl:=Qa4 t.kids;have hsz:=Qa9 t;rw [Qdo,Qhg,←Qmc t.kind t.kids.length (by omega)]
  cases hf:(Qck (Qae t.kind) t.kids.length).2
  ·rfl
  ·rw [Qk0 t.kind t.kids.length t.kids 0 _ (fun a ha=>ih a (by
    have h1:=Qug ha;cases t with
    | mk k x ls ks =>
     simp at hN
     have:SizeOf.sizeOf (Tr.mk k x ls ks).kids=SizeOf.sizeOf ks:=rfl
     omega) (by have:=Qsb ha;omega)) (fun j hj=>by rw [Nat.zero_add];exact Qw4 t.kind t.kids.length (by omega) hf j hj)]
end Go.Proofs.YtfjpemdejoejbaaGreat
