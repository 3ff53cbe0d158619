/- Part 29 -/
import Derived.Test.YtjidpkcjpgdafaaGreatSd27
import Derived.Test.YtjidpkcjpgdafaaGreatSd28
set_option maxRecDepth 100000
set_option maxHeartbeats 4000000
namespace Go.Proofs.YtjidpkcjpgdafaaGreat
open Go.RowKit
theorem Qjf (N:Nat):∀ (S:Nat→Prop) (t:Tr) (v:TV) (w:World),SizeOf.sizeOf t≤N→TrAt S w t v→Qak t≤140737488355328 →
  Calls Tryz.prog 110 #[.agg #[.int .i64 v.kind,.string v.text,.slice v.la v.ll v.lc,.slice v.ka v.kl v.kc]] w fun e w'=>e = .returned (.int .i64 (Qed t:Nat))∧Below w.heap.size w w':=by
 induction N with
 | zero=>intro S t v w h;have:=Qgu t;omega
 | succ N ih =>
  intro S t v w hN h hz
  have HIH:=hQ ih
  have HB0:=hQ ((xC w.heap.size w).alloc (xA _) (trO v))
  have HT:=hQ (h.keep HB0.out)
  have HX:=hQ (xH w (trO v))
  have HZ:=hQ hz
  have HN:=hQ hN
  have hkl:=h.kl.1
  obtain ⟨vk,vx,vla,vll,vlc,vka,vkl,vkc⟩:=v
  simp only at hkl
  subst hkl
  have hmax:t.kids.length≤140737488355328:=by have:=Qa5 t.kids;rw [Qa0] at hz;omega
  have HMX:=hQ hmax
  clear ih h hz hN
  have k3:(w.alloc (trO ⟨vk,vx,vla,vll,vlc,vka,t.kids.length,vkc⟩)).cell? ⟨w.heap.size,3,none⟩=some (.slice vka t.kids.length vkc):=Qab HX.out 3 _ rfl
  go_enter Tryz.func110,Tryz.ntmps110
  go_wp2
  clear k3
  go_loopw [3,4] (fun n i wr=>Qr8 (fun l=>Qc1 l) t (w.alloc (trO ⟨vk,vx,vla,vll,vlc,vka,t.kids.length,vkc⟩)) n i wr) (fun _ i _=>t.kids.length-(intOf i).toNat)
  case atStart=>exact ⟨0,rfl,xZ _,rfl,xC _ _⟩
  case round =>
   obtain ⟨j,rfl,hj,rfl,hb⟩:=hrel
   have HBR:=hQ hb
   have hx:=(hb.block w.heap.size (Qaa HX.out)).trans HX.out
   have k3:wr.cell? ⟨w.heap.size,3,none⟩=some (.slice vka t.kids.length vkc):=Qab hx 3 _ rfl
   clear hb hx
   by_cases hlt:j<t.kids.length
   ·obtain ⟨k,hk⟩:∃ k,t.kids[j]? = some k:=⟨_,xF hlt⟩
    obtain ⟨b,off,hka⟩:∃ b off,vka=some ⟨b,off,none⟩:=HT.out.addr.resolve_left (by omega)
    subst hka
    obtain ⟨u,c0,c1,c2,c3,hu⟩:=(HT.out.keep HBR.out).at rfl hk
    have HU:=hQ hu
    have HS1:=hQ (Qcx hk)
    have HD1:=hQ (Qjc hk)
    have hs:=Qdv t.kids (j+1)
    have hs0:=Qcx hk
    have hds:=Qes (t.kids.take j)
    have hdk:=Qdw k
    have HSK:=hQ (xQ (Qbc hk) HZ.out)
    have HNK:=hQ (show SizeOf.sizeOf k≤N from by have:=Qay hk;have:=HN.out;omega)
    have hz:=HZ.out
    rw [Qa0] at hz
    have q1:((Qap (t.kids.take j):Nat):Int)+(Qak k:Nat)+1≤140737488355328:=by omega
    have q2:((Qc1 (t.kids.take j):Nat):Int)≤140737488355328:=by omega
    have q3:((Qed k:Nat):Int)+1≤140737488355329:=by omega
    have hj0:(0:Int)≤(j:Int):=by omega
    have hj1:(j:Int)<(t.kids.length:Int):=by omega
    have hj2:(j:Int)+1≤140737488355328:=by omega
    clear hk hu hs hs0 hds hdk hz
    go_wp2_with (go_at_call 110;refine (HIH.out S k u _ HNK.out (HU.out.keep (xC _ _)) HSK.out).mono ?_;rintro e w2 ⟨rfl,hb2⟩;have HB2:=hQ (HBR.out.trans (hb2.mono HBR.out.size));clear hb2)
    go_roundw
    case rel=>exact ⟨j+1,by go_num,by omega,by show _=Value.int .i64 ((Qc1 (t.kids.take (j+1)):Nat):Int);rw [HD1.out];go_num,HB2.out⟩
    case measure=>simp [intOf];omega
   ·have hjn:j=t.kids.length:=by omega
    subst hjn
    have HR:=hQ (show Qed t=Qc1 (t.kids.take t.kids.length)+1 from by rw [Qmi,List.take_length])
    have hz:=HZ.out
    have h1:=Qdw t
    have h2:=HR.out
    go_wp2
    go_ret
    exact ⟨Qb1 (by have h3:=Qmi t;unfold wrap64;omega),HB0.out.trans (HBR.out.mono (by simp))⟩
def Qkv (k:Int):Bool:=decide (10≤k) && decide (k≤22) && (k != 17)
def Qie (k:Int):Bool:=Qkv k && (k != 19) && (k != 20) && (k != 21)
theorem Qhg (k:Int):Qkv k=Qfc 5 k:=by
 unfold Qkv Qfc
 by_cases h17:k=17
 ·subst h17;rfl
 ·by_cases h19:k=19
  ·subst h19;rfl
  ·by_cases h20:k=20
   ·subst h20;rfl
   ·by_cases h21:k=21
    ·subst h21;rfl
    ·simp [h17,h19,h20,h21]
theorem Qzo (k:Int):Qie k=Qfc 7 k:=by
 unfold Qie Qkv Qfc
 by_cases h17:k=17
 ·subst h17;rfl
 ·by_cases h19:k=19
  ·subst h19;rfl
  ·by_cases h20:k=20
   ·subst h20;rfl
   ·by_cases h21:k=21
    ·subst h21;rfl
    ·have b17:(k != 17)=true:=bne_iff_ne.2 h17
     have b19:(k != 19)=true:=bne_iff_ne.2 h19
     have b20:(k != 20)=true:=bne_iff_ne.2 h20
     have b21:(k != 21)=true:=bne_iff_ne.2 h21
     have c21:(k==21)=false:=Qco h21
     rw [xN (by decide),xN (by decide),xN (by decide),xN (by decide),xN h17,xN (fun h=>by omega),xN h21]
     simp only [b17,b19,b20,b21,Bool.and_true]
theorem Qv0 (k:Int):(Qie k || k==21)=Qfc 6 k:=by
 unfold Qie Qkv Qfc
 by_cases h17:k=17
 ·subst h17;rfl
 ·by_cases h19:k=19
  ·subst h19;rfl
  ·by_cases h20:k=20
   ·subst h20;rfl
   ·by_cases h21:k=21
    ·subst h21;rfl
    ·have b17:(k != 17)=true:=bne_iff_ne.2 h17
     have b19:(k != 19)=true:=bne_iff_ne.2 h19
     have b20:(k != 20)=true:=bne_iff_ne.2 h20
     have b21:(k != 21)=true:=bne_iff_ne.2 h21
     have c21:(k==21)=false:=Qco h21
     rw [xN (by decide),xN (by decide),xN (by decide),xN (by decide),xN h17,xN (fun h=>by omega),xN h21]
     simp only [b17,b19,b20,b21,Bool.and_true,c21,Bool.or_false]
theorem Qcu (k:Int) (w:World):Calls Tryz.prog 203 #[.int .i64 k] w fun e w'=>e = .returned (.bool (Qfc 3 k))∧w=w':=by
 go_enter Tryz.func203,Tryz.ntmps203
 go_wp2
 all_goals
  go_ret
  exact ⟨Qah (by simp_all [Qfc];try omega),rfl⟩
theorem Qcc (k:Int) (w:World):Calls Tryz.prog 53 #[.int .i64 k] w fun e w'=>e = .returned (.bool (Qkv k))∧w=w':=by
 go_enter Tryz.func53,Tryz.ntmps53
 go_wp2
 all_goals
  go_ret
  exact ⟨Qah (by simp_all [Qkv];try omega),rfl⟩
theorem Qcm (k:Int) (w:World):Calls Tryz.prog 204 #[.int .i64 k] w fun e w'=>e = .returned (.bool (Qie k))∧w=w':=by
 have HR:=hQ (show Qie k=(Qkv k && (k != 19) && (k != 20) && (k != 21)) from rfl)
 cases hx:Qkv k
 ·go_enter Tryz.func204,Tryz.ntmps204
  go_wp2_with (go_at_call 53;refine (Qcc _ _).mono ?_;rw [hx];rintro e w' ⟨rfl,rfl⟩)
  go_ret
  exact ⟨Qah (by rw [HR.out,hx];rfl),rfl⟩
 ·go_enter Tryz.func204,Tryz.ntmps204
  go_wp2_with (go_at_call 53;refine (Qcc _ _).mono ?_;rw [hx];rintro e w' ⟨rfl,rfl⟩)
  all_goals
   go_ret
   exact ⟨Qah (by rw [HR.out,hx];simp_all),rfl⟩
theorem Zfk (s:ByteArray) (w:World) (h0:(s.toList == [43])=true):Calls Tryz.prog 202 #[.string s] w fun e w'=>e = .returned (.bool (opB s))∧w=w':=by
 have HR:=hQ (show opB s=true from by unfold opB;simp only [←Qa9,h0];rfl)
 go_enter Tryz.func202,Tryz.ntmps202
 go_wp2
 go_ret
 exact ⟨by rw [HR.out];rfl,rfl⟩
theorem Zfl (s:ByteArray) (w:World) (h0:(s.toList == [43])=false) (h1:(s.toList == [45])=true):Calls Tryz.prog 202 #[.string s] w fun e w'=>e = .returned (.bool (opB s))∧w=w':=by
 have HR:=hQ (show opB s=true from by unfold opB;simp only [←Qa9,h0,h1];rfl)
 go_enter Tryz.func202,Tryz.ntmps202
 go_wp2
 go_ret
 exact ⟨by rw [HR.out];rfl,rfl⟩
theorem Zfm (s:ByteArray) (w:World) (h0:(s.toList == [43])=false) (h1:(s.toList == [45])=false) (h2:(s.toList == [42])=true):Calls Tryz.prog 202 #[.string s] w fun e w'=>e = .returned (.bool (opB s))∧w=w':=by
 have HR:=hQ (show opB s=true from by unfold opB;simp only [←Qa9,h0,h1,h2];rfl)
 go_enter Tryz.func202,Tryz.ntmps202
 go_wp2
 go_ret
 exact ⟨by rw [HR.out];rfl,rfl⟩
theorem Zfn (s:ByteArray) (w:World) (h0:(s.toList == [43])=false) (h1:(s.toList == [45])=false) (h2:(s.toList == [42])=false) (h3:(s.toList == [60])=true):Calls Tryz.prog 202 #[.string s] w fun e w'=>e = .returned (.bool (opB s))∧w=w':=by
 have HR:=hQ (show opB s=true from by unfold opB;simp only [←Qa9,h0,h1,h2,h3];rfl)
 go_enter Tryz.func202,Tryz.ntmps202
 go_wp2
 go_ret
 exact ⟨by rw [HR.out];rfl,rfl⟩
theorem Zfo (s:ByteArray) (w:World) (h0:(s.toList == [43])=false) (h1:(s.toList == [45])=false) (h2:(s.toList == [42])=false) (h3:(s.toList == [60])=false) (h4:(s.toList == [61,61])=true):Calls Tryz.prog 202 #[.string s] w fun e w'=>e = .returned (.bool (opB s))∧w=w':=by
 have HR:=hQ (show opB s=true from by unfold opB;simp only [←Qa9,h0,h1,h2,h3,h4];rfl)
 go_enter Tryz.func202,Tryz.ntmps202
 go_wp2
 go_ret
 exact ⟨by rw [HR.out];rfl,rfl⟩
theorem Zfp (s:ByteArray) (w:World) (h0:(s.toList == [43])=false) (h1:(s.toList == [45])=false) (h2:(s.toList == [42])=false) (h3:(s.toList == [60])=false) (h4:(s.toList == [61,61])=false):Calls Tryz.prog 202 #[.string s] w fun e w'=>e = .returned (.bool (opB s))∧w=w':=by
 have HR:=hQ (show opB s=false from by unfold opB;simp only [←Qa9,h0,h1,h2,h3,h4];rfl)
 go_enter Tryz.func202,Tryz.ntmps202
 go_wp2
 go_ret
 exact ⟨by rw [HR.out];rfl,rfl⟩
theorem Qzp (s:ByteArray) (w:World):Calls Tryz.prog 202 #[.string s] w fun e w'=>e = .returned (.bool (opB s))∧w=w':=by
 cases h0:(s.toList == [43])
 case true=>exact Zfk s w h0
 cases h1:(s.toList == [45])
 case true=>exact Zfl s w h0 h1
 cases h2:(s.toList == [42])
 case true=>exact Zfm s w h0 h1 h2
 cases h3:(s.toList == [60])
 case true=>exact Zfn s w h0 h1 h2 h3
 cases h4:(s.toList == [61,61])
 case true=>exact Zfo s w h0 h1 h2 h3 h4
 exact Zfp s w h0 h1 h2 h3 h4
theorem Qsq (s:ByteArray) (w:World) (hs:s.size<maxLen):Calls Tryz.prog 146 #[.int .i64 1,.string s] w fun e w'=>e = .returned (.bool (Qbr (Qae 1) s))∧Below w.heap.size w w':=by
 have HS:=hQ hs
 have HR:=hQ (show Qbr (Qae 1) s=Qbv 1 (Qa3 (suf s 0):Nat) s from rfl)
 clear hs
 go_enter Tryz.func146,Tryz.ntmps146
 go_wp2_with (first | (go_at_call 201;refine (Qaz s _ HS.out).mono ?_;rintro e w1 ⟨rfl,hb1⟩;have HB1:=hQ hb1;clear hb1))
 all_goals
  go_ret
  exact ⟨Qah (by first | exact HR.out.symm | (rw [HR.out];simp_all [Qbv];done) | (rw [HR.out];simp [Qbv];omega)),HB1.out⟩
theorem Qsr (s:ByteArray) (w:World) (hs:s.size<maxLen):Calls Tryz.prog 146 #[.int .i64 2,.string s] w fun e w'=>e = .returned (.bool (Qbr (Qae 2) s))∧Below w.heap.size w w':=by
 have HS:=hQ hs
 have HR:=hQ (show Qbr (Qae 2) s=Qbv 2 (Qa3 (suf s 0):Nat) s from rfl)
 clear hs
 go_enter Tryz.func146,Tryz.ntmps146
 go_wp2_with (first | (go_at_call 201;refine (Qaz s _ HS.out).mono ?_;rintro e w1 ⟨rfl,hb1⟩;have HB1:=hQ hb1;clear hb1))
 all_goals
  go_ret
  exact ⟨Qah (by first | exact HR.out.symm | (rw [HR.out];simp_all [Qbv];done) | (rw [HR.out];simp [Qbv];omega)),HB1.out⟩
theorem Qss (s:ByteArray) (w:World) (hs:s.size<maxLen):Calls Tryz.prog 146 #[.int .i64 3,.string s] w fun e w'=>e = .returned (.bool (Qbr (Qae 3) s))∧Below w.heap.size w w':=by
 have HS:=hQ hs
 have HR:=hQ (show Qbr (Qae 3) s=Qbv 1 (Qa3 (suf s 0):Nat) s from rfl)
 clear hs
 go_enter Tryz.func146,Tryz.ntmps146
 go_wp2_with (first | (go_at_call 201;refine (Qaz s _ HS.out).mono ?_;rintro e w1 ⟨rfl,hb1⟩;have HB1:=hQ hb1;clear hb1))
 all_goals
  go_ret
  exact ⟨Qah (by first | exact HR.out.symm | (rw [HR.out];simp_all [Qbv];done) | (rw [HR.out];simp [Qbv];omega)),HB1.out⟩
theorem Qst (s:ByteArray) (w:World) (hs:s.size<maxLen):Calls Tryz.prog 146 #[.int .i64 4,.string s] w fun e w'=>e = .returned (.bool (Qbr (Qae 4) s))∧Below w.heap.size w w':=by
 have HS:=hQ hs
 have HR:=hQ (show Qbr (Qae 4) s=Qbv 2 (Qa3 (suf s 0):Nat) s from rfl)
 clear hs
 go_enter Tryz.func146,Tryz.ntmps146
 go_wp2_with (first | (go_at_call 201;refine (Qaz s _ HS.out).mono ?_;rintro e w1 ⟨rfl,hb1⟩;have HB1:=hQ hb1;clear hb1))
 all_goals
  go_ret
  exact ⟨Qah (by first | exact HR.out.symm | (rw [HR.out];simp_all [Qbv];done) | (rw [HR.out];simp [Qbv];omega)),HB1.out⟩
theorem Qsu (s:ByteArray) (w:World) (hs:s.size<maxLen):Calls Tryz.prog 146 #[.int .i64 9,.string s] w fun e w'=>e = .returned (.bool (Qbr (Qae 9) s))∧Below w.heap.size w w':=by
 have HS:=hQ hs
 have HR:=hQ (show Qbr (Qae 9) s=Qbv 3 (Qa3 (suf s 0):Nat) s from rfl)
 clear hs
 go_enter Tryz.func146,Tryz.ntmps146
 go_wp2_with (first | (go_at_call 201;refine (Qaz s _ HS.out).mono ?_;rintro e w1 ⟨rfl,hb1⟩;have HB1:=hQ hb1;clear hb1))
 all_goals
  go_ret
  exact ⟨Qah (by first | exact HR.out.symm | (rw [HR.out];simp_all [Qbv];done) | (rw [HR.out];simp [Qbv];omega)),HB1.out⟩
theorem Qqq (s:ByteArray) (w:World) (hs:s.size<maxLen):Calls Tryz.prog 146 #[.int .i64 10,.string s] w fun e w'=>e = .returned (.bool (Qbr (Qae 10) s))∧Below w.heap.size w w':=by
 have HS:=hQ hs
 have HR:=hQ (show Qbr (Qae 10) s=Qbv 5 (Qa3 (suf s 0):Nat) s from rfl)
 clear hs
 go_enter Tryz.func146,Tryz.ntmps146
 go_wp2_with (first | (go_at_call 201;refine (Qaz s _ HS.out).mono ?_;rintro e w1 ⟨rfl,hb1⟩;have HB1:=hQ hb1;clear hb1))
 all_goals
  go_ret
  exact ⟨Qah (by first | exact HR.out.symm | (rw [HR.out];simp_all [Qbv];done) | (rw [HR.out];simp [Qbv];omega)),HB1.out⟩
theorem Qqr (s:ByteArray) (w:World) (hs:s.size<maxLen):Calls Tryz.prog 146 #[.int .i64 11,.string s] w fun e w'=>e = .returned (.bool (Qbr (Qae 11) s))∧Below w.heap.size w w':=by
 have HS:=hQ hs
 have HR:=hQ (show Qbr (Qae 11) s=Qbv 6 (Qa3 (suf s 0):Nat) s from rfl)
 clear hs
 go_enter Tryz.func146,Tryz.ntmps146
 go_wp2_with (first | (go_at_call 201;refine (Qaz s _ HS.out).mono ?_;rintro e w1 ⟨rfl,hb1⟩;have HB1:=hQ hb1;clear hb1))
 all_goals
  go_ret
  exact ⟨Qah (by first | exact HR.out.symm | (rw [HR.out];simp_all [Qbv];done) | (rw [HR.out];simp [Qbv];omega)),HB1.out⟩
theorem Qqs (s:ByteArray) (w:World) (hs:s.size<maxLen):Calls Tryz.prog 146 #[.int .i64 12,.string s] w fun e w'=>e = .returned (.bool (Qbr (Qae 12) s))∧Below w.heap.size w w':=by
 have HS:=hQ hs
 have HR:=hQ (show Qbr (Qae 12) s=Qbv 2 (Qa3 (suf s 0):Nat) s from rfl)
 clear hs
 go_enter Tryz.func146,Tryz.ntmps146
 go_wp2_with (first | (go_at_call 201;refine (Qaz s _ HS.out).mono ?_;rintro e w1 ⟨rfl,hb1⟩;have HB1:=hQ hb1;clear hb1))
 all_goals
  go_ret
  exact ⟨Qah (by first | exact HR.out.symm | (rw [HR.out];simp_all [Qbv];done) | (rw [HR.out];simp [Qbv];omega)),HB1.out⟩
theorem Qqt (s:ByteArray) (w:World) (hs:s.size<maxLen):Calls Tryz.prog 146 #[.int .i64 16,.string s] w fun e w'=>e = .returned (.bool (Qbr (Qae 16) s))∧Below w.heap.size w w':=by
 have HS:=hQ hs
 have HR:=hQ (show Qbr (Qae 16) s=Qbv 4 (Qa3 (suf s 0):Nat) s from rfl)
 clear hs
 go_enter Tryz.func146,Tryz.ntmps146
 go_wp2_with (first | (go_at_call 201;refine (Qaz s _ HS.out).mono ?_;rintro e w1 ⟨rfl,hb1⟩;have HB1:=hQ hb1;clear hb1))
 all_goals
  go_ret
  exact ⟨Qah (by first | exact HR.out.symm | (rw [HR.out];simp_all [Qbv];done) | (rw [HR.out];simp [Qbv];omega)),HB1.out⟩
theorem Qqu (s:ByteArray) (w:World) (hs:s.size<maxLen):Calls Tryz.prog 146 #[.int .i64 20,.string s] w fun e w'=>e = .returned (.bool (Qbr (Qae 20) s))∧Below w.heap.size w w':=by
 have HS:=hQ hs
 have HR:=hQ (show Qbr (Qae 20) s=Qbv 2 (Qa3 (suf s 0):Nat) s from rfl)
 clear hs
 go_enter Tryz.func146,Tryz.ntmps146
 go_wp2_with (first | (go_at_call 201;refine (Qaz s _ HS.out).mono ?_;rintro e w1 ⟨rfl,hb1⟩;have HB1:=hQ hb1;clear hb1))
 all_goals
  go_ret
  exact ⟨Qah (by first | exact HR.out.symm | (rw [HR.out];simp_all [Qbv];done) | (rw [HR.out];simp [Qbv];omega)),HB1.out⟩
theorem Qqv (s:ByteArray) (w:World) (hs:s.size<maxLen):Calls Tryz.prog 146 #[.int .i64 21,.string s] w fun e w'=>e = .returned (.bool (Qbr (Qae 21) s))∧Below w.heap.size w w':=by
 have HS:=hQ hs
 have HR:=hQ (show Qbr (Qae 21) s=Qbv 7 (Qa3 (suf s 0):Nat) s from rfl)
 clear hs
 go_enter Tryz.func146,Tryz.ntmps146
 go_wp2_with (first | (go_at_call 201;refine (Qaz s _ HS.out).mono ?_;rintro e w1 ⟨rfl,hb1⟩;have HB1:=hQ hb1;clear hb1) | (go_at_call 202;refine (Qzp s _).mono ?_;rintro e w2 ⟨rfl,rfl⟩))
 all_goals
  go_ret
  exact ⟨Qah (by first | exact HR.out.symm | (rw [HR.out];simp_all [Qbv];done) | (rw [HR.out];simp [Qbv];omega)),HB1.out⟩
theorem Zg0 (s:ByteArray):is s [] = s.toList.isEmpty:=by
 rw [←Qa9]
 cases s.toList <;> rfl
theorem Qsv (k:Int) (s:ByteArray) (h:k≠1∧k≠2∧k≠3∧k≠4∧k≠9∧k≠10∧k≠11∧k≠12∧k≠16∧k≠20∧k≠21):Qbr (Qae k) s=is s []:=by
 by_cases h0:k≤0∨23≤k
 ·rw [Qdu h0];rfl
 ·rcases (show k=5∨k=6∨k=7∨k=8∨k=13∨k=14∨k=15∨k=17∨k=18∨k=19∨k=22 from by omega) with rfl | rfl | rfl | rfl | rfl | rfl | rfl | rfl | rfl | rfl | rfl <;> rfl
theorem Qmw (k:Int) (s:ByteArray) (w:World) (hs:s.size<maxLen) (h:k≠1∧k≠2∧k≠3∧k≠4∧k≠9∧k≠10∧k≠11∧k≠12∧k≠16∧k≠20∧k≠21):Calls Tryz.prog 146 #[.int .i64 k,.string s] w fun e w'=>e = .returned (.bool (Qbr (Qae k) s))∧Below w.heap.size w w':=by
 have HS:=hQ hs
 have HR:=hQ ((Qsv k s h).trans (Zg0 s))
 have e1:=Qco (show k≠1 from by omega)
 have e2:=Qco (show k≠2 from by omega)
 have e3:=Qco (show k≠3 from by omega)
 have e4:=Qco (show k≠4 from by omega)
 have e9:=Qco (show k≠9 from by omega)
 have e10:=Qco (show k≠10 from by omega)
 have e11:=Qco (show k≠11 from by omega)
 have e12:=Qco (show k≠12 from by omega)
 have e16:=Qco (show k≠16 from by omega)
 have e20:=Qco (show k≠20 from by omega)
 have e21:=Qco (show k≠21 from by omega)
 clear hs h
 go_enter Tryz.func146,Tryz.ntmps146
 go_wp2_with (go_at_call 201;refine (Qaz s _ HS.out).mono ?_;rintro e w1 ⟨rfl,hb1⟩;have HB1:=hQ hb1;clear hb1)
 go_ret
 exact ⟨Qah (by first | exact HR.out.symm | (rw [HR.out];simp;done)),HB1.out⟩
theorem Qj5 (k:Int) (s:ByteArray) (w:World) (hs:s.size<maxLen):Calls Tryz.prog 146 #[.int .i64 k,.string s] w fun e w'=>e = .returned (.bool (Qbr (Qae k) s))∧Below w.heap.size w w':=by
 by_cases h:k≠1∧k≠2∧k≠3∧k≠4∧k≠9∧k≠10∧k≠11∧k≠12∧k≠16∧k≠20∧k≠21
 ·exact Qmw k s w hs h
 ·rcases (show k=1∨k=2∨k=3∨k=4∨k=9∨k=10∨k=11∨k=12∨k=16∨k=20∨k=21 from by omega) with rfl | rfl | rfl | rfl | rfl | rfl | rfl | rfl | rfl | rfl | rfl
  ·exact Qsq s w hs
  ·exact Qsr s w hs
  ·exact Qss s w hs
  ·exact Qst s w hs
  ·exact Qsu s w hs
  ·exact Qqq s w hs
  ·exact Qqr s w hs
  ·exact Qqs s w hs
  ·exact Qqt s w hs
  ·exact Qqu s w hs
  ·exact Qqv s w hs
def Qgq (tk:Int) (n i:Nat) (k:Int):Bool :=
 if tk=1 then k==2 || k==3
 else if tk=2 then (if i+1=n then Qkv k else if i+2=n then Qfc 3 k else k==4)
 else if tk=3∨tk=4∨tk=8 then Qfc 3 k
 else if tk=16 then k==17
 else if tk=21 then (Qie k || (decide (i=0) && k==21))
 else Qkv k
theorem Zg1 (vx:ByteArray) (vla:Option Addr) (vll vlc:Nat) (vka:Option Addr) (vkl vkc i:Nat) (k:Int) (w:World) (_hi:i<1000) (_hn:vkl≤1000):Calls Tryz.prog 147 #[.agg #[.int .i64 1,.string vx,.slice vla vll vlc,.slice vka vkl vkc],.int .i64 i,.int .i64 k] w fun e w'=>e = .returned (.bool (Qgq 1 vkl i k))∧Below w.heap.size w w':=by
 have HX:=hQ (xH w (.cells #[.int .i64 1,.string vx,.slice vla vll vlc,.slice vka vkl vkc] 29))
 have HB0:=hQ ((xC w.heap.size w).alloc (xA _) (.cells #[.int .i64 1,.string vx,.slice vla vll vlc,.slice vka vkl vkc] 29))
 have k0:(w.alloc (.cells #[.int .i64 1,.string vx,.slice vla vll vlc,.slice vka vkl vkc] 29)).cell? ⟨w.heap.size,0,none⟩=some (.int .i64 1):=Qab HX.out 0 _ rfl
 have k3:(w.alloc (.cells #[.int .i64 1,.string vx,.slice vla vll vlc,.slice vka vkl vkc] 29)).cell? ⟨w.heap.size,3,none⟩=some (.slice vka vkl vkc):=Qab HX.out 3 _ rfl
 have HR:=hQ (show Qgq 1 vkl i k=(k==2 || k==3) from rfl)
 go_enter Tryz.func147,Tryz.ntmps147
 go_wp2_with (first | (go_at_call 53;refine (Qcc _ _).mono ?_;rintro e w1 ⟨rfl,rfl⟩) | (go_at_call 203;refine (Qcu _ _).mono ?_;rintro e w1 ⟨rfl,rfl⟩) | (go_at_call 204;refine (Qcm _ _).mono ?_;rintro e w1 ⟨rfl,rfl⟩))
 all_goals
  go_ret
  exact ⟨Qah (by first | exact HR.out.symm | (rw [HR.out];done) | (rw [HR.out];simp_all;done)),HB0.out⟩
theorem Zfq (vx:ByteArray) (vla:Option Addr) (vll vlc:Nat) (vka:Option Addr) (vkl vkc i:Nat) (k:Int) (w:World) (_hi:i<1000) (_hn:vkl≤1000) (h:i+1=vkl):Calls Tryz.prog 147 #[.agg #[.int .i64 2,.string vx,.slice vla vll vlc,.slice vka vkl vkc],.int .i64 i,.int .i64 k] w fun e w'=>e = .returned (.bool (Qgq 2 vkl i k))∧Below w.heap.size w w':=by
 have HX:=hQ (xH w (.cells #[.int .i64 2,.string vx,.slice vla vll vlc,.slice vka vkl vkc] 29))
 have HB0:=hQ ((xC w.heap.size w).alloc (xA _) (.cells #[.int .i64 2,.string vx,.slice vla vll vlc,.slice vka vkl vkc] 29))
 have k0:(w.alloc (.cells #[.int .i64 2,.string vx,.slice vla vll vlc,.slice vka vkl vkc] 29)).cell? ⟨w.heap.size,0,none⟩=some (.int .i64 2):=Qab HX.out 0 _ rfl
 have k3:(w.alloc (.cells #[.int .i64 2,.string vx,.slice vla vll vlc,.slice vka vkl vkc] 29)).cell? ⟨w.heap.size,3,none⟩=some (.slice vka vkl vkc):=Qab HX.out 3 _ rfl
 have HR:=hQ (show Qgq 2 vkl i k=Qkv k from by unfold Qgq;rw [xN (by decide),xO rfl,xO h])
 have d1:((i:Int)==(vkl:Int)-1)=true:=beq_iff_eq.2 (by omega)
 clear h
 go_enter Tryz.func147,Tryz.ntmps147
 go_wp2_with (first | (go_at_call 53;refine (Qcc _ _).mono ?_;rintro e w1 ⟨rfl,rfl⟩) | (go_at_call 203;refine (Qcu _ _).mono ?_;rintro e w1 ⟨rfl,rfl⟩) | (go_at_call 204;refine (Qcm _ _).mono ?_;rintro e w1 ⟨rfl,rfl⟩))
 all_goals
  go_ret
  exact ⟨Qah (by first | exact HR.out.symm | (rw [HR.out];done) | (rw [HR.out];simp_all;done)),HB0.out⟩
theorem Zfr (vx:ByteArray) (vla:Option Addr) (vll vlc:Nat) (vka:Option Addr) (vkl vkc i:Nat) (k:Int) (w:World) (_hi:i<1000) (_hn:vkl≤1000) (h1:i+1≠vkl) (h:i+2=vkl):Calls Tryz.prog 147 #[.agg #[.int .i64 2,.string vx,.slice vla vll vlc,.slice vka vkl vkc],.int .i64 i,.int .i64 k] w fun e w'=>e = .returned (.bool (Qgq 2 vkl i k))∧Below w.heap.size w w':=by
 have HX:=hQ (xH w (.cells #[.int .i64 2,.string vx,.slice vla vll vlc,.slice vka vkl vkc] 29))
 have HB0:=hQ ((xC w.heap.size w).alloc (xA _) (.cells #[.int .i64 2,.string vx,.slice vla vll vlc,.slice vka vkl vkc] 29))
 have k0:(w.alloc (.cells #[.int .i64 2,.string vx,.slice vla vll vlc,.slice vka vkl vkc] 29)).cell? ⟨w.heap.size,0,none⟩=some (.int .i64 2):=Qab HX.out 0 _ rfl
 have k3:(w.alloc (.cells #[.int .i64 2,.string vx,.slice vla vll vlc,.slice vka vkl vkc] 29)).cell? ⟨w.heap.size,3,none⟩=some (.slice vka vkl vkc):=Qab HX.out 3 _ rfl
 have HR:=hQ (show Qgq 2 vkl i k=Qfc 3 k from by unfold Qgq;rw [xN (by decide),xO rfl,xN h1,xO h])
 have d1:((i:Int)==(vkl:Int)-1)=false:=beq_eq_false_iff_ne.2 (by omega)
 have d2:((i:Int)==(vkl:Int)-2)=true:=beq_iff_eq.2 (by omega)
 clear h h1
 go_enter Tryz.func147,Tryz.ntmps147
 go_wp2_with (first | (go_at_call 53;refine (Qcc _ _).mono ?_;rintro e w1 ⟨rfl,rfl⟩) | (go_at_call 203;refine (Qcu _ _).mono ?_;rintro e w1 ⟨rfl,rfl⟩) | (go_at_call 204;refine (Qcm _ _).mono ?_;rintro e w1 ⟨rfl,rfl⟩))
 all_goals
  go_ret
  exact ⟨Qah (by first | exact HR.out.symm | (rw [HR.out];done) | (rw [HR.out];simp_all;done)),HB0.out⟩
theorem Zfs (vx:ByteArray) (vla:Option Addr) (vll vlc:Nat) (vka:Option Addr) (vkl vkc i:Nat) (k:Int) (w:World) (_hi:i<1000) (_hn:vkl≤1000) (h1:i+1≠vkl) (h:i+2≠vkl):Calls Tryz.prog 147 #[.agg #[.int .i64 2,.string vx,.slice vla vll vlc,.slice vka vkl vkc],.int .i64 i,.int .i64 k] w fun e w'=>e = .returned (.bool (Qgq 2 vkl i k))∧Below w.heap.size w w':=by
 have HX:=hQ (xH w (.cells #[.int .i64 2,.string vx,.slice vla vll vlc,.slice vka vkl vkc] 29))
 have HB0:=hQ ((xC w.heap.size w).alloc (xA _) (.cells #[.int .i64 2,.string vx,.slice vla vll vlc,.slice vka vkl vkc] 29))
 have k0:(w.alloc (.cells #[.int .i64 2,.string vx,.slice vla vll vlc,.slice vka vkl vkc] 29)).cell? ⟨w.heap.size,0,none⟩=some (.int .i64 2):=Qab HX.out 0 _ rfl
 have k3:(w.alloc (.cells #[.int .i64 2,.string vx,.slice vla vll vlc,.slice vka vkl vkc] 29)).cell? ⟨w.heap.size,3,none⟩=some (.slice vka vkl vkc):=Qab HX.out 3 _ rfl
 have HR:=hQ (show Qgq 2 vkl i k=(k==4) from by unfold Qgq;rw [xN (by decide),xO rfl,xN h1,xN h])
 have d1:((i:Int)==(vkl:Int)-1)=false:=beq_eq_false_iff_ne.2 (by omega)
 have d2:((i:Int)==(vkl:Int)-2)=false:=beq_eq_false_iff_ne.2 (by omega)
 clear h h1
 go_enter Tryz.func147,Tryz.ntmps147
 go_wp2_with (first | (go_at_call 53;refine (Qcc _ _).mono ?_;rintro e w1 ⟨rfl,rfl⟩) | (go_at_call 203;refine (Qcu _ _).mono ?_;rintro e w1 ⟨rfl,rfl⟩) | (go_at_call 204;refine (Qcm _ _).mono ?_;rintro e w1 ⟨rfl,rfl⟩))
 all_goals
  go_ret
  exact ⟨Qah (by first | exact HR.out.symm | (rw [HR.out];done) | (rw [HR.out];simp_all;done)),HB0.out⟩
theorem Zg2 (vx:ByteArray) (vla:Option Addr) (vll vlc:Nat) (vka:Option Addr) (vkl vkc i:Nat) (k:Int) (w:World) (_hi:i<1000) (_hn:vkl≤1000):Calls Tryz.prog 147 #[.agg #[.int .i64 3,.string vx,.slice vla vll vlc,.slice vka vkl vkc],.int .i64 i,.int .i64 k] w fun e w'=>e = .returned (.bool (Qgq 3 vkl i k))∧Below w.heap.size w w':=by
 have HX:=hQ (xH w (.cells #[.int .i64 3,.string vx,.slice vla vll vlc,.slice vka vkl vkc] 29))
 have HB0:=hQ ((xC w.heap.size w).alloc (xA _) (.cells #[.int .i64 3,.string vx,.slice vla vll vlc,.slice vka vkl vkc] 29))
 have k0:(w.alloc (.cells #[.int .i64 3,.string vx,.slice vla vll vlc,.slice vka vkl vkc] 29)).cell? ⟨w.heap.size,0,none⟩=some (.int .i64 3):=Qab HX.out 0 _ rfl
 have k3:(w.alloc (.cells #[.int .i64 3,.string vx,.slice vla vll vlc,.slice vka vkl vkc] 29)).cell? ⟨w.heap.size,3,none⟩=some (.slice vka vkl vkc):=Qab HX.out 3 _ rfl
 have HR:=hQ (show Qgq 3 vkl i k=Qfc 3 k from rfl)
 go_enter Tryz.func147,Tryz.ntmps147
 go_wp2_with (first | (go_at_call 53;refine (Qcc _ _).mono ?_;rintro e w1 ⟨rfl,rfl⟩) | (go_at_call 203;refine (Qcu _ _).mono ?_;rintro e w1 ⟨rfl,rfl⟩) | (go_at_call 204;refine (Qcm _ _).mono ?_;rintro e w1 ⟨rfl,rfl⟩))
 all_goals
  go_ret
  exact ⟨Qah (by first | exact HR.out.symm | (rw [HR.out];done) | (rw [HR.out];simp_all;done)),HB0.out⟩
theorem Zg3 (vx:ByteArray) (vla:Option Addr) (vll vlc:Nat) (vka:Option Addr) (vkl vkc i:Nat) (k:Int) (w:World) (_hi:i<1000) (_hn:vkl≤1000):Calls Tryz.prog 147 #[.agg #[.int .i64 4,.string vx,.slice vla vll vlc,.slice vka vkl vkc],.int .i64 i,.int .i64 k] w fun e w'=>e = .returned (.bool (Qgq 4 vkl i k))∧Below w.heap.size w w':=by
 have HX:=hQ (xH w (.cells #[.int .i64 4,.string vx,.slice vla vll vlc,.slice vka vkl vkc] 29))
 have HB0:=hQ ((xC w.heap.size w).alloc (xA _) (.cells #[.int .i64 4,.string vx,.slice vla vll vlc,.slice vka vkl vkc] 29))
 have k0:(w.alloc (.cells #[.int .i64 4,.string vx,.slice vla vll vlc,.slice vka vkl vkc] 29)).cell? ⟨w.heap.size,0,none⟩=some (.int .i64 4):=Qab HX.out 0 _ rfl
 have k3:(w.alloc (.cells #[.int .i64 4,.string vx,.slice vla vll vlc,.slice vka vkl vkc] 29)).cell? ⟨w.heap.size,3,none⟩=some (.slice vka vkl vkc):=Qab HX.out 3 _ rfl
 have HR:=hQ (show Qgq 4 vkl i k=Qfc 3 k from rfl)
 go_enter Tryz.func147,Tryz.ntmps147
 go_wp2_with (first | (go_at_call 53;refine (Qcc _ _).mono ?_;rintro e w1 ⟨rfl,rfl⟩) | (go_at_call 203;refine (Qcu _ _).mono ?_;rintro e w1 ⟨rfl,rfl⟩) | (go_at_call 204;refine (Qcm _ _).mono ?_;rintro e w1 ⟨rfl,rfl⟩))
 all_goals
  go_ret
  exact ⟨Qah (by first | exact HR.out.symm | (rw [HR.out];done) | (rw [HR.out];simp_all;done)),HB0.out⟩
theorem Zg4 (vx:ByteArray) (vla:Option Addr) (vll vlc:Nat) (vka:Option Addr) (vkl vkc i:Nat) (k:Int) (w:World) (_hi:i<1000) (_hn:vkl≤1000):Calls Tryz.prog 147 #[.agg #[.int .i64 8,.string vx,.slice vla vll vlc,.slice vka vkl vkc],.int .i64 i,.int .i64 k] w fun e w'=>e = .returned (.bool (Qgq 8 vkl i k))∧Below w.heap.size w w':=by
 have HX:=hQ (xH w (.cells #[.int .i64 8,.string vx,.slice vla vll vlc,.slice vka vkl vkc] 29))
 have HB0:=hQ ((xC w.heap.size w).alloc (xA _) (.cells #[.int .i64 8,.string vx,.slice vla vll vlc,.slice vka vkl vkc] 29))
 have k0:(w.alloc (.cells #[.int .i64 8,.string vx,.slice vla vll vlc,.slice vka vkl vkc] 29)).cell? ⟨w.heap.size,0,none⟩=some (.int .i64 8):=Qab HX.out 0 _ rfl
 have k3:(w.alloc (.cells #[.int .i64 8,.string vx,.slice vla vll vlc,.slice vka vkl vkc] 29)).cell? ⟨w.heap.size,3,none⟩=some (.slice vka vkl vkc):=Qab HX.out 3 _ rfl
 have HR:=hQ (show Qgq 8 vkl i k=Qfc 3 k from rfl)
 go_enter Tryz.func147,Tryz.ntmps147
 go_wp2_with (first | (go_at_call 53;refine (Qcc _ _).mono ?_;rintro e w1 ⟨rfl,rfl⟩) | (go_at_call 203;refine (Qcu _ _).mono ?_;rintro e w1 ⟨rfl,rfl⟩) | (go_at_call 204;refine (Qcm _ _).mono ?_;rintro e w1 ⟨rfl,rfl⟩))
 all_goals
  go_ret
  exact ⟨Qah (by first | exact HR.out.symm | (rw [HR.out];done) | (rw [HR.out];simp_all;done)),HB0.out⟩
theorem Zft (vx:ByteArray) (vla:Option Addr) (vll vlc:Nat) (vka:Option Addr) (vkl vkc i:Nat) (k:Int) (w:World) (_hi:i<1000) (_hn:vkl≤1000):Calls Tryz.prog 147 #[.agg #[.int .i64 16,.string vx,.slice vla vll vlc,.slice vka vkl vkc],.int .i64 i,.int .i64 k] w fun e w'=>e = .returned (.bool (Qgq 16 vkl i k))∧Below w.heap.size w w':=by
 have HX:=hQ (xH w (.cells #[.int .i64 16,.string vx,.slice vla vll vlc,.slice vka vkl vkc] 29))
 have HB0:=hQ ((xC w.heap.size w).alloc (xA _) (.cells #[.int .i64 16,.string vx,.slice vla vll vlc,.slice vka vkl vkc] 29))
 have k0:(w.alloc (.cells #[.int .i64 16,.string vx,.slice vla vll vlc,.slice vka vkl vkc] 29)).cell? ⟨w.heap.size,0,none⟩=some (.int .i64 16):=Qab HX.out 0 _ rfl
 have k3:(w.alloc (.cells #[.int .i64 16,.string vx,.slice vla vll vlc,.slice vka vkl vkc] 29)).cell? ⟨w.heap.size,3,none⟩=some (.slice vka vkl vkc):=Qab HX.out 3 _ rfl
 have HR:=hQ (show Qgq 16 vkl i k=(k==17) from rfl)
 go_enter Tryz.func147,Tryz.ntmps147
 go_wp2_with (first | (go_at_call 53;refine (Qcc _ _).mono ?_;rintro e w1 ⟨rfl,rfl⟩) | (go_at_call 203;refine (Qcu _ _).mono ?_;rintro e w1 ⟨rfl,rfl⟩) | (go_at_call 204;refine (Qcm _ _).mono ?_;rintro e w1 ⟨rfl,rfl⟩))
 all_goals
  go_ret
  exact ⟨Qah (by first | exact HR.out.symm | (rw [HR.out];done) | (rw [HR.out];simp_all;done)),HB0.out⟩
theorem Zc3 (vx:ByteArray) (vla:Option Addr) (vll vlc:Nat) (vka:Option Addr) (vkl vkc i:Nat) (k:Int) (w:World) (_hi:i<1000) (_hn:vkl≤1000) (hu:Qie k=true):Calls Tryz.prog 147 #[.agg #[.int .i64 21,.string vx,.slice vla vll vlc,.slice vka vkl vkc],.int .i64 i,.int .i64 k] w fun e w'=>e = .returned (.bool (Qgq 21 vkl i k))∧Below w.heap.size w w':=by
 have HX:=hQ (xH w (.cells #[.int .i64 21,.string vx,.slice vla vll vlc,.slice vka vkl vkc] 29))
 have HB0:=hQ ((xC w.heap.size w).alloc (xA _) (.cells #[.int .i64 21,.string vx,.slice vla vll vlc,.slice vka vkl vkc] 29))
 have k0:(w.alloc (.cells #[.int .i64 21,.string vx,.slice vla vll vlc,.slice vka vkl vkc] 29)).cell? ⟨w.heap.size,0,none⟩=some (.int .i64 21):=Qab HX.out 0 _ rfl
 have k3:(w.alloc (.cells #[.int .i64 21,.string vx,.slice vla vll vlc,.slice vka vkl vkc] 29)).cell? ⟨w.heap.size,3,none⟩=some (.slice vka vkl vkc):=Qab HX.out 3 _ rfl
 have HR:=hQ (show Qgq 21 vkl i k=true from by show (Qie k || (decide (i=0) && k==21))=true;rw [hu];rfl)
 go_enter Tryz.func147,Tryz.ntmps147
 go_wp2_with (first | (go_at_call 53;refine (Qcc _ _).mono ?_;rintro e w1 ⟨rfl,rfl⟩) | (go_at_call 203;refine (Qcu _ _).mono ?_;rintro e w1 ⟨rfl,rfl⟩) | (go_at_call 204;refine (Qcm _ _).mono ?_;rw [hu];rintro e w1 ⟨rfl,rfl⟩))
 all_goals
  go_ret
  exact ⟨Qah (by first | exact HR.out.symm | (rw [HR.out];done) | (rw [HR.out];simp_all;done)),HB0.out⟩
theorem Zc4 (vx:ByteArray) (vla:Option Addr) (vll vlc:Nat) (vka:Option Addr) (vkl vkc i:Nat) (k:Int) (w:World) (_hi:i<1000) (_hn:vkl≤1000) (hu:Qie k=false):Calls Tryz.prog 147 #[.agg #[.int .i64 21,.string vx,.slice vla vll vlc,.slice vka vkl vkc],.int .i64 i,.int .i64 k] w fun e w'=>e = .returned (.bool (Qgq 21 vkl i k))∧Below w.heap.size w w':=by
 have HX:=hQ (xH w (.cells #[.int .i64 21,.string vx,.slice vla vll vlc,.slice vka vkl vkc] 29))
 have HB0:=hQ ((xC w.heap.size w).alloc (xA _) (.cells #[.int .i64 21,.string vx,.slice vla vll vlc,.slice vka vkl vkc] 29))
 have k0:(w.alloc (.cells #[.int .i64 21,.string vx,.slice vla vll vlc,.slice vka vkl vkc] 29)).cell? ⟨w.heap.size,0,none⟩=some (.int .i64 21):=Qab HX.out 0 _ rfl
 have k3:(w.alloc (.cells #[.int .i64 21,.string vx,.slice vla vll vlc,.slice vka vkl vkc] 29)).cell? ⟨w.heap.size,3,none⟩=some (.slice vka vkl vkc):=Qab HX.out 3 _ rfl
 have HR:=hQ (show Qgq 21 vkl i k=(decide (i=0) && k==21) from by show (Qie k || (decide (i=0) && k==21))=_;rw [hu];rfl)
 by_cases h0:i=0
 ·subst h0
  go_enter Tryz.func147,Tryz.ntmps147
  go_wp2_with (first | (go_at_call 53;refine (Qcc _ _).mono ?_;rintro e w1 ⟨rfl,rfl⟩) | (go_at_call 203;refine (Qcu _ _).mono ?_;rintro e w1 ⟨rfl,rfl⟩) | (go_at_call 204;refine (Qcm _ _).mono ?_;rw [hu];rintro e w1 ⟨rfl,rfl⟩))
  all_goals
   go_ret
   exact ⟨Qah (by first | exact HR.out.symm | (rw [HR.out];simp_all;done)),HB0.out⟩
 ·have d1:((i:Int)==0)=false:=beq_eq_false_iff_ne.2 (by omega)
  have d2:(i==0)=false:=beq_eq_false_iff_ne.2 h0
  have HR2:=hQ (show Qgq 21 vkl i k=false from by rw [HR.out,xR h0];rfl)
  clear h0
  go_enter Tryz.func147,Tryz.ntmps147
  go_wp2_with (first | (go_at_call 53;refine (Qcc _ _).mono ?_;rintro e w1 ⟨rfl,rfl⟩) | (go_at_call 203;refine (Qcu _ _).mono ?_;rintro e w1 ⟨rfl,rfl⟩) | (go_at_call 204;refine (Qcm _ _).mono ?_;rw [hu];rintro e w1 ⟨rfl,rfl⟩))
  all_goals
   go_ret
   exact ⟨Qah (by first | exact HR2.out.symm | (rw [HR2.out];simp_all;done)),HB0.out⟩
theorem Qv1 (tk:Int) (vx:ByteArray) (vla:Option Addr) (vll vlc:Nat) (vka:Option Addr) (vkl vkc i:Nat) (k:Int) (w:World) (_hi:i<1000) (_hn:vkl≤1000) (h:tk≠1∧tk≠2∧tk≠3∧tk≠4∧tk≠8∧tk≠16∧tk≠21):Calls Tryz.prog 147 #[.agg #[.int .i64 tk,.string vx,.slice vla vll vlc,.slice vka vkl vkc],.int .i64 i,.int .i64 k] w fun e w'=>e = .returned (.bool (Qgq tk vkl i k))∧Below w.heap.size w w':=by
 have HX:=hQ (xH w (.cells #[.int .i64 tk,.string vx,.slice vla vll vlc,.slice vka vkl vkc] 29))
 have HB0:=hQ ((xC w.heap.size w).alloc (xA _) (.cells #[.int .i64 tk,.string vx,.slice vla vll vlc,.slice vka vkl vkc] 29))
 have k0:(w.alloc (.cells #[.int .i64 tk,.string vx,.slice vla vll vlc,.slice vka vkl vkc] 29)).cell? ⟨w.heap.size,0,none⟩=some (.int .i64 tk):=Qab HX.out 0 _ rfl
 have k3:(w.alloc (.cells #[.int .i64 tk,.string vx,.slice vla vll vlc,.slice vka vkl vkc] 29)).cell? ⟨w.heap.size,3,none⟩=some (.slice vka vkl vkc):=Qab HX.out 3 _ rfl
 have HR:=hQ (show Qgq tk vkl i k=Qkv k from by unfold Qgq;rw [xN (by omega),xN (by omega),xN (by omega),xN (by omega),xN (by omega)])
 have e1:=Qco (show tk≠1 from by omega)
 have e2:=Qco (show tk≠2 from by omega)
 have e3:=Qco (show tk≠3 from by omega)
 have e4:=Qco (show tk≠4 from by omega)
 have e8:=Qco (show tk≠8 from by omega)
 have e16:=Qco (show tk≠16 from by omega)
 have e21:=Qco (show tk≠21 from by omega)
 clear h
 go_enter Tryz.func147,Tryz.ntmps147
 go_wp2_with (first | (go_at_call 53;refine (Qcc _ _).mono ?_;rintro e w1 ⟨rfl,rfl⟩) | (go_at_call 203;refine (Qcu _ _).mono ?_;rintro e w1 ⟨rfl,rfl⟩) | (go_at_call 204;refine (Qcm _ _).mono ?_;rintro e w1 ⟨rfl,rfl⟩))
 all_goals
  go_ret
  exact ⟨Qah (by first | exact HR.out.symm | (rw [HR.out];done) | (rw [HR.out];simp_all;done)),HB0.out⟩
theorem Qpg (tk:Int) (vx:ByteArray) (vla:Option Addr) (vll vlc:Nat) (vka:Option Addr) (vkl vkc i:Nat) (k:Int) (w:World) (hi:i<1000) (hn:vkl≤1000):Calls Tryz.prog 147 #[.agg #[.int .i64 tk,.string vx,.slice vla vll vlc,.slice vka vkl vkc],.int .i64 i,.int .i64 k] w fun e w'=>e = .returned (.bool (Qgq tk vkl i k))∧Below w.heap.size w w':=by
 by_cases h:tk≠1∧tk≠2∧tk≠3∧tk≠4∧tk≠8∧tk≠16∧tk≠21
 ·exact Qv1 tk vx vla vll vlc vka vkl vkc i k w hi hn h
 ·rcases (show tk=1∨tk=2∨tk=3∨tk=4∨tk=8∨tk=16∨tk=21 from by omega) with rfl | rfl | rfl | rfl | rfl | rfl | rfl
  ·exact Zg1 vx vla vll vlc vka vkl vkc i k w hi hn
  ·by_cases h1:i+1=vkl
   ·exact Zfq vx vla vll vlc vka vkl vkc i k w hi hn h1
   ·by_cases h2:i+2=vkl
    ·exact Zfr vx vla vll vlc vka vkl vkc i k w hi hn h1 h2
    ·exact Zfs vx vla vll vlc vka vkl vkc i k w hi hn h1 h2
  ·exact Zg2 vx vla vll vlc vka vkl vkc i k w hi hn
  ·exact Zg3 vx vla vll vlc vka vkl vkc i k w hi hn
  ·exact Zg4 vx vla vll vlc vka vkl vkc i k w hi hn
  ·exact Zft vx vla vll vlc vka vkl vkc i k w hi hn
  ·cases hu:Qie k
   ·exact Zc4 vx vla vll vlc vka vkl vkc i k w hi hn hu
   ·exact Zc3 vx vla vll vlc vka vkl vkc i k w hi hn hu
mutual
def Qcv:Tr→Bool
 | .mk k x _ ks=>!decide (Qat k ks.length<0) && Qbr (Qae k) x && Qcn k ks.length 0 ks
def Qcn:Int→Nat→Nat→List Tr→Bool
 | _,_,_,[]=>true
 | k,n,i,a :: r=>Qgq k n i a.kind && Qcv a && Qcn k n (i+1) r
end
theorem Qhh (t:Tr):Qcv t=(!decide (Qat t.kind t.kids.length<0) && Qbr (Qae t.kind) t.text && Qcn t.kind t.kids.length 0 t.kids):=by
 cases t with
 | mk k x ls ks=>rw [Qcv];rfl
theorem Qsw (k:Int) (n:Nat) (l:List Tr) (j:Nat) (a:Tr) (h:l[j]? = some a):Qcn k n j (l.drop j)=(Qgq k n j a.kind && Qcv a && Qcn k n (j+1) (l.drop (j+1))):=by
 obtain ⟨hj,he⟩:=xP.1 h
 rw [List.drop_eq_getElem_cons hj,he,Qcn]
theorem Qqw (k:Int) (n:Nat) (l:List Tr) (j:Nat) (h:l.length≤j):Qcn k n j (l.drop j)=true:=by
 rw [List.drop_eq_nil_of_le h,Qcn]
theorem Qoa (k:Int) (n:Nat) (hn:n≤1000):(Qb0 (Qae k) n).2 = !decide (Qat k n<0):=by
 rw [←Qtz k n (by omega)]
 unfold Qk5
 have hc:∀ (l:List Part) (m:Int),0≤Qib l m:=by
  intro l m
  induction l with
  | nil=>exact Int.le_refl 0
  | cons x r ih =>
   rw [Qib]
   split
   ·rename_i h
    simp only [Bool.and_eq_true,decide_eq_true_eq] at h
    omega
   ·omega
 cases (Qb0 (Qae k) n).2
 ·rw [xN (by decide)];rfl
 ·rw [xO rfl]
  have:=hc (Qae k) (Qb0 (Qae k) n).1
  rw [xR (by omega)]
  rfl
theorem Qew {k:Int} {n:Nat} {o:Int} (hl:Qae k≠[]) (ho:(Qo4 (Qae k):Int)=o):(Qb0 (Qae k) n).1=n-o:=by
 unfold Qb0
 rw [xN (fun h=>by rcases h with h | h;exact hl h;omega),Qkm,ho]
theorem Qff {n:Nat} {must m:Int} (h:(!decide (Qbb n must m<0))=true):(n:Int)=must:=by
 unfold Qbb at h
 by_cases e:(n:Int)=must
 ·exact e
 ·rw [xN e] at h
  exact absurd h (by decide)
theorem Zfu (n:Nat):Qen (Qae 1) (Qb0 (Qae 1) n).1=List.replicate n 1:=by
 rw [Qew (o:=0) (by decide) rfl]
 simp [Qae,Qen,Qbx,Qck,Qe2,Qge]
theorem Zfv (n:Nat) (h:2≤n):Qen (Qae 2) (Qb0 (Qae 2) n).1=List.replicate (n-2) 2 ++ [3,5]:=by
 rw [Qew (o:=2) (by decide) rfl]
 have:((n:Int)-2).toNat=n-2:=by omega
 simp [Qae,Qen,Qbx,Qck,Qe2,Qge,Qkk,this]
theorem Zc5 (n:Nat):Qen (Qae 16) (Qb0 (Qae 16) n).1=List.replicate n 4:=by
 rw [Qew (o:=0) (by decide) rfl]
 simp [Qae,Qen,Qbx,Qck,Qe2,Qge]
theorem Zc6 (n:Nat):Qen (Qae 18) (Qb0 (Qae 18) n).1=List.replicate n 5:=by
 rw [Qew (o:=0) (by decide) rfl]
 simp [Qae,Qen,Qbx,Qck,Qge]
theorem Qph {n j:Nat} {s:Int} (h:j<n):(List.replicate n s)[j]? = some s:=by rw [List.getElem?_replicate];simp [h]
theorem Qif {k:Int} (h:¬ (k≤0∨23≤k)):k=1∨k=2∨k=3∨k=4∨k=5∨k=6∨k=7∨k=8∨k=9∨k=10∨k=11∨k=12∨k=13∨k=14∨k=15∨k=16∨k=17∨k=18∨k=19∨k=20∨k=21∨k=22:=by omega
theorem Qzq (k:Int) (n:Nat) (hn:n≤1000) (h:(Qb0 (Qae k) n).2=true) (j:Nat) (hj:j<n):∃ s,(Qen (Qae k) (Qb0 (Qae k) n).1)[j]? = some s∧∀ kd,Qgq k n j kd=Qfc s kd:=by
 have hq:=h
 rw [Qoa k n hn] at hq
 by_cases h0:k≤0∨23≤k
 ·rw [Qdu h0] at h
  simp [Qb0] at h
 ·rcases Qif h0 with rfl | rfl | rfl | rfl | rfl | rfl | rfl | rfl | rfl | rfl | rfl | rfl | rfl | rfl | rfl | rfl | rfl | rfl | rfl | rfl | rfl | rfl
  ·exact ⟨1,by rw [Zfu];exact Qph hj,fun kd=>rfl⟩
  ·have h2:2≤n:=by
    rcases Nat.lt_or_ge n 2 with h' | h'
    ·rw [show Qat 2 n = -1 from by show (if 2≤(n:Int) then 6+max 0 ((n:Int)-3) else -1)=_;rw [xN (by omega)]] at hq
     exact absurd hq (by decide)
    ·exact h'
   rw [Zfv n h2]
   by_cases j1:j+1=n
   ·refine ⟨5,?_,fun kd=>?_⟩
    ·rw [xX (by simp;omega),List.length_replicate,show j-(n-2)=1 from by omega];rfl
    ·unfold Qgq;rw [xN (by decide),xO rfl,xO j1];exact Qhg kd
   ·by_cases j2:j+2=n
    ·refine ⟨3,?_,fun kd=>?_⟩
     ·rw [xX (by simp;omega),List.length_replicate,show j-(n-2)=0 from by omega];rfl
     ·unfold Qgq;rw [xN (by decide),xO rfl,xN j1,xO j2]
    ·refine ⟨2,?_,fun kd=>?_⟩
     ·rw [yB (by simp;omega)];exact Qph (by omega)
     ·unfold Qgq;rw [xN (by decide),xO rfl,xN j1,xN j2];rfl
  ·obtain rfl:n=1:=by have:=Qff (n:=n) (must:=1) (m:=3) hq;omega
   obtain rfl:j=0:=by omega
   exact ⟨3,rfl,fun kd=>rfl⟩
  ·obtain rfl:n=1:=by have:=Qff (n:=n) (must:=1) (m:=2) hq;omega
   obtain rfl:j=0:=by omega
   exact ⟨3,rfl,fun kd=>rfl⟩
  ·have:=Qff (n:=n) (must:=0) (m:=1) hq;omega
  ·have:=Qff (n:=n) (must:=0) (m:=1) hq;omega
  ·have:=Qff (n:=n) (must:=0) (m:=1) hq;omega
  ·obtain rfl:n=1:=by have:=Qff (n:=n) (must:=1) (m:=2) hq;omega
   obtain rfl:j=0:=by omega
   exact ⟨3,rfl,fun kd=>rfl⟩
  ·have:=Qff (n:=n) (must:=0) (m:=1) hq;omega
  ·have:=Qff (n:=n) (must:=0) (m:=1) hq;omega
  ·have:=Qff (n:=n) (must:=0) (m:=1) hq;omega
  ·have:=Qff (n:=n) (must:=0) (m:=1) hq;omega
  ·have:=Qff (n:=n) (must:=0) (m:=1) hq;omega
  ·have:=Qff (n:=n) (must:=0) (m:=1) hq;omega
  ·have:=Qff (n:=n) (must:=0) (m:=1) hq;omega
  ·exact ⟨4,by rw [Zc5];exact Qph hj,fun kd=>rfl⟩
  ·obtain rfl:n=1:=by have:=Qff (n:=n) (must:=1) (m:=0) hq;omega
   obtain rfl:j=0:=by omega
   exact ⟨5,rfl,fun kd=>Qhg kd⟩
  ·exact ⟨5,by rw [Zc6];exact Qph hj,fun kd=>Qhg kd⟩
  ·obtain rfl:n=3:=by have:=Qff (n:=n) (must:=3) (m:=3) hq;omega
   rcases (show j=0∨j=1∨j=2 from by omega) with rfl | rfl | rfl <;> exact ⟨5,rfl,fun kd=>Qhg kd⟩
  ·obtain rfl:n=2:=by have:=Qff (n:=n) (must:=2) (m:=4) hq;omega
   rcases (show j=0∨j=1 from by omega) with rfl | rfl <;> exact ⟨5,rfl,fun kd=>Qhg kd⟩
  ·obtain rfl:n=2:=by have:=Qff (n:=n) (must:=2) (m:=1) hq;omega
   rcases (show j=0∨j=1 from by omega) with rfl | rfl
   ·exact ⟨6,rfl,fun kd=>Qv0 kd⟩
   ·exact ⟨7,rfl,fun kd=>by rw [←Qzo];show (Qie kd || (decide (1=0) && kd==21))=Qie kd;simp⟩
  ·obtain rfl:n=1:=by have:=Qff (n:=n) (must:=1) (m:=2) hq;omega
   obtain rfl:j=0:=by omega
   exact ⟨5,rfl,fun kd=>Qhg kd⟩
theorem Qmx (k:Int) (n:Nat):∀ (ks:List Tr) (i:Nat) (ss:List Int),(∀ a∈ks,Qcv a=Qao a)→(∀ j,j<ks.length→∃ s,ss[j]? = some s∧∀ kd,Qgq k n (i+j) kd=Qfc s kd)→Qcn k n i ks=Qec ks ss
 | [],i,ss,_,_=>by rw [Qcn,Qjb]
 | a :: r,i,ss,ha,hs=>by
  obtain ⟨s,h0,hk⟩:=hs 0 (by simp)
  cases ss with
  | nil=>simp at h0
  | cons s' ss =>
   simp at h0
   subst h0
   have hk0:Qgq k n i a.kind=Qfc s' a.kind:=hk a.kind
   rw [Qcn,Qk7,←hk0,ha a (by simp),Qmx k n r (i+1) ss (fun x hx=>ha x (by simp [hx])) (fun j hj=>by
    obtain ⟨s,h1,h2⟩:=hs (j+1) (by simp;omega)
    exact ⟨s,by simpa using h1,fun kd=>by rw [show i+1+j=i+(j+1) from by omega];exact h2 kd⟩)]
theorem Qt0 {l:List Tr} {a:Tr} (h:a∈l):Qak a≤Qap l:=by
 induction l with
 | nil=>simp at h
 | cons x r ih =>
  rw [Qap]
  rcases List.mem_cons.1 h with rfl | h
  ·omega
  ·have:=ih h;omega
theorem Qv2 {l:List Tr} {a:Tr} (h:a∈l):SizeOf.sizeOf a<SizeOf.sizeOf l:=List.sizeOf_lt_of_mem h
theorem Qfn (N:Nat):∀ t:Tr,SizeOf.sizeOf t≤N→Qak t≤1000→Qcv t=Qao t:=by
 induction N with
 | zero=>intro t h;have:=Qgu t;omega
 | succ N ih =>
  intro t hN hs
  have hkl:=Qa5 t.kids
  have hsz:=Qa0 t
  rw [Qhh,Qkl,←Qoa t.kind t.kids.length (by omega)]
  cases hf:(Qb0 (Qae t.kind) t.kids.length).2
  ·rfl
  ·rw [Qmx t.kind t.kids.length t.kids 0 _ (fun a ha=>ih a (by
    have h1:=Qv2 ha
    cases t with
    | mk k x ls ks =>
     simp at hN
     have:SizeOf.sizeOf (Tr.mk k x ls ks).kids=SizeOf.sizeOf ks:=rfl
     omega) (by have:=Qt0 ha;omega)) (fun j hj=>by rw [Nat.zero_add];exact Qzq t.kind t.kids.length (by omega) hf j hj)]
mutual
theorem Qlc:(t:Tr)→(n:Nat)→Qdl t n=decide (Qed t≤n)
 | t,0=>by
  rw [show Qdl t 0=false from by cases t;rw [Qdl],xR]
  rw [Qmi]
  omega
 | .mk k x ls ks,n+1=>by
  rw [Qdl,Qed,Qj6 ks n]
  by_cases h:Qc1 ks≤n
  ·rw [xS h,xS (by omega)]
  ·rw [xR h,xR (by omega)]
theorem Qj6:(l:List Tr)→(n:Nat)→Qe6 l n=decide (Qc1 l≤n)
 | [],n=>by rw [Qe6,Qc1];simp
 | t :: r,n=>by
  rw [Qe6,Qc1,Qlc t n,Qj6 r n]
  by_cases h1:Qed t≤n
  ·by_cases h2:Qc1 r≤n
   ·rw [xS h1,xS h2,xS (p:=max (Qed t) (Qc1 r)≤n) (by omega)];rfl
   ·rw [xS h1,xR h2,xR (p:=max (Qed t) (Qc1 r)≤n) (by omega)];rfl
  ·rw [xR h1,xR (p:=max (Qed t) (Qc1 r)≤n) (by omega),Bool.false_and]
end
def Qlr (k:Int) (n:Nat):Bool:=(k==1 && decide (40<n)) || (k==2 && decide (10<n)) || (k==16 && decide (8<n)) || (k==18 && decide (16<n))
theorem Qzr (k:Int) (n:Nat):Qln (Qae k) (Qb0 (Qae k) n).1 = !Qlr k n:=by
 by_cases h0:k≤0∨23≤k
 ·rw [Qdu h0]
  unfold Qlr
  rw [show (k==1)=false from Qco (by omega),show (k==2)=false from Qco (by omega),show (k==16)=false from Qco (by omega),show (k==18)=false from Qco (by omega)]
  rfl
 ·rcases Qif h0 with rfl | rfl | rfl | rfl | rfl | rfl | rfl | rfl | rfl | rfl | rfl | rfl | rfl | rfl | rfl | rfl | rfl | rfl | rfl | rfl | rfl | rfl
  ·rw [Qew (o:=0) (by decide) rfl]
   by_cases h:40<n
   ·simp [Qae,Qln,Qbx,Qck,Qe2,Qge,Qlr,h];omega
   ·simp [Qae,Qln,Qbx,Qck,Qe2,Qge,Qlr,h];omega
  ·rw [Qew (o:=2) (by decide) rfl]
   by_cases h:10<n
   ·simp [Qae,Qln,Qbx,Qck,Qe2,Qge,Qkk,Qlr,h];omega
   ·simp [Qae,Qln,Qbx,Qck,Qe2,Qge,Qkk,Qlr,h];omega
  ·rfl
  ·rfl
  ·rfl
  ·rfl
  ·rfl
  ·rfl
  ·rfl
  ·rfl
  ·rfl
  ·rfl
  ·rfl
  ·rfl
  ·rfl
  ·rw [Qew (o:=0) (by decide) rfl]
   by_cases h:8<n
   ·simp [Qae,Qln,Qbx,Qck,Qe2,Qge,Qlr,h];omega
   ·simp [Qae,Qln,Qbx,Qck,Qe2,Qge,Qlr,h];omega
  ·rfl
  ·rw [Qew (o:=0) (by decide) rfl]
   by_cases h:16<n
   ·simp [Qae,Qln,Qbx,Qck,Qge,Qlr,h];omega
   ·simp [Qae,Qln,Qbx,Qck,Qge,Qlr,h];omega
  ·rfl
  ·rfl
  ·rfl
  ·rfl
theorem Qzs (t:Tr):Qf7 t=(!Qlr t.kind t.kids.length && Qlo t.kids):=by rw [Ze0,Qzr]
def ldR (ls:List ByteArray) (i:Nat):ByteArray:=(ls[i]?).getD ⟨#[]⟩
theorem Qi2 (cs:List ByteArray):∀ (l:List (List Qbi)) (i:Nat),Qa8 false cs i l=l.flatten
 | [],i=>by rw [Qa8];rfl
 | p :: r,i=>by rw [Qa8,Qi2 cs r (i+1),xN (by simp)];rfl
theorem Qj7 (co:Bool) (cs:List ByteArray) (p:List Qbi):∀ (l:List (List Qbi)) (i:Nat),Qa8 co cs i (l ++ [p])=Qa8 co cs i l ++ ((if 0<i+l.length∧co=true then [(ldR cs (i+l.length-1),⟨#[44]⟩)] else []) ++ p)
 | [],i=>by rw [xU,Qa8,Qa8,Qa8,List.append_nil,xU,xG,Nat.add_zero];rfl
 | a :: r,i=>by rw [xV,Qa8,Qa8,Qj7 co cs p r (i+1),xD,show i+1+r.length=i+(r.length+1) from by omega];simp only [xT]
def Qf0 (ls:List ByteArray) (comma:Nat) (ks:List Tr):List Qbi:=Qa8 true (ls.drop comma) 0 (ks.map Qaf)
theorem Zc7 (ls:List ByteArray) (comma:Nat):Qf0 ls comma [] = []:=by unfold Qf0;rw [List.map_nil,Qa8]
theorem Zc8 (ls:List ByteArray) (c i:Nat):ldR (ls.drop c) i=ldR ls (c+i):=by unfold ldR;rw [List.getElem?_drop]
theorem Qzt (ls:List ByteArray) (comma:Nat) (ks:List Tr) (k:Tr):Qf0 ls comma (ks ++ [k])=Qf0 ls comma ks ++ ((if 0<ks.length then [(ldR ls (comma+ks.length-1),⟨#[44]⟩)] else []) ++ Qaf k):=by
 unfold Qf0
 rw [List.map_append,List.map_cons,List.map_nil,Qj7,List.length_map,Nat.zero_add,Zc8]
 by_cases h:0<ks.length
 ·rw [xO ⟨h,rfl⟩,xO h,show comma+(ks.length-1)=comma+ks.length-1 from by omega]
 ·rw [xN (fun e=>h e.1),xN h]
section
variable (x:ByteArray) (ls:List ByteArray)
theorem Zc9 (ks:List Tr):Qaf (.mk 1 x ls ks) = [(ldR ls 0,⟨#[109,111,100,117,108,101]⟩),(ldR ls 1,x)] ++ ((ks.map Qaf).flatten ++ [(ldR ls 2,⟨#[]⟩)]):=by
 rw [Qc7]
 show Qbp (Qb0 (Qae 1) ks.length).1 x (ls.drop (Qca (Qae 1))) (Qae 1) ls (ks.map Qaf)=_
 rw [Qew (o:=0) (by decide) rfl]
 have ht:List.take ks.length (ks.map Qaf)=ks.map Qaf:=List.take_of_length_le (by simp)
 simp [Qae,Qbp,Qbx,Qck,Qe2,Qge,Qi2,ldR,ht]
theorem Zda (ps:List Tr) (a b:Tr):Qaf (.mk 2 x ls (ps ++ [a,b])) = [(ldR ls 0,⟨#[100,101,102]⟩),(ldR ls 1,x),(ldR ls 2,⟨#[40]⟩)] ++ (Qf0 ls 6 ps ++ ([(ldR ls 3,⟨#[41]⟩),(ldR ls 4,⟨#[58]⟩)] ++ (Qaf a ++ ([(ldR ls 5,⟨#[61]⟩)] ++ Qaf b)))):=by
 rw [Qc7]
 show Qbp (Qb0 (Qae 2) (ps ++ [a,b]).length).1 x (ls.drop (Qca (Qae 2))) (Qae 2) ls ((ps ++ [a,b]).map Qaf)=_
 rw [Qew (o:=2) (by decide) rfl]
 have hn:(((ps ++ [a,b]).length:Nat):Int)-2=(ps.length:Int):=by simp
 rw [hn]
 have h1:List.take ps.length (ps.map Qaf ++ [Qaf a,Qaf b])=ps.map Qaf:=by rw [List.take_append_of_le_length (by simp),List.take_of_length_le (by simp)]
 have h2:List.drop ps.length (ps.map Qaf ++ [Qaf a,Qaf b]) = [Qaf a,Qaf b]:=by rw [List.drop_append_of_le_length (by simp),List.drop_of_length_le (by simp)];rfl
 simp [Qae,Qbp,Qbx,Qck,Qe2,Qge,Qkk,Qca,Qa8,ldR,h1,h2,Qf0]
theorem Zdb (a:Tr):Qaf (.mk 3 x ls [a]) = [(ldR ls 0,⟨#[116,121,112,101]⟩),(ldR ls 1,x),(ldR ls 2,⟨#[61]⟩)] ++ Qaf a:=by
 rw [Qc7]
 show Qbp (Qb0 (Qae 3) 1).1 x (ls.drop (Qca (Qae 3))) (Qae 3) ls [Qaf a] = _
 simp [Qae,Qbp,Qbx,Qck,Qe2,Qkk,Qa8,ldR]
theorem Zdc (a:Tr):Qaf (.mk 4 x ls [a]) = [(ldR ls 0,x),(ldR ls 1,⟨#[58]⟩)] ++ Qaf a:=by
 rw [Qc7]
 show Qbp (Qb0 (Qae 4) 1).1 x (ls.drop (Qca (Qae 4))) (Qae 4) ls [Qaf a] = _
 simp [Qae,Qbp,Qbx,Qck,Qe2,Qkk,Qa8,ldR]
theorem Zdd (a:Tr):Qaf (.mk 8 x ls [a]) = [(ldR ls 0,⟨#[91]⟩)] ++ (Qaf a ++ [(ldR ls 1,⟨#[93]⟩)]):=by
 rw [Qc7]
 show Qbp (Qb0 (Qae 8) 1).1 x (ls.drop (Qca (Qae 8))) (Qae 8) ls [Qaf a] = _
 simp [Qae,Qbp,Qbx,Qck,Qkk,Qa8,ldR]
theorem Qzu (ks:List Tr):Qaf (.mk 16 x ls ks) = [(ldR ls 0,x),(ldR ls 1,⟨#[40]⟩)] ++ (Qf0 ls 3 ks ++ [(ldR ls 2,⟨#[41]⟩)]):=by
 rw [Qc7]
 show Qbp (Qb0 (Qae 16) ks.length).1 x (ls.drop (Qca (Qae 16))) (Qae 16) ls (ks.map Qaf)=_
 rw [Qew (o:=0) (by decide) rfl]
 have ht:List.take ks.length (ks.map Qaf)=ks.map Qaf:=List.take_of_length_le (by simp)
 simp [Qae,Qbp,Qbx,Qck,Qe2,Qge,Qca,ldR,ht,Qf0]
theorem Qqx (a:Tr):Qaf (.mk 17 x ls [a])=Qaf a:=by
 rw [Qc7]
 show Qbp (Qb0 (Qae 17) 1).1 x (ls.drop (Qca (Qae 17))) (Qae 17) ls [Qaf a] = _
 simp [Qae,Qbp,Qbx,Qkk,Qa8]
theorem Qzv (ks:List Tr):Qaf (.mk 18 x ls ks) = [(ldR ls 0,⟨#[91]⟩)] ++ (Qf0 ls 2 ks ++ [(ldR ls 1,⟨#[93]⟩)]):=by
 rw [Qc7]
 show Qbp (Qb0 (Qae 18) ks.length).1 x (ls.drop (Qca (Qae 18))) (Qae 18) ls (ks.map Qaf)=_
 rw [Qew (o:=0) (by decide) rfl]
 have ht:List.take ks.length (ks.map Qaf)=ks.map Qaf:=List.take_of_length_le (by simp)
 simp [Qae,Qbp,Qbx,Qck,Qge,Qca,ldR,ht,Qf0]
theorem Qzw (a b c:Tr):Qaf (.mk 19 x ls [a,b,c]) = [(ldR ls 0,⟨#[105,102]⟩)] ++ (Qaf a ++ ([(ldR ls 1,⟨#[116,104,101,110]⟩)] ++ (Qaf b ++ ([(ldR ls 2,⟨#[101,108,115,101]⟩)] ++ Qaf c)))):=by
 rw [Qc7]
 show Qbp (Qb0 (Qae 19) 3).1 x (ls.drop (Qca (Qae 19))) (Qae 19) ls [Qaf a,Qaf b,Qaf c] = _
 simp [Qae,Qbp,Qbx,Qck,Qkk,Qa8,ldR]
theorem Qzx (a b:Tr):Qaf (.mk 20 x ls [a,b]) = [(ldR ls 0,⟨#[108,101,116]⟩),(ldR ls 1,x),(ldR ls 2,⟨#[61]⟩)] ++ (Qaf a ++ ([(ldR ls 3,⟨#[105,110]⟩)] ++ Qaf b)):=by
 rw [Qc7]
 show Qbp (Qb0 (Qae 20) 2).1 x (ls.drop (Qca (Qae 20))) (Qae 20) ls [Qaf a,Qaf b] = _
 simp [Qae,Qbp,Qbx,Qck,Qe2,Qkk,Qa8,ldR]
theorem Qzy (a b:Tr):Qaf (.mk 21 x ls [a,b])=Qaf a ++ ([(ldR ls 0,x)] ++ Qaf b):=by
 rw [Qc7]
 show Qbp (Qb0 (Qae 21) 2).1 x (ls.drop (Qca (Qae 21))) (Qae 21) ls [Qaf a,Qaf b] = _
 simp [Qae,Qbp,Qbx,Qe2,Qkk,Qa8,ldR]
theorem Qzz (a:Tr):Qaf (.mk 22 x ls [a]) = [(ldR ls 0,⟨#[40]⟩)] ++ (Qaf a ++ [(ldR ls 1,⟨#[41]⟩)]):=by
 rw [Qc7]
 show Qbp (Qb0 (Qae 22) 1).1 x (ls.drop (Qca (Qae 22))) (Qae 22) ls [Qaf a] = _
 simp [Qae,Qbp,Qbx,Qck,Qkk,Qa8,ldR]
def Zg5 (k:Int):Option ByteArray :=
 if k=5 then some ⟨#[73,110,116]⟩ else if k=6 then some ⟨#[84,101,120,116]⟩ else if k=7 then some ⟨#[66,111,111,108]⟩
 else if k=13 then some ⟨#[116,114,117,101]⟩ else if k=14 then some ⟨#[102,97,108,115,101]⟩ else if k=15 then some ⟨#[63]⟩ else none
theorem Qfo (k:Int) (y:ByteArray) (h:Zg5 k=some y):Qaf (.mk k x ls []) = [(ldR ls 0,y)]:=by
 have:k=5∨k=6∨k=7∨k=13∨k=14∨k=15:=by
  unfold Zg5 at h
  repeat' split at h
  all_goals first | omega | simp at h
 rcases this with rfl | rfl | rfl | rfl | rfl | rfl <;> (cases h;rw [Qc7];simp [Tr.kind,Tr.text,Tr.leads,Tr.kids,Qae,Qbp,Qck,ldR])
theorem Qhw (k:Int) (h:k=9∨k=10∨k=11∨k=12):Qaf (.mk k x ls []) = [(ldR ls 0,x)]:=by
 rcases h with rfl | rfl | rfl | rfl <;> (rw [Qc7];simp [Tr.kind,Tr.text,Tr.leads,Tr.kids,Qae,Qbp,Qe2,ldR])
end
end Go.Proofs.YtjidpkcjpgdafaaGreat
