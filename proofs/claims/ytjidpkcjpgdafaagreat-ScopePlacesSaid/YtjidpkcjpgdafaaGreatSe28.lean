/- Part 28 -/
import Derived.Test.YtjidpkcjpgdafaaGreatSe26
import Derived.Test.YtjidpkcjpgdafaaGreatSe27
set_option maxRecDepth 100000
set_option maxHeartbeats 4000000
namespace Go.Proofs.YtjidpkcjpgdafaaGreat
open Go.RowKit
theorem Qjg (N:Nat):∀ (S:Nat→Prop) (t:Tr) (v:TV) (w:World),SizeOf.sizeOf t≤N→TrAt S w t v→Qal t≤140737488355328 →
  Calls Tryz.prog 110 #[.agg #[.int .i64 v.kind,.string v.text,.slice v.la v.ll v.lc,.slice v.ka v.kl v.kc]] w fun e w'=>e = .returned (.int .i64 (Qed t:Nat))∧Below w.heap.size w w':=by
 induction N with
 | zero=>intro S t v w h;have:=Qgx t;omega
 | succ N ih =>
  intro S t v w hN h hz;have HIH:=hQ ih;have HB0:=hQ ((xC w.heap.size w).alloc (xA _) (trO v));have HT:=hQ (h.keep HB0.out);have HX:=hQ (xH w (trO v));have HZ:=hQ hz;have HN:=hQ hN;have hkl:=h.kl.1;obtain ⟨vk,vx,vla,vll,vlc,vka,vkl,vkc⟩:=v;simp only at hkl;subst hkl;have hmax:t.kids.length≤140737488355328:=by have:=Qa5 t.kids;rw [Qa0] at hz;omega
  have HMX:=hQ hmax;clear ih h hz hN;have k3:(w.alloc (trO ⟨vk,vx,vla,vll,vlc,vka,t.kids.length,vkc⟩)).cell? ⟨w.heap.size,3,none⟩=some (.slice vka t.kids.length vkc):=Qab HX.out 3 _ rfl
  go_enter Tryz.func110,Tryz.ntmps110
  go_wp2
  clear k3
  go_loopw [3,4] (fun n i wr=>Qsi (fun l=>Qc2 l) t (w.alloc (trO ⟨vk,vx,vla,vll,vlc,vka,t.kids.length,vkc⟩)) n i wr) (fun _ i _=>t.kids.length-(intOf i).toNat)
  case atStart=>exact ⟨0,rfl,xZ _,rfl,xC _ _⟩
  case round =>
   obtain ⟨j,rfl,hj,rfl,hb⟩:=hrel;have HBR:=hQ hb;have hx:=(hb.block w.heap.size (Qaa HX.out)).trans HX.out;have k3:wr.cell? ⟨w.heap.size,3,none⟩=some (.slice vka t.kids.length vkc):=Qab hx 3 _ rfl;clear hb hx
   by_cases hlt:j<t.kids.length
   ·obtain ⟨k,hk⟩:∃ k,t.kids[j]? = some k:=⟨_,xF hlt⟩;obtain ⟨b,off,hka⟩:∃ b off,vka=some ⟨b,off,none⟩:=HT.out.addr.resolve_left (by omega);subst hka;obtain ⟨u,c0,c1,c2,c3,hu⟩:=(HT.out.keep HBR.out).at rfl hk;have HU:=hQ hu;have HS1:=hQ (Qcy hk);have HD1:=hQ (Qjc hk);have hs:=Qdt t.kids (j+1);have hs0:=Qcy hk;have hds:=Qeu (t.kids.take j);have hdk:=Qdu k;have HSK:=hQ (xQ (Qbd hk) HZ.out);have HNK:=hQ (show SizeOf.sizeOf k≤N from by have:=Qay hk;have:=HN.out;omega);have hz:=HZ.out;rw [Qa0] at hz;have q1:((Qao (t.kids.take j):Nat):Int)+(Qal k:Nat)+1≤140737488355328:=by omega
    have q2:((Qc2 (t.kids.take j):Nat):Int)≤140737488355328:=by omega
    have q3:((Qed k:Nat):Int)+1≤140737488355329:=by omega
    have hj0:(0:Int)≤(j:Int):=by omega
    have hj1:(j:Int)<(t.kids.length:Int):=by omega
    have hj2:(j:Int)+1≤140737488355328:=by omega
    clear hk hu hs hs0 hds hdk hz;go_wp2_with (go_at_call 110;refine (HIH.out S k u _ HNK.out (HU.out.keep (xC _ _)) HSK.out).mono ?_;rintro e w2 ⟨rfl,hb2⟩;have HB2:=hQ (HBR.out.trans (hb2.mono HBR.out.size));clear hb2)
    go_roundw
    case rel=>exact ⟨j+1,by go_num,by omega,by show _=Value.int .i64 ((Qc2 (t.kids.take (j+1)):Nat):Int);rw [HD1.out];go_num,HB2.out⟩
    case measure=>simp [intOf];omega
   ·have hjn:j=t.kids.length:=by omega
    subst hjn;have HR:=hQ (show Qed t=Qc2 (t.kids.take t.kids.length)+1 from by rw [Qmq,List.take_length]);have hz:=HZ.out;have h1:=Qdu t;have h2:=HR.out
    go_wp2
    go_ret
    exact ⟨Qb2 (by have h3:=Qmq t;unfold wrap64;omega),HB0.out.trans (HBR.out.mono (by simp))⟩
def Qkz (k:Int):Bool:=decide (10≤k) && decide (k≤22) && (k != 17)
def Qie (k:Int):Bool:=Qkz k && (k != 19) && (k != 20) && (k != 21)
theorem Qhf (k:Int):Qkz k=Qfe 5 k:=by
 unfold Qkz Qfe
 by_cases h17:k=17
 ·subst h17;rfl
 ·by_cases h19:k=19
  ·subst h19;rfl
  ·by_cases h20:k=20
   ·subst h20;rfl
   ·by_cases h21:k=21
    ·subst h21;rfl
    ·simp [h17,h19,h20,h21]
theorem Qzt (k:Int):Qie k=Qfe 7 k:=by
 unfold Qie Qkz Qfe
 by_cases h17:k=17
 ·subst h17;rfl
 ·by_cases h19:k=19
  ·subst h19;rfl
  ·by_cases h20:k=20
   ·subst h20;rfl
   ·by_cases h21:k=21
    ·subst h21;rfl
    ·have b17:(k != 17)=true:=bne_iff_ne.2 h17;have b19:(k != 19)=true:=bne_iff_ne.2 h19;have b20:(k != 20)=true:=bne_iff_ne.2 h20;have b21:(k != 21)=true:=bne_iff_ne.2 h21;have c21:(k==21)=false:=Qcn h21;rw [xN (by decide),xN (by decide),xN (by decide),xN (by decide),xN h17,xN (fun h=>by omega),xN h21];simp only [b17,b19,b20,b21,Bool.and_true]
theorem Qv4 (k:Int):(Qie k || k==21)=Qfe 6 k:=by
 unfold Qie Qkz Qfe
 by_cases h17:k=17
 ·subst h17;rfl
 ·by_cases h19:k=19
  ·subst h19;rfl
  ·by_cases h20:k=20
   ·subst h20;rfl
   ·by_cases h21:k=21
    ·subst h21;rfl
    ·have b17:(k != 17)=true:=bne_iff_ne.2 h17;have b19:(k != 19)=true:=bne_iff_ne.2 h19;have b20:(k != 20)=true:=bne_iff_ne.2 h20;have b21:(k != 21)=true:=bne_iff_ne.2 h21;have c21:(k==21)=false:=Qcn h21;rw [xN (by decide),xN (by decide),xN (by decide),xN (by decide),xN h17,xN (fun h=>by omega),xN h21];simp only [b17,b19,b20,b21,Bool.and_true,c21,Bool.or_false]
theorem Qcu (k:Int) (w:World):Calls Tryz.prog 203 #[.int .i64 k] w fun e w'=>e = .returned (.bool (Qfe 3 k))∧w=w':=by
 go_enter Tryz.func203,Tryz.ntmps203
 go_wp2
 all_goals
  go_ret
  exact ⟨Qah (by simp_all [Qfe];try omega),rfl⟩
theorem Qcb (k:Int) (w:World):Calls Tryz.prog 53 #[.int .i64 k] w fun e w'=>e = .returned (.bool (Qkz k))∧w=w':=by
 go_enter Tryz.func53,Tryz.ntmps53
 go_wp2
 all_goals
  go_ret
  exact ⟨Qah (by simp_all [Qkz];try omega),rfl⟩
theorem Qcl (k:Int) (w:World):Calls Tryz.prog 204 #[.int .i64 k] w fun e w'=>e = .returned (.bool (Qie k))∧w=w':=by
 have HR:=hQ (show Qie k=(Qkz k && (k != 19) && (k != 20) && (k != 21)) from rfl)
 cases hx:Qkz k
 ·go_enter Tryz.func204,Tryz.ntmps204
  go_wp2_with (go_at_call 53;refine (Qcb _ _).mono ?_;rw [hx];rintro e w' ⟨rfl,rfl⟩)
  go_ret
  exact ⟨Qah (by rw [HR.out,hx];rfl),rfl⟩
 ·go_enter Tryz.func204,Tryz.ntmps204
  go_wp2_with (go_at_call 53;refine (Qcb _ _).mono ?_;rw [hx];rintro e w' ⟨rfl,rfl⟩)
  all_goals
   go_ret
   exact ⟨Qah (by rw [HR.out,hx];simp_all),rfl⟩
theorem Zfo (s:ByteArray) (w:World) (h0:(s.toList == [43])=true):Calls Tryz.prog 202 #[.string s] w fun e w'=>e = .returned (.bool (opB s))∧w=w':=by
 have HR:=hQ (show opB s=true from by unfold opB;simp only [←Qa9,h0];rfl)
 go_enter Tryz.func202,Tryz.ntmps202
 go_wp2
 go_ret
 exact ⟨by rw [HR.out];rfl,rfl⟩
theorem Zfp (s:ByteArray) (w:World) (h0:(s.toList == [43])=false) (h1:(s.toList == [45])=true):Calls Tryz.prog 202 #[.string s] w fun e w'=>e = .returned (.bool (opB s))∧w=w':=by
 have HR:=hQ (show opB s=true from by unfold opB;simp only [←Qa9,h0,h1];rfl)
 go_enter Tryz.func202,Tryz.ntmps202
 go_wp2
 go_ret
 exact ⟨by rw [HR.out];rfl,rfl⟩
theorem Zfq (s:ByteArray) (w:World) (h0:(s.toList == [43])=false) (h1:(s.toList == [45])=false) (h2:(s.toList == [42])=true):Calls Tryz.prog 202 #[.string s] w fun e w'=>e = .returned (.bool (opB s))∧w=w':=by
 have HR:=hQ (show opB s=true from by unfold opB;simp only [←Qa9,h0,h1,h2];rfl)
 go_enter Tryz.func202,Tryz.ntmps202
 go_wp2
 go_ret
 exact ⟨by rw [HR.out];rfl,rfl⟩
theorem Zfr (s:ByteArray) (w:World) (h0:(s.toList == [43])=false) (h1:(s.toList == [45])=false) (h2:(s.toList == [42])=false) (h3:(s.toList == [60])=true):Calls Tryz.prog 202 #[.string s] w fun e w'=>e = .returned (.bool (opB s))∧w=w':=by
 have HR:=hQ (show opB s=true from by unfold opB;simp only [←Qa9,h0,h1,h2,h3];rfl)
 go_enter Tryz.func202,Tryz.ntmps202
 go_wp2
 go_ret
 exact ⟨by rw [HR.out];rfl,rfl⟩
theorem Zfs (s:ByteArray) (w:World) (h0:(s.toList == [43])=false) (h1:(s.toList == [45])=false) (h2:(s.toList == [42])=false) (h3:(s.toList == [60])=false) (h4:(s.toList == [61,61])=true):Calls Tryz.prog 202 #[.string s] w fun e w'=>e = .returned (.bool (opB s))∧w=w':=by
 have HR:=hQ (show opB s=true from by unfold opB;simp only [←Qa9,h0,h1,h2,h3,h4];rfl)
 go_enter Tryz.func202,Tryz.ntmps202
 go_wp2
 go_ret
 exact ⟨by rw [HR.out];rfl,rfl⟩
theorem Zft (s:ByteArray) (w:World) (h0:(s.toList == [43])=false) (h1:(s.toList == [45])=false) (h2:(s.toList == [42])=false) (h3:(s.toList == [60])=false) (h4:(s.toList == [61,61])=false):Calls Tryz.prog 202 #[.string s] w fun e w'=>e = .returned (.bool (opB s))∧w=w':=by
 have HR:=hQ (show opB s=false from by unfold opB;simp only [←Qa9,h0,h1,h2,h3,h4];rfl)
 go_enter Tryz.func202,Tryz.ntmps202
 go_wp2
 go_ret
 exact ⟨by rw [HR.out];rfl,rfl⟩
theorem Qzu (s:ByteArray) (w:World):Calls Tryz.prog 202 #[.string s] w fun e w'=>e = .returned (.bool (opB s))∧w=w':=by
 cases h0:(s.toList == [43])
 case true=>exact Zfo s w h0
 cases h1:(s.toList == [45])
 case true=>exact Zfp s w h0 h1
 cases h2:(s.toList == [42])
 case true=>exact Zfq s w h0 h1 h2
 cases h3:(s.toList == [60])
 case true=>exact Zfr s w h0 h1 h2 h3
 cases h4:(s.toList == [61,61])
 case true=>exact Zfs s w h0 h1 h2 h3 h4
 exact Zft s w h0 h1 h2 h3 h4
theorem Qsz (s:ByteArray) (w:World) (hs:s.size<maxLen):Calls Tryz.prog 146 #[.int .i64 1,.string s] w fun e w'=>e = .returned (.bool (Qbq (Qae 1) s))∧Below w.heap.size w w':=by
 have HS:=hQ hs;have HR:=hQ (show Qbq (Qae 1) s=Qbv 1 (Qa3 (suf s 0):Nat) s from rfl);clear hs
 go_enter Tryz.func146,Tryz.ntmps146
 go_wp2_with (first | (go_at_call 201;refine (Qaz s _ HS.out).mono ?_;rintro e w1 ⟨rfl,hb1⟩;have HB1:=hQ hb1;clear hb1))
 all_goals
  go_ret
  exact ⟨Qah (by first | exact HR.out.symm | (rw [HR.out];simp_all [Qbv];done) | (rw [HR.out];simp [Qbv];omega)),HB1.out⟩
theorem Qs0 (s:ByteArray) (w:World) (hs:s.size<maxLen):Calls Tryz.prog 146 #[.int .i64 2,.string s] w fun e w'=>e = .returned (.bool (Qbq (Qae 2) s))∧Below w.heap.size w w':=by
 have HS:=hQ hs;have HR:=hQ (show Qbq (Qae 2) s=Qbv 2 (Qa3 (suf s 0):Nat) s from rfl);clear hs
 go_enter Tryz.func146,Tryz.ntmps146
 go_wp2_with (first | (go_at_call 201;refine (Qaz s _ HS.out).mono ?_;rintro e w1 ⟨rfl,hb1⟩;have HB1:=hQ hb1;clear hb1))
 all_goals
  go_ret
  exact ⟨Qah (by first | exact HR.out.symm | (rw [HR.out];simp_all [Qbv];done) | (rw [HR.out];simp [Qbv];omega)),HB1.out⟩
theorem Qs1 (s:ByteArray) (w:World) (hs:s.size<maxLen):Calls Tryz.prog 146 #[.int .i64 3,.string s] w fun e w'=>e = .returned (.bool (Qbq (Qae 3) s))∧Below w.heap.size w w':=by
 have HS:=hQ hs;have HR:=hQ (show Qbq (Qae 3) s=Qbv 1 (Qa3 (suf s 0):Nat) s from rfl);clear hs
 go_enter Tryz.func146,Tryz.ntmps146
 go_wp2_with (first | (go_at_call 201;refine (Qaz s _ HS.out).mono ?_;rintro e w1 ⟨rfl,hb1⟩;have HB1:=hQ hb1;clear hb1))
 all_goals
  go_ret
  exact ⟨Qah (by first | exact HR.out.symm | (rw [HR.out];simp_all [Qbv];done) | (rw [HR.out];simp [Qbv];omega)),HB1.out⟩
theorem Qs2 (s:ByteArray) (w:World) (hs:s.size<maxLen):Calls Tryz.prog 146 #[.int .i64 4,.string s] w fun e w'=>e = .returned (.bool (Qbq (Qae 4) s))∧Below w.heap.size w w':=by
 have HS:=hQ hs;have HR:=hQ (show Qbq (Qae 4) s=Qbv 2 (Qa3 (suf s 0):Nat) s from rfl);clear hs
 go_enter Tryz.func146,Tryz.ntmps146
 go_wp2_with (first | (go_at_call 201;refine (Qaz s _ HS.out).mono ?_;rintro e w1 ⟨rfl,hb1⟩;have HB1:=hQ hb1;clear hb1))
 all_goals
  go_ret
  exact ⟨Qah (by first | exact HR.out.symm | (rw [HR.out];simp_all [Qbv];done) | (rw [HR.out];simp [Qbv];omega)),HB1.out⟩
theorem Qs3 (s:ByteArray) (w:World) (hs:s.size<maxLen):Calls Tryz.prog 146 #[.int .i64 9,.string s] w fun e w'=>e = .returned (.bool (Qbq (Qae 9) s))∧Below w.heap.size w w':=by
 have HS:=hQ hs;have HR:=hQ (show Qbq (Qae 9) s=Qbv 3 (Qa3 (suf s 0):Nat) s from rfl);clear hs
 go_enter Tryz.func146,Tryz.ntmps146
 go_wp2_with (first | (go_at_call 201;refine (Qaz s _ HS.out).mono ?_;rintro e w1 ⟨rfl,hb1⟩;have HB1:=hQ hb1;clear hb1))
 all_goals
  go_ret
  exact ⟨Qah (by first | exact HR.out.symm | (rw [HR.out];simp_all [Qbv];done) | (rw [HR.out];simp [Qbv];omega)),HB1.out⟩
theorem Qq1 (s:ByteArray) (w:World) (hs:s.size<maxLen):Calls Tryz.prog 146 #[.int .i64 10,.string s] w fun e w'=>e = .returned (.bool (Qbq (Qae 10) s))∧Below w.heap.size w w':=by
 have HS:=hQ hs;have HR:=hQ (show Qbq (Qae 10) s=Qbv 5 (Qa3 (suf s 0):Nat) s from rfl);clear hs
 go_enter Tryz.func146,Tryz.ntmps146
 go_wp2_with (first | (go_at_call 201;refine (Qaz s _ HS.out).mono ?_;rintro e w1 ⟨rfl,hb1⟩;have HB1:=hQ hb1;clear hb1))
 all_goals
  go_ret
  exact ⟨Qah (by first | exact HR.out.symm | (rw [HR.out];simp_all [Qbv];done) | (rw [HR.out];simp [Qbv];omega)),HB1.out⟩
theorem Qq2 (s:ByteArray) (w:World) (hs:s.size<maxLen):Calls Tryz.prog 146 #[.int .i64 11,.string s] w fun e w'=>e = .returned (.bool (Qbq (Qae 11) s))∧Below w.heap.size w w':=by
 have HS:=hQ hs;have HR:=hQ (show Qbq (Qae 11) s=Qbv 6 (Qa3 (suf s 0):Nat) s from rfl);clear hs
 go_enter Tryz.func146,Tryz.ntmps146
 go_wp2_with (first | (go_at_call 201;refine (Qaz s _ HS.out).mono ?_;rintro e w1 ⟨rfl,hb1⟩;have HB1:=hQ hb1;clear hb1))
 all_goals
  go_ret
  exact ⟨Qah (by first | exact HR.out.symm | (rw [HR.out];simp_all [Qbv];done) | (rw [HR.out];simp [Qbv];omega)),HB1.out⟩
theorem Qq3 (s:ByteArray) (w:World) (hs:s.size<maxLen):Calls Tryz.prog 146 #[.int .i64 12,.string s] w fun e w'=>e = .returned (.bool (Qbq (Qae 12) s))∧Below w.heap.size w w':=by
 have HS:=hQ hs;have HR:=hQ (show Qbq (Qae 12) s=Qbv 2 (Qa3 (suf s 0):Nat) s from rfl);clear hs
 go_enter Tryz.func146,Tryz.ntmps146
 go_wp2_with (first | (go_at_call 201;refine (Qaz s _ HS.out).mono ?_;rintro e w1 ⟨rfl,hb1⟩;have HB1:=hQ hb1;clear hb1))
 all_goals
  go_ret
  exact ⟨Qah (by first | exact HR.out.symm | (rw [HR.out];simp_all [Qbv];done) | (rw [HR.out];simp [Qbv];omega)),HB1.out⟩
theorem Qq4 (s:ByteArray) (w:World) (hs:s.size<maxLen):Calls Tryz.prog 146 #[.int .i64 16,.string s] w fun e w'=>e = .returned (.bool (Qbq (Qae 16) s))∧Below w.heap.size w w':=by
 have HS:=hQ hs;have HR:=hQ (show Qbq (Qae 16) s=Qbv 4 (Qa3 (suf s 0):Nat) s from rfl);clear hs
 go_enter Tryz.func146,Tryz.ntmps146
 go_wp2_with (first | (go_at_call 201;refine (Qaz s _ HS.out).mono ?_;rintro e w1 ⟨rfl,hb1⟩;have HB1:=hQ hb1;clear hb1))
 all_goals
  go_ret
  exact ⟨Qah (by first | exact HR.out.symm | (rw [HR.out];simp_all [Qbv];done) | (rw [HR.out];simp [Qbv];omega)),HB1.out⟩
theorem Qq5 (s:ByteArray) (w:World) (hs:s.size<maxLen):Calls Tryz.prog 146 #[.int .i64 20,.string s] w fun e w'=>e = .returned (.bool (Qbq (Qae 20) s))∧Below w.heap.size w w':=by
 have HS:=hQ hs;have HR:=hQ (show Qbq (Qae 20) s=Qbv 2 (Qa3 (suf s 0):Nat) s from rfl);clear hs
 go_enter Tryz.func146,Tryz.ntmps146
 go_wp2_with (first | (go_at_call 201;refine (Qaz s _ HS.out).mono ?_;rintro e w1 ⟨rfl,hb1⟩;have HB1:=hQ hb1;clear hb1))
 all_goals
  go_ret
  exact ⟨Qah (by first | exact HR.out.symm | (rw [HR.out];simp_all [Qbv];done) | (rw [HR.out];simp [Qbv];omega)),HB1.out⟩
theorem Qq6 (s:ByteArray) (w:World) (hs:s.size<maxLen):Calls Tryz.prog 146 #[.int .i64 21,.string s] w fun e w'=>e = .returned (.bool (Qbq (Qae 21) s))∧Below w.heap.size w w':=by
 have HS:=hQ hs;have HR:=hQ (show Qbq (Qae 21) s=Qbv 7 (Qa3 (suf s 0):Nat) s from rfl);clear hs
 go_enter Tryz.func146,Tryz.ntmps146
 go_wp2_with (first | (go_at_call 201;refine (Qaz s _ HS.out).mono ?_;rintro e w1 ⟨rfl,hb1⟩;have HB1:=hQ hb1;clear hb1) | (go_at_call 202;refine (Qzu s _).mono ?_;rintro e w2 ⟨rfl,rfl⟩))
 all_goals
  go_ret
  exact ⟨Qah (by first | exact HR.out.symm | (rw [HR.out];simp_all [Qbv];done) | (rw [HR.out];simp [Qbv];omega)),HB1.out⟩
theorem Zg6 (s:ByteArray):is s [] = s.toList.isEmpty:=by
 rw [←Qa9];cases s.toList <;> rfl
theorem Qs4 (k:Int) (s:ByteArray) (h:k≠1∧k≠2∧k≠3∧k≠4∧k≠9∧k≠10∧k≠11∧k≠12∧k≠16∧k≠20∧k≠21):Qbq (Qae k) s=is s []:=by
 by_cases h0:k≤0∨23≤k
 ·rw [Qds h0];rfl
 ·rcases (show k=5∨k=6∨k=7∨k=8∨k=13∨k=14∨k=15∨k=17∨k=18∨k=19∨k=22 from by omega) with rfl | rfl | rfl | rfl | rfl | rfl | rfl | rfl | rfl | rfl | rfl <;> rfl
theorem Qm9 (k:Int) (s:ByteArray) (w:World) (hs:s.size<maxLen) (h:k≠1∧k≠2∧k≠3∧k≠4∧k≠9∧k≠10∧k≠11∧k≠12∧k≠16∧k≠20∧k≠21):Calls Tryz.prog 146 #[.int .i64 k,.string s] w fun e w'=>e = .returned (.bool (Qbq (Qae k) s))∧Below w.heap.size w w':=by
 have HS:=hQ hs;have HR:=hQ ((Qs4 k s h).trans (Zg6 s));have e1:=Qcn (show k≠1 from by omega);have e2:=Qcn (show k≠2 from by omega);have e3:=Qcn (show k≠3 from by omega);have e4:=Qcn (show k≠4 from by omega);have e9:=Qcn (show k≠9 from by omega);have e10:=Qcn (show k≠10 from by omega);have e11:=Qcn (show k≠11 from by omega);have e12:=Qcn (show k≠12 from by omega);have e16:=Qcn (show k≠16 from by omega);have e20:=Qcn (show k≠20 from by omega);have e21:=Qcn (show k≠21 from by omega);clear hs h
 go_enter Tryz.func146,Tryz.ntmps146
 go_wp2_with (go_at_call 201;refine (Qaz s _ HS.out).mono ?_;rintro e w1 ⟨rfl,hb1⟩;have HB1:=hQ hb1;clear hb1)
 go_ret
 exact ⟨Qah (by first | exact HR.out.symm | (rw [HR.out];simp;done)),HB1.out⟩
theorem Qj6 (k:Int) (s:ByteArray) (w:World) (hs:s.size<maxLen):Calls Tryz.prog 146 #[.int .i64 k,.string s] w fun e w'=>e = .returned (.bool (Qbq (Qae k) s))∧Below w.heap.size w w':=by
 by_cases h:k≠1∧k≠2∧k≠3∧k≠4∧k≠9∧k≠10∧k≠11∧k≠12∧k≠16∧k≠20∧k≠21
 ·exact Qm9 k s w hs h
 ·rcases (show k=1∨k=2∨k=3∨k=4∨k=9∨k=10∨k=11∨k=12∨k=16∨k=20∨k=21 from by omega) with rfl | rfl | rfl | rfl | rfl | rfl | rfl | rfl | rfl | rfl | rfl
  ·exact Qsz s w hs
  ·exact Qs0 s w hs
  ·exact Qs1 s w hs
  ·exact Qs2 s w hs
  ·exact Qs3 s w hs
  ·exact Qq1 s w hs
  ·exact Qq2 s w hs
  ·exact Qq3 s w hs
  ·exact Qq4 s w hs
  ·exact Qq5 s w hs
  ·exact Qq6 s w hs
def Qgt (tk:Int) (n i:Nat) (k:Int):Bool :=
 if tk=1 then k==2 || k==3
 else if tk=2 then (if i+1=n then Qkz k else if i+2=n then Qfe 3 k else k==4)
 else if tk=3∨tk=4∨tk=8 then Qfe 3 k
 else if tk=16 then k==17
 else if tk=21 then (Qie k || (decide (i=0) && k==21))
 else Qkz k
theorem Zg7 (vx:ByteArray) (vla:Option Addr) (vll vlc:Nat) (vka:Option Addr) (vkl vkc i:Nat) (k:Int) (w:World) (_hi:i<1000) (_hn:vkl≤1000):Calls Tryz.prog 147 #[.agg #[.int .i64 1,.string vx,.slice vla vll vlc,.slice vka vkl vkc],.int .i64 i,.int .i64 k] w fun e w'=>e = .returned (.bool (Qgt 1 vkl i k))∧Below w.heap.size w w':=by
 have HX:=hQ (xH w (.cells #[.int .i64 1,.string vx,.slice vla vll vlc,.slice vka vkl vkc] 29));have HB0:=hQ ((xC w.heap.size w).alloc (xA _) (.cells #[.int .i64 1,.string vx,.slice vla vll vlc,.slice vka vkl vkc] 29));have k0:(w.alloc (.cells #[.int .i64 1,.string vx,.slice vla vll vlc,.slice vka vkl vkc] 29)).cell? ⟨w.heap.size,0,none⟩=some (.int .i64 1):=Qab HX.out 0 _ rfl;have k3:(w.alloc (.cells #[.int .i64 1,.string vx,.slice vla vll vlc,.slice vka vkl vkc] 29)).cell? ⟨w.heap.size,3,none⟩=some (.slice vka vkl vkc):=Qab HX.out 3 _ rfl;have HR:=hQ (show Qgt 1 vkl i k=(k==2 || k==3) from rfl)
 go_enter Tryz.func147,Tryz.ntmps147
 go_wp2_with (first | (go_at_call 53;refine (Qcb _ _).mono ?_;rintro e w1 ⟨rfl,rfl⟩) | (go_at_call 203;refine (Qcu _ _).mono ?_;rintro e w1 ⟨rfl,rfl⟩) | (go_at_call 204;refine (Qcl _ _).mono ?_;rintro e w1 ⟨rfl,rfl⟩))
 all_goals
  go_ret
  exact ⟨Qah (by first | exact HR.out.symm | (rw [HR.out];done) | (rw [HR.out];simp_all;done)),HB0.out⟩
theorem Zfu (vx:ByteArray) (vla:Option Addr) (vll vlc:Nat) (vka:Option Addr) (vkl vkc i:Nat) (k:Int) (w:World) (_hi:i<1000) (_hn:vkl≤1000) (h:i+1=vkl):Calls Tryz.prog 147 #[.agg #[.int .i64 2,.string vx,.slice vla vll vlc,.slice vka vkl vkc],.int .i64 i,.int .i64 k] w fun e w'=>e = .returned (.bool (Qgt 2 vkl i k))∧Below w.heap.size w w':=by
 have HX:=hQ (xH w (.cells #[.int .i64 2,.string vx,.slice vla vll vlc,.slice vka vkl vkc] 29));have HB0:=hQ ((xC w.heap.size w).alloc (xA _) (.cells #[.int .i64 2,.string vx,.slice vla vll vlc,.slice vka vkl vkc] 29));have k0:(w.alloc (.cells #[.int .i64 2,.string vx,.slice vla vll vlc,.slice vka vkl vkc] 29)).cell? ⟨w.heap.size,0,none⟩=some (.int .i64 2):=Qab HX.out 0 _ rfl;have k3:(w.alloc (.cells #[.int .i64 2,.string vx,.slice vla vll vlc,.slice vka vkl vkc] 29)).cell? ⟨w.heap.size,3,none⟩=some (.slice vka vkl vkc):=Qab HX.out 3 _ rfl;have HR:=hQ (show Qgt 2 vkl i k=Qkz k from by unfold Qgt;rw [xN (by decide),xO rfl,xO h]);have d1:((i:Int)==(vkl:Int)-1)=true:=beq_iff_eq.2 (by omega);clear h
 go_enter Tryz.func147,Tryz.ntmps147
 go_wp2_with (first | (go_at_call 53;refine (Qcb _ _).mono ?_;rintro e w1 ⟨rfl,rfl⟩) | (go_at_call 203;refine (Qcu _ _).mono ?_;rintro e w1 ⟨rfl,rfl⟩) | (go_at_call 204;refine (Qcl _ _).mono ?_;rintro e w1 ⟨rfl,rfl⟩))
 all_goals
  go_ret
  exact ⟨Qah (by first | exact HR.out.symm | (rw [HR.out];done) | (rw [HR.out];simp_all;done)),HB0.out⟩
theorem Zfv (vx:ByteArray) (vla:Option Addr) (vll vlc:Nat) (vka:Option Addr) (vkl vkc i:Nat) (k:Int) (w:World) (_hi:i<1000) (_hn:vkl≤1000) (h1:i+1≠vkl) (h:i+2=vkl):Calls Tryz.prog 147 #[.agg #[.int .i64 2,.string vx,.slice vla vll vlc,.slice vka vkl vkc],.int .i64 i,.int .i64 k] w fun e w'=>e = .returned (.bool (Qgt 2 vkl i k))∧Below w.heap.size w w':=by
 have HX:=hQ (xH w (.cells #[.int .i64 2,.string vx,.slice vla vll vlc,.slice vka vkl vkc] 29));have HB0:=hQ ((xC w.heap.size w).alloc (xA _) (.cells #[.int .i64 2,.string vx,.slice vla vll vlc,.slice vka vkl vkc] 29));have k0:(w.alloc (.cells #[.int .i64 2,.string vx,.slice vla vll vlc,.slice vka vkl vkc] 29)).cell? ⟨w.heap.size,0,none⟩=some (.int .i64 2):=Qab HX.out 0 _ rfl;have k3:(w.alloc (.cells #[.int .i64 2,.string vx,.slice vla vll vlc,.slice vka vkl vkc] 29)).cell? ⟨w.heap.size,3,none⟩=some (.slice vka vkl vkc):=Qab HX.out 3 _ rfl;have HR:=hQ (show Qgt 2 vkl i k=Qfe 3 k from by unfold Qgt;rw [xN (by decide),xO rfl,xN h1,xO h]);have d1:((i:Int)==(vkl:Int)-1)=false:=beq_eq_false_iff_ne.2 (by omega);have d2:((i:Int)==(vkl:Int)-2)=true:=beq_iff_eq.2 (by omega);clear h h1
 go_enter Tryz.func147,Tryz.ntmps147
 go_wp2_with (first | (go_at_call 53;refine (Qcb _ _).mono ?_;rintro e w1 ⟨rfl,rfl⟩) | (go_at_call 203;refine (Qcu _ _).mono ?_;rintro e w1 ⟨rfl,rfl⟩) | (go_at_call 204;refine (Qcl _ _).mono ?_;rintro e w1 ⟨rfl,rfl⟩))
 all_goals
  go_ret
  exact ⟨Qah (by first | exact HR.out.symm | (rw [HR.out];done) | (rw [HR.out];simp_all;done)),HB0.out⟩
theorem Zfw (vx:ByteArray) (vla:Option Addr) (vll vlc:Nat) (vka:Option Addr) (vkl vkc i:Nat) (k:Int) (w:World) (_hi:i<1000) (_hn:vkl≤1000) (h1:i+1≠vkl) (h:i+2≠vkl):Calls Tryz.prog 147 #[.agg #[.int .i64 2,.string vx,.slice vla vll vlc,.slice vka vkl vkc],.int .i64 i,.int .i64 k] w fun e w'=>e = .returned (.bool (Qgt 2 vkl i k))∧Below w.heap.size w w':=by
 have HX:=hQ (xH w (.cells #[.int .i64 2,.string vx,.slice vla vll vlc,.slice vka vkl vkc] 29));have HB0:=hQ ((xC w.heap.size w).alloc (xA _) (.cells #[.int .i64 2,.string vx,.slice vla vll vlc,.slice vka vkl vkc] 29));have k0:(w.alloc (.cells #[.int .i64 2,.string vx,.slice vla vll vlc,.slice vka vkl vkc] 29)).cell? ⟨w.heap.size,0,none⟩=some (.int .i64 2):=Qab HX.out 0 _ rfl;have k3:(w.alloc (.cells #[.int .i64 2,.string vx,.slice vla vll vlc,.slice vka vkl vkc] 29)).cell? ⟨w.heap.size,3,none⟩=some (.slice vka vkl vkc):=Qab HX.out 3 _ rfl;have HR:=hQ (show Qgt 2 vkl i k=(k==4) from by unfold Qgt;rw [xN (by decide),xO rfl,xN h1,xN h]);have d1:((i:Int)==(vkl:Int)-1)=false:=beq_eq_false_iff_ne.2 (by omega);have d2:((i:Int)==(vkl:Int)-2)=false:=beq_eq_false_iff_ne.2 (by omega);clear h h1
 go_enter Tryz.func147,Tryz.ntmps147
 go_wp2_with (first | (go_at_call 53;refine (Qcb _ _).mono ?_;rintro e w1 ⟨rfl,rfl⟩) | (go_at_call 203;refine (Qcu _ _).mono ?_;rintro e w1 ⟨rfl,rfl⟩) | (go_at_call 204;refine (Qcl _ _).mono ?_;rintro e w1 ⟨rfl,rfl⟩))
 all_goals
  go_ret
  exact ⟨Qah (by first | exact HR.out.symm | (rw [HR.out];done) | (rw [HR.out];simp_all;done)),HB0.out⟩
theorem Zg8 (vx:ByteArray) (vla:Option Addr) (vll vlc:Nat) (vka:Option Addr) (vkl vkc i:Nat) (k:Int) (w:World) (_hi:i<1000) (_hn:vkl≤1000):Calls Tryz.prog 147 #[.agg #[.int .i64 3,.string vx,.slice vla vll vlc,.slice vka vkl vkc],.int .i64 i,.int .i64 k] w fun e w'=>e = .returned (.bool (Qgt 3 vkl i k))∧Below w.heap.size w w':=by
 have HX:=hQ (xH w (.cells #[.int .i64 3,.string vx,.slice vla vll vlc,.slice vka vkl vkc] 29));have HB0:=hQ ((xC w.heap.size w).alloc (xA _) (.cells #[.int .i64 3,.string vx,.slice vla vll vlc,.slice vka vkl vkc] 29));have k0:(w.alloc (.cells #[.int .i64 3,.string vx,.slice vla vll vlc,.slice vka vkl vkc] 29)).cell? ⟨w.heap.size,0,none⟩=some (.int .i64 3):=Qab HX.out 0 _ rfl;have k3:(w.alloc (.cells #[.int .i64 3,.string vx,.slice vla vll vlc,.slice vka vkl vkc] 29)).cell? ⟨w.heap.size,3,none⟩=some (.slice vka vkl vkc):=Qab HX.out 3 _ rfl;have HR:=hQ (show Qgt 3 vkl i k=Qfe 3 k from rfl)
 go_enter Tryz.func147,Tryz.ntmps147
 go_wp2_with (first | (go_at_call 53;refine (Qcb _ _).mono ?_;rintro e w1 ⟨rfl,rfl⟩) | (go_at_call 203;refine (Qcu _ _).mono ?_;rintro e w1 ⟨rfl,rfl⟩) | (go_at_call 204;refine (Qcl _ _).mono ?_;rintro e w1 ⟨rfl,rfl⟩))
 all_goals
  go_ret
  exact ⟨Qah (by first | exact HR.out.symm | (rw [HR.out];done) | (rw [HR.out];simp_all;done)),HB0.out⟩
theorem Zg9 (vx:ByteArray) (vla:Option Addr) (vll vlc:Nat) (vka:Option Addr) (vkl vkc i:Nat) (k:Int) (w:World) (_hi:i<1000) (_hn:vkl≤1000):Calls Tryz.prog 147 #[.agg #[.int .i64 4,.string vx,.slice vla vll vlc,.slice vka vkl vkc],.int .i64 i,.int .i64 k] w fun e w'=>e = .returned (.bool (Qgt 4 vkl i k))∧Below w.heap.size w w':=by
 have HX:=hQ (xH w (.cells #[.int .i64 4,.string vx,.slice vla vll vlc,.slice vka vkl vkc] 29));have HB0:=hQ ((xC w.heap.size w).alloc (xA _) (.cells #[.int .i64 4,.string vx,.slice vla vll vlc,.slice vka vkl vkc] 29));have k0:(w.alloc (.cells #[.int .i64 4,.string vx,.slice vla vll vlc,.slice vka vkl vkc] 29)).cell? ⟨w.heap.size,0,none⟩=some (.int .i64 4):=Qab HX.out 0 _ rfl;have k3:(w.alloc (.cells #[.int .i64 4,.string vx,.slice vla vll vlc,.slice vka vkl vkc] 29)).cell? ⟨w.heap.size,3,none⟩=some (.slice vka vkl vkc):=Qab HX.out 3 _ rfl;have HR:=hQ (show Qgt 4 vkl i k=Qfe 3 k from rfl)
 go_enter Tryz.func147,Tryz.ntmps147
 go_wp2_with (first | (go_at_call 53;refine (Qcb _ _).mono ?_;rintro e w1 ⟨rfl,rfl⟩) | (go_at_call 203;refine (Qcu _ _).mono ?_;rintro e w1 ⟨rfl,rfl⟩) | (go_at_call 204;refine (Qcl _ _).mono ?_;rintro e w1 ⟨rfl,rfl⟩))
 all_goals
  go_ret
  exact ⟨Qah (by first | exact HR.out.symm | (rw [HR.out];done) | (rw [HR.out];simp_all;done)),HB0.out⟩
theorem Zha (vx:ByteArray) (vla:Option Addr) (vll vlc:Nat) (vka:Option Addr) (vkl vkc i:Nat) (k:Int) (w:World) (_hi:i<1000) (_hn:vkl≤1000):Calls Tryz.prog 147 #[.agg #[.int .i64 8,.string vx,.slice vla vll vlc,.slice vka vkl vkc],.int .i64 i,.int .i64 k] w fun e w'=>e = .returned (.bool (Qgt 8 vkl i k))∧Below w.heap.size w w':=by
 have HX:=hQ (xH w (.cells #[.int .i64 8,.string vx,.slice vla vll vlc,.slice vka vkl vkc] 29));have HB0:=hQ ((xC w.heap.size w).alloc (xA _) (.cells #[.int .i64 8,.string vx,.slice vla vll vlc,.slice vka vkl vkc] 29));have k0:(w.alloc (.cells #[.int .i64 8,.string vx,.slice vla vll vlc,.slice vka vkl vkc] 29)).cell? ⟨w.heap.size,0,none⟩=some (.int .i64 8):=Qab HX.out 0 _ rfl;have k3:(w.alloc (.cells #[.int .i64 8,.string vx,.slice vla vll vlc,.slice vka vkl vkc] 29)).cell? ⟨w.heap.size,3,none⟩=some (.slice vka vkl vkc):=Qab HX.out 3 _ rfl;have HR:=hQ (show Qgt 8 vkl i k=Qfe 3 k from rfl)
 go_enter Tryz.func147,Tryz.ntmps147
 go_wp2_with (first | (go_at_call 53;refine (Qcb _ _).mono ?_;rintro e w1 ⟨rfl,rfl⟩) | (go_at_call 203;refine (Qcu _ _).mono ?_;rintro e w1 ⟨rfl,rfl⟩) | (go_at_call 204;refine (Qcl _ _).mono ?_;rintro e w1 ⟨rfl,rfl⟩))
 all_goals
  go_ret
  exact ⟨Qah (by first | exact HR.out.symm | (rw [HR.out];done) | (rw [HR.out];simp_all;done)),HB0.out⟩
theorem Zfx (vx:ByteArray) (vla:Option Addr) (vll vlc:Nat) (vka:Option Addr) (vkl vkc i:Nat) (k:Int) (w:World) (_hi:i<1000) (_hn:vkl≤1000):Calls Tryz.prog 147 #[.agg #[.int .i64 16,.string vx,.slice vla vll vlc,.slice vka vkl vkc],.int .i64 i,.int .i64 k] w fun e w'=>e = .returned (.bool (Qgt 16 vkl i k))∧Below w.heap.size w w':=by
 have HX:=hQ (xH w (.cells #[.int .i64 16,.string vx,.slice vla vll vlc,.slice vka vkl vkc] 29));have HB0:=hQ ((xC w.heap.size w).alloc (xA _) (.cells #[.int .i64 16,.string vx,.slice vla vll vlc,.slice vka vkl vkc] 29));have k0:(w.alloc (.cells #[.int .i64 16,.string vx,.slice vla vll vlc,.slice vka vkl vkc] 29)).cell? ⟨w.heap.size,0,none⟩=some (.int .i64 16):=Qab HX.out 0 _ rfl;have k3:(w.alloc (.cells #[.int .i64 16,.string vx,.slice vla vll vlc,.slice vka vkl vkc] 29)).cell? ⟨w.heap.size,3,none⟩=some (.slice vka vkl vkc):=Qab HX.out 3 _ rfl;have HR:=hQ (show Qgt 16 vkl i k=(k==17) from rfl)
 go_enter Tryz.func147,Tryz.ntmps147
 go_wp2_with (first | (go_at_call 53;refine (Qcb _ _).mono ?_;rintro e w1 ⟨rfl,rfl⟩) | (go_at_call 203;refine (Qcu _ _).mono ?_;rintro e w1 ⟨rfl,rfl⟩) | (go_at_call 204;refine (Qcl _ _).mono ?_;rintro e w1 ⟨rfl,rfl⟩))
 all_goals
  go_ret
  exact ⟨Qah (by first | exact HR.out.symm | (rw [HR.out];done) | (rw [HR.out];simp_all;done)),HB0.out⟩
theorem Zda (vx:ByteArray) (vla:Option Addr) (vll vlc:Nat) (vka:Option Addr) (vkl vkc i:Nat) (k:Int) (w:World) (_hi:i<1000) (_hn:vkl≤1000) (hu:Qie k=true):Calls Tryz.prog 147 #[.agg #[.int .i64 21,.string vx,.slice vla vll vlc,.slice vka vkl vkc],.int .i64 i,.int .i64 k] w fun e w'=>e = .returned (.bool (Qgt 21 vkl i k))∧Below w.heap.size w w':=by
 have HX:=hQ (xH w (.cells #[.int .i64 21,.string vx,.slice vla vll vlc,.slice vka vkl vkc] 29));have HB0:=hQ ((xC w.heap.size w).alloc (xA _) (.cells #[.int .i64 21,.string vx,.slice vla vll vlc,.slice vka vkl vkc] 29));have k0:(w.alloc (.cells #[.int .i64 21,.string vx,.slice vla vll vlc,.slice vka vkl vkc] 29)).cell? ⟨w.heap.size,0,none⟩=some (.int .i64 21):=Qab HX.out 0 _ rfl;have k3:(w.alloc (.cells #[.int .i64 21,.string vx,.slice vla vll vlc,.slice vka vkl vkc] 29)).cell? ⟨w.heap.size,3,none⟩=some (.slice vka vkl vkc):=Qab HX.out 3 _ rfl;have HR:=hQ (show Qgt 21 vkl i k=true from by show (Qie k || (decide (i=0) && k==21))=true;rw [hu];rfl)
 go_enter Tryz.func147,Tryz.ntmps147
 go_wp2_with (first | (go_at_call 53;refine (Qcb _ _).mono ?_;rintro e w1 ⟨rfl,rfl⟩) | (go_at_call 203;refine (Qcu _ _).mono ?_;rintro e w1 ⟨rfl,rfl⟩) | (go_at_call 204;refine (Qcl _ _).mono ?_;rw [hu];rintro e w1 ⟨rfl,rfl⟩))
 all_goals
  go_ret
  exact ⟨Qah (by first | exact HR.out.symm | (rw [HR.out];done) | (rw [HR.out];simp_all;done)),HB0.out⟩
theorem Zdb (vx:ByteArray) (vla:Option Addr) (vll vlc:Nat) (vka:Option Addr) (vkl vkc i:Nat) (k:Int) (w:World) (_hi:i<1000) (_hn:vkl≤1000) (hu:Qie k=false):Calls Tryz.prog 147 #[.agg #[.int .i64 21,.string vx,.slice vla vll vlc,.slice vka vkl vkc],.int .i64 i,.int .i64 k] w fun e w'=>e = .returned (.bool (Qgt 21 vkl i k))∧Below w.heap.size w w':=by
 have HX:=hQ (xH w (.cells #[.int .i64 21,.string vx,.slice vla vll vlc,.slice vka vkl vkc] 29));have HB0:=hQ ((xC w.heap.size w).alloc (xA _) (.cells #[.int .i64 21,.string vx,.slice vla vll vlc,.slice vka vkl vkc] 29));have k0:(w.alloc (.cells #[.int .i64 21,.string vx,.slice vla vll vlc,.slice vka vkl vkc] 29)).cell? ⟨w.heap.size,0,none⟩=some (.int .i64 21):=Qab HX.out 0 _ rfl;have k3:(w.alloc (.cells #[.int .i64 21,.string vx,.slice vla vll vlc,.slice vka vkl vkc] 29)).cell? ⟨w.heap.size,3,none⟩=some (.slice vka vkl vkc):=Qab HX.out 3 _ rfl;have HR:=hQ (show Qgt 21 vkl i k=(decide (i=0) && k==21) from by show (Qie k || (decide (i=0) && k==21))=_;rw [hu];rfl)
 by_cases h0:i=0
 ·subst h0
  go_enter Tryz.func147,Tryz.ntmps147
  go_wp2_with (first | (go_at_call 53;refine (Qcb _ _).mono ?_;rintro e w1 ⟨rfl,rfl⟩) | (go_at_call 203;refine (Qcu _ _).mono ?_;rintro e w1 ⟨rfl,rfl⟩) | (go_at_call 204;refine (Qcl _ _).mono ?_;rw [hu];rintro e w1 ⟨rfl,rfl⟩))
  all_goals
   go_ret
   exact ⟨Qah (by first | exact HR.out.symm | (rw [HR.out];simp_all;done)),HB0.out⟩
 ·have d1:((i:Int)==0)=false:=beq_eq_false_iff_ne.2 (by omega);have d2:(i==0)=false:=beq_eq_false_iff_ne.2 h0;have HR2:=hQ (show Qgt 21 vkl i k=false from by rw [HR.out,xR h0];rfl);clear h0
  go_enter Tryz.func147,Tryz.ntmps147
  go_wp2_with (first | (go_at_call 53;refine (Qcb _ _).mono ?_;rintro e w1 ⟨rfl,rfl⟩) | (go_at_call 203;refine (Qcu _ _).mono ?_;rintro e w1 ⟨rfl,rfl⟩) | (go_at_call 204;refine (Qcl _ _).mono ?_;rw [hu];rintro e w1 ⟨rfl,rfl⟩))
  all_goals
   go_ret
   exact ⟨Qah (by first | exact HR2.out.symm | (rw [HR2.out];simp_all;done)),HB0.out⟩
theorem Qv5 (tk:Int) (vx:ByteArray) (vla:Option Addr) (vll vlc:Nat) (vka:Option Addr) (vkl vkc i:Nat) (k:Int) (w:World) (_hi:i<1000) (_hn:vkl≤1000) (h:tk≠1∧tk≠2∧tk≠3∧tk≠4∧tk≠8∧tk≠16∧tk≠21):Calls Tryz.prog 147 #[.agg #[.int .i64 tk,.string vx,.slice vla vll vlc,.slice vka vkl vkc],.int .i64 i,.int .i64 k] w fun e w'=>e = .returned (.bool (Qgt tk vkl i k))∧Below w.heap.size w w':=by
 have HX:=hQ (xH w (.cells #[.int .i64 tk,.string vx,.slice vla vll vlc,.slice vka vkl vkc] 29));have HB0:=hQ ((xC w.heap.size w).alloc (xA _) (.cells #[.int .i64 tk,.string vx,.slice vla vll vlc,.slice vka vkl vkc] 29));have k0:(w.alloc (.cells #[.int .i64 tk,.string vx,.slice vla vll vlc,.slice vka vkl vkc] 29)).cell? ⟨w.heap.size,0,none⟩=some (.int .i64 tk):=Qab HX.out 0 _ rfl;have k3:(w.alloc (.cells #[.int .i64 tk,.string vx,.slice vla vll vlc,.slice vka vkl vkc] 29)).cell? ⟨w.heap.size,3,none⟩=some (.slice vka vkl vkc):=Qab HX.out 3 _ rfl;have HR:=hQ (show Qgt tk vkl i k=Qkz k from by unfold Qgt;rw [xN (by omega),xN (by omega),xN (by omega),xN (by omega),xN (by omega)]);have e1:=Qcn (show tk≠1 from by omega);have e2:=Qcn (show tk≠2 from by omega);have e3:=Qcn (show tk≠3 from by omega);have e4:=Qcn (show tk≠4 from by omega);have e8:=Qcn (show tk≠8 from by omega);have e16:=Qcn (show tk≠16 from by omega);have e21:=Qcn (show tk≠21 from by omega);clear h
 go_enter Tryz.func147,Tryz.ntmps147
 go_wp2_with (first | (go_at_call 53;refine (Qcb _ _).mono ?_;rintro e w1 ⟨rfl,rfl⟩) | (go_at_call 203;refine (Qcu _ _).mono ?_;rintro e w1 ⟨rfl,rfl⟩) | (go_at_call 204;refine (Qcl _ _).mono ?_;rintro e w1 ⟨rfl,rfl⟩))
 all_goals
  go_ret
  exact ⟨Qah (by first | exact HR.out.symm | (rw [HR.out];done) | (rw [HR.out];simp_all;done)),HB0.out⟩
theorem Qpv (tk:Int) (vx:ByteArray) (vla:Option Addr) (vll vlc:Nat) (vka:Option Addr) (vkl vkc i:Nat) (k:Int) (w:World) (hi:i<1000) (hn:vkl≤1000):Calls Tryz.prog 147 #[.agg #[.int .i64 tk,.string vx,.slice vla vll vlc,.slice vka vkl vkc],.int .i64 i,.int .i64 k] w fun e w'=>e = .returned (.bool (Qgt tk vkl i k))∧Below w.heap.size w w':=by
 by_cases h:tk≠1∧tk≠2∧tk≠3∧tk≠4∧tk≠8∧tk≠16∧tk≠21
 ·exact Qv5 tk vx vla vll vlc vka vkl vkc i k w hi hn h
 ·rcases (show tk=1∨tk=2∨tk=3∨tk=4∨tk=8∨tk=16∨tk=21 from by omega) with rfl | rfl | rfl | rfl | rfl | rfl | rfl
  ·exact Zg7 vx vla vll vlc vka vkl vkc i k w hi hn
  ·by_cases h1:i+1=vkl
   ·exact Zfu vx vla vll vlc vka vkl vkc i k w hi hn h1
   ·by_cases h2:i+2=vkl
    ·exact Zfv vx vla vll vlc vka vkl vkc i k w hi hn h1 h2
    ·exact Zfw vx vla vll vlc vka vkl vkc i k w hi hn h1 h2
  ·exact Zg8 vx vla vll vlc vka vkl vkc i k w hi hn
  ·exact Zg9 vx vla vll vlc vka vkl vkc i k w hi hn
  ·exact Zha vx vla vll vlc vka vkl vkc i k w hi hn
  ·exact Zfx vx vla vll vlc vka vkl vkc i k w hi hn
  ·cases hu:Qie k
   ·exact Zdb vx vla vll vlc vka vkl vkc i k w hi hn hu
   ·exact Zda vx vla vll vlc vka vkl vkc i k w hi hn hu
mutual
def Qcv:Tr→Bool
 | .mk k x _ ks=>!decide (Qat k ks.length<0) && Qbq (Qae k) x && Qcm k ks.length 0 ks
def Qcm:Int→Nat→Nat→List Tr→Bool
 | _,_,_,[]=>true
 | k,n,i,a :: r=>Qgt k n i a.kind && Qcv a && Qcm k n (i+1) r
end
theorem Qhg (t:Tr):Qcv t=(!decide (Qat t.kind t.kids.length<0) && Qbq (Qae t.kind) t.text && Qcm t.kind t.kids.length 0 t.kids):=by
 cases t with
 | mk k x ls ks=>rw [Qcv];rfl
theorem Qs5 (k:Int) (n:Nat) (l:List Tr) (j:Nat) (a:Tr) (h:l[j]? = some a):Qcm k n j (l.drop j)=(Qgt k n j a.kind && Qcv a && Qcm k n (j+1) (l.drop (j+1))):=by
 obtain ⟨hj,he⟩:=xP.1 h;rw [List.drop_eq_getElem_cons hj,he,Qcm]
theorem Qq7 (k:Int) (n:Nat) (l:List Tr) (j:Nat) (h:l.length≤j):Qcm k n j (l.drop j)=true:=by
 rw [List.drop_eq_nil_of_le h,Qcm]
theorem Qoo (k:Int) (n:Nat) (hn:n≤1000):(Qb1 (Qae k) n).2 = !decide (Qat k n<0):=by
 rw [←Qt8 k n (by omega)];unfold Qk9
 have hc:∀ (l:List Part) (m:Int),0≤Qib l m:=by
  intro l m
  induction l with
  | nil=>exact Int.le_refl 0
  | cons x r ih =>
   rw [Qib]
   split
   ·rename_i h
    simp only [Bool.and_eq_true,decide_eq_true_eq] at h;omega
   ·omega
 cases (Qb1 (Qae k) n).2
 ·rw [xN (by decide)];rfl
 ·rw [xO rfl];have:=hc (Qae k) (Qb1 (Qae k) n).1
  rw [xR (by omega)];rfl
theorem Qey {k:Int} {n:Nat} {o:Int} (hl:Qae k≠[]) (ho:(Qpj (Qae k):Int)=o):(Qb1 (Qae k) n).1=n-o:=by
 unfold Qb1;rw [xN (fun h=>by rcases h with h | h;exact hl h;omega),Qkn,ho]
theorem Qff {n:Nat} {must m:Int} (h:(!decide (Qbb n must m<0))=true):(n:Int)=must:=by
 unfold Qbb at h
 by_cases e:(n:Int)=must
 ·exact e
 ·rw [xN e] at h;exact absurd h (by decide)
theorem Zfy (n:Nat):Qeo (Qae 1) (Qb1 (Qae 1) n).1=List.replicate n 1:=by
 rw [Qey (o:=0) (by decide) rfl];simp [Qae,Qeo,Qbx,Qcj,Qe4,Qgg]
theorem Zfz (n:Nat) (h:2≤n):Qeo (Qae 2) (Qb1 (Qae 2) n).1=List.replicate (n-2) 2 ++ [3,5]:=by
 rw [Qey (o:=2) (by decide) rfl];have:((n:Int)-2).toNat=n-2:=by omega
 simp [Qae,Qeo,Qbx,Qcj,Qe4,Qgg,Qkl,this]
theorem Zdc (n:Nat):Qeo (Qae 16) (Qb1 (Qae 16) n).1=List.replicate n 4:=by
 rw [Qey (o:=0) (by decide) rfl];simp [Qae,Qeo,Qbx,Qcj,Qe4,Qgg]
theorem Zdd (n:Nat):Qeo (Qae 18) (Qb1 (Qae 18) n).1=List.replicate n 5:=by
 rw [Qey (o:=0) (by decide) rfl];simp [Qae,Qeo,Qbx,Qcj,Qgg]
theorem Qpw {n j:Nat} {s:Int} (h:j<n):(List.replicate n s)[j]? = some s:=by rw [List.getElem?_replicate];simp [h]
theorem Qif {k:Int} (h:¬ (k≤0∨23≤k)):k=1∨k=2∨k=3∨k=4∨k=5∨k=6∨k=7∨k=8∨k=9∨k=10∨k=11∨k=12∨k=13∨k=14∨k=15∨k=16∨k=17∨k=18∨k=19∨k=20∨k=21∨k=22:=by omega
theorem Qzv (k:Int) (n:Nat) (hn:n≤1000) (h:(Qb1 (Qae k) n).2=true) (j:Nat) (hj:j<n):∃ s,(Qeo (Qae k) (Qb1 (Qae k) n).1)[j]? = some s∧∀ kd,Qgt k n j kd=Qfe s kd:=by
 have hq:=h;rw [Qoo k n hn] at hq
 by_cases h0:k≤0∨23≤k
 ·rw [Qds h0] at h;simp [Qb1] at h
 ·rcases Qif h0 with rfl | rfl | rfl | rfl | rfl | rfl | rfl | rfl | rfl | rfl | rfl | rfl | rfl | rfl | rfl | rfl | rfl | rfl | rfl | rfl | rfl | rfl
  ·exact ⟨1,by rw [Zfy];exact Qpw hj,fun kd=>rfl⟩
  ·have h2:2≤n:=by
    rcases Nat.lt_or_ge n 2 with h' | h'
    ·rw [show Qat 2 n = -1 from by show (if 2≤(n:Int) then 6+max 0 ((n:Int)-3) else -1)=_;rw [xN (by omega)]] at hq;exact absurd hq (by decide)
    ·exact h'
   rw [Zfz n h2]
   by_cases j1:j+1=n
   ·refine ⟨5,?_,fun kd=>?_⟩
    ·rw [xX (by simp;omega),List.length_replicate,show j-(n-2)=1 from by omega];rfl
    ·unfold Qgt;rw [xN (by decide),xO rfl,xO j1];exact Qhf kd
   ·by_cases j2:j+2=n
    ·refine ⟨3,?_,fun kd=>?_⟩
     ·rw [xX (by simp;omega),List.length_replicate,show j-(n-2)=0 from by omega];rfl
     ·unfold Qgt;rw [xN (by decide),xO rfl,xN j1,xO j2]
    ·refine ⟨2,?_,fun kd=>?_⟩
     ·rw [yB (by simp;omega)];exact Qpw (by omega)
     ·unfold Qgt;rw [xN (by decide),xO rfl,xN j1,xN j2];rfl
  ·obtain rfl:n=1:=by have:=Qff (n:=n) (must:=1) (m:=3) hq;omega
   obtain rfl:j=0:=by omega
   exact ⟨3,rfl,fun kd=>rfl⟩
  ·obtain rfl:n=1:=by have:=Qff (n:=n) (must:=1) (m:=2) hq;omega
   obtain rfl:j=0:=by omega
   exact ⟨3,rfl,fun kd=>rfl⟩
  ·have:=Qff (n:=n) (must:=0) (m:=1) hq;omega
  ·have:=Qff (n:=n) (must:=0) (m:=1) hq;omega
  ·have:=Qff (n:=n) (must:=0) (m:=1) hq;omega
  ·obtain rfl:n=1:=by have:=Qff (n:=n) (must:=1) (m:=2) hq;omega
   obtain rfl:j=0:=by omega
   exact ⟨3,rfl,fun kd=>rfl⟩
  ·have:=Qff (n:=n) (must:=0) (m:=1) hq;omega
  ·have:=Qff (n:=n) (must:=0) (m:=1) hq;omega
  ·have:=Qff (n:=n) (must:=0) (m:=1) hq;omega
  ·have:=Qff (n:=n) (must:=0) (m:=1) hq;omega
  ·have:=Qff (n:=n) (must:=0) (m:=1) hq;omega
  ·have:=Qff (n:=n) (must:=0) (m:=1) hq;omega
  ·have:=Qff (n:=n) (must:=0) (m:=1) hq;omega
  ·exact ⟨4,by rw [Zdc];exact Qpw hj,fun kd=>rfl⟩
  ·obtain rfl:n=1:=by have:=Qff (n:=n) (must:=1) (m:=0) hq;omega
   obtain rfl:j=0:=by omega
   exact ⟨5,rfl,fun kd=>Qhf kd⟩
  ·exact ⟨5,by rw [Zdd];exact Qpw hj,fun kd=>Qhf kd⟩
  ·obtain rfl:n=3:=by have:=Qff (n:=n) (must:=3) (m:=3) hq;omega
   rcases (show j=0∨j=1∨j=2 from by omega) with rfl | rfl | rfl <;> exact ⟨5,rfl,fun kd=>Qhf kd⟩
  ·obtain rfl:n=2:=by have:=Qff (n:=n) (must:=2) (m:=4) hq;omega
   rcases (show j=0∨j=1 from by omega) with rfl | rfl <;> exact ⟨5,rfl,fun kd=>Qhf kd⟩
  ·obtain rfl:n=2:=by have:=Qff (n:=n) (must:=2) (m:=1) hq;omega
   rcases (show j=0∨j=1 from by omega) with rfl | rfl
   ·exact ⟨6,rfl,fun kd=>Qv4 kd⟩
   ·exact ⟨7,rfl,fun kd=>by rw [←Qzt];show (Qie kd || (decide (1=0) && kd==21))=Qie kd;simp⟩
  ·obtain rfl:n=1:=by have:=Qff (n:=n) (must:=1) (m:=2) hq;omega
   obtain rfl:j=0:=by omega
   exact ⟨5,rfl,fun kd=>Qhf kd⟩
theorem Qna (k:Int) (n:Nat):∀ (ks:List Tr) (i:Nat) (ss:List Int),(∀ a∈ks,Qcv a=Qap a)→(∀ j,j<ks.length→∃ s,ss[j]? = some s∧∀ kd,Qgt k n (i+j) kd=Qfe s kd)→Qcm k n i ks=Qec ks ss
 | [],i,ss,_,_=>by rw [Qcm,Qjb]
 | a :: r,i,ss,ha,hs=>by
  obtain ⟨s,h0,hk⟩:=hs 0 (by simp);cases ss with
  | nil=>simp at h0
  | cons s' ss =>
   simp at h0
   subst h0;have hk0:Qgt k n i a.kind=Qfe s' a.kind:=hk a.kind
   rw [Qcm,Qlb,←hk0,ha a (by simp),Qna k n r (i+1) ss (fun x hx=>ha x (by simp [hx])) (fun j hj=>by
    obtain ⟨s,h1,h2⟩:=hs (j+1) (by simp;omega);exact ⟨s,by simpa using h1,fun kd=>by rw [show i+1+j=i+(j+1) from by omega];exact h2 kd⟩)]
theorem Qt9 {l:List Tr} {a:Tr} (h:a∈l):Qal a≤Qao l:=by
 induction l with
 | nil=>simp at h
 | cons x r ih =>
  rw [Qao]
  rcases List.mem_cons.1 h with rfl | h
  ·omega
  ·have:=ih h;omega
theorem Qv6 {l:List Tr} {a:Tr} (h:a∈l):SizeOf.sizeOf a<SizeOf.sizeOf l:=List.sizeOf_lt_of_mem h
theorem Qfq (N:Nat):∀ t:Tr,SizeOf.sizeOf t≤N→Qal t≤1000→Qcv t=Qap t:=by
 induction N with
 | zero=>intro t h;have:=Qgx t;omega
 | succ N ih =>
  intro t hN hs;have hkl:=Qa5 t.kids;have hsz:=Qa0 t;rw [Qhg,Qkm,←Qoo t.kind t.kids.length (by omega)]
  cases hf:(Qb1 (Qae t.kind) t.kids.length).2
  ·rfl
  ·rw [Qna t.kind t.kids.length t.kids 0 _ (fun a ha=>ih a (by
    have h1:=Qv6 ha;cases t with
    | mk k x ls ks =>
     simp at hN
     have:SizeOf.sizeOf (Tr.mk k x ls ks).kids=SizeOf.sizeOf ks:=rfl
     omega) (by have:=Qt9 ha;omega)) (fun j hj=>by rw [Nat.zero_add];exact Qzv t.kind t.kids.length (by omega) hf j hj)]
mutual
theorem Qlh:(t:Tr)→(n:Nat)→Qdm t n=decide (Qed t≤n)
 | t,0=>by
  rw [show Qdm t 0=false from by cases t;rw [Qdm],xR];rw [Qmq];omega
 | .mk k x ls ks,n+1=>by
  rw [Qdm,Qed,Qj7 ks n]
  by_cases h:Qc2 ks≤n
  ·rw [xS h,xS (by omega)]
  ·rw [xR h,xR (by omega)]
theorem Qj7:(l:List Tr)→(n:Nat)→Qe8 l n=decide (Qc2 l≤n)
 | [],n=>by rw [Qe8,Qc2];simp
 | t :: r,n=>by
  rw [Qe8,Qc2,Qlh t n,Qj7 r n]
  by_cases h1:Qed t≤n
  ·by_cases h2:Qc2 r≤n
   ·rw [xS h1,xS h2,xS (p:=max (Qed t) (Qc2 r)≤n) (by omega)];rfl
   ·rw [xS h1,xR h2,xR (p:=max (Qed t) (Qc2 r)≤n) (by omega)];rfl
  ·rw [xR h1,xR (p:=max (Qed t) (Qc2 r)≤n) (by omega),Bool.false_and]
end
def Qlw (k:Int) (n:Nat):Bool:=(k==1 && decide (40<n)) || (k==2 && decide (10<n)) || (k==16 && decide (8<n)) || (k==18 && decide (16<n))
theorem Qzw (k:Int) (n:Nat):Qls (Qae k) (Qb1 (Qae k) n).1 = !Qlw k n:=by
 by_cases h0:k≤0∨23≤k
 ·rw [Qds h0];unfold Qlw;rw [show (k==1)=false from Qcn (by omega),show (k==2)=false from Qcn (by omega),show (k==16)=false from Qcn (by omega),show (k==18)=false from Qcn (by omega)];rfl
 ·rcases Qif h0 with rfl | rfl | rfl | rfl | rfl | rfl | rfl | rfl | rfl | rfl | rfl | rfl | rfl | rfl | rfl | rfl | rfl | rfl | rfl | rfl | rfl | rfl
  ·rw [Qey (o:=0) (by decide) rfl]
   by_cases h:40<n
   ·simp [Qae,Qls,Qbx,Qcj,Qe4,Qgg,Qlw,h];omega
   ·simp [Qae,Qls,Qbx,Qcj,Qe4,Qgg,Qlw,h];omega
  ·rw [Qey (o:=2) (by decide) rfl]
   by_cases h:10<n
   ·simp [Qae,Qls,Qbx,Qcj,Qe4,Qgg,Qkl,Qlw,h];omega
   ·simp [Qae,Qls,Qbx,Qcj,Qe4,Qgg,Qkl,Qlw,h];omega
  ·rfl
  ·rfl
  ·rfl
  ·rfl
  ·rfl
  ·rfl
  ·rfl
  ·rfl
  ·rfl
  ·rfl
  ·rfl
  ·rfl
  ·rfl
  ·rw [Qey (o:=0) (by decide) rfl]
   by_cases h:8<n
   ·simp [Qae,Qls,Qbx,Qcj,Qe4,Qgg,Qlw,h];omega
   ·simp [Qae,Qls,Qbx,Qcj,Qe4,Qgg,Qlw,h];omega
  ·rfl
  ·rw [Qey (o:=0) (by decide) rfl]
   by_cases h:16<n
   ·simp [Qae,Qls,Qbx,Qcj,Qgg,Qlw,h];omega
   ·simp [Qae,Qls,Qbx,Qcj,Qgg,Qlw,h];omega
  ·rfl
  ·rfl
  ·rfl
  ·rfl
theorem Qzx (t:Tr):Qga t=(!Qlw t.kind t.kids.length && Qlt t.kids):=by rw [Ze4,Qzw]
def ldR (ls:List ByteArray) (i:Nat):ByteArray:=(ls[i]?).getD ⟨#[]⟩
theorem Qi3 (cs:List ByteArray):∀ (l:List (List Qbi)) (i:Nat),Qa8 false cs i l=l.flatten
 | [],i=>by rw [Qa8];rfl
 | p :: r,i=>by rw [Qa8,Qi3 cs r (i+1),xN (by simp)];rfl
theorem Qj8 (co:Bool) (cs:List ByteArray) (p:List Qbi):∀ (l:List (List Qbi)) (i:Nat),Qa8 co cs i (l ++ [p])=Qa8 co cs i l ++ ((if 0<i+l.length∧co=true then [(ldR cs (i+l.length-1),⟨#[44]⟩)] else []) ++ p)
 | [],i=>by rw [xU,Qa8,Qa8,Qa8,List.append_nil,xU,xG,Nat.add_zero];rfl
 | a :: r,i=>by rw [xV,Qa8,Qa8,Qj8 co cs p r (i+1),xD,show i+1+r.length=i+(r.length+1) from by omega];simp only [xT]
def Qf4 (ls:List ByteArray) (comma:Nat) (ks:List Tr):List Qbi:=Qa8 true (ls.drop comma) 0 (ks.map Qaf)
theorem Zde (ls:List ByteArray) (comma:Nat):Qf4 ls comma [] = []:=by unfold Qf4;rw [List.map_nil,Qa8]
theorem Zdf (ls:List ByteArray) (c i:Nat):ldR (ls.drop c) i=ldR ls (c+i):=by unfold ldR;rw [List.getElem?_drop]
theorem Qzy (ls:List ByteArray) (comma:Nat) (ks:List Tr) (k:Tr):Qf4 ls comma (ks ++ [k])=Qf4 ls comma ks ++ ((if 0<ks.length then [(ldR ls (comma+ks.length-1),⟨#[44]⟩)] else []) ++ Qaf k):=by
 unfold Qf4;rw [List.map_append,List.map_cons,List.map_nil,Qj8,List.length_map,Nat.zero_add,Zdf]
 by_cases h:0<ks.length
 ·rw [xO ⟨h,rfl⟩,xO h,show comma+(ks.length-1)=comma+ks.length-1 from by omega]
 ·rw [xN (fun e=>h e.1),xN h]
section
variable (x:ByteArray) (ls:List ByteArray)
theorem Zdg (ks:List Tr):Qaf (.mk 1 x ls ks) = [(ldR ls 0,⟨#[109,111,100,117,108,101]⟩),(ldR ls 1,x)] ++ ((ks.map Qaf).flatten ++ [(ldR ls 2,⟨#[]⟩)]):=by
 rw [Qc7]
 show Qbo (Qb1 (Qae 1) ks.length).1 x (ls.drop (Qb9 (Qae 1))) (Qae 1) ls (ks.map Qaf)=_
 rw [Qey (o:=0) (by decide) rfl];have ht:List.take ks.length (ks.map Qaf)=ks.map Qaf:=List.take_of_length_le (by simp);simp [Qae,Qbo,Qbx,Qcj,Qe4,Qgg,Qi3,ldR,ht]
theorem Zdh (ps:List Tr) (a b:Tr):Qaf (.mk 2 x ls (ps ++ [a,b])) = [(ldR ls 0,⟨#[100,101,102]⟩),(ldR ls 1,x),(ldR ls 2,⟨#[40]⟩)] ++ (Qf4 ls 6 ps ++ ([(ldR ls 3,⟨#[41]⟩),(ldR ls 4,⟨#[58]⟩)] ++ (Qaf a ++ ([(ldR ls 5,⟨#[61]⟩)] ++ Qaf b)))):=by
 rw [Qc7]
 show Qbo (Qb1 (Qae 2) (ps ++ [a,b]).length).1 x (ls.drop (Qb9 (Qae 2))) (Qae 2) ls ((ps ++ [a,b]).map Qaf)=_
 rw [Qey (o:=2) (by decide) rfl];have hn:(((ps ++ [a,b]).length:Nat):Int)-2=(ps.length:Int):=by simp
 rw [hn];have h1:List.take ps.length (ps.map Qaf ++ [Qaf a,Qaf b])=ps.map Qaf:=by rw [List.take_append_of_le_length (by simp),List.take_of_length_le (by simp)]
 have h2:List.drop ps.length (ps.map Qaf ++ [Qaf a,Qaf b]) = [Qaf a,Qaf b]:=by rw [List.drop_append_of_le_length (by simp),List.drop_of_length_le (by simp)];rfl
 simp [Qae,Qbo,Qbx,Qcj,Qe4,Qgg,Qkl,Qb9,Qa8,ldR,h1,h2,Qf4]
theorem Zdi (a:Tr):Qaf (.mk 3 x ls [a]) = [(ldR ls 0,⟨#[116,121,112,101]⟩),(ldR ls 1,x),(ldR ls 2,⟨#[61]⟩)] ++ Qaf a:=by
 rw [Qc7]
 show Qbo (Qb1 (Qae 3) 1).1 x (ls.drop (Qb9 (Qae 3))) (Qae 3) ls [Qaf a] = _
 simp [Qae,Qbo,Qbx,Qcj,Qe4,Qkl,Qa8,ldR]
theorem Zdj (a:Tr):Qaf (.mk 4 x ls [a]) = [(ldR ls 0,x),(ldR ls 1,⟨#[58]⟩)] ++ Qaf a:=by
 rw [Qc7]
 show Qbo (Qb1 (Qae 4) 1).1 x (ls.drop (Qb9 (Qae 4))) (Qae 4) ls [Qaf a] = _
 simp [Qae,Qbo,Qbx,Qcj,Qe4,Qkl,Qa8,ldR]
theorem Zdk (a:Tr):Qaf (.mk 8 x ls [a]) = [(ldR ls 0,⟨#[91]⟩)] ++ (Qaf a ++ [(ldR ls 1,⟨#[93]⟩)]):=by
 rw [Qc7]
 show Qbo (Qb1 (Qae 8) 1).1 x (ls.drop (Qb9 (Qae 8))) (Qae 8) ls [Qaf a] = _
 simp [Qae,Qbo,Qbx,Qcj,Qkl,Qa8,ldR]
theorem Qzz (ks:List Tr):Qaf (.mk 16 x ls ks) = [(ldR ls 0,x),(ldR ls 1,⟨#[40]⟩)] ++ (Qf4 ls 3 ks ++ [(ldR ls 2,⟨#[41]⟩)]):=by
 rw [Qc7]
 show Qbo (Qb1 (Qae 16) ks.length).1 x (ls.drop (Qb9 (Qae 16))) (Qae 16) ls (ks.map Qaf)=_
 rw [Qey (o:=0) (by decide) rfl];have ht:List.take ks.length (ks.map Qaf)=ks.map Qaf:=List.take_of_length_le (by simp);simp [Qae,Qbo,Qbx,Qcj,Qe4,Qgg,Qb9,ldR,ht,Qf4]
theorem Qq8 (a:Tr):Qaf (.mk 17 x ls [a])=Qaf a:=by
 rw [Qc7]
 show Qbo (Qb1 (Qae 17) 1).1 x (ls.drop (Qb9 (Qae 17))) (Qae 17) ls [Qaf a] = _
 simp [Qae,Qbo,Qbx,Qkl,Qa8]
theorem Qz0 (ks:List Tr):Qaf (.mk 18 x ls ks) = [(ldR ls 0,⟨#[91]⟩)] ++ (Qf4 ls 2 ks ++ [(ldR ls 1,⟨#[93]⟩)]):=by
 rw [Qc7]
 show Qbo (Qb1 (Qae 18) ks.length).1 x (ls.drop (Qb9 (Qae 18))) (Qae 18) ls (ks.map Qaf)=_
 rw [Qey (o:=0) (by decide) rfl];have ht:List.take ks.length (ks.map Qaf)=ks.map Qaf:=List.take_of_length_le (by simp);simp [Qae,Qbo,Qbx,Qcj,Qgg,Qb9,ldR,ht,Qf4]
theorem Qz1 (a b c:Tr):Qaf (.mk 19 x ls [a,b,c]) = [(ldR ls 0,⟨#[105,102]⟩)] ++ (Qaf a ++ ([(ldR ls 1,⟨#[116,104,101,110]⟩)] ++ (Qaf b ++ ([(ldR ls 2,⟨#[101,108,115,101]⟩)] ++ Qaf c)))):=by
 rw [Qc7]
 show Qbo (Qb1 (Qae 19) 3).1 x (ls.drop (Qb9 (Qae 19))) (Qae 19) ls [Qaf a,Qaf b,Qaf c] = _
 simp [Qae,Qbo,Qbx,Qcj,Qkl,Qa8,ldR]
theorem Qz2 (a b:Tr):Qaf (.mk 20 x ls [a,b]) = [(ldR ls 0,⟨#[108,101,116]⟩),(ldR ls 1,x),(ldR ls 2,⟨#[61]⟩)] ++ (Qaf a ++ ([(ldR ls 3,⟨#[105,110]⟩)] ++ Qaf b)):=by
 rw [Qc7]
 show Qbo (Qb1 (Qae 20) 2).1 x (ls.drop (Qb9 (Qae 20))) (Qae 20) ls [Qaf a,Qaf b] = _
 simp [Qae,Qbo,Qbx,Qcj,Qe4,Qkl,Qa8,ldR]
theorem Qz3 (a b:Tr):Qaf (.mk 21 x ls [a,b])=Qaf a ++ ([(ldR ls 0,x)] ++ Qaf b):=by
 rw [Qc7]
 show Qbo (Qb1 (Qae 21) 2).1 x (ls.drop (Qb9 (Qae 21))) (Qae 21) ls [Qaf a,Qaf b] = _
 simp [Qae,Qbo,Qbx,Qe4,Qkl,Qa8,ldR]
theorem Qz4 (a:Tr):Qaf (.mk 22 x ls [a]) = [(ldR ls 0,⟨#[40]⟩)] ++ (Qaf a ++ [(ldR ls 1,⟨#[41]⟩)]):=by
 rw [Qc7]
 show Qbo (Qb1 (Qae 22) 1).1 x (ls.drop (Qb9 (Qae 22))) (Qae 22) ls [Qaf a] = _
 simp [Qae,Qbo,Qbx,Qcj,Qkl,Qa8,ldR]
def Zhb (k:Int):Option ByteArray :=
 if k=5 then some ⟨#[73,110,116]⟩ else if k=6 then some ⟨#[84,101,120,116]⟩ else if k=7 then some ⟨#[66,111,111,108]⟩
 else if k=13 then some ⟨#[116,114,117,101]⟩ else if k=14 then some ⟨#[102,97,108,115,101]⟩ else if k=15 then some ⟨#[63]⟩ else none
theorem Qfr (k:Int) (y:ByteArray) (h:Zhb k=some y):Qaf (.mk k x ls []) = [(ldR ls 0,y)]:=by
 have:k=5∨k=6∨k=7∨k=13∨k=14∨k=15:=by
  unfold Zhb at h
  repeat' split at h
  all_goals first | omega | simp at h
 rcases this with rfl | rfl | rfl | rfl | rfl | rfl <;> (cases h;rw [Qc7];simp [Tr.kind,Tr.text,Tr.leads,Tr.kids,Qae,Qbo,Qcj,ldR])
theorem Qhy (k:Int) (h:k=9∨k=10∨k=11∨k=12):Qaf (.mk k x ls []) = [(ldR ls 0,x)]:=by
 rcases h with rfl | rfl | rfl | rfl <;> (rw [Qc7];simp [Tr.kind,Tr.text,Tr.leads,Tr.kids,Qae,Qbo,Qe4,ldR])
end
end Go.Proofs.YtjidpkcjpgdafaaGreat
