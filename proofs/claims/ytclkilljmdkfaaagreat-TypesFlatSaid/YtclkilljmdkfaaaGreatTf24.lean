/- Part 24 -/
import Derived.Test.YtclkilljmdkfaaaGreatTf22
import Derived.Test.YtclkilljmdkfaaaGreatTf23
set_option maxRecDepth 100000
set_option maxHeartbeats 4000000
namespace Go.Proofs.YtclkilljmdkfaaaGreat
open Go.RowKit
mutual
theorem depth_le_size:(t:Tr)→Qfb t ≤ Qah t
 | .mk _ _ _ ks=>by rw [Qfb,Qah];have:=depthL_le_size ks;omega
theorem depthL_le_size:(l:List Tr)→Qd0 l ≤ Qam l
 | []=>by rw [Qd0];omega
 | t :: r=>by rw [Qd0,Qam];have:=depth_le_size t;have:=depthL_le_size r;omega
end
theorem Qjr (N:Nat):∀ (S:Nat→Prop) (t:Tr) (v:TV) (w:World),SizeOf.sizeOf t≤N→TrAt S w t v→Qah t≤140737488355328 →
  Calls Tryz.prog 100 #[.agg #[.int .i64 v.kind,.string v.text,.slice v.la v.ll v.lc,.slice v.ka v.kl v.kc]] w fun e w'=>e = .returned (.int .i64 (Qfb t:Nat))∧Below w.heap.size w w':=by
 induction N with
 | zero=>intro S t v w h;have:=Qgu t;omega
 | succ N ih =>
  intro S t v w hN h hz
  have HIH:=hQ ih
  have HB0:=hQ ((xC w.heap.size w).alloc (xA _) (trO v))
  have HT:=hQ (h.keep HB0.out)
  have HX:=hQ (xH w (trO v))
  have HZ:=hQ hz
  have HN:=hQ hN
  have hkl:=h.kl.1
  obtain ⟨vk,vx,vla,vll,vlc,vka,vkl,vkc⟩:=v
  simp only at hkl
  subst hkl
  have hmax:t.kids.length≤140737488355328:=by have:=Qa0 t.kids;rw [Qa3] at hz;omega
  have HMX:=hQ hmax
  clear ih h hz hN
  have k3:(w.alloc (trO ⟨vk,vx,vla,vll,vlc,vka,t.kids.length,vkc⟩)).cell? ⟨w.heap.size,3,none⟩=some (.slice vka t.kids.length vkc):=Qab HX.out 3 _ rfl
  go_enter Tryz.func100,Tryz.ntmps100
  go_wp2
  clear k3
  go_loopw [3,4] (fun n i wr=>Zil (fun l=>Qd0 l) t (w.alloc (trO ⟨vk,vx,vla,vll,vlc,vka,t.kids.length,vkc⟩)) n i wr) (fun _ i _=>t.kids.length-(intOf i).toNat)
  case atStart=>exact ⟨0,rfl,xZ _,rfl,xC _ _⟩
  case round =>
   obtain ⟨j,rfl,hj,rfl,hb⟩:=hrel
   have HBR:=hQ hb
   have hx:=(hb.block w.heap.size (Qaa HX.out)).trans HX.out
   have k3:wr.cell? ⟨w.heap.size,3,none⟩=some (.slice vka t.kids.length vkc):=Qab hx 3 _ rfl
   clear hb hx
   by_cases hlt:j<t.kids.length
   ·obtain ⟨k,hk⟩:∃ k,t.kids[j]? = some k:=⟨_,xF hlt⟩
    obtain ⟨b,off,hka⟩:∃ b off,vka=some ⟨b,off,none⟩:=HT.out.addr.resolve_left (by omega)
    subst hka
    obtain ⟨u,c0,c1,c2,c3,hu⟩:=(HT.out.keep HBR.out).at rfl hk
    have HU:=hQ hu
    have HS1:=hQ (Qe3 hk)
    have HD1:=hQ (Qtm hk)
    have hs:=Qfc t.kids (j+1)
    have hs0:=Qe3 hk
    have hds:=depthL_le_size (t.kids.take j)
    have hdk:=depth_le_size k
    have HSK:=hQ (xQ (Qbb hk) HZ.out)
    have HNK:=hQ (show SizeOf.sizeOf k≤N from by have:=Qas hk;have:=HN.out;omega)
    have hz:=HZ.out
    rw [Qa3] at hz
    have q1:((Qam (t.kids.take j):Nat):Int)+(Qah k:Nat)+1≤140737488355328:=by omega
    have q2:((Qd0 (t.kids.take j):Nat):Int)≤140737488355328:=by omega
    have q3:((Qfb k:Nat):Int)+1≤140737488355329:=by omega
    have hj0:(0:Int)≤(j:Int):=by omega
    have hj1:(j:Int)<(t.kids.length:Int):=by omega
    have hj2:(j:Int)+1≤140737488355328:=by omega
    clear hk hu hs hs0 hds hdk hz
    go_wp2_with (go_at_call 100;refine (HIH.out S k u _ HNK.out (HU.out.keep (xC _ _)) HSK.out).mono ?_;rintro e w2 ⟨rfl,hb2⟩;have HB2:=hQ (HBR.out.trans (hb2.mono HBR.out.size));clear hb2)
    go_roundw
    case rel=>exact ⟨j+1,by go_num,by omega,by show _=Value.int .i64 ((Qd0 (t.kids.take (j+1)):Nat):Int);rw [HD1.out];go_num,HB2.out⟩
    case measure=>simp [intOf];omega
   ·have hjn:j=t.kids.length:=by omega
    subst hjn
    have HR:=hQ (show Qfb t=Qd0 (t.kids.take t.kids.length)+1 from by rw [Qmt,List.take_length])
    have hz:=HZ.out
    have h1:=depth_le_size t
    have h2:=HR.out
    go_wp2
    go_ret
    exact ⟨Qcf (by have h3:=Qmt t;unfold wrap64;omega),HB0.out.trans (HBR.out.mono (by simp))⟩
def Qk8 (k:Int):Bool:=decide (10≤k) && decide (k≤22) && (k != 17)
def Qjs (k:Int):Bool:=Qk8 k && (k != 19) && (k != 20) && (k != 21)
theorem Qhk (k:Int):Qk8 k=Qe7 5 k:=by
 unfold Qk8 Qe7
 by_cases h17:k=17
 ·subst h17;rfl
 ·by_cases h19:k=19
  ·subst h19;rfl
  ·by_cases h20:k=20
   ·subst h20;rfl
   ·by_cases h21:k=21
    ·subst h21;rfl
    ·simp [h17,h19,h20,h21]
theorem Za8 (k:Int):Qjs k=Qe7 7 k:=by
 unfold Qjs Qk8 Qe7
 by_cases h17:k=17
 ·subst h17;rfl
 ·by_cases h19:k=19
  ·subst h19;rfl
  ·by_cases h20:k=20
   ·subst h20;rfl
   ·by_cases h21:k=21
    ·subst h21;rfl
    ·have b17:(k != 17)=true:=bne_iff_ne.2 h17
     have b19:(k != 19)=true:=bne_iff_ne.2 h19
     have b20:(k != 20)=true:=bne_iff_ne.2 h20
     have b21:(k != 21)=true:=bne_iff_ne.2 h21
     have c21:(k==21)=false:=Qck h21
     rw [xN (by decide),xN (by decide),xN (by decide),xN (by decide),xN h17,xN (fun h=>by omega),xN h21]
     simp only [b17,b19,b20,b21,Bool.and_true]
theorem Qxj (k:Int):(Qjs k || k==21)=Qe7 6 k:=by
 unfold Qjs Qk8 Qe7
 by_cases h17:k=17
 ·subst h17;rfl
 ·by_cases h19:k=19
  ·subst h19;rfl
  ·by_cases h20:k=20
   ·subst h20;rfl
   ·by_cases h21:k=21
    ·subst h21;rfl
    ·have b17:(k != 17)=true:=bne_iff_ne.2 h17
     have b19:(k != 19)=true:=bne_iff_ne.2 h19
     have b20:(k != 20)=true:=bne_iff_ne.2 h20
     have b21:(k != 21)=true:=bne_iff_ne.2 h21
     have c21:(k==21)=false:=Qck h21
     rw [xN (by decide),xN (by decide),xN (by decide),xN (by decide),xN h17,xN (fun h=>by omega),xN h21]
     simp only [b17,b19,b20,b21,Bool.and_true,c21,Bool.or_false]
theorem Qc0 (k:Int) (w:World):Calls Tryz.prog 49 #[.int .i64 k] w fun e w'=>e = .returned (.bool (Qe7 3 k))∧w=w':=by
 go_enter Tryz.func49,Tryz.ntmps49
 go_wp2
 all_goals
  go_ret
  exact ⟨Qai (by simp_all [Qe7];try omega),rfl⟩
theorem Qch (k:Int) (w:World):Calls Tryz.prog 131 #[.int .i64 k] w fun e w'=>e = .returned (.bool (Qk8 k))∧w=w':=by
 go_enter Tryz.func131,Tryz.ntmps131
 go_wp2
 all_goals
  go_ret
  exact ⟨Qai (by simp_all [Qk8];try omega),rfl⟩
theorem Qcv (k:Int) (w:World):Calls Tryz.prog 132 #[.int .i64 k] w fun e w'=>e = .returned (.bool (Qjs k))∧w=w':=by
 have HR:=hQ (show Qjs k=(Qk8 k && (k != 19) && (k != 20) && (k != 21)) from rfl)
 cases hx:Qk8 k
 ·go_enter Tryz.func132,Tryz.ntmps132
  go_wp2_with (go_at_call 131;refine (Qch _ _).mono ?_;rw [hx];rintro e w' ⟨rfl,rfl⟩)
  go_ret
  exact ⟨Qai (by rw [HR.out,hx];rfl),rfl⟩
 ·go_enter Tryz.func132,Tryz.ntmps132
  go_wp2_with (go_at_call 131;refine (Qch _ _).mono ?_;rw [hx];rintro e w' ⟨rfl,rfl⟩)
  all_goals
   go_ret
   exact ⟨Qai (by rw [HR.out,hx];simp_all),rfl⟩
theorem Ziy (s:ByteArray) (w:World) (h0:(s.toList == [43])=true):Calls Tryz.prog 130 #[.string s] w fun e w'=>e = .returned (.bool (opB s))∧w=w':=by
 have HR:=hQ (show opB s=true from by unfold opB;simp only [←Qbc,h0];rfl)
 go_enter Tryz.func130,Tryz.ntmps130
 go_wp2
 go_ret
 exact ⟨by rw [HR.out];rfl,rfl⟩
theorem Ziz (s:ByteArray) (w:World) (h0:(s.toList == [43])=false) (h1:(s.toList == [45])=true):Calls Tryz.prog 130 #[.string s] w fun e w'=>e = .returned (.bool (opB s))∧w=w':=by
 have HR:=hQ (show opB s=true from by unfold opB;simp only [←Qbc,h0,h1];rfl)
 go_enter Tryz.func130,Tryz.ntmps130
 go_wp2
 go_ret
 exact ⟨by rw [HR.out];rfl,rfl⟩
theorem Zi0 (s:ByteArray) (w:World) (h0:(s.toList == [43])=false) (h1:(s.toList == [45])=false) (h2:(s.toList == [42])=true):Calls Tryz.prog 130 #[.string s] w fun e w'=>e = .returned (.bool (opB s))∧w=w':=by
 have HR:=hQ (show opB s=true from by unfold opB;simp only [←Qbc,h0,h1,h2];rfl)
 go_enter Tryz.func130,Tryz.ntmps130
 go_wp2
 go_ret
 exact ⟨by rw [HR.out];rfl,rfl⟩
theorem Zi1 (s:ByteArray) (w:World) (h0:(s.toList == [43])=false) (h1:(s.toList == [45])=false) (h2:(s.toList == [42])=false) (h3:(s.toList == [60])=true):Calls Tryz.prog 130 #[.string s] w fun e w'=>e = .returned (.bool (opB s))∧w=w':=by
 have HR:=hQ (show opB s=true from by unfold opB;simp only [←Qbc,h0,h1,h2,h3];rfl)
 go_enter Tryz.func130,Tryz.ntmps130
 go_wp2
 go_ret
 exact ⟨by rw [HR.out];rfl,rfl⟩
theorem Zi2 (s:ByteArray) (w:World) (h0:(s.toList == [43])=false) (h1:(s.toList == [45])=false) (h2:(s.toList == [42])=false) (h3:(s.toList == [60])=false) (h4:(s.toList == [61,61])=true):Calls Tryz.prog 130 #[.string s] w fun e w'=>e = .returned (.bool (opB s))∧w=w':=by
 have HR:=hQ (show opB s=true from by unfold opB;simp only [←Qbc,h0,h1,h2,h3,h4];rfl)
 go_enter Tryz.func130,Tryz.ntmps130
 go_wp2
 go_ret
 exact ⟨by rw [HR.out];rfl,rfl⟩
theorem Zi3 (s:ByteArray) (w:World) (h0:(s.toList == [43])=false) (h1:(s.toList == [45])=false) (h2:(s.toList == [42])=false) (h3:(s.toList == [60])=false) (h4:(s.toList == [61,61])=false):Calls Tryz.prog 130 #[.string s] w fun e w'=>e = .returned (.bool (opB s))∧w=w':=by
 have HR:=hQ (show opB s=false from by unfold opB;simp only [←Qbc,h0,h1,h2,h3,h4];rfl)
 go_enter Tryz.func130,Tryz.ntmps130
 go_wp2
 go_ret
 exact ⟨by rw [HR.out];rfl,rfl⟩
theorem Za9 (s:ByteArray) (w:World):Calls Tryz.prog 130 #[.string s] w fun e w'=>e = .returned (.bool (opB s))∧w=w':=by
 cases h0:(s.toList == [43])
 case true=>exact Ziy s w h0
 cases h1:(s.toList == [45])
 case true=>exact Ziz s w h0 h1
 cases h2:(s.toList == [42])
 case true=>exact Zi0 s w h0 h1 h2
 cases h3:(s.toList == [60])
 case true=>exact Zi1 s w h0 h1 h2 h3
 cases h4:(s.toList == [61,61])
 case true=>exact Zi2 s w h0 h1 h2 h3 h4
 exact Zi3 s w h0 h1 h2 h3 h4
theorem Qty (s:ByteArray) (w:World) (hs:s.size<maxLen):Calls Tryz.prog 87 #[.int .i64 1,.string s] w fun e w'=>e = .returned (.bool (Qa6 (Qae 1) s))∧Below w.heap.size w w':=by
 have HS:=hQ hs
 have HR:=hQ (show Qa6 (Qae 1) s=Qbq 1 (Qap (suf s 0):Nat) s from rfl)
 clear hs
 go_enter Tryz.func87,Tryz.ntmps87
 go_wp2_with (first | (go_at_call 129;refine (Qa1 s _ HS.out).mono ?_;rintro e w1 ⟨rfl,hb1⟩;have HB1:=hQ hb1;clear hb1))
 all_goals
  go_ret
  exact ⟨Qai (by first | exact HR.out.symm | (rw [HR.out];simp_all [Qbq];done) | (rw [HR.out];simp [Qbq];omega)),HB1.out⟩
theorem Qtz (s:ByteArray) (w:World) (hs:s.size<maxLen):Calls Tryz.prog 87 #[.int .i64 2,.string s] w fun e w'=>e = .returned (.bool (Qa6 (Qae 2) s))∧Below w.heap.size w w':=by
 have HS:=hQ hs
 have HR:=hQ (show Qa6 (Qae 2) s=Qbq 2 (Qap (suf s 0):Nat) s from rfl)
 clear hs
 go_enter Tryz.func87,Tryz.ntmps87
 go_wp2_with (first | (go_at_call 129;refine (Qa1 s _ HS.out).mono ?_;rintro e w1 ⟨rfl,hb1⟩;have HB1:=hQ hb1;clear hb1))
 all_goals
  go_ret
  exact ⟨Qai (by first | exact HR.out.symm | (rw [HR.out];simp_all [Qbq];done) | (rw [HR.out];simp [Qbq];omega)),HB1.out⟩
theorem Qt0 (s:ByteArray) (w:World) (hs:s.size<maxLen):Calls Tryz.prog 87 #[.int .i64 3,.string s] w fun e w'=>e = .returned (.bool (Qa6 (Qae 3) s))∧Below w.heap.size w w':=by
 have HS:=hQ hs
 have HR:=hQ (show Qa6 (Qae 3) s=Qbq 1 (Qap (suf s 0):Nat) s from rfl)
 clear hs
 go_enter Tryz.func87,Tryz.ntmps87
 go_wp2_with (first | (go_at_call 129;refine (Qa1 s _ HS.out).mono ?_;rintro e w1 ⟨rfl,hb1⟩;have HB1:=hQ hb1;clear hb1))
 all_goals
  go_ret
  exact ⟨Qai (by first | exact HR.out.symm | (rw [HR.out];simp_all [Qbq];done) | (rw [HR.out];simp [Qbq];omega)),HB1.out⟩
theorem Qt1 (s:ByteArray) (w:World) (hs:s.size<maxLen):Calls Tryz.prog 87 #[.int .i64 4,.string s] w fun e w'=>e = .returned (.bool (Qa6 (Qae 4) s))∧Below w.heap.size w w':=by
 have HS:=hQ hs
 have HR:=hQ (show Qa6 (Qae 4) s=Qbq 2 (Qap (suf s 0):Nat) s from rfl)
 clear hs
 go_enter Tryz.func87,Tryz.ntmps87
 go_wp2_with (first | (go_at_call 129;refine (Qa1 s _ HS.out).mono ?_;rintro e w1 ⟨rfl,hb1⟩;have HB1:=hQ hb1;clear hb1))
 all_goals
  go_ret
  exact ⟨Qai (by first | exact HR.out.symm | (rw [HR.out];simp_all [Qbq];done) | (rw [HR.out];simp [Qbq];omega)),HB1.out⟩
theorem Qt2 (s:ByteArray) (w:World) (hs:s.size<maxLen):Calls Tryz.prog 87 #[.int .i64 9,.string s] w fun e w'=>e = .returned (.bool (Qa6 (Qae 9) s))∧Below w.heap.size w w':=by
 have HS:=hQ hs
 have HR:=hQ (show Qa6 (Qae 9) s=Qbq 3 (Qap (suf s 0):Nat) s from rfl)
 clear hs
 go_enter Tryz.func87,Tryz.ntmps87
 go_wp2_with (first | (go_at_call 129;refine (Qa1 s _ HS.out).mono ?_;rintro e w1 ⟨rfl,hb1⟩;have HB1:=hQ hb1;clear hb1))
 all_goals
  go_ret
  exact ⟨Qai (by first | exact HR.out.symm | (rw [HR.out];simp_all [Qbq];done) | (rw [HR.out];simp [Qbq];omega)),HB1.out⟩
theorem Qrn (s:ByteArray) (w:World) (hs:s.size<maxLen):Calls Tryz.prog 87 #[.int .i64 10,.string s] w fun e w'=>e = .returned (.bool (Qa6 (Qae 10) s))∧Below w.heap.size w w':=by
 have HS:=hQ hs
 have HR:=hQ (show Qa6 (Qae 10) s=Qbq 5 (Qap (suf s 0):Nat) s from rfl)
 clear hs
 go_enter Tryz.func87,Tryz.ntmps87
 go_wp2_with (first | (go_at_call 129;refine (Qa1 s _ HS.out).mono ?_;rintro e w1 ⟨rfl,hb1⟩;have HB1:=hQ hb1;clear hb1))
 all_goals
  go_ret
  exact ⟨Qai (by first | exact HR.out.symm | (rw [HR.out];simp_all [Qbq];done) | (rw [HR.out];simp [Qbq];omega)),HB1.out⟩
theorem Qro (s:ByteArray) (w:World) (hs:s.size<maxLen):Calls Tryz.prog 87 #[.int .i64 11,.string s] w fun e w'=>e = .returned (.bool (Qa6 (Qae 11) s))∧Below w.heap.size w w':=by
 have HS:=hQ hs
 have HR:=hQ (show Qa6 (Qae 11) s=Qbq 6 (Qap (suf s 0):Nat) s from rfl)
 clear hs
 go_enter Tryz.func87,Tryz.ntmps87
 go_wp2_with (first | (go_at_call 129;refine (Qa1 s _ HS.out).mono ?_;rintro e w1 ⟨rfl,hb1⟩;have HB1:=hQ hb1;clear hb1))
 all_goals
  go_ret
  exact ⟨Qai (by first | exact HR.out.symm | (rw [HR.out];simp_all [Qbq];done) | (rw [HR.out];simp [Qbq];omega)),HB1.out⟩
theorem Qrp (s:ByteArray) (w:World) (hs:s.size<maxLen):Calls Tryz.prog 87 #[.int .i64 12,.string s] w fun e w'=>e = .returned (.bool (Qa6 (Qae 12) s))∧Below w.heap.size w w':=by
 have HS:=hQ hs
 have HR:=hQ (show Qa6 (Qae 12) s=Qbq 2 (Qap (suf s 0):Nat) s from rfl)
 clear hs
 go_enter Tryz.func87,Tryz.ntmps87
 go_wp2_with (first | (go_at_call 129;refine (Qa1 s _ HS.out).mono ?_;rintro e w1 ⟨rfl,hb1⟩;have HB1:=hQ hb1;clear hb1))
 all_goals
  go_ret
  exact ⟨Qai (by first | exact HR.out.symm | (rw [HR.out];simp_all [Qbq];done) | (rw [HR.out];simp [Qbq];omega)),HB1.out⟩
theorem Qrq (s:ByteArray) (w:World) (hs:s.size<maxLen):Calls Tryz.prog 87 #[.int .i64 16,.string s] w fun e w'=>e = .returned (.bool (Qa6 (Qae 16) s))∧Below w.heap.size w w':=by
 have HS:=hQ hs
 have HR:=hQ (show Qa6 (Qae 16) s=Qbq 4 (Qap (suf s 0):Nat) s from rfl)
 clear hs
 go_enter Tryz.func87,Tryz.ntmps87
 go_wp2_with (first | (go_at_call 129;refine (Qa1 s _ HS.out).mono ?_;rintro e w1 ⟨rfl,hb1⟩;have HB1:=hQ hb1;clear hb1))
 all_goals
  go_ret
  exact ⟨Qai (by first | exact HR.out.symm | (rw [HR.out];simp_all [Qbq];done) | (rw [HR.out];simp [Qbq];omega)),HB1.out⟩
theorem Qrr (s:ByteArray) (w:World) (hs:s.size<maxLen):Calls Tryz.prog 87 #[.int .i64 20,.string s] w fun e w'=>e = .returned (.bool (Qa6 (Qae 20) s))∧Below w.heap.size w w':=by
 have HS:=hQ hs
 have HR:=hQ (show Qa6 (Qae 20) s=Qbq 2 (Qap (suf s 0):Nat) s from rfl)
 clear hs
 go_enter Tryz.func87,Tryz.ntmps87
 go_wp2_with (first | (go_at_call 129;refine (Qa1 s _ HS.out).mono ?_;rintro e w1 ⟨rfl,hb1⟩;have HB1:=hQ hb1;clear hb1))
 all_goals
  go_ret
  exact ⟨Qai (by first | exact HR.out.symm | (rw [HR.out];simp_all [Qbq];done) | (rw [HR.out];simp [Qbq];omega)),HB1.out⟩
theorem Qrs (s:ByteArray) (w:World) (hs:s.size<maxLen):Calls Tryz.prog 87 #[.int .i64 21,.string s] w fun e w'=>e = .returned (.bool (Qa6 (Qae 21) s))∧Below w.heap.size w w':=by
 have HS:=hQ hs
 have HR:=hQ (show Qa6 (Qae 21) s=Qbq 7 (Qap (suf s 0):Nat) s from rfl)
 clear hs
 go_enter Tryz.func87,Tryz.ntmps87
 go_wp2_with (first | (go_at_call 129;refine (Qa1 s _ HS.out).mono ?_;rintro e w1 ⟨rfl,hb1⟩;have HB1:=hQ hb1;clear hb1) | (go_at_call 130;refine (Za9 s _).mono ?_;rintro e w2 ⟨rfl,rfl⟩))
 all_goals
  go_ret
  exact ⟨Qai (by first | exact HR.out.symm | (rw [HR.out];simp_all [Qbq];done) | (rw [HR.out];simp [Qbq];omega)),HB1.out⟩
theorem Zkm (s:ByteArray):is s [] = s.toList.isEmpty:=by
 rw [←Qbc]
 cases s.toList <;> rfl
theorem Qt3 (k:Int) (s:ByteArray) (h:k≠1∧k≠2∧k≠3∧k≠4∧k≠9∧k≠10∧k≠11∧k≠12∧k≠16∧k≠20∧k≠21):Qa6 (Qae k) s=is s []:=by
 by_cases h0:k≤0∨23≤k
 ·rw [Qdy h0];rfl
 ·rcases (show k=5∨k=6∨k=7∨k=8∨k=13∨k=14∨k=15∨k=17∨k=18∨k=19∨k=22 from by omega) with rfl | rfl | rfl | rfl | rfl | rfl | rfl | rfl | rfl | rfl | rfl <;> rfl
theorem Qm3 (k:Int) (s:ByteArray) (w:World) (hs:s.size<maxLen) (h:k≠1∧k≠2∧k≠3∧k≠4∧k≠9∧k≠10∧k≠11∧k≠12∧k≠16∧k≠20∧k≠21):Calls Tryz.prog 87 #[.int .i64 k,.string s] w fun e w'=>e = .returned (.bool (Qa6 (Qae k) s))∧Below w.heap.size w w':=by
 have HS:=hQ hs
 have HR:=hQ ((Qt3 k s h).trans (Zkm s))
 have e1:=Qck (show k≠1 from by omega)
 have e2:=Qck (show k≠2 from by omega)
 have e3:=Qck (show k≠3 from by omega)
 have e4:=Qck (show k≠4 from by omega)
 have e9:=Qck (show k≠9 from by omega)
 have e10:=Qck (show k≠10 from by omega)
 have e11:=Qck (show k≠11 from by omega)
 have e12:=Qck (show k≠12 from by omega)
 have e16:=Qck (show k≠16 from by omega)
 have e20:=Qck (show k≠20 from by omega)
 have e21:=Qck (show k≠21 from by omega)
 clear hs h
 go_enter Tryz.func87,Tryz.ntmps87
 go_wp2_with (go_at_call 129;refine (Qa1 s _ HS.out).mono ?_;rintro e w1 ⟨rfl,hb1⟩;have HB1:=hQ hb1;clear hb1)
 go_ret
 exact ⟨Qai (by first | exact HR.out.symm | (rw [HR.out];simp;done)),HB1.out⟩
theorem Qkl (k:Int) (s:ByteArray) (w:World) (hs:s.size<maxLen):Calls Tryz.prog 87 #[.int .i64 k,.string s] w fun e w'=>e = .returned (.bool (Qa6 (Qae k) s))∧Below w.heap.size w w':=by
 by_cases h:k≠1∧k≠2∧k≠3∧k≠4∧k≠9∧k≠10∧k≠11∧k≠12∧k≠16∧k≠20∧k≠21
 ·exact Qm3 k s w hs h
 ·rcases (show k=1∨k=2∨k=3∨k=4∨k=9∨k=10∨k=11∨k=12∨k=16∨k=20∨k=21 from by omega) with rfl | rfl | rfl | rfl | rfl | rfl | rfl | rfl | rfl | rfl | rfl
  ·exact Qty s w hs
  ·exact Qtz s w hs
  ·exact Qt0 s w hs
  ·exact Qt1 s w hs
  ·exact Qt2 s w hs
  ·exact Qrn s w hs
  ·exact Qro s w hs
  ·exact Qrp s w hs
  ·exact Qrq s w hs
  ·exact Qrr s w hs
  ·exact Qrs s w hs
def Qgq (tk:Int) (n i:Nat) (k:Int):Bool :=
 if tk=1 then k==2 || k==3
 else if tk=2 then (if i+1=n then Qk8 k else if i+2=n then Qe7 3 k else k==4)
 else if tk=3∨tk=4∨tk=8 then Qe7 3 k
 else if tk=16 then k==17
 else if tk=21 then (Qjs k || (decide (i=0) && k==21))
 else Qk8 k
theorem Zkn (vx:ByteArray) (vla:Option Addr) (vll vlc:Nat) (vka:Option Addr) (vkl vkc i:Nat) (k:Int) (w:World) (_hi:i<1000) (_hn:vkl≤1000):Calls Tryz.prog 88 #[.agg #[.int .i64 1,.string vx,.slice vla vll vlc,.slice vka vkl vkc],.int .i64 i,.int .i64 k] w fun e w'=>e = .returned (.bool (Qgq 1 vkl i k))∧Below w.heap.size w w':=by
 have HX:=hQ (xH w (.cells #[.int .i64 1,.string vx,.slice vla vll vlc,.slice vka vkl vkc] 25))
 have HB0:=hQ ((xC w.heap.size w).alloc (xA _) (.cells #[.int .i64 1,.string vx,.slice vla vll vlc,.slice vka vkl vkc] 25))
 have k0:(w.alloc (.cells #[.int .i64 1,.string vx,.slice vla vll vlc,.slice vka vkl vkc] 25)).cell? ⟨w.heap.size,0,none⟩=some (.int .i64 1):=Qab HX.out 0 _ rfl
 have k3:(w.alloc (.cells #[.int .i64 1,.string vx,.slice vla vll vlc,.slice vka vkl vkc] 25)).cell? ⟨w.heap.size,3,none⟩=some (.slice vka vkl vkc):=Qab HX.out 3 _ rfl
 have HR:=hQ (show Qgq 1 vkl i k=(k==2 || k==3) from rfl)
 go_enter Tryz.func88,Tryz.ntmps88
 go_wp2_with (first | (go_at_call 131;refine (Qch _ _).mono ?_;rintro e w1 ⟨rfl,rfl⟩) | (go_at_call 49;refine (Qc0 _ _).mono ?_;rintro e w1 ⟨rfl,rfl⟩) | (go_at_call 132;refine (Qcv _ _).mono ?_;rintro e w1 ⟨rfl,rfl⟩))
 all_goals
  go_ret
  exact ⟨Qai (by first | exact HR.out.symm | (rw [HR.out];done) | (rw [HR.out];simp_all;done)),HB0.out⟩
theorem Zi4 (vx:ByteArray) (vla:Option Addr) (vll vlc:Nat) (vka:Option Addr) (vkl vkc i:Nat) (k:Int) (w:World) (_hi:i<1000) (_hn:vkl≤1000) (h:i+1=vkl):Calls Tryz.prog 88 #[.agg #[.int .i64 2,.string vx,.slice vla vll vlc,.slice vka vkl vkc],.int .i64 i,.int .i64 k] w fun e w'=>e = .returned (.bool (Qgq 2 vkl i k))∧Below w.heap.size w w':=by
 have HX:=hQ (xH w (.cells #[.int .i64 2,.string vx,.slice vla vll vlc,.slice vka vkl vkc] 25))
 have HB0:=hQ ((xC w.heap.size w).alloc (xA _) (.cells #[.int .i64 2,.string vx,.slice vla vll vlc,.slice vka vkl vkc] 25))
 have k0:(w.alloc (.cells #[.int .i64 2,.string vx,.slice vla vll vlc,.slice vka vkl vkc] 25)).cell? ⟨w.heap.size,0,none⟩=some (.int .i64 2):=Qab HX.out 0 _ rfl
 have k3:(w.alloc (.cells #[.int .i64 2,.string vx,.slice vla vll vlc,.slice vka vkl vkc] 25)).cell? ⟨w.heap.size,3,none⟩=some (.slice vka vkl vkc):=Qab HX.out 3 _ rfl
 have HR:=hQ (show Qgq 2 vkl i k=Qk8 k from by unfold Qgq;rw [xN (by decide),xO rfl,xO h])
 have d1:((i:Int)==(vkl:Int)-1)=true:=beq_iff_eq.2 (by omega)
 clear h
 go_enter Tryz.func88,Tryz.ntmps88
 go_wp2_with (first | (go_at_call 131;refine (Qch _ _).mono ?_;rintro e w1 ⟨rfl,rfl⟩) | (go_at_call 49;refine (Qc0 _ _).mono ?_;rintro e w1 ⟨rfl,rfl⟩) | (go_at_call 132;refine (Qcv _ _).mono ?_;rintro e w1 ⟨rfl,rfl⟩))
 all_goals
  go_ret
  exact ⟨Qai (by first | exact HR.out.symm | (rw [HR.out];done) | (rw [HR.out];simp_all;done)),HB0.out⟩
theorem Zi5 (vx:ByteArray) (vla:Option Addr) (vll vlc:Nat) (vka:Option Addr) (vkl vkc i:Nat) (k:Int) (w:World) (_hi:i<1000) (_hn:vkl≤1000) (h1:i+1≠vkl) (h:i+2=vkl):Calls Tryz.prog 88 #[.agg #[.int .i64 2,.string vx,.slice vla vll vlc,.slice vka vkl vkc],.int .i64 i,.int .i64 k] w fun e w'=>e = .returned (.bool (Qgq 2 vkl i k))∧Below w.heap.size w w':=by
 have HX:=hQ (xH w (.cells #[.int .i64 2,.string vx,.slice vla vll vlc,.slice vka vkl vkc] 25))
 have HB0:=hQ ((xC w.heap.size w).alloc (xA _) (.cells #[.int .i64 2,.string vx,.slice vla vll vlc,.slice vka vkl vkc] 25))
 have k0:(w.alloc (.cells #[.int .i64 2,.string vx,.slice vla vll vlc,.slice vka vkl vkc] 25)).cell? ⟨w.heap.size,0,none⟩=some (.int .i64 2):=Qab HX.out 0 _ rfl
 have k3:(w.alloc (.cells #[.int .i64 2,.string vx,.slice vla vll vlc,.slice vka vkl vkc] 25)).cell? ⟨w.heap.size,3,none⟩=some (.slice vka vkl vkc):=Qab HX.out 3 _ rfl
 have HR:=hQ (show Qgq 2 vkl i k=Qe7 3 k from by unfold Qgq;rw [xN (by decide),xO rfl,xN h1,xO h])
 have d1:((i:Int)==(vkl:Int)-1)=false:=beq_eq_false_iff_ne.2 (by omega)
 have d2:((i:Int)==(vkl:Int)-2)=true:=beq_iff_eq.2 (by omega)
 clear h h1
 go_enter Tryz.func88,Tryz.ntmps88
 go_wp2_with (first | (go_at_call 131;refine (Qch _ _).mono ?_;rintro e w1 ⟨rfl,rfl⟩) | (go_at_call 49;refine (Qc0 _ _).mono ?_;rintro e w1 ⟨rfl,rfl⟩) | (go_at_call 132;refine (Qcv _ _).mono ?_;rintro e w1 ⟨rfl,rfl⟩))
 all_goals
  go_ret
  exact ⟨Qai (by first | exact HR.out.symm | (rw [HR.out];done) | (rw [HR.out];simp_all;done)),HB0.out⟩
theorem Zi6 (vx:ByteArray) (vla:Option Addr) (vll vlc:Nat) (vka:Option Addr) (vkl vkc i:Nat) (k:Int) (w:World) (_hi:i<1000) (_hn:vkl≤1000) (h1:i+1≠vkl) (h:i+2≠vkl):Calls Tryz.prog 88 #[.agg #[.int .i64 2,.string vx,.slice vla vll vlc,.slice vka vkl vkc],.int .i64 i,.int .i64 k] w fun e w'=>e = .returned (.bool (Qgq 2 vkl i k))∧Below w.heap.size w w':=by
 have HX:=hQ (xH w (.cells #[.int .i64 2,.string vx,.slice vla vll vlc,.slice vka vkl vkc] 25))
 have HB0:=hQ ((xC w.heap.size w).alloc (xA _) (.cells #[.int .i64 2,.string vx,.slice vla vll vlc,.slice vka vkl vkc] 25))
 have k0:(w.alloc (.cells #[.int .i64 2,.string vx,.slice vla vll vlc,.slice vka vkl vkc] 25)).cell? ⟨w.heap.size,0,none⟩=some (.int .i64 2):=Qab HX.out 0 _ rfl
 have k3:(w.alloc (.cells #[.int .i64 2,.string vx,.slice vla vll vlc,.slice vka vkl vkc] 25)).cell? ⟨w.heap.size,3,none⟩=some (.slice vka vkl vkc):=Qab HX.out 3 _ rfl
 have HR:=hQ (show Qgq 2 vkl i k=(k==4) from by unfold Qgq;rw [xN (by decide),xO rfl,xN h1,xN h])
 have d1:((i:Int)==(vkl:Int)-1)=false:=beq_eq_false_iff_ne.2 (by omega)
 have d2:((i:Int)==(vkl:Int)-2)=false:=beq_eq_false_iff_ne.2 (by omega)
 clear h h1
 go_enter Tryz.func88,Tryz.ntmps88
 go_wp2_with (first | (go_at_call 131;refine (Qch _ _).mono ?_;rintro e w1 ⟨rfl,rfl⟩) | (go_at_call 49;refine (Qc0 _ _).mono ?_;rintro e w1 ⟨rfl,rfl⟩) | (go_at_call 132;refine (Qcv _ _).mono ?_;rintro e w1 ⟨rfl,rfl⟩))
 all_goals
  go_ret
  exact ⟨Qai (by first | exact HR.out.symm | (rw [HR.out];done) | (rw [HR.out];simp_all;done)),HB0.out⟩
theorem Zko (vx:ByteArray) (vla:Option Addr) (vll vlc:Nat) (vka:Option Addr) (vkl vkc i:Nat) (k:Int) (w:World) (_hi:i<1000) (_hn:vkl≤1000):Calls Tryz.prog 88 #[.agg #[.int .i64 3,.string vx,.slice vla vll vlc,.slice vka vkl vkc],.int .i64 i,.int .i64 k] w fun e w'=>e = .returned (.bool (Qgq 3 vkl i k))∧Below w.heap.size w w':=by
 have HX:=hQ (xH w (.cells #[.int .i64 3,.string vx,.slice vla vll vlc,.slice vka vkl vkc] 25))
 have HB0:=hQ ((xC w.heap.size w).alloc (xA _) (.cells #[.int .i64 3,.string vx,.slice vla vll vlc,.slice vka vkl vkc] 25))
 have k0:(w.alloc (.cells #[.int .i64 3,.string vx,.slice vla vll vlc,.slice vka vkl vkc] 25)).cell? ⟨w.heap.size,0,none⟩=some (.int .i64 3):=Qab HX.out 0 _ rfl
 have k3:(w.alloc (.cells #[.int .i64 3,.string vx,.slice vla vll vlc,.slice vka vkl vkc] 25)).cell? ⟨w.heap.size,3,none⟩=some (.slice vka vkl vkc):=Qab HX.out 3 _ rfl
 have HR:=hQ (show Qgq 3 vkl i k=Qe7 3 k from rfl)
 go_enter Tryz.func88,Tryz.ntmps88
 go_wp2_with (first | (go_at_call 131;refine (Qch _ _).mono ?_;rintro e w1 ⟨rfl,rfl⟩) | (go_at_call 49;refine (Qc0 _ _).mono ?_;rintro e w1 ⟨rfl,rfl⟩) | (go_at_call 132;refine (Qcv _ _).mono ?_;rintro e w1 ⟨rfl,rfl⟩))
 all_goals
  go_ret
  exact ⟨Qai (by first | exact HR.out.symm | (rw [HR.out];done) | (rw [HR.out];simp_all;done)),HB0.out⟩
theorem Zkp (vx:ByteArray) (vla:Option Addr) (vll vlc:Nat) (vka:Option Addr) (vkl vkc i:Nat) (k:Int) (w:World) (_hi:i<1000) (_hn:vkl≤1000):Calls Tryz.prog 88 #[.agg #[.int .i64 4,.string vx,.slice vla vll vlc,.slice vka vkl vkc],.int .i64 i,.int .i64 k] w fun e w'=>e = .returned (.bool (Qgq 4 vkl i k))∧Below w.heap.size w w':=by
 have HX:=hQ (xH w (.cells #[.int .i64 4,.string vx,.slice vla vll vlc,.slice vka vkl vkc] 25))
 have HB0:=hQ ((xC w.heap.size w).alloc (xA _) (.cells #[.int .i64 4,.string vx,.slice vla vll vlc,.slice vka vkl vkc] 25))
 have k0:(w.alloc (.cells #[.int .i64 4,.string vx,.slice vla vll vlc,.slice vka vkl vkc] 25)).cell? ⟨w.heap.size,0,none⟩=some (.int .i64 4):=Qab HX.out 0 _ rfl
 have k3:(w.alloc (.cells #[.int .i64 4,.string vx,.slice vla vll vlc,.slice vka vkl vkc] 25)).cell? ⟨w.heap.size,3,none⟩=some (.slice vka vkl vkc):=Qab HX.out 3 _ rfl
 have HR:=hQ (show Qgq 4 vkl i k=Qe7 3 k from rfl)
 go_enter Tryz.func88,Tryz.ntmps88
 go_wp2_with (first | (go_at_call 131;refine (Qch _ _).mono ?_;rintro e w1 ⟨rfl,rfl⟩) | (go_at_call 49;refine (Qc0 _ _).mono ?_;rintro e w1 ⟨rfl,rfl⟩) | (go_at_call 132;refine (Qcv _ _).mono ?_;rintro e w1 ⟨rfl,rfl⟩))
 all_goals
  go_ret
  exact ⟨Qai (by first | exact HR.out.symm | (rw [HR.out];done) | (rw [HR.out];simp_all;done)),HB0.out⟩
theorem Zkq (vx:ByteArray) (vla:Option Addr) (vll vlc:Nat) (vka:Option Addr) (vkl vkc i:Nat) (k:Int) (w:World) (_hi:i<1000) (_hn:vkl≤1000):Calls Tryz.prog 88 #[.agg #[.int .i64 8,.string vx,.slice vla vll vlc,.slice vka vkl vkc],.int .i64 i,.int .i64 k] w fun e w'=>e = .returned (.bool (Qgq 8 vkl i k))∧Below w.heap.size w w':=by
 have HX:=hQ (xH w (.cells #[.int .i64 8,.string vx,.slice vla vll vlc,.slice vka vkl vkc] 25))
 have HB0:=hQ ((xC w.heap.size w).alloc (xA _) (.cells #[.int .i64 8,.string vx,.slice vla vll vlc,.slice vka vkl vkc] 25))
 have k0:(w.alloc (.cells #[.int .i64 8,.string vx,.slice vla vll vlc,.slice vka vkl vkc] 25)).cell? ⟨w.heap.size,0,none⟩=some (.int .i64 8):=Qab HX.out 0 _ rfl
 have k3:(w.alloc (.cells #[.int .i64 8,.string vx,.slice vla vll vlc,.slice vka vkl vkc] 25)).cell? ⟨w.heap.size,3,none⟩=some (.slice vka vkl vkc):=Qab HX.out 3 _ rfl
 have HR:=hQ (show Qgq 8 vkl i k=Qe7 3 k from rfl)
 go_enter Tryz.func88,Tryz.ntmps88
 go_wp2_with (first | (go_at_call 131;refine (Qch _ _).mono ?_;rintro e w1 ⟨rfl,rfl⟩) | (go_at_call 49;refine (Qc0 _ _).mono ?_;rintro e w1 ⟨rfl,rfl⟩) | (go_at_call 132;refine (Qcv _ _).mono ?_;rintro e w1 ⟨rfl,rfl⟩))
 all_goals
  go_ret
  exact ⟨Qai (by first | exact HR.out.symm | (rw [HR.out];done) | (rw [HR.out];simp_all;done)),HB0.out⟩
theorem Zi7 (vx:ByteArray) (vla:Option Addr) (vll vlc:Nat) (vka:Option Addr) (vkl vkc i:Nat) (k:Int) (w:World) (_hi:i<1000) (_hn:vkl≤1000):Calls Tryz.prog 88 #[.agg #[.int .i64 16,.string vx,.slice vla vll vlc,.slice vka vkl vkc],.int .i64 i,.int .i64 k] w fun e w'=>e = .returned (.bool (Qgq 16 vkl i k))∧Below w.heap.size w w':=by
 have HX:=hQ (xH w (.cells #[.int .i64 16,.string vx,.slice vla vll vlc,.slice vka vkl vkc] 25))
 have HB0:=hQ ((xC w.heap.size w).alloc (xA _) (.cells #[.int .i64 16,.string vx,.slice vla vll vlc,.slice vka vkl vkc] 25))
 have k0:(w.alloc (.cells #[.int .i64 16,.string vx,.slice vla vll vlc,.slice vka vkl vkc] 25)).cell? ⟨w.heap.size,0,none⟩=some (.int .i64 16):=Qab HX.out 0 _ rfl
 have k3:(w.alloc (.cells #[.int .i64 16,.string vx,.slice vla vll vlc,.slice vka vkl vkc] 25)).cell? ⟨w.heap.size,3,none⟩=some (.slice vka vkl vkc):=Qab HX.out 3 _ rfl
 have HR:=hQ (show Qgq 16 vkl i k=(k==17) from rfl)
 go_enter Tryz.func88,Tryz.ntmps88
 go_wp2_with (first | (go_at_call 131;refine (Qch _ _).mono ?_;rintro e w1 ⟨rfl,rfl⟩) | (go_at_call 49;refine (Qc0 _ _).mono ?_;rintro e w1 ⟨rfl,rfl⟩) | (go_at_call 132;refine (Qcv _ _).mono ?_;rintro e w1 ⟨rfl,rfl⟩))
 all_goals
  go_ret
  exact ⟨Qai (by first | exact HR.out.symm | (rw [HR.out];done) | (rw [HR.out];simp_all;done)),HB0.out⟩
theorem Zfp (vx:ByteArray) (vla:Option Addr) (vll vlc:Nat) (vka:Option Addr) (vkl vkc i:Nat) (k:Int) (w:World) (_hi:i<1000) (_hn:vkl≤1000) (hu:Qjs k=true):Calls Tryz.prog 88 #[.agg #[.int .i64 21,.string vx,.slice vla vll vlc,.slice vka vkl vkc],.int .i64 i,.int .i64 k] w fun e w'=>e = .returned (.bool (Qgq 21 vkl i k))∧Below w.heap.size w w':=by
 have HX:=hQ (xH w (.cells #[.int .i64 21,.string vx,.slice vla vll vlc,.slice vka vkl vkc] 25))
 have HB0:=hQ ((xC w.heap.size w).alloc (xA _) (.cells #[.int .i64 21,.string vx,.slice vla vll vlc,.slice vka vkl vkc] 25))
 have k0:(w.alloc (.cells #[.int .i64 21,.string vx,.slice vla vll vlc,.slice vka vkl vkc] 25)).cell? ⟨w.heap.size,0,none⟩=some (.int .i64 21):=Qab HX.out 0 _ rfl
 have k3:(w.alloc (.cells #[.int .i64 21,.string vx,.slice vla vll vlc,.slice vka vkl vkc] 25)).cell? ⟨w.heap.size,3,none⟩=some (.slice vka vkl vkc):=Qab HX.out 3 _ rfl
 have HR:=hQ (show Qgq 21 vkl i k=true from by show (Qjs k || (decide (i=0) && k==21))=true;rw [hu];rfl)
 go_enter Tryz.func88,Tryz.ntmps88
 go_wp2_with (first | (go_at_call 131;refine (Qch _ _).mono ?_;rintro e w1 ⟨rfl,rfl⟩) | (go_at_call 49;refine (Qc0 _ _).mono ?_;rintro e w1 ⟨rfl,rfl⟩) | (go_at_call 132;refine (Qcv _ _).mono ?_;rw [hu];rintro e w1 ⟨rfl,rfl⟩))
 all_goals
  go_ret
  exact ⟨Qai (by first | exact HR.out.symm | (rw [HR.out];done) | (rw [HR.out];simp_all;done)),HB0.out⟩
theorem Zfq (vx:ByteArray) (vla:Option Addr) (vll vlc:Nat) (vka:Option Addr) (vkl vkc i:Nat) (k:Int) (w:World) (_hi:i<1000) (_hn:vkl≤1000) (hu:Qjs k=false):Calls Tryz.prog 88 #[.agg #[.int .i64 21,.string vx,.slice vla vll vlc,.slice vka vkl vkc],.int .i64 i,.int .i64 k] w fun e w'=>e = .returned (.bool (Qgq 21 vkl i k))∧Below w.heap.size w w':=by
 have HX:=hQ (xH w (.cells #[.int .i64 21,.string vx,.slice vla vll vlc,.slice vka vkl vkc] 25))
 have HB0:=hQ ((xC w.heap.size w).alloc (xA _) (.cells #[.int .i64 21,.string vx,.slice vla vll vlc,.slice vka vkl vkc] 25))
 have k0:(w.alloc (.cells #[.int .i64 21,.string vx,.slice vla vll vlc,.slice vka vkl vkc] 25)).cell? ⟨w.heap.size,0,none⟩=some (.int .i64 21):=Qab HX.out 0 _ rfl
 have k3:(w.alloc (.cells #[.int .i64 21,.string vx,.slice vla vll vlc,.slice vka vkl vkc] 25)).cell? ⟨w.heap.size,3,none⟩=some (.slice vka vkl vkc):=Qab HX.out 3 _ rfl
 have HR:=hQ (show Qgq 21 vkl i k=(decide (i=0) && k==21) from by show (Qjs k || (decide (i=0) && k==21))=_;rw [hu];rfl)
 by_cases h0:i=0
 ·subst h0
  go_enter Tryz.func88,Tryz.ntmps88
  go_wp2_with (first | (go_at_call 131;refine (Qch _ _).mono ?_;rintro e w1 ⟨rfl,rfl⟩) | (go_at_call 49;refine (Qc0 _ _).mono ?_;rintro e w1 ⟨rfl,rfl⟩) | (go_at_call 132;refine (Qcv _ _).mono ?_;rw [hu];rintro e w1 ⟨rfl,rfl⟩))
  all_goals
   go_ret
   exact ⟨Qai (by first | exact HR.out.symm | (rw [HR.out];simp_all;done)),HB0.out⟩
 ·have d1:((i:Int)==0)=false:=beq_eq_false_iff_ne.2 (by omega)
  have d2:(i==0)=false:=beq_eq_false_iff_ne.2 h0
  have HR2:=hQ (show Qgq 21 vkl i k=false from by rw [HR.out,xR h0];rfl)
  clear h0
  go_enter Tryz.func88,Tryz.ntmps88
  go_wp2_with (first | (go_at_call 131;refine (Qch _ _).mono ?_;rintro e w1 ⟨rfl,rfl⟩) | (go_at_call 49;refine (Qc0 _ _).mono ?_;rintro e w1 ⟨rfl,rfl⟩) | (go_at_call 132;refine (Qcv _ _).mono ?_;rw [hu];rintro e w1 ⟨rfl,rfl⟩))
  all_goals
   go_ret
   exact ⟨Qai (by first | exact HR2.out.symm | (rw [HR2.out];simp_all;done)),HB0.out⟩
theorem Qxk (tk:Int) (vx:ByteArray) (vla:Option Addr) (vll vlc:Nat) (vka:Option Addr) (vkl vkc i:Nat) (k:Int) (w:World) (_hi:i<1000) (_hn:vkl≤1000) (h:tk≠1∧tk≠2∧tk≠3∧tk≠4∧tk≠8∧tk≠16∧tk≠21):Calls Tryz.prog 88 #[.agg #[.int .i64 tk,.string vx,.slice vla vll vlc,.slice vka vkl vkc],.int .i64 i,.int .i64 k] w fun e w'=>e = .returned (.bool (Qgq tk vkl i k))∧Below w.heap.size w w':=by
 have HX:=hQ (xH w (.cells #[.int .i64 tk,.string vx,.slice vla vll vlc,.slice vka vkl vkc] 25))
 have HB0:=hQ ((xC w.heap.size w).alloc (xA _) (.cells #[.int .i64 tk,.string vx,.slice vla vll vlc,.slice vka vkl vkc] 25))
 have k0:(w.alloc (.cells #[.int .i64 tk,.string vx,.slice vla vll vlc,.slice vka vkl vkc] 25)).cell? ⟨w.heap.size,0,none⟩=some (.int .i64 tk):=Qab HX.out 0 _ rfl
 have k3:(w.alloc (.cells #[.int .i64 tk,.string vx,.slice vla vll vlc,.slice vka vkl vkc] 25)).cell? ⟨w.heap.size,3,none⟩=some (.slice vka vkl vkc):=Qab HX.out 3 _ rfl
 have HR:=hQ (show Qgq tk vkl i k=Qk8 k from by unfold Qgq;rw [xN (by omega),xN (by omega),xN (by omega),xN (by omega),xN (by omega)])
 have e1:=Qck (show tk≠1 from by omega)
 have e2:=Qck (show tk≠2 from by omega)
 have e3:=Qck (show tk≠3 from by omega)
 have e4:=Qck (show tk≠4 from by omega)
 have e8:=Qck (show tk≠8 from by omega)
 have e16:=Qck (show tk≠16 from by omega)
 have e21:=Qck (show tk≠21 from by omega)
 clear h
 go_enter Tryz.func88,Tryz.ntmps88
 go_wp2_with (first | (go_at_call 131;refine (Qch _ _).mono ?_;rintro e w1 ⟨rfl,rfl⟩) | (go_at_call 49;refine (Qc0 _ _).mono ?_;rintro e w1 ⟨rfl,rfl⟩) | (go_at_call 132;refine (Qcv _ _).mono ?_;rintro e w1 ⟨rfl,rfl⟩))
 all_goals
  go_ret
  exact ⟨Qai (by first | exact HR.out.symm | (rw [HR.out];done) | (rw [HR.out];simp_all;done)),HB0.out⟩
theorem Qp5 (tk:Int) (vx:ByteArray) (vla:Option Addr) (vll vlc:Nat) (vka:Option Addr) (vkl vkc i:Nat) (k:Int) (w:World) (hi:i<1000) (hn:vkl≤1000):Calls Tryz.prog 88 #[.agg #[.int .i64 tk,.string vx,.slice vla vll vlc,.slice vka vkl vkc],.int .i64 i,.int .i64 k] w fun e w'=>e = .returned (.bool (Qgq tk vkl i k))∧Below w.heap.size w w':=by
 by_cases h:tk≠1∧tk≠2∧tk≠3∧tk≠4∧tk≠8∧tk≠16∧tk≠21
 ·exact Qxk tk vx vla vll vlc vka vkl vkc i k w hi hn h
 ·rcases (show tk=1∨tk=2∨tk=3∨tk=4∨tk=8∨tk=16∨tk=21 from by omega) with rfl | rfl | rfl | rfl | rfl | rfl | rfl
  ·exact Zkn vx vla vll vlc vka vkl vkc i k w hi hn
  ·by_cases h1:i+1=vkl
   ·exact Zi4 vx vla vll vlc vka vkl vkc i k w hi hn h1
   ·by_cases h2:i+2=vkl
    ·exact Zi5 vx vla vll vlc vka vkl vkc i k w hi hn h1 h2
    ·exact Zi6 vx vla vll vlc vka vkl vkc i k w hi hn h1 h2
  ·exact Zko vx vla vll vlc vka vkl vkc i k w hi hn
  ·exact Zkp vx vla vll vlc vka vkl vkc i k w hi hn
  ·exact Zkq vx vla vll vlc vka vkl vkc i k w hi hn
  ·exact Zi7 vx vla vll vlc vka vkl vkc i k w hi hn
  ·cases hu:Qjs k
   ·exact Zfq vx vla vll vlc vka vkl vkc i k w hi hn hu
   ·exact Zfp vx vla vll vlc vka vkl vkc i k w hi hn hu
mutual
def Qaz:Tr→Bool
 | .mk k x _ ks=>!decide (Qar k ks.length<0) && Qa6 (Qae k) x && Qbi k ks.length 0 ks
def Qbi:Int→Nat→Nat→List Tr→Bool
 | _,_,_,[]=>true
 | k,n,i,a :: r=>Qgq k n i a.kind && Qaz a && Qbi k n (i+1) r
end
theorem Qel (t:Tr):Qaz t=(!decide (Qar t.kind t.kids.length<0) && Qa6 (Qae t.kind) t.text && Qbi t.kind t.kids.length 0 t.kids):=by
 cases t with
 | mk k x ls ks=>rw [Qaz];rfl
theorem Qt4 (k:Int) (n:Nat) (l:List Tr) (j:Nat) (a:Tr) (h:l[j]? = some a):Qbi k n j (l.drop j)=(Qgq k n j a.kind && Qaz a && Qbi k n (j+1) (l.drop (j+1))):=by
 obtain ⟨hj,he⟩:=xP.1 h
 rw [List.drop_eq_getElem_cons hj,he,Qbi]
theorem Qrt (k:Int) (n:Nat) (l:List Tr) (j:Nat) (h:l.length≤j):Qbi k n j (l.drop j)=true:=by
 rw [List.drop_eq_nil_of_le h,Qbi]
theorem Qon (k:Int) (n:Nat) (hn:n≤1000):(Qb6 (Qae k) n).2 = !decide (Qar k n<0):=by
 rw [←Qu8 k n (by omega)]
 unfold Qln
 have hc:∀ (l:List Part) (m:Int),0≤Qig l m:=by
  intro l m
  induction l with
  | nil=>exact Int.le_refl 0
  | cons x r ih =>
   rw [Qig]
   split
   ·rename_i h
    simp only [Bool.and_eq_true,decide_eq_true_eq] at h
    omega
   ·omega
 cases (Qb6 (Qae k) n).2
 ·rw [xN (by decide)];rfl
 ·rw [xO rfl]
  have:=hc (Qae k) (Qb6 (Qae k) n).1
  rw [xR (by omega)]
  rfl
theorem Qex {k:Int} {n:Nat} {o:Int} (hl:Qae k≠[]) (ho:(Qpz (Qae k):Int)=o):(Qb6 (Qae k) n).1=n-o:=by
 unfold Qb6
 rw [xN (fun h=>by rcases h with h | h;exact hl h;omega),Qk3,ho]
theorem Qfi {n:Nat} {must m:Int} (h:(!decide (Qa7 n must m<0))=true):(n:Int)=must:=by
 unfold Qa7 at h
 by_cases e:(n:Int)=must
 ·exact e
 ·rw [xN e] at h
  exact absurd h (by decide)
theorem Zi8 (n:Nat):Qeg (Qae 1) (Qb6 (Qae 1) n).1=List.replicate n 1:=by
 rw [Qex (o:=0) (by decide) rfl]
 simp [Qae,Qeg,Qb5,Qcs,Qe6,Qgh]
theorem Zi9 (n:Nat) (h:2≤n):Qeg (Qae 2) (Qb6 (Qae 2) n).1=List.replicate (n-2) 2 ++ [3,5]:=by
 rw [Qex (o:=2) (by decide) rfl]
 have:((n:Int)-2).toNat=n-2:=by omega
 simp [Qae,Qeg,Qb5,Qcs,Qe6,Qgh,Qk2,this]
theorem Zfr (n:Nat):Qeg (Qae 16) (Qb6 (Qae 16) n).1=List.replicate n 4:=by
 rw [Qex (o:=0) (by decide) rfl]
 simp [Qae,Qeg,Qb5,Qcs,Qe6,Qgh]
theorem Zfs (n:Nat):Qeg (Qae 18) (Qb6 (Qae 18) n).1=List.replicate n 5:=by
 rw [Qex (o:=0) (by decide) rfl]
 simp [Qae,Qeg,Qb5,Qcs,Qgh]
theorem Qp6 {n j:Nat} {s:Int} (h:j<n):(List.replicate n s)[j]? = some s:=by rw [List.getElem?_replicate];simp [h]
theorem Qil {k:Int} (h:¬ (k≤0∨23≤k)):k=1∨k=2∨k=3∨k=4∨k=5∨k=6∨k=7∨k=8∨k=9∨k=10∨k=11∨k=12∨k=13∨k=14∨k=15∨k=16∨k=17∨k=18∨k=19∨k=20∨k=21∨k=22:=by omega
theorem Zba (k:Int) (n:Nat) (hn:n≤1000) (h:(Qb6 (Qae k) n).2=true) (j:Nat) (hj:j<n):∃ s,(Qeg (Qae k) (Qb6 (Qae k) n).1)[j]? = some s∧∀ kd,Qgq k n j kd=Qe7 s kd:=by
 have hq:=h
 rw [Qon k n hn] at hq
 by_cases h0:k≤0∨23≤k
 ·rw [Qdy h0] at h
  simp [Qb6] at h
 ·rcases Qil h0 with rfl | rfl | rfl | rfl | rfl | rfl | rfl | rfl | rfl | rfl | rfl | rfl | rfl | rfl | rfl | rfl | rfl | rfl | rfl | rfl | rfl | rfl
  ·exact ⟨1,by rw [Zi8];exact Qp6 hj,fun kd=>rfl⟩
  ·have h2:2≤n:=by
    rcases Nat.lt_or_ge n 2 with h' | h'
    ·rw [show Qar 2 n = -1 from by show (if 2≤(n:Int) then 6+max 0 ((n:Int)-3) else -1)=_;rw [xN (by omega)]] at hq
     exact absurd hq (by decide)
    ·exact h'
   rw [Zi9 n h2]
   by_cases j1:j+1=n
   ·refine ⟨5,?_,fun kd=>?_⟩
    ·rw [xX (by simp;omega),List.length_replicate,show j-(n-2)=1 from by omega];rfl
    ·unfold Qgq;rw [xN (by decide),xO rfl,xO j1];exact Qhk kd
   ·by_cases j2:j+2=n
    ·refine ⟨3,?_,fun kd=>?_⟩
     ·rw [xX (by simp;omega),List.length_replicate,show j-(n-2)=0 from by omega];rfl
     ·unfold Qgq;rw [xN (by decide),xO rfl,xN j1,xO j2]
    ·refine ⟨2,?_,fun kd=>?_⟩
     ·rw [yB (by simp;omega)];exact Qp6 (by omega)
     ·unfold Qgq;rw [xN (by decide),xO rfl,xN j1,xN j2];rfl
  ·obtain rfl:n=1:=by have:=Qfi (n:=n) (must:=1) (m:=3) hq;omega
   obtain rfl:j=0:=by omega
   exact ⟨3,rfl,fun kd=>rfl⟩
  ·obtain rfl:n=1:=by have:=Qfi (n:=n) (must:=1) (m:=2) hq;omega
   obtain rfl:j=0:=by omega
   exact ⟨3,rfl,fun kd=>rfl⟩
  ·have:=Qfi (n:=n) (must:=0) (m:=1) hq;omega
  ·have:=Qfi (n:=n) (must:=0) (m:=1) hq;omega
  ·have:=Qfi (n:=n) (must:=0) (m:=1) hq;omega
  ·obtain rfl:n=1:=by have:=Qfi (n:=n) (must:=1) (m:=2) hq;omega
   obtain rfl:j=0:=by omega
   exact ⟨3,rfl,fun kd=>rfl⟩
  ·have:=Qfi (n:=n) (must:=0) (m:=1) hq;omega
  ·have:=Qfi (n:=n) (must:=0) (m:=1) hq;omega
  ·have:=Qfi (n:=n) (must:=0) (m:=1) hq;omega
  ·have:=Qfi (n:=n) (must:=0) (m:=1) hq;omega
  ·have:=Qfi (n:=n) (must:=0) (m:=1) hq;omega
  ·have:=Qfi (n:=n) (must:=0) (m:=1) hq;omega
  ·have:=Qfi (n:=n) (must:=0) (m:=1) hq;omega
  ·exact ⟨4,by rw [Zfr];exact Qp6 hj,fun kd=>rfl⟩
  ·obtain rfl:n=1:=by have:=Qfi (n:=n) (must:=1) (m:=0) hq;omega
   obtain rfl:j=0:=by omega
   exact ⟨5,rfl,fun kd=>Qhk kd⟩
  ·exact ⟨5,by rw [Zfs];exact Qp6 hj,fun kd=>Qhk kd⟩
  ·obtain rfl:n=3:=by have:=Qfi (n:=n) (must:=3) (m:=3) hq;omega
   rcases (show j=0∨j=1∨j=2 from by omega) with rfl | rfl | rfl <;> exact ⟨5,rfl,fun kd=>Qhk kd⟩
  ·obtain rfl:n=2:=by have:=Qfi (n:=n) (must:=2) (m:=4) hq;omega
   rcases (show j=0∨j=1 from by omega) with rfl | rfl <;> exact ⟨5,rfl,fun kd=>Qhk kd⟩
  ·obtain rfl:n=2:=by have:=Qfi (n:=n) (must:=2) (m:=1) hq;omega
   rcases (show j=0∨j=1 from by omega) with rfl | rfl
   ·exact ⟨6,rfl,fun kd=>Qxj kd⟩
   ·exact ⟨7,rfl,fun kd=>by rw [←Za8];show (Qjs kd || (decide (1=0) && kd==21))=Qjs kd;simp⟩
  ·obtain rfl:n=1:=by have:=Qfi (n:=n) (must:=1) (m:=2) hq;omega
   obtain rfl:j=0:=by omega
   exact ⟨5,rfl,fun kd=>Qhk kd⟩
theorem Qm4 (k:Int) (n:Nat):∀ (ks:List Tr) (i:Nat) (ss:List Int),(∀ a∈ks,Qaz a=Qal a)→(∀ j,j<ks.length→∃ s,ss[j]? = some s∧∀ kd,Qgq k n (i+j) kd=Qe7 s kd)→Qbi k n i ks=Qd7 ks ss
 | [],i,ss,_,_=>by rw [Qbi,Qjq]
 | a :: r,i,ss,ha,hs=>by
  obtain ⟨s,h0,hk⟩:=hs 0 (by simp)
  cases ss with
  | nil=>simp at h0
  | cons s' ss =>
   simp at h0
   subst h0
   have hk0:Qgq k n i a.kind=Qe7 s' a.kind:=hk a.kind
   rw [Qbi,Qih,←hk0,ha a (by simp),Qm4 k n r (i+1) ss (fun x hx=>ha x (by simp [hx])) (fun j hj=>by
    obtain ⟨s,h1,h2⟩:=hs (j+1) (by simp;omega)
    exact ⟨s,by simpa using h1,fun kd=>by rw [show i+1+j=i+(j+1) from by omega];exact h2 kd⟩)]
theorem Qu9 {l:List Tr} {a:Tr} (h:a∈l):Qah a≤Qam l:=by
 induction l with
 | nil=>simp at h
 | cons x r ih =>
  rw [Qam]
  rcases List.mem_cons.1 h with rfl | h
  ·omega
  ·have:=ih h;omega
theorem Qxl {l:List Tr} {a:Tr} (h:a∈l):SizeOf.sizeOf a<SizeOf.sizeOf l:=List.sizeOf_lt_of_mem h
theorem Qcw (N:Nat):∀ t:Tr,SizeOf.sizeOf t≤N→Qah t≤1000→Qaz t=Qal t:=by
 induction N with
 | zero=>intro t h;have:=Qgu t;omega
 | succ N ih =>
  intro t hN hs
  have hkl:=Qa0 t.kids
  have hsz:=Qa3 t
  rw [Qel,Qhg,←Qon t.kind t.kids.length (by omega)]
  cases hf:(Qb6 (Qae t.kind) t.kids.length).2
  ·rfl
  ·rw [Qm4 t.kind t.kids.length t.kids 0 _ (fun a ha=>ih a (by
    have h1:=Qxl ha
    cases t with
    | mk k x ls ks =>
     simp at hN
     have:SizeOf.sizeOf (Tr.mk k x ls ks).kids=SizeOf.sizeOf ks:=rfl
     omega) (by have:=Qu9 ha;omega)) (fun j hj=>by rw [Nat.zero_add];exact Zba t.kind t.kids.length (by omega) hf j hj)]
mutual
theorem Qls:(t:Tr)→(n:Nat)→Qdr t n=decide (Qfb t≤n)
 | t,0=>by
  rw [show Qdr t 0=false from by cases t;rw [Qdr],xR]
  rw [Qmt]
  omega
 | .mk k x ls ks,n+1=>by
  rw [Qdr,Qfb,Qkm ks n]
  by_cases h:Qd0 ks≤n
  ·rw [xS h,xS (by omega)]
  ·rw [xR h,xR (by omega)]
theorem Qkm:(l:List Tr)→(n:Nat)→Qfa l n=decide (Qd0 l≤n)
 | [],n=>by rw [Qfa,Qd0];simp
 | t :: r,n=>by
  rw [Qfa,Qd0,Qls t n,Qkm r n]
  by_cases h1:Qfb t≤n
  ·by_cases h2:Qd0 r≤n
   ·rw [xS h1,xS h2,xS (p:=max (Qfb t) (Qd0 r)≤n) (by omega)];rfl
   ·rw [xS h1,xR h2,xR (p:=max (Qfb t) (Qd0 r)≤n) (by omega)];rfl
  ·rw [xR h1,xR (p:=max (Qfb t) (Qd0 r)≤n) (by omega),Bool.false_and]
end
def Ql5 (k:Int) (n:Nat):Bool:=(k==1 && decide (40<n)) || (k==2 && decide (10<n)) || (k==16 && decide (8<n)) || (k==18 && decide (16<n))
theorem Zbb (k:Int) (n:Nat):Ql3 (Qae k) (Qb6 (Qae k) n).1 = !Ql5 k n:=by
 by_cases h0:k≤0∨23≤k
 ·rw [Qdy h0]
  unfold Ql5
  rw [show (k==1)=false from Qck (by omega),show (k==2)=false from Qck (by omega),show (k==16)=false from Qck (by omega),show (k==18)=false from Qck (by omega)]
  rfl
 ·rcases Qil h0 with rfl | rfl | rfl | rfl | rfl | rfl | rfl | rfl | rfl | rfl | rfl | rfl | rfl | rfl | rfl | rfl | rfl | rfl | rfl | rfl | rfl | rfl
  ·rw [Qex (o:=0) (by decide) rfl]
   by_cases h:40<n
   ·simp [Qae,Ql3,Qb5,Qcs,Qe6,Qgh,Ql5,h];omega
   ·simp [Qae,Ql3,Qb5,Qcs,Qe6,Qgh,Ql5,h];omega
  ·rw [Qex (o:=2) (by decide) rfl]
   by_cases h:10<n
   ·simp [Qae,Ql3,Qb5,Qcs,Qe6,Qgh,Qk2,Ql5,h];omega
   ·simp [Qae,Ql3,Qb5,Qcs,Qe6,Qgh,Qk2,Ql5,h];omega
  ·rfl
  ·rfl
  ·rfl
  ·rfl
  ·rfl
  ·rfl
  ·rfl
  ·rfl
  ·rfl
  ·rfl
  ·rfl
  ·rfl
  ·rfl
  ·rw [Qex (o:=0) (by decide) rfl]
   by_cases h:8<n
   ·simp [Qae,Ql3,Qb5,Qcs,Qe6,Qgh,Ql5,h];omega
   ·simp [Qae,Ql3,Qb5,Qcs,Qe6,Qgh,Ql5,h];omega
  ·rfl
  ·rw [Qex (o:=0) (by decide) rfl]
   by_cases h:16<n
   ·simp [Qae,Ql3,Qb5,Qcs,Qgh,Ql5,h];omega
   ·simp [Qae,Ql3,Qb5,Qcs,Qgh,Ql5,h];omega
  ·rfl
  ·rfl
  ·rfl
  ·rfl
theorem Zbc (t:Tr):Qgc t=(!Ql5 t.kind t.kids.length && Ql4 t.kids):=by rw [Zif,Zbb]
def ldR (ls:List ByteArray) (i:Nat):ByteArray:=(ls[i]?).getD ⟨#[]⟩
theorem Qjh (cs:List ByteArray):∀ (l:List (List Qbn)) (i:Nat),Qba false cs i l=l.flatten
 | [],i=>by rw [Qba];rfl
 | p :: r,i=>by rw [Qba,Qjh cs r (i+1),xN (by simp)];rfl
theorem Qkn (co:Bool) (cs:List ByteArray) (p:List Qbn):∀ (l:List (List Qbn)) (i:Nat),Qba co cs i (l ++ [p])=Qba co cs i l ++ ((if 0<i+l.length∧co=true then [(ldR cs (i+l.length-1),⟨#[44]⟩)] else []) ++ p)
 | [],i=>by rw [xU,Qba,Qba,Qba,List.append_nil,xU,xG,Nat.add_zero];rfl
 | a :: r,i=>by rw [xV,Qba,Qba,Qkn co cs p r (i+1),xD,show i+1+r.length=i+(r.length+1) from by omega];simp only [xT]
def Qf3 (ls:List ByteArray) (comma:Nat) (ks:List Tr):List Qbn:=Qba true (ls.drop comma) 0 (ks.map Qaf)
theorem Zft (ls:List ByteArray) (comma:Nat):Qf3 ls comma [] = []:=by unfold Qf3;rw [List.map_nil,Qba]
theorem Zfu (ls:List ByteArray) (c i:Nat):ldR (ls.drop c) i=ldR ls (c+i):=by unfold ldR;rw [List.getElem?_drop]
theorem Zbd (ls:List ByteArray) (comma:Nat) (ks:List Tr) (k:Tr):Qf3 ls comma (ks ++ [k])=Qf3 ls comma ks ++ ((if 0<ks.length then [(ldR ls (comma+ks.length-1),⟨#[44]⟩)] else []) ++ Qaf k):=by
 unfold Qf3
 rw [List.map_append,List.map_cons,List.map_nil,Qkn,List.length_map,Nat.zero_add,Zfu]
 by_cases h:0<ks.length
 ·rw [xO ⟨h,rfl⟩,xO h,show comma+(ks.length-1)=comma+ks.length-1 from by omega]
 ·rw [xN (fun e=>h e.1),xN h]
section
variable (x:ByteArray) (ls:List ByteArray)
theorem Zfv (ks:List Tr):Qaf (.mk 1 x ls ks) = [(ldR ls 0,⟨#[109,111,100,117,108,101]⟩),(ldR ls 1,x)] ++ ((ks.map Qaf).flatten ++ [(ldR ls 2,⟨#[]⟩)]):=by
 rw [Qdg]
 show Qbw (Qb6 (Qae 1) ks.length).1 x (ls.drop (Qcg (Qae 1))) (Qae 1) ls (ks.map Qaf)=_
 rw [Qex (o:=0) (by decide) rfl]
 have ht:List.take ks.length (ks.map Qaf)=ks.map Qaf:=List.take_of_length_le (by simp)
 simp [Qae,Qbw,Qb5,Qcs,Qe6,Qgh,Qjh,ldR,ht]
theorem Zfw (ps:List Tr) (a b:Tr):Qaf (.mk 2 x ls (ps ++ [a,b])) = [(ldR ls 0,⟨#[100,101,102]⟩),(ldR ls 1,x),(ldR ls 2,⟨#[40]⟩)] ++ (Qf3 ls 6 ps ++ ([(ldR ls 3,⟨#[41]⟩),(ldR ls 4,⟨#[58]⟩)] ++ (Qaf a ++ ([(ldR ls 5,⟨#[61]⟩)] ++ Qaf b)))):=by
 rw [Qdg]
 show Qbw (Qb6 (Qae 2) (ps ++ [a,b]).length).1 x (ls.drop (Qcg (Qae 2))) (Qae 2) ls ((ps ++ [a,b]).map Qaf)=_
 rw [Qex (o:=2) (by decide) rfl]
 have hn:(((ps ++ [a,b]).length:Nat):Int)-2=(ps.length:Int):=by simp
 rw [hn]
 have h1:List.take ps.length (ps.map Qaf ++ [Qaf a,Qaf b])=ps.map Qaf:=by rw [List.take_append_of_le_length (by simp),List.take_of_length_le (by simp)]
 have h2:List.drop ps.length (ps.map Qaf ++ [Qaf a,Qaf b]) = [Qaf a,Qaf b]:=by rw [List.drop_append_of_le_length (by simp),List.drop_of_length_le (by simp)];rfl
 simp [Qae,Qbw,Qb5,Qcs,Qe6,Qgh,Qk2,Qcg,Qba,ldR,h1,h2,Qf3]
theorem Zfx (a:Tr):Qaf (.mk 3 x ls [a]) = [(ldR ls 0,⟨#[116,121,112,101]⟩),(ldR ls 1,x),(ldR ls 2,⟨#[61]⟩)] ++ Qaf a:=by
 rw [Qdg]
 show Qbw (Qb6 (Qae 3) 1).1 x (ls.drop (Qcg (Qae 3))) (Qae 3) ls [Qaf a] = _
 simp [Qae,Qbw,Qb5,Qcs,Qe6,Qk2,Qba,ldR]
theorem Zfy (a:Tr):Qaf (.mk 4 x ls [a]) = [(ldR ls 0,x),(ldR ls 1,⟨#[58]⟩)] ++ Qaf a:=by
 rw [Qdg]
 show Qbw (Qb6 (Qae 4) 1).1 x (ls.drop (Qcg (Qae 4))) (Qae 4) ls [Qaf a] = _
 simp [Qae,Qbw,Qb5,Qcs,Qe6,Qk2,Qba,ldR]
theorem Zfz (a:Tr):Qaf (.mk 8 x ls [a]) = [(ldR ls 0,⟨#[91]⟩)] ++ (Qaf a ++ [(ldR ls 1,⟨#[93]⟩)]):=by
 rw [Qdg]
 show Qbw (Qb6 (Qae 8) 1).1 x (ls.drop (Qcg (Qae 8))) (Qae 8) ls [Qaf a] = _
 simp [Qae,Qbw,Qb5,Qcs,Qk2,Qba,ldR]
theorem Zbe (ks:List Tr):Qaf (.mk 16 x ls ks) = [(ldR ls 0,x),(ldR ls 1,⟨#[40]⟩)] ++ (Qf3 ls 3 ks ++ [(ldR ls 2,⟨#[41]⟩)]):=by
 rw [Qdg]
 show Qbw (Qb6 (Qae 16) ks.length).1 x (ls.drop (Qcg (Qae 16))) (Qae 16) ls (ks.map Qaf)=_
 rw [Qex (o:=0) (by decide) rfl]
 have ht:List.take ks.length (ks.map Qaf)=ks.map Qaf:=List.take_of_length_le (by simp)
 simp [Qae,Qbw,Qb5,Qcs,Qe6,Qgh,Qcg,ldR,ht,Qf3]
theorem Qru (a:Tr):Qaf (.mk 17 x ls [a])=Qaf a:=by
 rw [Qdg]
 show Qbw (Qb6 (Qae 17) 1).1 x (ls.drop (Qcg (Qae 17))) (Qae 17) ls [Qaf a] = _
 simp [Qae,Qbw,Qb5,Qk2,Qba]
theorem Zbf (ks:List Tr):Qaf (.mk 18 x ls ks) = [(ldR ls 0,⟨#[91]⟩)] ++ (Qf3 ls 2 ks ++ [(ldR ls 1,⟨#[93]⟩)]):=by
 rw [Qdg]
 show Qbw (Qb6 (Qae 18) ks.length).1 x (ls.drop (Qcg (Qae 18))) (Qae 18) ls (ks.map Qaf)=_
 rw [Qex (o:=0) (by decide) rfl]
 have ht:List.take ks.length (ks.map Qaf)=ks.map Qaf:=List.take_of_length_le (by simp)
 simp [Qae,Qbw,Qb5,Qcs,Qgh,Qcg,ldR,ht,Qf3]
theorem Zbg (a b c:Tr):Qaf (.mk 19 x ls [a,b,c]) = [(ldR ls 0,⟨#[105,102]⟩)] ++ (Qaf a ++ ([(ldR ls 1,⟨#[116,104,101,110]⟩)] ++ (Qaf b ++ ([(ldR ls 2,⟨#[101,108,115,101]⟩)] ++ Qaf c)))):=by
 rw [Qdg]
 show Qbw (Qb6 (Qae 19) 3).1 x (ls.drop (Qcg (Qae 19))) (Qae 19) ls [Qaf a,Qaf b,Qaf c] = _
 simp [Qae,Qbw,Qb5,Qcs,Qk2,Qba,ldR]
theorem Zbh (a b:Tr):Qaf (.mk 20 x ls [a,b]) = [(ldR ls 0,⟨#[108,101,116]⟩),(ldR ls 1,x),(ldR ls 2,⟨#[61]⟩)] ++ (Qaf a ++ ([(ldR ls 3,⟨#[105,110]⟩)] ++ Qaf b)):=by
 rw [Qdg]
 show Qbw (Qb6 (Qae 20) 2).1 x (ls.drop (Qcg (Qae 20))) (Qae 20) ls [Qaf a,Qaf b] = _
 simp [Qae,Qbw,Qb5,Qcs,Qe6,Qk2,Qba,ldR]
theorem Zbi (a b:Tr):Qaf (.mk 21 x ls [a,b])=Qaf a ++ ([(ldR ls 0,x)] ++ Qaf b):=by
 rw [Qdg]
 show Qbw (Qb6 (Qae 21) 2).1 x (ls.drop (Qcg (Qae 21))) (Qae 21) ls [Qaf a,Qaf b] = _
 simp [Qae,Qbw,Qb5,Qe6,Qk2,Qba,ldR]
theorem Zbj (a:Tr):Qaf (.mk 22 x ls [a]) = [(ldR ls 0,⟨#[40]⟩)] ++ (Qaf a ++ [(ldR ls 1,⟨#[41]⟩)]):=by
 rw [Qdg]
 show Qbw (Qb6 (Qae 22) 1).1 x (ls.drop (Qcg (Qae 22))) (Qae 22) ls [Qaf a] = _
 simp [Qae,Qbw,Qb5,Qcs,Qk2,Qba,ldR]
def Zkr (k:Int):Option ByteArray :=
 if k=5 then some ⟨#[73,110,116]⟩ else if k=6 then some ⟨#[84,101,120,116]⟩ else if k=7 then some ⟨#[66,111,111,108]⟩
 else if k=13 then some ⟨#[116,114,117,101]⟩ else if k=14 then some ⟨#[102,97,108,115,101]⟩ else if k=15 then some ⟨#[63]⟩ else none
theorem Qfm (k:Int) (y:ByteArray) (h:Zkr k=some y):Qaf (.mk k x ls []) = [(ldR ls 0,y)]:=by
 have:k=5∨k=6∨k=7∨k=13∨k=14∨k=15:=by
  unfold Zkr at h
  repeat' split at h
  all_goals first | omega | simp at h
 rcases this with rfl | rfl | rfl | rfl | rfl | rfl <;> (cases h;rw [Qdg];simp [Tr.kind,Tr.text,Tr.leads,Tr.kids,Qae,Qbw,Qcs,ldR])
theorem Qh2 (k:Int) (h:k=9∨k=10∨k=11∨k=12):Qaf (.mk k x ls []) = [(ldR ls 0,x)]:=by
 rcases h with rfl | rfl | rfl | rfl <;> (rw [Qdg];simp [Tr.kind,Tr.text,Tr.leads,Tr.kids,Qae,Qbw,Qe6,ldR])
end
end Go.Proofs.YtclkilljmdkfaaaGreat
