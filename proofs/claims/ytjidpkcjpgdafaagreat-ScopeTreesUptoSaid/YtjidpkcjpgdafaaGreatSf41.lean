/- Part 41 -/
import Derived.Test.YtjidpkcjpgdafaaGreatSf40
set_option maxRecDepth 100000
set_option maxHeartbeats 4000000
namespace Go.Proofs.YtjidpkcjpgdafaaGreat
open Go.RowKit
theorem depthT_eq (t:Tr):Qh5 t=Qdo t.kids+1:=by cases t;rw [Qh5];rfl
theorem Qyu (N:Nat):∀ (S:Nat→Prop) (t:Tr) (v:TV) (w:World),SizeOf.sizeOf t≤N→TrAt S w t v→Qam t≤140737488355328 →
  Calls Tryz.prog 110 #[.agg #[.int .i64 v.kind,.string v.text,.slice v.la v.ll v.lc,.slice v.ka v.kl v.kc]] w fun e w'=>e = .returned (.int .i64 (Qh5 t:Nat))∧Below w.heap.size w w':=by
 induction N with
 | zero=>intro S t v w h;have:=Qh7 t;omega
 | succ N ih =>
  intro S t v w hN h hz
  have HIH:=hQ ih
  have HB0:=hQ ((xC w.heap.size w).alloc (xA _) (trO v))
  have HT:=hQ (h.keep HB0.out)
  have HX:=hQ (xH w (trO v))
  have HZ:=hQ hz
  have HN:=hQ hN
  have hkl:=h.kl.1
  obtain ⟨vk,vx,vla,vll,vlc,vka,vkl,vkc⟩:=v
  simp only at hkl
  subst hkl
  have hmax:t.kids.length≤140737488355328:=by have:=Qbn t.kids;rw [Qa5] at hz;omega
  have HMX:=hQ hmax
  clear ih h hz hN
  have k3:(w.alloc (trO ⟨vk,vx,vla,vll,vlc,vka,t.kids.length,vkc⟩)).cell? ⟨w.heap.size,3,none⟩=some (.slice vka t.kids.length vkc):=Qaa HX.out 3 _ rfl
  go_enter Tryz.func110,Tryz.ntmps110
  go_wp2
  clear k3
  go_loopw [3,4] (fun n i wr=>Qo6 (fun l=>Qdo l) t (w.alloc (trO ⟨vk,vx,vla,vll,vlc,vka,t.kids.length,vkc⟩)) n i wr) (fun _ i _=>t.kids.length-(intOf i).toNat)
  case atStart=>exact ⟨0,rfl,xZ _,rfl,xC _ _⟩
  case round =>
   obtain ⟨j,rfl,hj,rfl,hb⟩:=hrel
   have HBR:=hQ hb
   have hx:=(hb.block w.heap.size (Qab HX.out)).trans HX.out
   have k3:wr.cell? ⟨w.heap.size,3,none⟩=some (.slice vka t.kids.length vkc):=Qaa hx 3 _ rfl
   clear hb hx
   by_cases hlt:j<t.kids.length
   ·obtain ⟨k,hk⟩:∃ k,t.kids[j]? = some k:=⟨_,xF hlt⟩
    obtain ⟨b,off,hka⟩:∃ b off,vka=some ⟨b,off,none⟩:=HT.out.addr.resolve_left (by omega)
    subst hka
    obtain ⟨u,c0,c1,c2,c3,hu⟩:=(HT.out.keep HBR.out).at rfl hk
    have HU:=hQ hu
    have HS1:=hQ (Qcl hk)
    have HD1:=hQ (Qhi hk)
    have hs:=Qcq t.kids (j+1)
    have hs0:=Qcl hk
    have hds:=Qdp (t.kids.take j)
    have hdk:=Qcr k
    have HSK:=hQ (xQ (Qe9 hk) HZ.out)
    have HNK:=hQ (show SizeOf.sizeOf k≤N from by have:=Qd1 hk;have:=HN.out;omega)
    have hz:=HZ.out
    rw [Qa5] at hz
    have q1:((Qbb (t.kids.take j):Nat):Int)+(Qam k:Nat)+1≤140737488355328:=by omega
    have q2:((Qdo (t.kids.take j):Nat):Int)≤140737488355328:=by omega
    have q3:((Qh5 k:Nat):Int)+1≤140737488355329:=by omega
    have hj0:(0:Int)≤(j:Int):=by omega
    have hj1:(j:Int)<(t.kids.length:Int):=by omega
    have hj2:(j:Int)+1≤140737488355328:=by omega
    clear hk hu hs hs0 hds hdk hz
    go_wp2_with (go_at_call 110;refine (HIH.out S k u _ HNK.out (HU.out.keep (xC _ _)) HSK.out).mono ?_;rintro e w2 ⟨rfl,hb2⟩;have HB2:=hQ (HBR.out.trans (hb2.mono HBR.out.size));clear hb2)
    go_roundw
    case rel=>exact ⟨j+1,by go_num,by omega,by show _=Value.int .i64 ((Qdo (t.kids.take (j+1)):Nat):Int);rw [HD1.out];go_num,HB2.out⟩
    case measure=>simp [intOf];omega
   ·have hjn:j=t.kids.length:=by omega
    subst hjn
    have HR:=hQ (show Qh5 t=Qdo (t.kids.take t.kids.length)+1 from by rw [depthT_eq,List.take_length])
    have hz:=HZ.out
    have h1:=Qcr t
    have h2:=HR.out
    go_wp2
    go_ret
    exact ⟨Qbi (by have h3:=depthT_eq t;unfold wrap64;omega),HB0.out.trans (HBR.out.mono (by simp))⟩
def Qi0 (k:Int):Bool:=decide (10≤k) && decide (k≤22) && (k != 17)
def Qg7 (k:Int):Bool:=Qi0 k && (k != 19) && (k != 20) && (k != 21)
theorem Qfu (k:Int):Qi0 k=Qd9 5 k:=by
 unfold Qi0 Qd9
 by_cases h17:k=17
 ·subst h17;rfl
 ·by_cases h19:k=19
  ·subst h19;rfl
  ·by_cases h20:k=20
   ·subst h20;rfl
   ·by_cases h21:k=21
    ·subst h21;rfl
    ·simp [h17,h19,h20,h21]
theorem Qux (k:Int):Qg7 k=Qd9 7 k:=by
 unfold Qg7 Qi0 Qd9
 by_cases h17:k=17
 ·subst h17;rfl
 ·by_cases h19:k=19
  ·subst h19;rfl
  ·by_cases h20:k=20
   ·subst h20;rfl
   ·by_cases h21:k=21
    ·subst h21;rfl
    ·have b17:(k != 17)=true:=bne_iff_ne.2 h17
     have b19:(k != 19)=true:=bne_iff_ne.2 h19
     have b20:(k != 20)=true:=bne_iff_ne.2 h20
     have b21:(k != 21)=true:=bne_iff_ne.2 h21
     have c21:(k==21)=false:=Qdh h21
     rw [xN (by decide),xN (by decide),xN (by decide),xN (by decide),xN h17,xN (fun h=>by omega),xN h21]
     simp only [b17,b19,b20,b21,Bool.and_true]
theorem Qsc (k:Int):(Qg7 k || k==21)=Qd9 6 k:=by
 unfold Qg7 Qi0 Qd9
 by_cases h17:k=17
 ·subst h17;rfl
 ·by_cases h19:k=19
  ·subst h19;rfl
  ·by_cases h20:k=20
   ·subst h20;rfl
   ·by_cases h21:k=21
    ·subst h21;rfl
    ·have b17:(k != 17)=true:=bne_iff_ne.2 h17
     have b19:(k != 19)=true:=bne_iff_ne.2 h19
     have b20:(k != 20)=true:=bne_iff_ne.2 h20
     have b21:(k != 21)=true:=bne_iff_ne.2 h21
     have c21:(k==21)=false:=Qdh h21
     rw [xN (by decide),xN (by decide),xN (by decide),xN (by decide),xN h17,xN (fun h=>by omega),xN h21]
     simp only [b17,b19,b20,b21,Bool.and_true,c21,Bool.or_false]
theorem Qby (k:Int) (w:World):Calls Tryz.prog 203 #[.int .i64 k] w fun e w'=>e = .returned (.bool (Qd9 3 k))∧w=w':=by
 go_enter Tryz.func203,Tryz.ntmps203
 go_wp2
 all_goals
  go_ret
  exact ⟨Qag (by simp_all [Qd9];try omega),rfl⟩
theorem Qbl (k:Int) (w:World):Calls Tryz.prog 53 #[.int .i64 k] w fun e w'=>e = .returned (.bool (Qi0 k))∧w=w':=by
 go_enter Tryz.func53,Tryz.ntmps53
 go_wp2
 all_goals
  go_ret
  exact ⟨Qag (by simp_all [Qi0];try omega),rfl⟩
theorem Qbz (k:Int) (w:World):Calls Tryz.prog 204 #[.int .i64 k] w fun e w'=>e = .returned (.bool (Qg7 k))∧w=w':=by
 have HR:=hQ (show Qg7 k=(Qi0 k && (k != 19) && (k != 20) && (k != 21)) from rfl)
 cases hx:Qi0 k
 ·go_enter Tryz.func204,Tryz.ntmps204
  go_wp2_with (go_at_call 53;refine (Qbl _ _).mono ?_;rw [hx];rintro e w' ⟨rfl,rfl⟩)
  go_ret
  exact ⟨Qag (by rw [HR.out,hx];rfl),rfl⟩
 ·go_enter Tryz.func204,Tryz.ntmps204
  go_wp2_with (go_at_call 53;refine (Qbl _ _).mono ?_;rw [hx];rintro e w' ⟨rfl,rfl⟩)
  all_goals
   go_ret
   exact ⟨Qag (by rw [HR.out,hx];simp_all),rfl⟩
theorem Qyv (s:ByteArray) (w:World) (h0:(s.toList == [43])=true):Calls Tryz.prog 202 #[.string s] w fun e w'=>e = .returned (.bool (opB s))∧w=w':=by
 have HR:=hQ (show opB s=true from by unfold opB;simp only [←Qaq,h0];rfl)
 go_enter Tryz.func202,Tryz.ntmps202
 go_wp2
 go_ret
 exact ⟨by rw [HR.out];rfl,rfl⟩
theorem Qyw (s:ByteArray) (w:World) (h0:(s.toList == [43])=false) (h1:(s.toList == [45])=true):Calls Tryz.prog 202 #[.string s] w fun e w'=>e = .returned (.bool (opB s))∧w=w':=by
 have HR:=hQ (show opB s=true from by unfold opB;simp only [←Qaq,h0,h1];rfl)
 go_enter Tryz.func202,Tryz.ntmps202
 go_wp2
 go_ret
 exact ⟨by rw [HR.out];rfl,rfl⟩
theorem Qyx (s:ByteArray) (w:World) (h0:(s.toList == [43])=false) (h1:(s.toList == [45])=false) (h2:(s.toList == [42])=true):Calls Tryz.prog 202 #[.string s] w fun e w'=>e = .returned (.bool (opB s))∧w=w':=by
 have HR:=hQ (show opB s=true from by unfold opB;simp only [←Qaq,h0,h1,h2];rfl)
 go_enter Tryz.func202,Tryz.ntmps202
 go_wp2
 go_ret
 exact ⟨by rw [HR.out];rfl,rfl⟩
theorem Qyy (s:ByteArray) (w:World) (h0:(s.toList == [43])=false) (h1:(s.toList == [45])=false) (h2:(s.toList == [42])=false) (h3:(s.toList == [60])=true):Calls Tryz.prog 202 #[.string s] w fun e w'=>e = .returned (.bool (opB s))∧w=w':=by
 have HR:=hQ (show opB s=true from by unfold opB;simp only [←Qaq,h0,h1,h2,h3];rfl)
 go_enter Tryz.func202,Tryz.ntmps202
 go_wp2
 go_ret
 exact ⟨by rw [HR.out];rfl,rfl⟩
theorem Qyz (s:ByteArray) (w:World) (h0:(s.toList == [43])=false) (h1:(s.toList == [45])=false) (h2:(s.toList == [42])=false) (h3:(s.toList == [60])=false) (h4:(s.toList == [61,61])=true):Calls Tryz.prog 202 #[.string s] w fun e w'=>e = .returned (.bool (opB s))∧w=w':=by
 have HR:=hQ (show opB s=true from by unfold opB;simp only [←Qaq,h0,h1,h2,h3,h4];rfl)
 go_enter Tryz.func202,Tryz.ntmps202
 go_wp2
 go_ret
 exact ⟨by rw [HR.out];rfl,rfl⟩
theorem Qy0 (s:ByteArray) (w:World) (h0:(s.toList == [43])=false) (h1:(s.toList == [45])=false) (h2:(s.toList == [42])=false) (h3:(s.toList == [60])=false) (h4:(s.toList == [61,61])=false):Calls Tryz.prog 202 #[.string s] w fun e w'=>e = .returned (.bool (opB s))∧w=w':=by
 have HR:=hQ (show opB s=false from by unfold opB;simp only [←Qaq,h0,h1,h2,h3,h4];rfl)
 go_enter Tryz.func202,Tryz.ntmps202
 go_wp2
 go_ret
 exact ⟨by rw [HR.out];rfl,rfl⟩
theorem Quy (s:ByteArray) (w:World):Calls Tryz.prog 202 #[.string s] w fun e w'=>e = .returned (.bool (opB s))∧w=w':=by
 cases h0:(s.toList == [43])
 case true=>exact Qyv s w h0
 cases h1:(s.toList == [45])
 case true=>exact Qyw s w h0 h1
 cases h2:(s.toList == [42])
 case true=>exact Qyx s w h0 h1 h2
 cases h3:(s.toList == [60])
 case true=>exact Qyy s w h0 h1 h2 h3
 cases h4:(s.toList == [61,61])
 case true=>exact Qyz s w h0 h1 h2 h3 h4
 exact Qy0 s w h0 h1 h2 h3 h4
theorem Qpn (s:ByteArray) (w:World) (hs:s.size<maxLen):Calls Tryz.prog 146 #[.int .i64 1,.string s] w fun e w'=>e = .returned (.bool (Qa4 (Qae 1) s))∧Below w.heap.size w w':=by
 have HS:=hQ hs
 have HR:=hQ (show Qa4 (Qae 1) s=Qa9 1 (Qa6 (suf s 0):Nat) s from rfl)
 clear hs
 go_enter Tryz.func146,Tryz.ntmps146
 go_wp2_with (first | (go_at_call 201;refine (Qca s _ HS.out).mono ?_;rintro e w1 ⟨rfl,hb1⟩;have HB1:=hQ hb1;clear hb1))
 all_goals
  go_ret
  exact ⟨Qag (by first | exact HR.out.symm | (rw [HR.out];simp_all [Qa9];done) | (rw [HR.out];simp [Qa9];omega)),HB1.out⟩
theorem Qpo (s:ByteArray) (w:World) (hs:s.size<maxLen):Calls Tryz.prog 146 #[.int .i64 2,.string s] w fun e w'=>e = .returned (.bool (Qa4 (Qae 2) s))∧Below w.heap.size w w':=by
 have HS:=hQ hs
 have HR:=hQ (show Qa4 (Qae 2) s=Qa9 2 (Qa6 (suf s 0):Nat) s from rfl)
 clear hs
 go_enter Tryz.func146,Tryz.ntmps146
 go_wp2_with (first | (go_at_call 201;refine (Qca s _ HS.out).mono ?_;rintro e w1 ⟨rfl,hb1⟩;have HB1:=hQ hb1;clear hb1))
 all_goals
  go_ret
  exact ⟨Qag (by first | exact HR.out.symm | (rw [HR.out];simp_all [Qa9];done) | (rw [HR.out];simp [Qa9];omega)),HB1.out⟩
theorem Qpp (s:ByteArray) (w:World) (hs:s.size<maxLen):Calls Tryz.prog 146 #[.int .i64 3,.string s] w fun e w'=>e = .returned (.bool (Qa4 (Qae 3) s))∧Below w.heap.size w w':=by
 have HS:=hQ hs
 have HR:=hQ (show Qa4 (Qae 3) s=Qa9 1 (Qa6 (suf s 0):Nat) s from rfl)
 clear hs
 go_enter Tryz.func146,Tryz.ntmps146
 go_wp2_with (first | (go_at_call 201;refine (Qca s _ HS.out).mono ?_;rintro e w1 ⟨rfl,hb1⟩;have HB1:=hQ hb1;clear hb1))
 all_goals
  go_ret
  exact ⟨Qag (by first | exact HR.out.symm | (rw [HR.out];simp_all [Qa9];done) | (rw [HR.out];simp [Qa9];omega)),HB1.out⟩
theorem Qpq (s:ByteArray) (w:World) (hs:s.size<maxLen):Calls Tryz.prog 146 #[.int .i64 4,.string s] w fun e w'=>e = .returned (.bool (Qa4 (Qae 4) s))∧Below w.heap.size w w':=by
 have HS:=hQ hs
 have HR:=hQ (show Qa4 (Qae 4) s=Qa9 2 (Qa6 (suf s 0):Nat) s from rfl)
 clear hs
 go_enter Tryz.func146,Tryz.ntmps146
 go_wp2_with (first | (go_at_call 201;refine (Qca s _ HS.out).mono ?_;rintro e w1 ⟨rfl,hb1⟩;have HB1:=hQ hb1;clear hb1))
 all_goals
  go_ret
  exact ⟨Qag (by first | exact HR.out.symm | (rw [HR.out];simp_all [Qa9];done) | (rw [HR.out];simp [Qa9];omega)),HB1.out⟩
theorem Qpr (s:ByteArray) (w:World) (hs:s.size<maxLen):Calls Tryz.prog 146 #[.int .i64 9,.string s] w fun e w'=>e = .returned (.bool (Qa4 (Qae 9) s))∧Below w.heap.size w w':=by
 have HS:=hQ hs
 have HR:=hQ (show Qa4 (Qae 9) s=Qa9 3 (Qa6 (suf s 0):Nat) s from rfl)
 clear hs
 go_enter Tryz.func146,Tryz.ntmps146
 go_wp2_with (first | (go_at_call 201;refine (Qca s _ HS.out).mono ?_;rintro e w1 ⟨rfl,hb1⟩;have HB1:=hQ hb1;clear hb1))
 all_goals
  go_ret
  exact ⟨Qag (by first | exact HR.out.symm | (rw [HR.out];simp_all [Qa9];done) | (rw [HR.out];simp [Qa9];omega)),HB1.out⟩
theorem Qny (s:ByteArray) (w:World) (hs:s.size<maxLen):Calls Tryz.prog 146 #[.int .i64 10,.string s] w fun e w'=>e = .returned (.bool (Qa4 (Qae 10) s))∧Below w.heap.size w w':=by
 have HS:=hQ hs
 have HR:=hQ (show Qa4 (Qae 10) s=Qa9 5 (Qa6 (suf s 0):Nat) s from rfl)
 clear hs
 go_enter Tryz.func146,Tryz.ntmps146
 go_wp2_with (first | (go_at_call 201;refine (Qca s _ HS.out).mono ?_;rintro e w1 ⟨rfl,hb1⟩;have HB1:=hQ hb1;clear hb1))
 all_goals
  go_ret
  exact ⟨Qag (by first | exact HR.out.symm | (rw [HR.out];simp_all [Qa9];done) | (rw [HR.out];simp [Qa9];omega)),HB1.out⟩
theorem Qnz (s:ByteArray) (w:World) (hs:s.size<maxLen):Calls Tryz.prog 146 #[.int .i64 11,.string s] w fun e w'=>e = .returned (.bool (Qa4 (Qae 11) s))∧Below w.heap.size w w':=by
 have HS:=hQ hs
 have HR:=hQ (show Qa4 (Qae 11) s=Qa9 6 (Qa6 (suf s 0):Nat) s from rfl)
 clear hs
 go_enter Tryz.func146,Tryz.ntmps146
 go_wp2_with (first | (go_at_call 201;refine (Qca s _ HS.out).mono ?_;rintro e w1 ⟨rfl,hb1⟩;have HB1:=hQ hb1;clear hb1))
 all_goals
  go_ret
  exact ⟨Qag (by first | exact HR.out.symm | (rw [HR.out];simp_all [Qa9];done) | (rw [HR.out];simp [Qa9];omega)),HB1.out⟩
theorem Qn0 (s:ByteArray) (w:World) (hs:s.size<maxLen):Calls Tryz.prog 146 #[.int .i64 12,.string s] w fun e w'=>e = .returned (.bool (Qa4 (Qae 12) s))∧Below w.heap.size w w':=by
 have HS:=hQ hs
 have HR:=hQ (show Qa4 (Qae 12) s=Qa9 2 (Qa6 (suf s 0):Nat) s from rfl)
 clear hs
 go_enter Tryz.func146,Tryz.ntmps146
 go_wp2_with (first | (go_at_call 201;refine (Qca s _ HS.out).mono ?_;rintro e w1 ⟨rfl,hb1⟩;have HB1:=hQ hb1;clear hb1))
 all_goals
  go_ret
  exact ⟨Qag (by first | exact HR.out.symm | (rw [HR.out];simp_all [Qa9];done) | (rw [HR.out];simp [Qa9];omega)),HB1.out⟩
theorem Qn1 (s:ByteArray) (w:World) (hs:s.size<maxLen):Calls Tryz.prog 146 #[.int .i64 16,.string s] w fun e w'=>e = .returned (.bool (Qa4 (Qae 16) s))∧Below w.heap.size w w':=by
 have HS:=hQ hs
 have HR:=hQ (show Qa4 (Qae 16) s=Qa9 4 (Qa6 (suf s 0):Nat) s from rfl)
 clear hs
 go_enter Tryz.func146,Tryz.ntmps146
 go_wp2_with (first | (go_at_call 201;refine (Qca s _ HS.out).mono ?_;rintro e w1 ⟨rfl,hb1⟩;have HB1:=hQ hb1;clear hb1))
 all_goals
  go_ret
  exact ⟨Qag (by first | exact HR.out.symm | (rw [HR.out];simp_all [Qa9];done) | (rw [HR.out];simp [Qa9];omega)),HB1.out⟩
theorem Qn2 (s:ByteArray) (w:World) (hs:s.size<maxLen):Calls Tryz.prog 146 #[.int .i64 20,.string s] w fun e w'=>e = .returned (.bool (Qa4 (Qae 20) s))∧Below w.heap.size w w':=by
 have HS:=hQ hs
 have HR:=hQ (show Qa4 (Qae 20) s=Qa9 2 (Qa6 (suf s 0):Nat) s from rfl)
 clear hs
 go_enter Tryz.func146,Tryz.ntmps146
 go_wp2_with (first | (go_at_call 201;refine (Qca s _ HS.out).mono ?_;rintro e w1 ⟨rfl,hb1⟩;have HB1:=hQ hb1;clear hb1))
 all_goals
  go_ret
  exact ⟨Qag (by first | exact HR.out.symm | (rw [HR.out];simp_all [Qa9];done) | (rw [HR.out];simp [Qa9];omega)),HB1.out⟩
theorem Qn3 (s:ByteArray) (w:World) (hs:s.size<maxLen):Calls Tryz.prog 146 #[.int .i64 21,.string s] w fun e w'=>e = .returned (.bool (Qa4 (Qae 21) s))∧Below w.heap.size w w':=by
 have HS:=hQ hs
 have HR:=hQ (show Qa4 (Qae 21) s=Qa9 7 (Qa6 (suf s 0):Nat) s from rfl)
 clear hs
 go_enter Tryz.func146,Tryz.ntmps146
 go_wp2_with (first | (go_at_call 201;refine (Qca s _ HS.out).mono ?_;rintro e w1 ⟨rfl,hb1⟩;have HB1:=hQ hb1;clear hb1) | (go_at_call 202;refine (Quy s _).mono ?_;rintro e w2 ⟨rfl,rfl⟩))
 all_goals
  go_ret
  exact ⟨Qag (by first | exact HR.out.symm | (rw [HR.out];simp_all [Qa9];done) | (rw [HR.out];simp [Qa9];omega)),HB1.out⟩
theorem Qz0 (s:ByteArray):is s [] = s.toList.isEmpty:=by
 rw [←Qaq]
 cases s.toList <;> rfl
theorem Qps (k:Int) (s:ByteArray) (h:k≠1∧k≠2∧k≠3∧k≠4∧k≠9∧k≠10∧k≠11∧k≠12∧k≠16∧k≠20∧k≠21):Qa4 (Qae k) s=is s []:=by
 by_cases h0:k≤0∨23≤k
 ·rw [Qee h0];rfl
 ·rcases (show k=5∨k=6∨k=7∨k=8∨k=13∨k=14∨k=15∨k=17∨k=18∨k=19∨k=22 from by omega) with rfl | rfl | rfl | rfl | rfl | rfl | rfl | rfl | rfl | rfl | rfl <;> rfl
theorem Qkr (k:Int) (s:ByteArray) (w:World) (hs:s.size<maxLen) (h:k≠1∧k≠2∧k≠3∧k≠4∧k≠9∧k≠10∧k≠11∧k≠12∧k≠16∧k≠20∧k≠21):Calls Tryz.prog 146 #[.int .i64 k,.string s] w fun e w'=>e = .returned (.bool (Qa4 (Qae k) s))∧Below w.heap.size w w':=by
 have HS:=hQ hs
 have HR:=hQ ((Qps k s h).trans (Qz0 s))
 have e1:=Qdh (show k≠1 from by omega)
 have e2:=Qdh (show k≠2 from by omega)
 have e3:=Qdh (show k≠3 from by omega)
 have e4:=Qdh (show k≠4 from by omega)
 have e9:=Qdh (show k≠9 from by omega)
 have e10:=Qdh (show k≠10 from by omega)
 have e11:=Qdh (show k≠11 from by omega)
 have e12:=Qdh (show k≠12 from by omega)
 have e16:=Qdh (show k≠16 from by omega)
 have e20:=Qdh (show k≠20 from by omega)
 have e21:=Qdh (show k≠21 from by omega)
 clear hs h
 go_enter Tryz.func146,Tryz.ntmps146
 go_wp2_with (go_at_call 201;refine (Qca s _ HS.out).mono ?_;rintro e w1 ⟨rfl,hb1⟩;have HB1:=hQ hb1;clear hb1)
 go_ret
 exact ⟨Qag (by first | exact HR.out.symm | (rw [HR.out];simp;done)),HB1.out⟩
theorem Qid (k:Int) (s:ByteArray) (w:World) (hs:s.size<maxLen):Calls Tryz.prog 146 #[.int .i64 k,.string s] w fun e w'=>e = .returned (.bool (Qa4 (Qae k) s))∧Below w.heap.size w w':=by
 by_cases h:k≠1∧k≠2∧k≠3∧k≠4∧k≠9∧k≠10∧k≠11∧k≠12∧k≠16∧k≠20∧k≠21
 ·exact Qkr k s w hs h
 ·rcases (show k=1∨k=2∨k=3∨k=4∨k=9∨k=10∨k=11∨k=12∨k=16∨k=20∨k=21 from by omega) with rfl | rfl | rfl | rfl | rfl | rfl | rfl | rfl | rfl | rfl | rfl
  ·exact Qpn s w hs
  ·exact Qpo s w hs
  ·exact Qpp s w hs
  ·exact Qpq s w hs
  ·exact Qpr s w hs
  ·exact Qny s w hs
  ·exact Qnz s w hs
  ·exact Qn0 s w hs
  ·exact Qn1 s w hs
  ·exact Qn2 s w hs
  ·exact Qn3 s w hs
def Qe5 (tk:Int) (n i:Nat) (k:Int):Bool :=
 if tk=1 then k==2 || k==3
 else if tk=2 then (if i+1=n then Qi0 k else if i+2=n then Qd9 3 k else k==4)
 else if tk=3∨tk=4∨tk=8 then Qd9 3 k
 else if tk=16 then k==17
 else if tk=21 then (Qg7 k || (decide (i=0) && k==21))
 else Qi0 k
theorem Qz1 (vx:ByteArray) (vla:Option Addr) (vll vlc:Nat) (vka:Option Addr) (vkl vkc i:Nat) (k:Int) (w:World) (_hi:i<1000) (_hn:vkl≤1000):Calls Tryz.prog 147 #[.agg #[.int .i64 1,.string vx,.slice vla vll vlc,.slice vka vkl vkc],.int .i64 i,.int .i64 k] w fun e w'=>e = .returned (.bool (Qe5 1 vkl i k))∧Below w.heap.size w w':=by
 have HX:=hQ (xH w (.cells #[.int .i64 1,.string vx,.slice vla vll vlc,.slice vka vkl vkc] 29))
 have HB0:=hQ ((xC w.heap.size w).alloc (xA _) (.cells #[.int .i64 1,.string vx,.slice vla vll vlc,.slice vka vkl vkc] 29))
 have k0:(w.alloc (.cells #[.int .i64 1,.string vx,.slice vla vll vlc,.slice vka vkl vkc] 29)).cell? ⟨w.heap.size,0,none⟩=some (.int .i64 1):=Qaa HX.out 0 _ rfl
 have k3:(w.alloc (.cells #[.int .i64 1,.string vx,.slice vla vll vlc,.slice vka vkl vkc] 29)).cell? ⟨w.heap.size,3,none⟩=some (.slice vka vkl vkc):=Qaa HX.out 3 _ rfl
 have HR:=hQ (show Qe5 1 vkl i k=(k==2 || k==3) from rfl)
 go_enter Tryz.func147,Tryz.ntmps147
 go_wp2_with (first | (go_at_call 53;refine (Qbl _ _).mono ?_;rintro e w1 ⟨rfl,rfl⟩) | (go_at_call 203;refine (Qby _ _).mono ?_;rintro e w1 ⟨rfl,rfl⟩) | (go_at_call 204;refine (Qbz _ _).mono ?_;rintro e w1 ⟨rfl,rfl⟩))
 all_goals
  go_ret
  exact ⟨Qag (by first | exact HR.out.symm | (rw [HR.out];done) | (rw [HR.out];simp_all;done)),HB0.out⟩
theorem Qy1 (vx:ByteArray) (vla:Option Addr) (vll vlc:Nat) (vka:Option Addr) (vkl vkc i:Nat) (k:Int) (w:World) (_hi:i<1000) (_hn:vkl≤1000) (h:i+1=vkl):Calls Tryz.prog 147 #[.agg #[.int .i64 2,.string vx,.slice vla vll vlc,.slice vka vkl vkc],.int .i64 i,.int .i64 k] w fun e w'=>e = .returned (.bool (Qe5 2 vkl i k))∧Below w.heap.size w w':=by
 have HX:=hQ (xH w (.cells #[.int .i64 2,.string vx,.slice vla vll vlc,.slice vka vkl vkc] 29))
 have HB0:=hQ ((xC w.heap.size w).alloc (xA _) (.cells #[.int .i64 2,.string vx,.slice vla vll vlc,.slice vka vkl vkc] 29))
 have k0:(w.alloc (.cells #[.int .i64 2,.string vx,.slice vla vll vlc,.slice vka vkl vkc] 29)).cell? ⟨w.heap.size,0,none⟩=some (.int .i64 2):=Qaa HX.out 0 _ rfl
 have k3:(w.alloc (.cells #[.int .i64 2,.string vx,.slice vla vll vlc,.slice vka vkl vkc] 29)).cell? ⟨w.heap.size,3,none⟩=some (.slice vka vkl vkc):=Qaa HX.out 3 _ rfl
 have HR:=hQ (show Qe5 2 vkl i k=Qi0 k from by unfold Qe5;rw [xN (by decide),xO rfl,xO h])
 have d1:((i:Int)==(vkl:Int)-1)=true:=beq_iff_eq.2 (by omega)
 clear h
 go_enter Tryz.func147,Tryz.ntmps147
 go_wp2_with (first | (go_at_call 53;refine (Qbl _ _).mono ?_;rintro e w1 ⟨rfl,rfl⟩) | (go_at_call 203;refine (Qby _ _).mono ?_;rintro e w1 ⟨rfl,rfl⟩) | (go_at_call 204;refine (Qbz _ _).mono ?_;rintro e w1 ⟨rfl,rfl⟩))
 all_goals
  go_ret
  exact ⟨Qag (by first | exact HR.out.symm | (rw [HR.out];done) | (rw [HR.out];simp_all;done)),HB0.out⟩
theorem Qy2 (vx:ByteArray) (vla:Option Addr) (vll vlc:Nat) (vka:Option Addr) (vkl vkc i:Nat) (k:Int) (w:World) (_hi:i<1000) (_hn:vkl≤1000) (h1:i+1≠vkl) (h:i+2=vkl):Calls Tryz.prog 147 #[.agg #[.int .i64 2,.string vx,.slice vla vll vlc,.slice vka vkl vkc],.int .i64 i,.int .i64 k] w fun e w'=>e = .returned (.bool (Qe5 2 vkl i k))∧Below w.heap.size w w':=by
 have HX:=hQ (xH w (.cells #[.int .i64 2,.string vx,.slice vla vll vlc,.slice vka vkl vkc] 29))
 have HB0:=hQ ((xC w.heap.size w).alloc (xA _) (.cells #[.int .i64 2,.string vx,.slice vla vll vlc,.slice vka vkl vkc] 29))
 have k0:(w.alloc (.cells #[.int .i64 2,.string vx,.slice vla vll vlc,.slice vka vkl vkc] 29)).cell? ⟨w.heap.size,0,none⟩=some (.int .i64 2):=Qaa HX.out 0 _ rfl
 have k3:(w.alloc (.cells #[.int .i64 2,.string vx,.slice vla vll vlc,.slice vka vkl vkc] 29)).cell? ⟨w.heap.size,3,none⟩=some (.slice vka vkl vkc):=Qaa HX.out 3 _ rfl
 have HR:=hQ (show Qe5 2 vkl i k=Qd9 3 k from by unfold Qe5;rw [xN (by decide),xO rfl,xN h1,xO h])
 have d1:((i:Int)==(vkl:Int)-1)=false:=beq_eq_false_iff_ne.2 (by omega)
 have d2:((i:Int)==(vkl:Int)-2)=true:=beq_iff_eq.2 (by omega)
 clear h h1
 go_enter Tryz.func147,Tryz.ntmps147
 go_wp2_with (first | (go_at_call 53;refine (Qbl _ _).mono ?_;rintro e w1 ⟨rfl,rfl⟩) | (go_at_call 203;refine (Qby _ _).mono ?_;rintro e w1 ⟨rfl,rfl⟩) | (go_at_call 204;refine (Qbz _ _).mono ?_;rintro e w1 ⟨rfl,rfl⟩))
 all_goals
  go_ret
  exact ⟨Qag (by first | exact HR.out.symm | (rw [HR.out];done) | (rw [HR.out];simp_all;done)),HB0.out⟩
theorem Qy3 (vx:ByteArray) (vla:Option Addr) (vll vlc:Nat) (vka:Option Addr) (vkl vkc i:Nat) (k:Int) (w:World) (_hi:i<1000) (_hn:vkl≤1000) (h1:i+1≠vkl) (h:i+2≠vkl):Calls Tryz.prog 147 #[.agg #[.int .i64 2,.string vx,.slice vla vll vlc,.slice vka vkl vkc],.int .i64 i,.int .i64 k] w fun e w'=>e = .returned (.bool (Qe5 2 vkl i k))∧Below w.heap.size w w':=by
 have HX:=hQ (xH w (.cells #[.int .i64 2,.string vx,.slice vla vll vlc,.slice vka vkl vkc] 29))
 have HB0:=hQ ((xC w.heap.size w).alloc (xA _) (.cells #[.int .i64 2,.string vx,.slice vla vll vlc,.slice vka vkl vkc] 29))
 have k0:(w.alloc (.cells #[.int .i64 2,.string vx,.slice vla vll vlc,.slice vka vkl vkc] 29)).cell? ⟨w.heap.size,0,none⟩=some (.int .i64 2):=Qaa HX.out 0 _ rfl
 have k3:(w.alloc (.cells #[.int .i64 2,.string vx,.slice vla vll vlc,.slice vka vkl vkc] 29)).cell? ⟨w.heap.size,3,none⟩=some (.slice vka vkl vkc):=Qaa HX.out 3 _ rfl
 have HR:=hQ (show Qe5 2 vkl i k=(k==4) from by unfold Qe5;rw [xN (by decide),xO rfl,xN h1,xN h])
 have d1:((i:Int)==(vkl:Int)-1)=false:=beq_eq_false_iff_ne.2 (by omega)
 have d2:((i:Int)==(vkl:Int)-2)=false:=beq_eq_false_iff_ne.2 (by omega)
 clear h h1
 go_enter Tryz.func147,Tryz.ntmps147
 go_wp2_with (first | (go_at_call 53;refine (Qbl _ _).mono ?_;rintro e w1 ⟨rfl,rfl⟩) | (go_at_call 203;refine (Qby _ _).mono ?_;rintro e w1 ⟨rfl,rfl⟩) | (go_at_call 204;refine (Qbz _ _).mono ?_;rintro e w1 ⟨rfl,rfl⟩))
 all_goals
  go_ret
  exact ⟨Qag (by first | exact HR.out.symm | (rw [HR.out];done) | (rw [HR.out];simp_all;done)),HB0.out⟩
theorem Qz2 (vx:ByteArray) (vla:Option Addr) (vll vlc:Nat) (vka:Option Addr) (vkl vkc i:Nat) (k:Int) (w:World) (_hi:i<1000) (_hn:vkl≤1000):Calls Tryz.prog 147 #[.agg #[.int .i64 3,.string vx,.slice vla vll vlc,.slice vka vkl vkc],.int .i64 i,.int .i64 k] w fun e w'=>e = .returned (.bool (Qe5 3 vkl i k))∧Below w.heap.size w w':=by
 have HX:=hQ (xH w (.cells #[.int .i64 3,.string vx,.slice vla vll vlc,.slice vka vkl vkc] 29))
 have HB0:=hQ ((xC w.heap.size w).alloc (xA _) (.cells #[.int .i64 3,.string vx,.slice vla vll vlc,.slice vka vkl vkc] 29))
 have k0:(w.alloc (.cells #[.int .i64 3,.string vx,.slice vla vll vlc,.slice vka vkl vkc] 29)).cell? ⟨w.heap.size,0,none⟩=some (.int .i64 3):=Qaa HX.out 0 _ rfl
 have k3:(w.alloc (.cells #[.int .i64 3,.string vx,.slice vla vll vlc,.slice vka vkl vkc] 29)).cell? ⟨w.heap.size,3,none⟩=some (.slice vka vkl vkc):=Qaa HX.out 3 _ rfl
 have HR:=hQ (show Qe5 3 vkl i k=Qd9 3 k from rfl)
 go_enter Tryz.func147,Tryz.ntmps147
 go_wp2_with (first | (go_at_call 53;refine (Qbl _ _).mono ?_;rintro e w1 ⟨rfl,rfl⟩) | (go_at_call 203;refine (Qby _ _).mono ?_;rintro e w1 ⟨rfl,rfl⟩) | (go_at_call 204;refine (Qbz _ _).mono ?_;rintro e w1 ⟨rfl,rfl⟩))
 all_goals
  go_ret
  exact ⟨Qag (by first | exact HR.out.symm | (rw [HR.out];done) | (rw [HR.out];simp_all;done)),HB0.out⟩
theorem Qz3 (vx:ByteArray) (vla:Option Addr) (vll vlc:Nat) (vka:Option Addr) (vkl vkc i:Nat) (k:Int) (w:World) (_hi:i<1000) (_hn:vkl≤1000):Calls Tryz.prog 147 #[.agg #[.int .i64 4,.string vx,.slice vla vll vlc,.slice vka vkl vkc],.int .i64 i,.int .i64 k] w fun e w'=>e = .returned (.bool (Qe5 4 vkl i k))∧Below w.heap.size w w':=by
 have HX:=hQ (xH w (.cells #[.int .i64 4,.string vx,.slice vla vll vlc,.slice vka vkl vkc] 29))
 have HB0:=hQ ((xC w.heap.size w).alloc (xA _) (.cells #[.int .i64 4,.string vx,.slice vla vll vlc,.slice vka vkl vkc] 29))
 have k0:(w.alloc (.cells #[.int .i64 4,.string vx,.slice vla vll vlc,.slice vka vkl vkc] 29)).cell? ⟨w.heap.size,0,none⟩=some (.int .i64 4):=Qaa HX.out 0 _ rfl
 have k3:(w.alloc (.cells #[.int .i64 4,.string vx,.slice vla vll vlc,.slice vka vkl vkc] 29)).cell? ⟨w.heap.size,3,none⟩=some (.slice vka vkl vkc):=Qaa HX.out 3 _ rfl
 have HR:=hQ (show Qe5 4 vkl i k=Qd9 3 k from rfl)
 go_enter Tryz.func147,Tryz.ntmps147
 go_wp2_with (first | (go_at_call 53;refine (Qbl _ _).mono ?_;rintro e w1 ⟨rfl,rfl⟩) | (go_at_call 203;refine (Qby _ _).mono ?_;rintro e w1 ⟨rfl,rfl⟩) | (go_at_call 204;refine (Qbz _ _).mono ?_;rintro e w1 ⟨rfl,rfl⟩))
 all_goals
  go_ret
  exact ⟨Qag (by first | exact HR.out.symm | (rw [HR.out];done) | (rw [HR.out];simp_all;done)),HB0.out⟩
theorem Qz4 (vx:ByteArray) (vla:Option Addr) (vll vlc:Nat) (vka:Option Addr) (vkl vkc i:Nat) (k:Int) (w:World) (_hi:i<1000) (_hn:vkl≤1000):Calls Tryz.prog 147 #[.agg #[.int .i64 8,.string vx,.slice vla vll vlc,.slice vka vkl vkc],.int .i64 i,.int .i64 k] w fun e w'=>e = .returned (.bool (Qe5 8 vkl i k))∧Below w.heap.size w w':=by
 have HX:=hQ (xH w (.cells #[.int .i64 8,.string vx,.slice vla vll vlc,.slice vka vkl vkc] 29))
 have HB0:=hQ ((xC w.heap.size w).alloc (xA _) (.cells #[.int .i64 8,.string vx,.slice vla vll vlc,.slice vka vkl vkc] 29))
 have k0:(w.alloc (.cells #[.int .i64 8,.string vx,.slice vla vll vlc,.slice vka vkl vkc] 29)).cell? ⟨w.heap.size,0,none⟩=some (.int .i64 8):=Qaa HX.out 0 _ rfl
 have k3:(w.alloc (.cells #[.int .i64 8,.string vx,.slice vla vll vlc,.slice vka vkl vkc] 29)).cell? ⟨w.heap.size,3,none⟩=some (.slice vka vkl vkc):=Qaa HX.out 3 _ rfl
 have HR:=hQ (show Qe5 8 vkl i k=Qd9 3 k from rfl)
 go_enter Tryz.func147,Tryz.ntmps147
 go_wp2_with (first | (go_at_call 53;refine (Qbl _ _).mono ?_;rintro e w1 ⟨rfl,rfl⟩) | (go_at_call 203;refine (Qby _ _).mono ?_;rintro e w1 ⟨rfl,rfl⟩) | (go_at_call 204;refine (Qbz _ _).mono ?_;rintro e w1 ⟨rfl,rfl⟩))
 all_goals
  go_ret
  exact ⟨Qag (by first | exact HR.out.symm | (rw [HR.out];done) | (rw [HR.out];simp_all;done)),HB0.out⟩
theorem Qy4 (vx:ByteArray) (vla:Option Addr) (vll vlc:Nat) (vka:Option Addr) (vkl vkc i:Nat) (k:Int) (w:World) (_hi:i<1000) (_hn:vkl≤1000):Calls Tryz.prog 147 #[.agg #[.int .i64 16,.string vx,.slice vla vll vlc,.slice vka vkl vkc],.int .i64 i,.int .i64 k] w fun e w'=>e = .returned (.bool (Qe5 16 vkl i k))∧Below w.heap.size w w':=by
 have HX:=hQ (xH w (.cells #[.int .i64 16,.string vx,.slice vla vll vlc,.slice vka vkl vkc] 29))
 have HB0:=hQ ((xC w.heap.size w).alloc (xA _) (.cells #[.int .i64 16,.string vx,.slice vla vll vlc,.slice vka vkl vkc] 29))
 have k0:(w.alloc (.cells #[.int .i64 16,.string vx,.slice vla vll vlc,.slice vka vkl vkc] 29)).cell? ⟨w.heap.size,0,none⟩=some (.int .i64 16):=Qaa HX.out 0 _ rfl
 have k3:(w.alloc (.cells #[.int .i64 16,.string vx,.slice vla vll vlc,.slice vka vkl vkc] 29)).cell? ⟨w.heap.size,3,none⟩=some (.slice vka vkl vkc):=Qaa HX.out 3 _ rfl
 have HR:=hQ (show Qe5 16 vkl i k=(k==17) from rfl)
 go_enter Tryz.func147,Tryz.ntmps147
 go_wp2_with (first | (go_at_call 53;refine (Qbl _ _).mono ?_;rintro e w1 ⟨rfl,rfl⟩) | (go_at_call 203;refine (Qby _ _).mono ?_;rintro e w1 ⟨rfl,rfl⟩) | (go_at_call 204;refine (Qbz _ _).mono ?_;rintro e w1 ⟨rfl,rfl⟩))
 all_goals
  go_ret
  exact ⟨Qag (by first | exact HR.out.symm | (rw [HR.out];done) | (rw [HR.out];simp_all;done)),HB0.out⟩
theorem Qw3 (vx:ByteArray) (vla:Option Addr) (vll vlc:Nat) (vka:Option Addr) (vkl vkc i:Nat) (k:Int) (w:World) (_hi:i<1000) (_hn:vkl≤1000) (hu:Qg7 k=true):Calls Tryz.prog 147 #[.agg #[.int .i64 21,.string vx,.slice vla vll vlc,.slice vka vkl vkc],.int .i64 i,.int .i64 k] w fun e w'=>e = .returned (.bool (Qe5 21 vkl i k))∧Below w.heap.size w w':=by
 have HX:=hQ (xH w (.cells #[.int .i64 21,.string vx,.slice vla vll vlc,.slice vka vkl vkc] 29))
 have HB0:=hQ ((xC w.heap.size w).alloc (xA _) (.cells #[.int .i64 21,.string vx,.slice vla vll vlc,.slice vka vkl vkc] 29))
 have k0:(w.alloc (.cells #[.int .i64 21,.string vx,.slice vla vll vlc,.slice vka vkl vkc] 29)).cell? ⟨w.heap.size,0,none⟩=some (.int .i64 21):=Qaa HX.out 0 _ rfl
 have k3:(w.alloc (.cells #[.int .i64 21,.string vx,.slice vla vll vlc,.slice vka vkl vkc] 29)).cell? ⟨w.heap.size,3,none⟩=some (.slice vka vkl vkc):=Qaa HX.out 3 _ rfl
 have HR:=hQ (show Qe5 21 vkl i k=true from by show (Qg7 k || (decide (i=0) && k==21))=true;rw [hu];rfl)
 go_enter Tryz.func147,Tryz.ntmps147
 go_wp2_with (first | (go_at_call 53;refine (Qbl _ _).mono ?_;rintro e w1 ⟨rfl,rfl⟩) | (go_at_call 203;refine (Qby _ _).mono ?_;rintro e w1 ⟨rfl,rfl⟩) | (go_at_call 204;refine (Qbz _ _).mono ?_;rw [hu];rintro e w1 ⟨rfl,rfl⟩))
 all_goals
  go_ret
  exact ⟨Qag (by first | exact HR.out.symm | (rw [HR.out];done) | (rw [HR.out];simp_all;done)),HB0.out⟩
theorem Qw4 (vx:ByteArray) (vla:Option Addr) (vll vlc:Nat) (vka:Option Addr) (vkl vkc i:Nat) (k:Int) (w:World) (_hi:i<1000) (_hn:vkl≤1000) (hu:Qg7 k=false):Calls Tryz.prog 147 #[.agg #[.int .i64 21,.string vx,.slice vla vll vlc,.slice vka vkl vkc],.int .i64 i,.int .i64 k] w fun e w'=>e = .returned (.bool (Qe5 21 vkl i k))∧Below w.heap.size w w':=by
 have HX:=hQ (xH w (.cells #[.int .i64 21,.string vx,.slice vla vll vlc,.slice vka vkl vkc] 29))
 have HB0:=hQ ((xC w.heap.size w).alloc (xA _) (.cells #[.int .i64 21,.string vx,.slice vla vll vlc,.slice vka vkl vkc] 29))
 have k0:(w.alloc (.cells #[.int .i64 21,.string vx,.slice vla vll vlc,.slice vka vkl vkc] 29)).cell? ⟨w.heap.size,0,none⟩=some (.int .i64 21):=Qaa HX.out 0 _ rfl
 have k3:(w.alloc (.cells #[.int .i64 21,.string vx,.slice vla vll vlc,.slice vka vkl vkc] 29)).cell? ⟨w.heap.size,3,none⟩=some (.slice vka vkl vkc):=Qaa HX.out 3 _ rfl
 have HR:=hQ (show Qe5 21 vkl i k=(decide (i=0) && k==21) from by show (Qg7 k || (decide (i=0) && k==21))=_;rw [hu];rfl)
 by_cases h0:i=0
 ·subst h0
  go_enter Tryz.func147,Tryz.ntmps147
  go_wp2_with (first | (go_at_call 53;refine (Qbl _ _).mono ?_;rintro e w1 ⟨rfl,rfl⟩) | (go_at_call 203;refine (Qby _ _).mono ?_;rintro e w1 ⟨rfl,rfl⟩) | (go_at_call 204;refine (Qbz _ _).mono ?_;rw [hu];rintro e w1 ⟨rfl,rfl⟩))
  all_goals
   go_ret
   exact ⟨Qag (by first | exact HR.out.symm | (rw [HR.out];simp_all;done)),HB0.out⟩
 ·have d1:((i:Int)==0)=false:=beq_eq_false_iff_ne.2 (by omega)
  have d2:(i==0)=false:=beq_eq_false_iff_ne.2 h0
  have HR2:=hQ (show Qe5 21 vkl i k=false from by rw [HR.out,xR h0];rfl)
  clear h0
  go_enter Tryz.func147,Tryz.ntmps147
  go_wp2_with (first | (go_at_call 53;refine (Qbl _ _).mono ?_;rintro e w1 ⟨rfl,rfl⟩) | (go_at_call 203;refine (Qby _ _).mono ?_;rintro e w1 ⟨rfl,rfl⟩) | (go_at_call 204;refine (Qbz _ _).mono ?_;rw [hu];rintro e w1 ⟨rfl,rfl⟩))
  all_goals
   go_ret
   exact ⟨Qag (by first | exact HR2.out.symm | (rw [HR2.out];simp_all;done)),HB0.out⟩
theorem Qsd (tk:Int) (vx:ByteArray) (vla:Option Addr) (vll vlc:Nat) (vka:Option Addr) (vkl vkc i:Nat) (k:Int) (w:World) (_hi:i<1000) (_hn:vkl≤1000) (h:tk≠1∧tk≠2∧tk≠3∧tk≠4∧tk≠8∧tk≠16∧tk≠21):Calls Tryz.prog 147 #[.agg #[.int .i64 tk,.string vx,.slice vla vll vlc,.slice vka vkl vkc],.int .i64 i,.int .i64 k] w fun e w'=>e = .returned (.bool (Qe5 tk vkl i k))∧Below w.heap.size w w':=by
 have HX:=hQ (xH w (.cells #[.int .i64 tk,.string vx,.slice vla vll vlc,.slice vka vkl vkc] 29))
 have HB0:=hQ ((xC w.heap.size w).alloc (xA _) (.cells #[.int .i64 tk,.string vx,.slice vla vll vlc,.slice vka vkl vkc] 29))
 have k0:(w.alloc (.cells #[.int .i64 tk,.string vx,.slice vla vll vlc,.slice vka vkl vkc] 29)).cell? ⟨w.heap.size,0,none⟩=some (.int .i64 tk):=Qaa HX.out 0 _ rfl
 have k3:(w.alloc (.cells #[.int .i64 tk,.string vx,.slice vla vll vlc,.slice vka vkl vkc] 29)).cell? ⟨w.heap.size,3,none⟩=some (.slice vka vkl vkc):=Qaa HX.out 3 _ rfl
 have HR:=hQ (show Qe5 tk vkl i k=Qi0 k from by unfold Qe5;rw [xN (by omega),xN (by omega),xN (by omega),xN (by omega),xN (by omega)])
 have e1:=Qdh (show tk≠1 from by omega)
 have e2:=Qdh (show tk≠2 from by omega)
 have e3:=Qdh (show tk≠3 from by omega)
 have e4:=Qdh (show tk≠4 from by omega)
 have e8:=Qdh (show tk≠8 from by omega)
 have e16:=Qdh (show tk≠16 from by omega)
 have e21:=Qdh (show tk≠21 from by omega)
 clear h
 go_enter Tryz.func147,Tryz.ntmps147
 go_wp2_with (first | (go_at_call 53;refine (Qbl _ _).mono ?_;rintro e w1 ⟨rfl,rfl⟩) | (go_at_call 203;refine (Qby _ _).mono ?_;rintro e w1 ⟨rfl,rfl⟩) | (go_at_call 204;refine (Qbz _ _).mono ?_;rintro e w1 ⟨rfl,rfl⟩))
 all_goals
  go_ret
  exact ⟨Qag (by first | exact HR.out.symm | (rw [HR.out];done) | (rw [HR.out];simp_all;done)),HB0.out⟩
theorem Qmv (tk:Int) (vx:ByteArray) (vla:Option Addr) (vll vlc:Nat) (vka:Option Addr) (vkl vkc i:Nat) (k:Int) (w:World) (hi:i<1000) (hn:vkl≤1000):Calls Tryz.prog 147 #[.agg #[.int .i64 tk,.string vx,.slice vla vll vlc,.slice vka vkl vkc],.int .i64 i,.int .i64 k] w fun e w'=>e = .returned (.bool (Qe5 tk vkl i k))∧Below w.heap.size w w':=by
 by_cases h:tk≠1∧tk≠2∧tk≠3∧tk≠4∧tk≠8∧tk≠16∧tk≠21
 ·exact Qsd tk vx vla vll vlc vka vkl vkc i k w hi hn h
 ·rcases (show tk=1∨tk=2∨tk=3∨tk=4∨tk=8∨tk=16∨tk=21 from by omega) with rfl | rfl | rfl | rfl | rfl | rfl | rfl
  ·exact Qz1 vx vla vll vlc vka vkl vkc i k w hi hn
  ·by_cases h1:i+1=vkl
   ·exact Qy1 vx vla vll vlc vka vkl vkc i k w hi hn h1
   ·by_cases h2:i+2=vkl
    ·exact Qy2 vx vla vll vlc vka vkl vkc i k w hi hn h1 h2
    ·exact Qy3 vx vla vll vlc vka vkl vkc i k w hi hn h1 h2
  ·exact Qz2 vx vla vll vlc vka vkl vkc i k w hi hn
  ·exact Qz3 vx vla vll vlc vka vkl vkc i k w hi hn
  ·exact Qz4 vx vla vll vlc vka vkl vkc i k w hi hn
  ·exact Qy4 vx vla vll vlc vka vkl vkc i k w hi hn
  ·cases hu:Qg7 k
   ·exact Qw4 vx vla vll vlc vka vkl vkc i k w hi hn hu
   ·exact Qw3 vx vla vll vlc vka vkl vkc i k w hi hn hu
mutual
def Qcs:Tr→Bool
 | .mk k x _ ks=>!decide (Qan k ks.length<0) && Qa4 (Qae k) x && Qb1 k ks.length 0 ks
def Qb1:Int→Nat→Nat→List Tr→Bool
 | _,_,_,[]=>true
 | k,n,i,a :: r=>Qe5 k n i a.kind && Qcs a && Qb1 k n (i+1) r
end
theorem Qg4 (t:Tr):Qcs t=(!decide (Qan t.kind t.kids.length<0) && Qa4 (Qae t.kind) t.text && Qb1 t.kind t.kids.length 0 t.kids):=by
 cases t with
 | mk k x ls ks=>rw [Qcs];rfl
theorem Qpt (k:Int) (n:Nat) (l:List Tr) (j:Nat) (a:Tr) (h:l[j]? = some a):Qb1 k n j (l.drop j)=(Qe5 k n j a.kind && Qcs a && Qb1 k n (j+1) (l.drop (j+1))):=by
 obtain ⟨hj,he⟩:=xP.1 h
 rw [List.drop_eq_getElem_cons hj,he,Qb1]
theorem Qn4 (k:Int) (n:Nat) (l:List Tr) (j:Nat) (h:l.length≤j):Qb1 k n j (l.drop j)=true:=by
 rw [List.drop_eq_nil_of_le h,Qb1]
theorem Qlx (k:Int) (n:Nat) (hn:n≤1000):(Qb6 (Qae k) n).2 = !decide (Qan k n<0):=by
 rw [←Qw2 k n (by omega)]
 unfold Qle
 have hc:∀ (l:List Part) (m:Int),0≤Qgn l m:=by
  intro l m
  induction l with
  | nil=>exact Int.le_refl 0
  | cons x r ih =>
   rw [Qgn]
   split
   ·rename_i h
    simp only [Bool.and_eq_true,decide_eq_true_eq] at h
    omega
   ·omega
 cases (Qb6 (Qae k) n).2
 ·rw [xN (by decide)];rfl
 ·rw [xO rfl]
  have:=hc (Qae k) (Qb6 (Qae k) n).1
  rw [xR (by omega)]
  rfl
theorem Qjv {k:Int} {n:Nat} {o:Int} (hl:Qae k≠[]) (ho:(Qmj (Qae k):Int)=o):(Qb6 (Qae k) n).1=n-o:=by
 unfold Qb6
 rw [xN (fun h=>by rcases h with h | h;exact hl h;omega),Qin,ho]
theorem Qec {n:Nat} {must m:Int} (h:(!decide (Qax n must m<0))=true):(n:Int)=must:=by
 unfold Qax at h
 by_cases e:(n:Int)=must
 ·exact e
 ·rw [xN e] at h
  exact absurd h (by decide)
theorem Qy5 (n:Nat):Qdi (Qae 1) (Qb6 (Qae 1) n).1=List.replicate n 1:=by
 rw [Qjv (o:=0) (by decide) rfl]
 simp [Qae,Qdi,Qeb,Qcy,Qg6,Qj5]
theorem Qy6 (n:Nat) (h:2≤n):Qdi (Qae 2) (Qb6 (Qae 2) n).1=List.replicate (n-2) 2 ++ [3,5]:=by
 rw [Qjv (o:=2) (by decide) rfl]
 have:((n:Int)-2).toNat=n-2:=by omega
 simp [Qae,Qdi,Qeb,Qcy,Qg6,Qj5,Qoe,this]
theorem Qw5 (n:Nat):Qdi (Qae 16) (Qb6 (Qae 16) n).1=List.replicate n 4:=by
 rw [Qjv (o:=0) (by decide) rfl]
 simp [Qae,Qdi,Qeb,Qcy,Qg6,Qj5]
theorem Qw6 (n:Nat):Qdi (Qae 18) (Qb6 (Qae 18) n).1=List.replicate n 5:=by
 rw [Qjv (o:=0) (by decide) rfl]
 simp [Qae,Qdi,Qeb,Qcy,Qj5]
theorem Qmw {n j:Nat} {s:Int} (h:j<n):(List.replicate n s)[j]? = some s:=by rw [List.getElem?_replicate];simp [h]
theorem Quz {k:Int} (h:¬ (k≤0∨23≤k)):k=1∨k=2∨k=3∨k=4∨k=5∨k=6∨k=7∨k=8∨k=9∨k=10∨k=11∨k=12∨k=13∨k=14∨k=15∨k=16∨k=17∨k=18∨k=19∨k=20∨k=21∨k=22:=by omega
theorem Qu0 (k:Int) (n:Nat) (hn:n≤1000) (h:(Qb6 (Qae k) n).2=true) (j:Nat) (hj:j<n):∃ s,(Qdi (Qae k) (Qb6 (Qae k) n).1)[j]? = some s∧∀ kd,Qe5 k n j kd=Qd9 s kd:=by
 have hq:=h
 rw [Qlx k n hn] at hq
 by_cases h0:k≤0∨23≤k
 ·rw [Qee h0] at h
  simp [Qb6] at h
 ·rcases Quz h0 with rfl | rfl | rfl | rfl | rfl | rfl | rfl | rfl | rfl | rfl | rfl | rfl | rfl | rfl | rfl | rfl | rfl | rfl | rfl | rfl | rfl | rfl
  ·exact ⟨1,by rw [Qy5];exact Qmw hj,fun kd=>rfl⟩
  ·have h2:2≤n:=by
    rcases Nat.lt_or_ge n 2 with h' | h'
    ·rw [show Qan 2 n = -1 from by show (if 2≤(n:Int) then 6+max 0 ((n:Int)-3) else -1)=_;rw [xN (by omega)]] at hq
     exact absurd hq (by decide)
    ·exact h'
   rw [Qy6 n h2]
   by_cases j1:j+1=n
   ·refine ⟨5,?_,fun kd=>?_⟩
    ·rw [xX (by simp;omega),List.length_replicate,show j-(n-2)=1 from by omega];rfl
    ·unfold Qe5;rw [xN (by decide),xO rfl,xO j1];exact Qfu kd
   ·by_cases j2:j+2=n
    ·refine ⟨3,?_,fun kd=>?_⟩
     ·rw [xX (by simp;omega),List.length_replicate,show j-(n-2)=0 from by omega];rfl
     ·unfold Qe5;rw [xN (by decide),xO rfl,xN j1,xO j2]
    ·refine ⟨2,?_,fun kd=>?_⟩
     ·rw [yB (by simp;omega)];exact Qmw (by omega)
     ·unfold Qe5;rw [xN (by decide),xO rfl,xN j1,xN j2];rfl
  ·obtain rfl:n=1:=by have:=Qec (n:=n) (must:=1) (m:=3) hq;omega
   obtain rfl:j=0:=by omega
   exact ⟨3,rfl,fun kd=>rfl⟩
  ·obtain rfl:n=1:=by have:=Qec (n:=n) (must:=1) (m:=2) hq;omega
   obtain rfl:j=0:=by omega
   exact ⟨3,rfl,fun kd=>rfl⟩
  ·have:=Qec (n:=n) (must:=0) (m:=1) hq;omega
  ·have:=Qec (n:=n) (must:=0) (m:=1) hq;omega
  ·have:=Qec (n:=n) (must:=0) (m:=1) hq;omega
  ·obtain rfl:n=1:=by have:=Qec (n:=n) (must:=1) (m:=2) hq;omega
   obtain rfl:j=0:=by omega
   exact ⟨3,rfl,fun kd=>rfl⟩
  ·have:=Qec (n:=n) (must:=0) (m:=1) hq;omega
  ·have:=Qec (n:=n) (must:=0) (m:=1) hq;omega
  ·have:=Qec (n:=n) (must:=0) (m:=1) hq;omega
  ·have:=Qec (n:=n) (must:=0) (m:=1) hq;omega
  ·have:=Qec (n:=n) (must:=0) (m:=1) hq;omega
  ·have:=Qec (n:=n) (must:=0) (m:=1) hq;omega
  ·have:=Qec (n:=n) (must:=0) (m:=1) hq;omega
  ·exact ⟨4,by rw [Qw5];exact Qmw hj,fun kd=>rfl⟩
  ·obtain rfl:n=1:=by have:=Qec (n:=n) (must:=1) (m:=0) hq;omega
   obtain rfl:j=0:=by omega
   exact ⟨5,rfl,fun kd=>Qfu kd⟩
  ·exact ⟨5,by rw [Qw6];exact Qmw hj,fun kd=>Qfu kd⟩
  ·obtain rfl:n=3:=by have:=Qec (n:=n) (must:=3) (m:=3) hq;omega
   rcases (show j=0∨j=1∨j=2 from by omega) with rfl | rfl | rfl <;> exact ⟨5,rfl,fun kd=>Qfu kd⟩
  ·obtain rfl:n=2:=by have:=Qec (n:=n) (must:=2) (m:=4) hq;omega
   rcases (show j=0∨j=1 from by omega) with rfl | rfl <;> exact ⟨5,rfl,fun kd=>Qfu kd⟩
  ·obtain rfl:n=2:=by have:=Qec (n:=n) (must:=2) (m:=1) hq;omega
   rcases (show j=0∨j=1 from by omega) with rfl | rfl
   ·exact ⟨6,rfl,fun kd=>Qsc kd⟩
   ·exact ⟨7,rfl,fun kd=>by rw [←Qux];show (Qg7 kd || (decide (1=0) && kd==21))=Qg7 kd;simp⟩
  ·obtain rfl:n=1:=by have:=Qec (n:=n) (must:=1) (m:=2) hq;omega
   obtain rfl:j=0:=by omega
   exact ⟨5,rfl,fun kd=>Qfu kd⟩
theorem Qks (k:Int) (n:Nat):∀ (ks:List Tr) (i:Nat) (ss:List Int),(∀ a∈ks,Qcs a=Qau a)→(∀ j,j<ks.length→∃ s,ss[j]? = some s∧∀ kd,Qe5 k n (i+j) kd=Qd9 s kd)→Qb1 k n i ks=Qc9 ks ss
 | [],i,ss,_,_=>by rw [Qb1,Qhg]
 | a :: r,i,ss,ha,hs=>by
  obtain ⟨s,h0,hk⟩:=hs 0 (by simp)
  cases ss with
  | nil=>simp at h0
  | cons s' ss =>
   simp at h0
   subst h0
   have hk0:Qe5 k n i a.kind=Qd9 s' a.kind:=hk a.kind
   rw [Qb1,Qi9,←hk0,ha a (by simp),Qks k n r (i+1) ss (fun x hx=>ha x (by simp [hx])) (fun j hj=>by
    obtain ⟨s,h1,h2⟩:=hs (j+1) (by simp;omega)
    exact ⟨s,by simpa using h1,fun kd=>by rw [show i+1+j=i+(j+1) from by omega];exact h2 kd⟩)]
theorem Qqq {l:List Tr} {a:Tr} (h:a∈l):Qam a≤Qbb l:=by
 induction l with
 | nil=>simp at h
 | cons x r ih =>
  rw [Qbb]
  rcases List.mem_cons.1 h with rfl | h
  ·omega
  ·have:=ih h;omega
theorem Qse {l:List Tr} {a:Tr} (h:a∈l):SizeOf.sizeOf a<SizeOf.sizeOf l:=List.sizeOf_lt_of_mem h
theorem Qf7 (N:Nat):∀ t:Tr,SizeOf.sizeOf t≤N→Qam t≤1000→Qcs t=Qau t:=by
 induction N with
 | zero=>intro t h;have:=Qh7 t;omega
 | succ N ih =>
  intro t hN hs
  have hkl:=Qbn t.kids
  have hsz:=Qa5 t
  rw [Qg4,Qim,←Qlx t.kind t.kids.length (by omega)]
  cases hf:(Qb6 (Qae t.kind) t.kids.length).2
  ·rfl
  ·rw [Qks t.kind t.kids.length t.kids 0 _ (fun a ha=>ih a (by
    have h1:=Qse ha
    cases t with
    | mk k x ls ks =>
     simp at hN
     have:SizeOf.sizeOf (Tr.mk k x ls ks).kids=SizeOf.sizeOf ks:=rfl
     omega) (by have:=Qqq ha;omega)) (fun j hj=>by rw [Nat.zero_add];exact Qu0 t.kind t.kids.length (by omega) hf j hj)]
end Go.Proofs.YtjidpkcjpgdafaaGreat
