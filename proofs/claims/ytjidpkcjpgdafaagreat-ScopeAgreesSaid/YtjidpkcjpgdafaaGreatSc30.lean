/- Part 30: The contracts of the reference's Size, Depth, IsType . -/
import Derived.Test.YtjidpkcjpgdafaaGreatSc1
import Derived.Test.YtjidpkcjpgdafaaGreatSc18
import Derived.Test.YtjidpkcjpgdafaaGreatSc28
import Derived.Test.YtjidpkcjpgdafaaGreatSc29
set_option maxRecDepth 100000
set_option maxHeartbeats 4000000
namespace Go.Proofs.YtjidpkcjpgdafaaGreat
open Go.RowKit
theorem rdepth2_any (N:Nat):∀ (S:Nat → Prop) (t:Tr) (v:TV) (w:World),SizeOf.sizeOf t ≤ N → TrAt S w t v → Qak t ≤ 140737488355328 →
  Calls Tryz.prog 110 #[.agg #[.int .i64 v.kind,.string v.text,.slice v.la v.ll v.lc,.slice v.ka v.kl v.kc]] w fun e w'=>e = .returned (.int .i64 (Qd7 t:Nat)) ∧ Below w.heap.size w w':=by
 induction N with
 | zero=>intro S t v w h;have:=tr_pos t;omega
 | succ N ih =>
  intro S t v w hN h hz
  have HIH:=hQ ih
  have HB0:=hQ ((xC w.heap.size w).alloc (xA _) (trO v))
  have HT:=hQ (h.keep HB0.out)
  have HX:=hQ (xH w (trO v))
  have HZ:=hQ hz
  have HN:=hQ hN
  have hkl:=h.kl.1
  obtain ⟨vk,vx,vla,vll,vlc,vka,vkl,vkc⟩:=v
  simp only at hkl
  subst hkl
  have hmax:t.kids.length ≤ 140737488355328:=by have:=Qbb t.kids;rw [Qa6] at hz;omega
  have HMX:=hQ hmax
  clear ih h hz hN
  have k3:(w.alloc (trO ⟨vk,vx,vla,vll,vlc,vka,t.kids.length,vkc⟩)).cell? ⟨w.heap.size,3,none⟩ = some (.slice vka t.kids.length vkc):=Qab HX.out 3 _ rfl
  go_enter Tryz.func110,Tryz.ntmps110
  go_wp2
  clear k3
  go_loopw [3,4] (fun n i wr=>KidsAtN (fun l=>Qcw l) t (w.alloc (trO ⟨vk,vx,vla,vll,vlc,vka,t.kids.length,vkc⟩)) n i wr) (fun _ i _=>t.kids.length - (intOf i).toNat)
  case atStart=>exact ⟨0,rfl,Nat.zero_le _,rfl,xC _ _⟩
  case round =>
   obtain ⟨j,rfl,hj,rfl,hb⟩:=hrel
   have HBR:=hQ hb
   have hx:=(hb.block w.heap.size (Qaa HX.out)).trans HX.out
   have k3:wr.cell? ⟨w.heap.size,3,none⟩ = some (.slice vka t.kids.length vkc):=Qab hx 3 _ rfl
   clear hb hx
   by_cases hlt:j < t.kids.length
   ·obtain ⟨k,hk⟩:∃ k,t.kids[j]? = some k:=⟨_,xF hlt⟩
    obtain ⟨b,off,hka⟩:∃ b off,vka = some ⟨b,off,none⟩:=HT.out.addr.resolve_left (by omega)
    subst hka
    obtain ⟨u,c0,c1,c2,c3,hu⟩:=(HT.out.keep HBR.out).at rfl hk
    have HU:=hQ hu
    have HS1:=hQ (Qdf hk)
    have HD1:=hQ (depthL_take hk)
    have hs:=Qec t.kids (j + 1)
    have hs0:=Qdf hk
    have hds:=Qek (t.kids.take j)
    have hdk:=Qdo k
    have HSK:=hQ (Nat.le_trans (Qbk hk) HZ.out)
    have HNK:=hQ (show SizeOf.sizeOf k ≤ N from by have:=Qa0 hk;have:=HN.out;omega)
    have hz:=HZ.out
    rw [Qa6] at hz
    have q1:((Qar (t.kids.take j):Nat):Int) + (Qak k:Nat) + 1 ≤ 140737488355328:=by omega
    have q2:((Qcw (t.kids.take j):Nat):Int) ≤ 140737488355328:=by omega
    have q3:((Qd7 k:Nat):Int) + 1 ≤ 140737488355329:=by omega
    have hj0:(0:Int) ≤ (j:Int):=by omega
    have hj1:(j:Int) < (t.kids.length:Int):=by omega
    have hj2:(j:Int) + 1 ≤ 140737488355328:=by omega
    clear hk hu hs hs0 hds hdk hz
    go_wp2_with (go_at_call 110;refine (HIH.out S k u _ HNK.out (HU.out.keep (xC _ _)) HSK.out).mono ?_;rintro e w2 ⟨rfl,hb2⟩;have HB2:=hQ (HBR.out.trans (hb2.mono HBR.out.size));clear hb2)
    go_roundw
    case rel=>exact ⟨j + 1,by go_num,by omega,by show _ = Value.int .i64 ((Qcw (t.kids.take (j + 1)):Nat):Int);rw [HD1.out];go_num,HB2.out⟩
    case measure=>simp [intOf];omega
   ·have hjn:j = t.kids.length:=by omega
    subst hjn
    have HR:=hQ (show Qd7 t = Qcw (t.kids.take t.kids.length) + 1 from by rw [depthT_eq,List.take_length])
    have hz:=HZ.out
    have h1:=Qdo t
    have h2:=HR.out
    go_wp2
    go_ret
    exact ⟨Qb0 (by have h3:=depthT_eq t;unfold wrap64;omega),HB0.out.trans (HBR.out.mono (by simp))⟩
def exprB (k:Int):Bool:=decide (10 ≤ k) && decide (k ≤ 22) && (k != 17)
def unitB (k:Int):Bool:=exprB k && (k != 19) && (k != 20) && (k != 21)
theorem Qg0 (k:Int):exprB k = Qe8 5 k:=by
 unfold exprB Qe8
 by_cases h17:k = 17
 ·subst h17;rfl
 ·by_cases h19:k = 19
  ·subst h19;rfl
  ·by_cases h20:k = 20
   ·subst h20;rfl
   ·by_cases h21:k = 21
    ·subst h21;rfl
    ·simp [h17,h19,h20,h21]
theorem unitB_has (k:Int):unitB k = Qe8 7 k:=by
 unfold unitB exprB Qe8
 by_cases h17:k = 17
 ·subst h17;rfl
 ·by_cases h19:k = 19
  ·subst h19;rfl
  ·by_cases h20:k = 20
   ·subst h20;rfl
   ·by_cases h21:k = 21
    ·subst h21;rfl
    ·have b17:(k != 17) = true:=bne_iff_ne.2 h17
     have b19:(k != 19) = true:=bne_iff_ne.2 h19
     have b20:(k != 20) = true:=bne_iff_ne.2 h20
     have b21:(k != 21) = true:=bne_iff_ne.2 h21
     have c21:(k == 21) = false:=Qck h21
     rw [if_neg (by decide),if_neg (by decide),if_neg (by decide),if_neg (by decide),if_neg h17,if_neg (fun h=>by omega),if_neg h21]
     simp only [b17,b19,b20,b21,Bool.and_true]
theorem firstB_has (k:Int):(unitB k || k == 21) = Qe8 6 k:=by
 unfold unitB exprB Qe8
 by_cases h17:k = 17
 ·subst h17;rfl
 ·by_cases h19:k = 19
  ·subst h19;rfl
  ·by_cases h20:k = 20
   ·subst h20;rfl
   ·by_cases h21:k = 21
    ·subst h21;rfl
    ·have b17:(k != 17) = true:=bne_iff_ne.2 h17
     have b19:(k != 19) = true:=bne_iff_ne.2 h19
     have b20:(k != 20) = true:=bne_iff_ne.2 h20
     have b21:(k != 21) = true:=bne_iff_ne.2 h21
     have c21:(k == 21) = false:=Qck h21
     rw [if_neg (by decide),if_neg (by decide),if_neg (by decide),if_neg (by decide),if_neg h17,if_neg (fun h=>by omega),if_neg h21]
     simp only [b17,b19,b20,b21,Bool.and_true,c21,Bool.or_false]
theorem Qcp (k:Int) (w:World):Calls Tryz.prog 203 #[.int .i64 k] w fun e w'=>e = .returned (.bool (Qe8 3 k)) ∧ w = w':=by
 go_enter Tryz.func203,Tryz.ntmps203
 go_wp2
 all_goals
  go_ret
  exact ⟨Qah (by simp_all [Qe8];try omega),rfl⟩
theorem Qb8 (k:Int) (w:World):Calls Tryz.prog 53 #[.int .i64 k] w fun e w'=>e = .returned (.bool (exprB k)) ∧ w = w':=by
 go_enter Tryz.func53,Tryz.ntmps53
 go_wp2
 all_goals
  go_ret
  exact ⟨Qah (by simp_all [exprB];try omega),rfl⟩
theorem Qci (k:Int) (w:World):Calls Tryz.prog 204 #[.int .i64 k] w fun e w'=>e = .returned (.bool (unitB k)) ∧ w = w':=by
 have HR:=hQ (show unitB k = (exprB k && (k != 19) && (k != 20) && (k != 21)) from rfl)
 cases hx:exprB k
 ·go_enter Tryz.func204,Tryz.ntmps204
  go_wp2_with (go_at_call 53;refine (Qb8 _ _).mono ?_;rw [hx];rintro e w' ⟨rfl,rfl⟩)
  go_ret
  exact ⟨Qah (by rw [HR.out,hx];rfl),rfl⟩
 ·go_enter Tryz.func204,Tryz.ntmps204
  go_wp2_with (go_at_call 53;refine (Qb8 _ _).mono ?_;rw [hx];rintro e w' ⟨rfl,rfl⟩)
  all_goals
   go_ret
   exact ⟨Qah (by rw [HR.out,hx];simp_all),rfl⟩
theorem risop_0 (s:ByteArray) (w:World) (h0:(s.toList == [43]) = true):Calls Tryz.prog 202 #[.string s] w fun e w'=>e = .returned (.bool (opB s)) ∧ w = w':=by
 have HR:=hQ (show opB s = true from by unfold opB;simp only [← Qa9,h0];rfl)
 go_enter Tryz.func202,Tryz.ntmps202
 go_wp2
 go_ret
 exact ⟨by rw [HR.out];rfl,rfl⟩
theorem risop_1 (s:ByteArray) (w:World) (h0:(s.toList == [43]) = false) (h1:(s.toList == [45]) = true):Calls Tryz.prog 202 #[.string s] w fun e w'=>e = .returned (.bool (opB s)) ∧ w = w':=by
 have HR:=hQ (show opB s = true from by unfold opB;simp only [← Qa9,h0,h1];rfl)
 go_enter Tryz.func202,Tryz.ntmps202
 go_wp2
 go_ret
 exact ⟨by rw [HR.out];rfl,rfl⟩
theorem risop_2 (s:ByteArray) (w:World) (h0:(s.toList == [43]) = false) (h1:(s.toList == [45]) = false) (h2:(s.toList == [42]) = true):Calls Tryz.prog 202 #[.string s] w fun e w'=>e = .returned (.bool (opB s)) ∧ w = w':=by
 have HR:=hQ (show opB s = true from by unfold opB;simp only [← Qa9,h0,h1,h2];rfl)
 go_enter Tryz.func202,Tryz.ntmps202
 go_wp2
 go_ret
 exact ⟨by rw [HR.out];rfl,rfl⟩
theorem risop_3 (s:ByteArray) (w:World) (h0:(s.toList == [43]) = false) (h1:(s.toList == [45]) = false) (h2:(s.toList == [42]) = false) (h3:(s.toList == [60]) = true):Calls Tryz.prog 202 #[.string s] w fun e w'=>e = .returned (.bool (opB s)) ∧ w = w':=by
 have HR:=hQ (show opB s = true from by unfold opB;simp only [← Qa9,h0,h1,h2,h3];rfl)
 go_enter Tryz.func202,Tryz.ntmps202
 go_wp2
 go_ret
 exact ⟨by rw [HR.out];rfl,rfl⟩
theorem risop_4 (s:ByteArray) (w:World) (h0:(s.toList == [43]) = false) (h1:(s.toList == [45]) = false) (h2:(s.toList == [42]) = false) (h3:(s.toList == [60]) = false) (h4:(s.toList == [61,61]) = true):Calls Tryz.prog 202 #[.string s] w fun e w'=>e = .returned (.bool (opB s)) ∧ w = w':=by
 have HR:=hQ (show opB s = true from by unfold opB;simp only [← Qa9,h0,h1,h2,h3,h4];rfl)
 go_enter Tryz.func202,Tryz.ntmps202
 go_wp2
 go_ret
 exact ⟨by rw [HR.out];rfl,rfl⟩
theorem risop_5 (s:ByteArray) (w:World) (h0:(s.toList == [43]) = false) (h1:(s.toList == [45]) = false) (h2:(s.toList == [42]) = false) (h3:(s.toList == [60]) = false) (h4:(s.toList == [61,61]) = false):Calls Tryz.prog 202 #[.string s] w fun e w'=>e = .returned (.bool (opB s)) ∧ w = w':=by
 have HR:=hQ (show opB s = false from by unfold opB;simp only [← Qa9,h0,h1,h2,h3,h4];rfl)
 go_enter Tryz.func202,Tryz.ntmps202
 go_wp2
 go_ret
 exact ⟨by rw [HR.out];rfl,rfl⟩
theorem risop_any (s:ByteArray) (w:World):Calls Tryz.prog 202 #[.string s] w fun e w'=>e = .returned (.bool (opB s)) ∧ w = w':=by
 cases h0:(s.toList == [43])
 case true=>exact risop_0 s w h0
 cases h1:(s.toList == [45])
 case true=>exact risop_1 s w h0 h1
 cases h2:(s.toList == [42])
 case true=>exact risop_2 s w h0 h1 h2
 cases h3:(s.toList == [60])
 case true=>exact risop_3 s w h0 h1 h2 h3
 cases h4:(s.toList == [61,61])
 case true=>exact risop_4 s w h0 h1 h2 h3 h4
 exact risop_5 s w h0 h1 h2 h3 h4
theorem rtextfits_1 (s:ByteArray) (w:World) (hs:s.size < maxLen):Calls Tryz.prog 146 #[.int .i64 1,.string s] w fun e w'=>e = .returned (.bool (Qbq (Qae 1) s)) ∧ Below w.heap.size w w':=by
 have HS:=hQ hs
 have HR:=hQ (show Qbq (Qae 1) s = Qbu 1 (Qa3 (suf s 0):Nat) s from rfl)
 clear hs
 go_enter Tryz.func146,Tryz.ntmps146
 go_wp2_with (first | (go_at_call 201;refine (Qaz s _ HS.out).mono ?_;rintro e w1 ⟨rfl,hb1⟩;have HB1:=hQ hb1;clear hb1))
 all_goals
  go_ret
  exact ⟨Qah (by first | exact HR.out.symm | (rw [HR.out];simp_all [Qbu];done) | (rw [HR.out];simp [Qbu];omega)),HB1.out⟩
theorem rtextfits_2 (s:ByteArray) (w:World) (hs:s.size < maxLen):Calls Tryz.prog 146 #[.int .i64 2,.string s] w fun e w'=>e = .returned (.bool (Qbq (Qae 2) s)) ∧ Below w.heap.size w w':=by
 have HS:=hQ hs
 have HR:=hQ (show Qbq (Qae 2) s = Qbu 2 (Qa3 (suf s 0):Nat) s from rfl)
 clear hs
 go_enter Tryz.func146,Tryz.ntmps146
 go_wp2_with (first | (go_at_call 201;refine (Qaz s _ HS.out).mono ?_;rintro e w1 ⟨rfl,hb1⟩;have HB1:=hQ hb1;clear hb1))
 all_goals
  go_ret
  exact ⟨Qah (by first | exact HR.out.symm | (rw [HR.out];simp_all [Qbu];done) | (rw [HR.out];simp [Qbu];omega)),HB1.out⟩
theorem rtextfits_3 (s:ByteArray) (w:World) (hs:s.size < maxLen):Calls Tryz.prog 146 #[.int .i64 3,.string s] w fun e w'=>e = .returned (.bool (Qbq (Qae 3) s)) ∧ Below w.heap.size w w':=by
 have HS:=hQ hs
 have HR:=hQ (show Qbq (Qae 3) s = Qbu 1 (Qa3 (suf s 0):Nat) s from rfl)
 clear hs
 go_enter Tryz.func146,Tryz.ntmps146
 go_wp2_with (first | (go_at_call 201;refine (Qaz s _ HS.out).mono ?_;rintro e w1 ⟨rfl,hb1⟩;have HB1:=hQ hb1;clear hb1))
 all_goals
  go_ret
  exact ⟨Qah (by first | exact HR.out.symm | (rw [HR.out];simp_all [Qbu];done) | (rw [HR.out];simp [Qbu];omega)),HB1.out⟩
theorem rtextfits_4 (s:ByteArray) (w:World) (hs:s.size < maxLen):Calls Tryz.prog 146 #[.int .i64 4,.string s] w fun e w'=>e = .returned (.bool (Qbq (Qae 4) s)) ∧ Below w.heap.size w w':=by
 have HS:=hQ hs
 have HR:=hQ (show Qbq (Qae 4) s = Qbu 2 (Qa3 (suf s 0):Nat) s from rfl)
 clear hs
 go_enter Tryz.func146,Tryz.ntmps146
 go_wp2_with (first | (go_at_call 201;refine (Qaz s _ HS.out).mono ?_;rintro e w1 ⟨rfl,hb1⟩;have HB1:=hQ hb1;clear hb1))
 all_goals
  go_ret
  exact ⟨Qah (by first | exact HR.out.symm | (rw [HR.out];simp_all [Qbu];done) | (rw [HR.out];simp [Qbu];omega)),HB1.out⟩
theorem rtextfits_9 (s:ByteArray) (w:World) (hs:s.size < maxLen):Calls Tryz.prog 146 #[.int .i64 9,.string s] w fun e w'=>e = .returned (.bool (Qbq (Qae 9) s)) ∧ Below w.heap.size w w':=by
 have HS:=hQ hs
 have HR:=hQ (show Qbq (Qae 9) s = Qbu 3 (Qa3 (suf s 0):Nat) s from rfl)
 clear hs
 go_enter Tryz.func146,Tryz.ntmps146
 go_wp2_with (first | (go_at_call 201;refine (Qaz s _ HS.out).mono ?_;rintro e w1 ⟨rfl,hb1⟩;have HB1:=hQ hb1;clear hb1))
 all_goals
  go_ret
  exact ⟨Qah (by first | exact HR.out.symm | (rw [HR.out];simp_all [Qbu];done) | (rw [HR.out];simp [Qbu];omega)),HB1.out⟩
theorem rtextfits_10 (s:ByteArray) (w:World) (hs:s.size < maxLen):Calls Tryz.prog 146 #[.int .i64 10,.string s] w fun e w'=>e = .returned (.bool (Qbq (Qae 10) s)) ∧ Below w.heap.size w w':=by
 have HS:=hQ hs
 have HR:=hQ (show Qbq (Qae 10) s = Qbu 5 (Qa3 (suf s 0):Nat) s from rfl)
 clear hs
 go_enter Tryz.func146,Tryz.ntmps146
 go_wp2_with (first | (go_at_call 201;refine (Qaz s _ HS.out).mono ?_;rintro e w1 ⟨rfl,hb1⟩;have HB1:=hQ hb1;clear hb1))
 all_goals
  go_ret
  exact ⟨Qah (by first | exact HR.out.symm | (rw [HR.out];simp_all [Qbu];done) | (rw [HR.out];simp [Qbu];omega)),HB1.out⟩
theorem rtextfits_11 (s:ByteArray) (w:World) (hs:s.size < maxLen):Calls Tryz.prog 146 #[.int .i64 11,.string s] w fun e w'=>e = .returned (.bool (Qbq (Qae 11) s)) ∧ Below w.heap.size w w':=by
 have HS:=hQ hs
 have HR:=hQ (show Qbq (Qae 11) s = Qbu 6 (Qa3 (suf s 0):Nat) s from rfl)
 clear hs
 go_enter Tryz.func146,Tryz.ntmps146
 go_wp2_with (first | (go_at_call 201;refine (Qaz s _ HS.out).mono ?_;rintro e w1 ⟨rfl,hb1⟩;have HB1:=hQ hb1;clear hb1))
 all_goals
  go_ret
  exact ⟨Qah (by first | exact HR.out.symm | (rw [HR.out];simp_all [Qbu];done) | (rw [HR.out];simp [Qbu];omega)),HB1.out⟩
theorem rtextfits_12 (s:ByteArray) (w:World) (hs:s.size < maxLen):Calls Tryz.prog 146 #[.int .i64 12,.string s] w fun e w'=>e = .returned (.bool (Qbq (Qae 12) s)) ∧ Below w.heap.size w w':=by
 have HS:=hQ hs
 have HR:=hQ (show Qbq (Qae 12) s = Qbu 2 (Qa3 (suf s 0):Nat) s from rfl)
 clear hs
 go_enter Tryz.func146,Tryz.ntmps146
 go_wp2_with (first | (go_at_call 201;refine (Qaz s _ HS.out).mono ?_;rintro e w1 ⟨rfl,hb1⟩;have HB1:=hQ hb1;clear hb1))
 all_goals
  go_ret
  exact ⟨Qah (by first | exact HR.out.symm | (rw [HR.out];simp_all [Qbu];done) | (rw [HR.out];simp [Qbu];omega)),HB1.out⟩
theorem rtextfits_16 (s:ByteArray) (w:World) (hs:s.size < maxLen):Calls Tryz.prog 146 #[.int .i64 16,.string s] w fun e w'=>e = .returned (.bool (Qbq (Qae 16) s)) ∧ Below w.heap.size w w':=by
 have HS:=hQ hs
 have HR:=hQ (show Qbq (Qae 16) s = Qbu 4 (Qa3 (suf s 0):Nat) s from rfl)
 clear hs
 go_enter Tryz.func146,Tryz.ntmps146
 go_wp2_with (first | (go_at_call 201;refine (Qaz s _ HS.out).mono ?_;rintro e w1 ⟨rfl,hb1⟩;have HB1:=hQ hb1;clear hb1))
 all_goals
  go_ret
  exact ⟨Qah (by first | exact HR.out.symm | (rw [HR.out];simp_all [Qbu];done) | (rw [HR.out];simp [Qbu];omega)),HB1.out⟩
theorem rtextfits_20 (s:ByteArray) (w:World) (hs:s.size < maxLen):Calls Tryz.prog 146 #[.int .i64 20,.string s] w fun e w'=>e = .returned (.bool (Qbq (Qae 20) s)) ∧ Below w.heap.size w w':=by
 have HS:=hQ hs
 have HR:=hQ (show Qbq (Qae 20) s = Qbu 2 (Qa3 (suf s 0):Nat) s from rfl)
 clear hs
 go_enter Tryz.func146,Tryz.ntmps146
 go_wp2_with (first | (go_at_call 201;refine (Qaz s _ HS.out).mono ?_;rintro e w1 ⟨rfl,hb1⟩;have HB1:=hQ hb1;clear hb1))
 all_goals
  go_ret
  exact ⟨Qah (by first | exact HR.out.symm | (rw [HR.out];simp_all [Qbu];done) | (rw [HR.out];simp [Qbu];omega)),HB1.out⟩
theorem rtextfits_21 (s:ByteArray) (w:World) (hs:s.size < maxLen):Calls Tryz.prog 146 #[.int .i64 21,.string s] w fun e w'=>e = .returned (.bool (Qbq (Qae 21) s)) ∧ Below w.heap.size w w':=by
 have HS:=hQ hs
 have HR:=hQ (show Qbq (Qae 21) s = Qbu 7 (Qa3 (suf s 0):Nat) s from rfl)
 clear hs
 go_enter Tryz.func146,Tryz.ntmps146
 go_wp2_with (first | (go_at_call 201;refine (Qaz s _ HS.out).mono ?_;rintro e w1 ⟨rfl,hb1⟩;have HB1:=hQ hb1;clear hb1) | (go_at_call 202;refine (risop_any s _).mono ?_;rintro e w2 ⟨rfl,rfl⟩))
 all_goals
  go_ret
  exact ⟨Qah (by first | exact HR.out.symm | (rw [HR.out];simp_all [Qbu];done) | (rw [HR.out];simp [Qbu];omega)),HB1.out⟩
theorem is_nil (s:ByteArray):is s [] = s.toList.isEmpty:=by
 rw [← Qa9]
 cases s.toList <;> rfl
theorem named_other (k:Int) (s:ByteArray) (h:k ≠ 1 ∧ k ≠ 2 ∧ k ≠ 3 ∧ k ≠ 4 ∧ k ≠ 9 ∧ k ≠ 10 ∧ k ≠ 11 ∧ k ≠ 12 ∧ k ≠ 16 ∧ k ≠ 20 ∧ k ≠ 21):Qbq (Qae k) s = is s []:=by
 by_cases h0:k ≤ 0 ∨ 23 ≤ k
 ·rw [Qdn h0];rfl
 ·rcases (show k = 5 ∨ k = 6 ∨ k = 7 ∨ k = 8 ∨ k = 13 ∨ k = 14 ∨ k = 15 ∨ k = 17 ∨ k = 18 ∨ k = 19 ∨ k = 22 from by omega) with rfl | rfl | rfl | rfl | rfl | rfl | rfl | rfl | rfl | rfl | rfl <;> rfl
theorem rtextfits_other (k:Int) (s:ByteArray) (w:World) (hs:s.size < maxLen) (h:k ≠ 1 ∧ k ≠ 2 ∧ k ≠ 3 ∧ k ≠ 4 ∧ k ≠ 9 ∧ k ≠ 10 ∧ k ≠ 11 ∧ k ≠ 12 ∧ k ≠ 16 ∧ k ≠ 20 ∧ k ≠ 21):Calls Tryz.prog 146 #[.int .i64 k,.string s] w fun e w'=>e = .returned (.bool (Qbq (Qae k) s)) ∧ Below w.heap.size w w':=by
 have HS:=hQ hs
 have HR:=hQ ((named_other k s h).trans (is_nil s))
 have e1:=Qck (show k ≠ 1 from by omega)
 have e2:=Qck (show k ≠ 2 from by omega)
 have e3:=Qck (show k ≠ 3 from by omega)
 have e4:=Qck (show k ≠ 4 from by omega)
 have e9:=Qck (show k ≠ 9 from by omega)
 have e10:=Qck (show k ≠ 10 from by omega)
 have e11:=Qck (show k ≠ 11 from by omega)
 have e12:=Qck (show k ≠ 12 from by omega)
 have e16:=Qck (show k ≠ 16 from by omega)
 have e20:=Qck (show k ≠ 20 from by omega)
 have e21:=Qck (show k ≠ 21 from by omega)
 clear hs h
 go_enter Tryz.func146,Tryz.ntmps146
 go_wp2_with (go_at_call 201;refine (Qaz s _ HS.out).mono ?_;rintro e w1 ⟨rfl,hb1⟩;have HB1:=hQ hb1;clear hb1)
 go_ret
 exact ⟨Qah (by first | exact HR.out.symm | (rw [HR.out];simp;done)),HB1.out⟩
theorem rtextfits_any (k:Int) (s:ByteArray) (w:World) (hs:s.size < maxLen):Calls Tryz.prog 146 #[.int .i64 k,.string s] w fun e w'=>e = .returned (.bool (Qbq (Qae k) s)) ∧ Below w.heap.size w w':=by
 by_cases h:k ≠ 1 ∧ k ≠ 2 ∧ k ≠ 3 ∧ k ≠ 4 ∧ k ≠ 9 ∧ k ≠ 10 ∧ k ≠ 11 ∧ k ≠ 12 ∧ k ≠ 16 ∧ k ≠ 20 ∧ k ≠ 21
 ·exact rtextfits_other k s w hs h
 ·rcases (show k = 1 ∨ k = 2 ∨ k = 3 ∨ k = 4 ∨ k = 9 ∨ k = 10 ∨ k = 11 ∨ k = 12 ∨ k = 16 ∨ k = 20 ∨ k = 21 from by omega) with rfl | rfl | rfl | rfl | rfl | rfl | rfl | rfl | rfl | rfl | rfl
  ·exact rtextfits_1 s w hs
  ·exact rtextfits_2 s w hs
  ·exact rtextfits_3 s w hs
  ·exact rtextfits_4 s w hs
  ·exact rtextfits_9 s w hs
  ·exact rtextfits_10 s w hs
  ·exact rtextfits_11 s w hs
  ·exact rtextfits_12 s w hs
  ·exact rtextfits_16 s w hs
  ·exact rtextfits_20 s w hs
  ·exact rtextfits_21 s w hs
def Qgn (tk:Int) (n i:Nat) (k:Int):Bool :=
 if tk = 1 then k == 2 || k == 3
 else if tk = 2 then (if i + 1 = n then exprB k else if i + 2 = n then Qe8 3 k else k == 4)
 else if tk = 3 ∨ tk = 4 ∨ tk = 8 then Qe8 3 k
 else if tk = 16 then k == 17
 else if tk = 21 then (unitB k || (decide (i = 0) && k == 21))
 else exprB k
theorem rkid_1 (vx:ByteArray) (vla:Option Addr) (vll vlc:Nat) (vka:Option Addr) (vkl vkc i:Nat) (k:Int) (w:World) (_hi:i < 1000) (_hn:vkl ≤ 1000):Calls Tryz.prog 147 #[.agg #[.int .i64 1,.string vx,.slice vla vll vlc,.slice vka vkl vkc],.int .i64 i,.int .i64 k] w fun e w'=>e = .returned (.bool (Qgn 1 vkl i k)) ∧ Below w.heap.size w w':=by
 have HX:=hQ (xH w (.cells #[.int .i64 1,.string vx,.slice vla vll vlc,.slice vka vkl vkc] 29))
 have HB0:=hQ ((xC w.heap.size w).alloc (xA _) (.cells #[.int .i64 1,.string vx,.slice vla vll vlc,.slice vka vkl vkc] 29))
 have k0:(w.alloc (.cells #[.int .i64 1,.string vx,.slice vla vll vlc,.slice vka vkl vkc] 29)).cell? ⟨w.heap.size,0,none⟩ = some (.int .i64 1):=Qab HX.out 0 _ rfl
 have k3:(w.alloc (.cells #[.int .i64 1,.string vx,.slice vla vll vlc,.slice vka vkl vkc] 29)).cell? ⟨w.heap.size,3,none⟩ = some (.slice vka vkl vkc):=Qab HX.out 3 _ rfl
 have HR:=hQ (show Qgn 1 vkl i k = (k == 2 || k == 3) from rfl)
 go_enter Tryz.func147,Tryz.ntmps147
 go_wp2_with (first | (go_at_call 53;refine (Qb8 _ _).mono ?_;rintro e w1 ⟨rfl,rfl⟩) | (go_at_call 203;refine (Qcp _ _).mono ?_;rintro e w1 ⟨rfl,rfl⟩) | (go_at_call 204;refine (Qci _ _).mono ?_;rintro e w1 ⟨rfl,rfl⟩))
 all_goals
  go_ret
  exact ⟨Qah (by first | exact HR.out.symm | (rw [HR.out];done) | (rw [HR.out];simp_all;done)),HB0.out⟩
theorem rkid_2a (vx:ByteArray) (vla:Option Addr) (vll vlc:Nat) (vka:Option Addr) (vkl vkc i:Nat) (k:Int) (w:World) (_hi:i < 1000) (_hn:vkl ≤ 1000) (h:i + 1 = vkl):Calls Tryz.prog 147 #[.agg #[.int .i64 2,.string vx,.slice vla vll vlc,.slice vka vkl vkc],.int .i64 i,.int .i64 k] w fun e w'=>e = .returned (.bool (Qgn 2 vkl i k)) ∧ Below w.heap.size w w':=by
 have HX:=hQ (xH w (.cells #[.int .i64 2,.string vx,.slice vla vll vlc,.slice vka vkl vkc] 29))
 have HB0:=hQ ((xC w.heap.size w).alloc (xA _) (.cells #[.int .i64 2,.string vx,.slice vla vll vlc,.slice vka vkl vkc] 29))
 have k0:(w.alloc (.cells #[.int .i64 2,.string vx,.slice vla vll vlc,.slice vka vkl vkc] 29)).cell? ⟨w.heap.size,0,none⟩ = some (.int .i64 2):=Qab HX.out 0 _ rfl
 have k3:(w.alloc (.cells #[.int .i64 2,.string vx,.slice vla vll vlc,.slice vka vkl vkc] 29)).cell? ⟨w.heap.size,3,none⟩ = some (.slice vka vkl vkc):=Qab HX.out 3 _ rfl
 have HR:=hQ (show Qgn 2 vkl i k = exprB k from by unfold Qgn;rw [if_neg (by decide),if_pos rfl,if_pos h])
 have d1:((i:Int) == (vkl:Int) - 1) = true:=beq_iff_eq.2 (by omega)
 clear h
 go_enter Tryz.func147,Tryz.ntmps147
 go_wp2_with (first | (go_at_call 53;refine (Qb8 _ _).mono ?_;rintro e w1 ⟨rfl,rfl⟩) | (go_at_call 203;refine (Qcp _ _).mono ?_;rintro e w1 ⟨rfl,rfl⟩) | (go_at_call 204;refine (Qci _ _).mono ?_;rintro e w1 ⟨rfl,rfl⟩))
 all_goals
  go_ret
  exact ⟨Qah (by first | exact HR.out.symm | (rw [HR.out];done) | (rw [HR.out];simp_all;done)),HB0.out⟩
theorem rkid_2b (vx:ByteArray) (vla:Option Addr) (vll vlc:Nat) (vka:Option Addr) (vkl vkc i:Nat) (k:Int) (w:World) (_hi:i < 1000) (_hn:vkl ≤ 1000) (h1:i + 1 ≠ vkl) (h:i + 2 = vkl):Calls Tryz.prog 147 #[.agg #[.int .i64 2,.string vx,.slice vla vll vlc,.slice vka vkl vkc],.int .i64 i,.int .i64 k] w fun e w'=>e = .returned (.bool (Qgn 2 vkl i k)) ∧ Below w.heap.size w w':=by
 have HX:=hQ (xH w (.cells #[.int .i64 2,.string vx,.slice vla vll vlc,.slice vka vkl vkc] 29))
 have HB0:=hQ ((xC w.heap.size w).alloc (xA _) (.cells #[.int .i64 2,.string vx,.slice vla vll vlc,.slice vka vkl vkc] 29))
 have k0:(w.alloc (.cells #[.int .i64 2,.string vx,.slice vla vll vlc,.slice vka vkl vkc] 29)).cell? ⟨w.heap.size,0,none⟩ = some (.int .i64 2):=Qab HX.out 0 _ rfl
 have k3:(w.alloc (.cells #[.int .i64 2,.string vx,.slice vla vll vlc,.slice vka vkl vkc] 29)).cell? ⟨w.heap.size,3,none⟩ = some (.slice vka vkl vkc):=Qab HX.out 3 _ rfl
 have HR:=hQ (show Qgn 2 vkl i k = Qe8 3 k from by unfold Qgn;rw [if_neg (by decide),if_pos rfl,if_neg h1,if_pos h])
 have d1:((i:Int) == (vkl:Int) - 1) = false:=beq_eq_false_iff_ne.2 (by omega)
 have d2:((i:Int) == (vkl:Int) - 2) = true:=beq_iff_eq.2 (by omega)
 clear h h1
 go_enter Tryz.func147,Tryz.ntmps147
 go_wp2_with (first | (go_at_call 53;refine (Qb8 _ _).mono ?_;rintro e w1 ⟨rfl,rfl⟩) | (go_at_call 203;refine (Qcp _ _).mono ?_;rintro e w1 ⟨rfl,rfl⟩) | (go_at_call 204;refine (Qci _ _).mono ?_;rintro e w1 ⟨rfl,rfl⟩))
 all_goals
  go_ret
  exact ⟨Qah (by first | exact HR.out.symm | (rw [HR.out];done) | (rw [HR.out];simp_all;done)),HB0.out⟩
theorem rkid_2c (vx:ByteArray) (vla:Option Addr) (vll vlc:Nat) (vka:Option Addr) (vkl vkc i:Nat) (k:Int) (w:World) (_hi:i < 1000) (_hn:vkl ≤ 1000) (h1:i + 1 ≠ vkl) (h:i + 2 ≠ vkl):Calls Tryz.prog 147 #[.agg #[.int .i64 2,.string vx,.slice vla vll vlc,.slice vka vkl vkc],.int .i64 i,.int .i64 k] w fun e w'=>e = .returned (.bool (Qgn 2 vkl i k)) ∧ Below w.heap.size w w':=by
 have HX:=hQ (xH w (.cells #[.int .i64 2,.string vx,.slice vla vll vlc,.slice vka vkl vkc] 29))
 have HB0:=hQ ((xC w.heap.size w).alloc (xA _) (.cells #[.int .i64 2,.string vx,.slice vla vll vlc,.slice vka vkl vkc] 29))
 have k0:(w.alloc (.cells #[.int .i64 2,.string vx,.slice vla vll vlc,.slice vka vkl vkc] 29)).cell? ⟨w.heap.size,0,none⟩ = some (.int .i64 2):=Qab HX.out 0 _ rfl
 have k3:(w.alloc (.cells #[.int .i64 2,.string vx,.slice vla vll vlc,.slice vka vkl vkc] 29)).cell? ⟨w.heap.size,3,none⟩ = some (.slice vka vkl vkc):=Qab HX.out 3 _ rfl
 have HR:=hQ (show Qgn 2 vkl i k = (k == 4) from by unfold Qgn;rw [if_neg (by decide),if_pos rfl,if_neg h1,if_neg h])
 have d1:((i:Int) == (vkl:Int) - 1) = false:=beq_eq_false_iff_ne.2 (by omega)
 have d2:((i:Int) == (vkl:Int) - 2) = false:=beq_eq_false_iff_ne.2 (by omega)
 clear h h1
 go_enter Tryz.func147,Tryz.ntmps147
 go_wp2_with (first | (go_at_call 53;refine (Qb8 _ _).mono ?_;rintro e w1 ⟨rfl,rfl⟩) | (go_at_call 203;refine (Qcp _ _).mono ?_;rintro e w1 ⟨rfl,rfl⟩) | (go_at_call 204;refine (Qci _ _).mono ?_;rintro e w1 ⟨rfl,rfl⟩))
 all_goals
  go_ret
  exact ⟨Qah (by first | exact HR.out.symm | (rw [HR.out];done) | (rw [HR.out];simp_all;done)),HB0.out⟩
theorem rkid_3 (vx:ByteArray) (vla:Option Addr) (vll vlc:Nat) (vka:Option Addr) (vkl vkc i:Nat) (k:Int) (w:World) (_hi:i < 1000) (_hn:vkl ≤ 1000):Calls Tryz.prog 147 #[.agg #[.int .i64 3,.string vx,.slice vla vll vlc,.slice vka vkl vkc],.int .i64 i,.int .i64 k] w fun e w'=>e = .returned (.bool (Qgn 3 vkl i k)) ∧ Below w.heap.size w w':=by
 have HX:=hQ (xH w (.cells #[.int .i64 3,.string vx,.slice vla vll vlc,.slice vka vkl vkc] 29))
 have HB0:=hQ ((xC w.heap.size w).alloc (xA _) (.cells #[.int .i64 3,.string vx,.slice vla vll vlc,.slice vka vkl vkc] 29))
 have k0:(w.alloc (.cells #[.int .i64 3,.string vx,.slice vla vll vlc,.slice vka vkl vkc] 29)).cell? ⟨w.heap.size,0,none⟩ = some (.int .i64 3):=Qab HX.out 0 _ rfl
 have k3:(w.alloc (.cells #[.int .i64 3,.string vx,.slice vla vll vlc,.slice vka vkl vkc] 29)).cell? ⟨w.heap.size,3,none⟩ = some (.slice vka vkl vkc):=Qab HX.out 3 _ rfl
 have HR:=hQ (show Qgn 3 vkl i k = Qe8 3 k from rfl)
 go_enter Tryz.func147,Tryz.ntmps147
 go_wp2_with (first | (go_at_call 53;refine (Qb8 _ _).mono ?_;rintro e w1 ⟨rfl,rfl⟩) | (go_at_call 203;refine (Qcp _ _).mono ?_;rintro e w1 ⟨rfl,rfl⟩) | (go_at_call 204;refine (Qci _ _).mono ?_;rintro e w1 ⟨rfl,rfl⟩))
 all_goals
  go_ret
  exact ⟨Qah (by first | exact HR.out.symm | (rw [HR.out];done) | (rw [HR.out];simp_all;done)),HB0.out⟩
theorem rkid_4 (vx:ByteArray) (vla:Option Addr) (vll vlc:Nat) (vka:Option Addr) (vkl vkc i:Nat) (k:Int) (w:World) (_hi:i < 1000) (_hn:vkl ≤ 1000):Calls Tryz.prog 147 #[.agg #[.int .i64 4,.string vx,.slice vla vll vlc,.slice vka vkl vkc],.int .i64 i,.int .i64 k] w fun e w'=>e = .returned (.bool (Qgn 4 vkl i k)) ∧ Below w.heap.size w w':=by
 have HX:=hQ (xH w (.cells #[.int .i64 4,.string vx,.slice vla vll vlc,.slice vka vkl vkc] 29))
 have HB0:=hQ ((xC w.heap.size w).alloc (xA _) (.cells #[.int .i64 4,.string vx,.slice vla vll vlc,.slice vka vkl vkc] 29))
 have k0:(w.alloc (.cells #[.int .i64 4,.string vx,.slice vla vll vlc,.slice vka vkl vkc] 29)).cell? ⟨w.heap.size,0,none⟩ = some (.int .i64 4):=Qab HX.out 0 _ rfl
 have k3:(w.alloc (.cells #[.int .i64 4,.string vx,.slice vla vll vlc,.slice vka vkl vkc] 29)).cell? ⟨w.heap.size,3,none⟩ = some (.slice vka vkl vkc):=Qab HX.out 3 _ rfl
 have HR:=hQ (show Qgn 4 vkl i k = Qe8 3 k from rfl)
 go_enter Tryz.func147,Tryz.ntmps147
 go_wp2_with (first | (go_at_call 53;refine (Qb8 _ _).mono ?_;rintro e w1 ⟨rfl,rfl⟩) | (go_at_call 203;refine (Qcp _ _).mono ?_;rintro e w1 ⟨rfl,rfl⟩) | (go_at_call 204;refine (Qci _ _).mono ?_;rintro e w1 ⟨rfl,rfl⟩))
 all_goals
  go_ret
  exact ⟨Qah (by first | exact HR.out.symm | (rw [HR.out];done) | (rw [HR.out];simp_all;done)),HB0.out⟩
theorem rkid_8 (vx:ByteArray) (vla:Option Addr) (vll vlc:Nat) (vka:Option Addr) (vkl vkc i:Nat) (k:Int) (w:World) (_hi:i < 1000) (_hn:vkl ≤ 1000):Calls Tryz.prog 147 #[.agg #[.int .i64 8,.string vx,.slice vla vll vlc,.slice vka vkl vkc],.int .i64 i,.int .i64 k] w fun e w'=>e = .returned (.bool (Qgn 8 vkl i k)) ∧ Below w.heap.size w w':=by
 have HX:=hQ (xH w (.cells #[.int .i64 8,.string vx,.slice vla vll vlc,.slice vka vkl vkc] 29))
 have HB0:=hQ ((xC w.heap.size w).alloc (xA _) (.cells #[.int .i64 8,.string vx,.slice vla vll vlc,.slice vka vkl vkc] 29))
 have k0:(w.alloc (.cells #[.int .i64 8,.string vx,.slice vla vll vlc,.slice vka vkl vkc] 29)).cell? ⟨w.heap.size,0,none⟩ = some (.int .i64 8):=Qab HX.out 0 _ rfl
 have k3:(w.alloc (.cells #[.int .i64 8,.string vx,.slice vla vll vlc,.slice vka vkl vkc] 29)).cell? ⟨w.heap.size,3,none⟩ = some (.slice vka vkl vkc):=Qab HX.out 3 _ rfl
 have HR:=hQ (show Qgn 8 vkl i k = Qe8 3 k from rfl)
 go_enter Tryz.func147,Tryz.ntmps147
 go_wp2_with (first | (go_at_call 53;refine (Qb8 _ _).mono ?_;rintro e w1 ⟨rfl,rfl⟩) | (go_at_call 203;refine (Qcp _ _).mono ?_;rintro e w1 ⟨rfl,rfl⟩) | (go_at_call 204;refine (Qci _ _).mono ?_;rintro e w1 ⟨rfl,rfl⟩))
 all_goals
  go_ret
  exact ⟨Qah (by first | exact HR.out.symm | (rw [HR.out];done) | (rw [HR.out];simp_all;done)),HB0.out⟩
theorem rkid_16 (vx:ByteArray) (vla:Option Addr) (vll vlc:Nat) (vka:Option Addr) (vkl vkc i:Nat) (k:Int) (w:World) (_hi:i < 1000) (_hn:vkl ≤ 1000):Calls Tryz.prog 147 #[.agg #[.int .i64 16,.string vx,.slice vla vll vlc,.slice vka vkl vkc],.int .i64 i,.int .i64 k] w fun e w'=>e = .returned (.bool (Qgn 16 vkl i k)) ∧ Below w.heap.size w w':=by
 have HX:=hQ (xH w (.cells #[.int .i64 16,.string vx,.slice vla vll vlc,.slice vka vkl vkc] 29))
 have HB0:=hQ ((xC w.heap.size w).alloc (xA _) (.cells #[.int .i64 16,.string vx,.slice vla vll vlc,.slice vka vkl vkc] 29))
 have k0:(w.alloc (.cells #[.int .i64 16,.string vx,.slice vla vll vlc,.slice vka vkl vkc] 29)).cell? ⟨w.heap.size,0,none⟩ = some (.int .i64 16):=Qab HX.out 0 _ rfl
 have k3:(w.alloc (.cells #[.int .i64 16,.string vx,.slice vla vll vlc,.slice vka vkl vkc] 29)).cell? ⟨w.heap.size,3,none⟩ = some (.slice vka vkl vkc):=Qab HX.out 3 _ rfl
 have HR:=hQ (show Qgn 16 vkl i k = (k == 17) from rfl)
 go_enter Tryz.func147,Tryz.ntmps147
 go_wp2_with (first | (go_at_call 53;refine (Qb8 _ _).mono ?_;rintro e w1 ⟨rfl,rfl⟩) | (go_at_call 203;refine (Qcp _ _).mono ?_;rintro e w1 ⟨rfl,rfl⟩) | (go_at_call 204;refine (Qci _ _).mono ?_;rintro e w1 ⟨rfl,rfl⟩))
 all_goals
  go_ret
  exact ⟨Qah (by first | exact HR.out.symm | (rw [HR.out];done) | (rw [HR.out];simp_all;done)),HB0.out⟩
theorem rkid_21t (vx:ByteArray) (vla:Option Addr) (vll vlc:Nat) (vka:Option Addr) (vkl vkc i:Nat) (k:Int) (w:World) (_hi:i < 1000) (_hn:vkl ≤ 1000) (hu:unitB k = true):Calls Tryz.prog 147 #[.agg #[.int .i64 21,.string vx,.slice vla vll vlc,.slice vka vkl vkc],.int .i64 i,.int .i64 k] w fun e w'=>e = .returned (.bool (Qgn 21 vkl i k)) ∧ Below w.heap.size w w':=by
 have HX:=hQ (xH w (.cells #[.int .i64 21,.string vx,.slice vla vll vlc,.slice vka vkl vkc] 29))
 have HB0:=hQ ((xC w.heap.size w).alloc (xA _) (.cells #[.int .i64 21,.string vx,.slice vla vll vlc,.slice vka vkl vkc] 29))
 have k0:(w.alloc (.cells #[.int .i64 21,.string vx,.slice vla vll vlc,.slice vka vkl vkc] 29)).cell? ⟨w.heap.size,0,none⟩ = some (.int .i64 21):=Qab HX.out 0 _ rfl
 have k3:(w.alloc (.cells #[.int .i64 21,.string vx,.slice vla vll vlc,.slice vka vkl vkc] 29)).cell? ⟨w.heap.size,3,none⟩ = some (.slice vka vkl vkc):=Qab HX.out 3 _ rfl
 have HR:=hQ (show Qgn 21 vkl i k = true from by show (unitB k || (decide (i = 0) && k == 21)) = true;rw [hu];rfl)
 go_enter Tryz.func147,Tryz.ntmps147
 go_wp2_with (first | (go_at_call 53;refine (Qb8 _ _).mono ?_;rintro e w1 ⟨rfl,rfl⟩) | (go_at_call 203;refine (Qcp _ _).mono ?_;rintro e w1 ⟨rfl,rfl⟩) | (go_at_call 204;refine (Qci _ _).mono ?_;rw [hu];rintro e w1 ⟨rfl,rfl⟩))
 all_goals
  go_ret
  exact ⟨Qah (by first | exact HR.out.symm | (rw [HR.out];done) | (rw [HR.out];simp_all;done)),HB0.out⟩
theorem rkid_21f (vx:ByteArray) (vla:Option Addr) (vll vlc:Nat) (vka:Option Addr) (vkl vkc i:Nat) (k:Int) (w:World) (_hi:i < 1000) (_hn:vkl ≤ 1000) (hu:unitB k = false):Calls Tryz.prog 147 #[.agg #[.int .i64 21,.string vx,.slice vla vll vlc,.slice vka vkl vkc],.int .i64 i,.int .i64 k] w fun e w'=>e = .returned (.bool (Qgn 21 vkl i k)) ∧ Below w.heap.size w w':=by
 have HX:=hQ (xH w (.cells #[.int .i64 21,.string vx,.slice vla vll vlc,.slice vka vkl vkc] 29))
 have HB0:=hQ ((xC w.heap.size w).alloc (xA _) (.cells #[.int .i64 21,.string vx,.slice vla vll vlc,.slice vka vkl vkc] 29))
 have k0:(w.alloc (.cells #[.int .i64 21,.string vx,.slice vla vll vlc,.slice vka vkl vkc] 29)).cell? ⟨w.heap.size,0,none⟩ = some (.int .i64 21):=Qab HX.out 0 _ rfl
 have k3:(w.alloc (.cells #[.int .i64 21,.string vx,.slice vla vll vlc,.slice vka vkl vkc] 29)).cell? ⟨w.heap.size,3,none⟩ = some (.slice vka vkl vkc):=Qab HX.out 3 _ rfl
 have HR:=hQ (show Qgn 21 vkl i k = (decide (i = 0) && k == 21) from by show (unitB k || (decide (i = 0) && k == 21)) = _;rw [hu];rfl)
 by_cases h0:i = 0
 ·subst h0
  go_enter Tryz.func147,Tryz.ntmps147
  go_wp2_with (first | (go_at_call 53;refine (Qb8 _ _).mono ?_;rintro e w1 ⟨rfl,rfl⟩) | (go_at_call 203;refine (Qcp _ _).mono ?_;rintro e w1 ⟨rfl,rfl⟩) | (go_at_call 204;refine (Qci _ _).mono ?_;rw [hu];rintro e w1 ⟨rfl,rfl⟩))
  all_goals
   go_ret
   exact ⟨Qah (by first | exact HR.out.symm | (rw [HR.out];simp_all;done)),HB0.out⟩
 ·have d1:((i:Int) == 0) = false:=beq_eq_false_iff_ne.2 (by omega)
  have d2:(i == 0) = false:=beq_eq_false_iff_ne.2 h0
  have HR2:=hQ (show Qgn 21 vkl i k = false from by rw [HR.out,decide_eq_false h0];rfl)
  clear h0
  go_enter Tryz.func147,Tryz.ntmps147
  go_wp2_with (first | (go_at_call 53;refine (Qb8 _ _).mono ?_;rintro e w1 ⟨rfl,rfl⟩) | (go_at_call 203;refine (Qcp _ _).mono ?_;rintro e w1 ⟨rfl,rfl⟩) | (go_at_call 204;refine (Qci _ _).mono ?_;rw [hu];rintro e w1 ⟨rfl,rfl⟩))
  all_goals
   go_ret
   exact ⟨Qah (by first | exact HR2.out.symm | (rw [HR2.out];simp_all;done)),HB0.out⟩
theorem rkid_other (tk:Int) (vx:ByteArray) (vla:Option Addr) (vll vlc:Nat) (vka:Option Addr) (vkl vkc i:Nat) (k:Int) (w:World) (_hi:i < 1000) (_hn:vkl ≤ 1000) (h:tk ≠ 1 ∧ tk ≠ 2 ∧ tk ≠ 3 ∧ tk ≠ 4 ∧ tk ≠ 8 ∧ tk ≠ 16 ∧ tk ≠ 21):Calls Tryz.prog 147 #[.agg #[.int .i64 tk,.string vx,.slice vla vll vlc,.slice vka vkl vkc],.int .i64 i,.int .i64 k] w fun e w'=>e = .returned (.bool (Qgn tk vkl i k)) ∧ Below w.heap.size w w':=by
 have HX:=hQ (xH w (.cells #[.int .i64 tk,.string vx,.slice vla vll vlc,.slice vka vkl vkc] 29))
 have HB0:=hQ ((xC w.heap.size w).alloc (xA _) (.cells #[.int .i64 tk,.string vx,.slice vla vll vlc,.slice vka vkl vkc] 29))
 have k0:(w.alloc (.cells #[.int .i64 tk,.string vx,.slice vla vll vlc,.slice vka vkl vkc] 29)).cell? ⟨w.heap.size,0,none⟩ = some (.int .i64 tk):=Qab HX.out 0 _ rfl
 have k3:(w.alloc (.cells #[.int .i64 tk,.string vx,.slice vla vll vlc,.slice vka vkl vkc] 29)).cell? ⟨w.heap.size,3,none⟩ = some (.slice vka vkl vkc):=Qab HX.out 3 _ rfl
 have HR:=hQ (show Qgn tk vkl i k = exprB k from by unfold Qgn;rw [if_neg (by omega),if_neg (by omega),if_neg (by omega),if_neg (by omega),if_neg (by omega)])
 have e1:=Qck (show tk ≠ 1 from by omega)
 have e2:=Qck (show tk ≠ 2 from by omega)
 have e3:=Qck (show tk ≠ 3 from by omega)
 have e4:=Qck (show tk ≠ 4 from by omega)
 have e8:=Qck (show tk ≠ 8 from by omega)
 have e16:=Qck (show tk ≠ 16 from by omega)
 have e21:=Qck (show tk ≠ 21 from by omega)
 clear h
 go_enter Tryz.func147,Tryz.ntmps147
 go_wp2_with (first | (go_at_call 53;refine (Qb8 _ _).mono ?_;rintro e w1 ⟨rfl,rfl⟩) | (go_at_call 203;refine (Qcp _ _).mono ?_;rintro e w1 ⟨rfl,rfl⟩) | (go_at_call 204;refine (Qci _ _).mono ?_;rintro e w1 ⟨rfl,rfl⟩))
 all_goals
  go_ret
  exact ⟨Qah (by first | exact HR.out.symm | (rw [HR.out];done) | (rw [HR.out];simp_all;done)),HB0.out⟩
theorem rkid_any (tk:Int) (vx:ByteArray) (vla:Option Addr) (vll vlc:Nat) (vka:Option Addr) (vkl vkc i:Nat) (k:Int) (w:World) (hi:i < 1000) (hn:vkl ≤ 1000):Calls Tryz.prog 147 #[.agg #[.int .i64 tk,.string vx,.slice vla vll vlc,.slice vka vkl vkc],.int .i64 i,.int .i64 k] w fun e w'=>e = .returned (.bool (Qgn tk vkl i k)) ∧ Below w.heap.size w w':=by
 by_cases h:tk ≠ 1 ∧ tk ≠ 2 ∧ tk ≠ 3 ∧ tk ≠ 4 ∧ tk ≠ 8 ∧ tk ≠ 16 ∧ tk ≠ 21
 ·exact rkid_other tk vx vla vll vlc vka vkl vkc i k w hi hn h
 ·rcases (show tk = 1 ∨ tk = 2 ∨ tk = 3 ∨ tk = 4 ∨ tk = 8 ∨ tk = 16 ∨ tk = 21 from by omega) with rfl | rfl | rfl | rfl | rfl | rfl | rfl
  ·exact rkid_1 vx vla vll vlc vka vkl vkc i k w hi hn
  ·by_cases h1:i + 1 = vkl
   ·exact rkid_2a vx vla vll vlc vka vkl vkc i k w hi hn h1
   ·by_cases h2:i + 2 = vkl
    ·exact rkid_2b vx vla vll vlc vka vkl vkc i k w hi hn h1 h2
    ·exact rkid_2c vx vla vll vlc vka vkl vkc i k w hi hn h1 h2
  ·exact rkid_3 vx vla vll vlc vka vkl vkc i k w hi hn
  ·exact rkid_4 vx vla vll vlc vka vkl vkc i k w hi hn
  ·exact rkid_8 vx vla vll vlc vka vkl vkc i k w hi hn
  ·exact rkid_16 vx vla vll vlc vka vkl vkc i k w hi hn
  ·cases hu:unitB k
   ·exact rkid_21f vx vla vll vlc vka vkl vkc i k w hi hn hu
   ·exact rkid_21t vx vla vll vlc vka vkl vkc i k w hi hn hu
mutual
def Qcq:Tr → Bool
 | .mk k x _ ks=>!decide (Qat k ks.length < 0) && Qbq (Qae k) x && Qcj k ks.length 0 ks
def Qcj:Int → Nat → Nat → List Tr → Bool
 | _,_,_,[]=>true
 | k,n,i,a :: r=>Qgn k n i a.kind && Qcq a && Qcj k n (i + 1) r
end
theorem Qg1 (t:Tr):Qcq t = (!decide (Qat t.kind t.kids.length < 0) && Qbq (Qae t.kind) t.text && Qcj t.kind t.kids.length 0 t.kids):=by
 cases t with
 | mk k x ls ks=>rw [Qcq];rfl
theorem shapedRL_at (k:Int) (n:Nat) (l:List Tr) (j:Nat) (a:Tr) (h:l[j]? = some a):Qcj k n j (l.drop j) = (Qgn k n j a.kind && Qcq a && Qcj k n (j + 1) (l.drop (j + 1))):=by
 obtain ⟨hj,he⟩:=List.getElem?_eq_some_iff.1 h
 rw [List.drop_eq_getElem_cons hj,he,Qcj]
theorem shapedRL_end (k:Int) (n:Nat) (l:List Tr) (j:Nat) (h:l.length ≤ j):Qcj k n j (l.drop j) = true:=by
 rw [List.drop_eq_nil_of_le h,Qcj]
theorem free_leads (k:Int) (n:Nat) (hn:n ≤ 1000):(Qbz (Qae k) n).2 = !decide (Qat k n < 0):=by
 rw [← leads_eq k n (by omega)]
 unfold leadsP
 have hc:∀ (l:List Part) (m:Int),0 ≤ commasP l m:=by
  intro l m
  induction l with
  | nil=>exact Int.le_refl 0
  | cons x r ih =>
   rw [commasP]
   split
   ·rename_i h
    simp only [Bool.and_eq_true,decide_eq_true_eq] at h
    omega
   ·omega
 cases (Qbz (Qae k) n).2
 ·rw [if_neg (by decide)];rfl
 ·rw [if_pos rfl]
  have:=hc (Qae k) (Qbz (Qae k) n).1
  rw [decide_eq_false (by omega)]
  rfl
theorem Qep {k:Int} {n:Nat} {o:Int} (hl:Qae k ≠ []) (ho:(onesP (Qae k):Int) = o):(Qbz (Qae k) n).1 = n - o:=by
 unfold Qbz
 rw [if_neg (fun h=>by rcases h with h | h;exact hl h;omega),freeL_ones,ho]
theorem Qe7 {n:Nat} {must m:Int} (h:(!decide (Qbc n must m < 0)) = true):(n:Int) = must:=by
 unfold Qbc at h
 by_cases e:(n:Int) = must
 ·exact e
 ·rw [if_neg e] at h
  exact absurd h (by decide)
theorem sorts_1 (n:Nat):Qee (Qae 1) (Qbz (Qae 1) n).1 = List.replicate n 1:=by
 rw [Qep (o:=0) (by decide) rfl]
 simp [Qae,Qee,Qbw,Qch,Qew,Qf2]
theorem sorts_2 (n:Nat) (h:2 ≤ n):Qee (Qae 2) (Qbz (Qae 2) n).1 = List.replicate (n - 2) 2 ++ [3,5]:=by
 rw [Qep (o:=2) (by decide) rfl]
 have:((n:Int) - 2).toNat = n - 2:=by omega
 simp [Qae,Qee,Qbw,Qch,Qew,Qf2,oneP,this]
theorem sorts_16 (n:Nat):Qee (Qae 16) (Qbz (Qae 16) n).1 = List.replicate n 4:=by
 rw [Qep (o:=0) (by decide) rfl]
 simp [Qae,Qee,Qbw,Qch,Qew,Qf2]
theorem sorts_18 (n:Nat):Qee (Qae 18) (Qbz (Qae 18) n).1 = List.replicate n 5:=by
 rw [Qep (o:=0) (by decide) rfl]
 simp [Qae,Qee,Qbw,Qch,Qf2]
theorem rep_get {n j:Nat} {s:Int} (h:j < n):(List.replicate n s)[j]? = some s:=by rw [List.getElem?_replicate];simp [h]
theorem kid_cases {k:Int} (h:¬ (k ≤ 0 ∨ 23 ≤ k)):k = 1 ∨ k = 2 ∨ k = 3 ∨ k = 4 ∨ k = 5 ∨ k = 6 ∨ k = 7 ∨ k = 8 ∨ k = 9 ∨ k = 10 ∨ k = 11 ∨ k = 12 ∨ k = 13 ∨ k = 14 ∨ k = 15 ∨ k = 16 ∨ k = 17 ∨ k = 18 ∨ k = 19 ∨ k = 20 ∨ k = 21 ∨ k = 22:=by omega
theorem sorts_kid (k:Int) (n:Nat) (hn:n ≤ 1000) (h:(Qbz (Qae k) n).2 = true) (j:Nat) (hj:j < n):∃ s,(Qee (Qae k) (Qbz (Qae k) n).1)[j]? = some s ∧ ∀ kd,Qgn k n j kd = Qe8 s kd:=by
 have hq:=h
 rw [free_leads k n hn] at hq
 by_cases h0:k ≤ 0 ∨ 23 ≤ k
 ·rw [Qdn h0] at h
  simp [Qbz] at h
 ·rcases kid_cases h0 with rfl | rfl | rfl | rfl | rfl | rfl | rfl | rfl | rfl | rfl | rfl | rfl | rfl | rfl | rfl | rfl | rfl | rfl | rfl | rfl | rfl | rfl
  ·exact ⟨1,by rw [sorts_1];exact rep_get hj,fun kd=>rfl⟩
  ·have h2:2 ≤ n:=by
    rcases Nat.lt_or_ge n 2 with h' | h'
    ·rw [show Qat 2 n = -1 from by show (if 2 ≤ (n:Int) then 6 + max 0 ((n:Int) - 3) else -1) = _;rw [if_neg (by omega)]] at hq
     exact absurd hq (by decide)
    ·exact h'
   rw [sorts_2 n h2]
   by_cases j1:j + 1 = n
   ·refine ⟨5,?_,fun kd=>?_⟩
    ·rw [List.getElem?_append_right (by simp;omega),List.length_replicate,show j - (n - 2) = 1 from by omega];rfl
    ·unfold Qgn;rw [if_neg (by decide),if_pos rfl,if_pos j1];exact Qg0 kd
   ·by_cases j2:j + 2 = n
    ·refine ⟨3,?_,fun kd=>?_⟩
     ·rw [List.getElem?_append_right (by simp;omega),List.length_replicate,show j - (n - 2) = 0 from by omega];rfl
     ·unfold Qgn;rw [if_neg (by decide),if_pos rfl,if_neg j1,if_pos j2]
    ·refine ⟨2,?_,fun kd=>?_⟩
     ·rw [List.getElem?_append_left (by simp;omega)];exact rep_get (by omega)
     ·unfold Qgn;rw [if_neg (by decide),if_pos rfl,if_neg j1,if_neg j2];rfl
  ·obtain rfl:n = 1:=by have:=Qe7 (n:=n) (must:=1) (m:=3) hq;omega
   obtain rfl:j = 0:=by omega
   exact ⟨3,rfl,fun kd=>rfl⟩
  ·obtain rfl:n = 1:=by have:=Qe7 (n:=n) (must:=1) (m:=2) hq;omega
   obtain rfl:j = 0:=by omega
   exact ⟨3,rfl,fun kd=>rfl⟩
  ·have:=Qe7 (n:=n) (must:=0) (m:=1) hq;omega
  ·have:=Qe7 (n:=n) (must:=0) (m:=1) hq;omega
  ·have:=Qe7 (n:=n) (must:=0) (m:=1) hq;omega
  ·obtain rfl:n = 1:=by have:=Qe7 (n:=n) (must:=1) (m:=2) hq;omega
   obtain rfl:j = 0:=by omega
   exact ⟨3,rfl,fun kd=>rfl⟩
  ·have:=Qe7 (n:=n) (must:=0) (m:=1) hq;omega
  ·have:=Qe7 (n:=n) (must:=0) (m:=1) hq;omega
  ·have:=Qe7 (n:=n) (must:=0) (m:=1) hq;omega
  ·have:=Qe7 (n:=n) (must:=0) (m:=1) hq;omega
  ·have:=Qe7 (n:=n) (must:=0) (m:=1) hq;omega
  ·have:=Qe7 (n:=n) (must:=0) (m:=1) hq;omega
  ·have:=Qe7 (n:=n) (must:=0) (m:=1) hq;omega
  ·exact ⟨4,by rw [sorts_16];exact rep_get hj,fun kd=>rfl⟩
  ·obtain rfl:n = 1:=by have:=Qe7 (n:=n) (must:=1) (m:=0) hq;omega
   obtain rfl:j = 0:=by omega
   exact ⟨5,rfl,fun kd=>Qg0 kd⟩
  ·exact ⟨5,by rw [sorts_18];exact rep_get hj,fun kd=>Qg0 kd⟩
  ·obtain rfl:n = 3:=by have:=Qe7 (n:=n) (must:=3) (m:=3) hq;omega
   rcases (show j = 0 ∨ j = 1 ∨ j = 2 from by omega) with rfl | rfl | rfl <;> exact ⟨5,rfl,fun kd=>Qg0 kd⟩
  ·obtain rfl:n = 2:=by have:=Qe7 (n:=n) (must:=2) (m:=4) hq;omega
   rcases (show j = 0 ∨ j = 1 from by omega) with rfl | rfl <;> exact ⟨5,rfl,fun kd=>Qg0 kd⟩
  ·obtain rfl:n = 2:=by have:=Qe7 (n:=n) (must:=2) (m:=1) hq;omega
   rcases (show j = 0 ∨ j = 1 from by omega) with rfl | rfl
   ·exact ⟨6,rfl,fun kd=>firstB_has kd⟩
   ·exact ⟨7,rfl,fun kd=>by rw [← unitB_has];show (unitB kd || (decide (1 = 0) && kd == 21)) = unitB kd;simp⟩
  ·obtain rfl:n = 1:=by have:=Qe7 (n:=n) (must:=1) (m:=2) hq;omega
   obtain rfl:j = 0:=by omega
   exact ⟨5,rfl,fun kd=>Qg0 kd⟩
theorem shapedRL_eq (k:Int) (n:Nat):∀ (ks:List Tr) (i:Nat) (ss:List Int),(∀ a ∈ ks,Qcq a = Qao a) → (∀ j,j < ks.length → ∃ s,ss[j]? = some s ∧ ∀ kd,Qgn k n (i + j) kd = Qe8 s kd) → Qcj k n i ks = Qd6 ks ss
 | [],i,ss,_,_=>by rw [Qcj,shapedL_nil]
 | a :: r,i,ss,ha,hs=>by
  obtain ⟨s,h0,hk⟩:=hs 0 (by simp)
  cases ss with
  | nil=>simp at h0
  | cons s' ss =>
   simp at h0
   subst h0
   have hk0:Qgn k n i a.kind = Qe8 s' a.kind:=hk a.kind
   rw [Qcj,shapedL_cons,← hk0,ha a (by simp),shapedRL_eq k n r (i + 1) ss (fun x hx=>ha x (by simp [hx])) (fun j hj=>by
    obtain ⟨s,h1,h2⟩:=hs (j + 1) (by simp;omega)
    exact ⟨s,by simpa using h1,fun kd=>by rw [show i + 1 + j = i + (j + 1) from by omega];exact h2 kd⟩)]
theorem mem_size {l:List Tr} {a:Tr} (h:a ∈ l):Qak a ≤ Qar l:=by
 induction l with
 | nil=>simp at h
 | cons x r ih =>
  rw [Qar]
  rcases List.mem_cons.1 h with rfl | h
  ·omega
  ·have:=ih h;omega
theorem mem_sizeOf {l:List Tr} {a:Tr} (h:a ∈ l):SizeOf.sizeOf a < SizeOf.sizeOf l:=List.sizeOf_lt_of_mem h
theorem Qgb (N:Nat):∀ t:Tr,SizeOf.sizeOf t ≤ N → Qak t ≤ 1000 → Qcq t = Qao t:=by
 induction N with
 | zero=>intro t h;have:=tr_pos t;omega
 | succ N ih =>
  intro t hN hs
  have hkl:=Qbb t.kids
  have hsz:=Qa6 t
  rw [Qg1,shapedT_eq,← free_leads t.kind t.kids.length (by omega)]
  cases hf:(Qbz (Qae t.kind) t.kids.length).2
  ·rfl
  ·rw [shapedRL_eq t.kind t.kids.length t.kids 0 _ (fun a ha=>ih a (by
    have h1:=mem_sizeOf ha
    cases t with
    | mk k x ls ks =>
     simp at hN
     have:SizeOf.sizeOf (Tr.mk k x ls ks).kids = SizeOf.sizeOf ks:=rfl
     omega) (by have:=mem_size ha;omega)) (fun j hj=>by rw [Nat.zero_add];exact sorts_kid t.kind t.kids.length (by omega) hf j hj)]
mutual
theorem within_depth:(t:Tr) → (n:Nat) → Qde t n = decide (Qd7 t ≤ n)
 | t,0=>by
  rw [show Qde t 0 = false from by cases t;rw [Qde],decide_eq_false]
  rw [depthT_eq]
  omega
 | .mk k x ls ks,n + 1=>by
  rw [Qde,Qd7,withinL_depth ks n]
  by_cases h:Qcw ks ≤ n
  ·rw [decide_eq_true h,decide_eq_true (by omega)]
  ·rw [decide_eq_false h,decide_eq_false (by omega)]
theorem withinL_depth:(l:List Tr) → (n:Nat) → Qe0 l n = decide (Qcw l ≤ n)
 | [],n=>by rw [Qe0,Qcw];simp
 | t :: r,n=>by
  rw [Qe0,Qcw,within_depth t n,withinL_depth r n]
  by_cases h1:Qd7 t ≤ n
  ·by_cases h2:Qcw r ≤ n
   ·rw [decide_eq_true h1,decide_eq_true h2,decide_eq_true (p:=max (Qd7 t) (Qcw r) ≤ n) (by omega)];rfl
   ·rw [decide_eq_true h1,decide_eq_false h2,decide_eq_false (p:=max (Qd7 t) (Qcw r) ≤ n) (by omega)];rfl
  ·rw [decide_eq_false h1,decide_eq_false (p:=max (Qd7 t) (Qcw r) ≤ n) (by omega),Bool.false_and]
end
def longR (k:Int) (n:Nat):Bool:=(k == 1 && decide (40 < n)) || (k == 2 && decide (10 < n)) || (k == 16 && decide (8 < n)) || (k == 18 && decide (16 < n))
theorem most_long (k:Int) (n:Nat):mostP (Qae k) (Qbz (Qae k) n).1 = !longR k n:=by
 by_cases h0:k ≤ 0 ∨ 23 ≤ k
 ·rw [Qdn h0]
  unfold longR
  rw [show (k == 1) = false from Qck (by omega),show (k == 2) = false from Qck (by omega),show (k == 16) = false from Qck (by omega),show (k == 18) = false from Qck (by omega)]
  rfl
 ·rcases kid_cases h0 with rfl | rfl | rfl | rfl | rfl | rfl | rfl | rfl | rfl | rfl | rfl | rfl | rfl | rfl | rfl | rfl | rfl | rfl | rfl | rfl | rfl | rfl
  ·rw [Qep (o:=0) (by decide) rfl]
   by_cases h:40 < n
   ·simp [Qae,mostP,Qbw,Qch,Qew,Qf2,longR,h];omega
   ·simp [Qae,mostP,Qbw,Qch,Qew,Qf2,longR,h];omega
  ·rw [Qep (o:=2) (by decide) rfl]
   by_cases h:10 < n
   ·simp [Qae,mostP,Qbw,Qch,Qew,Qf2,oneP,longR,h];omega
   ·simp [Qae,mostP,Qbw,Qch,Qew,Qf2,oneP,longR,h];omega
  ·rfl
  ·rfl
  ·rfl
  ·rfl
  ·rfl
  ·rfl
  ·rfl
  ·rfl
  ·rfl
  ·rfl
  ·rfl
  ·rfl
  ·rfl
  ·rw [Qep (o:=0) (by decide) rfl]
   by_cases h:8 < n
   ·simp [Qae,mostP,Qbw,Qch,Qew,Qf2,longR,h];omega
   ·simp [Qae,mostP,Qbw,Qch,Qew,Qf2,longR,h];omega
  ·rfl
  ·rw [Qep (o:=0) (by decide) rfl]
   by_cases h:16 < n
   ·simp [Qae,mostP,Qbw,Qch,Qf2,longR,h];omega
   ·simp [Qae,mostP,Qbw,Qch,Qf2,longR,h];omega
  ·rfl
  ·rfl
  ·rfl
  ·rfl
theorem limT_long (t:Tr):Qfx t = (!longR t.kind t.kids.length && limL t.kids):=by rw [limT_eq,most_long]
def ldR (ls:List ByteArray) (i:Nat):ByteArray:=(ls[i]?).getD ⟨#[]⟩
theorem piecesAt_false (cs:List ByteArray):∀ (l:List (List Qbi)) (i:Nat),Qa8 false cs i l = l.flatten
 | [],i=>by rw [Qa8];rfl
 | p :: r,i=>by rw [Qa8,piecesAt_false cs r (i + 1),if_neg (by simp)];rfl
theorem piecesAt_snoc (co:Bool) (cs:List ByteArray) (p:List Qbi):∀ (l:List (List Qbi)) (i:Nat),Qa8 co cs i (l ++ [p]) = Qa8 co cs i l ++ ((if 0 < i + l.length ∧ co = true then [(ldR cs (i + l.length - 1),⟨#[44]⟩)] else []) ++ p)
 | [],i=>by rw [List.nil_append,Qa8,Qa8,Qa8,List.append_nil,List.nil_append,xG,Nat.add_zero];rfl
 | a :: r,i=>by rw [List.cons_append,Qa8,Qa8,piecesAt_snoc co cs p r (i + 1),xD,show i + 1 + r.length = i + (r.length + 1) from by omega];simp only [List.append_assoc]
def Qfr (ls:List ByteArray) (comma:Nat) (ks:List Tr):List Qbi:=Qa8 true (ls.drop comma) 0 (ks.map Qaf)
theorem rowP_nil (ls:List ByteArray) (comma:Nat):Qfr ls comma [] = []:=by unfold Qfr;rw [List.map_nil,Qa8]
theorem ldR_drop (ls:List ByteArray) (c i:Nat):ldR (ls.drop c) i = ldR ls (c + i):=by unfold ldR;rw [List.getElem?_drop]
theorem rowP_snoc (ls:List ByteArray) (comma:Nat) (ks:List Tr) (k:Tr):Qfr ls comma (ks ++ [k]) = Qfr ls comma ks ++ ((if 0 < ks.length then [(ldR ls (comma + ks.length - 1),⟨#[44]⟩)] else []) ++ Qaf k):=by
 unfold Qfr
 rw [List.map_append,List.map_cons,List.map_nil,piecesAt_snoc,List.length_map,Nat.zero_add,ldR_drop]
 by_cases h:0 < ks.length
 ·rw [if_pos ⟨h,rfl⟩,if_pos h,show comma + (ks.length - 1) = comma + ks.length - 1 from by omega]
 ·rw [if_neg (fun e=>h e.1),if_neg h]
section
variable (x:ByteArray) (ls:List ByteArray)
theorem pieces_1 (ks:List Tr):Qaf (.mk 1 x ls ks) = [(ldR ls 0,⟨#[109,111,100,117,108,101]⟩),(ldR ls 1,x)] ++ ((ks.map Qaf).flatten ++ [(ldR ls 2,⟨#[]⟩)]):=by
 rw [Qc1]
 show Qbo (Qbz (Qae 1) ks.length).1 x (ls.drop (Qb7 (Qae 1))) (Qae 1) ls (ks.map Qaf) = _
 rw [Qep (o:=0) (by decide) rfl]
 have ht:List.take ks.length (ks.map Qaf) = ks.map Qaf:=List.take_of_length_le (by simp)
 simp [Qae,Qbo,Qbw,Qch,Qew,Qf2,piecesAt_false,ldR,ht]
theorem pieces_2 (ps:List Tr) (a b:Tr):Qaf (.mk 2 x ls (ps ++ [a,b])) = [(ldR ls 0,⟨#[100,101,102]⟩),(ldR ls 1,x),(ldR ls 2,⟨#[40]⟩)] ++ (Qfr ls 6 ps ++ ([(ldR ls 3,⟨#[41]⟩),(ldR ls 4,⟨#[58]⟩)] ++ (Qaf a ++ ([(ldR ls 5,⟨#[61]⟩)] ++ Qaf b)))):=by
 rw [Qc1]
 show Qbo (Qbz (Qae 2) (ps ++ [a,b]).length).1 x (ls.drop (Qb7 (Qae 2))) (Qae 2) ls ((ps ++ [a,b]).map Qaf) = _
 rw [Qep (o:=2) (by decide) rfl]
 have hn:(((ps ++ [a,b]).length:Nat):Int) - 2 = (ps.length:Int):=by simp
 rw [hn]
 have h1:List.take ps.length (ps.map Qaf ++ [Qaf a,Qaf b]) = ps.map Qaf:=by rw [List.take_append_of_le_length (by simp),List.take_of_length_le (by simp)]
 have h2:List.drop ps.length (ps.map Qaf ++ [Qaf a,Qaf b]) = [Qaf a,Qaf b]:=by rw [List.drop_append_of_le_length (by simp),List.drop_of_length_le (by simp)];rfl
 simp [Qae,Qbo,Qbw,Qch,Qew,Qf2,oneP,Qb7,Qa8,ldR,h1,h2,Qfr]
theorem pieces_3 (a:Tr):Qaf (.mk 3 x ls [a]) = [(ldR ls 0,⟨#[116,121,112,101]⟩),(ldR ls 1,x),(ldR ls 2,⟨#[61]⟩)] ++ Qaf a:=by
 rw [Qc1]
 show Qbo (Qbz (Qae 3) 1).1 x (ls.drop (Qb7 (Qae 3))) (Qae 3) ls [Qaf a] = _
 simp [Qae,Qbo,Qbw,Qch,Qew,oneP,Qa8,ldR]
theorem pieces_4 (a:Tr):Qaf (.mk 4 x ls [a]) = [(ldR ls 0,x),(ldR ls 1,⟨#[58]⟩)] ++ Qaf a:=by
 rw [Qc1]
 show Qbo (Qbz (Qae 4) 1).1 x (ls.drop (Qb7 (Qae 4))) (Qae 4) ls [Qaf a] = _
 simp [Qae,Qbo,Qbw,Qch,Qew,oneP,Qa8,ldR]
theorem pieces_8 (a:Tr):Qaf (.mk 8 x ls [a]) = [(ldR ls 0,⟨#[91]⟩)] ++ (Qaf a ++ [(ldR ls 1,⟨#[93]⟩)]):=by
 rw [Qc1]
 show Qbo (Qbz (Qae 8) 1).1 x (ls.drop (Qb7 (Qae 8))) (Qae 8) ls [Qaf a] = _
 simp [Qae,Qbo,Qbw,Qch,oneP,Qa8,ldR]
theorem pieces_16 (ks:List Tr):Qaf (.mk 16 x ls ks) = [(ldR ls 0,x),(ldR ls 1,⟨#[40]⟩)] ++ (Qfr ls 3 ks ++ [(ldR ls 2,⟨#[41]⟩)]):=by
 rw [Qc1]
 show Qbo (Qbz (Qae 16) ks.length).1 x (ls.drop (Qb7 (Qae 16))) (Qae 16) ls (ks.map Qaf) = _
 rw [Qep (o:=0) (by decide) rfl]
 have ht:List.take ks.length (ks.map Qaf) = ks.map Qaf:=List.take_of_length_le (by simp)
 simp [Qae,Qbo,Qbw,Qch,Qew,Qf2,Qb7,ldR,ht,Qfr]
theorem pieces_17 (a:Tr):Qaf (.mk 17 x ls [a]) = Qaf a:=by
 rw [Qc1]
 show Qbo (Qbz (Qae 17) 1).1 x (ls.drop (Qb7 (Qae 17))) (Qae 17) ls [Qaf a] = _
 simp [Qae,Qbo,Qbw,oneP,Qa8]
theorem pieces_18 (ks:List Tr):Qaf (.mk 18 x ls ks) = [(ldR ls 0,⟨#[91]⟩)] ++ (Qfr ls 2 ks ++ [(ldR ls 1,⟨#[93]⟩)]):=by
 rw [Qc1]
 show Qbo (Qbz (Qae 18) ks.length).1 x (ls.drop (Qb7 (Qae 18))) (Qae 18) ls (ks.map Qaf) = _
 rw [Qep (o:=0) (by decide) rfl]
 have ht:List.take ks.length (ks.map Qaf) = ks.map Qaf:=List.take_of_length_le (by simp)
 simp [Qae,Qbo,Qbw,Qch,Qf2,Qb7,ldR,ht,Qfr]
theorem pieces_19 (a b c:Tr):Qaf (.mk 19 x ls [a,b,c]) = [(ldR ls 0,⟨#[105,102]⟩)] ++ (Qaf a ++ ([(ldR ls 1,⟨#[116,104,101,110]⟩)] ++ (Qaf b ++ ([(ldR ls 2,⟨#[101,108,115,101]⟩)] ++ Qaf c)))):=by
 rw [Qc1]
 show Qbo (Qbz (Qae 19) 3).1 x (ls.drop (Qb7 (Qae 19))) (Qae 19) ls [Qaf a,Qaf b,Qaf c] = _
 simp [Qae,Qbo,Qbw,Qch,oneP,Qa8,ldR]
theorem pieces_20 (a b:Tr):Qaf (.mk 20 x ls [a,b]) = [(ldR ls 0,⟨#[108,101,116]⟩),(ldR ls 1,x),(ldR ls 2,⟨#[61]⟩)] ++ (Qaf a ++ ([(ldR ls 3,⟨#[105,110]⟩)] ++ Qaf b)):=by
 rw [Qc1]
 show Qbo (Qbz (Qae 20) 2).1 x (ls.drop (Qb7 (Qae 20))) (Qae 20) ls [Qaf a,Qaf b] = _
 simp [Qae,Qbo,Qbw,Qch,Qew,oneP,Qa8,ldR]
theorem pieces_21 (a b:Tr):Qaf (.mk 21 x ls [a,b]) = Qaf a ++ ([(ldR ls 0,x)] ++ Qaf b):=by
 rw [Qc1]
 show Qbo (Qbz (Qae 21) 2).1 x (ls.drop (Qb7 (Qae 21))) (Qae 21) ls [Qaf a,Qaf b] = _
 simp [Qae,Qbo,Qbw,Qew,oneP,Qa8,ldR]
theorem pieces_22 (a:Tr):Qaf (.mk 22 x ls [a]) = [(ldR ls 0,⟨#[40]⟩)] ++ (Qaf a ++ [(ldR ls 1,⟨#[41]⟩)]):=by
 rw [Qc1]
 show Qbo (Qbz (Qae 22) 1).1 x (ls.drop (Qb7 (Qae 22))) (Qae 22) ls [Qaf a] = _
 simp [Qae,Qbo,Qbw,Qch,oneP,Qa8,ldR]
def leafW (k:Int):Option ByteArray :=
 if k = 5 then some ⟨#[73,110,116]⟩ else if k = 6 then some ⟨#[84,101,120,116]⟩ else if k = 7 then some ⟨#[66,111,111,108]⟩
 else if k = 13 then some ⟨#[116,114,117,101]⟩ else if k = 14 then some ⟨#[102,97,108,115,101]⟩ else if k = 15 then some ⟨#[63]⟩ else none
theorem Qfg (k:Int) (y:ByteArray) (h:leafW k = some y):Qaf (.mk k x ls []) = [(ldR ls 0,y)]:=by
 have:k = 5 ∨ k = 6 ∨ k = 7 ∨ k = 13 ∨ k = 14 ∨ k = 15:=by
  unfold leafW at h
  repeat' split at h
  all_goals first | omega | simp at h
 rcases this with rfl | rfl | rfl | rfl | rfl | rfl <;> (cases h;rw [Qc1];simp [Tr.kind,Tr.text,Tr.leads,Tr.kids,Qae,Qbo,Qch,ldR])
theorem Qhg (k:Int) (h:k = 9 ∨ k = 10 ∨ k = 11 ∨ k = 12):Qaf (.mk k x ls []) = [(ldR ls 0,x)]:=by
 rcases h with rfl | rfl | rfl | rfl <;> (rw [Qc1];simp [Tr.kind,Tr.text,Tr.leads,Tr.kids,Qae,Qbo,Qew,ldR])
end
end Go.Proofs.YtjidpkcjpgdafaaGreat
