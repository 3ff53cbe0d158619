/- Part 3: The contracts of token and of all below it. -/
import Derived.Test.YtjidpkcjpgdafaaGreatSc1
import Derived.Test.YtjidpkcjpgdafaaGreatSc2
set_option maxRecDepth 100000
set_option maxHeartbeats 4000000
namespace Go.Proofs.YtjidpkcjpgdafaaGreat
open Go.RowKit
theorem Qdm (s:ByteArray):suf s 0 = s.toList:=by
 unfold suf
 rw [ByteArray.toList_eq]
 rfl
theorem Qbr {t:Tk} {x y z:Int} (a b c:Nat) (h:t = ⟨a,b,c⟩) (hx:x = a) (hy:y = b) (hz:z = c):Ending.returned (.tuple #[.int .i64 x,.int .i64 y,.int .i64 z]) = .returned (.tuple #[.int .i64 t.kind,.int .i64 t.n,.int .i64 t.e]):=by
 subst h hx hy hz
 rfl
theorem Qb0 {a b:Int} (h:a = b):Ending.returned (.int .i64 a) = .returned (.int .i64 b):=by rw [h]
theorem Qef (s:ByteArray) (k:Nat) (h:k < s.size):at' (suf s 0) k = s[k].toNat:=by
 rw [at_suf s 0 k (by omega)]
 simp
theorem reserved_any (s:ByteArray) (w:World):Calls Tryz.prog 219 #[.string s] w fun e w'=>e = .returned (.bool (Qaq (suf s 0))) ∧ w = w':=by
 go_enter Tryz.func219,Tryz.ntmps219
 go_wp2
 all_goals
  go_ret
  exact ⟨Qah (by rw [Qdm];simp_all [Qaq,reservedWords]),rfl⟩
theorem Qc3 (s:ByteArray) (w:World) (hs:s.size ≤ maxLen) :
  Calls Tryz.prog 218 #[.string s] w fun e w'=>e = .returned (.int .i64 (Qac (suf s 0):Nat)) ∧ w = w':=by
 unfold maxLen at hs
 have hst:=hQ (RunAt.start wordB s 0 (Nat.zero_le _))
 go_enter Tryz.func218,Tryz.ntmps218
 go_wp2
 go_loop [3] (fun a=>∃ (k:Nat),k ≤ s.size ∧ a = .int .i64 k ∧ RunAt wordB s 0 k) (fun a=>s.size - (intOf a).toNat)
 case atStart=>exact ⟨0,Nat.zero_le _,rfl,hst.out⟩
 case round =>
  obtain ⟨k,hk,rfl,hrel⟩:=hrel
  have HR:=hQ hrel
  clear hrel hst
  by_cases hlt:k < s.size
  ·have HW:=hQ (show wordB s[k].toNat = (Qau s[k].toNat || Qby s[k].toNat || (s[k].toNat:Int) == 95) from rfl)
   cases hl:Qau s[k].toNat
   ·cases hd:Qby s[k].toNat
    ·cases h95:((s[k].toNat:Int) == 95)
     ·go_wp2_with (first | (go_at_call 166;refine (Qbt _ _).mono ?_;rintro e w' ⟨rfl,rfl⟩) | (go_at_call 168;refine (Qdc _ _).mono ?_;rintro e w' ⟨rfl,rfl⟩))
      go_ret
      have h1:=HR.out.stop hlt (by rw [HW.out,hl,hd,h95];rfl)
      exact ⟨Qb0 (by unfold Qac;omega),rfl⟩
     ·go_wp2_with (first | (go_at_call 166;refine (Qbt _ _).mono ?_;rintro e w' ⟨rfl,rfl⟩) | (go_at_call 168;refine (Qdc _ _).mono ?_;rintro e w' ⟨rfl,rfl⟩))
      go_round
      case rel=>exact ⟨k + 1,by omega,by go_num,HR.out.next hlt (by rw [HW.out,hl,hd,h95];rfl)⟩
      case measure=>simp [intOf];omega
    ·go_wp2_with (first | (go_at_call 166;refine (Qbt _ _).mono ?_;rintro e w' ⟨rfl,rfl⟩) | (go_at_call 168;refine (Qdc _ _).mono ?_;rintro e w' ⟨rfl,rfl⟩))
     go_round
     case rel=>exact ⟨k + 1,by omega,by go_num,HR.out.next hlt (by rw [HW.out,hl,hd];rfl)⟩
     case measure=>simp [intOf];omega
   ·go_wp2_with (first | (go_at_call 166;refine (Qbt _ _).mono ?_;rintro e w' ⟨rfl,rfl⟩) | (go_at_call 168;refine (Qdc _ _).mono ?_;rintro e w' ⟨rfl,rfl⟩))
    go_round
    case rel=>exact ⟨k + 1,by omega,by go_num,HR.out.next hlt (by rw [HW.out,hl];rfl)⟩
    case measure=>simp [intOf];omega
  ·go_wp2
   go_ret
   have h1:=HR.out.done hlt
   exact ⟨Qb0 (by unfold Qac;omega),rfl⟩
theorem Qgs (s:ByteArray) (w:World) (h0:0 < s.size) (hs:s.size ≤ maxLen) :
  Calls Tryz.prog 169 #[.string s] w fun e w'=>e = .returned (.tuple #[.int .i64 (numT (suf s 0)).kind,.int .i64 (numT (suf s 0)).n,.int .i64 (numT (suf s 0)).e]) ∧ w = w':=by
 unfold maxLen at hs
 have hst:=hQ (RunAt.start Qby s 0 (Nat.zero_le _))
 have H0:=hQ (Qef s 0 h0)
 go_enter Tryz.func169,Tryz.ntmps169
 go_wp2
 go_loop [3] (fun a=>∃ (k:Nat),k ≤ s.size ∧ a = .int .i64 k ∧ RunAt Qby s 0 k) (fun a=>s.size - (intOf a).toNat)
 case atStart=>exact ⟨0,Nat.zero_le _,rfl,hst.out⟩
 case round =>
  obtain ⟨k,hk,rfl,hrel⟩:=hrel
  have HR:=hQ hrel
  clear hrel hst
  by_cases hgo:∃ h:k < s.size,Qby s[k].toNat = true
  ·obtain ⟨hlt,hd⟩:=hgo
   go_wp2_with (first | (go_at_call 166;refine (Qbt _ _).mono ?_;rintro e w' ⟨rfl,rfl⟩) | (go_at_call 168;refine (Qdc _ _).mono ?_;rintro e w' ⟨rfl,rfl⟩))
   go_round
   case rel=>exact ⟨k + 1,by omega,by go_num,HR.out.next hlt hd⟩
   case measure=>simp [intOf];omega
  ·have HN:Hid (Qdk (suf s 0) = k):=by
    unfold Qdk
    by_cases hlt:k < s.size
    ·have:=HR.out.stop hlt (by simpa using fun h=>hgo ⟨hlt,h⟩)
     exact hQ (by omega)
    ·have:=HR.out.done hlt
     exact hQ (by omega)
   by_cases h1:1 < k
   ·by_cases h48:s[0].toNat = 48
    ·have h48':((s[0].toNat:Int) == 48) = true:=by simp [h48]
     have H48:=hQ h48
     clear h48
     by_cases hlt:k < s.size
     all_goals
      first | (have hd:Qby s[k].toNat = false:=by simpa using fun h=>hgo ⟨hlt,h⟩) | skip
      clear hgo
      go_wp2_with (first | (go_at_call 166;refine (Qbt _ _).mono ?_;rintro e w' ⟨rfl,rfl⟩) | (go_at_call 168;refine (Qdc _ _).mono ?_;rintro e w' ⟨rfl,rfl⟩))
      go_ret3
      exact ⟨Qbr 0 0 2 (by unfold numT;rw [if_pos ⟨by rw [HN.out];exact h1,by rw [H0.out,H48.out]⟩]) rfl rfl rfl,rfl⟩
    ·have h48':((s[0].toNat:Int) == 48) = false:=by simp;omega
     have H48:=hQ h48
     clear h48
     have HE:=hQ (show ¬ (1 < Qdk (suf s 0) ∧ at' (suf s 0) 0 = 48) from fun h=>H48.out (by rw [← H0.out];exact h.2))
     by_cases h15:15 < k
     all_goals
      by_cases hlt:k < s.size
      all_goals
       first | (have hd:Qby s[k].toNat = false:=by simpa using fun h=>hgo ⟨hlt,h⟩) | skip
       clear hgo
       go_wp2_with (first | (go_at_call 166;refine (Qbt _ _).mono ?_;rintro e w' ⟨rfl,rfl⟩) | (go_at_call 168;refine (Qdc _ _).mono ?_;rintro e w' ⟨rfl,rfl⟩))
       go_ret3
       first
        | exact ⟨Qbr 0 0 3 (by unfold numT;rw [if_neg HE.out,HN.out,if_pos h15]) rfl rfl rfl,rfl⟩
        | exact ⟨Qbr 5 k 0 (by unfold numT;rw [if_neg HE.out,HN.out,if_neg h15]) rfl rfl rfl,rfl⟩
   ·have HE:=hQ (show ¬ (1 < Qdk (suf s 0) ∧ at' (suf s 0) 0 = 48) from fun h=>h1 (by rw [← HN.out];exact h.1))
    by_cases hlt:k < s.size
    all_goals
     first | (have hd:Qby s[k].toNat = false:=by simpa using fun h=>hgo ⟨hlt,h⟩) | skip
     clear hgo
     go_wp2_with (first | (go_at_call 166;refine (Qbt _ _).mono ?_;rintro e w' ⟨rfl,rfl⟩) | (go_at_call 168;refine (Qdc _ _).mono ?_;rintro e w' ⟨rfl,rfl⟩))
     go_ret3
     exact ⟨Qbr 5 k 0 (by unfold numT;rw [if_neg HE.out,HN.out,if_neg (by omega)]) rfl rfl rfl,rfl⟩
def QuotAt (s:ByteArray) (a k:Nat):Prop:=a + 1 ≤ k ∧ k ≤ s.size ∧ Qcv 1 (suf s (a + 1)) = Qcv (k - a) (suf s k)
theorem QuotAt.start (s:ByteArray) (a:Nat) (h:a < s.size):QuotAt s a (a + 1):=⟨xA _,h,by rw [show a + 1 - a = 1 from by omega]⟩
section
variable {s:ByteArray} {a k:Nat}
theorem QuotAt.done (h:QuotAt s a k) (hk:¬ k < s.size):Qcv 1 (suf s (a + 1)) = ⟨0,0,2⟩:=by
 rw [h.2.2,suf_end s k (by omega),Qcv]
theorem QuotAt.close (h:QuotAt s a k) (hk:k < s.size) (hc:s[k].toNat = 34):Qcv 1 (suf s (a + 1)) = ⟨6,k - a + 1,0⟩:=by
 rw [h.2.2,Qcz s k hk,Qcv,if_pos hc]
theorem QuotAt.stop (h:QuotAt s a k) (hk:k < s.size) (h34:s[k].toNat ≠ 34) (hc:s[k].toNat = 92 ∨ s[k].toNat = 9 ∨ s[k].toNat = 10 ∨ s[k].toNat = 13):Qcv 1 (suf s (a + 1)) = ⟨0,0,2⟩:=by
 rw [h.2.2,Qcz s k hk,Qcv,if_neg h34,if_pos hc]
theorem QuotAt.bad (h:QuotAt s a k) (hk:k < s.size) (h34:s[k].toNat ≠ 34) (hc:¬ (s[k].toNat = 92 ∨ s[k].toNat = 9 ∨ s[k].toNat = 10 ∨ s[k].toNat = 13)) (ha:Qap s[k].toNat = false):Qcv 1 (suf s (a + 1)) = ⟨0,k - a,1⟩:=by
 rw [h.2.2,Qcz s k hk,Qcv,if_neg h34,if_neg hc,if_neg (by simp [ha])]
theorem QuotAt.next (h:QuotAt s a k) (hk:k < s.size) (h34:s[k].toNat ≠ 34) (hc:¬ (s[k].toNat = 92 ∨ s[k].toNat = 9 ∨ s[k].toNat = 10 ∨ s[k].toNat = 13)) (ha:Qap s[k].toNat = true):QuotAt s a (k + 1):=by
 refine ⟨by have:=h.1;omega,by omega,?_⟩
 rw [h.2.2,Qcz s k hk,Qcv,if_neg h34,if_neg hc,if_pos ha,show k - a + 1 = k + 1 - a from by have:=h.1;omega]
end
theorem Qcx {n m:Nat} (h:n = m):((n:Int) == (m:Int)) = true:=by simp [h]
theorem Qdl {n m:Nat} (h:n ≠ m):((n:Int) == (m:Int)) = false:=by simp;omega
theorem Qgt (s:ByteArray) (w:World) (h0:0 < s.size) (hs:s.size ≤ maxLen) :
  Calls Tryz.prog 170 #[.string s] w fun e w'=>e = .returned (.tuple #[.int .i64 (Qcv 1 (suf s 1)).kind,.int .i64 (Qcv 1 (suf s 1)).n,.int .i64 (Qcv 1 (suf s 1)).e]) ∧ w = w':=by
 unfold maxLen at hs
 have hst:=hQ (QuotAt.start s 0 h0)
 go_enter Tryz.func170,Tryz.ntmps170
 go_wp2
 go_loop [5] (fun a=>∃ (k:Nat),1 ≤ k ∧ k ≤ s.size ∧ a = .int .i64 k ∧ QuotAt s 0 k) (fun a=>s.size - (intOf a).toNat)
 case atStart=>exact ⟨1,xA _,h0,rfl,hst.out⟩
 case round =>
  obtain ⟨k,h1,hk,rfl,hrel⟩:=hrel
  have HR:=hQ hrel
  clear hrel hst
  by_cases hlt:k < s.size
  ·by_cases h34:s[k].toNat = 34
   ·have g34:((s[k].toNat:Int) == 34) = true:=Qcx h34
    have H34:=hQ h34
    clear h34
    go_wp2
    go_ret3
    exact ⟨Qbr 6 (k + 1) 0 (HR.out.close hlt H34.out) rfl (by omega) rfl,rfl⟩
   ·have g34:((s[k].toNat:Int) == 34) = false:=Qdl h34
    have H34:=hQ h34
    clear h34
    by_cases hstop:s[k].toNat = 92 ∨ s[k].toNat = 9 ∨ s[k].toNat = 10 ∨ s[k].toNat = 13
    ·have HS:=hQ hstop
     rcases hstop with h | h | h | h
     ·have g1:((s[k].toNat:Int) == 92) = true:=Qcx h
      clear h
      go_wp2
      go_ret3
      exact ⟨Qbr 0 0 2 (HR.out.stop hlt H34.out HS.out) rfl rfl rfl,rfl⟩
     ·have g1:((s[k].toNat:Int) == 92) = false:=Qdl (m:=92) (by omega)
      have g2:((s[k].toNat:Int) == 9) = true:=Qcx h
      clear h
      go_wp2
      go_ret3
      exact ⟨Qbr 0 0 2 (HR.out.stop hlt H34.out HS.out) rfl rfl rfl,rfl⟩
     ·have g1:((s[k].toNat:Int) == 92) = false:=Qdl (m:=92) (by omega)
      have g2:((s[k].toNat:Int) == 9) = false:=Qdl (m:=9) (by omega)
      have g3:((s[k].toNat:Int) == 10) = true:=Qcx h
      clear h
      go_wp2
      go_ret3
      exact ⟨Qbr 0 0 2 (HR.out.stop hlt H34.out HS.out) rfl rfl rfl,rfl⟩
     ·have g1:((s[k].toNat:Int) == 92) = false:=Qdl (m:=92) (by omega)
      have g2:((s[k].toNat:Int) == 9) = false:=Qdl (m:=9) (by omega)
      have g3:((s[k].toNat:Int) == 10) = false:=Qdl (m:=10) (by omega)
      have g4:((s[k].toNat:Int) == 13) = true:=Qcx h
      clear h
      go_wp2
      go_ret3
      exact ⟨Qbr 0 0 2 (HR.out.stop hlt H34.out HS.out) rfl rfl rfl,rfl⟩
    ·have g1:((s[k].toNat:Int) == 92) = false:=Qdl (fun h=>hstop (.inl h))
     have g2:((s[k].toNat:Int) == 9) = false:=Qdl (fun h=>hstop (.inr (.inl h)))
     have g3:((s[k].toNat:Int) == 10) = false:=Qdl (fun h=>hstop (.inr (.inr (.inl h))))
     have g4:((s[k].toNat:Int) == 13) = false:=Qdl (fun h=>hstop (.inr (.inr (.inr h))))
     have HS:=hQ hstop
     clear hstop
     cases ha:Qap s[k].toNat
     ·go_wp2_with (go_at_call 164;refine (Qco _ _).mono ?_;rintro e w' ⟨rfl,rfl⟩)
      go_ret3
      exact ⟨Qbr 0 k 1 (HR.out.bad hlt H34.out HS.out ha) rfl (by omega) rfl,rfl⟩
     ·go_wp2_with (go_at_call 164;refine (Qco _ _).mono ?_;rintro e w' ⟨rfl,rfl⟩)
      go_round
      case rel=>exact ⟨k + 1,by omega,by omega,by go_num,HR.out.next hlt H34.out HS.out ha⟩
      case measure=>simp [intOf];omega
  ·go_wp2
   go_ret3
   exact ⟨Qbr 0 0 2 (HR.out.done hlt) rfl rfl rfl,rfl⟩
theorem signLen_two (s:ByteArray) (h0:0 < s.size) (h:s[0].toNat = 61) (h1:1 < s.size) (h2:s[1].toNat = 61):Qd3 (suf s 0) = ⟨8,2,0⟩:=by
 have:Qbn (suf s 0) = 2:=by unfold Qbn;rw [Qef s 0 h0,if_pos h,Qef s 1 h1,if_pos h2]
 unfold Qd3
 rw [this,if_neg (by decide)]
theorem signLen_eq (s:ByteArray) (h0:0 < s.size) (h:s[0].toNat = 61) (h1:∀ h:1 < s.size,s[1].toNat ≠ 61):Qd3 (suf s 0) = ⟨8,1,0⟩:=by
 have:Qbn (suf s 0) = 1:=by
  unfold Qbn
  rw [Qef s 0 h0,if_pos h]
  by_cases h2:1 < s.size
  ·rw [Qef s 1 h2,if_neg (h1 h2)]
  ·unfold at'
   rw [List.getD_eq_getElem?_getD,List.getElem?_eq_none (by rw [Qbs];omega)]
   decide
 unfold Qd3
 rw [this,if_neg (by decide)]
theorem signLen_one (s:ByteArray) (h0:0 < s.size) (h:s[0].toNat ≠ 61) (h1:Qes s[0].toNat = true):Qd3 (suf s 0) = ⟨8,1,0⟩:=by
 have:Qbn (suf s 0) = 1:=by unfold Qbn;rw [Qef s 0 h0,if_neg h,if_pos h1]
 unfold Qd3
 rw [this,if_neg (by decide)]
theorem signLen_none (s:ByteArray) (h0:0 < s.size) (h:s[0].toNat ≠ 61) (h1:Qes s[0].toNat = false):Qd3 (suf s 0) = ⟨0,0,2⟩:=by
 have:Qbn (suf s 0) = 0:=by unfold Qbn;rw [Qef s 0 h0,if_neg h,if_neg (by simp [h1])]
 unfold Qd3
 rw [this,if_pos rfl]
theorem sign_any (s:ByteArray) (w:World) (h0:0 < s.size) (_hs:s.size ≤ maxLen) :
  Calls Tryz.prog 171 #[.string s] w fun e w'=>e = .returned (.tuple #[.int .i64 (Qd3 (suf s 0)).kind,.int .i64 (Qd3 (suf s 0)).n,.int .i64 (Qd3 (suf s 0)).e]) ∧ w = w':=by
 by_cases h61:s[0].toNat = 61
 ·have g61:((s[0].toNat:Int) == 61) = true:=Qcx h61
  have H61:=hQ h61
  clear h61
  by_cases h1:1 < s.size
  ·by_cases h2:s[1].toNat = 61
   ·have g2:((s[1].toNat:Int) == 61) = true:=Qcx h2
    have H2:=hQ h2
    clear h2
    go_enter Tryz.func171,Tryz.ntmps171
    go_wp2
    go_ret3
    exact ⟨Qbr 8 2 0 (signLen_two s h0 H61.out h1 H2.out) rfl rfl rfl,rfl⟩
   ·have g2:((s[1].toNat:Int) == 61) = false:=Qdl h2
    have H2:=hQ h2
    clear h2
    go_enter Tryz.func171,Tryz.ntmps171
    go_wp2
    go_ret3
    exact ⟨Qbr 8 1 0 (signLen_eq s h0 H61.out (fun _=>H2.out)) rfl rfl rfl,rfl⟩
  ·go_enter Tryz.func171,Tryz.ntmps171
   go_wp2
   go_ret3
   exact ⟨Qbr 8 1 0 (signLen_eq s h0 H61.out (fun h=>absurd h h1)) rfl rfl rfl,rfl⟩
 ·have g61:((s[0].toNat:Int) == 61) = false:=Qdl h61
  have H61:=hQ h61
  clear h61
  cases ho:Qes s[0].toNat
  ·have H1:=hQ ho
   simp only [Qes,Bool.or_eq_false_iff,and_assoc] at ho
   obtain ⟨a1,a2,a3,a4,a5,a6,a7,a8,a9,a10,a11⟩:=ho
   go_enter Tryz.func171,Tryz.ntmps171
   go_wp2
   go_ret3
   exact ⟨Qbr 0 0 2 (signLen_none s h0 H61.out H1.out) rfl rfl rfl,rfl⟩
  ·have H1:=hQ ho
   clear ho
   go_enter Tryz.func171,Tryz.ntmps171
   go_wp2
   all_goals
    first
     | (go_ret3;exact ⟨Qbr 8 1 0 (signLen_one s h0 H61.out H1.out) rfl rfl rfl,rfl⟩)
     | (exfalso;have:=H1.out;simp_all [Qes])
theorem wordLength_from (s:ByteArray) (a:Nat) (w:World) (hs:s.size ≤ maxLen) :
  Calls Tryz.prog 218 #[.string (s.extract a s.size)] w fun e w'=>e = .returned (.int .i64 (Qac (suf s a):Nat)) ∧ w = w':=by
 rw [← suf_to_end s a]
 exact Qc3 _ w (by rw [ByteArray.size_extract];omega)
theorem reserved_from (s:ByteArray) (a m:Nat) (w:World) :
  Calls Tryz.prog 219 #[.string ((s.extract a s.size).extract 0 m)] w fun e w'=>e = .returned (.bool (Qaq ((suf s a).take m))) ∧ w = w':=by
 have h:=reserved_any ((s.extract a s.size).extract 0 m) w
 rw [Qd1,suf_to_end] at h
 exact h
theorem Qb3 (s:ByteArray) (a:Nat):Qac (suf s a) ≤ s.size - a:=by
 have:=runLen_le wordB (suf s a)
 rw [Qbs] at this
 exact this
theorem at_drop (s:ByteArray) (a k:Nat):at' (suf s a) k = at' (suf s 0) (a + k):=by
 unfold at' suf
 rw [List.getD_eq_getElem?_getD,List.getD_eq_getElem?_getD,List.getElem?_drop,List.getElem?_drop,Nat.zero_add]
theorem ext_zero (s:ByteArray) (a:Nat) (h:0 < (s.extract a s.size).size):(s.extract a s.size)[0].toNat = at' (suf s 0) a:=by
 rw [← Qef _ 0 h,suf_to_end,at_drop]
 rfl
theorem ext_size (s:ByteArray) (a:Nat) (h:a < s.size):0 < (s.extract a s.size).size:=by
 rw [ByteArray.size_extract]
 omega
section
variable (s:ByteArray) (n:Nat)
theorem qual_long (h:24 < n ∨ 24 < Qac (suf s (n + 1))):Qc2 (suf s 0) n = ⟨0,0,3⟩:=by
 unfold Qc2
 rw [Qex,Nat.zero_add,if_pos h]
theorem qual_res (h:¬ (24 < n ∨ 24 < Qac (suf s (n + 1)))) (hr:Qaq ((suf s (n + 1)).take (Qac (suf s (n + 1)))) = true):Qc2 (suf s 0) n = ⟨0,0,2⟩:=by
 unfold Qc2
 rw [Qex,Nat.zero_add,if_neg h,if_pos hr]
theorem qual_up (h:¬ (24 < n ∨ 24 < Qac (suf s (n + 1)))) (hr:Qaq ((suf s (n + 1)).take (Qac (suf s (n + 1)))) = false) (h0:n + 1 < s.size)
  (hu:Qbx ((s.extract (n + 1) s.size)[0]'(ext_size s _ h0)).toNat = true):Qc2 (suf s 0) n = ⟨4,n + 1 + Qac (suf s (n + 1)),0⟩:=by
 rw [ext_zero s (n + 1) (ext_size s _ h0)] at hu
 unfold Qc2
 rw [Qex,Nat.zero_add,if_neg h,if_neg (by simp [hr]),if_pos hu]
theorem qual_low (h:¬ (24 < n ∨ 24 < Qac (suf s (n + 1)))) (hr:Qaq ((suf s (n + 1)).take (Qac (suf s (n + 1)))) = false) (h0:n + 1 < s.size)
  (hu:Qbx ((s.extract (n + 1) s.size)[0]'(ext_size s _ h0)).toNat = false):Qc2 (suf s 0) n = ⟨3,n + 1 + Qac (suf s (n + 1)),0⟩:=by
 rw [ext_zero s (n + 1) (ext_size s _ h0)] at hu
 unfold Qc2
 rw [Qex,Nat.zero_add,if_neg h,if_neg (by simp [hr]),if_neg (by simp [hu])]
end
theorem Qea (s:ByteArray) (n:Nat) (w:World) (h0:n + 1 < s.size) (hs:s.size ≤ maxLen) :
  Calls Tryz.prog 220 #[.string s,.int .i64 n] w fun e w'=>e = .returned (.tuple #[.int .i64 (Qc2 (suf s 0) n).kind,.int .i64 (Qc2 (suf s 0) n).n,.int .i64 (Qc2 (suf s 0) n).e]) ∧ w = w':=by
 have HS:=hQ hs
 have hm:=Qb3 s (n + 1)
 unfold maxLen at hs
 go_enter Tryz.func220,Tryz.ntmps220
 go_wp2_with (first | (go_at_call 218;refine (wordLength_from _ _ _ HS.out).mono ?_;rintro e w' ⟨rfl,rfl⟩) | (go_at_call 219;refine (reserved_from _ _ _ _).mono ?_;rintro e w' ⟨rfl,rfl⟩) | (go_at_call 217;refine (Qfk _ _).mono ?_;rintro e w' ⟨rfl,rfl⟩))
 all_goals
  go_ret3
  first
   | exact ⟨Qbr 0 0 3 (qual_long s n (by omega)) rfl rfl rfl,rfl⟩
   | exact ⟨Qbr 0 0 2 (qual_res s n (by omega) (by assumption)) rfl rfl rfl,rfl⟩
   | exact ⟨Qbr 4 (n + 1 + Qac (suf s (n + 1))) 0 (qual_up s n (by omega) (by assumption) h0 (by assumption)) rfl (by omega) rfl,rfl⟩
   | exact ⟨Qbr 3 (n + 1 + Qac (suf s (n + 1))) 0 (qual_low s n (by omega) (by assumption) h0 (by assumption)) rfl (by omega) rfl,rfl⟩
theorem Qeb (s:ByteArray) (m:Nat) (w:World) :
  Calls Tryz.prog 219 #[.string (s.extract 0 m)] w fun e w'=>e = .returned (.bool (Qaq ((suf s 0).take m))) ∧ w = w':=by
 have h:=reserved_any (s.extract 0 m) w
 rw [Qd1,Nat.sub_zero] at h
 exact h
theorem Qc4 {l:List UInt8} (h:Qdb l = false):Qdv l = Qdy l:=by
 unfold Qdv
 rw [if_neg (by simp [h])]
section
variable {l:List UInt8}
theorem Qdt (h:24 < Qac l):Qdy l = ⟨0,0,3⟩:=by
 unfold Qdy
 rw [if_pos h]
theorem Qei (h:¬ 24 < Qac l) (hr:Qaq (l.take (Qac l)) = true):Qdy l = ⟨7,Qac l,0⟩:=by
 unfold Qdy
 rw [if_neg h,if_pos hr]
theorem Qfh (h:¬ 24 < Qac l) (hr:Qaq (l.take (Qac l)) = false) (hu:Qbx (at' l 0) = true):Qdy l = ⟨2,Qac l,0⟩:=by
 unfold Qdy
 rw [if_neg h,if_neg (by simp [hr]),if_pos hu]
theorem Qej (h:¬ 24 < Qac l) (hr:Qaq (l.take (Qac l)) = false) (hu:Qbx (at' l 0) = false):Qdy l = ⟨1,Qac l,0⟩:=by
 unfold Qdy
 rw [if_neg h,if_neg (by simp [hr]),if_neg (by simp [hu])]
end
theorem word_any (s:ByteArray) (w:World) (h0:0 < s.size) (hs:s.size < maxLen) :
  Calls Tryz.prog 167 #[.string s] w fun e w'=>e = .returned (.tuple #[.int .i64 (Qdv (suf s 0)).kind,.int .i64 (Qdv (suf s 0)).n,.int .i64 (Qdv (suf s 0)).e]) ∧ w = w':=by
 have HS:=hQ (Nat.le_of_lt hs)
 have hm:=Qb3 s 0
 have H0:=hQ (Qef s 0 h0)
 have HL:=hQ (Qbs s 0)
 have HD:=hQ (show Qdb (suf s 0) = (Qbx (at' (suf s 0) 0) && !Qaq ((suf s 0).take (Qac (suf s 0))) && decide (Qac (suf s 0) + 1 < (suf s 0).length) && at' (suf s 0) (Qac (suf s 0)) == 46 && Qau (at' (suf s 0) (Qac (suf s 0) + 1))) from rfl)
 unfold maxLen at hs
 cases hu:Qbx s[0].toNat
 ·cases hr:Qaq ((suf s 0).take (Qac (suf s 0)))
  all_goals
   have HP:=hQ (Qc4 (show Qdb (suf s 0) = false from by rw [HD.out,H0.out,hu];rfl))
   by_cases h24:24 < Qac (suf s 0)
   all_goals
    go_enter Tryz.func167,Tryz.ntmps167
    go_wp2_with (first | (go_at_call 218;refine (Qc3 _ _ HS.out).mono ?_;rintro e w' ⟨rfl,rfl⟩) | (go_at_call 219;refine (Qeb _ _ _).mono ?_;rintro e w' ⟨rfl,rfl⟩) | (go_at_call 217;refine (Qfk _ _).mono ?_;rintro e w' ⟨rfl,rfl⟩) | (go_at_call 166;refine (Qbt _ _).mono ?_;rintro e w' ⟨rfl,rfl⟩) | (go_at_call 220;refine (Qea _ _ _ hn HS.out).mono ?_;rintro e w' ⟨rfl,rfl⟩))
    go_ret3
    first
     | exact ⟨Qbr 0 0 3 (HP.out.trans (Qdt h24)) rfl rfl rfl,rfl⟩
     | exact ⟨Qbr 7 (Qac (suf s 0)) 0 (HP.out.trans (Qei h24 hr)) rfl rfl rfl,rfl⟩
     | exact ⟨Qbr 2 (Qac (suf s 0)) 0 (HP.out.trans (Qfh h24 hr (by rw [H0.out];exact hu))) rfl rfl rfl,rfl⟩
     | exact ⟨Qbr 1 (Qac (suf s 0)) 0 (HP.out.trans (Qej h24 hr (by rw [H0.out];exact hu))) rfl rfl rfl,rfl⟩

 ·cases hr:Qaq ((suf s 0).take (Qac (suf s 0)))
  ·by_cases hn:Qac (suf s 0) + 1 < s.size
   ·have hn':((Qac (suf s 0):Nat):Int) + 1 < (s.size:Int):=by omega
    by_cases h46:s[Qac (suf s 0)].toNat = 46
    ·have g46:((s[Qac (suf s 0)].toNat:Int) == 46) = true:=Qcx h46
     have H46:=hQ h46
     clear h46
     cases hl:Qau s[Qac (suf s 0) + 1].toNat
     ·have HP:=hQ (Qc4 (show Qdb (suf s 0) = false from by rw [HD.out,Qef s (Qac (suf s 0) + 1) hn,hl];simp))
      by_cases h24:24 < Qac (suf s 0)
      all_goals
       go_enter Tryz.func167,Tryz.ntmps167
       go_wp2_with (first | (go_at_call 218;refine (Qc3 _ _ HS.out).mono ?_;rintro e w' ⟨rfl,rfl⟩) | (go_at_call 219;refine (Qeb _ _ _).mono ?_;rintro e w' ⟨rfl,rfl⟩) | (go_at_call 217;refine (Qfk _ _).mono ?_;rintro e w' ⟨rfl,rfl⟩) | (go_at_call 166;refine (Qbt _ _).mono ?_;rintro e w' ⟨rfl,rfl⟩) | (go_at_call 220;refine (Qea _ _ _ hn HS.out).mono ?_;rintro e w' ⟨rfl,rfl⟩))
       go_ret3
       first
        | exact ⟨Qbr 0 0 3 (HP.out.trans (Qdt h24)) rfl rfl rfl,rfl⟩
        | exact ⟨Qbr 7 (Qac (suf s 0)) 0 (HP.out.trans (Qei h24 hr)) rfl rfl rfl,rfl⟩
        | exact ⟨Qbr 2 (Qac (suf s 0)) 0 (HP.out.trans (Qfh h24 hr (by rw [H0.out];exact hu))) rfl rfl rfl,rfl⟩
        | exact ⟨Qbr 1 (Qac (suf s 0)) 0 (HP.out.trans (Qej h24 hr (by rw [H0.out];exact hu))) rfl rfl rfl,rfl⟩

     ·have HT:=hQ (show Qdv (suf s 0) = Qc2 (suf s 0) (Qac (suf s 0)) from by
       unfold Qdv
       rw [if_pos (by rw [HD.out,HL.out,H0.out,hu,hr,Qef s _ (by omega),H46.out,Qef s _ hn,hl];simpa using hn)])
      go_enter Tryz.func167,Tryz.ntmps167
      go_wp2_with (first | (go_at_call 218;refine (Qc3 _ _ HS.out).mono ?_;rintro e w' ⟨rfl,rfl⟩) | (go_at_call 219;refine (Qeb _ _ _).mono ?_;rintro e w' ⟨rfl,rfl⟩) | (go_at_call 217;refine (Qfk _ _).mono ?_;rintro e w' ⟨rfl,rfl⟩) | (go_at_call 166;refine (Qbt _ _).mono ?_;rintro e w' ⟨rfl,rfl⟩) | (go_at_call 220;refine (Qea _ _ _ hn HS.out).mono ?_;rintro e w' ⟨rfl,rfl⟩))
      go_ret3
      exact ⟨Qbr _ _ _ HT.out rfl rfl rfl,rfl⟩
    ·have g46:((s[Qac (suf s 0)].toNat:Int) == 46) = false:=Qdl h46
     have H47:=hQ h46
     clear h46
     have HP:=hQ (Qc4 (show Qdb (suf s 0) = false from by rw [HD.out,Qef s (Qac (suf s 0)) (by omega),beq_eq_false_iff_ne.2 H47.out];simp))
     by_cases h24:24 < Qac (suf s 0)
     all_goals
      go_enter Tryz.func167,Tryz.ntmps167
      go_wp2_with (first | (go_at_call 218;refine (Qc3 _ _ HS.out).mono ?_;rintro e w' ⟨rfl,rfl⟩) | (go_at_call 219;refine (Qeb _ _ _).mono ?_;rintro e w' ⟨rfl,rfl⟩) | (go_at_call 217;refine (Qfk _ _).mono ?_;rintro e w' ⟨rfl,rfl⟩) | (go_at_call 166;refine (Qbt _ _).mono ?_;rintro e w' ⟨rfl,rfl⟩) | (go_at_call 220;refine (Qea _ _ _ hn HS.out).mono ?_;rintro e w' ⟨rfl,rfl⟩))
      go_ret3
      first
       | exact ⟨Qbr 0 0 3 (HP.out.trans (Qdt h24)) rfl rfl rfl,rfl⟩
       | exact ⟨Qbr 7 (Qac (suf s 0)) 0 (HP.out.trans (Qei h24 hr)) rfl rfl rfl,rfl⟩
       | exact ⟨Qbr 2 (Qac (suf s 0)) 0 (HP.out.trans (Qfh h24 hr (by rw [H0.out];exact hu))) rfl rfl rfl,rfl⟩
       | exact ⟨Qbr 1 (Qac (suf s 0)) 0 (HP.out.trans (Qej h24 hr (by rw [H0.out];exact hu))) rfl rfl rfl,rfl⟩

   ·have hn':¬ ((Qac (suf s 0):Nat):Int) + 1 < (s.size:Int):=by omega
    have HP:=hQ (Qc4 (show Qdb (suf s 0) = false from by rw [HD.out,HL.out,Nat.sub_zero,decide_eq_false hn];simp))
    by_cases h24:24 < Qac (suf s 0)
    all_goals
     go_enter Tryz.func167,Tryz.ntmps167
     go_wp2_with (first | (go_at_call 218;refine (Qc3 _ _ HS.out).mono ?_;rintro e w' ⟨rfl,rfl⟩) | (go_at_call 219;refine (Qeb _ _ _).mono ?_;rintro e w' ⟨rfl,rfl⟩) | (go_at_call 217;refine (Qfk _ _).mono ?_;rintro e w' ⟨rfl,rfl⟩) | (go_at_call 166;refine (Qbt _ _).mono ?_;rintro e w' ⟨rfl,rfl⟩) | (go_at_call 220;refine (Qea _ _ _ hn HS.out).mono ?_;rintro e w' ⟨rfl,rfl⟩))
     go_ret3
     first
      | exact ⟨Qbr 0 0 3 (HP.out.trans (Qdt h24)) rfl rfl rfl,rfl⟩
      | exact ⟨Qbr 7 (Qac (suf s 0)) 0 (HP.out.trans (Qei h24 hr)) rfl rfl rfl,rfl⟩
      | exact ⟨Qbr 2 (Qac (suf s 0)) 0 (HP.out.trans (Qfh h24 hr (by rw [H0.out];exact hu))) rfl rfl rfl,rfl⟩
      | exact ⟨Qbr 1 (Qac (suf s 0)) 0 (HP.out.trans (Qej h24 hr (by rw [H0.out];exact hu))) rfl rfl rfl,rfl⟩

  ·have HP:=hQ (Qc4 (show Qdb (suf s 0) = false from by rw [HD.out,hr];simp))
   by_cases h24:24 < Qac (suf s 0)
   all_goals
    go_enter Tryz.func167,Tryz.ntmps167
    go_wp2_with (first | (go_at_call 218;refine (Qc3 _ _ HS.out).mono ?_;rintro e w' ⟨rfl,rfl⟩) | (go_at_call 219;refine (Qeb _ _ _).mono ?_;rintro e w' ⟨rfl,rfl⟩) | (go_at_call 217;refine (Qfk _ _).mono ?_;rintro e w' ⟨rfl,rfl⟩) | (go_at_call 166;refine (Qbt _ _).mono ?_;rintro e w' ⟨rfl,rfl⟩) | (go_at_call 220;refine (Qea _ _ _ hn HS.out).mono ?_;rintro e w' ⟨rfl,rfl⟩))
    go_ret3
    first
     | exact ⟨Qbr 0 0 3 (HP.out.trans (Qdt h24)) rfl rfl rfl,rfl⟩
     | exact ⟨Qbr 7 (Qac (suf s 0)) 0 (HP.out.trans (Qei h24 hr)) rfl rfl rfl,rfl⟩
     | exact ⟨Qbr 2 (Qac (suf s 0)) 0 (HP.out.trans (Qfh h24 hr (by rw [H0.out];exact hu))) rfl rfl rfl,rfl⟩
     | exact ⟨Qbr 1 (Qac (suf s 0)) 0 (HP.out.trans (Qej h24 hr (by rw [H0.out];exact hu))) rfl rfl rfl,rfl⟩

theorem suf_one (s:ByteArray):(suf s 0).drop 1 = suf s 1:=by rw [Qex]
theorem token_any (s:ByteArray) (w:World) (h0:0 < s.size) (hs:s.size < maxLen) :
  Calls Tryz.prog 123 #[.string s] w fun e w'=>e = .returned (.tuple #[.int .i64 (Qbe (suf s 0)).kind,.int .i64 (Qbe (suf s 0)).n,.int .i64 (Qbe (suf s 0)).e]) ∧ w = w':=by
 have HS:=hQ hs
 have HT:=hQ (Nat.le_of_lt hs)
 have H0:=hQ (Qef s 0 h0)
 unfold maxLen at hs
 cases ha:Qap s[0].toNat
 ·go_enter Tryz.func123,Tryz.ntmps123
  go_wp2_with (first | (go_at_call 164;refine (Qco _ _).mono ?_;rintro e w' ⟨rfl,rfl⟩) | (go_at_call 166;refine (Qbt _ _).mono ?_;rintro e w' ⟨rfl,rfl⟩) | (go_at_call 168;refine (Qdc _ _).mono ?_;rintro e w' ⟨rfl,rfl⟩) | (go_at_call 167;refine (word_any _ _ h0 HS.out).mono ?_;rintro e w' ⟨rfl,rfl⟩) | (go_at_call 169;refine (Qgs _ _ h0 HT.out).mono ?_;rintro e w' ⟨rfl,rfl⟩) | (go_at_call 170;refine (Qgt _ _ h0 HT.out).mono ?_;rintro e w' ⟨rfl,rfl⟩) | (go_at_call 171;refine (sign_any _ _ h0 HT.out).mono ?_;rintro e w' ⟨rfl,rfl⟩))
  go_ret3
  exact ⟨Qbr 0 0 1 (by unfold Qbe;rw [H0.out,if_pos ha]) rfl rfl rfl,rfl⟩
 ·have HA:=hQ (show ¬ Qap (at' (suf s 0) 0) = false from by rw [H0.out,ha];decide)
  cases hl:Qau s[0].toNat
  ·have HL:=hQ (show ¬ Qau (at' (suf s 0) 0) = true from by rw [H0.out,hl];decide)
   cases hd:Qby s[0].toNat
   ·have HD:=hQ (show ¬ Qby (at' (suf s 0) 0) = true from by rw [H0.out,hd];decide)
    by_cases h34:s[0].toNat = 34
    ·have g34:((s[0].toNat:Int) == 34) = true:=Qcx h34
     have H34:=hQ (show at' (suf s 0) 0 = 34 from by rw [H0.out,h34])
     clear h34
     go_enter Tryz.func123,Tryz.ntmps123
     go_wp2_with (first | (go_at_call 164;refine (Qco _ _).mono ?_;rintro e w' ⟨rfl,rfl⟩) | (go_at_call 166;refine (Qbt _ _).mono ?_;rintro e w' ⟨rfl,rfl⟩) | (go_at_call 168;refine (Qdc _ _).mono ?_;rintro e w' ⟨rfl,rfl⟩) | (go_at_call 167;refine (word_any _ _ h0 HS.out).mono ?_;rintro e w' ⟨rfl,rfl⟩) | (go_at_call 169;refine (Qgs _ _ h0 HT.out).mono ?_;rintro e w' ⟨rfl,rfl⟩) | (go_at_call 170;refine (Qgt _ _ h0 HT.out).mono ?_;rintro e w' ⟨rfl,rfl⟩) | (go_at_call 171;refine (sign_any _ _ h0 HT.out).mono ?_;rintro e w' ⟨rfl,rfl⟩))
     go_ret3
     exact ⟨Qbr _ _ _ (show Qbe (suf s 0) = Qcv 1 (suf s 1) from by unfold Qbe;rw [if_neg HA.out,if_neg HL.out,if_neg HD.out,if_pos H34.out,suf_one]) rfl rfl rfl,rfl⟩
    ·have g34:((s[0].toNat:Int) == 34) = false:=Qdl h34
     have H34:=hQ (show ¬ at' (suf s 0) 0 = 34 from by rw [H0.out];exact h34)
     clear h34
     go_enter Tryz.func123,Tryz.ntmps123
     go_wp2_with (first | (go_at_call 164;refine (Qco _ _).mono ?_;rintro e w' ⟨rfl,rfl⟩) | (go_at_call 166;refine (Qbt _ _).mono ?_;rintro e w' ⟨rfl,rfl⟩) | (go_at_call 168;refine (Qdc _ _).mono ?_;rintro e w' ⟨rfl,rfl⟩) | (go_at_call 167;refine (word_any _ _ h0 HS.out).mono ?_;rintro e w' ⟨rfl,rfl⟩) | (go_at_call 169;refine (Qgs _ _ h0 HT.out).mono ?_;rintro e w' ⟨rfl,rfl⟩) | (go_at_call 170;refine (Qgt _ _ h0 HT.out).mono ?_;rintro e w' ⟨rfl,rfl⟩) | (go_at_call 171;refine (sign_any _ _ h0 HT.out).mono ?_;rintro e w' ⟨rfl,rfl⟩))
     go_ret3
     exact ⟨Qbr _ _ _ (show Qbe (suf s 0) = Qd3 (suf s 0) from by unfold Qbe;rw [if_neg HA.out,if_neg HL.out,if_neg HD.out,if_neg H34.out]) rfl rfl rfl,rfl⟩
   ·have HD:=hQ (show Qby (at' (suf s 0) 0) = true from by rw [H0.out,hd])
    go_enter Tryz.func123,Tryz.ntmps123
    go_wp2_with (first | (go_at_call 164;refine (Qco _ _).mono ?_;rintro e w' ⟨rfl,rfl⟩) | (go_at_call 166;refine (Qbt _ _).mono ?_;rintro e w' ⟨rfl,rfl⟩) | (go_at_call 168;refine (Qdc _ _).mono ?_;rintro e w' ⟨rfl,rfl⟩) | (go_at_call 167;refine (word_any _ _ h0 HS.out).mono ?_;rintro e w' ⟨rfl,rfl⟩) | (go_at_call 169;refine (Qgs _ _ h0 HT.out).mono ?_;rintro e w' ⟨rfl,rfl⟩) | (go_at_call 170;refine (Qgt _ _ h0 HT.out).mono ?_;rintro e w' ⟨rfl,rfl⟩) | (go_at_call 171;refine (sign_any _ _ h0 HT.out).mono ?_;rintro e w' ⟨rfl,rfl⟩))
    go_ret3
    exact ⟨Qbr _ _ _ (show Qbe (suf s 0) = numT (suf s 0) from by unfold Qbe;rw [if_neg HA.out,if_neg HL.out,if_pos HD.out]) rfl rfl rfl,rfl⟩
  ·have HL:=hQ (show Qau (at' (suf s 0) 0) = true from by rw [H0.out,hl])
   go_enter Tryz.func123,Tryz.ntmps123
   go_wp2_with (first | (go_at_call 164;refine (Qco _ _).mono ?_;rintro e w' ⟨rfl,rfl⟩) | (go_at_call 166;refine (Qbt _ _).mono ?_;rintro e w' ⟨rfl,rfl⟩) | (go_at_call 168;refine (Qdc _ _).mono ?_;rintro e w' ⟨rfl,rfl⟩) | (go_at_call 167;refine (word_any _ _ h0 HS.out).mono ?_;rintro e w' ⟨rfl,rfl⟩) | (go_at_call 169;refine (Qgs _ _ h0 HT.out).mono ?_;rintro e w' ⟨rfl,rfl⟩) | (go_at_call 170;refine (Qgt _ _ h0 HT.out).mono ?_;rintro e w' ⟨rfl,rfl⟩) | (go_at_call 171;refine (sign_any _ _ h0 HT.out).mono ?_;rintro e w' ⟨rfl,rfl⟩))
   go_ret3
   exact ⟨Qbr _ _ _ (show Qbe (suf s 0) = Qdv (suf s 0) from by unfold Qbe;rw [if_neg HA.out,if_pos HL.out]) rfl rfl rfl,rfl⟩
end Go.Proofs.YtjidpkcjpgdafaaGreat
