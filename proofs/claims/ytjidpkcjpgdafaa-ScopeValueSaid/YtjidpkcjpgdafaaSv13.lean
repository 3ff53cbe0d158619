/- Part 13: The contract of lex.Class; of the reference's reserved and word. -/
import Derived.Test.YtjidpkcjpgdafaaSv3
import Derived.Test.YtjidpkcjpgdafaaSv1
set_option maxRecDepth 100000
set_option maxHeartbeats 4000000
namespace Go.Proofs.Ytjidpkcjpgdafaa
open Go.RowKit
theorem suf_nil {s:ByteArray} (h:s.size = 0):suf s 0 = []:=suf_end s 0 (by omega)
theorem suf_ne {s:ByteArray} (h:0 < s.size):suf s 0 ≠ []:=by
 intro e
 have:=Qa1 s 0
 rw [e] at this
 simp at this
 omega
theorem Qc1 (s:ByteArray) (w:World) (hs:s.size < maxLen) :
  Calls Try.prog 48 #[.string s] w fun e w'=>e = .returned (.int .i64 (Qbc (suf s 0))) ∧ w = w':=by
 have HS:=hQ hs
 by_cases h0:0 < s.size
 ·have hne:s.toList.isEmpty = false:=by
   have:=suf_ne h0
   rw [suf_zero] at this
   simpa using this
  have HN:=hQ (suf_ne h0)
  have HL:=hQ (Qa1 s 0)
  unfold maxLen at hs
  by_cases he:(Qbh (suf s 0)).e = 0
  ·have he':(((Qbh (suf s 0)).e:Nat):Int) = 0:=by omega
   by_cases hn:(Qbh (suf s 0)).n = s.size
   ·have hn':(((Qbh (suf s 0)).n:Nat):Int) = (s.size:Int):=by omega
    have HC:=hQ (show Qbc (suf s 0) = (Qbh (suf s 0)).kind from by unfold Qbc;rw [if_neg HN.out,if_neg (by rw [HL.out,he,hn];simp)])
    clear he hn
    go_enter Try.func48,Try.ntmps48
    go_wp2_with (go_at_call 31;refine (token_any _ _ h0 HS.out).mono ?_;rintro e w' ⟨rfl,rfl⟩)
    go_ret
    exact ⟨ret_int (by rw [HC.out]),rfl⟩
   ·have hn':¬ (((Qbh (suf s 0)).n:Nat):Int) = (s.size:Int):=by omega
    have HC:=hQ (show Qbc (suf s 0) = 0 from by unfold Qbc;rw [if_neg HN.out,if_pos (.inr (by rw [HL.out];exact hn))])
    clear he hn
    go_enter Try.func48,Try.ntmps48
    go_wp2_with (go_at_call 31;refine (token_any _ _ h0 HS.out).mono ?_;rintro e w' ⟨rfl,rfl⟩)
    go_ret
    exact ⟨ret_int (by rw [HC.out];rfl),rfl⟩
  ·have he':¬ (((Qbh (suf s 0)).e:Nat):Int) = 0:=by omega
   have HC:=hQ (show Qbc (suf s 0) = 0 from by unfold Qbc;rw [if_neg HN.out,if_pos (.inl he)])
   clear he
   go_enter Try.func48,Try.ntmps48
   go_wp2_with (go_at_call 31;refine (token_any _ _ h0 HS.out).mono ?_;rintro e w' ⟨rfl,rfl⟩)
   go_ret
   exact ⟨ret_int (by rw [HC.out];rfl),rfl⟩
 ·have he:s.toList.isEmpty = true:=by rw [← suf_zero,suf_nil (by omega)];rfl
  have HC:=hQ (show Qbc (suf s 0) = 0 from by rw [suf_nil (by omega)];rfl)
  go_enter Try.func48,Try.ntmps48
  go_wp2
  go_ret
  exact ⟨ret_int (by rw [HC.out];rfl),rfl⟩
end Go.Proofs.Ytjidpkcjpgdafaa
