/- Part 47: The contract of awake of stage 2, and of semvcsmake.Mod. -/
import Derived.Test.YtjidpkcjpgdafaaSv1
import Derived.Test.YtjidpkcjpgdafaaSv23
import Derived.Test.YtjidpkcjpgdafaaSv27
set_option maxRecDepth 100000
set_option maxHeartbeats 4000000
namespace Go.Proofs.Ytjidpkcjpgdafaa
open Go.RowKit
def modM (n m:Int):Int:=if n.tmod m < 0 then n.tmod m + m else n.tmod m
theorem modM_bd (n:Int) {m:Int} (hm:0 < m):0 ≤ modM n m ∧ modM n m < m:=by
 have h1:=Int.tmod_lt_of_pos n hm
 have h2:-m < n.tmod m:=Int.lt_tmod_of_pos n hm
 unfold modM
 split <;> omega
theorem mod_syn (n m:Int) (w:World) (hm:0 < m) (hm2:m ≤ 1000000):Calls Try.prog 4 #[.int .i64 n,.int .i64 m] w fun e w'=>e = .returned (.int .i64 (modM n m)) ∧ w = w':=by
 have h1:=Int.tmod_lt_of_pos n hm
 have h2:-m < n.tmod m:=Int.lt_tmod_of_pos n hm
 have HM:=hQ (show modM n m = if n.tmod m < 0 then n.tmod m + m else n.tmod m from rfl)
 have h0:m ≠ 0:=by omega
 have hb:=beqF h0
 by_cases h:n.tmod m < 0
 all_goals
  go_enter Try.func4,Try.ntmps4
  go_wp2
  go_ret
  exact ⟨ret_int (by rw [HM.out];split <;> omega),rfl⟩
theorem mod_is (a m:Int) (N:Nat) (w:World) (hm:0 < m) (hm2:m ≤ 1000000) (h:(N:Int) = modM a m):Calls Try.prog 4 #[.int .i64 a,.int .i64 m] w fun e w'=>e = .returned (.int .i64 (N:Int)) ∧ w = w':=by
 refine (mod_syn a m w hm hm2).mono fun e w' hh=>?_
 obtain ⟨he,hw⟩:=hh
 exact ⟨by rw [he,← h],hw⟩
end Go.Proofs.Ytjidpkcjpgdafaa
