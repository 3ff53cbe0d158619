/- The contracts of lex.Trivia, and of the reference's lead and Trivia. No condition but that the place lies in the string. -/
import Derived.Test.YtopnimajlgpdeaaLexSkip
namespace Go.Proofs.Ytopnimajlgpdeaa
open Go.RowKit
theorem trivia_any (s : ByteArray) (fin : Bool) (w : World) (hs : s.size ≤ maxLen) :
    Calls Try.prog 17 #[.string s, .bool fin] w fun e w' => e = .returned (.bool (triviaB s fin)) ∧ w = w' := by
  have h1 := skipTo_le s 0 (Nat.zero_le _)
  have HS := Lib.hid hs
  unfold maxLen at hs
  have HT := Lib.hid (show triviaB s fin = ((skipTo s 0 == s.size) && (fin || !skipOpen s 0)) from rfl)
  by_cases hz : skipTo s 0 = s.size
  · have HZ := Lib.hid hz
    have hz' : ((skipTo s 0 : Nat) : Int) = (s.size : Int) := by omega
    clear hz
    cases ho : skipOpen s 0 <;> cases fin
    all_goals
      go_enter Try.func17, Try.ntmps17
      go_wp2_with (go_at_call 25; refine (skip_any s 0 _ (Nat.zero_le _) HS.out).mono ?_; rintro e w' ⟨rfl, rfl⟩)
      go_ret
      exact ⟨ret_bool (by rw [HT.out, HZ.out]; simp_all), rfl⟩
  · have hz' : ¬ ((skipTo s 0 : Nat) : Int) = (s.size : Int) := by omega
    go_enter Try.func17, Try.ntmps17
    go_wp2_with (go_at_call 25; refine (skip_any s 0 _ (Nat.zero_le _) HS.out).mono ?_; rintro e w' ⟨rfl, rfl⟩)
    go_ret
    exact ⟨ret_bool (by rw [HT.out]; simp_all), rfl⟩
end Go.Proofs.Ytopnimajlgpdeaa
