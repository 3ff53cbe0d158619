/- The contracts of lex's tests of bytes, of skip and of Trivia. -/
import Derived.Test.YtpdmklbfbpdneaaGreatRows
import Derived.Test.YtpdmklbfbpdneaaGreatLexPlain
import Derived.WalkKit
import Derived.WalkSpells
import Derived.WalkLawsBesides
import Derived.Lib.Hide
import Derived.Deep.LoopGhost
import Derived.Deep.QuietTactic
import Derived.BigQuiet
namespace Go.Proofs.YtpdmklbfbpdneaaGreat
open Go.RowKit
theorem ret_bool {a b : Bool} (h : a = b) : Ending.returned (.bool a) = .returned (.bool b) := by rw [h]
theorem white_any (c : Int) (w : World) : Calls Tryz.prog 121 #[.int .u8 c] w fun e w' => e = .returned (.bool (whiteB c)) ∧ w = w' := by
  go_enter Tryz.func121, Tryz.ntmps121
  go_wp2
  all_goals
    go_ret
    exact ⟨ret_bool (by simp_all [whiteB]; try omega), rfl⟩
theorem upper_any (c : Int) (w : World) : Calls Tryz.prog 156 #[.int .u8 c] w fun e w' => e = .returned (.bool (upperB c)) ∧ w = w' := by
  go_enter Tryz.func156, Tryz.ntmps156
  go_wp2
  all_goals
    go_ret
    exact ⟨ret_bool (by simp_all [upperB]; try omega), rfl⟩
theorem digit_any (c : Int) (w : World) : Calls Tryz.prog 124 #[.int .u8 c] w fun e w' => e = .returned (.bool (digitB c)) ∧ w = w' := by
  go_enter Tryz.func124, Tryz.ntmps124
  go_wp2
  all_goals
    go_ret
    exact ⟨ret_bool (by simp_all [digitB]; try omega), rfl⟩
theorem letter_any (c : Int) (w : World) : Calls Tryz.prog 122 #[.int .u8 c] w fun e w' => e = .returned (.bool (letterB c)) ∧ w = w' := by
  go_enter Tryz.func122, Tryz.ntmps122
  go_wp2_with (first | (go_at_call 156; refine (upper_any _ _).mono ?_; rintro e w' ⟨rfl, rfl⟩))
  all_goals
    go_ret
    exact ⟨ret_bool (by simp_all [letterB, lowerB]; try omega), rfl⟩
theorem allowed_any (c : Int) (w : World) : Calls Tryz.prog 120 #[.int .u8 c] w fun e w' => e = .returned (.bool (allowedB c)) ∧ w = w' := by
  go_enter Tryz.func120, Tryz.ntmps120
  go_wp2_with (first | (go_at_call 121; refine (white_any _ _).mono ?_; rintro e w' ⟨rfl, rfl⟩))
  all_goals
    go_ret
    exact ⟨ret_bool (by simp_all [allowedB]; try omega), rfl⟩
theorem rwhite_any (c : Int) (w : World) : Calls Tryz.prog 138 #[.int .u8 c] w fun e w' => e = .returned (.bool (whiteB c)) ∧ w = w' := by
  go_enter Tryz.func138, Tryz.ntmps138
  go_wp2
  all_goals
    go_ret
    exact ⟨ret_bool (by simp_all [whiteB]; try omega), rfl⟩
theorem rupper_any (c : Int) (w : World) : Calls Tryz.prog 165 #[.int .u8 c] w fun e w' => e = .returned (.bool (upperB c)) ∧ w = w' := by
  go_enter Tryz.func165, Tryz.ntmps165
  go_wp2
  all_goals
    go_ret
    exact ⟨ret_bool (by simp_all [upperB]; try omega), rfl⟩
theorem rlower_any (c : Int) (w : World) : Calls Tryz.prog 164 #[.int .u8 c] w fun e w' => e = .returned (.bool (lowerB c)) ∧ w = w' := by
  go_enter Tryz.func164, Tryz.ntmps164
  go_wp2
  all_goals
    go_ret
    exact ⟨ret_bool (by simp_all [lowerB]; try omega), rfl⟩
theorem rdigit_any (c : Int) (w : World) : Calls Tryz.prog 163 #[.int .u8 c] w fun e w' => e = .returned (.bool (digitB c)) ∧ w = w' := by
  go_enter Tryz.func163, Tryz.ntmps163
  go_wp2
  all_goals
    go_ret
    exact ⟨ret_bool (by simp_all [digitB]; try omega), rfl⟩
theorem rprinted_any (c : Int) (w : World) : Calls Tryz.prog 162 #[.int .u8 c] w fun e w' => e = .returned (.bool (printedB c)) ∧ w = w' := by
  go_enter Tryz.func162, Tryz.ntmps162
  go_wp2
  all_goals
    go_ret
    exact ⟨ret_bool (by simp_all [printedB]; try omega), rfl⟩
theorem rallowed_any (c : Int) (w : World) : Calls Tryz.prog 161 #[.int .u8 c] w fun e w' => e = .returned (.bool (allowedB c)) ∧ w = w' := by
  go_enter Tryz.func161, Tryz.ntmps161
  go_wp2_with (first | (go_at_call 138; refine (rwhite_any _ _).mono ?_; rintro e w' ⟨rfl, rfl⟩) | (go_at_call 162; refine (rprinted_any _ _).mono ?_; rintro e w' ⟨rfl, rfl⟩))
  all_goals
    go_ret
    exact ⟨ret_bool (by simp_all [allowed_printed]), rfl⟩
theorem rinWord_any (c : Int) (w : World) : Calls Tryz.prog 181 #[.int .u8 c] w fun e w' => e = .returned (.bool (wordB c)) ∧ w = w' := by
  go_enter Tryz.func181, Tryz.ntmps181
  go_wp2_with (first | (go_at_call 165; refine (rupper_any _ _).mono ?_; rintro e w' ⟨rfl, rfl⟩) | (go_at_call 164; refine (rlower_any _ _).mono ?_; rintro e w' ⟨rfl, rfl⟩) | (go_at_call 163; refine (rdigit_any _ _).mono ?_; rintro e w' ⟨rfl, rfl⟩))
  all_goals
    go_ret
    exact ⟨ret_bool (by simp_all [wordB, letterB]; try omega), rfl⟩
end Go.Proofs.YtpdmklbfbpdneaaGreat
namespace Go.Proofs.YtpdmklbfbpdneaaGreat
open Go.RowKit
theorem ret_two {a b : Int} {c d : Bool} (h : a = b) (h' : c = d) : Ending.returned (.tuple #[.int .i64 a, .bool c]) = .returned (.tuple #[.int .i64 b, .bool d]) := by rw [h, h']
theorem bne_ten (n : Nat) : (n != 10) = ((n : Int) != 10) := by rw [Bool.eq_iff_iff]; simp; omega
set_option maxHeartbeats 400000 in
theorem skip_any (s : ByteArray) (i : Nat) (w : World) (hi : i ≤ s.size) (hs : s.size ≤ maxLen) :
    Calls Tryz.prog 79 #[.string s, .int .i64 i] w fun e w' => e = .returned (.tuple #[.int .i64 (skipTo s i : Nat), .bool (skipOpen s i)]) ∧ w = w' := by
  unfold maxLen at hs
  have hst := Lib.hid (SkipAt.start s i hi)
  go_enter Tryz.func79, Tryz.ntmps79
  go_wp2
  go_step3
  go_wp2
  go_step3
  go_wp2
  go_loop [1, 5] (fun a b => ∃ (k : Nat) (o : Bool), k ≤ s.size ∧ a = .int .i64 k ∧ b = .bool o ∧ SkipAt s i k o) (fun a _ => s.size - (intOf a).toNat)
  case atStart => exact ⟨i, false, hi, rfl, rfl, hst.out⟩
  case round =>
    obtain ⟨k, o, hk, rfl, rfl, hrel⟩ := hrel
    have HR := Lib.hid hrel
    clear hrel hst
    by_cases hlt : k < s.size
    · cases ha : allowedB s[k].toNat
      · go_wp2_with (first | (go_at_call 120; refine (allowed_any _ _).mono ?_; rintro e w' ⟨rfl, rfl⟩) | (go_at_call 121; refine (white_any _ _).mono ?_; rintro e w' ⟨rfl, rfl⟩))
        try rw [Exit.noGoto_ret]
        go_ret2
        obtain ⟨h1, h2⟩ := HR.out.bad hlt ha
        exact ⟨ret_two (by rw [h1]) (by rw [h2]), rfl⟩
      · cases o
        · by_cases hc : s[k].toNat = 35
          · have hc' : ((s[k].toNat : Int) == 35) = true := by simp [hc]
            have HC := Lib.hid hc
            clear hc
            go_wp2_with (first | (go_at_call 120; refine (allowed_any _ _).mono ?_; rintro e w' ⟨rfl, rfl⟩) | (go_at_call 121; refine (white_any _ _).mono ?_; rintro e w' ⟨rfl, rfl⟩))
            go_round
            case rel => exact ⟨k + 1, true, by omega, by go_num, rfl, HR.out.opens hlt HC.out⟩
            case measure => simp [intOf]; omega
          · have hc' : ((s[k].toNat : Int) == 35) = false := by simp; omega
            have HC := Lib.hid hc
            clear hc
            cases hw : whiteB s[k].toNat
            · go_wp2_with (first | (go_at_call 120; refine (allowed_any _ _).mono ?_; rintro e w' ⟨rfl, rfl⟩) | (go_at_call 121; refine (white_any _ _).mono ?_; rintro e w' ⟨rfl, rfl⟩))
              try rw [Exit.noGoto_ret]
              go_ret2
              obtain ⟨h1, h2⟩ := HR.out.other hlt hw HC.out
              exact ⟨ret_two (by rw [h1]) (by rw [h2]), rfl⟩
            · go_wp2_with (first | (go_at_call 120; refine (allowed_any _ _).mono ?_; rintro e w' ⟨rfl, rfl⟩) | (go_at_call 121; refine (white_any _ _).mono ?_; rintro e w' ⟨rfl, rfl⟩))
              go_round
              case rel => exact ⟨k + 1, false, by omega, by go_num, rfl, HR.out.white hlt hw⟩
              case measure => simp [intOf]; omega
        · go_wp2_with (first | (go_at_call 120; refine (allowed_any _ _).mono ?_; rintro e w' ⟨rfl, rfl⟩) | (go_at_call 121; refine (white_any _ _).mono ?_; rintro e w' ⟨rfl, rfl⟩))
          go_round
          case rel => exact ⟨k + 1, (s[k].toNat != 10), by omega, by go_num, by rw [bne_ten], HR.out.inside hlt ha⟩
          case measure => simp [intOf]; omega
    · go_wp2
      try rw [Exit.noGoto_ret]
      go_ret2
      obtain ⟨h1, h2⟩ := HR.out.done hlt
      exact ⟨ret_two (by rw [h1]) (by rw [h2]), rfl⟩
end Go.Proofs.YtpdmklbfbpdneaaGreat
namespace Go.Proofs.YtpdmklbfbpdneaaGreat
open Go.RowKit
theorem trivia_any (s : ByteArray) (fin : Bool) (w : World) (hs : s.size ≤ maxLen) :
    Calls Tryz.prog 140 #[.string s, .bool fin] w fun e w' => e = .returned (.bool (triviaB s fin)) ∧ w = w' := by
  have h1 := skipTo_le s 0 (Nat.zero_le _)
  have HS := Lib.hid hs
  unfold maxLen at hs
  have HT := Lib.hid (show triviaB s fin = ((skipTo s 0 == s.size) && (fin || !skipOpen s 0)) from rfl)
  by_cases hz : skipTo s 0 = s.size
  · have HZ := Lib.hid hz
    have hz' : ((skipTo s 0 : Nat) : Int) = (s.size : Int) := by omega
    clear hz
    cases ho : skipOpen s 0 <;> cases fin
    all_goals
      go_enter Tryz.func140, Tryz.ntmps140
      go_wp2_with (go_at_call 79; refine (skip_any s 0 _ (Nat.zero_le _) HS.out).mono ?_; rintro e w' ⟨rfl, rfl⟩)
      go_ret
      exact ⟨ret_bool (by rw [HT.out, HZ.out]; simp_all), rfl⟩
  · have hz' : ¬ ((skipTo s 0 : Nat) : Int) = (s.size : Int) := by omega
    go_enter Tryz.func140, Tryz.ntmps140
    go_wp2_with (go_at_call 79; refine (skip_any s 0 _ (Nat.zero_le _) HS.out).mono ?_; rintro e w' ⟨rfl, rfl⟩)
    go_ret
    exact ⟨ret_bool (by rw [HT.out]; simp_all), rfl⟩
end Go.Proofs.YtpdmklbfbpdneaaGreat
