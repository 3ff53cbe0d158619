/- The contract of lex.skip: white space and comments from a place on. Condition: the place lies in the string. -/
import Derived.Test.YtopnimajlgpdeaaLexBytes
namespace Go.Proofs.Ytopnimajlgpdeaa
open Go.RowKit
theorem ret_two {a b : Int} {c d : Bool} (h : a = b) (h' : c = d) : Ending.returned (.tuple #[.int .i64 a, .bool c]) = .returned (.tuple #[.int .i64 b, .bool d]) := by rw [h, h']
theorem bne_ten (n : Nat) : (n != 10) = ((n : Int) != 10) := by rw [Bool.eq_iff_iff]; simp; omega
set_option maxHeartbeats 400000 in
theorem skip_any (s : ByteArray) (i : Nat) (w : World) (hi : i ≤ s.size) (hs : s.size ≤ maxLen) :
    Calls Try.prog 25 #[.string s, .int .i64 i] w fun e w' => e = .returned (.tuple #[.int .i64 (skipTo s i : Nat), .bool (skipOpen s i)]) ∧ w = w' := by
  unfold maxLen at hs
  have hst := Lib.hid (SkipAt.start s i hi)
  go_enter Try.func25, Try.ntmps25
  go_wp2
  go_step3
  go_wp2
  go_step3
  go_wp2
  go_loop [1, 5] (fun a b => ∃ (k : Nat) (o : Bool), k ≤ s.size ∧ a = .int .i64 k ∧ b = .bool o ∧ SkipAt s i k o) (fun a _ => s.size - (intOf a).toNat)
  case atStart => exact ⟨i, false, hi, rfl, rfl, hst.out⟩
  case round =>
    obtain ⟨k, o, hk, rfl, rfl, hrel⟩ := hrel
    have HR := Lib.hid hrel
    clear hrel hst
    by_cases hlt : k < s.size
    · cases ha : allowedB s[k].toNat
      · go_wp2_with (first | (go_at_call 34; refine (allowed_any _ _).mono ?_; rintro e w' ⟨rfl, rfl⟩) | (go_at_call 35; refine (white_any _ _).mono ?_; rintro e w' ⟨rfl, rfl⟩))
        try rw [Exit.noGoto_ret]
        go_ret2
        obtain ⟨h1, h2⟩ := HR.out.bad hlt ha
        exact ⟨ret_two (by rw [h1]) (by rw [h2]), rfl⟩
      · cases o
        · by_cases hc : s[k].toNat = 35
          · have hc' : ((s[k].toNat : Int) == 35) = true := by simp [hc]
            have HC := Lib.hid hc
            clear hc
            go_wp2_with (first | (go_at_call 34; refine (allowed_any _ _).mono ?_; rintro e w' ⟨rfl, rfl⟩) | (go_at_call 35; refine (white_any _ _).mono ?_; rintro e w' ⟨rfl, rfl⟩))
            go_round
            case rel => exact ⟨k + 1, true, by omega, by go_num, rfl, HR.out.opens hlt HC.out⟩
            case measure => simp [intOf]; omega
          · have hc' : ((s[k].toNat : Int) == 35) = false := by simp; omega
            have HC := Lib.hid hc
            clear hc
            cases hw : whiteB s[k].toNat
            · go_wp2_with (first | (go_at_call 34; refine (allowed_any _ _).mono ?_; rintro e w' ⟨rfl, rfl⟩) | (go_at_call 35; refine (white_any _ _).mono ?_; rintro e w' ⟨rfl, rfl⟩))
              try rw [Exit.noGoto_ret]
              go_ret2
              obtain ⟨h1, h2⟩ := HR.out.other hlt hw HC.out
              exact ⟨ret_two (by rw [h1]) (by rw [h2]), rfl⟩
            · go_wp2_with (first | (go_at_call 34; refine (allowed_any _ _).mono ?_; rintro e w' ⟨rfl, rfl⟩) | (go_at_call 35; refine (white_any _ _).mono ?_; rintro e w' ⟨rfl, rfl⟩))
              go_round
              case rel => exact ⟨k + 1, false, by omega, by go_num, rfl, HR.out.white hlt hw⟩
              case measure => simp [intOf]; omega
        · go_wp2_with (first | (go_at_call 34; refine (allowed_any _ _).mono ?_; rintro e w' ⟨rfl, rfl⟩) | (go_at_call 35; refine (white_any _ _).mono ?_; rintro e w' ⟨rfl, rfl⟩))
          go_round
          case rel => exact ⟨k + 1, (s[k].toNat != 10), by omega, by go_num, by rw [bne_ten], HR.out.inside hlt ha⟩
          case measure => simp [intOf]; omega
    · go_wp2
      try rw [Exit.noGoto_ret]
      go_ret2
      obtain ⟨h1, h2⟩ := HR.out.done hlt
      exact ⟨ret_two (by rw [h1]) (by rw [h2]), rfl⟩
end Go.Proofs.Ytopnimajlgpdeaa
