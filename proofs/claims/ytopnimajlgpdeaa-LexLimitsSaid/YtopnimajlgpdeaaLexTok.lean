/- The contracts of lex.reserved, wordLength, qualified, word, number, quoted, sign and token. Conditions: lengths that a machine can hold; a first byte where the code reads one. -/
import Derived.Test.YtopnimajlgpdeaaLexTokPure
import Derived.Test.YtopnimajlgpdeaaLexSkip
namespace Go.Proofs.Ytopnimajlgpdeaa
open Go.RowKit
theorem suf_zero (s : ByteArray) : suf s 0 = s.toList := by
  unfold suf
  rw [ByteArray.toList_eq]
  rfl
theorem ret_tk {t : Tk} {x y z : Int} (a b c : Nat) (h : t = ⟨a, b, c⟩) (hx : x = a) (hy : y = b) (hz : z = c) : Ending.returned (.tuple #[.int .i64 x, .int .i64 y, .int .i64 z]) = .returned (.tuple #[.int .i64 t.kind, .int .i64 t.n, .int .i64 t.e]) := by
  subst h hx hy hz
  rfl
theorem ret_int {a b : Int} (h : a = b) : Ending.returned (.int .i64 a) = .returned (.int .i64 b) := by rw [h]
theorem at_zero (s : ByteArray) (k : Nat) (h : k < s.size) : at' (suf s 0) k = s[k].toNat := by
  rw [at_suf s 0 k (by omega)]
  simp
theorem reserved_any (s : ByteArray) (w : World) : Calls Try.prog 52 #[.string s] w fun e w' => e = .returned (.bool (reservedB (suf s 0))) ∧ w = w' := by
  go_enter Try.func52, Try.ntmps52
  go_wp2
  all_goals
    go_ret
    exact ⟨ret_bool (by rw [suf_zero]; simp_all [reservedB, reservedWords]), rfl⟩
set_option maxHeartbeats 400000 in
theorem wordLength_any (s : ByteArray) (w : World) (hs : s.size ≤ maxLen) :
    Calls Try.prog 51 #[.string s] w fun e w' => e = .returned (.int .i64 (wordLen (suf s 0) : Nat)) ∧ w = w' := by
  unfold maxLen at hs
  have hst := Lib.hid (RunAt.start wordB s 0 (Nat.zero_le _))
  go_enter Try.func51, Try.ntmps51
  go_wp2
  go_loop [3] (fun a => ∃ (k : Nat), k ≤ s.size ∧ a = .int .i64 k ∧ RunAt wordB s 0 k) (fun a => s.size - (intOf a).toNat)
  case atStart => exact ⟨0, Nat.zero_le _, rfl, hst.out⟩
  case round =>
    obtain ⟨k, hk, rfl, hrel⟩ := hrel
    have HR := Lib.hid hrel
    clear hrel hst
    by_cases hlt : k < s.size
    · have HW := Lib.hid (show wordB s[k].toNat = (letterB s[k].toNat || digitB s[k].toNat || (s[k].toNat : Int) == 95) from rfl)
      cases hl : letterB s[k].toNat
      · cases hd : digitB s[k].toNat
        · cases h95 : ((s[k].toNat : Int) == 95)
          · go_wp2_with (first | (go_at_call 36; refine (letter_any _ _).mono ?_; rintro e w' ⟨rfl, rfl⟩) | (go_at_call 38; refine (digit_any _ _).mono ?_; rintro e w' ⟨rfl, rfl⟩))
            go_ret
            have h1 := HR.out.stop hlt (by rw [HW.out, hl, hd, h95]; rfl)
            exact ⟨ret_int (by unfold wordLen; omega), rfl⟩
          · go_wp2_with (first | (go_at_call 36; refine (letter_any _ _).mono ?_; rintro e w' ⟨rfl, rfl⟩) | (go_at_call 38; refine (digit_any _ _).mono ?_; rintro e w' ⟨rfl, rfl⟩))
            go_round
            case rel => exact ⟨k + 1, by omega, by go_num, HR.out.next hlt (by rw [HW.out, hl, hd, h95]; rfl)⟩
            case measure => simp [intOf]; omega
        · go_wp2_with (first | (go_at_call 36; refine (letter_any _ _).mono ?_; rintro e w' ⟨rfl, rfl⟩) | (go_at_call 38; refine (digit_any _ _).mono ?_; rintro e w' ⟨rfl, rfl⟩))
          go_round
          case rel => exact ⟨k + 1, by omega, by go_num, HR.out.next hlt (by rw [HW.out, hl, hd]; rfl)⟩
          case measure => simp [intOf]; omega
      · go_wp2_with (first | (go_at_call 36; refine (letter_any _ _).mono ?_; rintro e w' ⟨rfl, rfl⟩) | (go_at_call 38; refine (digit_any _ _).mono ?_; rintro e w' ⟨rfl, rfl⟩))
        go_round
        case rel => exact ⟨k + 1, by omega, by go_num, HR.out.next hlt (by rw [HW.out, hl]; rfl)⟩
        case measure => simp [intOf]; omega
    · go_wp2
      go_ret
      have h1 := HR.out.done hlt
      exact ⟨ret_int (by unfold wordLen; omega), rfl⟩
set_option maxHeartbeats 400000 in
theorem number_any (s : ByteArray) (w : World) (h0 : 0 < s.size) (hs : s.size ≤ maxLen) :
    Calls Try.prog 39 #[.string s] w fun e w' => e = .returned (.tuple #[.int .i64 (numT (suf s 0)).kind, .int .i64 (numT (suf s 0)).n, .int .i64 (numT (suf s 0)).e]) ∧ w = w' := by
  unfold maxLen at hs
  have hst := Lib.hid (RunAt.start digitB s 0 (Nat.zero_le _))
  have H0 := Lib.hid (at_zero s 0 h0)
  go_enter Try.func39, Try.ntmps39
  go_wp2
  go_loop [3] (fun a => ∃ (k : Nat), k ≤ s.size ∧ a = .int .i64 k ∧ RunAt digitB s 0 k) (fun a => s.size - (intOf a).toNat)
  case atStart => exact ⟨0, Nat.zero_le _, rfl, hst.out⟩
  case round =>
    obtain ⟨k, hk, rfl, hrel⟩ := hrel
    have HR := Lib.hid hrel
    clear hrel hst
    by_cases hgo : ∃ h : k < s.size, digitB s[k].toNat = true
    · obtain ⟨hlt, hd⟩ := hgo
      go_wp2_with (first | (go_at_call 36; refine (letter_any _ _).mono ?_; rintro e w' ⟨rfl, rfl⟩) | (go_at_call 38; refine (digit_any _ _).mono ?_; rintro e w' ⟨rfl, rfl⟩))
      go_round
      case rel => exact ⟨k + 1, by omega, by go_num, HR.out.next hlt hd⟩
      case measure => simp [intOf]; omega
    · have HN : Hid (numLen (suf s 0) = k) := by
        unfold numLen
        by_cases hlt : k < s.size
        · have := HR.out.stop hlt (by simpa using fun h => hgo ⟨hlt, h⟩)
          exact Lib.hid (by omega)
        · have := HR.out.done hlt
          exact Lib.hid (by omega)
      by_cases h1 : 1 < k
      · by_cases h48 : s[0].toNat = 48
        · have h48' : ((s[0].toNat : Int) == 48) = true := by simp [h48]
          have H48 := Lib.hid h48
          clear h48
          by_cases hlt : k < s.size
          all_goals
            first | (have hd : digitB s[k].toNat = false := by simpa using fun h => hgo ⟨hlt, h⟩) | skip
            clear hgo
            go_wp2_with (first | (go_at_call 36; refine (letter_any _ _).mono ?_; rintro e w' ⟨rfl, rfl⟩) | (go_at_call 38; refine (digit_any _ _).mono ?_; rintro e w' ⟨rfl, rfl⟩))
            go_ret3
            exact ⟨ret_tk 0 0 2 (by unfold numT; rw [if_pos ⟨by rw [HN.out]; exact h1, by rw [H0.out, H48.out]⟩]) rfl rfl rfl, rfl⟩
        · have h48' : ((s[0].toNat : Int) == 48) = false := by simp; omega
          have H48 := Lib.hid h48
          clear h48
          have HE := Lib.hid (show ¬ (1 < numLen (suf s 0) ∧ at' (suf s 0) 0 = 48) from fun h => H48.out (by rw [← H0.out]; exact h.2))
          by_cases h15 : 15 < k
          all_goals
            by_cases hlt : k < s.size
            all_goals
              first | (have hd : digitB s[k].toNat = false := by simpa using fun h => hgo ⟨hlt, h⟩) | skip
              clear hgo
              go_wp2_with (first | (go_at_call 36; refine (letter_any _ _).mono ?_; rintro e w' ⟨rfl, rfl⟩) | (go_at_call 38; refine (digit_any _ _).mono ?_; rintro e w' ⟨rfl, rfl⟩))
              go_ret3
              first
                | exact ⟨ret_tk 0 0 3 (by unfold numT; rw [if_neg HE.out, HN.out, if_pos h15]) rfl rfl rfl, rfl⟩
                | exact ⟨ret_tk 5 k 0 (by unfold numT; rw [if_neg HE.out, HN.out, if_neg h15]) rfl rfl rfl, rfl⟩
      · have HE := Lib.hid (show ¬ (1 < numLen (suf s 0) ∧ at' (suf s 0) 0 = 48) from fun h => h1 (by rw [← HN.out]; exact h.1))
        by_cases hlt : k < s.size
        all_goals
          first | (have hd : digitB s[k].toNat = false := by simpa using fun h => hgo ⟨hlt, h⟩) | skip
          clear hgo
          go_wp2_with (first | (go_at_call 36; refine (letter_any _ _).mono ?_; rintro e w' ⟨rfl, rfl⟩) | (go_at_call 38; refine (digit_any _ _).mono ?_; rintro e w' ⟨rfl, rfl⟩))
          go_ret3
          exact ⟨ret_tk 5 k 0 (by unfold numT; rw [if_neg HE.out, HN.out, if_neg (by omega)]) rfl rfl rfl, rfl⟩
end Go.Proofs.Ytopnimajlgpdeaa
