/- The contracts of lex.word and token. Conditions: lengths that a machine can hold; a first byte. -/
import Derived.Test.YtopnimajlgpdeaaLexTokC
namespace Go.Proofs.Ytopnimajlgpdeaa
open Go.RowKit
theorem reserved_take (s : ByteArray) (m : Nat) (w : World) :
    Calls Try.prog 52 #[.string (s.extract 0 m)] w fun e w' => e = .returned (.bool (reservedB ((suf s 0).take m))) ∧ w = w' := by
  have h := reserved_any (s.extract 0 m) w
  rw [suf_extract, Nat.sub_zero] at h
  exact h
theorem wordT_plain {l : List UInt8} (h : dotted l = false) : wordT l = plainT l := by
  unfold wordT
  rw [if_neg (by simp [h])]
section
variable {l : List UInt8}
theorem plain_long (h : 24 < wordLen l) : plainT l = ⟨0, 0, 3⟩ := by
  unfold plainT
  rw [if_pos h]
theorem plain_res (h : ¬ 24 < wordLen l) (hr : reservedB (l.take (wordLen l)) = true) : plainT l = ⟨7, wordLen l, 0⟩ := by
  unfold plainT
  rw [if_neg h, if_pos hr]
theorem plain_up (h : ¬ 24 < wordLen l) (hr : reservedB (l.take (wordLen l)) = false) (hu : upperB (at' l 0) = true) : plainT l = ⟨2, wordLen l, 0⟩ := by
  unfold plainT
  rw [if_neg h, if_neg (by simp [hr]), if_pos hu]
theorem plain_low (h : ¬ 24 < wordLen l) (hr : reservedB (l.take (wordLen l)) = false) (hu : upperB (at' l 0) = false) : plainT l = ⟨1, wordLen l, 0⟩ := by
  unfold plainT
  rw [if_neg h, if_neg (by simp [hr]), if_neg (by simp [hu])]
end
set_option maxHeartbeats 1000000 in
theorem word_any (s : ByteArray) (w : World) (h0 : 0 < s.size) (hs : s.size < maxLen) :
    Calls Try.prog 37 #[.string s] w fun e w' => e = .returned (.tuple #[.int .i64 (wordT (suf s 0)).kind, .int .i64 (wordT (suf s 0)).n, .int .i64 (wordT (suf s 0)).e]) ∧ w = w' := by
  have HS := Lib.hid (Nat.le_of_lt hs)
  have hm := wordLen_le s 0
  have H0 := Lib.hid (at_zero s 0 h0)
  have HL := Lib.hid (suf_length s 0)
  have HD := Lib.hid (show dotted (suf s 0) = (upperB (at' (suf s 0) 0) && !reservedB ((suf s 0).take (wordLen (suf s 0))) && decide (wordLen (suf s 0) + 1 < (suf s 0).length) && at' (suf s 0) (wordLen (suf s 0)) == 46 && letterB (at' (suf s 0) (wordLen (suf s 0) + 1))) from rfl)
  unfold maxLen at hs
  cases hu : upperB s[0].toNat
  · cases hr : reservedB ((suf s 0).take (wordLen (suf s 0)))
    all_goals
      have HP := Lib.hid (wordT_plain (show dotted (suf s 0) = false from by rw [HD.out, H0.out, hu]; rfl))
      by_cases h24 : 24 < wordLen (suf s 0)
      all_goals
        go_enter Try.func37, Try.ntmps37
        go_wp2_with (first | (go_at_call 51; refine (wordLength_any _ _ HS.out).mono ?_; rintro e w' ⟨rfl, rfl⟩) | (go_at_call 52; refine (reserved_take _ _ _).mono ?_; rintro e w' ⟨rfl, rfl⟩) | (go_at_call 50; refine (upper_any _ _).mono ?_; rintro e w' ⟨rfl, rfl⟩) | (go_at_call 36; refine (letter_any _ _).mono ?_; rintro e w' ⟨rfl, rfl⟩) | (go_at_call 53; refine (qualified_any _ _ _ hn HS.out).mono ?_; rintro e w' ⟨rfl, rfl⟩))
        go_ret3
        first
          | exact ⟨ret_tk 0 0 3 (HP.out.trans (plain_long h24)) rfl rfl rfl, rfl⟩
          | exact ⟨ret_tk 7 (wordLen (suf s 0)) 0 (HP.out.trans (plain_res h24 hr)) rfl rfl rfl, rfl⟩
          | exact ⟨ret_tk 2 (wordLen (suf s 0)) 0 (HP.out.trans (plain_up h24 hr (by rw [H0.out]; exact hu))) rfl rfl rfl, rfl⟩
          | exact ⟨ret_tk 1 (wordLen (suf s 0)) 0 (HP.out.trans (plain_low h24 hr (by rw [H0.out]; exact hu))) rfl rfl rfl, rfl⟩

  · cases hr : reservedB ((suf s 0).take (wordLen (suf s 0)))
    · by_cases hn : wordLen (suf s 0) + 1 < s.size
      · have hn' : ((wordLen (suf s 0) : Nat) : Int) + 1 < (s.size : Int) := by omega
        by_cases h46 : s[wordLen (suf s 0)].toNat = 46
        · have g46 : ((s[wordLen (suf s 0)].toNat : Int) == 46) = true := beq_yes h46
          have H46 := Lib.hid h46
          clear h46
          cases hl : letterB s[wordLen (suf s 0) + 1].toNat
          · have HP := Lib.hid (wordT_plain (show dotted (suf s 0) = false from by rw [HD.out, at_zero s (wordLen (suf s 0) + 1) hn, hl]; simp))
            by_cases h24 : 24 < wordLen (suf s 0)
            all_goals
              go_enter Try.func37, Try.ntmps37
              go_wp2_with (first | (go_at_call 51; refine (wordLength_any _ _ HS.out).mono ?_; rintro e w' ⟨rfl, rfl⟩) | (go_at_call 52; refine (reserved_take _ _ _).mono ?_; rintro e w' ⟨rfl, rfl⟩) | (go_at_call 50; refine (upper_any _ _).mono ?_; rintro e w' ⟨rfl, rfl⟩) | (go_at_call 36; refine (letter_any _ _).mono ?_; rintro e w' ⟨rfl, rfl⟩) | (go_at_call 53; refine (qualified_any _ _ _ hn HS.out).mono ?_; rintro e w' ⟨rfl, rfl⟩))
              go_ret3
              first
                | exact ⟨ret_tk 0 0 3 (HP.out.trans (plain_long h24)) rfl rfl rfl, rfl⟩
                | exact ⟨ret_tk 7 (wordLen (suf s 0)) 0 (HP.out.trans (plain_res h24 hr)) rfl rfl rfl, rfl⟩
                | exact ⟨ret_tk 2 (wordLen (suf s 0)) 0 (HP.out.trans (plain_up h24 hr (by rw [H0.out]; exact hu))) rfl rfl rfl, rfl⟩
                | exact ⟨ret_tk 1 (wordLen (suf s 0)) 0 (HP.out.trans (plain_low h24 hr (by rw [H0.out]; exact hu))) rfl rfl rfl, rfl⟩

          · have HT := Lib.hid (show wordT (suf s 0) = qualT (suf s 0) (wordLen (suf s 0)) from by
              unfold wordT
              rw [if_pos (by rw [HD.out, HL.out, H0.out, hu, hr, at_zero s _ (by omega), H46.out, at_zero s _ hn, hl]; simpa using hn)])
            go_enter Try.func37, Try.ntmps37
            go_wp2_with (first | (go_at_call 51; refine (wordLength_any _ _ HS.out).mono ?_; rintro e w' ⟨rfl, rfl⟩) | (go_at_call 52; refine (reserved_take _ _ _).mono ?_; rintro e w' ⟨rfl, rfl⟩) | (go_at_call 50; refine (upper_any _ _).mono ?_; rintro e w' ⟨rfl, rfl⟩) | (go_at_call 36; refine (letter_any _ _).mono ?_; rintro e w' ⟨rfl, rfl⟩) | (go_at_call 53; refine (qualified_any _ _ _ hn HS.out).mono ?_; rintro e w' ⟨rfl, rfl⟩))
            go_ret3
            exact ⟨ret_tk _ _ _ HT.out rfl rfl rfl, rfl⟩
        · have g46 : ((s[wordLen (suf s 0)].toNat : Int) == 46) = false := beq_no h46
          have H47 := Lib.hid h46
          clear h46
          have HP := Lib.hid (wordT_plain (show dotted (suf s 0) = false from by rw [HD.out, at_zero s (wordLen (suf s 0)) (by omega), beq_eq_false_iff_ne.2 H47.out]; simp))
          by_cases h24 : 24 < wordLen (suf s 0)
          all_goals
            go_enter Try.func37, Try.ntmps37
            go_wp2_with (first | (go_at_call 51; refine (wordLength_any _ _ HS.out).mono ?_; rintro e w' ⟨rfl, rfl⟩) | (go_at_call 52; refine (reserved_take _ _ _).mono ?_; rintro e w' ⟨rfl, rfl⟩) | (go_at_call 50; refine (upper_any _ _).mono ?_; rintro e w' ⟨rfl, rfl⟩) | (go_at_call 36; refine (letter_any _ _).mono ?_; rintro e w' ⟨rfl, rfl⟩) | (go_at_call 53; refine (qualified_any _ _ _ hn HS.out).mono ?_; rintro e w' ⟨rfl, rfl⟩))
            go_ret3
            first
              | exact ⟨ret_tk 0 0 3 (HP.out.trans (plain_long h24)) rfl rfl rfl, rfl⟩
              | exact ⟨ret_tk 7 (wordLen (suf s 0)) 0 (HP.out.trans (plain_res h24 hr)) rfl rfl rfl, rfl⟩
              | exact ⟨ret_tk 2 (wordLen (suf s 0)) 0 (HP.out.trans (plain_up h24 hr (by rw [H0.out]; exact hu))) rfl rfl rfl, rfl⟩
              | exact ⟨ret_tk 1 (wordLen (suf s 0)) 0 (HP.out.trans (plain_low h24 hr (by rw [H0.out]; exact hu))) rfl rfl rfl, rfl⟩

      · have hn' : ¬ ((wordLen (suf s 0) : Nat) : Int) + 1 < (s.size : Int) := by omega
        have HP := Lib.hid (wordT_plain (show dotted (suf s 0) = false from by rw [HD.out, HL.out, Nat.sub_zero, decide_eq_false hn]; simp))
        by_cases h24 : 24 < wordLen (suf s 0)
        all_goals
          go_enter Try.func37, Try.ntmps37
          go_wp2_with (first | (go_at_call 51; refine (wordLength_any _ _ HS.out).mono ?_; rintro e w' ⟨rfl, rfl⟩) | (go_at_call 52; refine (reserved_take _ _ _).mono ?_; rintro e w' ⟨rfl, rfl⟩) | (go_at_call 50; refine (upper_any _ _).mono ?_; rintro e w' ⟨rfl, rfl⟩) | (go_at_call 36; refine (letter_any _ _).mono ?_; rintro e w' ⟨rfl, rfl⟩) | (go_at_call 53; refine (qualified_any _ _ _ hn HS.out).mono ?_; rintro e w' ⟨rfl, rfl⟩))
          go_ret3
          first
            | exact ⟨ret_tk 0 0 3 (HP.out.trans (plain_long h24)) rfl rfl rfl, rfl⟩
            | exact ⟨ret_tk 7 (wordLen (suf s 0)) 0 (HP.out.trans (plain_res h24 hr)) rfl rfl rfl, rfl⟩
            | exact ⟨ret_tk 2 (wordLen (suf s 0)) 0 (HP.out.trans (plain_up h24 hr (by rw [H0.out]; exact hu))) rfl rfl rfl, rfl⟩
            | exact ⟨ret_tk 1 (wordLen (suf s 0)) 0 (HP.out.trans (plain_low h24 hr (by rw [H0.out]; exact hu))) rfl rfl rfl, rfl⟩

    · have HP := Lib.hid (wordT_plain (show dotted (suf s 0) = false from by rw [HD.out, hr]; simp))
      by_cases h24 : 24 < wordLen (suf s 0)
      all_goals
        go_enter Try.func37, Try.ntmps37
        go_wp2_with (first | (go_at_call 51; refine (wordLength_any _ _ HS.out).mono ?_; rintro e w' ⟨rfl, rfl⟩) | (go_at_call 52; refine (reserved_take _ _ _).mono ?_; rintro e w' ⟨rfl, rfl⟩) | (go_at_call 50; refine (upper_any _ _).mono ?_; rintro e w' ⟨rfl, rfl⟩) | (go_at_call 36; refine (letter_any _ _).mono ?_; rintro e w' ⟨rfl, rfl⟩) | (go_at_call 53; refine (qualified_any _ _ _ hn HS.out).mono ?_; rintro e w' ⟨rfl, rfl⟩))
        go_ret3
        first
          | exact ⟨ret_tk 0 0 3 (HP.out.trans (plain_long h24)) rfl rfl rfl, rfl⟩
          | exact ⟨ret_tk 7 (wordLen (suf s 0)) 0 (HP.out.trans (plain_res h24 hr)) rfl rfl rfl, rfl⟩
          | exact ⟨ret_tk 2 (wordLen (suf s 0)) 0 (HP.out.trans (plain_up h24 hr (by rw [H0.out]; exact hu))) rfl rfl rfl, rfl⟩
          | exact ⟨ret_tk 1 (wordLen (suf s 0)) 0 (HP.out.trans (plain_low h24 hr (by rw [H0.out]; exact hu))) rfl rfl rfl, rfl⟩

theorem suf_one (s : ByteArray) : (suf s 0).drop 1 = suf s 1 := by rw [suf_drop]
set_option maxHeartbeats 400000 in
theorem token_any (s : ByteArray) (w : World) (h0 : 0 < s.size) (hs : s.size < maxLen) :
    Calls Try.prog 26 #[.string s] w fun e w' => e = .returned (.tuple #[.int .i64 (tokT (suf s 0)).kind, .int .i64 (tokT (suf s 0)).n, .int .i64 (tokT (suf s 0)).e]) ∧ w = w' := by
  have HS := Lib.hid hs
  have HT := Lib.hid (Nat.le_of_lt hs)
  have H0 := Lib.hid (at_zero s 0 h0)
  unfold maxLen at hs
  cases ha : allowedB s[0].toNat
  · go_enter Try.func26, Try.ntmps26
    go_wp2_with (first | (go_at_call 34; refine (allowed_any _ _).mono ?_; rintro e w' ⟨rfl, rfl⟩) | (go_at_call 36; refine (letter_any _ _).mono ?_; rintro e w' ⟨rfl, rfl⟩) | (go_at_call 38; refine (digit_any _ _).mono ?_; rintro e w' ⟨rfl, rfl⟩) | (go_at_call 37; refine (word_any _ _ h0 HS.out).mono ?_; rintro e w' ⟨rfl, rfl⟩) | (go_at_call 39; refine (number_any _ _ h0 HT.out).mono ?_; rintro e w' ⟨rfl, rfl⟩) | (go_at_call 40; refine (quoted_any _ _ h0 HT.out).mono ?_; rintro e w' ⟨rfl, rfl⟩) | (go_at_call 41; refine (sign_any _ _ h0 HT.out).mono ?_; rintro e w' ⟨rfl, rfl⟩))
    go_ret3
    exact ⟨ret_tk 0 0 1 (by unfold tokT; rw [H0.out, if_pos ha]) rfl rfl rfl, rfl⟩
  · have HA := Lib.hid (show ¬ allowedB (at' (suf s 0) 0) = false from by rw [H0.out, ha]; decide)
    cases hl : letterB s[0].toNat
    · have HL := Lib.hid (show ¬ letterB (at' (suf s 0) 0) = true from by rw [H0.out, hl]; decide)
      cases hd : digitB s[0].toNat
      · have HD := Lib.hid (show ¬ digitB (at' (suf s 0) 0) = true from by rw [H0.out, hd]; decide)
        by_cases h34 : s[0].toNat = 34
        · have g34 : ((s[0].toNat : Int) == 34) = true := beq_yes h34
          have H34 := Lib.hid (show at' (suf s 0) 0 = 34 from by rw [H0.out, h34])
          clear h34
          go_enter Try.func26, Try.ntmps26
          go_wp2_with (first | (go_at_call 34; refine (allowed_any _ _).mono ?_; rintro e w' ⟨rfl, rfl⟩) | (go_at_call 36; refine (letter_any _ _).mono ?_; rintro e w' ⟨rfl, rfl⟩) | (go_at_call 38; refine (digit_any _ _).mono ?_; rintro e w' ⟨rfl, rfl⟩) | (go_at_call 37; refine (word_any _ _ h0 HS.out).mono ?_; rintro e w' ⟨rfl, rfl⟩) | (go_at_call 39; refine (number_any _ _ h0 HT.out).mono ?_; rintro e w' ⟨rfl, rfl⟩) | (go_at_call 40; refine (quoted_any _ _ h0 HT.out).mono ?_; rintro e w' ⟨rfl, rfl⟩) | (go_at_call 41; refine (sign_any _ _ h0 HT.out).mono ?_; rintro e w' ⟨rfl, rfl⟩))
          go_ret3
          exact ⟨ret_tk _ _ _ (show tokT (suf s 0) = quotT 1 (suf s 1) from by unfold tokT; rw [if_neg HA.out, if_neg HL.out, if_neg HD.out, if_pos H34.out, suf_one]) rfl rfl rfl, rfl⟩
        · have g34 : ((s[0].toNat : Int) == 34) = false := beq_no h34
          have H34 := Lib.hid (show ¬ at' (suf s 0) 0 = 34 from by rw [H0.out]; exact h34)
          clear h34
          go_enter Try.func26, Try.ntmps26
          go_wp2_with (first | (go_at_call 34; refine (allowed_any _ _).mono ?_; rintro e w' ⟨rfl, rfl⟩) | (go_at_call 36; refine (letter_any _ _).mono ?_; rintro e w' ⟨rfl, rfl⟩) | (go_at_call 38; refine (digit_any _ _).mono ?_; rintro e w' ⟨rfl, rfl⟩) | (go_at_call 37; refine (word_any _ _ h0 HS.out).mono ?_; rintro e w' ⟨rfl, rfl⟩) | (go_at_call 39; refine (number_any _ _ h0 HT.out).mono ?_; rintro e w' ⟨rfl, rfl⟩) | (go_at_call 40; refine (quoted_any _ _ h0 HT.out).mono ?_; rintro e w' ⟨rfl, rfl⟩) | (go_at_call 41; refine (sign_any _ _ h0 HT.out).mono ?_; rintro e w' ⟨rfl, rfl⟩))
          go_ret3
          exact ⟨ret_tk _ _ _ (show tokT (suf s 0) = signT (suf s 0) from by unfold tokT; rw [if_neg HA.out, if_neg HL.out, if_neg HD.out, if_neg H34.out]) rfl rfl rfl, rfl⟩
      · have HD := Lib.hid (show digitB (at' (suf s 0) 0) = true from by rw [H0.out, hd])
        go_enter Try.func26, Try.ntmps26
        go_wp2_with (first | (go_at_call 34; refine (allowed_any _ _).mono ?_; rintro e w' ⟨rfl, rfl⟩) | (go_at_call 36; refine (letter_any _ _).mono ?_; rintro e w' ⟨rfl, rfl⟩) | (go_at_call 38; refine (digit_any _ _).mono ?_; rintro e w' ⟨rfl, rfl⟩) | (go_at_call 37; refine (word_any _ _ h0 HS.out).mono ?_; rintro e w' ⟨rfl, rfl⟩) | (go_at_call 39; refine (number_any _ _ h0 HT.out).mono ?_; rintro e w' ⟨rfl, rfl⟩) | (go_at_call 40; refine (quoted_any _ _ h0 HT.out).mono ?_; rintro e w' ⟨rfl, rfl⟩) | (go_at_call 41; refine (sign_any _ _ h0 HT.out).mono ?_; rintro e w' ⟨rfl, rfl⟩))
        go_ret3
        exact ⟨ret_tk _ _ _ (show tokT (suf s 0) = numT (suf s 0) from by unfold tokT; rw [if_neg HA.out, if_neg HL.out, if_pos HD.out]) rfl rfl rfl, rfl⟩
    · have HL := Lib.hid (show letterB (at' (suf s 0) 0) = true from by rw [H0.out, hl])
      go_enter Try.func26, Try.ntmps26
      go_wp2_with (first | (go_at_call 34; refine (allowed_any _ _).mono ?_; rintro e w' ⟨rfl, rfl⟩) | (go_at_call 36; refine (letter_any _ _).mono ?_; rintro e w' ⟨rfl, rfl⟩) | (go_at_call 38; refine (digit_any _ _).mono ?_; rintro e w' ⟨rfl, rfl⟩) | (go_at_call 37; refine (word_any _ _ h0 HS.out).mono ?_; rintro e w' ⟨rfl, rfl⟩) | (go_at_call 39; refine (number_any _ _ h0 HT.out).mono ?_; rintro e w' ⟨rfl, rfl⟩) | (go_at_call 40; refine (quoted_any _ _ h0 HT.out).mono ?_; rintro e w' ⟨rfl, rfl⟩) | (go_at_call 41; refine (sign_any _ _ h0 HT.out).mono ?_; rintro e w' ⟨rfl, rfl⟩))
      go_ret3
      exact ⟨ret_tk _ _ _ (show tokT (suf s 0) = wordT (suf s 0) from by unfold tokT; rw [if_neg HA.out, if_pos HL.out]) rfl rfl rfl, rfl⟩
end Go.Proofs.Ytopnimajlgpdeaa
