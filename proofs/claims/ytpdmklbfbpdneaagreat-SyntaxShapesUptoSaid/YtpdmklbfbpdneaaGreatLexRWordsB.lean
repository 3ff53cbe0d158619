/- The contract of the reference's words: the word or qualified word that begins at a place. Conditions: a letter stands there, and lengths that a machine can hold. -/
import Derived.Test.YtpdmklbfbpdneaaGreatLexRWords
namespace Go.Proofs.YtpdmklbfbpdneaaGreat
open Go.RowKit
section
variable (s : ByteArray) (a n : Nat)
theorem part_size (b m : Nat) (h : b < s.size) (hm : 0 < m) : 0 < (s.extract b (b + m)).size := by
  rw [ByteArray.size_extract]
  omega
theorem q_up2 (h : ¬ (24 < n ∨ 24 < wordLen (suf s (a + n + 1)))) (hr : reservedB ((suf s (a + n + 1)).take (wordLen (suf s (a + n + 1)))) = false) (hn : a + n + 1 < s.size) (hp : 0 < wordLen (suf s (a + n + 1)))
    (hu : upperB ((s.extract (a + n + 1) (a + n + 1 + wordLen (suf s (a + n + 1))))[0]'(part_size s _ _ hn hp)).toNat = true) : qualT (suf s a) n = ⟨4, n + 1 + wordLen (suf s (a + n + 1)), 0⟩ :=
  q_up s a n h hr (by rwa [part_zero _ _ _ (part_size s _ _ hn hp)] at hu)
theorem q_low2 (h : ¬ (24 < n ∨ 24 < wordLen (suf s (a + n + 1)))) (hr : reservedB ((suf s (a + n + 1)).take (wordLen (suf s (a + n + 1)))) = false) (hn : a + n + 1 < s.size) (hp : 0 < wordLen (suf s (a + n + 1)))
    (hu : upperB ((s.extract (a + n + 1) (a + n + 1 + wordLen (suf s (a + n + 1))))[0]'(part_size s _ _ hn hp)).toNat = false) : qualT (suf s a) n = ⟨3, n + 1 + wordLen (suf s (a + n + 1)), 0⟩ :=
  q_low s a n h hr (by rwa [part_zero _ _ _ (part_size s _ _ hn hp)] at hu)
end
set_option maxHeartbeats 1000000 in
theorem words_q1 (s : ByteArray) (a : Nat) (w : World) (h0 : a < s.size) (hl : letterB s[a].toNat = true) (hs : s.size < maxLen) (hu : upperB s[a].toNat = true) (hr : reservedB ((suf s a).take (wordLen (suf s a))) = false) (hn : a + wordLen (suf s a) + 1 < s.size) (h46 : s[a + wordLen (suf s a)].toNat = 46) (hz : letterB s[a + wordLen (suf s a) + 1].toNat = true) (h24 : 24 < wordLen (suf s a)) :
    Calls Tryz.prog 166 #[.string s, .int .i64 a] w (WordsPost s a w) := by
  have HS := Lib.hid (Nat.le_of_lt hs)
  have hm := wordLen_le s a
  have HL := Lib.hid hl
  have H0 := Lib.hid (at_here s a h0)
  have HD := Lib.hid (dotted_eq s a h0)
  clear hl
  unfold maxLen at hs
  have hn' : (a : Int) + (wordLen (suf s a) : Nat) + 1 < (s.size : Int) := by omega
  have g46 : ((s[a + wordLen (suf s a)].toNat : Int) == 46) = true := beq_yes h46
  have hp := wordLen_pos hn hz
  have hm2 := wordLen_le s (a + wordLen (suf s a) + 1)
  have HZ := Lib.hid hz
  have HT := Lib.hid (show wordT (suf s a) = qualT (suf s a) (wordLen (suf s a)) from by
    unfold wordT
    rw [if_pos (by rw [HD.out, hu, hr, at_suf s a _ (by omega), h46, at_two, at_here s (a + wordLen (suf s a) + 1) hn, hz]; simpa using hn)])
  clear h46 hz
  have HQ := Lib.hid (HT.out.trans (q_long s a _ (.inl h24)))
  go_enter Tryz.func166, Tryz.ntmps166
  go_wp2_with (first | (go_at_call 177; ((with_reducible refine (rword_here _ _ _ h0 HL.out HS.out).mono ?_); rintro e w' ⟨rfl, rfl⟩)) | (go_at_call 178; refine (rreserved_part _ _ _ _).mono ?_; rintro e w' ⟨rfl, rfl⟩) | (go_at_call 165; refine (rupper_any _ _).mono ?_; rintro e w' ⟨rfl, rfl⟩) | (go_at_call 177; ((with_reducible refine (rword_yes _ _ _ _ hn HZ.out HS.out).mono ?_); rintro e w' ⟨rfl, rfl⟩)))
  all_goals
    exact bodyPost_ret (v := .agg #[.int .i64 0, .int .i64 0, .int .i64 3, .int .i64 a]) (by simp [results, Tryz.results166, go_sem]) rfl ⟨ret_err 0 2 HQ.out rfl (by omega), (Below.refl _ _).alloc (Nat.le_refl _) _⟩
set_option maxHeartbeats 1000000 in
theorem words_q2 (s : ByteArray) (a : Nat) (w : World) (h0 : a < s.size) (hl : letterB s[a].toNat = true) (hs : s.size < maxLen) (hu : upperB s[a].toNat = true) (hr : reservedB ((suf s a).take (wordLen (suf s a))) = false) (hn : a + wordLen (suf s a) + 1 < s.size) (h46 : s[a + wordLen (suf s a)].toNat = 46) (hz : letterB s[a + wordLen (suf s a) + 1].toNat = true) (h24 : 24 < wordLen (suf s (a + wordLen (suf s a) + 1))) :
    Calls Tryz.prog 166 #[.string s, .int .i64 a] w (WordsPost s a w) := by
  have HS := Lib.hid (Nat.le_of_lt hs)
  have hm := wordLen_le s a
  have HL := Lib.hid hl
  have H0 := Lib.hid (at_here s a h0)
  have HD := Lib.hid (dotted_eq s a h0)
  clear hl
  unfold maxLen at hs
  have hn' : (a : Int) + (wordLen (suf s a) : Nat) + 1 < (s.size : Int) := by omega
  have g46 : ((s[a + wordLen (suf s a)].toNat : Int) == 46) = true := beq_yes h46
  have hp := wordLen_pos hn hz
  have hm2 := wordLen_le s (a + wordLen (suf s a) + 1)
  have HZ := Lib.hid hz
  have HT := Lib.hid (show wordT (suf s a) = qualT (suf s a) (wordLen (suf s a)) from by
    unfold wordT
    rw [if_pos (by rw [HD.out, hu, hr, at_suf s a _ (by omega), h46, at_two, at_here s (a + wordLen (suf s a) + 1) hn, hz]; simpa using hn)])
  clear h46 hz
  have HQ := Lib.hid (HT.out.trans (q_long s a _ (.inr h24)))
  go_enter Tryz.func166, Tryz.ntmps166
  go_wp2_with (first | (go_at_call 177; ((with_reducible refine (rword_here _ _ _ h0 HL.out HS.out).mono ?_); rintro e w' ⟨rfl, rfl⟩)) | (go_at_call 178; refine (rreserved_part _ _ _ _).mono ?_; rintro e w' ⟨rfl, rfl⟩) | (go_at_call 165; refine (rupper_any _ _).mono ?_; rintro e w' ⟨rfl, rfl⟩) | (go_at_call 177; ((with_reducible refine (rword_yes _ _ _ _ hn HZ.out HS.out).mono ?_); rintro e w' ⟨rfl, rfl⟩)))
  all_goals
    exact bodyPost_ret (v := .agg #[.int .i64 0, .int .i64 0, .int .i64 3, .int .i64 a]) (by simp [results, Tryz.results166, go_sem]) rfl ⟨ret_err 0 2 HQ.out rfl (by omega), (Below.refl _ _).alloc (Nat.le_refl _) _⟩
set_option maxHeartbeats 1000000 in
theorem words_q3 (s : ByteArray) (a : Nat) (w : World) (h0 : a < s.size) (hl : letterB s[a].toNat = true) (hs : s.size < maxLen) (hu : upperB s[a].toNat = true) (hr : reservedB ((suf s a).take (wordLen (suf s a))) = false) (hn : a + wordLen (suf s a) + 1 < s.size) (h46 : s[a + wordLen (suf s a)].toNat = 46) (hz : letterB s[a + wordLen (suf s a) + 1].toNat = true) (h24 : ¬ (24 < wordLen (suf s a) ∨ 24 < wordLen (suf s (a + wordLen (suf s a) + 1)))) (hr2 : reservedB ((suf s (a + wordLen (suf s a) + 1)).take (wordLen (suf s (a + wordLen (suf s a) + 1)))) = true) :
    Calls Tryz.prog 166 #[.string s, .int .i64 a] w (WordsPost s a w) := by
  have HS := Lib.hid (Nat.le_of_lt hs)
  have hm := wordLen_le s a
  have HL := Lib.hid hl
  have H0 := Lib.hid (at_here s a h0)
  have HD := Lib.hid (dotted_eq s a h0)
  clear hl
  unfold maxLen at hs
  have hn' : (a : Int) + (wordLen (suf s a) : Nat) + 1 < (s.size : Int) := by omega
  have g46 : ((s[a + wordLen (suf s a)].toNat : Int) == 46) = true := beq_yes h46
  have hp := wordLen_pos hn hz
  have hm2 := wordLen_le s (a + wordLen (suf s a) + 1)
  have HZ := Lib.hid hz
  have HT := Lib.hid (show wordT (suf s a) = qualT (suf s a) (wordLen (suf s a)) from by
    unfold wordT
    rw [if_pos (by rw [HD.out, hu, hr, at_suf s a _ (by omega), h46, at_two, at_here s (a + wordLen (suf s a) + 1) hn, hz]; simpa using hn)])
  clear h46 hz
  have h24a : wordLen (suf s a) ≤ 24 := by omega
  have h24b : wordLen (suf s (a + wordLen (suf s a) + 1)) ≤ 24 := by omega
  have H24 := Lib.hid h24
  clear h24
  have HQ := Lib.hid (HT.out.trans (q_res s a _ H24.out hr2))
  go_enter Tryz.func166, Tryz.ntmps166
  go_wp2_with (first | (go_at_call 177; ((with_reducible refine (rword_here _ _ _ h0 HL.out HS.out).mono ?_); rintro e w' ⟨rfl, rfl⟩)) | (go_at_call 178; refine (rreserved_part _ _ _ _).mono ?_; rintro e w' ⟨rfl, rfl⟩) | (go_at_call 165; refine (rupper_any _ _).mono ?_; rintro e w' ⟨rfl, rfl⟩) | (go_at_call 177; ((with_reducible refine (rword_yes _ _ _ _ hn HZ.out HS.out).mono ?_); rintro e w' ⟨rfl, rfl⟩)))
  all_goals
    exact bodyPost_ret (v := .agg #[.int .i64 0, .int .i64 0, .int .i64 2, .int .i64 a]) (by simp [results, Tryz.results166, go_sem]) rfl ⟨ret_err 0 1 HQ.out rfl (by omega), (Below.refl _ _).alloc (Nat.le_refl _) _⟩
set_option maxHeartbeats 1000000 in
theorem words_q4 (s : ByteArray) (a : Nat) (w : World) (h0 : a < s.size) (hl : letterB s[a].toNat = true) (hs : s.size < maxLen) (hu : upperB s[a].toNat = true) (hr : reservedB ((suf s a).take (wordLen (suf s a))) = false) (hn : a + wordLen (suf s a) + 1 < s.size) (h46 : s[a + wordLen (suf s a)].toNat = 46) (hz : letterB s[a + wordLen (suf s a) + 1].toNat = true) (h24 : ¬ (24 < wordLen (suf s a) ∨ 24 < wordLen (suf s (a + wordLen (suf s a) + 1)))) (hr2 : reservedB ((suf s (a + wordLen (suf s a) + 1)).take (wordLen (suf s (a + wordLen (suf s a) + 1)))) = false) (hp0 : 0 < wordLen (suf s (a + wordLen (suf s a) + 1))) (hup : upperB ((s.extract (a + wordLen (suf s a) + 1) (a + wordLen (suf s a) + 1 + wordLen (suf s (a + wordLen (suf s a) + 1))))[0]'(part_size s _ _ hn hp0)).toNat = true) :
    Calls Tryz.prog 166 #[.string s, .int .i64 a] w (WordsPost s a w) := by
  have HS := Lib.hid (Nat.le_of_lt hs)
  have hm := wordLen_le s a
  have HL := Lib.hid hl
  have H0 := Lib.hid (at_here s a h0)
  have HD := Lib.hid (dotted_eq s a h0)
  clear hl
  unfold maxLen at hs
  have hn' : (a : Int) + (wordLen (suf s a) : Nat) + 1 < (s.size : Int) := by omega
  have g46 : ((s[a + wordLen (suf s a)].toNat : Int) == 46) = true := beq_yes h46
  have hp := wordLen_pos hn hz
  have hm2 := wordLen_le s (a + wordLen (suf s a) + 1)
  have HZ := Lib.hid hz
  have HT := Lib.hid (show wordT (suf s a) = qualT (suf s a) (wordLen (suf s a)) from by
    unfold wordT
    rw [if_pos (by rw [HD.out, hu, hr, at_suf s a _ (by omega), h46, at_two, at_here s (a + wordLen (suf s a) + 1) hn, hz]; simpa using hn)])
  clear h46 hz
  have h24a : wordLen (suf s a) ≤ 24 := by omega
  have h24b : wordLen (suf s (a + wordLen (suf s a) + 1)) ≤ 24 := by omega
  have H24 := Lib.hid h24
  clear h24
  go_enter Tryz.func166, Tryz.ntmps166
  go_wp2_with (first | (go_at_call 177; ((with_reducible refine (rword_here _ _ _ h0 HL.out HS.out).mono ?_); rintro e w' ⟨rfl, rfl⟩)) | (go_at_call 178; refine (rreserved_part _ _ _ _).mono ?_; rintro e w' ⟨rfl, rfl⟩) | (go_at_call 165; refine (rupper_any _ _).mono ?_; rintro e w' ⟨rfl, rfl⟩) | (go_at_call 177; ((with_reducible refine (rword_yes _ _ _ _ hn HZ.out HS.out).mono ?_); rintro e w' ⟨rfl, rfl⟩)))
  all_goals
    exact bodyPost_ret (v := .agg #[.int .i64 (((wordLen (suf s a) : Nat) : Int) + 1 + (wordLen (suf s (a + wordLen (suf s a) + 1)) : Nat)), .int .i64 4, .int .i64 0, .int .i64 0]) (by simp [results, Tryz.results166, go_sem]) rfl ⟨ret_ok 4 _ (HT.out.trans (q_up2 s a _ H24.out hr2 hn hp hup)) (by omega) rfl, (Below.refl _ _).alloc (Nat.le_refl _) _⟩
set_option maxHeartbeats 1000000 in
theorem words_q5 (s : ByteArray) (a : Nat) (w : World) (h0 : a < s.size) (hl : letterB s[a].toNat = true) (hs : s.size < maxLen) (hu : upperB s[a].toNat = true) (hr : reservedB ((suf s a).take (wordLen (suf s a))) = false) (hn : a + wordLen (suf s a) + 1 < s.size) (h46 : s[a + wordLen (suf s a)].toNat = 46) (hz : letterB s[a + wordLen (suf s a) + 1].toNat = true) (h24 : ¬ (24 < wordLen (suf s a) ∨ 24 < wordLen (suf s (a + wordLen (suf s a) + 1)))) (hr2 : reservedB ((suf s (a + wordLen (suf s a) + 1)).take (wordLen (suf s (a + wordLen (suf s a) + 1)))) = false) (hp0 : 0 < wordLen (suf s (a + wordLen (suf s a) + 1))) (hup : upperB ((s.extract (a + wordLen (suf s a) + 1) (a + wordLen (suf s a) + 1 + wordLen (suf s (a + wordLen (suf s a) + 1))))[0]'(part_size s _ _ hn hp0)).toNat = false) :
    Calls Tryz.prog 166 #[.string s, .int .i64 a] w (WordsPost s a w) := by
  have HS := Lib.hid (Nat.le_of_lt hs)
  have hm := wordLen_le s a
  have HL := Lib.hid hl
  have H0 := Lib.hid (at_here s a h0)
  have HD := Lib.hid (dotted_eq s a h0)
  clear hl
  unfold maxLen at hs
  have hn' : (a : Int) + (wordLen (suf s a) : Nat) + 1 < (s.size : Int) := by omega
  have g46 : ((s[a + wordLen (suf s a)].toNat : Int) == 46) = true := beq_yes h46
  have hp := wordLen_pos hn hz
  have hm2 := wordLen_le s (a + wordLen (suf s a) + 1)
  have HZ := Lib.hid hz
  have HT := Lib.hid (show wordT (suf s a) = qualT (suf s a) (wordLen (suf s a)) from by
    unfold wordT
    rw [if_pos (by rw [HD.out, hu, hr, at_suf s a _ (by omega), h46, at_two, at_here s (a + wordLen (suf s a) + 1) hn, hz]; simpa using hn)])
  clear h46 hz
  have h24a : wordLen (suf s a) ≤ 24 := by omega
  have h24b : wordLen (suf s (a + wordLen (suf s a) + 1)) ≤ 24 := by omega
  have H24 := Lib.hid h24
  clear h24
  go_enter Tryz.func166, Tryz.ntmps166
  go_wp2_with (first | (go_at_call 177; ((with_reducible refine (rword_here _ _ _ h0 HL.out HS.out).mono ?_); rintro e w' ⟨rfl, rfl⟩)) | (go_at_call 178; refine (rreserved_part _ _ _ _).mono ?_; rintro e w' ⟨rfl, rfl⟩) | (go_at_call 165; refine (rupper_any _ _).mono ?_; rintro e w' ⟨rfl, rfl⟩) | (go_at_call 177; ((with_reducible refine (rword_yes _ _ _ _ hn HZ.out HS.out).mono ?_); rintro e w' ⟨rfl, rfl⟩)))
  all_goals
    exact bodyPost_ret (v := .agg #[.int .i64 (((wordLen (suf s a) : Nat) : Int) + 1 + (wordLen (suf s (a + wordLen (suf s a) + 1)) : Nat)), .int .i64 3, .int .i64 0, .int .i64 0]) (by simp [results, Tryz.results166, go_sem]) rfl ⟨ret_ok 3 _ (HT.out.trans (q_low2 s a _ H24.out hr2 hn hp hup)) (by omega) rfl, (Below.refl _ _).alloc (Nat.le_refl _) _⟩
end Go.Proofs.YtpdmklbfbpdneaaGreat
