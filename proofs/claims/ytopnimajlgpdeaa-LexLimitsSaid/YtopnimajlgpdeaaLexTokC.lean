/- The contracts of lex.sign, qualified, word and token. Conditions: lengths that a machine can hold; a first byte where the code reads one. -/
import Derived.Test.YtopnimajlgpdeaaLexTokB
namespace Go.Proofs.Ytopnimajlgpdeaa
open Go.RowKit
theorem signLen_two (s : ByteArray) (h0 : 0 < s.size) (h : s[0].toNat = 61) (h1 : 1 < s.size) (h2 : s[1].toNat = 61) : signT (suf s 0) = ⟨8, 2, 0⟩ := by
  have : signLen (suf s 0) = 2 := by unfold signLen; rw [at_zero s 0 h0, if_pos h, at_zero s 1 h1, if_pos h2]
  unfold signT
  rw [this, if_neg (by decide)]
theorem signLen_eq (s : ByteArray) (h0 : 0 < s.size) (h : s[0].toNat = 61) (h1 : ∀ h : 1 < s.size, s[1].toNat ≠ 61) : signT (suf s 0) = ⟨8, 1, 0⟩ := by
  have : signLen (suf s 0) = 1 := by
    unfold signLen
    rw [at_zero s 0 h0, if_pos h]
    by_cases h2 : 1 < s.size
    · rw [at_zero s 1 h2, if_neg (h1 h2)]
    · unfold at'
      rw [List.getD_eq_getElem?_getD, List.getElem?_eq_none (by rw [suf_length]; omega)]
      decide
  unfold signT
  rw [this, if_neg (by decide)]
theorem signLen_one (s : ByteArray) (h0 : 0 < s.size) (h : s[0].toNat ≠ 61) (h1 : oneSign s[0].toNat = true) : signT (suf s 0) = ⟨8, 1, 0⟩ := by
  have : signLen (suf s 0) = 1 := by unfold signLen; rw [at_zero s 0 h0, if_neg h, if_pos h1]
  unfold signT
  rw [this, if_neg (by decide)]
theorem signLen_none (s : ByteArray) (h0 : 0 < s.size) (h : s[0].toNat ≠ 61) (h1 : oneSign s[0].toNat = false) : signT (suf s 0) = ⟨0, 0, 2⟩ := by
  have : signLen (suf s 0) = 0 := by unfold signLen; rw [at_zero s 0 h0, if_neg h, if_neg (by simp [h1])]
  unfold signT
  rw [this, if_pos rfl]
set_option maxHeartbeats 400000 in
theorem sign_any (s : ByteArray) (w : World) (h0 : 0 < s.size) (_hs : s.size ≤ maxLen) :
    Calls Try.prog 41 #[.string s] w fun e w' => e = .returned (.tuple #[.int .i64 (signT (suf s 0)).kind, .int .i64 (signT (suf s 0)).n, .int .i64 (signT (suf s 0)).e]) ∧ w = w' := by
  by_cases h61 : s[0].toNat = 61
  · have g61 : ((s[0].toNat : Int) == 61) = true := beq_yes h61
    have H61 := Lib.hid h61
    clear h61
    by_cases h1 : 1 < s.size
    · by_cases h2 : s[1].toNat = 61
      · have g2 : ((s[1].toNat : Int) == 61) = true := beq_yes h2
        have H2 := Lib.hid h2
        clear h2
        go_enter Try.func41, Try.ntmps41
        go_wp2
        go_ret3
        exact ⟨ret_tk 8 2 0 (signLen_two s h0 H61.out h1 H2.out) rfl rfl rfl, rfl⟩
      · have g2 : ((s[1].toNat : Int) == 61) = false := beq_no h2
        have H2 := Lib.hid h2
        clear h2
        go_enter Try.func41, Try.ntmps41
        go_wp2
        go_ret3
        exact ⟨ret_tk 8 1 0 (signLen_eq s h0 H61.out (fun _ => H2.out)) rfl rfl rfl, rfl⟩
    · go_enter Try.func41, Try.ntmps41
      go_wp2
      go_ret3
      exact ⟨ret_tk 8 1 0 (signLen_eq s h0 H61.out (fun h => absurd h h1)) rfl rfl rfl, rfl⟩
  · have g61 : ((s[0].toNat : Int) == 61) = false := beq_no h61
    have H61 := Lib.hid h61
    clear h61
    cases ho : oneSign s[0].toNat
    · have H1 := Lib.hid ho
      simp only [oneSign, Bool.or_eq_false_iff, and_assoc] at ho
      obtain ⟨a1, a2, a3, a4, a5, a6, a7, a8, a9, a10, a11⟩ := ho
      go_enter Try.func41, Try.ntmps41
      go_wp2
      go_ret3
      exact ⟨ret_tk 0 0 2 (signLen_none s h0 H61.out H1.out) rfl rfl rfl, rfl⟩
    · have H1 := Lib.hid ho
      clear ho
      go_enter Try.func41, Try.ntmps41
      go_wp2
      all_goals
        first
          | (go_ret3
             exact ⟨ret_tk 8 1 0 (signLen_one s h0 H61.out H1.out) rfl rfl rfl, rfl⟩)
          | (exfalso; have := H1.out; simp_all [oneSign])
theorem wordLength_from (s : ByteArray) (a : Nat) (w : World) (hs : s.size ≤ maxLen) :
    Calls Try.prog 51 #[.string (s.extract a s.size)] w fun e w' => e = .returned (.int .i64 (wordLen (suf s a) : Nat)) ∧ w = w' := by
  rw [← suf_to_end s a]
  exact wordLength_any _ w (by rw [ByteArray.size_extract]; omega)
theorem reserved_from (s : ByteArray) (a m : Nat) (w : World) :
    Calls Try.prog 52 #[.string ((s.extract a s.size).extract 0 m)] w fun e w' => e = .returned (.bool (reservedB ((suf s a).take m))) ∧ w = w' := by
  have h := reserved_any ((s.extract a s.size).extract 0 m) w
  rw [suf_extract, suf_to_end] at h
  exact h
theorem wordLen_le (s : ByteArray) (a : Nat) : wordLen (suf s a) ≤ s.size - a := by
  have := runLen_le wordB (suf s a)
  rw [suf_length] at this
  exact this
theorem at_drop (s : ByteArray) (a k : Nat) : at' (suf s a) k = at' (suf s 0) (a + k) := by
  unfold at' suf
  rw [List.getD_eq_getElem?_getD, List.getD_eq_getElem?_getD, List.getElem?_drop, List.getElem?_drop, Nat.zero_add]
theorem ext_zero (s : ByteArray) (a : Nat) (h : 0 < (s.extract a s.size).size) : (s.extract a s.size)[0].toNat = at' (suf s 0) a := by
  rw [← at_zero _ 0 h, suf_to_end, at_drop]
  rfl
theorem ext_size (s : ByteArray) (a : Nat) (h : a < s.size) : 0 < (s.extract a s.size).size := by
  rw [ByteArray.size_extract]
  omega
section
variable (s : ByteArray) (n : Nat)
theorem qual_long (h : 24 < n ∨ 24 < wordLen (suf s (n + 1))) : qualT (suf s 0) n = ⟨0, 0, 3⟩ := by
  unfold qualT
  rw [suf_drop, Nat.zero_add, if_pos h]
theorem qual_res (h : ¬ (24 < n ∨ 24 < wordLen (suf s (n + 1)))) (hr : reservedB ((suf s (n + 1)).take (wordLen (suf s (n + 1)))) = true) : qualT (suf s 0) n = ⟨0, 0, 2⟩ := by
  unfold qualT
  rw [suf_drop, Nat.zero_add, if_neg h, if_pos hr]
theorem qual_up (h : ¬ (24 < n ∨ 24 < wordLen (suf s (n + 1)))) (hr : reservedB ((suf s (n + 1)).take (wordLen (suf s (n + 1)))) = false) (h0 : n + 1 < s.size)
    (hu : upperB ((s.extract (n + 1) s.size)[0]'(ext_size s _ h0)).toNat = true) : qualT (suf s 0) n = ⟨4, n + 1 + wordLen (suf s (n + 1)), 0⟩ := by
  rw [ext_zero s (n + 1) (ext_size s _ h0)] at hu
  unfold qualT
  rw [suf_drop, Nat.zero_add, if_neg h, if_neg (by simp [hr]), if_pos hu]
theorem qual_low (h : ¬ (24 < n ∨ 24 < wordLen (suf s (n + 1)))) (hr : reservedB ((suf s (n + 1)).take (wordLen (suf s (n + 1)))) = false) (h0 : n + 1 < s.size)
    (hu : upperB ((s.extract (n + 1) s.size)[0]'(ext_size s _ h0)).toNat = false) : qualT (suf s 0) n = ⟨3, n + 1 + wordLen (suf s (n + 1)), 0⟩ := by
  rw [ext_zero s (n + 1) (ext_size s _ h0)] at hu
  unfold qualT
  rw [suf_drop, Nat.zero_add, if_neg h, if_neg (by simp [hr]), if_neg (by simp [hu])]
end
set_option maxHeartbeats 400000 in
theorem qualified_any (s : ByteArray) (n : Nat) (w : World) (h0 : n + 1 < s.size) (hs : s.size ≤ maxLen) :
    Calls Try.prog 53 #[.string s, .int .i64 n] w fun e w' => e = .returned (.tuple #[.int .i64 (qualT (suf s 0) n).kind, .int .i64 (qualT (suf s 0) n).n, .int .i64 (qualT (suf s 0) n).e]) ∧ w = w' := by
  have HS := Lib.hid hs
  have hm := wordLen_le s (n + 1)
  unfold maxLen at hs
  go_enter Try.func53, Try.ntmps53
  go_wp2_with (first | (go_at_call 51; refine (wordLength_from _ _ _ HS.out).mono ?_; rintro e w' ⟨rfl, rfl⟩) | (go_at_call 52; refine (reserved_from _ _ _ _).mono ?_; rintro e w' ⟨rfl, rfl⟩) | (go_at_call 50; refine (upper_any _ _).mono ?_; rintro e w' ⟨rfl, rfl⟩))
  all_goals
    go_ret3
    first
      | exact ⟨ret_tk 0 0 3 (qual_long s n (by omega)) rfl rfl rfl, rfl⟩
      | exact ⟨ret_tk 0 0 2 (qual_res s n (by omega) (by assumption)) rfl rfl rfl, rfl⟩
      | exact ⟨ret_tk 4 (n + 1 + wordLen (suf s (n + 1))) 0 (qual_up s n (by omega) (by assumption) h0 (by assumption)) rfl (by omega) rfl, rfl⟩
      | exact ⟨ret_tk 3 (n + 1 + wordLen (suf s (n + 1))) 0 (qual_low s n (by omega) (by assumption) h0 (by assumption)) rfl (by omega) rfl, rfl⟩
end Go.Proofs.Ytopnimajlgpdeaa
