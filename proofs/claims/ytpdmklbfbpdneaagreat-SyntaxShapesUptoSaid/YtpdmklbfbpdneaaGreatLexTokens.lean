/- The contracts of token and of all below it. -/
import Derived.Test.YtpdmklbfbpdneaaGreatLexPlain
import Derived.Test.YtpdmklbfbpdneaaGreatLexSmall
namespace Go.Proofs.YtpdmklbfbpdneaaGreat
open Go.RowKit
theorem suf_zero (s : ByteArray) : suf s 0 = s.toList := by
  unfold suf
  rw [ByteArray.toList_eq]
  rfl
theorem ret_tk {t : Tk} {x y z : Int} (a b c : Nat) (h : t = ⟨a, b, c⟩) (hx : x = a) (hy : y = b) (hz : z = c) : Ending.returned (.tuple #[.int .i64 x, .int .i64 y, .int .i64 z]) = .returned (.tuple #[.int .i64 t.kind, .int .i64 t.n, .int .i64 t.e]) := by
  subst h hx hy hz
  rfl
theorem ret_int {a b : Int} (h : a = b) : Ending.returned (.int .i64 a) = .returned (.int .i64 b) := by rw [h]
theorem at_zero (s : ByteArray) (k : Nat) (h : k < s.size) : at' (suf s 0) k = s[k].toNat := by
  rw [at_suf s 0 k (by omega)]
  simp
theorem reserved_any (s : ByteArray) (w : World) : Calls Tryz.prog 158 #[.string s] w fun e w' => e = .returned (.bool (reservedB (suf s 0))) ∧ w = w' := by
  go_enter Tryz.func158, Tryz.ntmps158
  go_wp2
  all_goals
    go_ret
    exact ⟨ret_bool (by rw [suf_zero]; simp_all [reservedB, reservedWords]), rfl⟩
set_option maxHeartbeats 400000 in
theorem wordLength_any (s : ByteArray) (w : World) (hs : s.size ≤ maxLen) :
    Calls Tryz.prog 157 #[.string s] w fun e w' => e = .returned (.int .i64 (wordLen (suf s 0) : Nat)) ∧ w = w' := by
  unfold maxLen at hs
  have hst := Lib.hid (RunAt.start wordB s 0 (Nat.zero_le _))
  go_enter Tryz.func157, Tryz.ntmps157
  go_wp2
  go_loop [3] (fun a => ∃ (k : Nat), k ≤ s.size ∧ a = .int .i64 k ∧ RunAt wordB s 0 k) (fun a => s.size - (intOf a).toNat)
  case atStart => exact ⟨0, Nat.zero_le _, rfl, hst.out⟩
  case round =>
    obtain ⟨k, hk, rfl, hrel⟩ := hrel
    have HR := Lib.hid hrel
    clear hrel hst
    by_cases hlt : k < s.size
    · have HW := Lib.hid (show wordB s[k].toNat = (letterB s[k].toNat || digitB s[k].toNat || (s[k].toNat : Int) == 95) from rfl)
      cases hl : letterB s[k].toNat
      · cases hd : digitB s[k].toNat
        · cases h95 : ((s[k].toNat : Int) == 95)
          · go_wp2_with (first | (go_at_call 122; refine (letter_any _ _).mono ?_; rintro e w' ⟨rfl, rfl⟩) | (go_at_call 124; refine (digit_any _ _).mono ?_; rintro e w' ⟨rfl, rfl⟩))
            go_ret
            have h1 := HR.out.stop hlt (by rw [HW.out, hl, hd, h95]; rfl)
            exact ⟨ret_int (by unfold wordLen; omega), rfl⟩
          · go_wp2_with (first | (go_at_call 122; refine (letter_any _ _).mono ?_; rintro e w' ⟨rfl, rfl⟩) | (go_at_call 124; refine (digit_any _ _).mono ?_; rintro e w' ⟨rfl, rfl⟩))
            go_round
            case rel => exact ⟨k + 1, by omega, by go_num, HR.out.next hlt (by rw [HW.out, hl, hd, h95]; rfl)⟩
            case measure => simp [intOf]; omega
        · go_wp2_with (first | (go_at_call 122; refine (letter_any _ _).mono ?_; rintro e w' ⟨rfl, rfl⟩) | (go_at_call 124; refine (digit_any _ _).mono ?_; rintro e w' ⟨rfl, rfl⟩))
          go_round
          case rel => exact ⟨k + 1, by omega, by go_num, HR.out.next hlt (by rw [HW.out, hl, hd]; rfl)⟩
          case measure => simp [intOf]; omega
      · go_wp2_with (first | (go_at_call 122; refine (letter_any _ _).mono ?_; rintro e w' ⟨rfl, rfl⟩) | (go_at_call 124; refine (digit_any _ _).mono ?_; rintro e w' ⟨rfl, rfl⟩))
        go_round
        case rel => exact ⟨k + 1, by omega, by go_num, HR.out.next hlt (by rw [HW.out, hl]; rfl)⟩
        case measure => simp [intOf]; omega
    · go_wp2
      go_ret
      have h1 := HR.out.done hlt
      exact ⟨ret_int (by unfold wordLen; omega), rfl⟩
set_option maxHeartbeats 400000 in
theorem number_any (s : ByteArray) (w : World) (h0 : 0 < s.size) (hs : s.size ≤ maxLen) :
    Calls Tryz.prog 125 #[.string s] w fun e w' => e = .returned (.tuple #[.int .i64 (numT (suf s 0)).kind, .int .i64 (numT (suf s 0)).n, .int .i64 (numT (suf s 0)).e]) ∧ w = w' := by
  unfold maxLen at hs
  have hst := Lib.hid (RunAt.start digitB s 0 (Nat.zero_le _))
  have H0 := Lib.hid (at_zero s 0 h0)
  go_enter Tryz.func125, Tryz.ntmps125
  go_wp2
  go_loop [3] (fun a => ∃ (k : Nat), k ≤ s.size ∧ a = .int .i64 k ∧ RunAt digitB s 0 k) (fun a => s.size - (intOf a).toNat)
  case atStart => exact ⟨0, Nat.zero_le _, rfl, hst.out⟩
  case round =>
    obtain ⟨k, hk, rfl, hrel⟩ := hrel
    have HR := Lib.hid hrel
    clear hrel hst
    by_cases hgo : ∃ h : k < s.size, digitB s[k].toNat = true
    · obtain ⟨hlt, hd⟩ := hgo
      go_wp2_with (first | (go_at_call 122; refine (letter_any _ _).mono ?_; rintro e w' ⟨rfl, rfl⟩) | (go_at_call 124; refine (digit_any _ _).mono ?_; rintro e w' ⟨rfl, rfl⟩))
      go_round
      case rel => exact ⟨k + 1, by omega, by go_num, HR.out.next hlt hd⟩
      case measure => simp [intOf]; omega
    · have HN : Hid (numLen (suf s 0) = k) := by
        unfold numLen
        by_cases hlt : k < s.size
        · have := HR.out.stop hlt (by simpa using fun h => hgo ⟨hlt, h⟩)
          exact Lib.hid (by omega)
        · have := HR.out.done hlt
          exact Lib.hid (by omega)
      by_cases h1 : 1 < k
      · by_cases h48 : s[0].toNat = 48
        · have h48' : ((s[0].toNat : Int) == 48) = true := by simp [h48]
          have H48 := Lib.hid h48
          clear h48
          by_cases hlt : k < s.size
          all_goals
            first | (have hd : digitB s[k].toNat = false := by simpa using fun h => hgo ⟨hlt, h⟩) | skip
            clear hgo
            go_wp2_with (first | (go_at_call 122; refine (letter_any _ _).mono ?_; rintro e w' ⟨rfl, rfl⟩) | (go_at_call 124; refine (digit_any _ _).mono ?_; rintro e w' ⟨rfl, rfl⟩))
            go_ret3
            exact ⟨ret_tk 0 0 2 (by unfold numT; rw [if_pos ⟨by rw [HN.out]; exact h1, by rw [H0.out, H48.out]⟩]) rfl rfl rfl, rfl⟩
        · have h48' : ((s[0].toNat : Int) == 48) = false := by simp; omega
          have H48 := Lib.hid h48
          clear h48
          have HE := Lib.hid (show ¬ (1 < numLen (suf s 0) ∧ at' (suf s 0) 0 = 48) from fun h => H48.out (by rw [← H0.out]; exact h.2))
          by_cases h15 : 15 < k
          all_goals
            by_cases hlt : k < s.size
            all_goals
              first | (have hd : digitB s[k].toNat = false := by simpa using fun h => hgo ⟨hlt, h⟩) | skip
              clear hgo
              go_wp2_with (first | (go_at_call 122; refine (letter_any _ _).mono ?_; rintro e w' ⟨rfl, rfl⟩) | (go_at_call 124; refine (digit_any _ _).mono ?_; rintro e w' ⟨rfl, rfl⟩))
              go_ret3
              first
                | exact ⟨ret_tk 0 0 3 (by unfold numT; rw [if_neg HE.out, HN.out, if_pos h15]) rfl rfl rfl, rfl⟩
                | exact ⟨ret_tk 5 k 0 (by unfold numT; rw [if_neg HE.out, HN.out, if_neg h15]) rfl rfl rfl, rfl⟩
      · have HE := Lib.hid (show ¬ (1 < numLen (suf s 0) ∧ at' (suf s 0) 0 = 48) from fun h => h1 (by rw [← HN.out]; exact h.1))
        by_cases hlt : k < s.size
        all_goals
          first | (have hd : digitB s[k].toNat = false := by simpa using fun h => hgo ⟨hlt, h⟩) | skip
          clear hgo
          go_wp2_with (first | (go_at_call 122; refine (letter_any _ _).mono ?_; rintro e w' ⟨rfl, rfl⟩) | (go_at_call 124; refine (digit_any _ _).mono ?_; rintro e w' ⟨rfl, rfl⟩))
          go_ret3
          exact ⟨ret_tk 5 k 0 (by unfold numT; rw [if_neg HE.out, HN.out, if_neg (by omega)]) rfl rfl rfl, rfl⟩
end Go.Proofs.YtpdmklbfbpdneaaGreat
namespace Go.Proofs.YtpdmklbfbpdneaaGreat
open Go.RowKit
/-- A string that begins at a is read up to k. -/
def QuotAt (s : ByteArray) (a k : Nat) : Prop := a + 1 ≤ k ∧ k ≤ s.size ∧ quotT 1 (suf s (a + 1)) = quotT (k - a) (suf s k)
theorem QuotAt.start (s : ByteArray) (a : Nat) (h : a < s.size) : QuotAt s a (a + 1) := ⟨Nat.le_refl _, h, by rw [show a + 1 - a = 1 from by omega]⟩
section
variable {s : ByteArray} {a k : Nat}
theorem QuotAt.done (h : QuotAt s a k) (hk : ¬ k < s.size) : quotT 1 (suf s (a + 1)) = ⟨0, 0, 2⟩ := by
  rw [h.2.2, suf_end s k (by omega), quotT]
theorem QuotAt.close (h : QuotAt s a k) (hk : k < s.size) (hc : s[k].toNat = 34) : quotT 1 (suf s (a + 1)) = ⟨6, k - a + 1, 0⟩ := by
  rw [h.2.2, suf_cons s k hk, quotT, if_pos hc]
theorem QuotAt.stop (h : QuotAt s a k) (hk : k < s.size) (h34 : s[k].toNat ≠ 34) (hc : s[k].toNat = 92 ∨ s[k].toNat = 9 ∨ s[k].toNat = 10 ∨ s[k].toNat = 13) : quotT 1 (suf s (a + 1)) = ⟨0, 0, 2⟩ := by
  rw [h.2.2, suf_cons s k hk, quotT, if_neg h34, if_pos hc]
theorem QuotAt.bad (h : QuotAt s a k) (hk : k < s.size) (h34 : s[k].toNat ≠ 34) (hc : ¬ (s[k].toNat = 92 ∨ s[k].toNat = 9 ∨ s[k].toNat = 10 ∨ s[k].toNat = 13)) (ha : allowedB s[k].toNat = false) : quotT 1 (suf s (a + 1)) = ⟨0, k - a, 1⟩ := by
  rw [h.2.2, suf_cons s k hk, quotT, if_neg h34, if_neg hc, if_neg (by simp [ha])]
theorem QuotAt.next (h : QuotAt s a k) (hk : k < s.size) (h34 : s[k].toNat ≠ 34) (hc : ¬ (s[k].toNat = 92 ∨ s[k].toNat = 9 ∨ s[k].toNat = 10 ∨ s[k].toNat = 13)) (ha : allowedB s[k].toNat = true) : QuotAt s a (k + 1) := by
  refine ⟨by have := h.1; omega, by omega, ?_⟩
  rw [h.2.2, suf_cons s k hk, quotT, if_neg h34, if_neg hc, if_pos ha, show k - a + 1 = k + 1 - a from by have := h.1; omega]
end
theorem beq_yes {n m : Nat} (h : n = m) : ((n : Int) == (m : Int)) = true := by simp [h]
theorem beq_no {n m : Nat} (h : n ≠ m) : ((n : Int) == (m : Int)) = false := by simp; omega
set_option maxHeartbeats 400000 in
theorem quoted_any (s : ByteArray) (w : World) (h0 : 0 < s.size) (hs : s.size ≤ maxLen) :
    Calls Tryz.prog 126 #[.string s] w fun e w' => e = .returned (.tuple #[.int .i64 (quotT 1 (suf s 1)).kind, .int .i64 (quotT 1 (suf s 1)).n, .int .i64 (quotT 1 (suf s 1)).e]) ∧ w = w' := by
  unfold maxLen at hs
  have hst := Lib.hid (QuotAt.start s 0 h0)
  go_enter Tryz.func126, Tryz.ntmps126
  go_wp2
  go_loop [5] (fun a => ∃ (k : Nat), 1 ≤ k ∧ k ≤ s.size ∧ a = .int .i64 k ∧ QuotAt s 0 k) (fun a => s.size - (intOf a).toNat)
  case atStart => exact ⟨1, Nat.le_refl _, h0, rfl, hst.out⟩
  case round =>
    obtain ⟨k, h1, hk, rfl, hrel⟩ := hrel
    have HR := Lib.hid hrel
    clear hrel hst
    by_cases hlt : k < s.size
    · by_cases h34 : s[k].toNat = 34
      · have g34 : ((s[k].toNat : Int) == 34) = true := beq_yes h34
        have H34 := Lib.hid h34
        clear h34
        go_wp2
        go_ret3
        exact ⟨ret_tk 6 (k + 1) 0 (HR.out.close hlt H34.out) rfl (by omega) rfl, rfl⟩
      · have g34 : ((s[k].toNat : Int) == 34) = false := beq_no h34
        have H34 := Lib.hid h34
        clear h34
        by_cases hstop : s[k].toNat = 92 ∨ s[k].toNat = 9 ∨ s[k].toNat = 10 ∨ s[k].toNat = 13
        · have HS := Lib.hid hstop
          rcases hstop with h | h | h | h
          · have g1 : ((s[k].toNat : Int) == 92) = true := beq_yes h
            clear h
            go_wp2
            go_ret3
            exact ⟨ret_tk 0 0 2 (HR.out.stop hlt H34.out HS.out) rfl rfl rfl, rfl⟩
          · have g1 : ((s[k].toNat : Int) == 92) = false := beq_no (m := 92) (by omega)
            have g2 : ((s[k].toNat : Int) == 9) = true := beq_yes h
            clear h
            go_wp2
            go_ret3
            exact ⟨ret_tk 0 0 2 (HR.out.stop hlt H34.out HS.out) rfl rfl rfl, rfl⟩
          · have g1 : ((s[k].toNat : Int) == 92) = false := beq_no (m := 92) (by omega)
            have g2 : ((s[k].toNat : Int) == 9) = false := beq_no (m := 9) (by omega)
            have g3 : ((s[k].toNat : Int) == 10) = true := beq_yes h
            clear h
            go_wp2
            go_ret3
            exact ⟨ret_tk 0 0 2 (HR.out.stop hlt H34.out HS.out) rfl rfl rfl, rfl⟩
          · have g1 : ((s[k].toNat : Int) == 92) = false := beq_no (m := 92) (by omega)
            have g2 : ((s[k].toNat : Int) == 9) = false := beq_no (m := 9) (by omega)
            have g3 : ((s[k].toNat : Int) == 10) = false := beq_no (m := 10) (by omega)
            have g4 : ((s[k].toNat : Int) == 13) = true := beq_yes h
            clear h
            go_wp2
            go_ret3
            exact ⟨ret_tk 0 0 2 (HR.out.stop hlt H34.out HS.out) rfl rfl rfl, rfl⟩
        · have g1 : ((s[k].toNat : Int) == 92) = false := beq_no (fun h => hstop (.inl h))
          have g2 : ((s[k].toNat : Int) == 9) = false := beq_no (fun h => hstop (.inr (.inl h)))
          have g3 : ((s[k].toNat : Int) == 10) = false := beq_no (fun h => hstop (.inr (.inr (.inl h))))
          have g4 : ((s[k].toNat : Int) == 13) = false := beq_no (fun h => hstop (.inr (.inr (.inr h))))
          have HS := Lib.hid hstop
          clear hstop
          cases ha : allowedB s[k].toNat
          · go_wp2_with (go_at_call 120; refine (allowed_any _ _).mono ?_; rintro e w' ⟨rfl, rfl⟩)
            go_ret3
            exact ⟨ret_tk 0 k 1 (HR.out.bad hlt H34.out HS.out ha) rfl (by omega) rfl, rfl⟩
          · go_wp2_with (go_at_call 120; refine (allowed_any _ _).mono ?_; rintro e w' ⟨rfl, rfl⟩)
            go_round
            case rel => exact ⟨k + 1, by omega, by omega, by go_num, HR.out.next hlt H34.out HS.out ha⟩
            case measure => simp [intOf]; omega
    · go_wp2
      go_ret3
      exact ⟨ret_tk 0 0 2 (HR.out.done hlt) rfl rfl rfl, rfl⟩
end Go.Proofs.YtpdmklbfbpdneaaGreat
namespace Go.Proofs.YtpdmklbfbpdneaaGreat
open Go.RowKit
theorem signLen_two (s : ByteArray) (h0 : 0 < s.size) (h : s[0].toNat = 61) (h1 : 1 < s.size) (h2 : s[1].toNat = 61) : signT (suf s 0) = ⟨8, 2, 0⟩ := by
  have : signLen (suf s 0) = 2 := by unfold signLen; rw [at_zero s 0 h0, if_pos h, at_zero s 1 h1, if_pos h2]
  unfold signT
  rw [this, if_neg (by decide)]
theorem signLen_eq (s : ByteArray) (h0 : 0 < s.size) (h : s[0].toNat = 61) (h1 : ∀ h : 1 < s.size, s[1].toNat ≠ 61) : signT (suf s 0) = ⟨8, 1, 0⟩ := by
  have : signLen (suf s 0) = 1 := by
    unfold signLen
    rw [at_zero s 0 h0, if_pos h]
    by_cases h2 : 1 < s.size
    · rw [at_zero s 1 h2, if_neg (h1 h2)]
    · unfold at'
      rw [List.getD_eq_getElem?_getD, List.getElem?_eq_none (by rw [suf_length]; omega)]
      decide
  unfold signT
  rw [this, if_neg (by decide)]
theorem signLen_one (s : ByteArray) (h0 : 0 < s.size) (h : s[0].toNat ≠ 61) (h1 : oneSign s[0].toNat = true) : signT (suf s 0) = ⟨8, 1, 0⟩ := by
  have : signLen (suf s 0) = 1 := by unfold signLen; rw [at_zero s 0 h0, if_neg h, if_pos h1]
  unfold signT
  rw [this, if_neg (by decide)]
theorem signLen_none (s : ByteArray) (h0 : 0 < s.size) (h : s[0].toNat ≠ 61) (h1 : oneSign s[0].toNat = false) : signT (suf s 0) = ⟨0, 0, 2⟩ := by
  have : signLen (suf s 0) = 0 := by unfold signLen; rw [at_zero s 0 h0, if_neg h, if_neg (by simp [h1])]
  unfold signT
  rw [this, if_pos rfl]
set_option maxHeartbeats 400000 in
theorem sign_any (s : ByteArray) (w : World) (h0 : 0 < s.size) (_hs : s.size ≤ maxLen) :
    Calls Tryz.prog 127 #[.string s] w fun e w' => e = .returned (.tuple #[.int .i64 (signT (suf s 0)).kind, .int .i64 (signT (suf s 0)).n, .int .i64 (signT (suf s 0)).e]) ∧ w = w' := by
  by_cases h61 : s[0].toNat = 61
  · have g61 : ((s[0].toNat : Int) == 61) = true := beq_yes h61
    have H61 := Lib.hid h61
    clear h61
    by_cases h1 : 1 < s.size
    · by_cases h2 : s[1].toNat = 61
      · have g2 : ((s[1].toNat : Int) == 61) = true := beq_yes h2
        have H2 := Lib.hid h2
        clear h2
        go_enter Tryz.func127, Tryz.ntmps127
        go_wp2
        go_ret3
        exact ⟨ret_tk 8 2 0 (signLen_two s h0 H61.out h1 H2.out) rfl rfl rfl, rfl⟩
      · have g2 : ((s[1].toNat : Int) == 61) = false := beq_no h2
        have H2 := Lib.hid h2
        clear h2
        go_enter Tryz.func127, Tryz.ntmps127
        go_wp2
        go_ret3
        exact ⟨ret_tk 8 1 0 (signLen_eq s h0 H61.out (fun _ => H2.out)) rfl rfl rfl, rfl⟩
    · go_enter Tryz.func127, Tryz.ntmps127
      go_wp2
      go_ret3
      exact ⟨ret_tk 8 1 0 (signLen_eq s h0 H61.out (fun h => absurd h h1)) rfl rfl rfl, rfl⟩
  · have g61 : ((s[0].toNat : Int) == 61) = false := beq_no h61
    have H61 := Lib.hid h61
    clear h61
    cases ho : oneSign s[0].toNat
    · have H1 := Lib.hid ho
      simp only [oneSign, Bool.or_eq_false_iff, and_assoc] at ho
      obtain ⟨a1, a2, a3, a4, a5, a6, a7, a8, a9, a10, a11⟩ := ho
      go_enter Tryz.func127, Tryz.ntmps127
      go_wp2
      go_ret3
      exact ⟨ret_tk 0 0 2 (signLen_none s h0 H61.out H1.out) rfl rfl rfl, rfl⟩
    · have H1 := Lib.hid ho
      clear ho
      go_enter Tryz.func127, Tryz.ntmps127
      go_wp2
      all_goals
        first
          | (go_ret3
             exact ⟨ret_tk 8 1 0 (signLen_one s h0 H61.out H1.out) rfl rfl rfl, rfl⟩)
          | (exfalso; have := H1.out; simp_all [oneSign])
theorem wordLength_from (s : ByteArray) (a : Nat) (w : World) (hs : s.size ≤ maxLen) :
    Calls Tryz.prog 157 #[.string (s.extract a s.size)] w fun e w' => e = .returned (.int .i64 (wordLen (suf s a) : Nat)) ∧ w = w' := by
  rw [← suf_to_end s a]
  exact wordLength_any _ w (by rw [ByteArray.size_extract]; omega)
theorem reserved_from (s : ByteArray) (a m : Nat) (w : World) :
    Calls Tryz.prog 158 #[.string ((s.extract a s.size).extract 0 m)] w fun e w' => e = .returned (.bool (reservedB ((suf s a).take m))) ∧ w = w' := by
  have h := reserved_any ((s.extract a s.size).extract 0 m) w
  rw [suf_extract, suf_to_end] at h
  exact h
theorem wordLen_le (s : ByteArray) (a : Nat) : wordLen (suf s a) ≤ s.size - a := by
  have := runLen_le wordB (suf s a)
  rw [suf_length] at this
  exact this
theorem at_drop (s : ByteArray) (a k : Nat) : at' (suf s a) k = at' (suf s 0) (a + k) := by
  unfold at' suf
  rw [List.getD_eq_getElem?_getD, List.getD_eq_getElem?_getD, List.getElem?_drop, List.getElem?_drop, Nat.zero_add]
theorem ext_zero (s : ByteArray) (a : Nat) (h : 0 < (s.extract a s.size).size) : (s.extract a s.size)[0].toNat = at' (suf s 0) a := by
  rw [← at_zero _ 0 h, suf_to_end, at_drop]
  rfl
theorem ext_size (s : ByteArray) (a : Nat) (h : a < s.size) : 0 < (s.extract a s.size).size := by
  rw [ByteArray.size_extract]
  omega
section
variable (s : ByteArray) (n : Nat)
theorem qual_long (h : 24 < n ∨ 24 < wordLen (suf s (n + 1))) : qualT (suf s 0) n = ⟨0, 0, 3⟩ := by
  unfold qualT
  rw [suf_drop, Nat.zero_add, if_pos h]
theorem qual_res (h : ¬ (24 < n ∨ 24 < wordLen (suf s (n + 1)))) (hr : reservedB ((suf s (n + 1)).take (wordLen (suf s (n + 1)))) = true) : qualT (suf s 0) n = ⟨0, 0, 2⟩ := by
  unfold qualT
  rw [suf_drop, Nat.zero_add, if_neg h, if_pos hr]
theorem qual_up (h : ¬ (24 < n ∨ 24 < wordLen (suf s (n + 1)))) (hr : reservedB ((suf s (n + 1)).take (wordLen (suf s (n + 1)))) = false) (h0 : n + 1 < s.size)
    (hu : upperB ((s.extract (n + 1) s.size)[0]'(ext_size s _ h0)).toNat = true) : qualT (suf s 0) n = ⟨4, n + 1 + wordLen (suf s (n + 1)), 0⟩ := by
  rw [ext_zero s (n + 1) (ext_size s _ h0)] at hu
  unfold qualT
  rw [suf_drop, Nat.zero_add, if_neg h, if_neg (by simp [hr]), if_pos hu]
theorem qual_low (h : ¬ (24 < n ∨ 24 < wordLen (suf s (n + 1)))) (hr : reservedB ((suf s (n + 1)).take (wordLen (suf s (n + 1)))) = false) (h0 : n + 1 < s.size)
    (hu : upperB ((s.extract (n + 1) s.size)[0]'(ext_size s _ h0)).toNat = false) : qualT (suf s 0) n = ⟨3, n + 1 + wordLen (suf s (n + 1)), 0⟩ := by
  rw [ext_zero s (n + 1) (ext_size s _ h0)] at hu
  unfold qualT
  rw [suf_drop, Nat.zero_add, if_neg h, if_neg (by simp [hr]), if_neg (by simp [hu])]
end
set_option maxHeartbeats 400000 in
theorem qualified_any (s : ByteArray) (n : Nat) (w : World) (h0 : n + 1 < s.size) (hs : s.size ≤ maxLen) :
    Calls Tryz.prog 159 #[.string s, .int .i64 n] w fun e w' => e = .returned (.tuple #[.int .i64 (qualT (suf s 0) n).kind, .int .i64 (qualT (suf s 0) n).n, .int .i64 (qualT (suf s 0) n).e]) ∧ w = w' := by
  have HS := Lib.hid hs
  have hm := wordLen_le s (n + 1)
  unfold maxLen at hs
  go_enter Tryz.func159, Tryz.ntmps159
  go_wp2_with (first | (go_at_call 157; refine (wordLength_from _ _ _ HS.out).mono ?_; rintro e w' ⟨rfl, rfl⟩) | (go_at_call 158; refine (reserved_from _ _ _ _).mono ?_; rintro e w' ⟨rfl, rfl⟩) | (go_at_call 156; refine (upper_any _ _).mono ?_; rintro e w' ⟨rfl, rfl⟩))
  all_goals
    go_ret3
    first
      | exact ⟨ret_tk 0 0 3 (qual_long s n (by omega)) rfl rfl rfl, rfl⟩
      | exact ⟨ret_tk 0 0 2 (qual_res s n (by omega) (by assumption)) rfl rfl rfl, rfl⟩
      | exact ⟨ret_tk 4 (n + 1 + wordLen (suf s (n + 1))) 0 (qual_up s n (by omega) (by assumption) h0 (by assumption)) rfl (by omega) rfl, rfl⟩
      | exact ⟨ret_tk 3 (n + 1 + wordLen (suf s (n + 1))) 0 (qual_low s n (by omega) (by assumption) h0 (by assumption)) rfl (by omega) rfl, rfl⟩
end Go.Proofs.YtpdmklbfbpdneaaGreat
namespace Go.Proofs.YtpdmklbfbpdneaaGreat
open Go.RowKit
theorem reserved_take (s : ByteArray) (m : Nat) (w : World) :
    Calls Tryz.prog 158 #[.string (s.extract 0 m)] w fun e w' => e = .returned (.bool (reservedB ((suf s 0).take m))) ∧ w = w' := by
  have h := reserved_any (s.extract 0 m) w
  rw [suf_extract, Nat.sub_zero] at h
  exact h
theorem wordT_plain {l : List UInt8} (h : dotted l = false) : wordT l = plainT l := by
  unfold wordT
  rw [if_neg (by simp [h])]
section
variable {l : List UInt8}
theorem plain_long (h : 24 < wordLen l) : plainT l = ⟨0, 0, 3⟩ := by
  unfold plainT
  rw [if_pos h]
theorem plain_res (h : ¬ 24 < wordLen l) (hr : reservedB (l.take (wordLen l)) = true) : plainT l = ⟨7, wordLen l, 0⟩ := by
  unfold plainT
  rw [if_neg h, if_pos hr]
theorem plain_up (h : ¬ 24 < wordLen l) (hr : reservedB (l.take (wordLen l)) = false) (hu : upperB (at' l 0) = true) : plainT l = ⟨2, wordLen l, 0⟩ := by
  unfold plainT
  rw [if_neg h, if_neg (by simp [hr]), if_pos hu]
theorem plain_low (h : ¬ 24 < wordLen l) (hr : reservedB (l.take (wordLen l)) = false) (hu : upperB (at' l 0) = false) : plainT l = ⟨1, wordLen l, 0⟩ := by
  unfold plainT
  rw [if_neg h, if_neg (by simp [hr]), if_neg (by simp [hu])]
end
set_option maxHeartbeats 1000000 in
theorem word_any (s : ByteArray) (w : World) (h0 : 0 < s.size) (hs : s.size < maxLen) :
    Calls Tryz.prog 123 #[.string s] w fun e w' => e = .returned (.tuple #[.int .i64 (wordT (suf s 0)).kind, .int .i64 (wordT (suf s 0)).n, .int .i64 (wordT (suf s 0)).e]) ∧ w = w' := by
  have HS := Lib.hid (Nat.le_of_lt hs)
  have hm := wordLen_le s 0
  have H0 := Lib.hid (at_zero s 0 h0)
  have HL := Lib.hid (suf_length s 0)
  have HD := Lib.hid (show dotted (suf s 0) = (upperB (at' (suf s 0) 0) && !reservedB ((suf s 0).take (wordLen (suf s 0))) && decide (wordLen (suf s 0) + 1 < (suf s 0).length) && at' (suf s 0) (wordLen (suf s 0)) == 46 && letterB (at' (suf s 0) (wordLen (suf s 0) + 1))) from rfl)
  unfold maxLen at hs
  cases hu : upperB s[0].toNat
  · cases hr : reservedB ((suf s 0).take (wordLen (suf s 0)))
    all_goals
      have HP := Lib.hid (wordT_plain (show dotted (suf s 0) = false from by rw [HD.out, H0.out, hu]; rfl))
      by_cases h24 : 24 < wordLen (suf s 0)
      all_goals
        go_enter Tryz.func123, Tryz.ntmps123
        go_wp2_with (first | (go_at_call 157; refine (wordLength_any _ _ HS.out).mono ?_; rintro e w' ⟨rfl, rfl⟩) | (go_at_call 158; refine (reserved_take _ _ _).mono ?_; rintro e w' ⟨rfl, rfl⟩) | (go_at_call 156; refine (upper_any _ _).mono ?_; rintro e w' ⟨rfl, rfl⟩) | (go_at_call 122; refine (letter_any _ _).mono ?_; rintro e w' ⟨rfl, rfl⟩) | (go_at_call 159; refine (qualified_any _ _ _ hn HS.out).mono ?_; rintro e w' ⟨rfl, rfl⟩))
        go_ret3
        first
          | exact ⟨ret_tk 0 0 3 (HP.out.trans (plain_long h24)) rfl rfl rfl, rfl⟩
          | exact ⟨ret_tk 7 (wordLen (suf s 0)) 0 (HP.out.trans (plain_res h24 hr)) rfl rfl rfl, rfl⟩
          | exact ⟨ret_tk 2 (wordLen (suf s 0)) 0 (HP.out.trans (plain_up h24 hr (by rw [H0.out]; exact hu))) rfl rfl rfl, rfl⟩
          | exact ⟨ret_tk 1 (wordLen (suf s 0)) 0 (HP.out.trans (plain_low h24 hr (by rw [H0.out]; exact hu))) rfl rfl rfl, rfl⟩

  · cases hr : reservedB ((suf s 0).take (wordLen (suf s 0)))
    · by_cases hn : wordLen (suf s 0) + 1 < s.size
      · have hn' : ((wordLen (suf s 0) : Nat) : Int) + 1 < (s.size : Int) := by omega
        by_cases h46 : s[wordLen (suf s 0)].toNat = 46
        · have g46 : ((s[wordLen (suf s 0)].toNat : Int) == 46) = true := beq_yes h46
          have H46 := Lib.hid h46
          clear h46
          cases hl : letterB s[wordLen (suf s 0) + 1].toNat
          · have HP := Lib.hid (wordT_plain (show dotted (suf s 0) = false from by rw [HD.out, at_zero s (wordLen (suf s 0) + 1) hn, hl]; simp))
            by_cases h24 : 24 < wordLen (suf s 0)
            all_goals
              go_enter Tryz.func123, Tryz.ntmps123
              go_wp2_with (first | (go_at_call 157; refine (wordLength_any _ _ HS.out).mono ?_; rintro e w' ⟨rfl, rfl⟩) | (go_at_call 158; refine (reserved_take _ _ _).mono ?_; rintro e w' ⟨rfl, rfl⟩) | (go_at_call 156; refine (upper_any _ _).mono ?_; rintro e w' ⟨rfl, rfl⟩) | (go_at_call 122; refine (letter_any _ _).mono ?_; rintro e w' ⟨rfl, rfl⟩) | (go_at_call 159; refine (qualified_any _ _ _ hn HS.out).mono ?_; rintro e w' ⟨rfl, rfl⟩))
              go_ret3
              first
                | exact ⟨ret_tk 0 0 3 (HP.out.trans (plain_long h24)) rfl rfl rfl, rfl⟩
                | exact ⟨ret_tk 7 (wordLen (suf s 0)) 0 (HP.out.trans (plain_res h24 hr)) rfl rfl rfl, rfl⟩
                | exact ⟨ret_tk 2 (wordLen (suf s 0)) 0 (HP.out.trans (plain_up h24 hr (by rw [H0.out]; exact hu))) rfl rfl rfl, rfl⟩
                | exact ⟨ret_tk 1 (wordLen (suf s 0)) 0 (HP.out.trans (plain_low h24 hr (by rw [H0.out]; exact hu))) rfl rfl rfl, rfl⟩

          · have HT := Lib.hid (show wordT (suf s 0) = qualT (suf s 0) (wordLen (suf s 0)) from by
              unfold wordT
              rw [if_pos (by rw [HD.out, HL.out, H0.out, hu, hr, at_zero s _ (by omega), H46.out, at_zero s _ hn, hl]; simpa using hn)])
            go_enter Tryz.func123, Tryz.ntmps123
            go_wp2_with (first | (go_at_call 157; refine (wordLength_any _ _ HS.out).mono ?_; rintro e w' ⟨rfl, rfl⟩) | (go_at_call 158; refine (reserved_take _ _ _).mono ?_; rintro e w' ⟨rfl, rfl⟩) | (go_at_call 156; refine (upper_any _ _).mono ?_; rintro e w' ⟨rfl, rfl⟩) | (go_at_call 122; refine (letter_any _ _).mono ?_; rintro e w' ⟨rfl, rfl⟩) | (go_at_call 159; refine (qualified_any _ _ _ hn HS.out).mono ?_; rintro e w' ⟨rfl, rfl⟩))
            go_ret3
            exact ⟨ret_tk _ _ _ HT.out rfl rfl rfl, rfl⟩
        · have g46 : ((s[wordLen (suf s 0)].toNat : Int) == 46) = false := beq_no h46
          have H47 := Lib.hid h46
          clear h46
          have HP := Lib.hid (wordT_plain (show dotted (suf s 0) = false from by rw [HD.out, at_zero s (wordLen (suf s 0)) (by omega), beq_eq_false_iff_ne.2 H47.out]; simp))
          by_cases h24 : 24 < wordLen (suf s 0)
          all_goals
            go_enter Tryz.func123, Tryz.ntmps123
            go_wp2_with (first | (go_at_call 157; refine (wordLength_any _ _ HS.out).mono ?_; rintro e w' ⟨rfl, rfl⟩) | (go_at_call 158; refine (reserved_take _ _ _).mono ?_; rintro e w' ⟨rfl, rfl⟩) | (go_at_call 156; refine (upper_any _ _).mono ?_; rintro e w' ⟨rfl, rfl⟩) | (go_at_call 122; refine (letter_any _ _).mono ?_; rintro e w' ⟨rfl, rfl⟩) | (go_at_call 159; refine (qualified_any _ _ _ hn HS.out).mono ?_; rintro e w' ⟨rfl, rfl⟩))
            go_ret3
            first
              | exact ⟨ret_tk 0 0 3 (HP.out.trans (plain_long h24)) rfl rfl rfl, rfl⟩
              | exact ⟨ret_tk 7 (wordLen (suf s 0)) 0 (HP.out.trans (plain_res h24 hr)) rfl rfl rfl, rfl⟩
              | exact ⟨ret_tk 2 (wordLen (suf s 0)) 0 (HP.out.trans (plain_up h24 hr (by rw [H0.out]; exact hu))) rfl rfl rfl, rfl⟩
              | exact ⟨ret_tk 1 (wordLen (suf s 0)) 0 (HP.out.trans (plain_low h24 hr (by rw [H0.out]; exact hu))) rfl rfl rfl, rfl⟩

      · have hn' : ¬ ((wordLen (suf s 0) : Nat) : Int) + 1 < (s.size : Int) := by omega
        have HP := Lib.hid (wordT_plain (show dotted (suf s 0) = false from by rw [HD.out, HL.out, Nat.sub_zero, decide_eq_false hn]; simp))
        by_cases h24 : 24 < wordLen (suf s 0)
        all_goals
          go_enter Tryz.func123, Tryz.ntmps123
          go_wp2_with (first | (go_at_call 157; refine (wordLength_any _ _ HS.out).mono ?_; rintro e w' ⟨rfl, rfl⟩) | (go_at_call 158; refine (reserved_take _ _ _).mono ?_; rintro e w' ⟨rfl, rfl⟩) | (go_at_call 156; refine (upper_any _ _).mono ?_; rintro e w' ⟨rfl, rfl⟩) | (go_at_call 122; refine (letter_any _ _).mono ?_; rintro e w' ⟨rfl, rfl⟩) | (go_at_call 159; refine (qualified_any _ _ _ hn HS.out).mono ?_; rintro e w' ⟨rfl, rfl⟩))
          go_ret3
          first
            | exact ⟨ret_tk 0 0 3 (HP.out.trans (plain_long h24)) rfl rfl rfl, rfl⟩
            | exact ⟨ret_tk 7 (wordLen (suf s 0)) 0 (HP.out.trans (plain_res h24 hr)) rfl rfl rfl, rfl⟩
            | exact ⟨ret_tk 2 (wordLen (suf s 0)) 0 (HP.out.trans (plain_up h24 hr (by rw [H0.out]; exact hu))) rfl rfl rfl, rfl⟩
            | exact ⟨ret_tk 1 (wordLen (suf s 0)) 0 (HP.out.trans (plain_low h24 hr (by rw [H0.out]; exact hu))) rfl rfl rfl, rfl⟩

    · have HP := Lib.hid (wordT_plain (show dotted (suf s 0) = false from by rw [HD.out, hr]; simp))
      by_cases h24 : 24 < wordLen (suf s 0)
      all_goals
        go_enter Tryz.func123, Tryz.ntmps123
        go_wp2_with (first | (go_at_call 157; refine (wordLength_any _ _ HS.out).mono ?_; rintro e w' ⟨rfl, rfl⟩) | (go_at_call 158; refine (reserved_take _ _ _).mono ?_; rintro e w' ⟨rfl, rfl⟩) | (go_at_call 156; refine (upper_any _ _).mono ?_; rintro e w' ⟨rfl, rfl⟩) | (go_at_call 122; refine (letter_any _ _).mono ?_; rintro e w' ⟨rfl, rfl⟩) | (go_at_call 159; refine (qualified_any _ _ _ hn HS.out).mono ?_; rintro e w' ⟨rfl, rfl⟩))
        go_ret3
        first
          | exact ⟨ret_tk 0 0 3 (HP.out.trans (plain_long h24)) rfl rfl rfl, rfl⟩
          | exact ⟨ret_tk 7 (wordLen (suf s 0)) 0 (HP.out.trans (plain_res h24 hr)) rfl rfl rfl, rfl⟩
          | exact ⟨ret_tk 2 (wordLen (suf s 0)) 0 (HP.out.trans (plain_up h24 hr (by rw [H0.out]; exact hu))) rfl rfl rfl, rfl⟩
          | exact ⟨ret_tk 1 (wordLen (suf s 0)) 0 (HP.out.trans (plain_low h24 hr (by rw [H0.out]; exact hu))) rfl rfl rfl, rfl⟩

theorem suf_one (s : ByteArray) : (suf s 0).drop 1 = suf s 1 := by rw [suf_drop]
set_option maxHeartbeats 400000 in
theorem token_any (s : ByteArray) (w : World) (h0 : 0 < s.size) (hs : s.size < maxLen) :
    Calls Tryz.prog 80 #[.string s] w fun e w' => e = .returned (.tuple #[.int .i64 (tokT (suf s 0)).kind, .int .i64 (tokT (suf s 0)).n, .int .i64 (tokT (suf s 0)).e]) ∧ w = w' := by
  have HS := Lib.hid hs
  have HT := Lib.hid (Nat.le_of_lt hs)
  have H0 := Lib.hid (at_zero s 0 h0)
  unfold maxLen at hs
  cases ha : allowedB s[0].toNat
  · go_enter Tryz.func80, Tryz.ntmps80
    go_wp2_with (first | (go_at_call 120; refine (allowed_any _ _).mono ?_; rintro e w' ⟨rfl, rfl⟩) | (go_at_call 122; refine (letter_any _ _).mono ?_; rintro e w' ⟨rfl, rfl⟩) | (go_at_call 124; refine (digit_any _ _).mono ?_; rintro e w' ⟨rfl, rfl⟩) | (go_at_call 123; refine (word_any _ _ h0 HS.out).mono ?_; rintro e w' ⟨rfl, rfl⟩) | (go_at_call 125; refine (number_any _ _ h0 HT.out).mono ?_; rintro e w' ⟨rfl, rfl⟩) | (go_at_call 126; refine (quoted_any _ _ h0 HT.out).mono ?_; rintro e w' ⟨rfl, rfl⟩) | (go_at_call 127; refine (sign_any _ _ h0 HT.out).mono ?_; rintro e w' ⟨rfl, rfl⟩))
    go_ret3
    exact ⟨ret_tk 0 0 1 (by unfold tokT; rw [H0.out, if_pos ha]) rfl rfl rfl, rfl⟩
  · have HA := Lib.hid (show ¬ allowedB (at' (suf s 0) 0) = false from by rw [H0.out, ha]; decide)
    cases hl : letterB s[0].toNat
    · have HL := Lib.hid (show ¬ letterB (at' (suf s 0) 0) = true from by rw [H0.out, hl]; decide)
      cases hd : digitB s[0].toNat
      · have HD := Lib.hid (show ¬ digitB (at' (suf s 0) 0) = true from by rw [H0.out, hd]; decide)
        by_cases h34 : s[0].toNat = 34
        · have g34 : ((s[0].toNat : Int) == 34) = true := beq_yes h34
          have H34 := Lib.hid (show at' (suf s 0) 0 = 34 from by rw [H0.out, h34])
          clear h34
          go_enter Tryz.func80, Tryz.ntmps80
          go_wp2_with (first | (go_at_call 120; refine (allowed_any _ _).mono ?_; rintro e w' ⟨rfl, rfl⟩) | (go_at_call 122; refine (letter_any _ _).mono ?_; rintro e w' ⟨rfl, rfl⟩) | (go_at_call 124; refine (digit_any _ _).mono ?_; rintro e w' ⟨rfl, rfl⟩) | (go_at_call 123; refine (word_any _ _ h0 HS.out).mono ?_; rintro e w' ⟨rfl, rfl⟩) | (go_at_call 125; refine (number_any _ _ h0 HT.out).mono ?_; rintro e w' ⟨rfl, rfl⟩) | (go_at_call 126; refine (quoted_any _ _ h0 HT.out).mono ?_; rintro e w' ⟨rfl, rfl⟩) | (go_at_call 127; refine (sign_any _ _ h0 HT.out).mono ?_; rintro e w' ⟨rfl, rfl⟩))
          go_ret3
          exact ⟨ret_tk _ _ _ (show tokT (suf s 0) = quotT 1 (suf s 1) from by unfold tokT; rw [if_neg HA.out, if_neg HL.out, if_neg HD.out, if_pos H34.out, suf_one]) rfl rfl rfl, rfl⟩
        · have g34 : ((s[0].toNat : Int) == 34) = false := beq_no h34
          have H34 := Lib.hid (show ¬ at' (suf s 0) 0 = 34 from by rw [H0.out]; exact h34)
          clear h34
          go_enter Tryz.func80, Tryz.ntmps80
          go_wp2_with (first | (go_at_call 120; refine (allowed_any _ _).mono ?_; rintro e w' ⟨rfl, rfl⟩) | (go_at_call 122; refine (letter_any _ _).mono ?_; rintro e w' ⟨rfl, rfl⟩) | (go_at_call 124; refine (digit_any _ _).mono ?_; rintro e w' ⟨rfl, rfl⟩) | (go_at_call 123; refine (word_any _ _ h0 HS.out).mono ?_; rintro e w' ⟨rfl, rfl⟩) | (go_at_call 125; refine (number_any _ _ h0 HT.out).mono ?_; rintro e w' ⟨rfl, rfl⟩) | (go_at_call 126; refine (quoted_any _ _ h0 HT.out).mono ?_; rintro e w' ⟨rfl, rfl⟩) | (go_at_call 127; refine (sign_any _ _ h0 HT.out).mono ?_; rintro e w' ⟨rfl, rfl⟩))
          go_ret3
          exact ⟨ret_tk _ _ _ (show tokT (suf s 0) = signT (suf s 0) from by unfold tokT; rw [if_neg HA.out, if_neg HL.out, if_neg HD.out, if_neg H34.out]) rfl rfl rfl, rfl⟩
      · have HD := Lib.hid (show digitB (at' (suf s 0) 0) = true from by rw [H0.out, hd])
        go_enter Tryz.func80, Tryz.ntmps80
        go_wp2_with (first | (go_at_call 120; refine (allowed_any _ _).mono ?_; rintro e w' ⟨rfl, rfl⟩) | (go_at_call 122; refine (letter_any _ _).mono ?_; rintro e w' ⟨rfl, rfl⟩) | (go_at_call 124; refine (digit_any _ _).mono ?_; rintro e w' ⟨rfl, rfl⟩) | (go_at_call 123; refine (word_any _ _ h0 HS.out).mono ?_; rintro e w' ⟨rfl, rfl⟩) | (go_at_call 125; refine (number_any _ _ h0 HT.out).mono ?_; rintro e w' ⟨rfl, rfl⟩) | (go_at_call 126; refine (quoted_any _ _ h0 HT.out).mono ?_; rintro e w' ⟨rfl, rfl⟩) | (go_at_call 127; refine (sign_any _ _ h0 HT.out).mono ?_; rintro e w' ⟨rfl, rfl⟩))
        go_ret3
        exact ⟨ret_tk _ _ _ (show tokT (suf s 0) = numT (suf s 0) from by unfold tokT; rw [if_neg HA.out, if_neg HL.out, if_pos HD.out]) rfl rfl rfl, rfl⟩
    · have HL := Lib.hid (show letterB (at' (suf s 0) 0) = true from by rw [H0.out, hl])
      go_enter Tryz.func80, Tryz.ntmps80
      go_wp2_with (first | (go_at_call 120; refine (allowed_any _ _).mono ?_; rintro e w' ⟨rfl, rfl⟩) | (go_at_call 122; refine (letter_any _ _).mono ?_; rintro e w' ⟨rfl, rfl⟩) | (go_at_call 124; refine (digit_any _ _).mono ?_; rintro e w' ⟨rfl, rfl⟩) | (go_at_call 123; refine (word_any _ _ h0 HS.out).mono ?_; rintro e w' ⟨rfl, rfl⟩) | (go_at_call 125; refine (number_any _ _ h0 HT.out).mono ?_; rintro e w' ⟨rfl, rfl⟩) | (go_at_call 126; refine (quoted_any _ _ h0 HT.out).mono ?_; rintro e w' ⟨rfl, rfl⟩) | (go_at_call 127; refine (sign_any _ _ h0 HT.out).mono ?_; rintro e w' ⟨rfl, rfl⟩))
      go_ret3
      exact ⟨ret_tk _ _ _ (show tokT (suf s 0) = wordT (suf s 0) from by unfold tokT; rw [if_neg HA.out, if_pos HL.out]) rfl rfl rfl, rfl⟩
end Go.Proofs.YtpdmklbfbpdneaaGreat
