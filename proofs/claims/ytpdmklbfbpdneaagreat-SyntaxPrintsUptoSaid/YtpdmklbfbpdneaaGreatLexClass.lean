/- The contract of lex.Class; of the reference's reserved and word. Conditions: lengths that a machine can hold. -/
import Derived.Test.YtpdmklbfbpdneaaGreatLexTokens
import Derived.Test.YtpdmklbfbpdneaaGreatLexPlain
namespace Go.Proofs.YtpdmklbfbpdneaaGreat
open Go.RowKit
theorem suf_nil {s : ByteArray} (h : s.size = 0) : suf s 0 = [] := suf_end s 0 (by omega)
theorem suf_ne {s : ByteArray} (h : 0 < s.size) : suf s 0 ≠ [] := by
  intro e
  have := suf_length s 0
  rw [e] at this
  simp at this
  omega
set_option maxHeartbeats 400000 in
theorem class_any (s : ByteArray) (w : World) (hs : s.size < maxLen) :
    Calls Tryz.prog 100 #[.string s] w fun e w' => e = .returned (.int .i64 (classN (suf s 0))) ∧ w = w' := by
  have HS := Lib.hid hs
  by_cases h0 : 0 < s.size
  · have hne : s.toList.isEmpty = false := by
      have := suf_ne h0
      rw [suf_zero] at this
      simpa using this
    have HN := Lib.hid (suf_ne h0)
    have HL := Lib.hid (suf_length s 0)
    unfold maxLen at hs
    by_cases he : (tokT (suf s 0)).e = 0
    · have he' : (((tokT (suf s 0)).e : Nat) : Int) = 0 := by omega
      by_cases hn : (tokT (suf s 0)).n = s.size
      · have hn' : (((tokT (suf s 0)).n : Nat) : Int) = (s.size : Int) := by omega
        have HC := Lib.hid (show classN (suf s 0) = (tokT (suf s 0)).kind from by unfold classN; rw [if_neg HN.out, if_neg (by rw [HL.out, he, hn]; simp)])
        clear he hn
        go_enter Tryz.func100, Tryz.ntmps100
        go_wp2_with (go_at_call 80; refine (token_any _ _ h0 HS.out).mono ?_; rintro e w' ⟨rfl, rfl⟩)
        go_ret
        exact ⟨ret_int (by rw [HC.out]), rfl⟩
      · have hn' : ¬ (((tokT (suf s 0)).n : Nat) : Int) = (s.size : Int) := by omega
        have HC := Lib.hid (show classN (suf s 0) = 0 from by unfold classN; rw [if_neg HN.out, if_pos (.inr (by rw [HL.out]; exact hn))])
        clear he hn
        go_enter Tryz.func100, Tryz.ntmps100
        go_wp2_with (go_at_call 80; refine (token_any _ _ h0 HS.out).mono ?_; rintro e w' ⟨rfl, rfl⟩)
        go_ret
        exact ⟨ret_int (by rw [HC.out]; rfl), rfl⟩
    · have he' : ¬ (((tokT (suf s 0)).e : Nat) : Int) = 0 := by omega
      have HC := Lib.hid (show classN (suf s 0) = 0 from by unfold classN; rw [if_neg HN.out, if_pos (.inl he)])
      clear he
      go_enter Tryz.func100, Tryz.ntmps100
      go_wp2_with (go_at_call 80; refine (token_any _ _ h0 HS.out).mono ?_; rintro e w' ⟨rfl, rfl⟩)
      go_ret
      exact ⟨ret_int (by rw [HC.out]; rfl), rfl⟩
  · have he : s.toList.isEmpty = true := by rw [← suf_zero, suf_nil (by omega)]; rfl
    have HC := Lib.hid (show classN (suf s 0) = 0 from by rw [suf_nil (by omega)]; rfl)
    go_enter Tryz.func100, Tryz.ntmps100
    go_wp2
    go_ret
    exact ⟨ret_int (by rw [HC.out]; rfl), rfl⟩
theorem rreserved_any (s : ByteArray) (w : World) : Calls Tryz.prog 178 #[.string s] w fun e w' => e = .returned (.bool (reservedB (suf s 0))) ∧ w = w' := by
  go_enter Tryz.func178, Tryz.ntmps178
  go_wp2
  all_goals
    go_ret
    exact ⟨ret_bool (by rw [suf_zero]; simp_all [reservedB, reservedWords]), rfl⟩
/-- The length of the word that begins here, or 0. -/
def wordN (l : List UInt8) : Nat := if letterB (at' l 0) then wordLen l else 0
theorem at_here (s : ByteArray) (a : Nat) (h : a < s.size) : at' (suf s a) 0 = s[a].toNat := at_suf s a 0 (by omega)
theorem wordN_yes {s : ByteArray} {a : Nat} (h : a < s.size) (hl : letterB s[a].toNat = true) : wordN (suf s a) = wordLen (suf s a) := by
  unfold wordN
  rw [at_here s a h, if_pos hl]
theorem wordN_no {s : ByteArray} {a : Nat} (h : a < s.size) (hl : letterB s[a].toNat = false) : wordN (suf s a) = 0 := by
  unfold wordN
  rw [at_here s a h, if_neg (by simp [hl])]
theorem wordN_end {s : ByteArray} {a : Nat} (h : ¬ a < s.size) : wordN (suf s a) = 0 := by
  rw [suf_end s a (by omega)]
  rfl
set_option maxHeartbeats 400000 in
theorem rword_any (s : ByteArray) (a : Nat) (w : World) (ha : a ≤ maxLen) (hs : s.size ≤ maxLen) :
    Calls Tryz.prog 177 #[.string s, .int .i64 a] w fun e w' => e = .returned (.int .i64 (wordN (suf s a))) ∧ w = w' := by
  unfold maxLen at hs ha
  by_cases hlt : a < s.size
  · have hge : decide (s.size ≤ a) = false := by simp; omega
    have HR0 := Lib.hid (RunAt.start wordB s a (by omega))
    have HE := Lib.hid (show letterB s[a].toNat = (upperB s[a].toNat || lowerB s[a].toNat) from rfl)
    cases hu : upperB s[a].toNat
    · cases hl : lowerB s[a].toNat
      · have HW := Lib.hid (wordN_no hlt (by rw [HE.out, hu, hl]; rfl))
        go_enter Tryz.func177, Tryz.ntmps177
        go_wp2_with (first | (go_at_call 164; refine (rlower_any _ _).mono ?_; rintro e w' ⟨rfl, rfl⟩) | (go_at_call 165; refine (rupper_any _ _).mono ?_; rintro e w' ⟨rfl, rfl⟩) | (go_at_call 181; refine (rinWord_any _ _).mono ?_; rintro e w' ⟨rfl, rfl⟩))
        go_ret
        exact ⟨ret_int (by rw [HW.out]; rfl), rfl⟩
      · have HW := Lib.hid (wordN_yes hlt (by rw [HE.out, hu, hl]; rfl))
        go_enter Tryz.func177, Tryz.ntmps177
        go_wp2_with (first | (go_at_call 164; refine (rlower_any _ _).mono ?_; rintro e w' ⟨rfl, rfl⟩) | (go_at_call 165; refine (rupper_any _ _).mono ?_; rintro e w' ⟨rfl, rfl⟩) | (go_at_call 181; refine (rinWord_any _ _).mono ?_; rintro e w' ⟨rfl, rfl⟩))
        go_loop [5] (fun x => ∃ (k : Nat), k ≤ s.size ∧ x = .int .i64 k ∧ RunAt wordB s a k) (fun x => s.size - (intOf x).toNat)
        case atStart => exact ⟨a, by omega, rfl, HR0.out⟩
        case round =>
          obtain ⟨k, hk, rfl, hrel⟩ := hrel
          have HR := Lib.hid hrel
          clear hrel HR0
          have hk0 := HR.out.1
          by_cases hlt' : k < s.size
          · cases hw : wordB s[k].toNat
            · go_wp2_with (first | (go_at_call 164; refine (rlower_any _ _).mono ?_; rintro e w' ⟨rfl, rfl⟩) | (go_at_call 165; refine (rupper_any _ _).mono ?_; rintro e w' ⟨rfl, rfl⟩) | (go_at_call 181; refine (rinWord_any _ _).mono ?_; rintro e w' ⟨rfl, rfl⟩))
              go_ret
              exact ⟨ret_int (by have := HR.out.stop hlt' hw; rw [HW.out]; unfold wordLen; omega), rfl⟩
            · go_wp2_with (first | (go_at_call 164; refine (rlower_any _ _).mono ?_; rintro e w' ⟨rfl, rfl⟩) | (go_at_call 165; refine (rupper_any _ _).mono ?_; rintro e w' ⟨rfl, rfl⟩) | (go_at_call 181; refine (rinWord_any _ _).mono ?_; rintro e w' ⟨rfl, rfl⟩))
              go_round
              case rel => exact ⟨k + 1, by omega, by go_num, HR.out.next hlt' hw⟩
              case measure => simp [intOf]; omega
          · go_wp2
            go_ret
            exact ⟨ret_int (by have := HR.out.done hlt'; rw [HW.out]; unfold wordLen; omega), rfl⟩
    · have HW := Lib.hid (wordN_yes hlt (by rw [HE.out, hu]; rfl))
      cases hl : lowerB s[a].toNat
      all_goals
        go_enter Tryz.func177, Tryz.ntmps177
        go_wp2_with (first | (go_at_call 164; refine (rlower_any _ _).mono ?_; rintro e w' ⟨rfl, rfl⟩) | (go_at_call 165; refine (rupper_any _ _).mono ?_; rintro e w' ⟨rfl, rfl⟩) | (go_at_call 181; refine (rinWord_any _ _).mono ?_; rintro e w' ⟨rfl, rfl⟩))
        go_loop [5] (fun x => ∃ (k : Nat), k ≤ s.size ∧ x = .int .i64 k ∧ RunAt wordB s a k) (fun x => s.size - (intOf x).toNat)
        case atStart => exact ⟨a, by omega, rfl, HR0.out⟩
        case round =>
          obtain ⟨k, hk, rfl, hrel⟩ := hrel
          have HR := Lib.hid hrel
          clear hrel HR0
          have hk0 := HR.out.1
          by_cases hlt' : k < s.size
          · cases hw : wordB s[k].toNat
            · go_wp2_with (first | (go_at_call 164; refine (rlower_any _ _).mono ?_; rintro e w' ⟨rfl, rfl⟩) | (go_at_call 165; refine (rupper_any _ _).mono ?_; rintro e w' ⟨rfl, rfl⟩) | (go_at_call 181; refine (rinWord_any _ _).mono ?_; rintro e w' ⟨rfl, rfl⟩))
              go_ret
              exact ⟨ret_int (by have := HR.out.stop hlt' hw; rw [HW.out]; unfold wordLen; omega), rfl⟩
            · go_wp2_with (first | (go_at_call 164; refine (rlower_any _ _).mono ?_; rintro e w' ⟨rfl, rfl⟩) | (go_at_call 165; refine (rupper_any _ _).mono ?_; rintro e w' ⟨rfl, rfl⟩) | (go_at_call 181; refine (rinWord_any _ _).mono ?_; rintro e w' ⟨rfl, rfl⟩))
              go_round
              case rel => exact ⟨k + 1, by omega, by go_num, HR.out.next hlt' hw⟩
              case measure => simp [intOf]; omega
          · go_wp2
            go_ret
            exact ⟨ret_int (by have := HR.out.done hlt'; rw [HW.out]; unfold wordLen; omega), rfl⟩
  · have HW := Lib.hid (wordN_end hlt)
    go_enter Tryz.func177, Tryz.ntmps177
    go_wp2
    go_ret
    exact ⟨ret_int (by rw [HW.out]; rfl), rfl⟩
end Go.Proofs.YtpdmklbfbpdneaaGreat
