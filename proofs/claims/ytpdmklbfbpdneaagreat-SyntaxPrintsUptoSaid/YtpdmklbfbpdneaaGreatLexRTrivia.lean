/- The contracts of lead and of the reference's Trivia. -/
import Derived.Test.YtpdmklbfbpdneaaGreatLexSmall
namespace Go.Proofs.YtpdmklbfbpdneaaGreat
open Go.RowKit
def LeadAt (s : ByteArray) (i k : Nat) : Prop := i ≤ k ∧ k ≤ s.size ∧ (SkipAt s i k false ∨ (k = s.size ∧ skipTo s i = k))
/-- Inside of the inner loop: a comment that began at j. -/
def InnerAt (s : ByteArray) (i j k : Nat) : Prop := j ≤ k ∧ SkipAt s i k true ∧ (k = j → ∃ h : k < s.size, s[k].toNat = 35)
theorem ret_ints {a b c d : Int} (h : a = b) (h' : c = d) : Ending.returned (.tuple #[.int .i64 a, .int .i64 c]) = .returned (.tuple #[.int .i64 b, .int .i64 d]) := by rw [h, h']
theorem LeadAt.state {s : ByteArray} {i k : Nat} (h : LeadAt s i k) (hk : k < s.size) : SkipAt s i k false := by
  obtain ⟨_, _, h | h⟩ := h
  · exact h
  · omega
theorem LeadAt.done {s : ByteArray} {i k : Nat} (h : LeadAt s i k) (hk : ¬ k < s.size) : skipTo s i = k ∧ badAt s i = -1 := by
  obtain ⟨_, _, h | ⟨rfl, h⟩⟩ := h
  · exact ⟨(h.done hk).1, badAt_no (h.done hk) (.inl rfl)⟩
  · exact ⟨h, badAt_no ⟨h, rfl⟩ (.inr hk)⟩
theorem LeadAt.white {s : ByteArray} {i k : Nat} (h : LeadAt s i k) (hk : k < s.size) (hw : whiteB s[k].toNat = true) : LeadAt s i (k + 1) := by
  have h1 := (h.state hk).white hk hw
  exact ⟨h1.1, h1.2.1, .inl h1⟩
theorem LeadAt.other {s : ByteArray} {i k : Nat} (h : LeadAt s i k) (hk : k < s.size) (hw : whiteB s[k].toNat = false) (hc : s[k].toNat ≠ 35) : skipTo s i = k ∧ badAt s i = -1 := by
  have h1 := (h.state hk).other hk hw hc
  exact ⟨h1.1, badAt_no h1 (.inl rfl)⟩
theorem LeadAt.inner {s : ByteArray} {i k : Nat} (h : LeadAt s i k) (hk : k < s.size) (hc : s[k].toNat = 35) : InnerAt s i k k :=
  ⟨Nat.le_refl _, (h.state hk).begun hk hc, fun _ => ⟨hk, hc⟩⟩
theorem InnerAt.next {s : ByteArray} {i j k : Nat} (h : InnerAt s i j k) (hk : k < s.size) (ha : allowedB s[k].toNat = true) (hc : s[k].toNat ≠ 10) : InnerAt s i j (k + 1) := by
  have h1 := h.2.1.inside hk ha
  have h2 : (s[k].toNat != 10) = true := by simpa using hc
  rw [h2] at h1
  have := h.1
  exact ⟨by omega, h1, by omega⟩
theorem InnerAt.bad {s : ByteArray} {i j k : Nat} (h : InnerAt s i j k) (hk : k < s.size) (ha : allowedB s[k].toNat = false) : skipTo s i = k ∧ badAt s i = k := by
  have h1 := h.2.1.bad hk ha
  exact ⟨h1.1, badAt_yes h1 hk⟩
theorem InnerAt.over {s : ByteArray} {i j k : Nat} (h : InnerAt s i j k) (hk : ¬ k < s.size) : LeadAt s i k ∧ j < k := by
  have h1 := h.2.1
  refine ⟨⟨h1.1, h1.2.1, .inr ⟨by have := h1.2.1; omega, (h1.done hk).1⟩⟩, ?_⟩
  rcases Nat.lt_or_ge j k with h2 | h2
  · exact h2
  · have := h.1
    obtain ⟨h3, _⟩ := h.2.2 (by omega)
    omega
theorem InnerAt.ended {s : ByteArray} {i j k : Nat} (h : InnerAt s i j k) (hk : k < s.size) (hc : s[k].toNat = 10) : LeadAt s i k ∧ j < k := by
  have h1 := h.2.1
  refine ⟨⟨h1.1, h1.2.1, .inl (h1.ended hk hc)⟩, ?_⟩
  rcases Nat.lt_or_ge j k with h2 | h2
  · exact h2
  · have := h.1
    obtain ⟨_, h4⟩ := h.2.2 (by omega)
    omega
set_option maxHeartbeats 400000 in
theorem lead_any (s : ByteArray) (i : Nat) (w : World) (hi : i ≤ s.size) (hs : s.size ≤ maxLen) :
    Calls Tryz.prog 170 #[.string s, .int .i64 i] w fun e w' => e = .returned (.tuple #[.int .i64 (((skipTo s i : Nat) : Int) - (i : Int)), .int .i64 (badAt s i)]) ∧ w = w' := by
  unfold maxLen at hs
  have hst := Lib.hid (show LeadAt s i i from ⟨Nat.le_refl _, hi, .inl (SkipAt.start s i hi)⟩)
  go_enter Tryz.func170, Tryz.ntmps170
  go_wp2
  go_loop [6] (fun a => ∃ (k : Nat), i ≤ k ∧ k ≤ s.size ∧ a = .int .i64 k ∧ LeadAt s i k) (fun a => s.size - (intOf a).toNat)
  case atStart => exact ⟨i, Nat.le_refl _, hi, rfl, hst.out⟩
  case round =>
    obtain ⟨k, hik, hk, rfl, hrel⟩ := hrel
    have HR := Lib.hid hrel
    clear hrel hst
    by_cases hlt : k < s.size
    · cases hw : whiteB s[k].toNat
      · by_cases hc : s[k].toNat = 35
        · have hc' : ((s[k].toNat : Int) == 35) = true := by simp [hc]
          have HC := Lib.hid hc
          clear hc
          go_wp2_with (first | (go_at_call 161; refine (rallowed_any _ _).mono ?_; rintro e w' ⟨rfl, rfl⟩) | (go_at_call 138; refine (rwhite_any _ _).mono ?_; rintro e w' ⟨rfl, rfl⟩))
          clear hc' hw
          go_loop [6] (fun a => ∃ (k' : Nat), i ≤ k' ∧ k' ≤ s.size ∧ a = .int .i64 k' ∧ InnerAt s i k k') (fun a => s.size - (intOf a).toNat)
          case atStart => exact ⟨k, hik, hk, rfl, HR.out.inner hlt HC.out⟩
          case round =>
            obtain ⟨k', hik', hk', rfl, hrel⟩ := hrel
            have HI := Lib.hid hrel
            clear hrel
            by_cases hlt' : k' < s.size
            · by_cases h10 : s[k'].toNat = 10
              · have h10' : ((s[k'].toNat : Int) != 10) = false := by simp [h10]
                have H10 := Lib.hid h10
                clear h10
                go_wp2
                have HO := Lib.hid (HI.out.ended hlt' H10.out)
                go_round
                case rel => exact ⟨k', hik', hk', rfl, HO.out.1⟩
                case measure => have := HO.out.2; simp [intOf]; omega
              · have h10' : ((s[k'].toNat : Int) != 10) = true := by simp; omega
                have H10 := Lib.hid h10
                clear h10
                cases ha : allowedB s[k'].toNat
                · go_wp2_with (first | (go_at_call 161; refine (rallowed_any _ _).mono ?_; rintro e w' ⟨rfl, rfl⟩) | (go_at_call 138; refine (rwhite_any _ _).mono ?_; rintro e w' ⟨rfl, rfl⟩))
                  go_ret2
                  obtain ⟨h1, h2⟩ := HI.out.bad hlt' ha
                  exact ⟨ret_ints (by rw [h1]) (by rw [h2]), rfl⟩
                · go_wp2_with (first | (go_at_call 161; refine (rallowed_any _ _).mono ?_; rintro e w' ⟨rfl, rfl⟩) | (go_at_call 138; refine (rwhite_any _ _).mono ?_; rintro e w' ⟨rfl, rfl⟩))
                  go_round
                  case rel => exact ⟨k' + 1, by omega, by omega, by go_num, HI.out.next hlt' ha H10.out⟩
                  case measure => simp [intOf]; omega
            · go_wp2
              have HO := Lib.hid (HI.out.over hlt')
              go_round
              case rel => exact ⟨k', hik', hk', rfl, HO.out.1⟩
              case measure => have := HO.out.2; simp [intOf]; omega
        · have hc' : ((s[k].toNat : Int) == 35) = false := by simp; omega
          have HC := Lib.hid hc
          clear hc
          go_wp2_with (first | (go_at_call 161; refine (rallowed_any _ _).mono ?_; rintro e w' ⟨rfl, rfl⟩) | (go_at_call 138; refine (rwhite_any _ _).mono ?_; rintro e w' ⟨rfl, rfl⟩))
          go_ret2
          obtain ⟨h1, h2⟩ := HR.out.other hlt hw HC.out
          exact ⟨ret_ints (by rw [h1]) (by rw [h2]), rfl⟩
      · go_wp2_with (first | (go_at_call 161; refine (rallowed_any _ _).mono ?_; rintro e w' ⟨rfl, rfl⟩) | (go_at_call 138; refine (rwhite_any _ _).mono ?_; rintro e w' ⟨rfl, rfl⟩))
        go_round
        case rel => exact ⟨k + 1, by omega, by omega, by go_num, HR.out.white hlt hw⟩
        case measure => simp [intOf]; omega
    · go_wp2
      go_ret2
      obtain ⟨h1, h2⟩ := HR.out.done hlt
      exact ⟨ret_ints (by rw [h1]) (by rw [h2]), rfl⟩
end Go.Proofs.YtpdmklbfbpdneaaGreat
namespace Go.Proofs.YtpdmklbfbpdneaaGreat
open Go.RowKit
theorem lead_zero (s : ByteArray) (w : World) (hs : s.size ≤ maxLen) :
    Calls Tryz.prog 170 #[.string s, .int .i64 0] w fun e w' => e = .returned (.tuple #[.int .i64 ((skipTo s 0 : Nat) : Int), .int .i64 (badAt s 0)]) ∧ w = w' := by
  have h := lead_any s 0 w (Nat.zero_le _) hs
  simpa using h
theorem openF_all {s : ByteArray} (h : skipTo s 0 = s.size) : openF false (suf s 0) = skipOpen s 0 := by
  refine openF_skip false (suf s 0) ?_
  rw [suf_length]
  unfold skipTo at h
  omega
def OpenAt (s : ByteArray) (k : Nat) (o : Bool) : Prop := k ≤ s.size ∧ openF false (suf s 0) = openF o (suf s k)
theorem OpenAt.next {s : ByteArray} {k : Nat} {o : Bool} (h : OpenAt s k o) (hk : k < s.size) : OpenAt s (k + 1) (if s[k].toNat = 10 then false else if s[k].toNat = 35 then true else o) := by
  refine ⟨by omega, ?_⟩
  rw [h.2, suf_cons s k hk]
  rfl
theorem OpenAt.done {s : ByteArray} {k : Nat} {o : Bool} (h : OpenAt s k o) (hk : ¬ k < s.size) : openF false (suf s 0) = o := by
  rw [h.2, suf_end s k (by omega)]
  rfl
set_option maxHeartbeats 400000 in
theorem rtrivia_any (s : ByteArray) (fin : Bool) (w : World) (hs : s.size ≤ maxLen) :
    Calls Tryz.prog 143 #[.string s, .bool fin] w fun e w' => e = .returned (.bool (triviaB s fin)) ∧ w = w' := by
  have h1 := skipTo_le s 0 (Nat.zero_le _)
  have HS := Lib.hid hs
  unfold maxLen at hs
  have HT := Lib.hid (show triviaB s fin = ((skipTo s 0 == s.size) && (fin || !skipOpen s 0)) from rfl)
  by_cases hz : skipTo s 0 = s.size
  · have HZ := Lib.hid hz
    have hb : badAt s 0 = -1 := badAt_no ⟨hz, rfl⟩ (.inr (by omega))
    have hz' : ((skipTo s 0 : Nat) : Int) = (s.size : Int) := by omega
    clear hz
    cases fin
    · go_enter Tryz.func143, Tryz.ntmps143
      go_wp2_with (go_at_call 170; refine (lead_zero s _ HS.out).mono ?_; rintro e w' ⟨rfl, rfl⟩)
      go_loop [7, 8] (fun a b => ∃ (k : Nat) (o : Bool), k ≤ s.size ∧ b = .int .i64 k ∧ a = .bool o ∧ OpenAt s k o) (fun _ b => s.size - (intOf b).toNat)
      case atStart => exact ⟨0, false, Nat.zero_le _, rfl, rfl, Nat.zero_le _, rfl⟩
      case round =>
        obtain ⟨k, o, hk, rfl, rfl, hrel⟩ := hrel
        have HR := Lib.hid hrel
        clear hrel
        by_cases hlt : k < s.size
        · by_cases h10 : s[k].toNat = 10
          · have h10' : ((s[k].toNat : Int) == 10) = true := by simp [h10]
            have h35' : ((s[k].toNat : Int) == 35) = false := by simp [h10]
            have H10 := Lib.hid h10
            clear h10
            go_wp2
            go_round
            case rel => exact ⟨k + 1, false, by omega, by go_num, rfl, by have := HR.out.next hlt; rwa [if_pos H10.out] at this⟩
            case measure => simp [intOf]; omega
          · have h10' : ((s[k].toNat : Int) == 10) = false := by simp; omega
            have H10 := Lib.hid h10
            clear h10
            by_cases h35 : s[k].toNat = 35
            · have h35' : ((s[k].toNat : Int) == 35) = true := by simp [h35]
              have H35 := Lib.hid h35
              clear h35
              go_wp2
              go_round
              case rel => exact ⟨k + 1, true, by omega, by go_num, rfl, by have := HR.out.next hlt; rwa [if_neg H10.out, if_pos H35.out] at this⟩
              case measure => simp [intOf]; omega
            · have h35' : ((s[k].toNat : Int) == 35) = false := by simp; omega
              have H35 := Lib.hid h35
              clear h35
              go_wp2
              go_round
              case rel => exact ⟨k + 1, o, by omega, by go_num, rfl, by have := HR.out.next hlt; rwa [if_neg H10.out, if_neg H35.out] at this⟩
              case measure => simp [intOf]; omega
        · go_wp2
          go_ret
          exact ⟨ret_bool (by rw [HT.out, ← openF_all HZ.out, HR.out.done hlt, HZ.out]; simp), rfl⟩
    · go_enter Tryz.func143, Tryz.ntmps143
      go_wp2_with (go_at_call 170; refine (lead_zero s _ HS.out).mono ?_; rintro e w' ⟨rfl, rfl⟩)
      go_ret
      exact ⟨ret_bool (by rw [HT.out, HZ.out]; simp), rfl⟩
  · have hz' : ((skipTo s 0 : Nat) : Int) < (s.size : Int) := by omega
    have HZ := Lib.hid hz
    clear hz
    by_cases hb : 0 ≤ badAt s 0
    all_goals
      go_enter Tryz.func143, Tryz.ntmps143
      go_wp2_with (go_at_call 170; refine (lead_zero s _ HS.out).mono ?_; rintro e w' ⟨rfl, rfl⟩)
      go_ret
      exact ⟨ret_bool (by rw [HT.out, beq_eq_false_iff_ne.2 HZ.out]; rfl), rfl⟩
end Go.Proofs.YtpdmklbfbpdneaaGreat
