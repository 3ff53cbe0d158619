/- The contract of the reference's Trivia: it answers as lex.Trivia does. No condition. -/
import Derived.Test.YtopnimajlgpdeaaLexLead
namespace Go.Proofs.Ytopnimajlgpdeaa
open Go.RowKit
theorem lead_zero (s : ByteArray) (w : World) (hs : s.size ≤ maxLen) :
    Calls Try.prog 30 #[.string s, .int .i64 0] w fun e w' => e = .returned (.tuple #[.int .i64 ((skipTo s 0 : Nat) : Int), .int .i64 (badAt s 0)]) ∧ w = w' := by
  have h := lead_any s 0 w (Nat.zero_le _) hs
  simpa using h
theorem openF_all {s : ByteArray} (h : skipTo s 0 = s.size) : openF false (suf s 0) = skipOpen s 0 := by
  refine openF_skip false (suf s 0) ?_
  rw [suf_length]
  unfold skipTo at h
  omega
def OpenAt (s : ByteArray) (k : Nat) (o : Bool) : Prop := k ≤ s.size ∧ openF false (suf s 0) = openF o (suf s k)
theorem OpenAt.next {s : ByteArray} {k : Nat} {o : Bool} (h : OpenAt s k o) (hk : k < s.size) : OpenAt s (k + 1) (if s[k].toNat = 10 then false else if s[k].toNat = 35 then true else o) := by
  refine ⟨by omega, ?_⟩
  rw [h.2, suf_cons s k hk]
  rfl
theorem OpenAt.done {s : ByteArray} {k : Nat} {o : Bool} (h : OpenAt s k o) (hk : ¬ k < s.size) : openF false (suf s 0) = o := by
  rw [h.2, suf_end s k (by omega)]
  rfl
set_option maxHeartbeats 400000 in
theorem rtrivia_any (s : ByteArray) (fin : Bool) (w : World) (hs : s.size ≤ maxLen) :
    Calls Try.prog 18 #[.string s, .bool fin] w fun e w' => e = .returned (.bool (triviaB s fin)) ∧ w = w' := by
  have h1 := skipTo_le s 0 (Nat.zero_le _)
  have HS := Lib.hid hs
  unfold maxLen at hs
  have HT := Lib.hid (show triviaB s fin = ((skipTo s 0 == s.size) && (fin || !skipOpen s 0)) from rfl)
  by_cases hz : skipTo s 0 = s.size
  · have HZ := Lib.hid hz
    have hb : badAt s 0 = -1 := badAt_no ⟨hz, rfl⟩ (.inr (by omega))
    have hz' : ((skipTo s 0 : Nat) : Int) = (s.size : Int) := by omega
    clear hz
    cases fin
    · go_enter Try.func18, Try.ntmps18
      go_wp2_with (go_at_call 30; refine (lead_zero s _ HS.out).mono ?_; rintro e w' ⟨rfl, rfl⟩)
      go_loop [7, 8] (fun a b => ∃ (k : Nat) (o : Bool), k ≤ s.size ∧ b = .int .i64 k ∧ a = .bool o ∧ OpenAt s k o) (fun _ b => s.size - (intOf b).toNat)
      case atStart => exact ⟨0, false, Nat.zero_le _, rfl, rfl, Nat.zero_le _, rfl⟩
      case round =>
        obtain ⟨k, o, hk, rfl, rfl, hrel⟩ := hrel
        have HR := Lib.hid hrel
        clear hrel
        by_cases hlt : k < s.size
        · by_cases h10 : s[k].toNat = 10
          · have h10' : ((s[k].toNat : Int) == 10) = true := by simp [h10]
            have h35' : ((s[k].toNat : Int) == 35) = false := by simp [h10]
            have H10 := Lib.hid h10
            clear h10
            go_wp2
            go_round
            case rel => exact ⟨k + 1, false, by omega, by go_num, rfl, by have := HR.out.next hlt; rwa [if_pos H10.out] at this⟩
            case measure => simp [intOf]; omega
          · have h10' : ((s[k].toNat : Int) == 10) = false := by simp; omega
            have H10 := Lib.hid h10
            clear h10
            by_cases h35 : s[k].toNat = 35
            · have h35' : ((s[k].toNat : Int) == 35) = true := by simp [h35]
              have H35 := Lib.hid h35
              clear h35
              go_wp2
              go_round
              case rel => exact ⟨k + 1, true, by omega, by go_num, rfl, by have := HR.out.next hlt; rwa [if_neg H10.out, if_pos H35.out] at this⟩
              case measure => simp [intOf]; omega
            · have h35' : ((s[k].toNat : Int) == 35) = false := by simp; omega
              have H35 := Lib.hid h35
              clear h35
              go_wp2
              go_round
              case rel => exact ⟨k + 1, o, by omega, by go_num, rfl, by have := HR.out.next hlt; rwa [if_neg H10.out, if_neg H35.out] at this⟩
              case measure => simp [intOf]; omega
        · go_wp2
          go_ret
          exact ⟨ret_bool (by rw [HT.out, ← openF_all HZ.out, HR.out.done hlt, HZ.out]; simp), rfl⟩
    · go_enter Try.func18, Try.ntmps18
      go_wp2_with (go_at_call 30; refine (lead_zero s _ HS.out).mono ?_; rintro e w' ⟨rfl, rfl⟩)
      go_ret
      exact ⟨ret_bool (by rw [HT.out, HZ.out]; simp), rfl⟩
  · have hz' : ((skipTo s 0 : Nat) : Int) < (s.size : Int) := by omega
    have HZ := Lib.hid hz
    clear hz
    by_cases hb : 0 ≤ badAt s 0
    all_goals
      go_enter Try.func18, Try.ntmps18
      go_wp2_with (go_at_call 30; refine (lead_zero s _ HS.out).mono ?_; rintro e w' ⟨rfl, rfl⟩)
      go_ret
      exact ⟨ret_bool (by rw [HT.out, beq_eq_false_iff_ne.2 HZ.out]; rfl), rfl⟩
end Go.Proofs.Ytopnimajlgpdeaa
