/- The contracts of lex.quoted, sign, qualified, word and token. Conditions: lengths that a machine can hold; a first byte where the code reads one. -/
import Derived.Test.YtopnimajlgpdeaaLexTok
namespace Go.Proofs.Ytopnimajlgpdeaa
open Go.RowKit
/-- A string that begins at a is read up to k. -/
def QuotAt (s : ByteArray) (a k : Nat) : Prop := a + 1 ≤ k ∧ k ≤ s.size ∧ quotT 1 (suf s (a + 1)) = quotT (k - a) (suf s k)
theorem QuotAt.start (s : ByteArray) (a : Nat) (h : a < s.size) : QuotAt s a (a + 1) := ⟨Nat.le_refl _, h, by rw [show a + 1 - a = 1 from by omega]⟩
section
variable {s : ByteArray} {a k : Nat}
theorem QuotAt.done (h : QuotAt s a k) (hk : ¬ k < s.size) : quotT 1 (suf s (a + 1)) = ⟨0, 0, 2⟩ := by
  rw [h.2.2, suf_end s k (by omega), quotT]
theorem QuotAt.close (h : QuotAt s a k) (hk : k < s.size) (hc : s[k].toNat = 34) : quotT 1 (suf s (a + 1)) = ⟨6, k - a + 1, 0⟩ := by
  rw [h.2.2, suf_cons s k hk, quotT, if_pos hc]
theorem QuotAt.stop (h : QuotAt s a k) (hk : k < s.size) (h34 : s[k].toNat ≠ 34) (hc : s[k].toNat = 92 ∨ s[k].toNat = 9 ∨ s[k].toNat = 10 ∨ s[k].toNat = 13) : quotT 1 (suf s (a + 1)) = ⟨0, 0, 2⟩ := by
  rw [h.2.2, suf_cons s k hk, quotT, if_neg h34, if_pos hc]
theorem QuotAt.bad (h : QuotAt s a k) (hk : k < s.size) (h34 : s[k].toNat ≠ 34) (hc : ¬ (s[k].toNat = 92 ∨ s[k].toNat = 9 ∨ s[k].toNat = 10 ∨ s[k].toNat = 13)) (ha : allowedB s[k].toNat = false) : quotT 1 (suf s (a + 1)) = ⟨0, k - a, 1⟩ := by
  rw [h.2.2, suf_cons s k hk, quotT, if_neg h34, if_neg hc, if_neg (by simp [ha])]
theorem QuotAt.next (h : QuotAt s a k) (hk : k < s.size) (h34 : s[k].toNat ≠ 34) (hc : ¬ (s[k].toNat = 92 ∨ s[k].toNat = 9 ∨ s[k].toNat = 10 ∨ s[k].toNat = 13)) (ha : allowedB s[k].toNat = true) : QuotAt s a (k + 1) := by
  refine ⟨by have := h.1; omega, by omega, ?_⟩
  rw [h.2.2, suf_cons s k hk, quotT, if_neg h34, if_neg hc, if_pos ha, show k - a + 1 = k + 1 - a from by have := h.1; omega]
end
theorem beq_yes {n m : Nat} (h : n = m) : ((n : Int) == (m : Int)) = true := by simp [h]
theorem beq_no {n m : Nat} (h : n ≠ m) : ((n : Int) == (m : Int)) = false := by simp; omega
set_option maxHeartbeats 400000 in
theorem quoted_any (s : ByteArray) (w : World) (h0 : 0 < s.size) (hs : s.size ≤ maxLen) :
    Calls Try.prog 40 #[.string s] w fun e w' => e = .returned (.tuple #[.int .i64 (quotT 1 (suf s 1)).kind, .int .i64 (quotT 1 (suf s 1)).n, .int .i64 (quotT 1 (suf s 1)).e]) ∧ w = w' := by
  unfold maxLen at hs
  have hst := Lib.hid (QuotAt.start s 0 h0)
  go_enter Try.func40, Try.ntmps40
  go_wp2
  go_loop [5] (fun a => ∃ (k : Nat), 1 ≤ k ∧ k ≤ s.size ∧ a = .int .i64 k ∧ QuotAt s 0 k) (fun a => s.size - (intOf a).toNat)
  case atStart => exact ⟨1, Nat.le_refl _, h0, rfl, hst.out⟩
  case round =>
    obtain ⟨k, h1, hk, rfl, hrel⟩ := hrel
    have HR := Lib.hid hrel
    clear hrel hst
    by_cases hlt : k < s.size
    · by_cases h34 : s[k].toNat = 34
      · have g34 : ((s[k].toNat : Int) == 34) = true := beq_yes h34
        have H34 := Lib.hid h34
        clear h34
        go_wp2
        go_ret3
        exact ⟨ret_tk 6 (k + 1) 0 (HR.out.close hlt H34.out) rfl (by omega) rfl, rfl⟩
      · have g34 : ((s[k].toNat : Int) == 34) = false := beq_no h34
        have H34 := Lib.hid h34
        clear h34
        by_cases hstop : s[k].toNat = 92 ∨ s[k].toNat = 9 ∨ s[k].toNat = 10 ∨ s[k].toNat = 13
        · have HS := Lib.hid hstop
          rcases hstop with h | h | h | h
          · have g1 : ((s[k].toNat : Int) == 92) = true := beq_yes h
            clear h
            go_wp2
            go_ret3
            exact ⟨ret_tk 0 0 2 (HR.out.stop hlt H34.out HS.out) rfl rfl rfl, rfl⟩
          · have g1 : ((s[k].toNat : Int) == 92) = false := beq_no (m := 92) (by omega)
            have g2 : ((s[k].toNat : Int) == 9) = true := beq_yes h
            clear h
            go_wp2
            go_ret3
            exact ⟨ret_tk 0 0 2 (HR.out.stop hlt H34.out HS.out) rfl rfl rfl, rfl⟩
          · have g1 : ((s[k].toNat : Int) == 92) = false := beq_no (m := 92) (by omega)
            have g2 : ((s[k].toNat : Int) == 9) = false := beq_no (m := 9) (by omega)
            have g3 : ((s[k].toNat : Int) == 10) = true := beq_yes h
            clear h
            go_wp2
            go_ret3
            exact ⟨ret_tk 0 0 2 (HR.out.stop hlt H34.out HS.out) rfl rfl rfl, rfl⟩
          · have g1 : ((s[k].toNat : Int) == 92) = false := beq_no (m := 92) (by omega)
            have g2 : ((s[k].toNat : Int) == 9) = false := beq_no (m := 9) (by omega)
            have g3 : ((s[k].toNat : Int) == 10) = false := beq_no (m := 10) (by omega)
            have g4 : ((s[k].toNat : Int) == 13) = true := beq_yes h
            clear h
            go_wp2
            go_ret3
            exact ⟨ret_tk 0 0 2 (HR.out.stop hlt H34.out HS.out) rfl rfl rfl, rfl⟩
        · have g1 : ((s[k].toNat : Int) == 92) = false := beq_no (fun h => hstop (.inl h))
          have g2 : ((s[k].toNat : Int) == 9) = false := beq_no (fun h => hstop (.inr (.inl h)))
          have g3 : ((s[k].toNat : Int) == 10) = false := beq_no (fun h => hstop (.inr (.inr (.inl h))))
          have g4 : ((s[k].toNat : Int) == 13) = false := beq_no (fun h => hstop (.inr (.inr (.inr h))))
          have HS := Lib.hid hstop
          clear hstop
          cases ha : allowedB s[k].toNat
          · go_wp2_with (go_at_call 34; refine (allowed_any _ _).mono ?_; rintro e w' ⟨rfl, rfl⟩)
            go_ret3
            exact ⟨ret_tk 0 k 1 (HR.out.bad hlt H34.out HS.out ha) rfl (by omega) rfl, rfl⟩
          · go_wp2_with (go_at_call 34; refine (allowed_any _ _).mono ?_; rintro e w' ⟨rfl, rfl⟩)
            go_round
            case rel => exact ⟨k + 1, by omega, by omega, by go_num, HR.out.next hlt H34.out HS.out ha⟩
            case measure => simp [intOf]; omega
    · go_wp2
      go_ret3
      exact ⟨ret_tk 0 0 2 (HR.out.done hlt) rfl rfl rfl, rfl⟩
end Go.Proofs.Ytopnimajlgpdeaa
