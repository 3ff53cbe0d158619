/- The contracts of the reference's Scan and Class. Condition: lengths that a machine can hold. -/
import Derived.Test.YtpdmklbfbpdneaaGreatLexRScan
import Derived.Test.YtpdmklbfbpdneaaGreatLexClass
namespace Go.Proofs.YtpdmklbfbpdneaaGreat
open Go.RowKit
set_option maxHeartbeats 400000 in
theorem rScan_any (s : ByteArray) (w : World) (hs : s.size ≤ maxLen) :
    Calls Tryz.prog 112 #[.string s] w (ScanPost (scanR s) w) := by
  unfold maxLen at hs
  by_cases hlong : 4096 < s.size
  · have HR := Lib.hid (show scanR s = ⟨[], ByteArray.empty, 4096, 3⟩ from by unfold scanR; rw [if_pos hlong])
    go_enter Tryz.func112, Tryz.ntmps112
    go_wp2
    exact bodyPost_ret (v := .tuple #[.slice none 0 0, .string ⟨#[]⟩, .int .i64 4096, .int .i64 3]) (by simp [results, Tryz.results112, go_sem]) rfl ⟨_, by rw [HR.out]; rfl, by rw [HR.out]; exact World.ownsRow_nil _ _ _ _, Below.refl _ _⟩
  · have HR := Lib.hid (show scanR s = scanG s from by unfold scanR; rw [if_neg hlong])
    have hshort : s.size ≤ 4096 := by omega
    go_enter Tryz.func112, Tryz.ntmps112
    go_wp2_with (go_at_call 146; refine (rscan_any s _ hshort).mono ?_; rintro e w1 ⟨v, rfl, ho, hb⟩; have HO := Lib.hid ho; have HB := Lib.hid hb; clear ho hb)
    exact bodyPost_ret (v := .tuple #[v, .string (scanG s).tail, .int .i64 (scanG s).place, .int .i64 (scanG s).e]) (by simp [results, Tryz.results112, go_sem]) rfl ⟨_, by rw [HR.out], by rw [HR.out]; exact HO.out, HB.out⟩
theorem next_zero (s : ByteArray) (w : World) (h0 : 0 < s.size) (hs : s.size < maxLen) :
    Calls Tryz.prog 139 #[.string s, .int .i64 0] w (ItemPost (tokT (suf s 0)) 0 w) := by
  have h := next_at s 0 0 w h0 hs
  simpa using h
theorem tok_none {l : List UInt8} (ha : allowedB (at' l 0) = true) (hl : letterB (at' l 0) = false) (hd : digitB (at' l 0) = false) (h34 : at' l 0 ≠ 34) (h61 : at' l 0 ≠ 61) (ho : oneSign (at' l 0) = false) : tokT l = ⟨0, 0, 2⟩ := by
  have hs : signLen l = 0 := by unfold signLen; rw [if_neg h61, if_neg (by simp [ho])]
  unfold tokT
  rw [if_neg (by simp [ha]), if_neg (by simp [hl]), if_neg (by simp [hd]), if_neg h34]
  unfold signT
  rw [if_pos hs]
theorem tok_white {l : List UInt8} (h : whiteB (at' l 0) = true) : tokT l = ⟨0, 0, 2⟩ := by
  have : at' l 0 = 9 ∨ at' l 0 = 10 ∨ at' l 0 = 13 ∨ at' l 0 = 32 := by
    unfold whiteB at h
    simp at h
    omega
  rcases this with h | h | h | h <;> exact tok_none (by rw [h]; decide) (by rw [h]; decide) (by rw [h]; decide) (by rw [h]; decide) (by rw [h]; decide) (by rw [h]; decide)
theorem tok_hash {l : List UInt8} (h : at' l 0 = 35) : tokT l = ⟨0, 0, 2⟩ :=
  tok_none (by rw [h]; decide) (by rw [h]; decide) (by rw [h]; decide) (by rw [h]; decide) (by rw [h]; decide) (by rw [h]; decide)
theorem class_none {l : List UInt8} (h : (tokT l).e ≠ 0) : classN l = 0 := by
  unfold classN
  split
  · rfl
  · rw [if_pos (.inl h)]
set_option maxHeartbeats 400000 in
theorem rclass_any (s : ByteArray) (w : World) (hs : s.size < maxLen) :
    Calls Tryz.prog 102 #[.string s] w fun e w' => e = .returned (.int .i64 (classN (suf s 0))) ∧ Below w.heap.size w w' := by
  have HS := Lib.hid hs
  by_cases h0 : 0 < s.size
  · have hne : s.toList.isEmpty = false := by
      have := suf_ne h0
      rw [suf_zero] at this
      simpa using this
    have HN := Lib.hid (suf_ne h0)
    have HL := Lib.hid (suf_length s 0)
    have H0 := Lib.hid (at_zero s 0 h0)
    unfold maxLen at hs
    cases hw : whiteB s[0].toNat
    · by_cases h35 : s[0].toNat = 35
      · have g35 : ((s[0].toNat : Int) == 35) = true := beq_yes h35
        have HC := Lib.hid (class_none (l := suf s 0) (by rw [tok_hash (H0.out.trans h35)]; decide))
        clear h35
        go_enter Tryz.func102, Tryz.ntmps102
        go_wp2_with (go_at_call 138; refine (rwhite_any _ _).mono ?_; rintro e w' ⟨rfl, rfl⟩)
        go_ret
        exact ⟨ret_int (by rw [HC.out]; rfl), Below.refl _ _⟩
      · have g35 : ((s[0].toNat : Int) == 35) = false := beq_no h35
        clear h35
        by_cases he : (tokT (suf s 0)).e = 0
        · have he' : ((((tokT (suf s 0)).e : Nat) : Int) != 0) = false := by simp [he]
          have hil : iLen (tokT (suf s 0)) = (((tokT (suf s 0)).n : Nat) : Int) := by unfold iLen; rw [if_pos he]
          by_cases hn : (tokT (suf s 0)).n = s.size
          · have hn' : ((((tokT (suf s 0)).n : Nat) : Int) != (s.size : Int)) = false := by simp [hn]
            have HC := Lib.hid (show classN (suf s 0) = (tokT (suf s 0)).kind from by unfold classN; rw [if_neg HN.out, if_neg (by rw [HL.out, he, hn]; simp)])
            clear he hn
            go_enter Tryz.func102, Tryz.ntmps102
            go_wp2_with (first | (go_at_call 138; refine (rwhite_any _ _).mono ?_; rintro e w' ⟨rfl, rfl⟩) | (go_at_call 139; refine (next_zero s _ h0 HS.out).mono ?_; rintro e w1 ⟨rfl, hb1⟩; have HB := Lib.hid hb1; clear hb1))
            go_ret
            exact ⟨ret_int (by rw [HC.out]), HB.out.alloc HB.out.size _⟩
          · have hn' : ((((tokT (suf s 0)).n : Nat) : Int) != (s.size : Int)) = true := by simp; omega
            have HC := Lib.hid (show classN (suf s 0) = 0 from by unfold classN; rw [if_neg HN.out, if_pos (.inr (by rw [HL.out]; exact hn))])
            clear he hn
            go_enter Tryz.func102, Tryz.ntmps102
            go_wp2_with (first | (go_at_call 138; refine (rwhite_any _ _).mono ?_; rintro e w' ⟨rfl, rfl⟩) | (go_at_call 139; refine (next_zero s _ h0 HS.out).mono ?_; rintro e w1 ⟨rfl, hb1⟩; have HB := Lib.hid hb1; clear hb1))
            go_ret
            exact ⟨ret_int (by rw [HC.out]; rfl), HB.out.alloc HB.out.size _⟩
        · have he' : ((((tokT (suf s 0)).e : Nat) : Int) != 0) = true := by simp; omega
          have HC := Lib.hid (class_none he)
          clear he
          go_enter Tryz.func102, Tryz.ntmps102
          go_wp2_with (first | (go_at_call 138; refine (rwhite_any _ _).mono ?_; rintro e w' ⟨rfl, rfl⟩) | (go_at_call 139; refine (next_zero s _ h0 HS.out).mono ?_; rintro e w1 ⟨rfl, hb1⟩; have HB := Lib.hid hb1; clear hb1))
          go_ret
          exact ⟨ret_int (by rw [HC.out]; rfl), HB.out.alloc HB.out.size _⟩
    · have HC := Lib.hid (class_none (l := suf s 0) (by rw [tok_white (by rw [H0.out]; exact hw)]; decide))
      go_enter Tryz.func102, Tryz.ntmps102
      go_wp2_with (go_at_call 138; refine (rwhite_any _ _).mono ?_; rintro e w' ⟨rfl, rfl⟩)
      go_ret
      exact ⟨ret_int (by rw [HC.out]; rfl), Below.refl _ _⟩
  · have he : s.toList.isEmpty = true := by rw [← suf_zero, suf_nil (by omega)]; rfl
    have HC := Lib.hid (show classN (suf s 0) = 0 from by rw [suf_nil (by omega)]; rfl)
    go_enter Tryz.func102, Tryz.ntmps102
    go_wp2
    go_ret
    exact ⟨ret_int (by rw [HC.out]; rfl), Below.refl _ _⟩
end Go.Proofs.YtpdmklbfbpdneaaGreat
