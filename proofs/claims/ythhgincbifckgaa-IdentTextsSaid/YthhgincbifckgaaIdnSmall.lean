/- The contracts of ident's functions on integers, and of those of the reference. No condition but that the integers fit. -/
import Derived.Test.YthhgincbifckgaaRows
import Derived.Test.YthhgincbifckgaaIdnPure
import Derived.WalkKit
import Derived.WalkSpells
import Derived.WalkLawsBesides
import Derived.Lib.Hide
import Derived.Deep.LoopGhost
import Derived.Deep.QuietTactic
import Derived.BigQuiet
namespace Go.Proofs.Ythhgincbifckgaa
open Go.RowKit
theorem ret_bool {a b : Bool} (h : a = b) : Ending.returned (.bool a) = .returned (.bool b) := by rw [h]
theorem ret_int {a b : Int} (h : a = b) : Ending.returned (.int .i64 a) = .returned (.int .i64 b) := by rw [h]
theorem ret_ints {a b c d : Int} (h : a = b) (h' : c = d) : Ending.returned (.tuple #[.int .i64 a, .int .i64 c]) = .returned (.tuple #[.int .i64 b, .int .i64 d]) := by rw [h, h']
theorem isSite_any (x : Int) (w : World) : Calls Try.prog 24 #[.int .i64 x] w fun e w' => e = .returned (.bool (siteB x)) ∧ w = w' := by
  go_enter Try.func24, Try.ntmps24
  go_wp2
  all_goals
    go_ret
    exact ⟨ret_bool (by simp_all [siteB]; try omega), rfl⟩
theorem isSerial_any (x : Int) (w : World) : Calls Try.prog 25 #[.int .i64 x] w fun e w' => e = .returned (.bool (serB x)) ∧ w = w' := by
  go_enter Try.func25, Try.ntmps25
  go_wp2
  all_goals
    go_ret
    exact ⟨ret_bool (by simp_all [serB]; try omega), rfl⟩
theorem split_any (x : Int) (w : World) : Calls Try.prog 26 #[.int .i64 x] w fun e w' => e = .returned (.tuple #[.int .i64 (x / 1048576), .int .i64 (x % 1048576)]) ∧ w = w' := by
  go_enter Try.func26, Try.ntmps26
  go_wp2
  go_ret2
  exact ⟨ret_ints rfl (and_mask x), rfl⟩
theorem valid_any (x : Int) (w : World) : Calls Try.prog 12 #[.int .i64 x] w fun e w' => e = .returned (.bool (validB x)) ∧ w = w' := by
  have hv : validB x = (siteB (x / 1048576) && serB (x % 1048576)) := rfl
  cases hs : siteB (x / 1048576) <;> cases hn : serB (x % 1048576)
  all_goals
    rw [hs, hn] at hv
    have HV := Lib.hid hv
    have HS := Lib.hid hs
    have HN := Lib.hid hn
    clear hv hs hn
    go_enter Try.func12, Try.ntmps12
    go_wp2_with (first | (go_at_call 26; refine (split_any _ _).mono ?_; rintro e w' ⟨rfl, rfl⟩) | (go_at_call 24; refine (isSite_any _ _).mono ?_; rintro e w' ⟨rfl, rfl⟩; rw [HS.out]) | (go_at_call 25; refine (isSerial_any _ _).mono ?_; rintro e w' ⟨rfl, rfl⟩; rw [HN.out]))
    go_ret
    exact ⟨ret_bool (by rw [HV.out]; rfl), rfl⟩
theorem site_any (x : Int) (w : World) : Calls Try.prog 14 #[.int .i64 x] w fun e w' => e = .returned (.int .i64 (siteI x)) ∧ w = w' := by
  cases hv : validB x
  all_goals
    have HV := Lib.hid hv
    clear hv
    go_enter Try.func14, Try.ntmps14
    go_wp2_with (first | (go_at_call 12; refine (valid_any _ _).mono ?_; rintro e w' ⟨rfl, rfl⟩; rw [HV.out]) | (go_at_call 26; refine (split_any _ _).mono ?_; rintro e w' ⟨rfl, rfl⟩))
    go_ret
    exact ⟨ret_int (by unfold siteI; rw [HV.out]; rfl), rfl⟩
theorem serial_any (x : Int) (w : World) : Calls Try.prog 16 #[.int .i64 x] w fun e w' => e = .returned (.int .i64 (serI x)) ∧ w = w' := by
  cases hv : validB x
  all_goals
    have HV := Lib.hid hv
    clear hv
    go_enter Try.func16, Try.ntmps16
    go_wp2_with (first | (go_at_call 12; refine (valid_any _ _).mono ?_; rintro e w' ⟨rfl, rfl⟩; rw [HV.out]) | (go_at_call 26; refine (split_any _ _).mono ?_; rintro e w' ⟨rfl, rfl⟩))
    go_ret
    exact ⟨ret_int (by unfold serI; rw [HV.out]; rfl), rfl⟩
theorem make_any (a n : Int) (w : World) : Calls Try.prog 9 #[.int .i64 a, .int .i64 n] w fun e w' => e = .returned (.tuple #[.int .i64 (makeI a n), .int .i64 (makeE a n)]) ∧ w = w' := by
  cases hs : siteB a <;> cases hn : serB n
  all_goals
    have HS := Lib.hid hs
    have HN := Lib.hid hn
    have hb : siteB a = true → 1 ≤ a ∧ a ≤ 32 := by unfold siteB; simp
    have hc : serB n = true → 1 ≤ n ∧ n ≤ 1048575 := by unfold serB; simp
    simp only [hs, hn, forall_const, Bool.false_eq_true, false_implies] at hb hc
    clear hs hn
    go_enter Try.func9, Try.ntmps9
    go_wp2_with (first | (go_at_call 24; refine (isSite_any _ _).mono ?_; rintro e w' ⟨rfl, rfl⟩; rw [HS.out]) | (go_at_call 25; refine (isSerial_any _ _).mono ?_; rintro e w' ⟨rfl, rfl⟩; rw [HN.out]))
    go_ret2
    exact ⟨ret_ints (by unfold makeI; rw [HS.out, HN.out]; first | rfl | exact or_join _ _ (by omega) (by omega) (by omega) (by omega)) (by unfold makeE; rw [HS.out, HN.out]; rfl), rfl⟩
theorem next_any (x n : Int) (w : World) : Calls Try.prog 18 #[.int .i64 x, .int .i64 n] w fun e w' => e = .returned (.tuple #[.int .i64 (nextI x n), .int .i64 (nextE x n)]) ∧ w = w' := by
  have hb := @next_bad x n
  have hf := @next_full x n
  have hm := @next_make x n
  obtain ⟨s, hsx⟩ : ∃ s, x / 1048576 = s := ⟨_, rfl⟩
  obtain ⟨r, hrx⟩ : ∃ r, x % 1048576 = r := ⟨_, rfl⟩
  have r0 : 0 ≤ r := by omega
  have r1 : r ≤ 1048575 := by omega
  rw [hsx] at hb hf hm
  rw [hrx] at hf hm
  have HSP := Lib.hid (fun w => by have h := split_any x w; rw [hsx, hrx] at h; exact h : ∀ w, Calls Try.prog 26 #[.int .i64 x] w fun e w' => e = .returned (.tuple #[.int .i64 s, .int .i64 r]) ∧ w = w')
  clear hsx hrx
  cases hs : siteB s
  · have HR := Lib.hid (hb (.inl hs))
    have HS := Lib.hid hs
    clear hs hb hf hm
    go_enter Try.func18, Try.ntmps18
    go_wp2_with (first | (go_at_call 26; refine (HSP.out _).mono ?_; rintro e w' ⟨rfl, rfl⟩) | (go_at_call 24; refine (isSite_any _ _).mono ?_; rintro e w' ⟨rfl, rfl⟩; rw [HS.out]))
    go_ret2
    exact ⟨ret_ints HR.out.1.symm HR.out.2.symm, rfl⟩
  · have HS := Lib.hid hs
    by_cases hn : n < 0
    · have HR := Lib.hid (hb (.inr hn))
      clear hs hb hf hm
      go_enter Try.func18, Try.ntmps18
      go_wp2_with (first | (go_at_call 26; refine (HSP.out _).mono ?_; rintro e w' ⟨rfl, rfl⟩) | (go_at_call 24; refine (isSite_any _ _).mono ?_; rintro e w' ⟨rfl, rfl⟩; rw [HS.out]))
      go_ret2
      exact ⟨ret_ints HR.out.1.symm HR.out.2.symm, rfl⟩
    · have hn0 : 0 ≤ n := by omega
      by_cases hl : 1048575 - r < n
      · have HR := Lib.hid (hf hs hn0 hl)
        clear hs hb hf hm
        go_enter Try.func18, Try.ntmps18
        go_wp2_with (first | (go_at_call 26; refine (HSP.out _).mono ?_; rintro e w' ⟨rfl, rfl⟩) | (go_at_call 24; refine (isSite_any _ _).mono ?_; rintro e w' ⟨rfl, rfl⟩; rw [HS.out]))
        go_ret2
        exact ⟨ret_ints HR.out.1.symm HR.out.2.symm, rfl⟩
      · have hl' : n ≤ 1048575 - r := by omega
        have HR := Lib.hid (hm hs hn0 hl')
        clear hs hb hf hm
        go_enter Try.func18, Try.ntmps18
        go_wp2_with (first | (go_at_call 26; refine (HSP.out _).mono ?_; rintro e w' ⟨rfl, rfl⟩) | (go_at_call 24; refine (isSite_any _ _).mono ?_; rintro e w' ⟨rfl, rfl⟩; rw [HS.out]) | (go_at_call 9; refine (make_any _ _ _).mono ?_; rintro e w' ⟨rfl, rfl⟩))
        go_ret2
        exact ⟨ret_ints HR.out.1.symm HR.out.2.symm, rfl⟩
theorem rmake_any (a n : Int) (w : World) : Calls Try.prog 10 #[.int .i64 a, .int .i64 n] w fun e w' => e = .returned (.tuple #[.int .i64 (makeI a n), .int .i64 (makeE a n)]) ∧ w = w' := by
  go_enter Try.func10, Try.ntmps10
  go_wp2
  all_goals
    go_ret2
    exact ⟨ret_ints (by unfold makeI siteB serB; simp_all; try omega) (by unfold makeE siteB serB; simp_all; try omega), rfl⟩
theorem rvalid_any (x : Int) (w : World) : Calls Try.prog 13 #[.int .i64 x] w fun e w' => e = .returned (.bool (validB x)) ∧ w = w' := by
  by_cases h1 : 1048576 < x
  · go_enter Try.func13, Try.ntmps13
    go_wp2
    all_goals
      go_ret
      exact ⟨ret_bool (by rw [valid_ref, Bool.eq_iff_iff]; simp_all; try omega), rfl⟩
  · go_enter Try.func13, Try.ntmps13
    go_wp2
    all_goals
      go_ret
      exact ⟨ret_bool (by rw [valid_ref, Bool.eq_iff_iff]; simp_all; try omega), rfl⟩
theorem rsite_any (x : Int) (w : World) : Calls Try.prog 15 #[.int .i64 x] w fun e w' => e = .returned (.int .i64 (siteI x)) ∧ w = w' := by
  have hp : validB x = true → 0 ≤ x := by unfold validB siteB serB; simp; omega
  have hq : validB x = true → x < 34603008 := by unfold validB siteB serB; simp; omega
  have hd : validB x = true → x / 1048576 ≤ 32 := by unfold validB siteB serB; simp; omega
  have hd0 : validB x = true → 0 ≤ x / 1048576 := by unfold validB siteB serB; simp; omega
  cases hv : validB x
  all_goals
    have HV := Lib.hid hv
    simp only [hv, forall_const, Bool.false_eq_true, false_implies] at hp hq hd hd0
    clear hv
    go_enter Try.func15, Try.ntmps15
    go_wp2_with (first | (go_at_call 13; refine (rvalid_any _ _).mono ?_; rintro e w' ⟨rfl, rfl⟩; rw [HV.out]))
    go_ret
    exact ⟨ret_int (by unfold siteI; rw [HV.out]; rfl), rfl⟩
theorem rserial_any (x : Int) (w : World) : Calls Try.prog 17 #[.int .i64 x] w fun e w' => e = .returned (.int .i64 (serI x)) ∧ w = w' := by
  have hp : validB x = true → 0 ≤ x := by unfold validB siteB serB; simp; omega
  have hq : validB x = true → x < 34603008 := by unfold validB siteB serB; simp; omega
  have hd : validB x = true → x / 1048576 ≤ 32 := by unfold validB siteB serB; simp; omega
  have hd0 : validB x = true → 0 ≤ x / 1048576 := by unfold validB siteB serB; simp; omega
  cases hv : validB x
  all_goals
    have HV := Lib.hid hv
    simp only [hv, forall_const, Bool.false_eq_true, false_implies] at hp hq hd hd0
    clear hv
    go_enter Try.func17, Try.ntmps17
    go_wp2_with (first | (go_at_call 13; refine (rvalid_any _ _).mono ?_; rintro e w' ⟨rfl, rfl⟩; rw [HV.out]))
    go_ret
    exact ⟨ret_int (by unfold serI; rw [HV.out]; rfl), rfl⟩
theorem start_any (x : Int) (w : World) : Calls Try.prog 27 #[.int .i64 x] w fun e w' => e = .returned (.bool (siteB (x / 1048576))) ∧ w = w' := by
  go_enter Try.func27, Try.ntmps27
  go_wp2
  all_goals
    go_ret
    exact ⟨ret_bool (by unfold siteB; rw [Bool.eq_iff_iff]; simp_all; try omega), rfl⟩
theorem rnext_any (x n : Int) (w : World) : Calls Try.prog 19 #[.int .i64 x, .int .i64 n] w fun e w' => e = .returned (.tuple #[.int .i64 (nextI x n), .int .i64 (nextE x n)]) ∧ w = w' := by
  have hb := @next_bad x n
  have hf := @next_full x n
  have hm := @next_make x n
  cases hs : siteB (x / 1048576)
  · have HR := Lib.hid (hb (.inl hs))
    have HS := Lib.hid hs
    clear hs hb hf hm
    go_enter Try.func19, Try.ntmps19
    go_wp2_with (first | (go_at_call 27; refine (start_any _ _).mono ?_; rintro e w' ⟨rfl, rfl⟩; rw [HS.out]))
    go_ret2
    exact ⟨ret_ints HR.out.1.symm HR.out.2.symm, rfl⟩
  · have HS := Lib.hid hs
    have hx : 1048576 ≤ x ∧ x < 34603008 := by unfold siteB at hs; simp at hs; omega
    obtain ⟨hx0, hx1⟩ := hx
    by_cases hn : n < 0
    · have HR := Lib.hid (hb (.inr hn))
      clear hs hb hf hm
      go_enter Try.func19, Try.ntmps19
      go_wp2_with (first | (go_at_call 27; refine (start_any _ _).mono ?_; rintro e w' ⟨rfl, rfl⟩; rw [HS.out]))
      go_ret2
      exact ⟨ret_ints HR.out.1.symm HR.out.2.symm, rfl⟩
    · have hn0 : 0 ≤ n := by omega
      have r0 : 0 ≤ x % 1048576 := by omega
      have r1 : x % 1048576 ≤ 1048575 := by omega
      by_cases hl : 1048575 - x % 1048576 < n
      · have HR := Lib.hid (hf hs hn0 hl)
        clear hs hb hf hm
        go_enter Try.func19, Try.ntmps19
        go_wp2_with (first | (go_at_call 27; refine (start_any _ _).mono ?_; rintro e w' ⟨rfl, rfl⟩; rw [HS.out]))
        go_ret2
        exact ⟨ret_ints HR.out.1.symm HR.out.2.symm, rfl⟩
      · have hl' : n ≤ 1048575 - x % 1048576 := by omega
        have HR := Lib.hid (hm hs hn0 hl')
        have hz : serB (x % 1048576 + n) = !decide (x % 1048576 + n = 0) := by unfold serB; rw [Bool.eq_iff_iff]; simp; omega
        have HZ := Lib.hid hz
        clear hs hb hf hm hz
        by_cases hzz : x % 1048576 + n = 0
        · have HZZ := Lib.hid hzz
          have hze : ((x % 1048576 + n) == 0) = true := by simp [hzz]
          clear hzz
          go_enter Try.func19, Try.ntmps19
          go_wp2_with (first | (go_at_call 27; refine (start_any _ _).mono ?_; rintro e w' ⟨rfl, rfl⟩; rw [HS.out]))
          go_ret2
          exact ⟨ret_ints (by rw [HR.out.1]; unfold makeI; rw [HS.out, HZ.out, HZZ.out]; rfl) (by rw [HR.out.2]; unfold makeE; rw [HS.out, HZ.out, HZZ.out]; rfl), rfl⟩
        · have HZZ := Lib.hid hzz
          have hze : ((x % 1048576 + n) == 0) = false := by simp [hzz]
          clear hzz
          go_enter Try.func19, Try.ntmps19
          go_wp2_with (first | (go_at_call 27; refine (start_any _ _).mono ?_; rintro e w' ⟨rfl, rfl⟩; rw [HS.out]))
          go_ret2
          exact ⟨ret_ints (by rw [HR.out.1]; unfold makeI; rw [HS.out, HZ.out]; simp [HZZ.out]; omega) (by rw [HR.out.2]; unfold makeE; rw [HS.out, HZ.out]; simp [HZZ.out]), rfl⟩
end Go.Proofs.Ythhgincbifckgaa
