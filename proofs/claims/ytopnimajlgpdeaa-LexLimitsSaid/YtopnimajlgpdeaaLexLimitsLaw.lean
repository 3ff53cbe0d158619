/- The law LexLimits holds for every input: the call returns true, and each argument reads as it read. No condition. -/
import Derived.Test.YtopnimajlgpdeaaLexAwake
import Derived.Test.YtopnimajlgpdeaaLexMany
import Derived.Test.YtopnimajlgpdeaaLexKeepsPure
import Derived.ProofKit
import Derived.OpenShut
import Derived.ShutString
import Derived.ChangeOld
import Derived.SizedLaws
namespace Go.Proofs.Ytopnimajlgpdeaa.lexLimits
open Go.ChangeShapes Go.WideShapes Go.ChangeAt Go.RowKit
open Go.ChangeMaps (open_string shut_string)
set_option linter.unusedVariables false
theorem own : ownKnob Try.prog.godebug = none := by kernel_rfl
theorem mod_is (a : Int) (N : Nat) (w : World) (h : (N : Int) = 1 + modN a) : Calls Try.prog 23 #[.int .i64 a, .int .i64 60] w fun e w' => e = .returned (.int .i64 ((N : Int) - 1)) ∧ w = w' := by
  refine (mod_any a w).mono fun e w' hh => ?_
  obtain ⟨he, hw⟩ := hh
  exact ⟨by rw [he, show modN a = (N : Int) - 1 from by omega], hw⟩
theorem rep_size (ch : Int) (n : Nat) : (rep ch n).size = n := by unfold rep; rw [strOfNums_size, List.length_replicate]
theorem text_of {x y : ByteArray} (h : (x.data.toList == y.data.toList) = true) : x = y := bl_inj (by unfold bl suf; rw [List.drop_zero, List.drop_zero]; simpa using h)
/-- What the table says of a source with one token. -/
theorem scan_ok {s x : ByteArray} (w : World) (hs : s.size ≤ maxLen) (h : oneTok true x.data.toList (scanR s) = true) :
    Calls Try.prog 12 #[.string s] w fun e w' => ∃ g c tl pl, e = .returned (.tuple #[.slice (some ⟨g, 0, none⟩) 1 c, .string tl, .int .i64 pl, .int .i64 0]) ∧ g < w'.heap.size ∧ w'.cell? ⟨g, 2, none⟩ = some (.string x) ∧ Below w.heap.size w w' := by
  unfold oneTok at h
  split at h
  · rename_i t ht
    simp only [Bool.true_and, Bool.and_eq_true] at h
    obtain ⟨h1, h2⟩ := h
    have he : (scanR s).e = 0 := by simpa using h2
    refine (scan_any s w hs).mono fun e w' hh => ?_
    obtain ⟨v, hv, ho, hb⟩ := hh
    rw [ht] at ho
    obtain ⟨g, c, hf, _, hlt⟩ := World.ownsRow.form ho (by simp)
    subst hf
    have hc := World.ownsRow.cells (g := g) ho rfl 2 _ rfl
    rw [he] at hv
    refine ⟨g, c, _, _, hv, hlt, ?_, hb⟩
    rw [text_of h1] at hc
    exact hc
  · cases h
  · cases h
theorem scan_no {s : ByteArray} {l : List UInt8} (w : World) (hs : s.size ≤ maxLen) (h : oneTok false l (scanR s) = true) :
    Calls Try.prog 12 #[.string s] w fun e w' => ∃ A c n tl, e = .returned (.tuple #[.slice A n c, .string tl, .int .i64 1, .int .i64 3]) ∧ Below w.heap.size w w' := by
  unfold oneTok at h
  split at h
  · cases h
  · simp only [Bool.not_false, Bool.true_and, Bool.and_eq_true, beq_iff_eq] at h
    obtain ⟨h1, h2⟩ := h
    refine (scan_any s w hs).mono fun e w' hh => ?_
    obtain ⟨v, hv, ho, hb⟩ := hh
    obtain ⟨A, c, rfl⟩ := own_shape ho
    rw [h1, h2] at hv
    exact ⟨A, c, _, _, hv, hb⟩
  · cases h
theorem pair_ok {s : ByteArray} (w : World) (hs : s.size ≤ maxLen) (h : oneKind true (scanR s) = true) :
    Calls Try.prog 12 #[.string s] w fun e w' => ∃ g c tl pl, e = .returned (.tuple #[.slice (some ⟨g, 0, none⟩) 1 c, .string tl, .int .i64 pl, .int .i64 0]) ∧ g < w'.heap.size ∧ w'.cell? ⟨g, 0, none⟩ = some (.int .i64 3) ∧ Below w.heap.size w w' := by
  unfold oneKind at h
  split at h
  · rename_i t ht
    simp only [Bool.true_and, Bool.and_eq_true, beq_iff_eq] at h
    obtain ⟨h1, h2⟩ := h
    refine (scan_any s w hs).mono fun e w' hh => ?_
    obtain ⟨v, hv, ho, hb⟩ := hh
    rw [ht] at ho
    obtain ⟨g, c, hf, _, hlt⟩ := World.ownsRow.form ho (by simp)
    subst hf
    have hc := World.ownsRow.cells (g := g) ho rfl 0 _ rfl
    rw [h2] at hv
    refine ⟨g, c, _, _, hv, hlt, ?_, hb⟩
    rw [h1] at hc
    exact hc
  · cases h
theorem pair_no {s : ByteArray} (w : World) (hs : s.size ≤ maxLen) (h : oneKind false (scanR s) = true) :
    Calls Try.prog 12 #[.string s] w fun e w' => ∃ A c n tl pl, ∃ x : Int, (x == 0) = false ∧ e = .returned (.tuple #[.slice A n c, .string tl, .int .i64 pl, .int .i64 x]) ∧ Below w.heap.size w w' := by
  have he : (scanR s).e ≠ 0 := by
    unfold oneKind at h
    split at h
    · cases h
    · simpa using h
  refine (scan_any s w hs).mono fun e w' hh => ?_
  obtain ⟨v, hv, ho, hb⟩ := hh
  obtain ⟨A, c, rfl⟩ := own_shape ho
  exact ⟨A, c, _, _, _, _, by simp; omega, hv, hb⟩
set_option maxRecDepth 100000 in
set_option maxHeartbeats 8000000 in
theorem walk_all (a0 a1 : Int) (N : Nat) (w : World) (HM : Hid ((N : Int) = 1 + modN a0)) (hN1 : 1 ≤ N) (hN2 : N ≤ 60) (hc0 : 0 ≤ a1) (hc1 : a1 ≤ 255)
    (HW : Hid (oneTok true (rep (97 + a1 % 26) N).data.toList (scanR (⟨#[32]⟩ ++ rep (97 + a1 % 26) N)) = true)) (HD : Hid (oneTok true (rep (49 + a1 % 9) N).data.toList (scanR (⟨#[32]⟩ ++ rep (49 + a1 % 9) N)) = true)) (HP : Hid (oneKind true (scanR (⟨#[77, 46]⟩ ++ rep (97 + a1 % 26) N ++ ⟨#[57]⟩)) = true))
    (hr : N ≤ 15) :
    Calls Try.prog 10 #[.int .i64 a0, .int .u8 a1] w fun e w' => e = .returned (.bool true) ∧ Below w.heap.size w w' := by
  have d1 : decide ((N : Int) ≤ 24) = true := decide_eq_true (by omega)
  have d2 : decide ((N : Int) ≤ 15) = true := decide_eq_true (by omega)
  have d3 : decide ((N : Int) + 1 ≤ 24) = true := decide_eq_true (by omega)
  have hback : 1 + ((N : Int) - 1) = (N : Int) := by omega
  have hq1 := fun w : World => run_string_add_sum (P := Try.prog) w ⟨#[32]⟩ (rep (97 + a1 % 26) N) (by rw [rep_size]; show 1 + N ≤ _; omega)
  have hq2 := fun w : World => run_string_add_sum (P := Try.prog) w ⟨#[32]⟩ (rep (49 + a1 % 9) N) (by rw [rep_size]; show 1 + N ≤ _; omega)
  have hq3 := fun w : World => run_string_add_sum (P := Try.prog) w ⟨#[77, 46]⟩ (rep (97 + a1 % 26) N) (by rw [rep_size]; show 2 + N ≤ _; omega)
  have hq4 := fun w : World => run_string_add_sum (P := Try.prog) w (⟨#[77, 46]⟩ ++ rep (97 + a1 % 26) N) ⟨#[57]⟩ (by rw [ByteArray.size_append, rep_size]; show 2 + N + 1 ≤ _; omega)
  have S1 := Lib.hid (show (⟨#[32]⟩ ++ rep (97 + a1 % 26) N : ByteArray).size ≤ maxLen from by rw [ByteArray.size_append, rep_size]; show 1 + N ≤ _; unfold maxLen; omega)
  have S2 := Lib.hid (show (⟨#[32]⟩ ++ rep (49 + a1 % 9) N : ByteArray).size ≤ maxLen from by rw [ByteArray.size_append, rep_size]; show 1 + N ≤ _; unfold maxLen; omega)
  have S3 := Lib.hid (show (⟨#[77, 46]⟩ ++ rep (97 + a1 % 26) N ++ ⟨#[57]⟩ : ByteArray).size ≤ maxLen from by rw [ByteArray.size_append, ByteArray.size_append, rep_size]; show 2 + N + 1 ≤ _; unfold maxLen; omega)
  go_enter Try.func10, Try.ntmps10
  go_wp2_with (go_at_call 23; refine (mod_is _ N _ HM.out).mono ?_; rintro e w' ⟨rfl, rfl⟩)
  refine (many_any _ N _ hN1 hN2).mono ?_
  rintro e w1 ⟨rfl, hb1⟩
  have B1 := Lib.hid hb1
  clear hb1
  go_wp2_with fail
  refine (many_any _ N _ hN1 hN2).mono ?_
  rintro e w2 ⟨rfl, hb2⟩
  have B2 := Lib.hid hb2
  clear hb2
  go_wp2_with fail
  refine (scan_ok _ S1.out HW.out).mono ?_
  rintro e w3 ⟨g3, c3, tl3, pl3, rfl, lt3, x3, hb3⟩
  have B3 := Lib.hid hb3
  clear hb3
  go_wp2_with fail
  refine (scan_ok _ S2.out HD.out).mono ?_
  rintro e w4 ⟨g4, c4, tl4, pl4, rfl, lt4, x4, hb4⟩
  have B4 := Lib.hid hb4
  have x3 := (hb4.cell (p := ⟨g3, 2, none⟩) lt3).trans x3
  have lt3 := Nat.lt_of_lt_of_le lt3 hb4.size
  clear hb4
  go_wp2_with fail
  refine (pair_ok _ S3.out HP.out).mono ?_
  rintro e w5 ⟨g5, c5, tl5, pl5, rfl, lt5, x5, hb5⟩
  have B5 := Lib.hid hb5
  have x3 := (hb5.cell (p := ⟨g3, 2, none⟩) lt3).trans x3
  have lt3 := Nat.lt_of_lt_of_le lt3 hb5.size
  have x4 := (hb5.cell (p := ⟨g4, 2, none⟩) lt4).trans x4
  have lt4 := Nat.lt_of_lt_of_le lt4 hb5.size
  clear hb5
  go_wp2_with fail
  refine (awake_any _).mono ?_
  rintro e w6 ⟨rfl, hb6⟩
  have B6 := Lib.hid hb6
  have x3 := (hb6.cell (p := ⟨g3, 2, none⟩) lt3).trans x3
  have x4 := (hb6.cell (p := ⟨g4, 2, none⟩) lt4).trans x4
  have x5 := (hb6.cell (p := ⟨g5, 0, none⟩) lt5).trans x5
  clear hb6 hq1 hq2 hq3 hq4 hback hc0 hc1 hN1 hN2 HM HW HD HP S1 S2 S3
  dsimp only
  go_step
  dsimp only [List.append, List.append_eq, List.cons_append, List.nil_append]
  repeat (first | go_values | go_skip | go_guarded | go_step | go_upon)
  go_ret
  exact ⟨rfl, ((((B1.out.trans (B2.out.mono B1.out.size)).trans (B3.out.mono (Nat.le_trans B1.out.size B2.out.size))).trans (B4.out.mono (Nat.le_trans (Nat.le_trans B1.out.size B2.out.size) B3.out.size))).trans (B5.out.mono (Nat.le_trans (Nat.le_trans (Nat.le_trans B1.out.size B2.out.size) B3.out.size) B4.out.size))).trans (B6.out.mono (Nat.le_trans (Nat.le_trans (Nat.le_trans (Nat.le_trans B1.out.size B2.out.size) B3.out.size) B4.out.size) B5.out.size))⟩
set_option maxRecDepth 100000 in
set_option maxHeartbeats 8000000 in
theorem walk_pair (a0 a1 : Int) (N : Nat) (w : World) (HM : Hid ((N : Int) = 1 + modN a0)) (hN1 : 1 ≤ N) (hN2 : N ≤ 60) (hc0 : 0 ≤ a1) (hc1 : a1 ≤ 255)
    (HW : Hid (oneTok true (rep (97 + a1 % 26) N).data.toList (scanR (⟨#[32]⟩ ++ rep (97 + a1 % 26) N)) = true)) (HD : Hid (oneTok false (rep (49 + a1 % 9) N).data.toList (scanR (⟨#[32]⟩ ++ rep (49 + a1 % 9) N)) = true)) (HP : Hid (oneKind true (scanR (⟨#[77, 46]⟩ ++ rep (97 + a1 % 26) N ++ ⟨#[57]⟩)) = true))
    (hr : 15 < N) (hr2 : N ≤ 23) :
    Calls Try.prog 10 #[.int .i64 a0, .int .u8 a1] w fun e w' => e = .returned (.bool true) ∧ Below w.heap.size w w' := by
  have d1 : decide ((N : Int) ≤ 24) = true := decide_eq_true (by omega)
  have d2 : decide ((N : Int) ≤ 15) = false := decide_eq_false (by omega)
  have d3 : decide ((N : Int) + 1 ≤ 24) = true := decide_eq_true (by omega)
  have hback : 1 + ((N : Int) - 1) = (N : Int) := by omega
  have hq1 := fun w : World => run_string_add_sum (P := Try.prog) w ⟨#[32]⟩ (rep (97 + a1 % 26) N) (by rw [rep_size]; show 1 + N ≤ _; omega)
  have hq2 := fun w : World => run_string_add_sum (P := Try.prog) w ⟨#[32]⟩ (rep (49 + a1 % 9) N) (by rw [rep_size]; show 1 + N ≤ _; omega)
  have hq3 := fun w : World => run_string_add_sum (P := Try.prog) w ⟨#[77, 46]⟩ (rep (97 + a1 % 26) N) (by rw [rep_size]; show 2 + N ≤ _; omega)
  have hq4 := fun w : World => run_string_add_sum (P := Try.prog) w (⟨#[77, 46]⟩ ++ rep (97 + a1 % 26) N) ⟨#[57]⟩ (by rw [ByteArray.size_append, rep_size]; show 2 + N + 1 ≤ _; omega)
  have S1 := Lib.hid (show (⟨#[32]⟩ ++ rep (97 + a1 % 26) N : ByteArray).size ≤ maxLen from by rw [ByteArray.size_append, rep_size]; show 1 + N ≤ _; unfold maxLen; omega)
  have S2 := Lib.hid (show (⟨#[32]⟩ ++ rep (49 + a1 % 9) N : ByteArray).size ≤ maxLen from by rw [ByteArray.size_append, rep_size]; show 1 + N ≤ _; unfold maxLen; omega)
  have S3 := Lib.hid (show (⟨#[77, 46]⟩ ++ rep (97 + a1 % 26) N ++ ⟨#[57]⟩ : ByteArray).size ≤ maxLen from by rw [ByteArray.size_append, ByteArray.size_append, rep_size]; show 2 + N + 1 ≤ _; unfold maxLen; omega)
  go_enter Try.func10, Try.ntmps10
  go_wp2_with (go_at_call 23; refine (mod_is _ N _ HM.out).mono ?_; rintro e w' ⟨rfl, rfl⟩)
  refine (many_any _ N _ hN1 hN2).mono ?_
  rintro e w1 ⟨rfl, hb1⟩
  have B1 := Lib.hid hb1
  clear hb1
  go_wp2_with fail
  refine (many_any _ N _ hN1 hN2).mono ?_
  rintro e w2 ⟨rfl, hb2⟩
  have B2 := Lib.hid hb2
  clear hb2
  go_wp2_with fail
  refine (scan_ok _ S1.out HW.out).mono ?_
  rintro e w3 ⟨g3, c3, tl3, pl3, rfl, lt3, x3, hb3⟩
  have B3 := Lib.hid hb3
  clear hb3
  go_wp2_with fail
  refine (scan_no _ S2.out HD.out).mono ?_
  rintro e w4 ⟨A4, c4, n4, tl4, rfl, hb4⟩
  have B4 := Lib.hid hb4
  have x3 := (hb4.cell (p := ⟨g3, 2, none⟩) lt3).trans x3
  have lt3 := Nat.lt_of_lt_of_le lt3 hb4.size
  clear hb4
  go_wp2_with fail
  refine (pair_ok _ S3.out HP.out).mono ?_
  rintro e w5 ⟨g5, c5, tl5, pl5, rfl, lt5, x5, hb5⟩
  have B5 := Lib.hid hb5
  have x3 := (hb5.cell (p := ⟨g3, 2, none⟩) lt3).trans x3
  have lt3 := Nat.lt_of_lt_of_le lt3 hb5.size
  clear hb5
  go_wp2_with fail
  refine (awake_any _).mono ?_
  rintro e w6 ⟨rfl, hb6⟩
  have B6 := Lib.hid hb6
  have x3 := (hb6.cell (p := ⟨g3, 2, none⟩) lt3).trans x3
  have x5 := (hb6.cell (p := ⟨g5, 0, none⟩) lt5).trans x5
  clear hb6 hq1 hq2 hq3 hq4 hback hc0 hc1 hN1 hN2 HM HW HD HP S1 S2 S3
  dsimp only
  go_step
  dsimp only [List.append, List.append_eq, List.cons_append, List.nil_append]
  repeat (first | go_values | go_skip | go_guarded | go_step | go_upon)
  go_ret
  exact ⟨rfl, ((((B1.out.trans (B2.out.mono B1.out.size)).trans (B3.out.mono (Nat.le_trans B1.out.size B2.out.size))).trans (B4.out.mono (Nat.le_trans (Nat.le_trans B1.out.size B2.out.size) B3.out.size))).trans (B5.out.mono (Nat.le_trans (Nat.le_trans (Nat.le_trans B1.out.size B2.out.size) B3.out.size) B4.out.size))).trans (B6.out.mono (Nat.le_trans (Nat.le_trans (Nat.le_trans (Nat.le_trans B1.out.size B2.out.size) B3.out.size) B4.out.size) B5.out.size))⟩
set_option maxRecDepth 100000 in
set_option maxHeartbeats 8000000 in
theorem walk_word (a0 a1 : Int) (N : Nat) (w : World) (HM : Hid ((N : Int) = 1 + modN a0)) (hN1 : 1 ≤ N) (hN2 : N ≤ 60) (hc0 : 0 ≤ a1) (hc1 : a1 ≤ 255)
    (HW : Hid (oneTok true (rep (97 + a1 % 26) N).data.toList (scanR (⟨#[32]⟩ ++ rep (97 + a1 % 26) N)) = true)) (HD : Hid (oneTok false (rep (49 + a1 % 9) N).data.toList (scanR (⟨#[32]⟩ ++ rep (49 + a1 % 9) N)) = true)) (HP : Hid (oneKind false (scanR (⟨#[77, 46]⟩ ++ rep (97 + a1 % 26) N ++ ⟨#[57]⟩)) = true))
    (hr : N = 24) :
    Calls Try.prog 10 #[.int .i64 a0, .int .u8 a1] w fun e w' => e = .returned (.bool true) ∧ Below w.heap.size w w' := by
  have hr1 : (24 : Int) < (N : Int) + 1 := by omega
  have hr2 : (N : Int) ≤ 24 := by omega
  have hr3 : (15 : Int) < (N : Int) := by omega
  clear hr
  have d1 : decide ((N : Int) ≤ 24) = true := decide_eq_true (by omega)
  have d2 : decide ((N : Int) ≤ 15) = false := decide_eq_false (by omega)
  have d3 : decide ((N : Int) + 1 ≤ 24) = false := decide_eq_false (by omega)
  have hback : 1 + ((N : Int) - 1) = (N : Int) := by omega
  have hq1 := fun w : World => run_string_add_sum (P := Try.prog) w ⟨#[32]⟩ (rep (97 + a1 % 26) N) (by rw [rep_size]; show 1 + N ≤ _; omega)
  have hq2 := fun w : World => run_string_add_sum (P := Try.prog) w ⟨#[32]⟩ (rep (49 + a1 % 9) N) (by rw [rep_size]; show 1 + N ≤ _; omega)
  have hq3 := fun w : World => run_string_add_sum (P := Try.prog) w ⟨#[77, 46]⟩ (rep (97 + a1 % 26) N) (by rw [rep_size]; show 2 + N ≤ _; omega)
  have hq4 := fun w : World => run_string_add_sum (P := Try.prog) w (⟨#[77, 46]⟩ ++ rep (97 + a1 % 26) N) ⟨#[57]⟩ (by rw [ByteArray.size_append, rep_size]; show 2 + N + 1 ≤ _; omega)
  have S1 := Lib.hid (show (⟨#[32]⟩ ++ rep (97 + a1 % 26) N : ByteArray).size ≤ maxLen from by rw [ByteArray.size_append, rep_size]; show 1 + N ≤ _; unfold maxLen; omega)
  have S2 := Lib.hid (show (⟨#[32]⟩ ++ rep (49 + a1 % 9) N : ByteArray).size ≤ maxLen from by rw [ByteArray.size_append, rep_size]; show 1 + N ≤ _; unfold maxLen; omega)
  have S3 := Lib.hid (show (⟨#[77, 46]⟩ ++ rep (97 + a1 % 26) N ++ ⟨#[57]⟩ : ByteArray).size ≤ maxLen from by rw [ByteArray.size_append, ByteArray.size_append, rep_size]; show 2 + N + 1 ≤ _; unfold maxLen; omega)
  go_enter Try.func10, Try.ntmps10
  go_wp2_with (go_at_call 23; refine (mod_is _ N _ HM.out).mono ?_; rintro e w' ⟨rfl, rfl⟩)
  refine (many_any _ N _ hN1 hN2).mono ?_
  rintro e w1 ⟨rfl, hb1⟩
  have B1 := Lib.hid hb1
  clear hb1
  go_wp2_with fail
  refine (many_any _ N _ hN1 hN2).mono ?_
  rintro e w2 ⟨rfl, hb2⟩
  have B2 := Lib.hid hb2
  clear hb2
  go_wp2_with fail
  refine (scan_ok _ S1.out HW.out).mono ?_
  rintro e w3 ⟨g3, c3, tl3, pl3, rfl, lt3, x3, hb3⟩
  have B3 := Lib.hid hb3
  clear hb3
  go_wp2_with fail
  refine (scan_no _ S2.out HD.out).mono ?_
  rintro e w4 ⟨A4, c4, n4, tl4, rfl, hb4⟩
  have B4 := Lib.hid hb4
  have x3 := (hb4.cell (p := ⟨g3, 2, none⟩) lt3).trans x3
  have lt3 := Nat.lt_of_lt_of_le lt3 hb4.size
  clear hb4
  go_wp2_with fail
  refine (pair_no _ S3.out HP.out).mono ?_
  rintro e w5 ⟨A5, c5, n5, tl5, pl5, xx5, hx5, rfl, hb5⟩
  have B5 := Lib.hid hb5
  have x3 := (hb5.cell (p := ⟨g3, 2, none⟩) lt3).trans x3
  have lt3 := Nat.lt_of_lt_of_le lt3 hb5.size
  clear hb5
  go_wp2_with fail
  refine (awake_any _).mono ?_
  rintro e w6 ⟨rfl, hb6⟩
  have B6 := Lib.hid hb6
  have x3 := (hb6.cell (p := ⟨g3, 2, none⟩) lt3).trans x3
  clear hb6 hq1 hq2 hq3 hq4 hback hc0 hc1 hN1 hN2 HM HW HD HP S1 S2 S3
  dsimp only
  go_step
  dsimp only [List.append, List.append_eq, List.cons_append, List.nil_append]
  repeat (first | go_values | go_skip | go_guarded | go_step | go_upon)
  go_ret
  exact ⟨rfl, ((((B1.out.trans (B2.out.mono B1.out.size)).trans (B3.out.mono (Nat.le_trans B1.out.size B2.out.size))).trans (B4.out.mono (Nat.le_trans (Nat.le_trans B1.out.size B2.out.size) B3.out.size))).trans (B5.out.mono (Nat.le_trans (Nat.le_trans (Nat.le_trans B1.out.size B2.out.size) B3.out.size) B4.out.size))).trans (B6.out.mono (Nat.le_trans (Nat.le_trans (Nat.le_trans (Nat.le_trans B1.out.size B2.out.size) B3.out.size) B4.out.size) B5.out.size))⟩
set_option maxRecDepth 100000 in
set_option maxHeartbeats 8000000 in
theorem walk_none (a0 a1 : Int) (N : Nat) (w : World) (HM : Hid ((N : Int) = 1 + modN a0)) (hN1 : 1 ≤ N) (hN2 : N ≤ 60) (hc0 : 0 ≤ a1) (hc1 : a1 ≤ 255)
    (HW : Hid (oneTok false (rep (97 + a1 % 26) N).data.toList (scanR (⟨#[32]⟩ ++ rep (97 + a1 % 26) N)) = true)) (HD : Hid (oneTok false (rep (49 + a1 % 9) N).data.toList (scanR (⟨#[32]⟩ ++ rep (49 + a1 % 9) N)) = true)) (HP : Hid (oneKind false (scanR (⟨#[77, 46]⟩ ++ rep (97 + a1 % 26) N ++ ⟨#[57]⟩)) = true))
    (hr : 24 < N) :
    Calls Try.prog 10 #[.int .i64 a0, .int .u8 a1] w fun e w' => e = .returned (.bool true) ∧ Below w.heap.size w w' := by
  have d1 : decide ((N : Int) ≤ 24) = false := decide_eq_false (by omega)
  have d2 : decide ((N : Int) ≤ 15) = false := decide_eq_false (by omega)
  have d3 : decide ((N : Int) + 1 ≤ 24) = false := decide_eq_false (by omega)
  have hback : 1 + ((N : Int) - 1) = (N : Int) := by omega
  have hq1 := fun w : World => run_string_add_sum (P := Try.prog) w ⟨#[32]⟩ (rep (97 + a1 % 26) N) (by rw [rep_size]; show 1 + N ≤ _; omega)
  have hq2 := fun w : World => run_string_add_sum (P := Try.prog) w ⟨#[32]⟩ (rep (49 + a1 % 9) N) (by rw [rep_size]; show 1 + N ≤ _; omega)
  have hq3 := fun w : World => run_string_add_sum (P := Try.prog) w ⟨#[77, 46]⟩ (rep (97 + a1 % 26) N) (by rw [rep_size]; show 2 + N ≤ _; omega)
  have hq4 := fun w : World => run_string_add_sum (P := Try.prog) w (⟨#[77, 46]⟩ ++ rep (97 + a1 % 26) N) ⟨#[57]⟩ (by rw [ByteArray.size_append, rep_size]; show 2 + N + 1 ≤ _; omega)
  have S1 := Lib.hid (show (⟨#[32]⟩ ++ rep (97 + a1 % 26) N : ByteArray).size ≤ maxLen from by rw [ByteArray.size_append, rep_size]; show 1 + N ≤ _; unfold maxLen; omega)
  have S2 := Lib.hid (show (⟨#[32]⟩ ++ rep (49 + a1 % 9) N : ByteArray).size ≤ maxLen from by rw [ByteArray.size_append, rep_size]; show 1 + N ≤ _; unfold maxLen; omega)
  have S3 := Lib.hid (show (⟨#[77, 46]⟩ ++ rep (97 + a1 % 26) N ++ ⟨#[57]⟩ : ByteArray).size ≤ maxLen from by rw [ByteArray.size_append, ByteArray.size_append, rep_size]; show 2 + N + 1 ≤ _; unfold maxLen; omega)
  go_enter Try.func10, Try.ntmps10
  go_wp2_with (go_at_call 23; refine (mod_is _ N _ HM.out).mono ?_; rintro e w' ⟨rfl, rfl⟩)
  refine (many_any _ N _ hN1 hN2).mono ?_
  rintro e w1 ⟨rfl, hb1⟩
  have B1 := Lib.hid hb1
  clear hb1
  go_wp2_with fail
  refine (many_any _ N _ hN1 hN2).mono ?_
  rintro e w2 ⟨rfl, hb2⟩
  have B2 := Lib.hid hb2
  clear hb2
  go_wp2_with fail
  refine (scan_no _ S1.out HW.out).mono ?_
  rintro e w3 ⟨A3, c3, n3, tl3, rfl, hb3⟩
  have B3 := Lib.hid hb3
  clear hb3
  go_wp2_with fail
  refine (scan_no _ S2.out HD.out).mono ?_
  rintro e w4 ⟨A4, c4, n4, tl4, rfl, hb4⟩
  have B4 := Lib.hid hb4
  clear hb4
  go_wp2_with fail
  refine (pair_no _ S3.out HP.out).mono ?_
  rintro e w5 ⟨A5, c5, n5, tl5, pl5, xx5, hx5, rfl, hb5⟩
  have B5 := Lib.hid hb5
  clear hb5
  go_wp2_with fail
  refine (awake_any _).mono ?_
  rintro e w6 ⟨rfl, hb6⟩
  have B6 := Lib.hid hb6
  clear hb6 hq1 hq2 hq3 hq4 hback hc0 hc1 hN1 hN2 HM HW HD HP S1 S2 S3
  dsimp only
  go_step
  dsimp only [List.append, List.append_eq, List.cons_append, List.nil_append]
  repeat (first | go_values | go_skip | go_guarded | go_step | go_upon)
  go_ret
  exact ⟨rfl, ((((B1.out.trans (B2.out.mono B1.out.size)).trans (B3.out.mono (Nat.le_trans B1.out.size B2.out.size))).trans (B4.out.mono (Nat.le_trans (Nat.le_trans B1.out.size B2.out.size) B3.out.size))).trans (B5.out.mono (Nat.le_trans (Nat.le_trans (Nat.le_trans B1.out.size B2.out.size) B3.out.size) B4.out.size))).trans (B6.out.mono (Nat.le_trans (Nat.le_trans (Nat.le_trans (Nat.le_trans B1.out.size B2.out.size) B3.out.size) B4.out.size) B5.out.size))⟩
theorem walk (a0 : Int) (a1 : Int) (w : World) (w0 : (Lit.int .i64 a0).wf = true) (w1 : (Lit.int .u8 a1).wf = true) :
    Calls Try.prog 10 #[.int .i64 a0, .int .u8 a1] w fun e w' => e = .returned (.bool true) ∧ Below w.heap.size w w' := by
  obtain ⟨N, hN⟩ : ∃ N : Nat, (N : Int) = 1 + modN a0 := ⟨(1 + modN a0).toNat, by have := modN_bd a0; omega⟩
  have hb := modN_bd a0
  have hN1 : 1 ≤ N := by omega
  have hN2 : N ≤ 60 := by omega
  obtain ⟨hc0, hc1⟩ := bounds_u8 w1
  obtain ⟨d, hd⟩ : ∃ d : Nat, (d : Int) = a1 % 26 := ⟨(a1 % 26).toNat, by omega⟩
  obtain ⟨d', hd'⟩ : ∃ d : Nat, (d : Int) = a1 % 9 := ⟨(a1 % 9).toNat, by omega⟩
  have t1 := in_table words_table (n := N) (d := d) hN1 hN2 (by omega)
  have t2 := in_table digits_table (n := N) (d := d') hN1 hN2 (by omega)
  have t3 := in_table pairs_table (n := N) (d := d) hN1 hN2 (by omega)
  unfold goodWord wordSrc at t1
  unfold goodDigits wordSrc at t2
  unfold goodPair pairSrc at t3
  rw [hd] at t1 t3
  rw [hd'] at t2
  by_cases h1 : N ≤ 15
  · rw [decide_eq_true (by omega)] at t1 t2 t3
    exact walk_all a0 a1 N w (Lib.hid hN) hN1 hN2 hc0 hc1 (Lib.hid t1) (Lib.hid t2) (Lib.hid t3) h1
  · by_cases h2 : N ≤ 23
    · rw [decide_eq_true (by omega)] at t1 t3
      rw [decide_eq_false (by omega)] at t2
      exact walk_pair a0 a1 N w (Lib.hid hN) hN1 hN2 hc0 hc1 (Lib.hid t1) (Lib.hid t2) (Lib.hid t3) (by omega) h2
    · by_cases h3 : N = 24
      · rw [decide_eq_true (by omega)] at t1
        rw [decide_eq_false (by omega)] at t2 t3
        exact walk_word a0 a1 N w (Lib.hid hN) hN1 hN2 hc0 hc1 (Lib.hid t1) (Lib.hid t2) (Lib.hid t3) h3
      · rw [decide_eq_false (by omega)] at t1 t2 t3
        exact walk_none a0 a1 N w (Lib.hid hN) hN1 hN2 hc0 hc1 (Lib.hid t1) (Lib.hid t2) (Lib.hid t3) (by omega)
set_option maxRecDepth 100000 in
theorem lifted (os : Os) (started : os.Started) (H : Type) (enc : TypeId × Value → H) :
    ReturnsInHanded {} Try.checked os 10 .any (Rows.lexLimitsSpec.pre6 enc Try.prog Try.f10 Rows.lexLimitsRow.domain false) (Rows.lexLimitsSpec.post enc Try.prog Try.f10 false true false false) := by
  refine returnsInHanded_of_change_sized (C := Try.checked) own started (by kernel_rfl) Try.func10
    (ChangeSpec.witness6 (enc := enc) (C := Try.checked) false ⟨#[], #[.int .i64 0, .int .u8 0], []⟩ 8 (by kernel_rfl) (by kernel_rfl) (by kernel_rfl) (by kernel_rfl)) ?_
  intro W base args ds gs before hval0 hW hcnd hsz0 _
  have hval : ∀ (j : Nat) t v, Try.f10.params[j]? = some t → args[j]? = some v → Value.okWide Try.prog W .any base t v := hval0
  have hW' := hW
  obtain ⟨p, q, hA0, hV, rfl, hfz, hnd⟩ := hW
  have hA : DataW.TrodAll enc Try.prog W 0 (fun _ => true) true Try.f10.params.toList args.toList ds p := hA0
  have hsz : (DataW.weightsEach Try.prog (Try.f10.params.toList ++ Rows.lexLimitsSpec.plain.varTypes Try.prog) (ds ++ gs)).all (· ≤ reachBytes) = true := hsz0
  rw [Try.params10] at hA hval hsz
  obtain ⟨v0, vs0, d0, ds0, p0, q0, hargs, rfl, rfl, h0, r0⟩ := trodAll_cons hA
  obtain ⟨v1, vs1, d1, ds1, p1, q1, rfl, rfl, rfl, h1, r1⟩ := trodAll_cons r0
  obtain ⟨rfl, rfl, rfl⟩ := trodAll_nil r1
  obtain rfl : args = #[v0, v1] := by cases args; simp_all
  obtain ⟨rfl, rfl⟩ := trodVars_none hV
  obtain ⟨a0, rfl, rfl, rfl, w0⟩ := open_int Try.underlying3 (hval 0 3 v0 rfl rfl) h0
  obtain ⟨a1, rfl, rfl, rfl, w1⟩ := open_int Try.underlying5 (hval 1 5 v1 rfl rfl) h1
  clear hA0 hval0
  simp only [List.append_nil] at hW'
  refine (walk a0 a1 W w0 w1).mono fun e W' ⟨he, bel⟩ => ?_
  subst he
  exact ⟨_, rfl, _, _, _, [], [], [], hW', trodAll_mk1 (shut_bool Try.underlying4 _), (trodAll_cons_mk (shut_int Try.underlying3 w0) (trodAll_cons_mk (shut_int Try.underlying5 w1) trodAll_mk0)), rfl, bel.frame _, fun h => by cases h⟩
theorem proved : Rows.LexLimitsSaid :=
  OpenClaim.holds_of_wide 10 Try.f10 rfl rfl rfl rfl rfl rfl rfl ⟨rfl, rfl, rfl, rfl, rfl⟩ rfl rfl rfl rfl rfl (by kernel_rfl) Try.func10 (by kernel_rfl)
    (of_decide_eq_true (by kernel_rfl)) (by unfold Func.isWrapper; first | (rw [if_pos (by decide +kernel)]; kernel_rfl) | (rw [if_neg (by decide +kernel)]; exact ⟨rfl, rfl⟩))
    (fun os started H enc _ => lifted os started H enc)
#print axioms proved
end Go.Proofs.Ytopnimajlgpdeaa.lexLimits
