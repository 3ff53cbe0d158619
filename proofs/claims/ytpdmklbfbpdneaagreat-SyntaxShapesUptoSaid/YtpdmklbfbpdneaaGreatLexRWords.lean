/- The contracts of the reference's sign and words. Conditions: the place lies in the string, and lengths that a machine can hold. -/
import Derived.Test.YtpdmklbfbpdneaaGreatLexClass
namespace Go.Proofs.YtpdmklbfbpdneaaGreat
open Go.RowKit
section
variable {s : ByteArray} {a : Nat}
theorem sl_two (h0 : a < s.size) (h : s[a].toNat = 61) (h1 : a + 1 < s.size) (h2 : s[a + 1].toNat = 61) : signLen (suf s a) = 2 := by
  unfold signLen
  rw [at_here s a h0, if_pos h, at_suf s a 1 h1, if_pos h2]
theorem sl_eq (h0 : a < s.size) (h : s[a].toNat = 61) (h1 : ∀ h : a + 1 < s.size, s[a + 1].toNat ≠ 61) : signLen (suf s a) = 1 := by
  unfold signLen
  rw [at_here s a h0, if_pos h]
  by_cases h2 : a + 1 < s.size
  · rw [at_suf s a 1 h2, if_neg (h1 h2)]
  · unfold at'
    rw [List.getD_eq_getElem?_getD, List.getElem?_eq_none (by rw [suf_length]; omega)]
    decide
theorem sl_one (h0 : a < s.size) (h : s[a].toNat ≠ 61) (h1 : oneSign s[a].toNat = true) : signLen (suf s a) = 1 := by
  unfold signLen
  rw [at_here s a h0, if_neg h, if_pos h1]
theorem sl_none (h0 : a < s.size) (h : s[a].toNat ≠ 61) (h1 : oneSign s[a].toNat = false) : signLen (suf s a) = 0 := by
  unfold signLen
  rw [at_here s a h0, if_neg h, if_neg (by simp [h1])]
end
set_option maxHeartbeats 400000 in
theorem rsign_any (s : ByteArray) (a : Nat) (w : World) (h0 : a < s.size) (hs : s.size ≤ maxLen) :
    Calls Tryz.prog 167 #[.string s, .int .i64 a] w fun e w' => e = .returned (.int .i64 (signLen (suf s a))) ∧ w = w' := by
  unfold maxLen at hs
  by_cases h61 : s[a].toNat = 61
  · have g61 : ((s[a].toNat : Int) == 61) = true := beq_yes h61
    have H61 := Lib.hid h61
    clear h61
    by_cases h1 : a + 1 < s.size
    · by_cases h2 : s[a + 1].toNat = 61
      · have g2 : ((s[a + 1].toNat : Int) == 61) = true := beq_yes h2
        have H2 := Lib.hid h2
        clear h2
        go_enter Tryz.func167, Tryz.ntmps167
        go_wp2
        go_ret
        exact ⟨ret_int (by rw [sl_two h0 H61.out h1 H2.out]; rfl), rfl⟩
      · have g2 : ((s[a + 1].toNat : Int) == 61) = false := beq_no h2
        have H2 := Lib.hid h2
        clear h2
        go_enter Tryz.func167, Tryz.ntmps167
        go_wp2
        go_ret
        exact ⟨ret_int (by rw [sl_eq h0 H61.out (fun _ => H2.out)]; rfl), rfl⟩
    · go_enter Tryz.func167, Tryz.ntmps167
      go_wp2
      go_ret
      exact ⟨ret_int (by rw [sl_eq h0 H61.out (fun h => absurd h h1)]; rfl), rfl⟩
  · have g61 : ((s[a].toNat : Int) == 61) = false := beq_no h61
    have H61 := Lib.hid h61
    clear h61
    cases ho : oneSign s[a].toNat
    · have H1 := Lib.hid ho
      simp only [oneSign, Bool.or_eq_false_iff, and_assoc] at ho
      obtain ⟨a1, a2, a3, a4, a5, a6, a7, a8, a9, a10, a11⟩ := ho
      go_enter Tryz.func167, Tryz.ntmps167
      go_wp2
      go_ret
      exact ⟨ret_int (by rw [sl_none h0 H61.out H1.out]; rfl), rfl⟩
    · have H1 := Lib.hid ho
      clear ho
      go_enter Tryz.func167, Tryz.ntmps167
      go_wp2
      all_goals
        first
          | (go_ret
             exact ⟨ret_int (by rw [sl_one h0 H61.out H1.out]; rfl), rfl⟩)
          | (exfalso; have := H1.out; simp_all [oneSign])
/-- The reference's Item of a token at a place: its four fields. -/
def iLen (t : Tk) : Int := if t.e = 0 then t.n else 0
def iAt (t : Tk) (a : Nat) : Int := if t.e = 0 then 0 else a + t.n
theorem ret_item {t : Tk} {a : Nat} {x y z u : Int} (hx : x = iLen t) (hy : y = t.kind) (hz : z = t.e) (hu : u = iAt t a) :
    Ending.returned (.agg #[.int .i64 x, .int .i64 y, .int .i64 z, .int .i64 u]) = .returned (.agg #[.int .i64 (iLen t), .int .i64 t.kind, .int .i64 t.e, .int .i64 (iAt t a)]) := by rw [hx, hy, hz, hu]
theorem ret_ok {t : Tk} {a : Nat} {x y : Int} (k n : Nat) (h : t = ⟨k, n, 0⟩) (hx : x = n) (hy : y = k) :
    Ending.returned (.agg #[.int .i64 x, .int .i64 y, .int .i64 0, .int .i64 0]) = .returned (.agg #[.int .i64 (iLen t), .int .i64 t.kind, .int .i64 t.e, .int .i64 (iAt t a)]) := by
  subst h hx hy
  rfl
theorem ret_err {t : Tk} {a : Nat} {z u : Int} (n e : Nat) (h : t = ⟨0, n, e + 1⟩) (hz : z = (e + 1 : Nat)) (hu : u = a + n) :
    Ending.returned (.agg #[.int .i64 0, .int .i64 0, .int .i64 z, .int .i64 u]) = .returned (.agg #[.int .i64 (iLen t), .int .i64 t.kind, .int .i64 t.e, .int .i64 (iAt t a)]) := by
  subst h hz hu
  rfl
theorem rreserved_part (s : ByteArray) (a b : Nat) (w : World) :
    Calls Tryz.prog 178 #[.string (s.extract a b)] w fun e w' => e = .returned (.bool (reservedB ((suf s a).take (b - a)))) ∧ w = w' := by
  rw [← suf_extract]
  exact rreserved_any _ w
theorem rword_here (s : ByteArray) (a : Nat) (w : World) (h0 : a < s.size) (hl : letterB s[a].toNat = true) (hs : s.size ≤ maxLen) :
    Calls Tryz.prog 177 #[.string s, .int .i64 a] w fun e w' => e = .returned (.int .i64 (wordLen (suf s a))) ∧ w = w' := by
  rw [← wordN_yes h0 hl]
  exact rword_any s a w (by omega) hs
theorem rword_no (s : ByteArray) (a n : Nat) (w : World) (hb : a + n + 1 < s.size) (hl : letterB s[a + n + 1].toNat = false) (hs : s.size ≤ maxLen) :
    Calls Tryz.prog 177 #[.string s, .int .i64 ((a : Int) + (n : Int) + 1)] w fun e w' => e = .returned (.int .i64 0) ∧ w = w' := by
  have h := rword_any s (a + n + 1) w (by omega) hs
  rw [wordN_no hb hl] at h
  rwa [show ((a + n + 1 : Nat) : Int) = (a : Int) + (n : Int) + 1 from by omega] at h
theorem rword_yes (s : ByteArray) (a n : Nat) (w : World) (hb : a + n + 1 < s.size) (hl : letterB s[a + n + 1].toNat = true) (hs : s.size ≤ maxLen) :
    Calls Tryz.prog 177 #[.string s, .int .i64 ((a : Int) + (n : Int) + 1)] w fun e w' => e = .returned (.int .i64 (wordLen (suf s (a + n + 1)))) ∧ w = w' := by
  have h := rword_any s (a + n + 1) w (by omega) hs
  rw [wordN_yes hb hl] at h
  rwa [show ((a + n + 1 : Nat) : Int) = (a : Int) + (n : Int) + 1 from by omega] at h
theorem letter_word {c : Int} (h : letterB c = true) : wordB c = true := by unfold wordB; rw [h]; rfl
theorem wordLen_pos {s : ByteArray} {a : Nat} (h : a < s.size) (hl : letterB s[a].toNat = true) : 0 < wordLen (suf s a) := by
  unfold wordLen
  rw [suf_cons s a h]
  simp [runLen, letter_word hl]
theorem part_zero (s : ByteArray) (a m : Nat) (h : 0 < (s.extract a (a + m)).size) : (s.extract a (a + m))[0].toNat = at' (suf s a) 0 := by
  have hm : 0 < m := by rw [ByteArray.size_extract] at h; omega
  rw [← at_zero _ 0 h, suf_extract]
  unfold at'
  rw [List.getD_eq_getElem?_getD, List.getD_eq_getElem?_getD, List.getElem?_take, if_pos (by omega)]
section
variable (s : ByteArray) (a n : Nat)
theorem at_two : at' (suf s a) (n + 1) = at' (suf s (a + n + 1)) 0 := by
  rw [at_drop s a, at_drop s (a + n + 1)]
  rfl
theorem q_long (h : 24 < n ∨ 24 < wordLen (suf s (a + n + 1))) : qualT (suf s a) n = ⟨0, 0, 3⟩ := by
  unfold qualT
  rw [suf_drop, ← Nat.add_assoc, if_pos h]
theorem q_res (h : ¬ (24 < n ∨ 24 < wordLen (suf s (a + n + 1)))) (hr : reservedB ((suf s (a + n + 1)).take (wordLen (suf s (a + n + 1)))) = true) : qualT (suf s a) n = ⟨0, 0, 2⟩ := by
  unfold qualT
  rw [suf_drop, ← Nat.add_assoc, if_neg h, if_pos hr]
theorem q_up (h : ¬ (24 < n ∨ 24 < wordLen (suf s (a + n + 1)))) (hr : reservedB ((suf s (a + n + 1)).take (wordLen (suf s (a + n + 1)))) = false) (hu : upperB (at' (suf s (a + n + 1)) 0) = true) :
    qualT (suf s a) n = ⟨4, n + 1 + wordLen (suf s (a + n + 1)), 0⟩ := by
  unfold qualT
  rw [suf_drop, ← Nat.add_assoc, if_neg h, if_neg (by simp [hr]), if_pos (by rw [at_two]; exact hu)]
theorem q_low (h : ¬ (24 < n ∨ 24 < wordLen (suf s (a + n + 1)))) (hr : reservedB ((suf s (a + n + 1)).take (wordLen (suf s (a + n + 1)))) = false) (hu : upperB (at' (suf s (a + n + 1)) 0) = false) :
    qualT (suf s a) n = ⟨3, n + 1 + wordLen (suf s (a + n + 1)), 0⟩ := by
  unfold qualT
  rw [suf_drop, ← Nat.add_assoc, if_neg h, if_neg (by simp [hr]), if_neg (by rw [at_two]; simp [hu])]
end
def WordsPost (s : ByteArray) (a : Nat) (w : World) (e : Ending) (w' : World) : Prop :=
  e = .returned (.agg #[.int .i64 (iLen (wordT (suf s a))), .int .i64 (wordT (suf s a)).kind, .int .i64 (wordT (suf s a)).e, .int .i64 (iAt (wordT (suf s a)) a)]) ∧ Below w.heap.size w w'
theorem dotted_eq (s : ByteArray) (a : Nat) (h0 : a < s.size) : dotted (suf s a) = (upperB s[a].toNat && !reservedB ((suf s a).take (wordLen (suf s a))) && decide (a + wordLen (suf s a) + 1 < s.size) && at' (suf s a) (wordLen (suf s a)) == 46 && letterB (at' (suf s a) (wordLen (suf s a) + 1))) := by
  unfold dotted
  rw [at_here s a h0, suf_length]
  congr 3
  exact decide_eq_decide.2 (by omega)
set_option maxHeartbeats 1000000 in
theorem words_low (s : ByteArray) (a : Nat) (w : World) (h0 : a < s.size) (hl : letterB s[a].toNat = true) (hs : s.size < maxLen) (hu : upperB s[a].toNat = false) :
    Calls Tryz.prog 166 #[.string s, .int .i64 a] w (WordsPost s a w) := by
  have HS := Lib.hid (Nat.le_of_lt hs)
  have hm := wordLen_le s a
  have HL := Lib.hid hl
  have H0 := Lib.hid (at_here s a h0)
  have HD := Lib.hid (dotted_eq s a h0)
  clear hl
  unfold maxLen at hs
  cases hr : reservedB ((suf s a).take (wordLen (suf s a)))
  all_goals
    have HP := Lib.hid (wordT_plain (show dotted (suf s a) = false from by rw [HD.out, hu]; rfl))
    by_cases h24 : 24 < wordLen (suf s a)
    all_goals
      go_enter Tryz.func166, Tryz.ntmps166
      go_wp2_with (first | (go_at_call 177; ((with_reducible refine (rword_here _ _ _ h0 HL.out HS.out).mono ?_); rintro e w' ⟨rfl, rfl⟩)) | (go_at_call 178; refine (rreserved_part _ _ _ _).mono ?_; rintro e w' ⟨rfl, rfl⟩) | (go_at_call 165; refine (rupper_any _ _).mono ?_; rintro e w' ⟨rfl, rfl⟩))
      first
        | exact bodyPost_ret (v := .agg #[.int .i64 0, .int .i64 0, .int .i64 3, .int .i64 a]) (by simp [results, Tryz.results166, go_sem]) rfl ⟨ret_err 0 2 (HP.out.trans (plain_long h24)) rfl (by omega), (Below.refl _ _).alloc (Nat.le_refl _) _⟩
        | exact bodyPost_ret (v := .agg #[.int .i64 (wordLen (suf s a) : Nat), .int .i64 7, .int .i64 0, .int .i64 0]) (by simp [results, Tryz.results166, go_sem]) rfl ⟨ret_ok 7 _ (HP.out.trans (plain_res h24 hr)) rfl rfl, (Below.refl _ _).alloc (Nat.le_refl _) _⟩
        | exact bodyPost_ret (v := .agg #[.int .i64 (wordLen (suf s a) : Nat), .int .i64 2, .int .i64 0, .int .i64 0]) (by simp [results, Tryz.results166, go_sem]) rfl ⟨ret_ok 2 _ (HP.out.trans (plain_up h24 hr (by rw [H0.out]; exact hu))) rfl rfl, (Below.refl _ _).alloc (Nat.le_refl _) _⟩
        | exact bodyPost_ret (v := .agg #[.int .i64 (wordLen (suf s a) : Nat), .int .i64 1, .int .i64 0, .int .i64 0]) (by simp [results, Tryz.results166, go_sem]) rfl ⟨ret_ok 1 _ (HP.out.trans (plain_low h24 hr (by rw [H0.out]; exact hu))) rfl rfl, (Below.refl _ _).alloc (Nat.le_refl _) _⟩
set_option maxHeartbeats 1000000 in
theorem words_res (s : ByteArray) (a : Nat) (w : World) (h0 : a < s.size) (hl : letterB s[a].toNat = true) (hs : s.size < maxLen) (hu : upperB s[a].toNat = true) (hr : reservedB ((suf s a).take (wordLen (suf s a))) = true) :
    Calls Tryz.prog 166 #[.string s, .int .i64 a] w (WordsPost s a w) := by
  have HS := Lib.hid (Nat.le_of_lt hs)
  have hm := wordLen_le s a
  have HL := Lib.hid hl
  have H0 := Lib.hid (at_here s a h0)
  have HD := Lib.hid (dotted_eq s a h0)
  clear hl
  unfold maxLen at hs
  have HP := Lib.hid (wordT_plain (show dotted (suf s a) = false from by rw [HD.out, hr]; simp))
  by_cases h24 : 24 < wordLen (suf s a)
  all_goals
    go_enter Tryz.func166, Tryz.ntmps166
    go_wp2_with (first | (go_at_call 177; ((with_reducible refine (rword_here _ _ _ h0 HL.out HS.out).mono ?_); rintro e w' ⟨rfl, rfl⟩)) | (go_at_call 178; refine (rreserved_part _ _ _ _).mono ?_; rintro e w' ⟨rfl, rfl⟩) | (go_at_call 165; refine (rupper_any _ _).mono ?_; rintro e w' ⟨rfl, rfl⟩))
    first
      | exact bodyPost_ret (v := .agg #[.int .i64 0, .int .i64 0, .int .i64 3, .int .i64 a]) (by simp [results, Tryz.results166, go_sem]) rfl ⟨ret_err 0 2 (HP.out.trans (plain_long h24)) rfl (by omega), (Below.refl _ _).alloc (Nat.le_refl _) _⟩
      | exact bodyPost_ret (v := .agg #[.int .i64 (wordLen (suf s a) : Nat), .int .i64 7, .int .i64 0, .int .i64 0]) (by simp [results, Tryz.results166, go_sem]) rfl ⟨ret_ok 7 _ (HP.out.trans (plain_res h24 hr)) rfl rfl, (Below.refl _ _).alloc (Nat.le_refl _) _⟩
      | exact bodyPost_ret (v := .agg #[.int .i64 (wordLen (suf s a) : Nat), .int .i64 2, .int .i64 0, .int .i64 0]) (by simp [results, Tryz.results166, go_sem]) rfl ⟨ret_ok 2 _ (HP.out.trans (plain_up h24 hr (by rw [H0.out]; exact hu))) rfl rfl, (Below.refl _ _).alloc (Nat.le_refl _) _⟩
      | exact bodyPost_ret (v := .agg #[.int .i64 (wordLen (suf s a) : Nat), .int .i64 1, .int .i64 0, .int .i64 0]) (by simp [results, Tryz.results166, go_sem]) rfl ⟨ret_ok 1 _ (HP.out.trans (plain_low h24 hr (by rw [H0.out]; exact hu))) rfl rfl, (Below.refl _ _).alloc (Nat.le_refl _) _⟩
set_option maxHeartbeats 1000000 in
theorem words_short (s : ByteArray) (a : Nat) (w : World) (h0 : a < s.size) (hl : letterB s[a].toNat = true) (hs : s.size < maxLen) (hu : upperB s[a].toNat = true) (hr : reservedB ((suf s a).take (wordLen (suf s a))) = false) (hn : ¬ a + wordLen (suf s a) + 1 < s.size) :
    Calls Tryz.prog 166 #[.string s, .int .i64 a] w (WordsPost s a w) := by
  have HS := Lib.hid (Nat.le_of_lt hs)
  have hm := wordLen_le s a
  have HL := Lib.hid hl
  have H0 := Lib.hid (at_here s a h0)
  have HD := Lib.hid (dotted_eq s a h0)
  clear hl
  unfold maxLen at hs
  have hn' : ¬ (a : Int) + (wordLen (suf s a) : Nat) + 1 < (s.size : Int) := by omega
  have HP := Lib.hid (wordT_plain (show dotted (suf s a) = false from by rw [HD.out, decide_eq_false hn]; simp))
  by_cases h24 : 24 < wordLen (suf s a)
  all_goals
    go_enter Tryz.func166, Tryz.ntmps166
    go_wp2_with (first | (go_at_call 177; ((with_reducible refine (rword_here _ _ _ h0 HL.out HS.out).mono ?_); rintro e w' ⟨rfl, rfl⟩)) | (go_at_call 178; refine (rreserved_part _ _ _ _).mono ?_; rintro e w' ⟨rfl, rfl⟩) | (go_at_call 165; refine (rupper_any _ _).mono ?_; rintro e w' ⟨rfl, rfl⟩))
    first
      | exact bodyPost_ret (v := .agg #[.int .i64 0, .int .i64 0, .int .i64 3, .int .i64 a]) (by simp [results, Tryz.results166, go_sem]) rfl ⟨ret_err 0 2 (HP.out.trans (plain_long h24)) rfl (by omega), (Below.refl _ _).alloc (Nat.le_refl _) _⟩
      | exact bodyPost_ret (v := .agg #[.int .i64 (wordLen (suf s a) : Nat), .int .i64 7, .int .i64 0, .int .i64 0]) (by simp [results, Tryz.results166, go_sem]) rfl ⟨ret_ok 7 _ (HP.out.trans (plain_res h24 hr)) rfl rfl, (Below.refl _ _).alloc (Nat.le_refl _) _⟩
      | exact bodyPost_ret (v := .agg #[.int .i64 (wordLen (suf s a) : Nat), .int .i64 2, .int .i64 0, .int .i64 0]) (by simp [results, Tryz.results166, go_sem]) rfl ⟨ret_ok 2 _ (HP.out.trans (plain_up h24 hr (by rw [H0.out]; exact hu))) rfl rfl, (Below.refl _ _).alloc (Nat.le_refl _) _⟩
      | exact bodyPost_ret (v := .agg #[.int .i64 (wordLen (suf s a) : Nat), .int .i64 1, .int .i64 0, .int .i64 0]) (by simp [results, Tryz.results166, go_sem]) rfl ⟨ret_ok 1 _ (HP.out.trans (plain_low h24 hr (by rw [H0.out]; exact hu))) rfl rfl, (Below.refl _ _).alloc (Nat.le_refl _) _⟩
set_option maxHeartbeats 1000000 in
theorem words_other (s : ByteArray) (a : Nat) (w : World) (h0 : a < s.size) (hl : letterB s[a].toNat = true) (hs : s.size < maxLen) (hu : upperB s[a].toNat = true) (hr : reservedB ((suf s a).take (wordLen (suf s a))) = false) (hn : a + wordLen (suf s a) + 1 < s.size) (h46 : s[a + wordLen (suf s a)].toNat ≠ 46) :
    Calls Tryz.prog 166 #[.string s, .int .i64 a] w (WordsPost s a w) := by
  have HS := Lib.hid (Nat.le_of_lt hs)
  have hm := wordLen_le s a
  have HL := Lib.hid hl
  have H0 := Lib.hid (at_here s a h0)
  have HD := Lib.hid (dotted_eq s a h0)
  clear hl
  unfold maxLen at hs
  have hn' : (a : Int) + (wordLen (suf s a) : Nat) + 1 < (s.size : Int) := by omega
  have g46 : ((s[a + wordLen (suf s a)].toNat : Int) == 46) = false := beq_no h46
  have H46 := Lib.hid h46
  clear h46
  have HP := Lib.hid (wordT_plain (show dotted (suf s a) = false from by rw [HD.out, at_suf s a (wordLen (suf s a)) (by omega), beq_eq_false_iff_ne.2 H46.out]; simp))
  by_cases h24 : 24 < wordLen (suf s a)
  all_goals
    go_enter Tryz.func166, Tryz.ntmps166
    go_wp2_with (first | (go_at_call 177; ((with_reducible refine (rword_here _ _ _ h0 HL.out HS.out).mono ?_); rintro e w' ⟨rfl, rfl⟩)) | (go_at_call 178; refine (rreserved_part _ _ _ _).mono ?_; rintro e w' ⟨rfl, rfl⟩) | (go_at_call 165; refine (rupper_any _ _).mono ?_; rintro e w' ⟨rfl, rfl⟩))
    first
      | exact bodyPost_ret (v := .agg #[.int .i64 0, .int .i64 0, .int .i64 3, .int .i64 a]) (by simp [results, Tryz.results166, go_sem]) rfl ⟨ret_err 0 2 (HP.out.trans (plain_long h24)) rfl (by omega), (Below.refl _ _).alloc (Nat.le_refl _) _⟩
      | exact bodyPost_ret (v := .agg #[.int .i64 (wordLen (suf s a) : Nat), .int .i64 7, .int .i64 0, .int .i64 0]) (by simp [results, Tryz.results166, go_sem]) rfl ⟨ret_ok 7 _ (HP.out.trans (plain_res h24 hr)) rfl rfl, (Below.refl _ _).alloc (Nat.le_refl _) _⟩
      | exact bodyPost_ret (v := .agg #[.int .i64 (wordLen (suf s a) : Nat), .int .i64 2, .int .i64 0, .int .i64 0]) (by simp [results, Tryz.results166, go_sem]) rfl ⟨ret_ok 2 _ (HP.out.trans (plain_up h24 hr (by rw [H0.out]; exact hu))) rfl rfl, (Below.refl _ _).alloc (Nat.le_refl _) _⟩
      | exact bodyPost_ret (v := .agg #[.int .i64 (wordLen (suf s a) : Nat), .int .i64 1, .int .i64 0, .int .i64 0]) (by simp [results, Tryz.results166, go_sem]) rfl ⟨ret_ok 1 _ (HP.out.trans (plain_low h24 hr (by rw [H0.out]; exact hu))) rfl rfl, (Below.refl _ _).alloc (Nat.le_refl _) _⟩
set_option maxHeartbeats 1000000 in
theorem words_dot (s : ByteArray) (a : Nat) (w : World) (h0 : a < s.size) (hl : letterB s[a].toNat = true) (hs : s.size < maxLen) (hu : upperB s[a].toNat = true) (hr : reservedB ((suf s a).take (wordLen (suf s a))) = false) (hn : a + wordLen (suf s a) + 1 < s.size) (h46 : s[a + wordLen (suf s a)].toNat = 46) (hz : letterB s[a + wordLen (suf s a) + 1].toNat = false) :
    Calls Tryz.prog 166 #[.string s, .int .i64 a] w (WordsPost s a w) := by
  have HS := Lib.hid (Nat.le_of_lt hs)
  have hm := wordLen_le s a
  have HL := Lib.hid hl
  have H0 := Lib.hid (at_here s a h0)
  have HD := Lib.hid (dotted_eq s a h0)
  clear hl
  unfold maxLen at hs
  have hn' : (a : Int) + (wordLen (suf s a) : Nat) + 1 < (s.size : Int) := by omega
  have g46 : ((s[a + wordLen (suf s a)].toNat : Int) == 46) = true := beq_yes h46
  have HZ := Lib.hid hz
  clear h46 hz
  have HP := Lib.hid (wordT_plain (show dotted (suf s a) = false from by rw [HD.out, at_two, at_here s (a + wordLen (suf s a) + 1) hn, HZ.out]; simp))
  by_cases h24 : 24 < wordLen (suf s a)
  all_goals
    go_enter Tryz.func166, Tryz.ntmps166
    go_wp2_with (first | (go_at_call 177; ((with_reducible refine (rword_here _ _ _ h0 HL.out HS.out).mono ?_); rintro e w' ⟨rfl, rfl⟩)) | (go_at_call 178; refine (rreserved_part _ _ _ _).mono ?_; rintro e w' ⟨rfl, rfl⟩) | (go_at_call 165; refine (rupper_any _ _).mono ?_; rintro e w' ⟨rfl, rfl⟩) | (go_at_call 177; ((with_reducible refine (rword_no _ _ _ _ hn HZ.out HS.out).mono ?_); rintro e w' ⟨rfl, rfl⟩)))
    first
      | exact bodyPost_ret (v := .agg #[.int .i64 0, .int .i64 0, .int .i64 3, .int .i64 a]) (by simp [results, Tryz.results166, go_sem]) rfl ⟨ret_err 0 2 (HP.out.trans (plain_long h24)) rfl (by omega), (Below.refl _ _).alloc (Nat.le_refl _) _⟩
      | exact bodyPost_ret (v := .agg #[.int .i64 (wordLen (suf s a) : Nat), .int .i64 7, .int .i64 0, .int .i64 0]) (by simp [results, Tryz.results166, go_sem]) rfl ⟨ret_ok 7 _ (HP.out.trans (plain_res h24 hr)) rfl rfl, (Below.refl _ _).alloc (Nat.le_refl _) _⟩
      | exact bodyPost_ret (v := .agg #[.int .i64 (wordLen (suf s a) : Nat), .int .i64 2, .int .i64 0, .int .i64 0]) (by simp [results, Tryz.results166, go_sem]) rfl ⟨ret_ok 2 _ (HP.out.trans (plain_up h24 hr (by rw [H0.out]; exact hu))) rfl rfl, (Below.refl _ _).alloc (Nat.le_refl _) _⟩
      | exact bodyPost_ret (v := .agg #[.int .i64 (wordLen (suf s a) : Nat), .int .i64 1, .int .i64 0, .int .i64 0]) (by simp [results, Tryz.results166, go_sem]) rfl ⟨ret_ok 1 _ (HP.out.trans (plain_low h24 hr (by rw [H0.out]; exact hu))) rfl rfl, (Below.refl _ _).alloc (Nat.le_refl _) _⟩
end Go.Proofs.YtpdmklbfbpdneaaGreat
