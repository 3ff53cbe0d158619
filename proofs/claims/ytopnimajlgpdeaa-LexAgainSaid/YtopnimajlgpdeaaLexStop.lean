/- A token that is followed by what does not continue it stays the same token. No condition. -/
import Derived.Test.YtopnimajlgpdeaaLexOwn
namespace Go.Proofs.Ytopnimajlgpdeaa
theorem runLen_yes {p : Int → Bool} {c : UInt8} (h : p c.toNat = true) (r : List UInt8) : runLen p (c :: r) = runLen p r + 1 := by simp [runLen, h]
theorem runLen_no {p : Int → Bool} {c : UInt8} (h : ¬ p c.toNat = true) (r : List UInt8) : runLen p (c :: r) = 0 := by simp [runLen, h]
theorem runLen_full {p : Int → Bool} {a : List UInt8} (h : runLen p a = a.length) (x : List UInt8) : runLen p (a ++ x) = a.length + runLen p x := by
  induction a with
  | nil => simp
  | cons c r ih =>
    rw [List.cons_append, List.length_cons]
    rw [List.length_cons] at h
    by_cases hp : p c.toNat = true
    · rw [runLen_yes hp] at h ⊢
      rw [ih (by omega)]
      omega
    · rw [runLen_no hp] at h
      omega
theorem runLen_part {p : Int → Bool} {a : List UInt8} (h : runLen p a ≠ a.length) (x : List UInt8) : runLen p (a ++ x) = runLen p a := by
  induction a with
  | nil => exact absurd rfl h
  | cons c r ih =>
    rw [List.cons_append]
    rw [List.length_cons] at h
    by_cases hp : p c.toNat = true
    · rw [runLen_yes hp] at h ⊢
      rw [runLen_yes hp, ih (by omega)]
    · rw [runLen_no hp, runLen_no hp]
theorem at_app {a : List UInt8} {k : Nat} (h : k < a.length) (x : List UInt8) : at' (a ++ x) k = at' a k := by
  unfold at'
  rw [List.getD_eq_getElem?_getD, List.getD_eq_getElem?_getD, List.getElem?_append_left h]
theorem at_next (a : List UInt8) (d : UInt8) (r : List UInt8) : at' (a ++ d :: r) a.length = d.toNat := by
  unfold at'
  rw [List.getD_eq_getElem?_getD, List.getElem?_append_right (Nat.le_refl _), Nat.sub_self]
  rfl
theorem quotT_app (a : List UInt8) : ∀ i x, (quotT i a).e = 0 → quotT i (a ++ x) = quotT i a := by
  induction a with
  | nil => intro i x h; simp [quotT] at h
  | cons c r ih =>
    intro i x h
    rw [List.cons_append]
    unfold quotT at h ⊢
    by_cases h1 : c.toNat = 34
    · rw [if_pos h1, if_pos h1]
    · rw [if_neg h1] at h ⊢
      rw [if_neg h1]
      by_cases h2 : c.toNat = 92 ∨ c.toNat = 9 ∨ c.toNat = 10 ∨ c.toNat = 13
      · rw [if_pos h2] at h
        cases h
      · rw [if_neg h2] at h ⊢
        rw [if_neg h2]
        by_cases h3 : allowedB c.toNat = true
        · rw [if_pos h3] at h ⊢
          rw [if_pos h3]
          exact ih _ _ h
        · rw [if_neg h3] at h
          cases h
/-- Does this byte continue the token a? -/
def goes (a : List UInt8) (d : UInt8) : Bool :=
  if letterB (at' a 0) then wordB d.toNat
  else if digitB (at' a 0) then digitB d.toNat
  else at' a 0 == 61 && a.length == 1 && d.toNat == 61
theorem plain_n {l : List UInt8} (h : (plainT l).e = 0) : (plainT l).n = wordLen l := by
  unfold plainT at h ⊢
  by_cases h1 : 24 < wordLen l
  · rw [if_pos h1] at h
    cases h
  · rw [if_neg h1]
    split
    · rfl
    · split <;> rfl
theorem qual_n {l : List UInt8} {n : Nat} (h : (qualT l n).e = 0) : (qualT l n).n = n + 1 + wordLen (l.drop (n + 1)) := by
  unfold qualT at h ⊢
  by_cases h1 : 24 < n ∨ 24 < wordLen (l.drop (n + 1))
  · rw [if_pos h1] at h
    cases h
  · rw [if_neg h1] at h ⊢
    by_cases h2 : reservedB ((l.drop (n + 1)).take (wordLen (l.drop (n + 1)))) = true
    · rw [if_pos h2] at h
      cases h
    · rw [if_neg h2]
      split <;> rfl
theorem num_n {l : List UInt8} (h : (numT l).e = 0) : (numT l).n = numLen l := by
  unfold numT at h ⊢
  by_cases h1 : 1 < numLen l ∧ at' l 0 = 48
  · rw [if_pos h1] at h
    cases h
  · rw [if_neg h1] at h ⊢
    by_cases h2 : 15 < numLen l
    · rw [if_pos h2] at h
      cases h
    · rw [if_neg h2]
theorem run_next {p : Int → Bool} {d : UInt8} (h : p d.toNat = false) (r : List UInt8) : runLen p (d :: r) = 0 := by simp [runLen, h]
theorem run_next_yes {p : Int → Bool} {d : UInt8} (h : p d.toNat = true) (r : List UInt8) : 0 < runLen p (d :: r) := by simp [runLen, h]
theorem dotted_parts {l : List UInt8} (h : dotted l = true) : wordLen l + 1 < l.length ∧ at' l (wordLen l) = 46 := by
  unfold dotted at h
  simp only [Bool.and_eq_true, decide_eq_true_eq, beq_iff_eq] at h
  exact ⟨h.1.1.2, h.1.2⟩
theorem dotted_app {a : List UInt8} (h : wordLen a + 1 < a.length) (x : List UInt8) : dotted (a ++ x) = dotted a := by
  have hw : wordLen (a ++ x) = wordLen a := runLen_part (by show wordLen a ≠ _; omega) x
  unfold dotted
  rw [hw, at_app (by omega), at_app (by omega), at_app (by omega), List.take_append_of_le_length (by omega), List.length_append, decide_eq_true h, decide_eq_true (by omega)]
theorem word_stop {a : List UInt8} {d : UInt8} (h0 : 0 < a.length) (he : (wordT a).e = 0) (hn : (wordT a).n = a.length) (hd : wordB d.toNat = false) (h46 : d.toNat ≠ 46) (r : List UInt8) : wordT (a ++ d :: r) = wordT a := by
  have hz := run_next hd r
  unfold wordT at he hn ⊢
  by_cases hdot : dotted a = true
  · rw [if_pos hdot] at he hn ⊢
    obtain ⟨hl, _⟩ := dotted_parts hdot
    have hw : wordLen (a ++ d :: r) = wordLen a := runLen_part (by show wordLen a ≠ _; omega) _
    have hq := qual_n he
    rw [dotted_app hl, if_pos hdot, hw]
    have hdr : (a ++ d :: r).drop (wordLen a + 1) = a.drop (wordLen a + 1) ++ d :: r := List.drop_append_of_le_length (by omega)
    have hfull : runLen wordB (a.drop (wordLen a + 1)) = (a.drop (wordLen a + 1)).length := by
      show wordLen _ = _
      rw [List.length_drop]
      omega
    have hwl : wordLen (a.drop (wordLen a + 1) ++ d :: r) = wordLen (a.drop (wordLen a + 1)) := by
      show runLen wordB _ = runLen wordB _
      rw [runLen_full hfull, hz, hfull, Nat.add_zero]
    unfold qualT
    rw [hdr, hwl, at_app hl, List.take_append_of_le_length (wordLen_len _)]
  · rw [if_neg hdot] at he hn ⊢
    have hp := plain_n he
    have hfull : runLen wordB a = a.length := by
      show wordLen a = _
      omega
    have hw : wordLen (a ++ d :: r) = wordLen a := by
      show runLen wordB _ = runLen wordB _
      rw [runLen_full hfull, hz, hfull, Nat.add_zero]
    have hnd : ¬ dotted (a ++ d :: r) = true := by
      intro h
      have := (dotted_parts h).2
      rw [hw, show wordLen a = a.length from hfull, at_next] at this
      exact h46 this
    rw [if_neg hnd]
    unfold plainT
    rw [hw, at_app h0, List.take_append_of_le_length (by show runLen wordB a ≤ _; omega)]
theorem num_stop {a : List UInt8} {d : UInt8} (h0 : 0 < a.length) (he : (numT a).e = 0) (hn : (numT a).n = a.length) (hd : digitB d.toNat = false) (r : List UInt8) : numT (a ++ d :: r) = numT a := by
  have hp := num_n he
  have hfull : runLen digitB a = a.length := by
    show numLen a = _
    omega
  have hw : numLen (a ++ d :: r) = numLen a := by
    show runLen digitB _ = runLen digitB _
    rw [runLen_full hfull, run_next hd, hfull, Nat.add_zero]
  unfold numT
  rw [hw, at_app h0]
theorem sign_stop {a : List UInt8} {d : UInt8} (h0 : 0 < a.length) (he : (signT a).e = 0) (hn : (signT a).n = a.length) (hd : ¬ (at' a 0 = 61 ∧ a.length = 1 ∧ d.toNat = 61)) (r : List UInt8) : signT (a ++ d :: r) = signT a := by
  have hz : signLen a ≠ 0 := by
    intro hz
    unfold signT at he
    rw [if_pos hz] at he
    cases he
  have hl : signLen a = a.length := by
    unfold signT at hn
    rw [if_neg hz] at hn
    exact hn
  have hs : signLen (a ++ d :: r) = signLen a := by
    unfold signLen at hl ⊢
    rw [at_app h0]
    by_cases h1 : at' a 0 = 61
    · rw [if_pos h1] at hl ⊢
      rw [if_pos h1]
      by_cases h2 : at' a 1 = 61
      · rw [if_pos h2] at hl ⊢
        rw [at_app (by omega), if_pos h2]
      · rw [if_neg h2] at hl ⊢
        have : at' (a ++ d :: r) 1 = d.toNat := by rw [hl]; exact at_next a d r
        rw [this, if_neg (fun h => hd ⟨h1, hl.symm, h⟩)]
    · rw [if_neg h1, if_neg h1]
  unfold signT
  rw [hs]
/-- A token, followed by a byte that does not continue it, is the same token. -/
theorem tok_stop {a : List UInt8} {d : UInt8} (he : (tokT a).e = 0) (hn : (tokT a).n = a.length) (hg : goes a d = false) (h46 : d.toNat ≠ 46) (r : List UInt8) : tokT (a ++ d :: r) = tokT a := by
  have h0 : 0 < a.length := by have := (tok_len he).1; omega
  unfold goes at hg
  unfold tokT at he hn ⊢
  rw [at_app h0]
  by_cases ha : allowedB (at' a 0) = false
  · rw [if_pos ha, if_pos ha]
  · rw [if_neg ha] at he hn ⊢
    rw [if_neg ha]
    by_cases hl : letterB (at' a 0) = true
    · rw [if_pos hl] at he hn hg ⊢
      rw [if_pos hl]
      exact word_stop h0 he hn hg h46 r
    · rw [if_neg hl] at he hn hg ⊢
      rw [if_neg hl]
      by_cases hd : digitB (at' a 0) = true
      · rw [if_pos hd] at he hn hg ⊢
        rw [if_pos hd]
        exact num_stop h0 he hn hg r
      · rw [if_neg hd] at he hn hg ⊢
        rw [if_neg hd]
        by_cases h34 : at' a 0 = 34
        · rw [if_pos h34] at he hn ⊢
          rw [if_pos h34, List.drop_append_of_le_length (by omega)]
          exact quotT_app _ _ _ he
        · rw [if_neg h34] at he hn ⊢
          rw [if_neg h34]
          exact sign_stop h0 he hn (by intro h; rw [h.1, h.2.1, h.2.2] at hg; exact absurd hg (by decide)) r
/-- A byte that continues it makes another token, or none. -/
theorem tok_goes {a : List UInt8} {d : UInt8} (he : (tokT a).e = 0) (hn : (tokT a).n = a.length) (hg : goes a d = true) (r : List UInt8) (he2 : (tokT (a ++ d :: r)).e = 0) : (tokT (a ++ d :: r)).n ≠ a.length := by
  have h0 : 0 < a.length := by have := (tok_len he).1; omega
  unfold goes at hg
  unfold tokT at he hn he2 ⊢
  rw [at_app h0] at he2 ⊢
  by_cases ha : allowedB (at' a 0) = false
  · rw [if_pos ha] at he
    cases he
  · rw [if_neg ha] at he hn he2 ⊢
    by_cases hl : letterB (at' a 0) = true
    · rw [if_pos hl] at he hn hg he2 ⊢
      have hz := run_next_yes hg r
      unfold wordT at he hn he2 ⊢
      by_cases hdot : dotted a = true
      · rw [if_pos hdot] at he hn
        obtain ⟨hl2, _⟩ := dotted_parts hdot
        have hw : wordLen (a ++ d :: r) = wordLen a := runLen_part (by show wordLen a ≠ _; omega) _
        have hq := qual_n he
        rw [dotted_app hl2, if_pos hdot, hw] at he2 ⊢
        rw [qual_n he2, List.drop_append_of_le_length (by omega)]
        have hfull : runLen wordB (a.drop (wordLen a + 1)) = (a.drop (wordLen a + 1)).length := by
          show wordLen _ = _
          rw [List.length_drop]
          omega
        have : wordLen (a.drop (wordLen a + 1) ++ d :: r) = (a.drop (wordLen a + 1)).length + runLen wordB (d :: r) := runLen_full hfull _
        rw [this, List.length_drop]
        omega
      · rw [if_neg hdot] at he hn
        have hp := plain_n he
        have hfull : runLen wordB a = a.length := by
          show wordLen a = _
          omega
        have hw : wordLen (a ++ d :: r) = a.length + runLen wordB (d :: r) := runLen_full hfull _
        by_cases hd2 : dotted (a ++ d :: r) = true
        · rw [if_pos hd2] at he2 ⊢
          rw [qual_n he2, hw]
          omega
        · rw [if_neg hd2] at he2 ⊢
          rw [plain_n he2, hw]
          omega
    · rw [if_neg hl] at he hn hg he2 ⊢
      by_cases hd : digitB (at' a 0) = true
      · rw [if_pos hd] at he hn hg he2 ⊢
        have hp := num_n he
        have hfull : runLen digitB a = a.length := by
          show numLen a = _
          omega
        have hw : numLen (a ++ d :: r) = a.length + runLen digitB (d :: r) := runLen_full hfull _
        have := run_next_yes hg r
        rw [num_n he2, hw]
        omega
      · rw [if_neg hd] at he hn hg he2 ⊢
        simp only [Bool.and_eq_true, beq_iff_eq] at hg
        obtain ⟨⟨h1, h2⟩, h3⟩ := hg
        rw [h1, if_neg (by decide)] at he2 ⊢
        have hs : signLen (a ++ d :: r) = 2 := by
          unfold signLen
          have : at' (a ++ d :: r) 1 = d.toNat := by rw [← h2]; exact at_next a d r
          rw [at_app h0, if_pos h1, this, if_pos h3]
        unfold signT
        rw [hs, if_neg (by decide), h2]
        decide
end Go.Proofs.Ytopnimajlgpdeaa
