/- A token that is cut out is the same token: what begins with a token, cut behind it, is that token; and its class is its kind. No condition. -/
import Derived.Test.YtopnimajlgpdeaaLexScanPure
import Derived.Test.YtopnimajlgpdeaaLexTokPure
namespace Go.Proofs.Ytopnimajlgpdeaa
theorem runLen_take (p : Int → Bool) (l : List UInt8) : ∀ m, runLen p l ≤ m → runLen p (l.take m) = runLen p l := by
  induction l with
  | nil => intro m _; simp [runLen]
  | cons c r ih =>
    intro m h
    cases m with
    | zero =>
      unfold runLen at h
      split at h
      · omega
      · rename_i hp
        simp [runLen, hp]
    | succ m =>
      rw [List.take_succ_cons]
      unfold runLen at h ⊢
      split
      · rename_i hp
        rw [if_pos hp] at h
        rw [ih m (by omega)]
      · rfl
theorem at_take (l : List UInt8) (m k : Nat) (h : k < m) : at' (l.take m) k = at' l k := by
  unfold at'
  rw [List.getD_eq_getElem?_getD, List.getD_eq_getElem?_getD, List.getElem?_take, if_pos h]
theorem at_take_out (l : List UInt8) (m k : Nat) (h : m ≤ k) : at' (l.take m) k = 0 := by
  unfold at'
  rw [List.getD_eq_getElem?_getD, List.getElem?_take, if_neg (by omega)]
  rfl
theorem quotT_kind (l : List UInt8) : ∀ i, (quotT i l).e = 0 → quotT i l = ⟨6, (quotT i l).n, 0⟩ := by
  induction l with
  | nil => intro i h; simp [quotT] at h
  | cons c r ih =>
    intro i h
    unfold quotT at h ⊢
    by_cases h1 : c.toNat = 34
    · rw [if_pos h1]
    · rw [if_neg h1] at h ⊢
      by_cases h2 : c.toNat = 92 ∨ c.toNat = 9 ∨ c.toNat = 10 ∨ c.toNat = 13
      · rw [if_pos h2] at h
        cases h
      · rw [if_neg h2] at h ⊢
        by_cases h3 : allowedB c.toNat = true
        · rw [if_pos h3] at h ⊢
          exact ih _ h
        · rw [if_neg h3] at h
          cases h
theorem quotT_take (l : List UInt8) : ∀ i, (quotT i l).e = 0 → quotT i (l.take ((quotT i l).n - i)) = quotT i l := by
  induction l with
  | nil => intro i h; simp [quotT] at h
  | cons c r ih =>
    intro i h
    have hn := (quotT_len (c :: r) i h).1
    unfold quotT at h hn
    by_cases h1 : c.toNat = 34
    · have e : quotT i (c :: r) = ⟨6, i + 1, 0⟩ := by rw [quotT, if_pos h1]
      rw [e, show i + 1 - i = 1 from by omega]
      rw [List.take_succ_cons, quotT, if_pos h1]
    · rw [if_neg h1] at h hn
      by_cases h2 : c.toNat = 92 ∨ c.toNat = 9 ∨ c.toNat = 10 ∨ c.toNat = 13
      · rw [if_pos h2] at h
        cases h
      · rw [if_neg h2] at h hn
        by_cases h3 : allowedB c.toNat = true
        · rw [if_pos h3] at h hn
          have e : quotT i (c :: r) = quotT (i + 1) r := by rw [quotT, if_neg h1, if_neg h2, if_pos h3]
          have h4 := (quotT_len r (i + 1) h).1
          rw [e, show (quotT (i + 1) r).n - i = ((quotT (i + 1) r).n - (i + 1)) + 1 from by omega, List.take_succ_cons, quotT, if_neg h1, if_neg h2, if_pos h3]
          exact ih _ h
        · rw [if_neg h3] at h
          cases h
theorem plain_take {l : List UInt8} (_hd : dotted l = false) (hw : 0 < wordLen l) (h : (plainT l).e = 0) : dotted (l.take (plainT l).n) = false ∧ plainT (l.take (plainT l).n) = plainT l := by
  have hn : (plainT l).n = wordLen l := by
    unfold plainT at h ⊢
    by_cases h1 : 24 < wordLen l
    · rw [if_pos h1] at h
      cases h
    · rw [if_neg h1]
      split
      · rfl
      · split <;> rfl
  have hwl : wordLen (l.take (wordLen l)) = wordLen l := runLen_take _ _ _ (Nat.le_refl _)
  rw [hn]
  constructor
  · unfold dotted
    rw [hwl, List.length_take]
    rw [show decide (wordLen l + 1 < min (wordLen l) l.length) = false from decide_eq_false (by omega)]
    simp
  · unfold plainT
    rw [hwl, List.take_take, Nat.min_self, at_take l _ 0 hw]
theorem qual_take {l : List UInt8} (hd : dotted l = true) (h : (qualT l (wordLen l)).e = 0) :
    dotted (l.take (qualT l (wordLen l)).n) = true ∧ wordLen (l.take (qualT l (wordLen l)).n) = wordLen l ∧ qualT (l.take (qualT l (wordLen l)).n) (wordLen l) = qualT l (wordLen l) := by
  have hn : (qualT l (wordLen l)).n = wordLen l + 1 + wordLen (l.drop (wordLen l + 1)) := by
    unfold qualT at h ⊢
    by_cases h1 : 24 < wordLen l ∨ 24 < wordLen (l.drop (wordLen l + 1))
    · rw [if_pos h1] at h
      cases h
    · rw [if_neg h1] at h ⊢
      by_cases h2 : reservedB ((l.drop (wordLen l + 1)).take (wordLen (l.drop (wordLen l + 1)))) = true
      · rw [if_pos h2] at h
        cases h
      · rw [if_neg h2]
        split <;> rfl
  rw [hn]
  unfold dotted at hd
  simp only [Bool.and_eq_true, decide_eq_true_eq, beq_iff_eq, Bool.not_eq_true'] at hd
  obtain ⟨⟨⟨⟨hu, hr⟩, hlen⟩, h46⟩, hl⟩ := hd
  generalize hW : wordLen l = W at *
  have hm : 0 < wordLen (l.drop (W + 1)) := by
    refine wordLen_head ?_
    have : at' (l.drop (W + 1)) 0 = at' l (W + 1) := by
      unfold at'
      rw [List.getD_eq_getElem?_getD, List.getD_eq_getElem?_getD, List.getElem?_drop, Nat.add_zero]
    rw [this]
    exact hl
  have hM := wordLen_len (l.drop (W + 1))
  rw [List.length_drop] at hM
  generalize hMM : wordLen (l.drop (W + 1)) = M at *
  have hw : wordLen (l.take (W + 1 + M)) = W := by
    rw [← hW]
    exact runLen_take _ _ _ (by show wordLen l ≤ _; omega)
  have hdr : (l.take (W + 1 + M)).drop (W + 1) = (l.drop (W + 1)).take M := by rw [List.drop_take, show W + 1 + M - (W + 1) = M from by omega]
  have hw2 : wordLen ((l.drop (W + 1)).take M) = M := by
    rw [← hMM]
    exact runLen_take _ _ _ (Nat.le_refl _)
  refine ⟨?_, hw, ?_⟩
  · unfold dotted
    rw [hw, at_take _ _ _ (by omega), at_take _ _ _ (by omega), at_take _ _ _ (by omega), List.take_take, Nat.min_eq_left (by omega), List.length_take, hu, hr, h46, hl, decide_eq_true (by omega)]
    rfl
  · unfold qualT
    rw [hdr, hw2, hMM, List.take_take, Nat.min_self, at_take _ _ _ (by omega)]
theorem num_take {l : List UInt8} (hw : 0 < numLen l) (h : (numT l).e = 0) : 0 < (numT l).n ∧ numT (l.take (numT l).n) = numT l := by
  have hn : (numT l).n = numLen l := by
    unfold numT at h ⊢
    by_cases h1 : 1 < numLen l ∧ at' l 0 = 48
    · rw [if_pos h1] at h
      cases h
    · rw [if_neg h1] at h ⊢
      by_cases h2 : 15 < numLen l
      · rw [if_pos h2] at h
        cases h
      · rw [if_neg h2]
  rw [hn]
  have hwl : numLen (l.take (numLen l)) = numLen l := runLen_take _ _ _ (Nat.le_refl _)
  refine ⟨hw, ?_⟩
  unfold numT
  rw [hwl, at_take l _ 0 hw]
theorem sign_take {l : List UInt8} (h : (signT l).e = 0) : 0 < (signT l).n ∧ signT (l.take (signT l).n) = signT l := by
  have hz : signLen l ≠ 0 := by
    intro hz
    unfold signT at h
    rw [if_pos hz] at h
    cases h
  have hn : (signT l).n = signLen l := by unfold signT; rw [if_neg hz]
  rw [hn]
  refine ⟨by omega, ?_⟩
  have hs : signLen (l.take (signLen l)) = signLen l := by
    have h0 : at' (l.take (signLen l)) 0 = at' l 0 := at_take _ _ _ (by omega)
    unfold signLen at h0 hz ⊢
    by_cases h1 : at' l 0 = 61
    · simp only [h1, if_true] at h0 hz ⊢
      by_cases h2 : at' l 1 = 61
      · simp only [h2, if_true] at h0 ⊢
        rw [h0, at_take l 2 1 (by omega), h2]
        rfl
      · simp only [h2, if_false] at h0 ⊢
        rw [h0, at_take_out l 1 1 (by omega)]
        rfl
    · simp only [h1, if_false] at h0 hz ⊢
      by_cases h2 : oneSign (at' l 0) = true
      · simp only [h2, if_true] at h0 ⊢
        rw [h0]
        simp [h1, h2]
      · simp [h2] at hz
  unfold signT
  rw [hs]
/-- A token, cut out, is the same token. -/
theorem tok_take {l : List UInt8} (h : (tokT l).e = 0) : tokT (l.take (tokT l).n) = tokT l := by
  have hpos := (tok_len h).1
  have h0 : at' (l.take (tokT l).n) 0 = at' l 0 := at_take _ _ _ hpos
  have key : ∀ m, at' (l.take m) 0 = at' l 0 → tokT (l.take m) = if allowedB (at' l 0) = false then ⟨0, 0, 1⟩ else if letterB (at' l 0) then wordT (l.take m) else if digitB (at' l 0) then numT (l.take m) else if at' l 0 = 34 then quotT 1 ((l.take m).drop 1) else signT (l.take m) := by
    intro m hm
    unfold tokT
    rw [hm]
  rw [key _ h0]
  clear key h0
  unfold tokT at h hpos ⊢
  by_cases ha : allowedB (at' l 0) = false
  · rw [if_pos ha] at h
    cases h
  · rw [if_neg ha] at h hpos ⊢
    rw [if_neg ha]
    by_cases hl : letterB (at' l 0) = true
    · rw [if_pos hl] at h hpos ⊢
      rw [if_pos hl]
      unfold wordT at h hpos ⊢
      by_cases hd : dotted l = true
      · rw [if_pos hd] at h hpos ⊢
        obtain ⟨q1, q2, q3⟩ := qual_take hd h
        rw [if_pos q1, q2, q3]
      · rw [if_neg hd] at h hpos ⊢
        obtain ⟨q1, q2⟩ := plain_take (by simpa using hd) (wordLen_head hl) h
        rw [if_neg (by simp [q1]), q2]
    · rw [if_neg hl] at h hpos ⊢
      rw [if_neg hl]
      by_cases hd : digitB (at' l 0) = true
      · rw [if_pos hd] at h hpos ⊢
        rw [if_pos hd]
        exact (num_take (numLen_head hd) h).2
      · rw [if_neg hd] at h hpos ⊢
        rw [if_neg hd]
        by_cases h34 : at' l 0 = 34
        · rw [if_pos h34] at h hpos ⊢
          rw [if_pos h34, List.drop_take]
          exact quotT_take _ _ h
        · rw [if_neg h34] at h hpos ⊢
          rw [if_neg h34]
          exact (sign_take h).2
theorem tok_kind {l : List UInt8} (h : (tokT l).e = 0) : (tokT l).kind ≠ 0 := by
  unfold tokT at h ⊢
  by_cases ha : allowedB (at' l 0) = false
  · rw [if_pos ha] at h
    cases h
  · rw [if_neg ha] at h ⊢
    by_cases hl : letterB (at' l 0) = true
    · rw [if_pos hl] at h ⊢
      unfold wordT at h ⊢
      by_cases hd : dotted l = true
      · rw [if_pos hd] at h ⊢
        unfold qualT at h ⊢
        split at h
        · cases h
        · rename_i h1
          rw [if_neg h1]
          split at h
          · cases h
          · rename_i h2
            rw [if_neg h2]
            split <;> simp
      · rw [if_neg hd] at h ⊢
        unfold plainT at h ⊢
        split at h
        · cases h
        · rename_i h1
          rw [if_neg h1]
          split
          · simp
          · split <;> simp
    · rw [if_neg hl] at h ⊢
      by_cases hd : digitB (at' l 0) = true
      · rw [if_pos hd] at h ⊢
        unfold numT at h ⊢
        split at h
        · cases h
        · rename_i h1
          rw [if_neg h1]
          split at h
          · cases h
          · rename_i h2
            rw [if_neg h2]
            exact (by decide : (5 : Nat) ≠ 0)
      · rw [if_neg hd] at h ⊢
        by_cases h34 : at' l 0 = 34
        · rw [if_pos h34] at h ⊢
          rw [quotT_kind _ _ h]
          exact (by decide : (6 : Nat) ≠ 0)
        · rw [if_neg h34] at h ⊢
          unfold signT at h ⊢
          split at h
          · cases h
          · rename_i h1
            rw [if_neg h1]
            exact (by decide : (8 : Nat) ≠ 0)
end Go.Proofs.Ytopnimajlgpdeaa
