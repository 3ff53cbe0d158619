/- Plain functions: what Scan answers for a source (tokens, tail, place, error), and the bounds of one token. No condition. -/
import Derived.Test.YtopnimajlgpdeaaLexTokPure
namespace Go.Proofs.Ytopnimajlgpdeaa
theorem wordLen_len (l : List UInt8) : wordLen l ≤ l.length := runLen_le wordB l
theorem numLen_len (l : List UInt8) : numLen l ≤ l.length := runLen_le digitB l
theorem at_cons (c : UInt8) (r : List UInt8) : at' (c :: r) 0 = c.toNat := rfl
theorem wordLen_head {l : List UInt8} (h : letterB (at' l 0) = true) : 0 < wordLen l := by
  cases l with
  | nil => exact absurd h (by decide)
  | cons c r =>
    rw [at_cons] at h
    have : wordB c.toNat = true := by unfold wordB; rw [h]; rfl
    unfold wordLen
    simp [runLen, this]
theorem numLen_head {l : List UInt8} (h : digitB (at' l 0) = true) : 0 < numLen l := by
  cases l with
  | nil => exact absurd h (by decide)
  | cons c r =>
    rw [at_cons] at h
    unfold numLen
    simp [runLen, h]
theorem quotT_len (l : List UInt8) : ∀ i, (quotT i l).e = 0 → i < (quotT i l).n ∧ (quotT i l).n ≤ i + l.length := by
  induction l with
  | nil => intro i h; simp [quotT] at h
  | cons c r ih =>
    intro i h
    unfold quotT at h ⊢
    by_cases h1 : c.toNat = 34
    · simp only [h1, if_true, List.length_cons]
      omega
    · simp only [h1, if_false] at h ⊢
      by_cases h2 : c.toNat = 92 ∨ c.toNat = 9 ∨ c.toNat = 10 ∨ c.toNat = 13
      · simp [h2] at h
      · simp only [h2, if_false] at h ⊢
        by_cases h3 : allowedB c.toNat = true
        · simp only [h3, if_true, List.length_cons] at h ⊢
          have := ih (i + 1) h
          omega
        · simp [h3] at h
theorem qual_len {l : List UInt8} {n : Nat} (hn : n + 1 < l.length) (h : (qualT l n).e = 0) : 0 < (qualT l n).n ∧ (qualT l n).n ≤ l.length := by
  have hm := wordLen_len (l.drop (n + 1))
  rw [List.length_drop] at hm
  unfold qualT at h ⊢
  by_cases h1 : 24 < n ∨ 24 < wordLen (l.drop (n + 1))
  · rw [if_pos h1] at h
    cases h
  · rw [if_neg h1] at h ⊢
    by_cases h2 : reservedB ((l.drop (n + 1)).take (wordLen (l.drop (n + 1)))) = true
    · rw [if_pos h2] at h
      cases h
    · rw [if_neg h2]
      by_cases h3 : upperB (at' l (n + 1)) = true
      · rw [if_pos h3]
        exact ⟨by show 0 < n + 1 + _; omega, by show n + 1 + _ ≤ _; omega⟩
      · rw [if_neg h3]
        exact ⟨by show 0 < n + 1 + _; omega, by show n + 1 + _ ≤ _; omega⟩
theorem plain_len {l : List UInt8} (hw : 0 < wordLen l) (h : (plainT l).e = 0) : 0 < (plainT l).n ∧ (plainT l).n ≤ l.length := by
  have hm := wordLen_len l
  unfold plainT at h ⊢
  by_cases h1 : 24 < wordLen l
  · rw [if_pos h1] at h
    cases h
  · rw [if_neg h1]
    by_cases h2 : reservedB (l.take (wordLen l)) = true
    · rw [if_pos h2]
      exact ⟨hw, hm⟩
    · rw [if_neg h2]
      by_cases h3 : upperB (at' l 0) = true
      · rw [if_pos h3]
        exact ⟨hw, hm⟩
      · rw [if_neg h3]
        exact ⟨hw, hm⟩
theorem num_len {l : List UInt8} (hw : 0 < numLen l) (h : (numT l).e = 0) : 0 < (numT l).n ∧ (numT l).n ≤ l.length := by
  have hm := numLen_len l
  unfold numT at h ⊢
  by_cases h1 : 1 < numLen l ∧ at' l 0 = 48
  · rw [if_pos h1] at h
    cases h
  · rw [if_neg h1] at h ⊢
    by_cases h2 : 15 < numLen l
    · rw [if_pos h2] at h
      cases h
    · rw [if_neg h2]
      exact ⟨hw, hm⟩
theorem signLen_len (l : List UInt8) : signLen l ≤ l.length := by
  unfold signLen
  match l with
  | [] => decide
  | [c] =>
    have h1 : at' [c] 1 = 0 := rfl
    rw [h1, show [c].length = 1 from rfl]
    by_cases h : at' [c] 0 = 61
    · rw [if_pos h]
      decide
    · rw [if_neg h]
      by_cases h2 : oneSign (at' [c] 0) = true
      · rw [if_pos h2]
        decide
      · rw [if_neg h2]
        decide
  | c :: d :: r =>
    simp only [List.length_cons]
    by_cases h : at' (c :: d :: r) 0 = 61
    · rw [if_pos h]
      by_cases h2 : at' (c :: d :: r) 1 = 61
      · rw [if_pos h2]
        omega
      · rw [if_neg h2]
        omega
    · rw [if_neg h]
      by_cases h2 : oneSign (at' (c :: d :: r) 0) = true
      · rw [if_pos h2]
        omega
      · rw [if_neg h2]
        omega
theorem sign_len {l : List UInt8} (h : (signT l).e = 0) : 0 < (signT l).n ∧ (signT l).n ≤ l.length := by
  have hm := signLen_len l
  unfold signT at h ⊢
  by_cases hz : signLen l = 0
  · rw [if_pos hz] at h
    cases h
  · rw [if_neg hz]
    exact ⟨by show 0 < signLen l; omega, hm⟩
theorem tok_len {l : List UInt8} (h : (tokT l).e = 0) : 0 < (tokT l).n ∧ (tokT l).n ≤ l.length := by
  unfold tokT at h ⊢
  by_cases ha : allowedB (at' l 0) = false
  · rw [if_pos ha] at h
    cases h
  · rw [if_neg ha] at h ⊢
    by_cases hl : letterB (at' l 0) = true
    · rw [if_pos hl] at h ⊢
      unfold wordT at h ⊢
      by_cases hd : dotted l = true
      · rw [if_pos hd] at h ⊢
        have hlen : wordLen l + 1 < l.length := by
          unfold dotted at hd
          simp only [Bool.and_eq_true, decide_eq_true_eq] at hd
          exact hd.1.1.2
        exact qual_len hlen h
      · rw [if_neg hd] at h ⊢
        exact plain_len (wordLen_head hl) h
    · rw [if_neg hl] at h ⊢
      by_cases hd : digitB (at' l 0) = true
      · rw [if_pos hd] at h ⊢
        exact num_len (numLen_head hd) h
      · rw [if_neg hd] at h ⊢
        by_cases h34 : at' l 0 = 34
        · rw [if_pos h34] at h ⊢
          have := quotT_len (l.drop 1) 1 h
          rw [List.length_drop] at this
          cases l with
          | nil => exact absurd h34 (by decide)
          | cons c r =>
            rw [List.length_cons] at this ⊢
            omega
        · rw [if_neg h34] at h ⊢
          exact sign_len h
theorem quotT_any (l : List UInt8) : ∀ i, (quotT i l).n ≤ i + l.length := by
  induction l with
  | nil => intro i; exact Nat.zero_le _
  | cons c r ih =>
    intro i
    unfold quotT
    rw [List.length_cons]
    by_cases h1 : c.toNat = 34
    · rw [if_pos h1]
      show i + 1 ≤ _
      omega
    · rw [if_neg h1]
      by_cases h2 : c.toNat = 92 ∨ c.toNat = 9 ∨ c.toNat = 10 ∨ c.toNat = 13
      · rw [if_pos h2]
        exact Nat.zero_le _
      · rw [if_neg h2]
        by_cases h3 : allowedB c.toNat = true
        · rw [if_pos h3]
          have := ih (i + 1)
          omega
        · rw [if_neg h3]
          show i ≤ _
          omega
/-- With an error the offset lies inside as well. -/
theorem tok_err_len {l : List UInt8} (h : (tokT l).e ≠ 0) : (tokT l).n ≤ l.length := by
  unfold tokT at h ⊢
  by_cases ha : allowedB (at' l 0) = false
  · rw [if_pos ha]
    exact Nat.zero_le _
  · rw [if_neg ha] at h ⊢
    by_cases hl : letterB (at' l 0) = true
    · rw [if_pos hl] at h ⊢
      unfold wordT at h ⊢
      by_cases hd : dotted l = true
      · rw [if_pos hd] at h ⊢
        unfold qualT at h ⊢
        split
        · exact Nat.zero_le _
        · split
          · exact Nat.zero_le _
          · rename_i h1 h2
            rw [if_neg h1, if_neg h2] at h
            split at h <;> exact absurd rfl h
      · rw [if_neg hd] at h ⊢
        unfold plainT at h ⊢
        split
        · exact Nat.zero_le _
        · rename_i h1
          rw [if_neg h1] at h
          split at h
          · exact absurd rfl h
          · split at h <;> exact absurd rfl h
    · rw [if_neg hl] at h ⊢
      by_cases hd : digitB (at' l 0) = true
      · rw [if_pos hd] at h ⊢
        unfold numT at h ⊢
        split
        · exact Nat.zero_le _
        · split
          · exact Nat.zero_le _
          · rename_i h1 h2
            rw [if_neg h1, if_neg h2] at h
            exact absurd rfl h
      · rw [if_neg hd] at h ⊢
        by_cases h34 : at' l 0 = 34
        · rw [if_pos h34]
          have := quotT_any (l.drop 1) 1
          rw [List.length_drop] at this
          cases l with
          | nil => exact absurd h34 (by decide)
          | cons c r =>
            rw [List.length_cons] at this ⊢
            omega
        · rw [if_neg h34] at h ⊢
          unfold signT at h ⊢
          split
          · exact Nat.zero_le _
          · rename_i h1
            rw [if_neg h1] at h
            exact absurd rfl h
structure Tok where
  kind : Int
  lead : ByteArray
  text : ByteArray
structure Res where
  toks : List Tok
  tail : ByteArray
  place : Nat
  e : Nat
/-- The tokens from a place on, behind those that are known. -/
def scanF (s : ByteArray) : Nat → Nat → List Tok → Res
  | 0, _, _ => ⟨[], ByteArray.empty, 0, 0⟩
  | f + 1, k, acc =>
    if skipTo s k = s.size then ⟨acc, s.extract k s.size, 0, 0⟩
    else if (tokT (suf s (skipTo s k))).e = 0 then
      scanF s f (skipTo s k + (tokT (suf s (skipTo s k))).n) (acc ++ [⟨(tokT (suf s (skipTo s k))).kind, s.extract k (skipTo s k), s.extract (skipTo s k) (skipTo s k + (tokT (suf s (skipTo s k))).n)⟩])
    else ⟨[], ByteArray.empty, skipTo s k + (tokT (suf s (skipTo s k))).n, (tokT (suf s (skipTo s k))).e⟩
def scanG (s : ByteArray) : Res := scanF s (s.size + 1) 0 []
/-- What Scan answers (P1.3). -/
def scanR (s : ByteArray) : Res := if 4096 < s.size then ⟨[], ByteArray.empty, 4096, 3⟩ else scanG s
/-- The state of a scan at a place. -/
def ScanAt (s : ByteArray) (k : Nat) (acc : List Tok) : Prop := k ≤ s.size ∧ acc.length ≤ k ∧ ∃ f, s.size < f + k ∧ scanG s = scanF s f k acc
theorem ScanAt.start (s : ByteArray) : ScanAt s 0 [] := ⟨Nat.zero_le _, Nat.le_refl _, s.size + 1, by omega, rfl⟩
section
variable {s : ByteArray} {k : Nat} {acc : List Tok}
theorem ScanAt.done (h : ScanAt s k acc) (hs : skipTo s k = s.size) : scanG s = ⟨acc, s.extract k s.size, 0, 0⟩ := by
  obtain ⟨hk, _, f, hf, h⟩ := h
  obtain ⟨f, rfl⟩ : ∃ g, f = g + 1 := ⟨f - 1, by omega⟩
  rw [h, scanF, if_pos hs]
theorem ScanAt.stop (h : ScanAt s k acc) (hs : skipTo s k ≠ s.size) (he : (tokT (suf s (skipTo s k))).e ≠ 0) : scanG s = ⟨[], ByteArray.empty, skipTo s k + (tokT (suf s (skipTo s k))).n, (tokT (suf s (skipTo s k))).e⟩ := by
  obtain ⟨hk, _, f, hf, h⟩ := h
  obtain ⟨f, rfl⟩ : ∃ g, f = g + 1 := ⟨f - 1, by omega⟩
  rw [h, scanF, if_neg hs, if_neg he]
theorem ScanAt.next (h : ScanAt s k acc) (hs : skipTo s k ≠ s.size) (he : (tokT (suf s (skipTo s k))).e = 0) :
    ScanAt s (skipTo s k + (tokT (suf s (skipTo s k))).n) (acc ++ [⟨(tokT (suf s (skipTo s k))).kind, s.extract k (skipTo s k), s.extract (skipTo s k) (skipTo s k + (tokT (suf s (skipTo s k))).n)⟩]) := by
  obtain ⟨hk, ha, f, hf, h⟩ := h
  have h1 := tok_len he
  have h2 := skipTo_ge s k
  have h3 := skipTo_le s k hk
  rw [suf_length] at h1
  obtain ⟨f, rfl⟩ : ∃ g, f = g + 1 := ⟨f - 1, by omega⟩
  refine ⟨by omega, by simp; omega, f, by omega, ?_⟩
  rw [h, scanF, if_neg hs, if_pos he]
end
end Go.Proofs.Ytopnimajlgpdeaa
