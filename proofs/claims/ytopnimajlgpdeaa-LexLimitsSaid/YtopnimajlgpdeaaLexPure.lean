/- Plain functions on bytes and lists of bytes, in whose words the contracts of package lex and of its reference are stated. No condition. -/
import Derived.Below
namespace Go.Proofs.Ytopnimajlgpdeaa
def whiteB (c : Int) : Bool := c == 9 || c == 10 || c == 13 || c == 32
def upperB (c : Int) : Bool := decide (65 ≤ c) && decide (c ≤ 90)
def lowerB (c : Int) : Bool := decide (97 ≤ c) && decide (c ≤ 122)
def letterB (c : Int) : Bool := upperB c || lowerB c
def digitB (c : Int) : Bool := decide (48 ≤ c) && decide (c ≤ 57)
def wordB (c : Int) : Bool := letterB c || digitB c || c == 95
def printedB (c : Int) : Bool := decide (32 ≤ c) && decide (c ≤ 126)
def allowedB (c : Int) : Bool := whiteB c || (decide (32 < c) && decide (c ≤ 126))
theorem allowed_printed (c : Int) : allowedB c = (whiteB c || printedB c) := by
  unfold allowedB whiteB printedB
  rw [Bool.eq_iff_iff]
  simp
  omega
/-- What is left of a string from a place on. -/
def suf (s : ByteArray) (k : Nat) : List UInt8 := s.data.toList.drop k
theorem suf_cons (s : ByteArray) (k : Nat) (h : k < s.size) : suf s k = s[k] :: suf s (k + 1) := by
  unfold suf
  rw [List.drop_eq_getElem_cons (by simpa using h)]
  rfl
theorem suf_end (s : ByteArray) (k : Nat) (h : s.size ≤ k) : suf s k = [] := by
  unfold suf
  exact List.drop_eq_nil_of_le (by simpa using h)
theorem suf_length (s : ByteArray) (k : Nat) : (suf s k).length = s.size - k := by
  unfold suf
  simp
/-- White space and comments at the beginning: how many bytes, and whether a comment is still open behind them. -/
def skipL : Bool → List UInt8 → Nat × Bool
  | o, [] => (0, o)
  | o, c :: r =>
    if allowedB c.toNat then
      if o then ((skipL (c.toNat != 10) r).1 + 1, (skipL (c.toNat != 10) r).2)
      else if c.toNat = 35 then ((skipL true r).1 + 1, (skipL true r).2)
      else if whiteB c.toNat then ((skipL false r).1 + 1, (skipL false r).2)
      else (0, false)
    else (0, o)
theorem skipL_le (o : Bool) (l : List UInt8) : (skipL o l).1 ≤ l.length := by
  induction l generalizing o with
  | nil => simp [skipL]
  | cons c r ih =>
    have h1 := ih (c.toNat != 10)
    have h2 := ih true
    have h3 := ih false
    unfold skipL
    simp only [List.length_cons]
    split
    · split
      · simp only []; omega
      · split
        · simp only []; omega
        · split
          · simp only []; omega
          · simp
    · simp
def skipTo (s : ByteArray) (i : Nat) : Nat := i + (skipL false (suf s i)).1
def skipOpen (s : ByteArray) (i : Nat) : Bool := (skipL false (suf s i)).2
theorem skipTo_ge (s : ByteArray) (i : Nat) : i ≤ skipTo s i := by unfold skipTo; omega
theorem skipTo_le (s : ByteArray) (i : Nat) (h : i ≤ s.size) : skipTo s i ≤ s.size := by
  have := skipL_le false (suf s i)
  rw [suf_length] at this
  unfold skipTo
  omega
/-- The state of a skip at a place: what the rest will add is what the whole adds. -/
def SkipAt (s : ByteArray) (i k : Nat) (o : Bool) : Prop := i ≤ k ∧ k ≤ s.size ∧ skipTo s i = k + (skipL o (suf s k)).1 ∧ skipOpen s i = (skipL o (suf s k)).2
theorem SkipAt.start (s : ByteArray) (i : Nat) (h : i ≤ s.size) : SkipAt s i i false := ⟨Nat.le_refl _, h, rfl, rfl⟩
section
variable {s : ByteArray} {i k : Nat} {o : Bool}
theorem SkipAt.done (h : SkipAt s i k o) (hk : ¬ k < s.size) : skipTo s i = k ∧ skipOpen s i = o := by
  obtain ⟨_, _, h1, h2⟩ := h
  rw [suf_end s k (by omega)] at h1 h2
  exact ⟨h1, h2⟩
theorem SkipAt.bad (h : SkipAt s i k o) (hk : k < s.size) (ha : allowedB s[k].toNat = false) : skipTo s i = k ∧ skipOpen s i = o := by
  obtain ⟨_, _, h1, h2⟩ := h
  rw [suf_cons s k hk] at h1 h2
  simp [skipL, ha] at h1 h2
  exact ⟨h1, h2⟩
theorem SkipAt.other (h : SkipAt s i k false) (hk : k < s.size) (ha : whiteB s[k].toNat = false) (hc : s[k].toNat ≠ 35) : skipTo s i = k ∧ skipOpen s i = false := by
  obtain ⟨_, _, h1, h2⟩ := h
  rw [suf_cons s k hk] at h1 h2
  simp [skipL, ha, hc] at h1 h2
  exact ⟨h1, h2⟩
theorem SkipAt.inside (h : SkipAt s i k true) (hk : k < s.size) (ha : allowedB s[k].toNat = true) : SkipAt s i (k + 1) (s[k].toNat != 10) := by
  obtain ⟨h0, _, h1, h2⟩ := h
  rw [suf_cons s k hk] at h1 h2
  simp only [skipL, ha, if_true] at h1 h2
  exact ⟨by omega, by omega, by omega, h2⟩
theorem SkipAt.opens (h : SkipAt s i k false) (hk : k < s.size) (hc : s[k].toNat = 35) : SkipAt s i (k + 1) true := by
  obtain ⟨h0, _, h1, h2⟩ := h
  have ha : allowedB ((35 : Nat) : Int) = true := by decide
  rw [suf_cons s k hk] at h1 h2
  simp only [skipL, hc, ha, if_true, Bool.false_eq_true, if_false] at h1 h2
  exact ⟨by omega, by omega, by omega, h2⟩
theorem white_allowed {c : Int} (h : whiteB c = true) : allowedB c = true := by unfold allowedB; simp [h]
theorem SkipAt.white (h : SkipAt s i k false) (hk : k < s.size) (ha : whiteB s[k].toNat = true) : SkipAt s i (k + 1) false := by
  obtain ⟨h0, _, h1, h2⟩ := h
  have hc : s[k].toNat ≠ 35 := by intro e; rw [e] at ha; exact absurd ha (by decide)
  rw [suf_cons s k hk] at h1 h2
  simp only [skipL, ha, hc, white_allowed ha, if_true, Bool.false_eq_true, if_false] at h1 h2
  exact ⟨by omega, by omega, by omega, h2⟩
end
/-- Trivia (P1.2): white space and complete comments; at the end the last comment may be open. -/
def triviaB (s : ByteArray) (fin : Bool) : Bool := (skipTo s 0 == s.size) && (fin || !skipOpen s 0)
/-- The place of a bad byte inside of a comment, or -1. -/
def badAt (s : ByteArray) (i : Nat) : Int := if skipOpen s i = true ∧ skipTo s i < s.size then (skipTo s i : Int) else -1
theorem badAt_yes {s : ByteArray} {i k : Nat} (h : skipTo s i = k ∧ skipOpen s i = true) (hk : k < s.size) : badAt s i = k := by
  unfold badAt
  rw [h.1, if_pos ⟨h.2, hk⟩]
theorem badAt_no {s : ByteArray} {i k : Nat} {o : Bool} (h : skipTo s i = k ∧ skipOpen s i = o) (hk : o = false ∨ ¬ k < s.size) : badAt s i = -1 := by
  unfold badAt
  rw [h.1, h.2, if_neg (by rcases hk with rfl | hk <;> simp_all)]
section
variable {s : ByteArray} {i k : Nat}
/-- Inside of a comment, at its first byte, the two states mean the same. -/
theorem SkipAt.begun (h : SkipAt s i k false) (hk : k < s.size) (hc : s[k].toNat = 35) : SkipAt s i k true := by
  obtain ⟨h0, h3, h1, h2⟩ := h
  refine ⟨h0, h3, ?_, ?_⟩
  · rw [h1, suf_cons s k hk]
    have ha : allowedB (35 : Int) = true := by decide
    simp [skipL, hc, ha]
  · rw [h2, suf_cons s k hk]
    have ha : allowedB (35 : Int) = true := by decide
    simp [skipL, hc, ha]
theorem SkipAt.ended (h : SkipAt s i k true) (hk : k < s.size) (hc : s[k].toNat = 10) : SkipAt s i k false := by
  obtain ⟨h0, h3, h1, h2⟩ := h
  have ha : allowedB (10 : Int) = true := by decide
  have hw : whiteB (10 : Int) = true := by decide
  refine ⟨h0, h3, ?_, ?_⟩
  · rw [h1, suf_cons s k hk]
    simp [skipL, hc, ha, hw]
  · rw [h2, suf_cons s k hk]
    simp [skipL, hc, ha, hw]
end
/-- A fold over all bytes: is a comment open? -/
def openF : Bool → List UInt8 → Bool
  | o, [] => o
  | o, c :: r => openF (if c.toNat = 10 then false else if c.toNat = 35 then true else o) r
theorem openF_skip (o : Bool) (l : List UInt8) (h : (skipL o l).1 = l.length) : openF o l = (skipL o l).2 := by
  induction l generalizing o with
  | nil => simp [openF, skipL]
  | cons c r ih =>
    unfold openF
    unfold skipL at h ⊢
    by_cases ha : allowedB c.toNat = true
    · simp only [ha, if_true] at h ⊢
      cases o
      · simp only [Bool.false_eq_true, if_false] at h ⊢
        by_cases hc : c.toNat = 35
        · simp only [hc, if_true, List.length_cons] at h ⊢
          simpa using ih true (by omega)
        · by_cases hw : whiteB c.toNat = true
          · simp only [hc, hw, if_true, if_false, List.length_cons] at h ⊢
            simpa using ih false (by omega)
          · simp only [hc, hw, if_false, List.length_cons] at h
            simp at h
      · simp only [if_true, List.length_cons] at h ⊢
        rw [← ih _ (by omega)]
        congr 1
        by_cases h10 : c.toNat = 10 <;> simp [h10]
    · have hf : allowedB c.toNat = false := by simpa using ha
      rw [hf] at h
      simp at h
end Go.Proofs.Ytopnimajlgpdeaa
