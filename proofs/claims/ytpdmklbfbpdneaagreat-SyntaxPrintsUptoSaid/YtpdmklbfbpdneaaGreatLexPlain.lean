/- Plain functions on lists of bytes in whose words package lex is specified, and their mathematics. No condition. -/
import Derived.Below
namespace Go.Proofs.YtpdmklbfbpdneaaGreat
def whiteB (c : Int) : Bool := c == 9 || c == 10 || c == 13 || c == 32
def upperB (c : Int) : Bool := decide (65 ≤ c) && decide (c ≤ 90)
def lowerB (c : Int) : Bool := decide (97 ≤ c) && decide (c ≤ 122)
def letterB (c : Int) : Bool := upperB c || lowerB c
def digitB (c : Int) : Bool := decide (48 ≤ c) && decide (c ≤ 57)
def wordB (c : Int) : Bool := letterB c || digitB c || c == 95
def printedB (c : Int) : Bool := decide (32 ≤ c) && decide (c ≤ 126)
def allowedB (c : Int) : Bool := whiteB c || (decide (32 < c) && decide (c ≤ 126))
theorem allowed_printed (c : Int) : allowedB c = (whiteB c || printedB c) := by
  unfold allowedB whiteB printedB
  rw [Bool.eq_iff_iff]
  simp
  omega
/-- What is left of a string from a place on. -/
def suf (s : ByteArray) (k : Nat) : List UInt8 := s.data.toList.drop k
theorem suf_cons (s : ByteArray) (k : Nat) (h : k < s.size) : suf s k = s[k] :: suf s (k + 1) := by
  unfold suf
  rw [List.drop_eq_getElem_cons (by simpa using h)]
  rfl
theorem suf_end (s : ByteArray) (k : Nat) (h : s.size ≤ k) : suf s k = [] := by
  unfold suf
  exact List.drop_eq_nil_of_le (by simpa using h)
theorem suf_length (s : ByteArray) (k : Nat) : (suf s k).length = s.size - k := by
  unfold suf
  simp
/-- White space and comments at the beginning: how many bytes, and whether a comment is still open behind them. -/
def skipL : Bool → List UInt8 → Nat × Bool
  | o, [] => (0, o)
  | o, c :: r =>
    if allowedB c.toNat then
      if o then ((skipL (c.toNat != 10) r).1 + 1, (skipL (c.toNat != 10) r).2)
      else if c.toNat = 35 then ((skipL true r).1 + 1, (skipL true r).2)
      else if whiteB c.toNat then ((skipL false r).1 + 1, (skipL false r).2)
      else (0, false)
    else (0, o)
theorem skipL_le (o : Bool) (l : List UInt8) : (skipL o l).1 ≤ l.length := by
  induction l generalizing o with
  | nil => simp [skipL]
  | cons c r ih =>
    have h1 := ih (c.toNat != 10)
    have h2 := ih true
    have h3 := ih false
    unfold skipL
    simp only [List.length_cons]
    split
    · split
      · simp only []; omega
      · split
        · simp only []; omega
        · split
          · simp only []; omega
          · simp
    · simp
def skipTo (s : ByteArray) (i : Nat) : Nat := i + (skipL false (suf s i)).1
def skipOpen (s : ByteArray) (i : Nat) : Bool := (skipL false (suf s i)).2
theorem skipTo_ge (s : ByteArray) (i : Nat) : i ≤ skipTo s i := by unfold skipTo; omega
theorem skipTo_le (s : ByteArray) (i : Nat) (h : i ≤ s.size) : skipTo s i ≤ s.size := by
  have := skipL_le false (suf s i)
  rw [suf_length] at this
  unfold skipTo
  omega
/-- The state of a skip at a place: what the rest will add is what the whole adds. -/
def SkipAt (s : ByteArray) (i k : Nat) (o : Bool) : Prop := i ≤ k ∧ k ≤ s.size ∧ skipTo s i = k + (skipL o (suf s k)).1 ∧ skipOpen s i = (skipL o (suf s k)).2
theorem SkipAt.start (s : ByteArray) (i : Nat) (h : i ≤ s.size) : SkipAt s i i false := ⟨Nat.le_refl _, h, rfl, rfl⟩
section
variable {s : ByteArray} {i k : Nat} {o : Bool}
theorem SkipAt.done (h : SkipAt s i k o) (hk : ¬ k < s.size) : skipTo s i = k ∧ skipOpen s i = o := by
  obtain ⟨_, _, h1, h2⟩ := h
  rw [suf_end s k (by omega)] at h1 h2
  exact ⟨h1, h2⟩
theorem SkipAt.bad (h : SkipAt s i k o) (hk : k < s.size) (ha : allowedB s[k].toNat = false) : skipTo s i = k ∧ skipOpen s i = o := by
  obtain ⟨_, _, h1, h2⟩ := h
  rw [suf_cons s k hk] at h1 h2
  simp [skipL, ha] at h1 h2
  exact ⟨h1, h2⟩
theorem SkipAt.other (h : SkipAt s i k false) (hk : k < s.size) (ha : whiteB s[k].toNat = false) (hc : s[k].toNat ≠ 35) : skipTo s i = k ∧ skipOpen s i = false := by
  obtain ⟨_, _, h1, h2⟩ := h
  rw [suf_cons s k hk] at h1 h2
  simp [skipL, ha, hc] at h1 h2
  exact ⟨h1, h2⟩
theorem SkipAt.inside (h : SkipAt s i k true) (hk : k < s.size) (ha : allowedB s[k].toNat = true) : SkipAt s i (k + 1) (s[k].toNat != 10) := by
  obtain ⟨h0, _, h1, h2⟩ := h
  rw [suf_cons s k hk] at h1 h2
  simp only [skipL, ha, if_true] at h1 h2
  exact ⟨by omega, by omega, by omega, h2⟩
theorem SkipAt.opens (h : SkipAt s i k false) (hk : k < s.size) (hc : s[k].toNat = 35) : SkipAt s i (k + 1) true := by
  obtain ⟨h0, _, h1, h2⟩ := h
  have ha : allowedB ((35 : Nat) : Int) = true := by decide
  rw [suf_cons s k hk] at h1 h2
  simp only [skipL, hc, ha, if_true, Bool.false_eq_true, if_false] at h1 h2
  exact ⟨by omega, by omega, by omega, h2⟩
theorem white_allowed {c : Int} (h : whiteB c = true) : allowedB c = true := by unfold allowedB; simp [h]
theorem SkipAt.white (h : SkipAt s i k false) (hk : k < s.size) (ha : whiteB s[k].toNat = true) : SkipAt s i (k + 1) false := by
  obtain ⟨h0, _, h1, h2⟩ := h
  have hc : s[k].toNat ≠ 35 := by intro e; rw [e] at ha; exact absurd ha (by decide)
  rw [suf_cons s k hk] at h1 h2
  simp only [skipL, ha, hc, white_allowed ha, if_true, Bool.false_eq_true, if_false] at h1 h2
  exact ⟨by omega, by omega, by omega, h2⟩
end
/-- Trivia (P1.2): white space and complete comments; at the end the last comment may be open. -/
def triviaB (s : ByteArray) (fin : Bool) : Bool := (skipTo s 0 == s.size) && (fin || !skipOpen s 0)
/-- The place of a bad byte inside of a comment, or -1. -/
def badAt (s : ByteArray) (i : Nat) : Int := if skipOpen s i = true ∧ skipTo s i < s.size then (skipTo s i : Int) else -1
theorem badAt_yes {s : ByteArray} {i k : Nat} (h : skipTo s i = k ∧ skipOpen s i = true) (hk : k < s.size) : badAt s i = k := by
  unfold badAt
  rw [h.1, if_pos ⟨h.2, hk⟩]
theorem badAt_no {s : ByteArray} {i k : Nat} {o : Bool} (h : skipTo s i = k ∧ skipOpen s i = o) (hk : o = false ∨ ¬ k < s.size) : badAt s i = -1 := by
  unfold badAt
  rw [h.1, h.2, if_neg (by rcases hk with rfl | hk <;> simp_all)]
section
variable {s : ByteArray} {i k : Nat}
/-- Inside of a comment, at its first byte, the two states mean the same. -/
theorem SkipAt.begun (h : SkipAt s i k false) (hk : k < s.size) (hc : s[k].toNat = 35) : SkipAt s i k true := by
  obtain ⟨h0, h3, h1, h2⟩ := h
  refine ⟨h0, h3, ?_, ?_⟩
  · rw [h1, suf_cons s k hk]
    have ha : allowedB (35 : Int) = true := by decide
    simp [skipL, hc, ha]
  · rw [h2, suf_cons s k hk]
    have ha : allowedB (35 : Int) = true := by decide
    simp [skipL, hc, ha]
theorem SkipAt.ended (h : SkipAt s i k true) (hk : k < s.size) (hc : s[k].toNat = 10) : SkipAt s i k false := by
  obtain ⟨h0, h3, h1, h2⟩ := h
  have ha : allowedB (10 : Int) = true := by decide
  have hw : whiteB (10 : Int) = true := by decide
  refine ⟨h0, h3, ?_, ?_⟩
  · rw [h1, suf_cons s k hk]
    simp [skipL, hc, ha, hw]
  · rw [h2, suf_cons s k hk]
    simp [skipL, hc, ha, hw]
end
/-- A fold over all bytes: is a comment open? -/
def openF : Bool → List UInt8 → Bool
  | o, [] => o
  | o, c :: r => openF (if c.toNat = 10 then false else if c.toNat = 35 then true else o) r
theorem openF_skip (o : Bool) (l : List UInt8) (h : (skipL o l).1 = l.length) : openF o l = (skipL o l).2 := by
  induction l generalizing o with
  | nil => simp [openF, skipL]
  | cons c r ih =>
    unfold openF
    unfold skipL at h ⊢
    by_cases ha : allowedB c.toNat = true
    · simp only [ha, if_true] at h ⊢
      cases o
      · simp only [Bool.false_eq_true, if_false] at h ⊢
        by_cases hc : c.toNat = 35
        · simp only [hc, if_true, List.length_cons] at h ⊢
          simpa using ih true (by omega)
        · by_cases hw : whiteB c.toNat = true
          · simp only [hc, hw, if_true, if_false, List.length_cons] at h ⊢
            simpa using ih false (by omega)
          · simp only [hc, hw, if_false, List.length_cons] at h
            simp at h
      · simp only [if_true, List.length_cons] at h ⊢
        rw [← ih _ (by omega)]
        congr 1
        by_cases h10 : c.toNat = 10 <;> simp [h10]
    · have hf : allowedB c.toNat = false := by simpa using ha
      rw [hf] at h
      simp at h
end Go.Proofs.YtpdmklbfbpdneaaGreat
namespace Go.Proofs.YtpdmklbfbpdneaaGreat
theorem suf_extract (s : ByteArray) (a b : Nat) : suf (s.extract a b) 0 = (suf s a).take (b - a) := by
  unfold suf
  rw [List.drop_zero, ByteArray.data_extract, Array.toList_extract, List.extract_eq_take_drop]
theorem suf_to_end (s : ByteArray) (a : Nat) : suf (s.extract a s.size) 0 = suf s a := by
  rw [suf_extract, List.take_of_length_le (by rw [suf_length]; omega)]
theorem suf_drop (s : ByteArray) (a n : Nat) : (suf s a).drop n = suf s (a + n) := by
  unfold suf
  rw [List.drop_drop]
/-- How many bytes of a kind stand at the beginning. -/
def runLen (p : Int → Bool) : List UInt8 → Nat
  | [] => 0
  | c :: r => if p c.toNat then runLen p r + 1 else 0
theorem runLen_le (p : Int → Bool) (l : List UInt8) : runLen p l ≤ l.length := by
  induction l with
  | nil => simp [runLen]
  | cons c r ih => unfold runLen; split <;> simp <;> omega
def RunAt (p : Int → Bool) (s : ByteArray) (i k : Nat) : Prop := i ≤ k ∧ k ≤ s.size ∧ runLen p (suf s i) + i = k + runLen p (suf s k)
theorem RunAt.start (p : Int → Bool) (s : ByteArray) (i : Nat) (h : i ≤ s.size) : RunAt p s i i := ⟨Nat.le_refl _, h, by omega⟩
section
variable {p : Int → Bool} {s : ByteArray} {i k : Nat}
theorem RunAt.next (h : RunAt p s i k) (hk : k < s.size) (hp : p s[k].toNat = true) : RunAt p s i (k + 1) := by
  obtain ⟨h0, _, h1⟩ := h
  rw [suf_cons s k hk] at h1
  simp only [runLen, hp, if_true] at h1
  exact ⟨by omega, by omega, by omega⟩
theorem RunAt.stop (h : RunAt p s i k) (hk : k < s.size) (hp : p s[k].toNat = false) : runLen p (suf s i) + i = k := by
  obtain ⟨h0, _, h1⟩ := h
  rw [suf_cons s k hk] at h1
  simp only [runLen, hp] at h1
  simpa using h1
theorem RunAt.done (h : RunAt p s i k) (hk : ¬ k < s.size) : runLen p (suf s i) + i = k := by
  obtain ⟨h0, _, h1⟩ := h
  rw [suf_end s k (by omega)] at h1
  simpa [runLen] using h1
end
def wordLen (l : List UInt8) : Nat := runLen wordB l
def numLen (l : List UInt8) : Nat := runLen digitB l
def reservedWords : List (List UInt8) := [[109, 111, 100, 117, 108, 101], [100, 101, 102], [116, 121, 112, 101], [108, 101, 116], [105, 110], [105, 102], [116, 104, 101, 110], [101, 108, 115, 101], [116, 114, 117, 101], [102, 97, 108, 115, 101], [73, 110, 116], [84, 101, 120, 116], [66, 111, 111, 108]]
def reservedB (l : List UInt8) : Bool := reservedWords.contains l
structure Tk where
  kind : Nat
  n : Nat
  e : Nat
def at' (l : List UInt8) (k : Nat) : Nat := (l.getD k 0).toNat
def qualT (l : List UInt8) (n : Nat) : Tk :=
  if 24 < n ∨ 24 < wordLen (l.drop (n + 1)) then ⟨0, 0, 3⟩
  else if reservedB ((l.drop (n + 1)).take (wordLen (l.drop (n + 1)))) then ⟨0, 0, 2⟩
  else if upperB (at' l (n + 1)) then ⟨4, n + 1 + wordLen (l.drop (n + 1)), 0⟩
  else ⟨3, n + 1 + wordLen (l.drop (n + 1)), 0⟩
/-- Does a qualified word begin here? -/
def dotted (l : List UInt8) : Bool :=
  upperB (at' l 0) && !reservedB (l.take (wordLen l)) && decide (wordLen l + 1 < l.length) && at' l (wordLen l) == 46 && letterB (at' l (wordLen l + 1))
def plainT (l : List UInt8) : Tk :=
  if 24 < wordLen l then ⟨0, 0, 3⟩
  else if reservedB (l.take (wordLen l)) then ⟨7, wordLen l, 0⟩
  else if upperB (at' l 0) then ⟨2, wordLen l, 0⟩
  else ⟨1, wordLen l, 0⟩
def wordT (l : List UInt8) : Tk := if dotted l then qualT l (wordLen l) else plainT l
def numT (l : List UInt8) : Tk :=
  if 1 < numLen l ∧ at' l 0 = 48 then ⟨0, 0, 2⟩
  else if 15 < numLen l then ⟨0, 0, 3⟩
  else ⟨5, numLen l, 0⟩
/-- A string, i bytes behind its beginning. -/
def quotT : Nat → List UInt8 → Tk
  | _, [] => ⟨0, 0, 2⟩
  | i, c :: r =>
    if c.toNat = 34 then ⟨6, i + 1, 0⟩
    else if c.toNat = 92 ∨ c.toNat = 9 ∨ c.toNat = 10 ∨ c.toNat = 13 then ⟨0, 0, 2⟩
    else if allowedB c.toNat then quotT (i + 1) r
    else ⟨0, i, 1⟩
def oneSign (c : Int) : Bool := c == 40 || c == 41 || c == 91 || c == 93 || c == 58 || c == 44 || c == 43 || c == 45 || c == 42 || c == 60 || c == 63
def signLen (l : List UInt8) : Nat :=
  if at' l 0 = 61 then (if at' l 1 = 61 then 2 else 1)
  else if oneSign (at' l 0) then 1 else 0
def signT (l : List UInt8) : Tk := if signLen l = 0 then ⟨0, 0, 2⟩ else ⟨8, signLen l, 0⟩
def tokT (l : List UInt8) : Tk :=
  if allowedB (at' l 0) = false then ⟨0, 0, 1⟩
  else if letterB (at' l 0) then wordT l
  else if digitB (at' l 0) then numT l
  else if at' l 0 = 34 then quotT 1 (l.drop 1)
  else signT l
theorem at_suf (s : ByteArray) (a k : Nat) (h : a + k < s.size) : at' (suf s a) k = s[a + k].toNat := by
  unfold at' suf
  rw [List.getD_eq_getElem?_getD, List.getElem?_drop, List.getElem?_eq_getElem (by simpa using h)]
  rfl
end Go.Proofs.YtpdmklbfbpdneaaGreat
namespace Go.Proofs.YtpdmklbfbpdneaaGreat
theorem wordLen_len (l : List UInt8) : wordLen l ≤ l.length := runLen_le wordB l
theorem numLen_len (l : List UInt8) : numLen l ≤ l.length := runLen_le digitB l
theorem at_cons (c : UInt8) (r : List UInt8) : at' (c :: r) 0 = c.toNat := rfl
theorem wordLen_head {l : List UInt8} (h : letterB (at' l 0) = true) : 0 < wordLen l := by
  cases l with
  | nil => exact absurd h (by decide)
  | cons c r =>
    rw [at_cons] at h
    have : wordB c.toNat = true := by unfold wordB; rw [h]; rfl
    unfold wordLen
    simp [runLen, this]
theorem numLen_head {l : List UInt8} (h : digitB (at' l 0) = true) : 0 < numLen l := by
  cases l with
  | nil => exact absurd h (by decide)
  | cons c r =>
    rw [at_cons] at h
    unfold numLen
    simp [runLen, h]
theorem quotT_len (l : List UInt8) : ∀ i, (quotT i l).e = 0 → i < (quotT i l).n ∧ (quotT i l).n ≤ i + l.length := by
  induction l with
  | nil => intro i h; simp [quotT] at h
  | cons c r ih =>
    intro i h
    unfold quotT at h ⊢
    by_cases h1 : c.toNat = 34
    · simp only [h1, if_true, List.length_cons]
      omega
    · simp only [h1, if_false] at h ⊢
      by_cases h2 : c.toNat = 92 ∨ c.toNat = 9 ∨ c.toNat = 10 ∨ c.toNat = 13
      · simp [h2] at h
      · simp only [h2, if_false] at h ⊢
        by_cases h3 : allowedB c.toNat = true
        · simp only [h3, if_true, List.length_cons] at h ⊢
          have := ih (i + 1) h
          omega
        · simp [h3] at h
theorem qual_len {l : List UInt8} {n : Nat} (hn : n + 1 < l.length) (h : (qualT l n).e = 0) : 0 < (qualT l n).n ∧ (qualT l n).n ≤ l.length := by
  have hm := wordLen_len (l.drop (n + 1))
  rw [List.length_drop] at hm
  unfold qualT at h ⊢
  by_cases h1 : 24 < n ∨ 24 < wordLen (l.drop (n + 1))
  · rw [if_pos h1] at h
    cases h
  · rw [if_neg h1] at h ⊢
    by_cases h2 : reservedB ((l.drop (n + 1)).take (wordLen (l.drop (n + 1)))) = true
    · rw [if_pos h2] at h
      cases h
    · rw [if_neg h2]
      by_cases h3 : upperB (at' l (n + 1)) = true
      · rw [if_pos h3]
        exact ⟨by show 0 < n + 1 + _; omega, by show n + 1 + _ ≤ _; omega⟩
      · rw [if_neg h3]
        exact ⟨by show 0 < n + 1 + _; omega, by show n + 1 + _ ≤ _; omega⟩
theorem plain_len {l : List UInt8} (hw : 0 < wordLen l) (h : (plainT l).e = 0) : 0 < (plainT l).n ∧ (plainT l).n ≤ l.length := by
  have hm := wordLen_len l
  unfold plainT at h ⊢
  by_cases h1 : 24 < wordLen l
  · rw [if_pos h1] at h
    cases h
  · rw [if_neg h1]
    by_cases h2 : reservedB (l.take (wordLen l)) = true
    · rw [if_pos h2]
      exact ⟨hw, hm⟩
    · rw [if_neg h2]
      by_cases h3 : upperB (at' l 0) = true
      · rw [if_pos h3]
        exact ⟨hw, hm⟩
      · rw [if_neg h3]
        exact ⟨hw, hm⟩
theorem num_len {l : List UInt8} (hw : 0 < numLen l) (h : (numT l).e = 0) : 0 < (numT l).n ∧ (numT l).n ≤ l.length := by
  have hm := numLen_len l
  unfold numT at h ⊢
  by_cases h1 : 1 < numLen l ∧ at' l 0 = 48
  · rw [if_pos h1] at h
    cases h
  · rw [if_neg h1] at h ⊢
    by_cases h2 : 15 < numLen l
    · rw [if_pos h2] at h
      cases h
    · rw [if_neg h2]
      exact ⟨hw, hm⟩
theorem signLen_len (l : List UInt8) : signLen l ≤ l.length := by
  unfold signLen
  match l with
  | [] => decide
  | [c] =>
    have h1 : at' [c] 1 = 0 := rfl
    rw [h1, show [c].length = 1 from rfl]
    by_cases h : at' [c] 0 = 61
    · rw [if_pos h]
      decide
    · rw [if_neg h]
      by_cases h2 : oneSign (at' [c] 0) = true
      · rw [if_pos h2]
        decide
      · rw [if_neg h2]
        decide
  | c :: d :: r =>
    simp only [List.length_cons]
    by_cases h : at' (c :: d :: r) 0 = 61
    · rw [if_pos h]
      by_cases h2 : at' (c :: d :: r) 1 = 61
      · rw [if_pos h2]
        omega
      · rw [if_neg h2]
        omega
    · rw [if_neg h]
      by_cases h2 : oneSign (at' (c :: d :: r) 0) = true
      · rw [if_pos h2]
        omega
      · rw [if_neg h2]
        omega
theorem sign_len {l : List UInt8} (h : (signT l).e = 0) : 0 < (signT l).n ∧ (signT l).n ≤ l.length := by
  have hm := signLen_len l
  unfold signT at h ⊢
  by_cases hz : signLen l = 0
  · rw [if_pos hz] at h
    cases h
  · rw [if_neg hz]
    exact ⟨by show 0 < signLen l; omega, hm⟩
theorem tok_len {l : List UInt8} (h : (tokT l).e = 0) : 0 < (tokT l).n ∧ (tokT l).n ≤ l.length := by
  unfold tokT at h ⊢
  by_cases ha : allowedB (at' l 0) = false
  · rw [if_pos ha] at h
    cases h
  · rw [if_neg ha] at h ⊢
    by_cases hl : letterB (at' l 0) = true
    · rw [if_pos hl] at h ⊢
      unfold wordT at h ⊢
      by_cases hd : dotted l = true
      · rw [if_pos hd] at h ⊢
        have hlen : wordLen l + 1 < l.length := by
          unfold dotted at hd
          simp only [Bool.and_eq_true, decide_eq_true_eq] at hd
          exact hd.1.1.2
        exact qual_len hlen h
      · rw [if_neg hd] at h ⊢
        exact plain_len (wordLen_head hl) h
    · rw [if_neg hl] at h ⊢
      by_cases hd : digitB (at' l 0) = true
      · rw [if_pos hd] at h ⊢
        exact num_len (numLen_head hd) h
      · rw [if_neg hd] at h ⊢
        by_cases h34 : at' l 0 = 34
        · rw [if_pos h34] at h ⊢
          have := quotT_len (l.drop 1) 1 h
          rw [List.length_drop] at this
          cases l with
          | nil => exact absurd h34 (by decide)
          | cons c r =>
            rw [List.length_cons] at this ⊢
            omega
        · rw [if_neg h34] at h ⊢
          exact sign_len h
theorem quotT_any (l : List UInt8) : ∀ i, (quotT i l).n ≤ i + l.length := by
  induction l with
  | nil => intro i; exact Nat.zero_le _
  | cons c r ih =>
    intro i
    unfold quotT
    rw [List.length_cons]
    by_cases h1 : c.toNat = 34
    · rw [if_pos h1]
      show i + 1 ≤ _
      omega
    · rw [if_neg h1]
      by_cases h2 : c.toNat = 92 ∨ c.toNat = 9 ∨ c.toNat = 10 ∨ c.toNat = 13
      · rw [if_pos h2]
        exact Nat.zero_le _
      · rw [if_neg h2]
        by_cases h3 : allowedB c.toNat = true
        · rw [if_pos h3]
          have := ih (i + 1)
          omega
        · rw [if_neg h3]
          show i ≤ _
          omega
/-- With an error the offset lies inside as well. -/
theorem tok_err_len {l : List UInt8} (h : (tokT l).e ≠ 0) : (tokT l).n ≤ l.length := by
  unfold tokT at h ⊢
  by_cases ha : allowedB (at' l 0) = false
  · rw [if_pos ha]
    exact Nat.zero_le _
  · rw [if_neg ha] at h ⊢
    by_cases hl : letterB (at' l 0) = true
    · rw [if_pos hl] at h ⊢
      unfold wordT at h ⊢
      by_cases hd : dotted l = true
      · rw [if_pos hd] at h ⊢
        unfold qualT at h ⊢
        split
        · exact Nat.zero_le _
        · split
          · exact Nat.zero_le _
          · rename_i h1 h2
            rw [if_neg h1, if_neg h2] at h
            split at h <;> exact absurd rfl h
      · rw [if_neg hd] at h ⊢
        unfold plainT at h ⊢
        split
        · exact Nat.zero_le _
        · rename_i h1
          rw [if_neg h1] at h
          split at h
          · exact absurd rfl h
          · split at h <;> exact absurd rfl h
    · rw [if_neg hl] at h ⊢
      by_cases hd : digitB (at' l 0) = true
      · rw [if_pos hd] at h ⊢
        unfold numT at h ⊢
        split
        · exact Nat.zero_le _
        · split
          · exact Nat.zero_le _
          · rename_i h1 h2
            rw [if_neg h1, if_neg h2] at h
            exact absurd rfl h
      · rw [if_neg hd] at h ⊢
        by_cases h34 : at' l 0 = 34
        · rw [if_pos h34]
          have := quotT_any (l.drop 1) 1
          rw [List.length_drop] at this
          cases l with
          | nil => exact absurd h34 (by decide)
          | cons c r =>
            rw [List.length_cons] at this ⊢
            omega
        · rw [if_neg h34] at h ⊢
          unfold signT at h ⊢
          split
          · exact Nat.zero_le _
          · rename_i h1
            rw [if_neg h1] at h
            exact absurd rfl h
structure Tok where
  kind : Int
  lead : ByteArray
  text : ByteArray
structure Res where
  toks : List Tok
  tail : ByteArray
  place : Nat
  e : Nat
/-- The tokens from a place on, behind those that are known. -/
def scanF (s : ByteArray) : Nat → Nat → List Tok → Res
  | 0, _, _ => ⟨[], ByteArray.empty, 0, 0⟩
  | f + 1, k, acc =>
    if skipTo s k = s.size then ⟨acc, s.extract k s.size, 0, 0⟩
    else if (tokT (suf s (skipTo s k))).e = 0 then
      scanF s f (skipTo s k + (tokT (suf s (skipTo s k))).n) (acc ++ [⟨(tokT (suf s (skipTo s k))).kind, s.extract k (skipTo s k), s.extract (skipTo s k) (skipTo s k + (tokT (suf s (skipTo s k))).n)⟩])
    else ⟨[], ByteArray.empty, skipTo s k + (tokT (suf s (skipTo s k))).n, (tokT (suf s (skipTo s k))).e⟩
def scanG (s : ByteArray) : Res := scanF s (s.size + 1) 0 []
/-- What Scan answers (P1.3). -/
def scanR (s : ByteArray) : Res := if 4096 < s.size then ⟨[], ByteArray.empty, 4096, 3⟩ else scanG s
/-- The state of a scan at a place. -/
def ScanAt (s : ByteArray) (k : Nat) (acc : List Tok) : Prop := k ≤ s.size ∧ acc.length ≤ k ∧ ∃ f, s.size < f + k ∧ scanG s = scanF s f k acc
theorem ScanAt.start (s : ByteArray) : ScanAt s 0 [] := ⟨Nat.zero_le _, Nat.le_refl _, s.size + 1, by omega, rfl⟩
section
variable {s : ByteArray} {k : Nat} {acc : List Tok}
theorem ScanAt.done (h : ScanAt s k acc) (hs : skipTo s k = s.size) : scanG s = ⟨acc, s.extract k s.size, 0, 0⟩ := by
  obtain ⟨hk, _, f, hf, h⟩ := h
  obtain ⟨f, rfl⟩ : ∃ g, f = g + 1 := ⟨f - 1, by omega⟩
  rw [h, scanF, if_pos hs]
theorem ScanAt.stop (h : ScanAt s k acc) (hs : skipTo s k ≠ s.size) (he : (tokT (suf s (skipTo s k))).e ≠ 0) : scanG s = ⟨[], ByteArray.empty, skipTo s k + (tokT (suf s (skipTo s k))).n, (tokT (suf s (skipTo s k))).e⟩ := by
  obtain ⟨hk, _, f, hf, h⟩ := h
  obtain ⟨f, rfl⟩ : ∃ g, f = g + 1 := ⟨f - 1, by omega⟩
  rw [h, scanF, if_neg hs, if_neg he]
theorem ScanAt.next (h : ScanAt s k acc) (hs : skipTo s k ≠ s.size) (he : (tokT (suf s (skipTo s k))).e = 0) :
    ScanAt s (skipTo s k + (tokT (suf s (skipTo s k))).n) (acc ++ [⟨(tokT (suf s (skipTo s k))).kind, s.extract k (skipTo s k), s.extract (skipTo s k) (skipTo s k + (tokT (suf s (skipTo s k))).n)⟩]) := by
  obtain ⟨hk, ha, f, hf, h⟩ := h
  have h1 := tok_len he
  have h2 := skipTo_ge s k
  have h3 := skipTo_le s k hk
  rw [suf_length] at h1
  obtain ⟨f, rfl⟩ : ∃ g, f = g + 1 := ⟨f - 1, by omega⟩
  refine ⟨by omega, by simp; omega, f, by omega, ?_⟩
  rw [h, scanF, if_neg hs, if_pos he]
end
end Go.Proofs.YtpdmklbfbpdneaaGreat
namespace Go.Proofs.YtpdmklbfbpdneaaGreat
theorem runLen_take (p : Int → Bool) (l : List UInt8) : ∀ m, runLen p l ≤ m → runLen p (l.take m) = runLen p l := by
  induction l with
  | nil => intro m _; simp [runLen]
  | cons c r ih =>
    intro m h
    cases m with
    | zero =>
      unfold runLen at h
      split at h
      · omega
      · rename_i hp
        simp [runLen, hp]
    | succ m =>
      rw [List.take_succ_cons]
      unfold runLen at h ⊢
      split
      · rename_i hp
        rw [if_pos hp] at h
        rw [ih m (by omega)]
      · rfl
theorem at_take (l : List UInt8) (m k : Nat) (h : k < m) : at' (l.take m) k = at' l k := by
  unfold at'
  rw [List.getD_eq_getElem?_getD, List.getD_eq_getElem?_getD, List.getElem?_take, if_pos h]
theorem at_take_out (l : List UInt8) (m k : Nat) (h : m ≤ k) : at' (l.take m) k = 0 := by
  unfold at'
  rw [List.getD_eq_getElem?_getD, List.getElem?_take, if_neg (by omega)]
  rfl
theorem quotT_kind (l : List UInt8) : ∀ i, (quotT i l).e = 0 → quotT i l = ⟨6, (quotT i l).n, 0⟩ := by
  induction l with
  | nil => intro i h; simp [quotT] at h
  | cons c r ih =>
    intro i h
    unfold quotT at h ⊢
    by_cases h1 : c.toNat = 34
    · rw [if_pos h1]
    · rw [if_neg h1] at h ⊢
      by_cases h2 : c.toNat = 92 ∨ c.toNat = 9 ∨ c.toNat = 10 ∨ c.toNat = 13
      · rw [if_pos h2] at h
        cases h
      · rw [if_neg h2] at h ⊢
        by_cases h3 : allowedB c.toNat = true
        · rw [if_pos h3] at h ⊢
          exact ih _ h
        · rw [if_neg h3] at h
          cases h
theorem quotT_take (l : List UInt8) : ∀ i, (quotT i l).e = 0 → quotT i (l.take ((quotT i l).n - i)) = quotT i l := by
  induction l with
  | nil => intro i h; simp [quotT] at h
  | cons c r ih =>
    intro i h
    have hn := (quotT_len (c :: r) i h).1
    unfold quotT at h hn
    by_cases h1 : c.toNat = 34
    · have e : quotT i (c :: r) = ⟨6, i + 1, 0⟩ := by rw [quotT, if_pos h1]
      rw [e, show i + 1 - i = 1 from by omega]
      rw [List.take_succ_cons, quotT, if_pos h1]
    · rw [if_neg h1] at h hn
      by_cases h2 : c.toNat = 92 ∨ c.toNat = 9 ∨ c.toNat = 10 ∨ c.toNat = 13
      · rw [if_pos h2] at h
        cases h
      · rw [if_neg h2] at h hn
        by_cases h3 : allowedB c.toNat = true
        · rw [if_pos h3] at h hn
          have e : quotT i (c :: r) = quotT (i + 1) r := by rw [quotT, if_neg h1, if_neg h2, if_pos h3]
          have h4 := (quotT_len r (i + 1) h).1
          rw [e, show (quotT (i + 1) r).n - i = ((quotT (i + 1) r).n - (i + 1)) + 1 from by omega, List.take_succ_cons, quotT, if_neg h1, if_neg h2, if_pos h3]
          exact ih _ h
        · rw [if_neg h3] at h
          cases h
theorem plain_take {l : List UInt8} (_hd : dotted l = false) (hw : 0 < wordLen l) (h : (plainT l).e = 0) : dotted (l.take (plainT l).n) = false ∧ plainT (l.take (plainT l).n) = plainT l := by
  have hn : (plainT l).n = wordLen l := by
    unfold plainT at h ⊢
    by_cases h1 : 24 < wordLen l
    · rw [if_pos h1] at h
      cases h
    · rw [if_neg h1]
      split
      · rfl
      · split <;> rfl
  have hwl : wordLen (l.take (wordLen l)) = wordLen l := runLen_take _ _ _ (Nat.le_refl _)
  rw [hn]
  constructor
  · unfold dotted
    rw [hwl, List.length_take]
    rw [show decide (wordLen l + 1 < min (wordLen l) l.length) = false from decide_eq_false (by omega)]
    simp
  · unfold plainT
    rw [hwl, List.take_take, Nat.min_self, at_take l _ 0 hw]
theorem qual_take {l : List UInt8} (hd : dotted l = true) (h : (qualT l (wordLen l)).e = 0) :
    dotted (l.take (qualT l (wordLen l)).n) = true ∧ wordLen (l.take (qualT l (wordLen l)).n) = wordLen l ∧ qualT (l.take (qualT l (wordLen l)).n) (wordLen l) = qualT l (wordLen l) := by
  have hn : (qualT l (wordLen l)).n = wordLen l + 1 + wordLen (l.drop (wordLen l + 1)) := by
    unfold qualT at h ⊢
    by_cases h1 : 24 < wordLen l ∨ 24 < wordLen (l.drop (wordLen l + 1))
    · rw [if_pos h1] at h
      cases h
    · rw [if_neg h1] at h ⊢
      by_cases h2 : reservedB ((l.drop (wordLen l + 1)).take (wordLen (l.drop (wordLen l + 1)))) = true
      · rw [if_pos h2] at h
        cases h
      · rw [if_neg h2]
        split <;> rfl
  rw [hn]
  unfold dotted at hd
  simp only [Bool.and_eq_true, decide_eq_true_eq, beq_iff_eq, Bool.not_eq_true'] at hd
  obtain ⟨⟨⟨⟨hu, hr⟩, hlen⟩, h46⟩, hl⟩ := hd
  generalize hW : wordLen l = W at *
  have hm : 0 < wordLen (l.drop (W + 1)) := by
    refine wordLen_head ?_
    have : at' (l.drop (W + 1)) 0 = at' l (W + 1) := by
      unfold at'
      rw [List.getD_eq_getElem?_getD, List.getD_eq_getElem?_getD, List.getElem?_drop, Nat.add_zero]
    rw [this]
    exact hl
  have hM := wordLen_len (l.drop (W + 1))
  rw [List.length_drop] at hM
  generalize hMM : wordLen (l.drop (W + 1)) = M at *
  have hw : wordLen (l.take (W + 1 + M)) = W := by
    rw [← hW]
    exact runLen_take _ _ _ (by show wordLen l ≤ _; omega)
  have hdr : (l.take (W + 1 + M)).drop (W + 1) = (l.drop (W + 1)).take M := by rw [List.drop_take, show W + 1 + M - (W + 1) = M from by omega]
  have hw2 : wordLen ((l.drop (W + 1)).take M) = M := by
    rw [← hMM]
    exact runLen_take _ _ _ (Nat.le_refl _)
  refine ⟨?_, hw, ?_⟩
  · unfold dotted
    rw [hw, at_take _ _ _ (by omega), at_take _ _ _ (by omega), at_take _ _ _ (by omega), List.take_take, Nat.min_eq_left (by omega), List.length_take, hu, hr, h46, hl, decide_eq_true (by omega)]
    rfl
  · unfold qualT
    rw [hdr, hw2, hMM, List.take_take, Nat.min_self, at_take _ _ _ (by omega)]
theorem num_take {l : List UInt8} (hw : 0 < numLen l) (h : (numT l).e = 0) : 0 < (numT l).n ∧ numT (l.take (numT l).n) = numT l := by
  have hn : (numT l).n = numLen l := by
    unfold numT at h ⊢
    by_cases h1 : 1 < numLen l ∧ at' l 0 = 48
    · rw [if_pos h1] at h
      cases h
    · rw [if_neg h1] at h ⊢
      by_cases h2 : 15 < numLen l
      · rw [if_pos h2] at h
        cases h
      · rw [if_neg h2]
  rw [hn]
  have hwl : numLen (l.take (numLen l)) = numLen l := runLen_take _ _ _ (Nat.le_refl _)
  refine ⟨hw, ?_⟩
  unfold numT
  rw [hwl, at_take l _ 0 hw]
theorem sign_take {l : List UInt8} (h : (signT l).e = 0) : 0 < (signT l).n ∧ signT (l.take (signT l).n) = signT l := by
  have hz : signLen l ≠ 0 := by
    intro hz
    unfold signT at h
    rw [if_pos hz] at h
    cases h
  have hn : (signT l).n = signLen l := by unfold signT; rw [if_neg hz]
  rw [hn]
  refine ⟨by omega, ?_⟩
  have hs : signLen (l.take (signLen l)) = signLen l := by
    have h0 : at' (l.take (signLen l)) 0 = at' l 0 := at_take _ _ _ (by omega)
    unfold signLen at h0 hz ⊢
    by_cases h1 : at' l 0 = 61
    · simp only [h1, if_true] at h0 hz ⊢
      by_cases h2 : at' l 1 = 61
      · simp only [h2, if_true] at h0 ⊢
        rw [h0, at_take l 2 1 (by omega), h2]
        rfl
      · simp only [h2, if_false] at h0 ⊢
        rw [h0, at_take_out l 1 1 (by omega)]
        rfl
    · simp only [h1, if_false] at h0 hz ⊢
      by_cases h2 : oneSign (at' l 0) = true
      · simp only [h2, if_true] at h0 ⊢
        rw [h0]
        simp [h1, h2]
      · simp [h2] at hz
  unfold signT
  rw [hs]
/-- A token, cut out, is the same token. -/
theorem tok_take {l : List UInt8} (h : (tokT l).e = 0) : tokT (l.take (tokT l).n) = tokT l := by
  have hpos := (tok_len h).1
  have h0 : at' (l.take (tokT l).n) 0 = at' l 0 := at_take _ _ _ hpos
  have key : ∀ m, at' (l.take m) 0 = at' l 0 → tokT (l.take m) = if allowedB (at' l 0) = false then ⟨0, 0, 1⟩ else if letterB (at' l 0) then wordT (l.take m) else if digitB (at' l 0) then numT (l.take m) else if at' l 0 = 34 then quotT 1 ((l.take m).drop 1) else signT (l.take m) := by
    intro m hm
    unfold tokT
    rw [hm]
  rw [key _ h0]
  clear key h0
  unfold tokT at h hpos ⊢
  by_cases ha : allowedB (at' l 0) = false
  · rw [if_pos ha] at h
    cases h
  · rw [if_neg ha] at h hpos ⊢
    rw [if_neg ha]
    by_cases hl : letterB (at' l 0) = true
    · rw [if_pos hl] at h hpos ⊢
      rw [if_pos hl]
      unfold wordT at h hpos ⊢
      by_cases hd : dotted l = true
      · rw [if_pos hd] at h hpos ⊢
        obtain ⟨q1, q2, q3⟩ := qual_take hd h
        rw [if_pos q1, q2, q3]
      · rw [if_neg hd] at h hpos ⊢
        obtain ⟨q1, q2⟩ := plain_take (by simpa using hd) (wordLen_head hl) h
        rw [if_neg (by simp [q1]), q2]
    · rw [if_neg hl] at h hpos ⊢
      rw [if_neg hl]
      by_cases hd : digitB (at' l 0) = true
      · rw [if_pos hd] at h hpos ⊢
        rw [if_pos hd]
        exact (num_take (numLen_head hd) h).2
      · rw [if_neg hd] at h hpos ⊢
        rw [if_neg hd]
        by_cases h34 : at' l 0 = 34
        · rw [if_pos h34] at h hpos ⊢
          rw [if_pos h34, List.drop_take]
          exact quotT_take _ _ h
        · rw [if_neg h34] at h hpos ⊢
          rw [if_neg h34]
          exact (sign_take h).2
theorem tok_kind {l : List UInt8} (h : (tokT l).e = 0) : (tokT l).kind ≠ 0 := by
  unfold tokT at h ⊢
  by_cases ha : allowedB (at' l 0) = false
  · rw [if_pos ha] at h
    cases h
  · rw [if_neg ha] at h ⊢
    by_cases hl : letterB (at' l 0) = true
    · rw [if_pos hl] at h ⊢
      unfold wordT at h ⊢
      by_cases hd : dotted l = true
      · rw [if_pos hd] at h ⊢
        unfold qualT at h ⊢
        split at h
        · cases h
        · rename_i h1
          rw [if_neg h1]
          split at h
          · cases h
          · rename_i h2
            rw [if_neg h2]
            split <;> simp
      · rw [if_neg hd] at h ⊢
        unfold plainT at h ⊢
        split at h
        · cases h
        · rename_i h1
          rw [if_neg h1]
          split
          · simp
          · split <;> simp
    · rw [if_neg hl] at h ⊢
      by_cases hd : digitB (at' l 0) = true
      · rw [if_pos hd] at h ⊢
        unfold numT at h ⊢
        split at h
        · cases h
        · rename_i h1
          rw [if_neg h1]
          split at h
          · cases h
          · rename_i h2
            rw [if_neg h2]
            exact (by decide : (5 : Nat) ≠ 0)
      · rw [if_neg hd] at h ⊢
        by_cases h34 : at' l 0 = 34
        · rw [if_pos h34] at h ⊢
          rw [quotT_kind _ _ h]
          exact (by decide : (6 : Nat) ≠ 0)
        · rw [if_neg h34] at h ⊢
          unfold signT at h ⊢
          split at h
          · cases h
          · rename_i h1
            rw [if_neg h1]
            exact (by decide : (8 : Nat) ≠ 0)
end Go.Proofs.YtpdmklbfbpdneaaGreat
namespace Go.Proofs.YtpdmklbfbpdneaaGreat
theorem at_drop' (s : ByteArray) (a k : Nat) : at' (suf s a) k = at' (suf s 0) (a + k) := by
  unfold at' suf
  rw [List.getD_eq_getElem?_getD, List.getD_eq_getElem?_getD, List.getElem?_drop, List.getElem?_drop, Nat.zero_add]
theorem skipL_open (l : List UInt8) : ∀ o, (skipL o l).2 = true → (skipL o l).1 < l.length → allowedB (at' l (skipL o l).1) = false := by
  induction l with
  | nil => intro o _ h; exact absurd h (by simp)
  | cons c r ih =>
    intro o h1 h2
    unfold skipL at h1 h2 ⊢
    by_cases ha : allowedB c.toNat = true
    · simp only [ha, if_true] at h1 h2 ⊢
      cases o
      · simp only [Bool.false_eq_true, if_false] at h1 h2 ⊢
        by_cases hc : c.toNat = 35
        · simp only [hc, if_true, List.length_cons] at h1 h2 ⊢
          exact ih true h1 (by omega)
        · by_cases hw : whiteB c.toNat = true
          · simp only [hc, hw, if_true, if_false, List.length_cons] at h1 h2 ⊢
            exact ih false h1 (by omega)
          · simp only [hc, hw, if_false] at h1
            simp at h1
      · simp only [if_true, List.length_cons] at h1 h2 ⊢
        exact ih _ h1 (by omega)
    · have hf : allowedB c.toNat = false := by simpa using ha
      simp only [hf, Bool.false_eq_true, if_false]
      exact hf
theorem open_bad {s : ByteArray} {k : Nat} (ho : skipOpen s k = true) (hl : skipTo s k < s.size) : tokT (suf s (skipTo s k)) = ⟨0, 0, 1⟩ := by
  have h := skipL_open (suf s k) false ho (by rw [suf_length]; unfold skipTo at hl; omega)
  unfold tokT
  rw [if_pos]
  rw [at_drop'] at h ⊢
  exact h
end Go.Proofs.YtpdmklbfbpdneaaGreat
namespace Go.Proofs.YtpdmklbfbpdneaaGreat
/-- Class (P1.1): the kind of the token that a text is as a whole, or 0. -/
def classN (l : List UInt8) : Nat := if l = [] then 0 else if (tokT l).e ≠ 0 ∨ (tokT l).n ≠ l.length then 0 else (tokT l).kind
def bl (s : ByteArray) : List UInt8 := suf s 0
theorem bl_length (s : ByteArray) : (bl s).length = s.size := by unfold bl; rw [suf_length]; omega
theorem bl_inj {a b : ByteArray} (h : bl a = bl b) : a = b := by
  unfold bl suf at h
  rw [List.drop_zero, List.drop_zero] at h
  cases a; cases b
  congr 1
  exact Array.toList_inj.1 h
theorem bl_append (a b : ByteArray) : bl (a ++ b) = bl a ++ bl b := by
  unfold bl suf
  rw [List.drop_zero, List.drop_zero, List.drop_zero, ByteArray.data_append, Array.toList_append]
def joinL (ts : List Tok) (tail : List UInt8) : List UInt8 := (ts.flatMap fun t => bl t.lead ++ bl t.text) ++ tail
theorem joinL_snoc (ts : List Tok) (t : Tok) : joinL (ts ++ [t]) [] = joinL ts [] ++ (bl t.lead ++ bl t.text) := by
  unfold joinL
  rw [List.flatMap_append]
  simp
def GoodTok (t : Tok) : Prop := (classN (bl t.text) : Int) = t.kind ∧ t.kind ≠ 0 ∧ triviaB t.lead false = true
theorem class_own {l : List UInt8} {n : Nat} (h : (tokT l).e = 0) (hn : (tokT l).n = n) : classN (l.take n) = (tokT l).kind := by
  subst hn
  have h1 := tok_len h
  have h2 := tok_take h
  unfold classN
  rw [if_neg, h2, if_neg]
  · rw [List.length_take]
    omega
  · intro e
    have := congrArg List.length e
    rw [List.length_take, List.length_nil] at this
    omega
theorem skipL_take (l : List UInt8) : ∀ o, skipL o (l.take (skipL o l).1) = skipL o l := by
  induction l with
  | nil => intro o; simp [skipL]
  | cons c r ih =>
    intro o
    by_cases ha : allowedB c.toNat = true
    · cases o
      · by_cases hc : c.toNat = 35
        · have e : skipL false (c :: r) = ((skipL true r).1 + 1, (skipL true r).2) := by
            rw [skipL, if_pos ha, if_neg (by decide), if_pos hc]
          rw [e, List.take_succ_cons, skipL, if_pos ha, if_neg (by decide), if_pos hc, ih]
        · by_cases hw : whiteB c.toNat = true
          · have e : skipL false (c :: r) = ((skipL false r).1 + 1, (skipL false r).2) := by
              rw [skipL, if_pos ha, if_neg (by decide), if_neg hc, if_pos hw]
            rw [e, List.take_succ_cons, skipL, if_pos ha, if_neg (by decide), if_neg hc, if_pos hw, ih]
          · have e : skipL false (c :: r) = (0, false) := by
              rw [skipL, if_pos ha, if_neg (by decide), if_neg hc, if_neg hw]
            rw [e]
            rfl
      · have e : skipL true (c :: r) = ((skipL (c.toNat != 10) r).1 + 1, (skipL (c.toNat != 10) r).2) := by
          rw [skipL, if_pos ha, if_pos rfl]
        rw [e, List.take_succ_cons, skipL, if_pos ha, if_pos rfl, ih]
    · have e : skipL o (c :: r) = (0, o) := by rw [skipL, if_neg ha]
      rw [e]
      rfl
theorem cut_skip (s : ByteArray) (k : Nat) (hk : k ≤ s.size) : skipTo (s.extract k (skipTo s k)) 0 = (s.extract k (skipTo s k)).size ∧ skipOpen (s.extract k (skipTo s k)) 0 = skipOpen s k := by
  have h1 := skipTo_le s k hk
  have h2 := skipTo_ge s k
  have hn : skipTo s k - k = (skipL false (suf s k)).1 := by unfold skipTo; omega
  have hs : suf (s.extract k (skipTo s k)) 0 = (suf s k).take (skipL false (suf s k)).1 := by rw [suf_extract, hn]
  constructor
  · rw [ByteArray.size_extract, Nat.min_eq_left h1, hn]
    rw [show ∀ x, skipTo x 0 = 0 + (skipL false (suf x 0)).1 from fun _ => rfl, hs, skipL_take, Nat.zero_add]
  · rw [show ∀ x, skipOpen x 0 = (skipL false (suf x 0)).2 from fun _ => rfl, hs, skipL_take]
    rfl
theorem good_tok {s : ByteArray} {k : Nat} (hk : k ≤ s.size) (hs : skipTo s k ≠ s.size) (he : (tokT (suf s (skipTo s k))).e = 0) :
    GoodTok ⟨(tokT (suf s (skipTo s k))).kind, s.extract k (skipTo s k), s.extract (skipTo s k) (skipTo s k + (tokT (suf s (skipTo s k))).n)⟩ := by
  have h1 := skipTo_le s k hk
  have ho : skipOpen s k = false := by
    cases h : skipOpen s k
    · rfl
    · rw [open_bad h (by omega)] at he
      cases he
  refine ⟨?_, ?_, ?_⟩
  · show ((classN (suf (s.extract _ _) 0) : Nat) : Int) = _
    rw [suf_extract, class_own he (by omega)]
  · have := tok_kind he
    show ((tokT (suf s (skipTo s k))).kind : Int) ≠ 0
    omega
  · show triviaB (s.extract k (skipTo s k)) false = true
    obtain ⟨c1, c2⟩ := cut_skip s k hk
    unfold triviaB
    rw [c1, c2, ho]
    simp
theorem good_tail {s : ByteArray} {k : Nat} (hk : k ≤ s.size) (hs : skipTo s k = s.size) : triviaB (s.extract k s.size) true = true := by
  obtain ⟨c1, _⟩ := cut_skip s k hk
  rw [hs] at c1
  unfold triviaB
  rw [c1]
  simp
/-- What a scan's answer is like. -/
def GoodRes (s : ByteArray) (r : Res) : Prop :=
  (r.e = 0 → (∀ t ∈ r.toks, GoodTok t) ∧ joinL r.toks (bl r.tail) = bl s ∧ triviaB r.tail true = true) ∧ (r.e ≠ 0 → r.toks = [] ∧ r.tail = ByteArray.empty)
theorem take_extract (s : ByteArray) (a b : Nat) (hab : a ≤ b) : (bl s).take a ++ bl (s.extract a b) = (bl s).take b := by
  unfold bl
  rw [suf_extract]
  have : suf s a = (suf s 0).drop a := by rw [suf_drop, Nat.zero_add]
  rw [this, ← List.drop_take]
  conv => rhs; rw [← List.take_append_drop a ((suf s 0).take b)]
  rw [List.take_take, Nat.min_eq_left hab]
theorem scanF_good (s : ByteArray) : ∀ f k acc, k ≤ s.size → s.size < f + k → (∀ t ∈ acc, GoodTok t) → joinL acc [] = (bl s).take k → GoodRes s (scanF s f k acc) := by
  intro f
  induction f with
  | zero => intro k acc hk hf _ _; omega
  | succ f ih =>
    intro k acc hk hf hacc hj
    have h2 := skipTo_ge s k
    have h3 := skipTo_le s k hk
    unfold scanF
    by_cases hs : skipTo s k = s.size
    · rw [if_pos hs]
      refine ⟨fun _ => ⟨hacc, ?_, good_tail hk hs⟩, fun h => absurd rfl h⟩
      have : joinL acc (bl (s.extract k s.size)) = joinL acc [] ++ bl (s.extract k s.size) := by unfold joinL; simp
      rw [this, hj, take_extract s k s.size hk, List.take_of_length_le (by rw [bl_length]; omega)]
    · rw [if_neg hs]
      by_cases he : (tokT (suf s (skipTo s k))).e = 0
      · rw [if_pos he]
        have h1 := tok_len he
        rw [suf_length] at h1
        refine ih _ _ (by omega) (by omega) ?_ ?_
        · intro t ht
          rcases List.mem_append.1 ht with h | h
          · exact hacc t h
          · rw [List.mem_singleton.1 h]
            exact good_tok hk hs he
        · rw [joinL_snoc, hj, ← List.append_assoc, take_extract s k _ h2, take_extract s _ _ (by omega)]
      · rw [if_neg he]
        exact ⟨fun h => absurd h he, fun _ => ⟨rfl, rfl⟩⟩
theorem scanR_good (s : ByteArray) : GoodRes s (scanR s) := by
  unfold scanR
  split
  · exact ⟨(fun h => by cases h), fun _ => ⟨rfl, rfl⟩⟩
  · exact scanF_good s _ _ _ (Nat.zero_le _) (by omega) (by simp) (by simp [joinL])
end Go.Proofs.YtpdmklbfbpdneaaGreat
namespace Go.Proofs.YtpdmklbfbpdneaaGreat
theorem runLen_yes {p : Int → Bool} {c : UInt8} (h : p c.toNat = true) (r : List UInt8) : runLen p (c :: r) = runLen p r + 1 := by simp [runLen, h]
theorem runLen_no {p : Int → Bool} {c : UInt8} (h : ¬ p c.toNat = true) (r : List UInt8) : runLen p (c :: r) = 0 := by simp [runLen, h]
theorem runLen_full {p : Int → Bool} {a : List UInt8} (h : runLen p a = a.length) (x : List UInt8) : runLen p (a ++ x) = a.length + runLen p x := by
  induction a with
  | nil => simp
  | cons c r ih =>
    rw [List.cons_append, List.length_cons]
    rw [List.length_cons] at h
    by_cases hp : p c.toNat = true
    · rw [runLen_yes hp] at h ⊢
      rw [ih (by omega)]
      omega
    · rw [runLen_no hp] at h
      omega
theorem runLen_part {p : Int → Bool} {a : List UInt8} (h : runLen p a ≠ a.length) (x : List UInt8) : runLen p (a ++ x) = runLen p a := by
  induction a with
  | nil => exact absurd rfl h
  | cons c r ih =>
    rw [List.cons_append]
    rw [List.length_cons] at h
    by_cases hp : p c.toNat = true
    · rw [runLen_yes hp] at h ⊢
      rw [runLen_yes hp, ih (by omega)]
    · rw [runLen_no hp, runLen_no hp]
theorem at_app {a : List UInt8} {k : Nat} (h : k < a.length) (x : List UInt8) : at' (a ++ x) k = at' a k := by
  unfold at'
  rw [List.getD_eq_getElem?_getD, List.getD_eq_getElem?_getD, List.getElem?_append_left h]
theorem at_next (a : List UInt8) (d : UInt8) (r : List UInt8) : at' (a ++ d :: r) a.length = d.toNat := by
  unfold at'
  rw [List.getD_eq_getElem?_getD, List.getElem?_append_right (Nat.le_refl _), Nat.sub_self]
  rfl
theorem quotT_app (a : List UInt8) : ∀ i x, (quotT i a).e = 0 → quotT i (a ++ x) = quotT i a := by
  induction a with
  | nil => intro i x h; simp [quotT] at h
  | cons c r ih =>
    intro i x h
    rw [List.cons_append]
    unfold quotT at h ⊢
    by_cases h1 : c.toNat = 34
    · rw [if_pos h1, if_pos h1]
    · rw [if_neg h1] at h ⊢
      rw [if_neg h1]
      by_cases h2 : c.toNat = 92 ∨ c.toNat = 9 ∨ c.toNat = 10 ∨ c.toNat = 13
      · rw [if_pos h2] at h
        cases h
      · rw [if_neg h2] at h ⊢
        rw [if_neg h2]
        by_cases h3 : allowedB c.toNat = true
        · rw [if_pos h3] at h ⊢
          rw [if_pos h3]
          exact ih _ _ h
        · rw [if_neg h3] at h
          cases h
/-- Does this byte continue the token a? -/
def goes (a : List UInt8) (d : UInt8) : Bool :=
  if letterB (at' a 0) then wordB d.toNat
  else if digitB (at' a 0) then digitB d.toNat
  else at' a 0 == 61 && a.length == 1 && d.toNat == 61
theorem plain_n {l : List UInt8} (h : (plainT l).e = 0) : (plainT l).n = wordLen l := by
  unfold plainT at h ⊢
  by_cases h1 : 24 < wordLen l
  · rw [if_pos h1] at h
    cases h
  · rw [if_neg h1]
    split
    · rfl
    · split <;> rfl
theorem qual_n {l : List UInt8} {n : Nat} (h : (qualT l n).e = 0) : (qualT l n).n = n + 1 + wordLen (l.drop (n + 1)) := by
  unfold qualT at h ⊢
  by_cases h1 : 24 < n ∨ 24 < wordLen (l.drop (n + 1))
  · rw [if_pos h1] at h
    cases h
  · rw [if_neg h1] at h ⊢
    by_cases h2 : reservedB ((l.drop (n + 1)).take (wordLen (l.drop (n + 1)))) = true
    · rw [if_pos h2] at h
      cases h
    · rw [if_neg h2]
      split <;> rfl
theorem num_n {l : List UInt8} (h : (numT l).e = 0) : (numT l).n = numLen l := by
  unfold numT at h ⊢
  by_cases h1 : 1 < numLen l ∧ at' l 0 = 48
  · rw [if_pos h1] at h
    cases h
  · rw [if_neg h1] at h ⊢
    by_cases h2 : 15 < numLen l
    · rw [if_pos h2] at h
      cases h
    · rw [if_neg h2]
theorem run_next {p : Int → Bool} {d : UInt8} (h : p d.toNat = false) (r : List UInt8) : runLen p (d :: r) = 0 := by simp [runLen, h]
theorem run_next_yes {p : Int → Bool} {d : UInt8} (h : p d.toNat = true) (r : List UInt8) : 0 < runLen p (d :: r) := by simp [runLen, h]
theorem dotted_parts {l : List UInt8} (h : dotted l = true) : wordLen l + 1 < l.length ∧ at' l (wordLen l) = 46 := by
  unfold dotted at h
  simp only [Bool.and_eq_true, decide_eq_true_eq, beq_iff_eq] at h
  exact ⟨h.1.1.2, h.1.2⟩
theorem dotted_app {a : List UInt8} (h : wordLen a + 1 < a.length) (x : List UInt8) : dotted (a ++ x) = dotted a := by
  have hw : wordLen (a ++ x) = wordLen a := runLen_part (by show wordLen a ≠ _; omega) x
  unfold dotted
  rw [hw, at_app (by omega), at_app (by omega), at_app (by omega), List.take_append_of_le_length (by omega), List.length_append, decide_eq_true h, decide_eq_true (by omega)]
theorem word_stop {a : List UInt8} {d : UInt8} (h0 : 0 < a.length) (he : (wordT a).e = 0) (hn : (wordT a).n = a.length) (hd : wordB d.toNat = false) (h46 : d.toNat ≠ 46) (r : List UInt8) : wordT (a ++ d :: r) = wordT a := by
  have hz := run_next hd r
  unfold wordT at he hn ⊢
  by_cases hdot : dotted a = true
  · rw [if_pos hdot] at he hn ⊢
    obtain ⟨hl, _⟩ := dotted_parts hdot
    have hw : wordLen (a ++ d :: r) = wordLen a := runLen_part (by show wordLen a ≠ _; omega) _
    have hq := qual_n he
    rw [dotted_app hl, if_pos hdot, hw]
    have hdr : (a ++ d :: r).drop (wordLen a + 1) = a.drop (wordLen a + 1) ++ d :: r := List.drop_append_of_le_length (by omega)
    have hfull : runLen wordB (a.drop (wordLen a + 1)) = (a.drop (wordLen a + 1)).length := by
      show wordLen _ = _
      rw [List.length_drop]
      omega
    have hwl : wordLen (a.drop (wordLen a + 1) ++ d :: r) = wordLen (a.drop (wordLen a + 1)) := by
      show runLen wordB _ = runLen wordB _
      rw [runLen_full hfull, hz, hfull, Nat.add_zero]
    unfold qualT
    rw [hdr, hwl, at_app hl, List.take_append_of_le_length (wordLen_len _)]
  · rw [if_neg hdot] at he hn ⊢
    have hp := plain_n he
    have hfull : runLen wordB a = a.length := by
      show wordLen a = _
      omega
    have hw : wordLen (a ++ d :: r) = wordLen a := by
      show runLen wordB _ = runLen wordB _
      rw [runLen_full hfull, hz, hfull, Nat.add_zero]
    have hnd : ¬ dotted (a ++ d :: r) = true := by
      intro h
      have := (dotted_parts h).2
      rw [hw, show wordLen a = a.length from hfull, at_next] at this
      exact h46 this
    rw [if_neg hnd]
    unfold plainT
    rw [hw, at_app h0, List.take_append_of_le_length (by show runLen wordB a ≤ _; omega)]
theorem num_stop {a : List UInt8} {d : UInt8} (h0 : 0 < a.length) (he : (numT a).e = 0) (hn : (numT a).n = a.length) (hd : digitB d.toNat = false) (r : List UInt8) : numT (a ++ d :: r) = numT a := by
  have hp := num_n he
  have hfull : runLen digitB a = a.length := by
    show numLen a = _
    omega
  have hw : numLen (a ++ d :: r) = numLen a := by
    show runLen digitB _ = runLen digitB _
    rw [runLen_full hfull, run_next hd, hfull, Nat.add_zero]
  unfold numT
  rw [hw, at_app h0]
theorem sign_stop {a : List UInt8} {d : UInt8} (h0 : 0 < a.length) (he : (signT a).e = 0) (hn : (signT a).n = a.length) (hd : ¬ (at' a 0 = 61 ∧ a.length = 1 ∧ d.toNat = 61)) (r : List UInt8) : signT (a ++ d :: r) = signT a := by
  have hz : signLen a ≠ 0 := by
    intro hz
    unfold signT at he
    rw [if_pos hz] at he
    cases he
  have hl : signLen a = a.length := by
    unfold signT at hn
    rw [if_neg hz] at hn
    exact hn
  have hs : signLen (a ++ d :: r) = signLen a := by
    unfold signLen at hl ⊢
    rw [at_app h0]
    by_cases h1 : at' a 0 = 61
    · rw [if_pos h1] at hl ⊢
      rw [if_pos h1]
      by_cases h2 : at' a 1 = 61
      · rw [if_pos h2] at hl ⊢
        rw [at_app (by omega), if_pos h2]
      · rw [if_neg h2] at hl ⊢
        have : at' (a ++ d :: r) 1 = d.toNat := by rw [hl]; exact at_next a d r
        rw [this, if_neg (fun h => hd ⟨h1, hl.symm, h⟩)]
    · rw [if_neg h1, if_neg h1]
  unfold signT
  rw [hs]
/-- A token, followed by a byte that does not continue it, is the same token. -/
theorem tok_stop {a : List UInt8} {d : UInt8} (he : (tokT a).e = 0) (hn : (tokT a).n = a.length) (hg : goes a d = false) (h46 : d.toNat ≠ 46) (r : List UInt8) : tokT (a ++ d :: r) = tokT a := by
  have h0 : 0 < a.length := by have := (tok_len he).1; omega
  unfold goes at hg
  unfold tokT at he hn ⊢
  rw [at_app h0]
  by_cases ha : allowedB (at' a 0) = false
  · rw [if_pos ha, if_pos ha]
  · rw [if_neg ha] at he hn ⊢
    rw [if_neg ha]
    by_cases hl : letterB (at' a 0) = true
    · rw [if_pos hl] at he hn hg ⊢
      rw [if_pos hl]
      exact word_stop h0 he hn hg h46 r
    · rw [if_neg hl] at he hn hg ⊢
      rw [if_neg hl]
      by_cases hd : digitB (at' a 0) = true
      · rw [if_pos hd] at he hn hg ⊢
        rw [if_pos hd]
        exact num_stop h0 he hn hg r
      · rw [if_neg hd] at he hn hg ⊢
        rw [if_neg hd]
        by_cases h34 : at' a 0 = 34
        · rw [if_pos h34] at he hn ⊢
          rw [if_pos h34, List.drop_append_of_le_length (by omega)]
          exact quotT_app _ _ _ he
        · rw [if_neg h34] at he hn ⊢
          rw [if_neg h34]
          exact sign_stop h0 he hn (by intro h; rw [h.1, h.2.1, h.2.2] at hg; exact absurd hg (by decide)) r
/-- A byte that continues it makes another token, or none. -/
theorem tok_goes {a : List UInt8} {d : UInt8} (he : (tokT a).e = 0) (hn : (tokT a).n = a.length) (hg : goes a d = true) (r : List UInt8) (he2 : (tokT (a ++ d :: r)).e = 0) : (tokT (a ++ d :: r)).n ≠ a.length := by
  have h0 : 0 < a.length := by have := (tok_len he).1; omega
  unfold goes at hg
  unfold tokT at he hn he2 ⊢
  rw [at_app h0] at he2 ⊢
  by_cases ha : allowedB (at' a 0) = false
  · rw [if_pos ha] at he
    cases he
  · rw [if_neg ha] at he hn he2 ⊢
    by_cases hl : letterB (at' a 0) = true
    · rw [if_pos hl] at he hn hg he2 ⊢
      have hz := run_next_yes hg r
      unfold wordT at he hn he2 ⊢
      by_cases hdot : dotted a = true
      · rw [if_pos hdot] at he hn
        obtain ⟨hl2, _⟩ := dotted_parts hdot
        have hw : wordLen (a ++ d :: r) = wordLen a := runLen_part (by show wordLen a ≠ _; omega) _
        have hq := qual_n he
        rw [dotted_app hl2, if_pos hdot, hw] at he2 ⊢
        rw [qual_n he2, List.drop_append_of_le_length (by omega)]
        have hfull : runLen wordB (a.drop (wordLen a + 1)) = (a.drop (wordLen a + 1)).length := by
          show wordLen _ = _
          rw [List.length_drop]
          omega
        have : wordLen (a.drop (wordLen a + 1) ++ d :: r) = (a.drop (wordLen a + 1)).length + runLen wordB (d :: r) := runLen_full hfull _
        rw [this, List.length_drop]
        omega
      · rw [if_neg hdot] at he hn
        have hp := plain_n he
        have hfull : runLen wordB a = a.length := by
          show wordLen a = _
          omega
        have hw : wordLen (a ++ d :: r) = a.length + runLen wordB (d :: r) := runLen_full hfull _
        by_cases hd2 : dotted (a ++ d :: r) = true
        · rw [if_pos hd2] at he2 ⊢
          rw [qual_n he2, hw]
          omega
        · rw [if_neg hd2] at he2 ⊢
          rw [plain_n he2, hw]
          omega
    · rw [if_neg hl] at he hn hg he2 ⊢
      by_cases hd : digitB (at' a 0) = true
      · rw [if_pos hd] at he hn hg he2 ⊢
        have hp := num_n he
        have hfull : runLen digitB a = a.length := by
          show numLen a = _
          omega
        have hw : numLen (a ++ d :: r) = a.length + runLen digitB (d :: r) := runLen_full hfull _
        have := run_next_yes hg r
        rw [num_n he2, hw]
        omega
      · rw [if_neg hd] at he hn hg he2 ⊢
        simp only [Bool.and_eq_true, beq_iff_eq] at hg
        obtain ⟨⟨h1, h2⟩, h3⟩ := hg
        rw [h1, if_neg (by decide)] at he2 ⊢
        have hs : signLen (a ++ d :: r) = 2 := by
          unfold signLen
          have : at' (a ++ d :: r) 1 = d.toNat := by rw [← h2]; exact at_next a d r
          rw [at_app h0, if_pos h1, this, if_pos h3]
        unfold signT
        rw [hs, if_neg (by decide), h2]
        decide
end Go.Proofs.YtpdmklbfbpdneaaGreat
