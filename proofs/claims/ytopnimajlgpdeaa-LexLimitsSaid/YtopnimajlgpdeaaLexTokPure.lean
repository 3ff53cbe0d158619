/- Plain functions on lists of bytes: the token at the beginning of a list (kind, length or offset of the error, error). No condition. -/
import Derived.Test.YtopnimajlgpdeaaLexPure
namespace Go.Proofs.Ytopnimajlgpdeaa
theorem suf_extract (s : ByteArray) (a b : Nat) : suf (s.extract a b) 0 = (suf s a).take (b - a) := by
  unfold suf
  rw [List.drop_zero, ByteArray.data_extract, Array.toList_extract, List.extract_eq_take_drop]
theorem suf_to_end (s : ByteArray) (a : Nat) : suf (s.extract a s.size) 0 = suf s a := by
  rw [suf_extract, List.take_of_length_le (by rw [suf_length]; omega)]
theorem suf_drop (s : ByteArray) (a n : Nat) : (suf s a).drop n = suf s (a + n) := by
  unfold suf
  rw [List.drop_drop]
/-- How many bytes of a kind stand at the beginning. -/
def runLen (p : Int → Bool) : List UInt8 → Nat
  | [] => 0
  | c :: r => if p c.toNat then runLen p r + 1 else 0
theorem runLen_le (p : Int → Bool) (l : List UInt8) : runLen p l ≤ l.length := by
  induction l with
  | nil => simp [runLen]
  | cons c r ih => unfold runLen; split <;> simp <;> omega
def RunAt (p : Int → Bool) (s : ByteArray) (i k : Nat) : Prop := i ≤ k ∧ k ≤ s.size ∧ runLen p (suf s i) + i = k + runLen p (suf s k)
theorem RunAt.start (p : Int → Bool) (s : ByteArray) (i : Nat) (h : i ≤ s.size) : RunAt p s i i := ⟨Nat.le_refl _, h, by omega⟩
section
variable {p : Int → Bool} {s : ByteArray} {i k : Nat}
theorem RunAt.next (h : RunAt p s i k) (hk : k < s.size) (hp : p s[k].toNat = true) : RunAt p s i (k + 1) := by
  obtain ⟨h0, _, h1⟩ := h
  rw [suf_cons s k hk] at h1
  simp only [runLen, hp, if_true] at h1
  exact ⟨by omega, by omega, by omega⟩
theorem RunAt.stop (h : RunAt p s i k) (hk : k < s.size) (hp : p s[k].toNat = false) : runLen p (suf s i) + i = k := by
  obtain ⟨h0, _, h1⟩ := h
  rw [suf_cons s k hk] at h1
  simp only [runLen, hp] at h1
  simpa using h1
theorem RunAt.done (h : RunAt p s i k) (hk : ¬ k < s.size) : runLen p (suf s i) + i = k := by
  obtain ⟨h0, _, h1⟩ := h
  rw [suf_end s k (by omega)] at h1
  simpa [runLen] using h1
end
def wordLen (l : List UInt8) : Nat := runLen wordB l
def numLen (l : List UInt8) : Nat := runLen digitB l
def reservedWords : List (List UInt8) := [[109, 111, 100, 117, 108, 101], [100, 101, 102], [116, 121, 112, 101], [108, 101, 116], [105, 110], [105, 102], [116, 104, 101, 110], [101, 108, 115, 101], [116, 114, 117, 101], [102, 97, 108, 115, 101], [73, 110, 116], [84, 101, 120, 116], [66, 111, 111, 108]]
def reservedB (l : List UInt8) : Bool := reservedWords.contains l
structure Tk where
  kind : Nat
  n : Nat
  e : Nat
def at' (l : List UInt8) (k : Nat) : Nat := (l.getD k 0).toNat
def qualT (l : List UInt8) (n : Nat) : Tk :=
  if 24 < n ∨ 24 < wordLen (l.drop (n + 1)) then ⟨0, 0, 3⟩
  else if reservedB ((l.drop (n + 1)).take (wordLen (l.drop (n + 1)))) then ⟨0, 0, 2⟩
  else if upperB (at' l (n + 1)) then ⟨4, n + 1 + wordLen (l.drop (n + 1)), 0⟩
  else ⟨3, n + 1 + wordLen (l.drop (n + 1)), 0⟩
/-- Does a qualified word begin here? -/
def dotted (l : List UInt8) : Bool :=
  upperB (at' l 0) && !reservedB (l.take (wordLen l)) && decide (wordLen l + 1 < l.length) && at' l (wordLen l) == 46 && letterB (at' l (wordLen l + 1))
def plainT (l : List UInt8) : Tk :=
  if 24 < wordLen l then ⟨0, 0, 3⟩
  else if reservedB (l.take (wordLen l)) then ⟨7, wordLen l, 0⟩
  else if upperB (at' l 0) then ⟨2, wordLen l, 0⟩
  else ⟨1, wordLen l, 0⟩
def wordT (l : List UInt8) : Tk := if dotted l then qualT l (wordLen l) else plainT l
def numT (l : List UInt8) : Tk :=
  if 1 < numLen l ∧ at' l 0 = 48 then ⟨0, 0, 2⟩
  else if 15 < numLen l then ⟨0, 0, 3⟩
  else ⟨5, numLen l, 0⟩
/-- A string, i bytes behind its beginning. -/
def quotT : Nat → List UInt8 → Tk
  | _, [] => ⟨0, 0, 2⟩
  | i, c :: r =>
    if c.toNat = 34 then ⟨6, i + 1, 0⟩
    else if c.toNat = 92 ∨ c.toNat = 9 ∨ c.toNat = 10 ∨ c.toNat = 13 then ⟨0, 0, 2⟩
    else if allowedB c.toNat then quotT (i + 1) r
    else ⟨0, i, 1⟩
def oneSign (c : Int) : Bool := c == 40 || c == 41 || c == 91 || c == 93 || c == 58 || c == 44 || c == 43 || c == 45 || c == 42 || c == 60 || c == 63
def signLen (l : List UInt8) : Nat :=
  if at' l 0 = 61 then (if at' l 1 = 61 then 2 else 1)
  else if oneSign (at' l 0) then 1 else 0
def signT (l : List UInt8) : Tk := if signLen l = 0 then ⟨0, 0, 2⟩ else ⟨8, signLen l, 0⟩
def tokT (l : List UInt8) : Tk :=
  if allowedB (at' l 0) = false then ⟨0, 0, 1⟩
  else if letterB (at' l 0) then wordT l
  else if digitB (at' l 0) then numT l
  else if at' l 0 = 34 then quotT 1 (l.drop 1)
  else signT l
theorem at_suf (s : ByteArray) (a k : Nat) (h : a + k < s.size) : at' (suf s a) k = s[a + k].toNat := by
  unfold at' suf
  rw [List.getD_eq_getElem?_getD, List.getElem?_drop, List.getElem?_eq_getElem (by simpa using h)]
  rfl
end Go.Proofs.Ytopnimajlgpdeaa
