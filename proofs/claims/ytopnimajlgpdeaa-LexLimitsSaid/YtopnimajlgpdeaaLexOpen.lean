/- Where a skip ends inside of a comment before the end, there is a byte that may not occur. No condition. -/
import Derived.Test.YtopnimajlgpdeaaLexTokPure
namespace Go.Proofs.Ytopnimajlgpdeaa
theorem at_drop' (s : ByteArray) (a k : Nat) : at' (suf s a) k = at' (suf s 0) (a + k) := by
  unfold at' suf
  rw [List.getD_eq_getElem?_getD, List.getD_eq_getElem?_getD, List.getElem?_drop, List.getElem?_drop, Nat.zero_add]
theorem skipL_open (l : List UInt8) : ∀ o, (skipL o l).2 = true → (skipL o l).1 < l.length → allowedB (at' l (skipL o l).1) = false := by
  induction l with
  | nil => intro o _ h; exact absurd h (by simp)
  | cons c r ih =>
    intro o h1 h2
    unfold skipL at h1 h2 ⊢
    by_cases ha : allowedB c.toNat = true
    · simp only [ha, if_true] at h1 h2 ⊢
      cases o
      · simp only [Bool.false_eq_true, if_false] at h1 h2 ⊢
        by_cases hc : c.toNat = 35
        · simp only [hc, if_true, List.length_cons] at h1 h2 ⊢
          exact ih true h1 (by omega)
        · by_cases hw : whiteB c.toNat = true
          · simp only [hc, hw, if_true, if_false, List.length_cons] at h1 h2 ⊢
            exact ih false h1 (by omega)
          · simp only [hc, hw, if_false] at h1
            simp at h1
      · simp only [if_true, List.length_cons] at h1 h2 ⊢
        exact ih _ h1 (by omega)
    · have hf : allowedB c.toNat = false := by simpa using ha
      simp only [hf, Bool.false_eq_true, if_false]
      exact hf
theorem open_bad {s : ByteArray} {k : Nat} (ho : skipOpen s k = true) (hl : skipTo s k < s.size) : tokT (suf s (skipTo s k)) = ⟨0, 0, 1⟩ := by
  have h := skipL_open (suf s k) false ho (by rw [suf_length]; unfold skipTo at hl; omega)
  unfold tokT
  rw [if_pos]
  rw [at_drop'] at h ⊢
  exact h
end Go.Proofs.Ytopnimajlgpdeaa
