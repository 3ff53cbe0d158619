/- Plain: what the bulk of a tree says of its texts and of its tokens. No condition. -/
import Derived.Test.YtpdmklbfbpdneaaGreatSynRValid
import Derived.Test.YtpdmklbfbpdneaaGreatTreOpen
namespace Go.Proofs.YtpdmklbfbpdneaaGreat
open Go.RowKit
theorem szB_mem {l : List ByteArray} {y : ByteArray} (h : y ∈ l) : y.size ≤ szB l := by
  induction l with
  | nil => simp at h
  | cons a r ih =>
    rw [szB]
    rcases List.mem_cons.1 h with rfl | h
    · omega
    · have := ih h; omega
mutual
theorem words_cnt : (t : Tr) → cntT t ≤ 1048576 → wordsT t = true
  | .mk _ x ls ks, h => by
    rw [cntT] at h
    rw [wordsT, wordsL_cnt ks (by omega), decide_eq_true (by unfold maxLen; omega), Bool.true_and, Bool.and_true, List.all_eq_true]
    intro y hy
    have := szB_mem hy
    exact decide_eq_true (by unfold maxLen; omega)
theorem wordsL_cnt : (l : List Tr) → cntL l ≤ 1048576 → wordsL l = true
  | [], _ => by rw [wordsL]
  | t :: r, h => by
    rw [cntL] at h
    rw [wordsL, words_cnt t (by omega), wordsL_cnt r (by omega)]
    rfl
end
def lenS : List (List Piece) → Nat
  | [] => 0
  | p :: r => p.length + 1 + lenS r
theorem lenS_split : (l : List (List Piece)) → (m : Nat) → lenS (l.take m) + lenS (l.drop m) = lenS l
  | [], m => by simp [lenS]
  | p :: r, 0 => by simp [lenS]
  | p :: r, m + 1 => by
    have := lenS_split r m
    rw [List.take_succ_cons, List.drop_succ_cons, lenS, lenS]
    omega
theorem piecesAt_len (co : Bool) (cs : List ByteArray) : (l : List (List Piece)) → (i : Nat) → (piecesAt co cs i l).length ≤ lenS l
  | [], i => by rw [piecesAt, lenS]; exact Nat.le_refl _
  | p :: r, i => by
    have := piecesAt_len co cs r (i + 1)
    rw [piecesAt, lenS, List.length_append, List.length_append]
    have : (if 0 < i ∧ co = true then [((cs[i - 1]?).getD ⟨#[]⟩, (⟨#[44]⟩ : ByteArray))] else []).length ≤ 1 := by split <;> simp
    omega
theorem piecesN_len (n : Int) (tx : ByteArray) (cs : List ByteArray) : (l : List Part) → (ls : List ByteArray) → (ks : List (List Piece)) → (piecesN n tx cs l ls ks).length ≤ tokensP l + lenS ks
  | [], ls, ks => by rw [piecesN]; simp
  | x :: r, ls, ks => by
    rw [piecesN]
    by_cases h : x.kids ≠ 0
    · have h1 := piecesAt_len x.commas cs (ks.take (countP x n).toNat) 0
      have h2 := piecesN_len n tx cs r ls (ks.drop (countP x n).toNat)
      have h3 := lenS_split ks (countP x n).toNat
      have h4 : tokensP r ≤ tokensP (x :: r) := by rw [tokensP]; omega
      rw [if_pos h, List.length_append]
      omega
    · have h2 := piecesN_len n tx cs r (ls.drop 1) ks
      have h4 : tokensP (x :: r) = 1 + tokensP r := by rw [tokensP]; simp only [ne_eq, Decidable.not_not] at h; simp [h] <;> omega
      rw [if_neg h, List.length_cons]
      omega
theorem tokens_six (k : Int) : tokensP (partsP k) ≤ 6 := by
  by_cases h0 : k ≤ 0 ∨ 23 ≤ k
  · rw [partsP_none h0]; exact Nat.zero_le _
  · rcases kid_cases h0 with rfl | rfl | rfl | rfl | rfl | rfl | rfl | rfl | rfl | rfl | rfl | rfl | rfl | rfl | rfl | rfl | rfl | rfl | rfl | rfl | rfl | rfl <;> decide
mutual
theorem pieces_len : (t : Tr) → (pieces t).length + 1 ≤ 7 * sizeT t
  | .mk k x ls ks => by
    have h1 := piecesN_len (freeP (partsP k) ks.length).1 x (ls.drop (tokensP (partsP k))) (partsP k) ls (piecesL ks)
    have h2 := tokens_six k
    have h3 := piecesL_len ks
    rw [pieces, sizeT]
    omega
theorem piecesL_len : (l : List Tr) → lenS (piecesL l) ≤ 7 * sizeL l
  | [] => by rw [piecesL, lenS]; exact Nat.zero_le _
  | t :: r => by
    have := pieces_len t
    have := piecesL_len r
    rw [piecesL, lenS, sizeL]
    omega
end
def okP (M : Nat) (p : Piece) : Prop := p.1.size ≤ M ∧ p.2.size ≤ M
theorem getD_ok {M : Nat} {l : List ByteArray} (h : ∀ y ∈ l, y.size ≤ M) (i : Nat) : ((l[i]?).getD ⟨#[]⟩).size ≤ M := by
  cases hi : l[i]? with
  | none => exact Nat.zero_le _
  | some y => exact h y (List.mem_of_getElem? hi)
theorem piecesAt_ok {M : Nat} (hM : 1 ≤ M) (co : Bool) {cs : List ByteArray} (hc : ∀ y ∈ cs, y.size ≤ M) : (l : List (List Piece)) → (i : Nat) → (∀ q ∈ l, ∀ p ∈ q, okP M p) → ∀ p ∈ piecesAt co cs i l, okP M p
  | [], i, _, p, hp => by rw [piecesAt] at hp; simp at hp
  | a :: r, i, h, p, hp => by
    rw [piecesAt] at hp
    rcases List.mem_append.1 hp with hp | hp
    · rcases List.mem_append.1 hp with hp | hp
      · split at hp
        · simp at hp
          subst hp
          exact ⟨getD_ok hc _, hM⟩
        · simp at hp
      · exact h a (by simp) p hp
    · exact piecesAt_ok hM co hc r (i + 1) (fun q hq => h q (by simp [hq])) p hp
theorem piecesN_ok {M : Nat} (hM : 1 ≤ M) (n : Int) {tx : ByteArray} (ht : tx.size ≤ M) {cs : List ByteArray} (hc : ∀ y ∈ cs, y.size ≤ M) : (l : List Part) → (ls : List ByteArray) → (ks : List (List Piece)) → (∀ x ∈ l, x.word.size ≤ M) → (∀ y ∈ ls, y.size ≤ M) → (∀ q ∈ ks, ∀ p ∈ q, okP M p) → ∀ p ∈ piecesN n tx cs l ls ks, okP M p
  | [], ls, ks, _, _, _, p, hp => by rw [piecesN] at hp; simp at hp
  | x :: r, ls, ks, hl, hs, hk, p, hp => by
    rw [piecesN] at hp
    by_cases h : x.kids ≠ 0
    · rw [if_pos h] at hp
      rcases List.mem_append.1 hp with hp | hp
      · exact piecesAt_ok hM x.commas hc _ 0 (fun q hq => hk q (List.mem_of_mem_take hq)) p hp
      · exact piecesN_ok hM n ht hc r ls _ (fun y hy => hl y (by simp [hy])) hs (fun q hq => hk q (List.mem_of_mem_drop hq)) p hp
    · rw [if_neg h] at hp
      rcases List.mem_cons.1 hp with rfl | hp
      · refine ⟨getD_ok hs _, ?_⟩
        show (if x.nm ≠ 0 then tx else x.word).size ≤ M
        split
        · exact ht
        · exact hl x (by simp)
      · exact piecesN_ok hM n ht hc r _ ks (fun y hy => hl y (by simp [hy])) (fun y hy => hs y (List.mem_of_mem_drop hy)) hk p hp
theorem words_six (k : Int) : ∀ x ∈ partsP k, x.word.size ≤ 6 := by
  by_cases h0 : k ≤ 0 ∨ 23 ≤ k
  · rw [partsP_none h0]; intro x hx; simp at hx
  · rcases kid_cases h0 with rfl | rfl | rfl | rfl | rfl | rfl | rfl | rfl | rfl | rfl | rfl | rfl | rfl | rfl | rfl | rfl | rfl | rfl | rfl | rfl | rfl | rfl <;> decide
mutual
theorem pieces_ok {M : Nat} (hM : 6 ≤ M) : (t : Tr) → cntT t ≤ M → ∀ p ∈ pieces t, okP M p
  | .mk k x ls ks, h, p, hp => by
    rw [cntT] at h
    rw [pieces] at hp
    have hls : ∀ y ∈ ls, y.size ≤ M := fun y hy => by have := szB_mem hy; omega
    exact piecesN_ok (by omega) _ (by omega) (fun y hy => hls y (List.mem_of_mem_drop hy)) _ _ _ (fun y hy => Nat.le_trans (words_six k y hy) hM) hls (piecesL_ok hM ks (by omega)) p hp
theorem piecesL_ok {M : Nat} (hM : 6 ≤ M) : (l : List Tr) → cntL l ≤ M → ∀ q ∈ piecesL l, ∀ p ∈ q, okP M p
  | [], _, q, hq => by rw [piecesL] at hq; simp at hq
  | t :: r, h, q, hq => by
    rw [cntL] at h
    rw [piecesL] at hq
    rcases List.mem_cons.1 hq with rfl | hq
    · exact pieces_ok hM t (by omega)
    · exact piecesL_ok hM r (by omega) q hq
end
theorem sizeP_ok {M : Nat} : (ps : List Piece) → (∀ p ∈ ps, okP M p) → sizeP ps ≤ ps.length * (2 * M + 1)
  | [], _ => by rw [sizeP]; exact Nat.zero_le _
  | p :: r, h => by
    have h1 := sizeP_ok r (fun q hq => h q (by simp [hq]))
    have h2 := h p (by simp)
    unfold okP at h2
    rw [sizeP, List.length_cons, Nat.add_mul, Nat.one_mul]
    omega
theorem pieces_few {t : Tr} (hz : sizeT t ≤ 1000) : (pieces t).length ≤ 7000 := by have := pieces_len t; omega
theorem pieces_bulk {t : Tr} (hz : sizeT t ≤ 1000) (hc : cntT t ≤ 1048576) : sizeP (pieces t) ≤ 10000000000000 := by
  have h1 := sizeP_ok (M := 1048576) (pieces t) (pieces_ok (by decide) t hc)
  have h2 := pieces_few hz
  have h3 : (pieces t).length * (2 * 1048576 + 1) ≤ 7000 * (2 * 1048576 + 1) := Nat.mul_le_mul_right _ h2
  omega
end Go.Proofs.YtpdmklbfbpdneaaGreat
