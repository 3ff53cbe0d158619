/- Ids, their parts and their texts as plain functions on integers and bytes, and their mathematics. No condition. -/
import Derived.Laws.BitsLemmas
namespace Go.Proofs.Ythhgincbifckgaa
/-- The mask of the serial. -/
theorem and_mask (x : Int) : bits .and .i64 x 1048575 = x % 1048576 := by
  have h1 : (BitVec.ofInt 64 x &&& BitVec.ofInt 64 1048575).toNat = (x % 18446744073709551616).toNat % 1048576 := by
    rw [BitVec.toNat_and, BitVec.toNat_ofInt, BitVec.toNat_ofInt]
    have e : ((1048575 : Int) % ((2 ^ 64 : Nat) : Int)).toNat = 2 ^ 20 - 1 := by decide
    rw [e, Nat.and_two_pow_sub_one_eq_mod]
    rfl
  have h2 : bits .and .i64 x 1048575 = IntKind.i64.wrap ((BitVec.ofInt 64 x &&& BitVec.ofInt 64 1048575).toNat : Int) := rfl
  rw [h2, h1, IntKind.wrap_i64]
  omega
/-- The join of a site and a serial. -/
theorem or_join (x y : Int) (h0 : 0 ≤ x) (h1 : x ≤ 1000) (h2 : 0 ≤ y) (h3 : y < 1048576) : bits .or .i64 (x * 1048576) y = x * 1048576 + y :=
  bits_join .i64 62 (by decide) (fun n a b => by rw [IntKind.wrap_i64]; omega) 20 _ _ (by omega) (by show x * 1048576 % 1048576 = 0; omega) (by omega) h2 h3 (by omega)
def siteB (x : Int) : Bool := decide (1 ≤ x) && decide (x ≤ 32)
def serB (n : Int) : Bool := decide (1 ≤ n) && decide (n ≤ 1048575)
def validB (x : Int) : Bool := siteB (x / 1048576) && serB (x % 1048576)
theorem valid_ref (x : Int) : validB x = (decide (1048576 < x) && decide (x < 34603008) && !(decide (x % 1048576 = 0))) := by
  unfold validB siteB serB
  rw [Bool.eq_iff_iff]
  simp
  omega
/-- Make: the id and the error. -/
def makeI (a n : Int) : Int := if siteB a && serB n then a * 1048576 + n else 0
def makeE (a n : Int) : Int := if siteB a && serB n then 0 else 5
def siteI (x : Int) : Int := if validB x then x / 1048576 else 0
def serI (x : Int) : Int := if validB x then x % 1048576 else 0
/-- Next: the id and the error. -/
def nextE (x n : Int) : Int := if !siteB (x / 1048576) || decide (n < 0) then 5 else if 1048575 - x % 1048576 < n then 17 else if x % 1048576 + n = 0 then 5 else 0
def nextI (x n : Int) : Int := if nextE x n = 0 then x + n else 0
theorem next_bad {x n : Int} (h : siteB (x / 1048576) = false ∨ n < 0) : nextI x n = 0 ∧ nextE x n = 5 := by
  have e : nextE x n = 5 := by unfold nextE; rcases h with h | h <;> simp [h]
  exact ⟨by unfold nextI; rw [e]; rfl, e⟩
theorem next_full {x n : Int} (h : siteB (x / 1048576) = true) (hn : 0 ≤ n) (hb : 1048575 - x % 1048576 < n) : nextI x n = 0 ∧ nextE x n = 17 := by
  have e : nextE x n = 17 := by unfold nextE; rw [h, if_neg (by simp; omega), if_pos hb]
  exact ⟨by unfold nextI; rw [e]; rfl, e⟩
theorem next_make {x n : Int} (h : siteB (x / 1048576) = true) (hn : 0 ≤ n) (hb : n ≤ 1048575 - x % 1048576) : nextI x n = makeI (x / 1048576) (x % 1048576 + n) ∧ nextE x n = makeE (x / 1048576) (x % 1048576 + n) := by
  have e : nextE x n = if x % 1048576 + n = 0 then 5 else 0 := by unfold nextE; rw [h, if_neg (by simp; omega), if_neg (by omega)]
  unfold nextI makeI makeE
  rw [e, h]
  by_cases h0 : x % 1048576 + n = 0
  · have hs : serB (x % 1048576 + n) = false := by rw [h0]; rfl
    rw [if_pos h0, hs]
    exact ⟨rfl, rfl⟩
  · have hs : serB (x % 1048576 + n) = true := by unfold serB; simp; omega
    rw [if_neg h0, hs]
    simp
    omega
theorem make_parts {a n : Int} (ha : siteB a = true) (hn : serB n = true) : validB (makeI a n) = true ∧ makeI a n / 1048576 = a ∧ makeI a n % 1048576 = n := by
  have h : makeI a n = a * 1048576 + n := by unfold makeI; rw [ha, hn]; rfl
  have h1 : (a * 1048576 + n) / 1048576 = a := by unfold serB at hn; simp at hn; omega
  have h2 : (a * 1048576 + n) % 1048576 = n := by unfold serB at hn; simp at hn; omega
  rw [h, h1, h2]
  unfold validB
  rw [h1, h2, ha, hn]
  exact ⟨rfl, rfl, rfl⟩
theorem make_valid {x : Int} (h : validB x = true) : makeI (x / 1048576) (x % 1048576) = x ∧ makeE (x / 1048576) (x % 1048576) = 0 := by
  unfold validB at h
  unfold makeI makeE
  rw [h]
  simp
  omega
/-- The decimal text of a number. -/
def decL (n : Nat) : List UInt8 := if n < 10 then [UInt8.ofNat (48 + n)] else decL (n / 10) ++ [UInt8.ofNat (48 + n % 10)]
termination_by n
theorem decL_low {n : Nat} (h : n < 10) : decL n = [UInt8.ofNat (48 + n)] := by rw [decL, if_pos h]
theorem decL_big {n : Nat} (h : ¬ n < 10) : decL n = decL (n / 10) ++ [UInt8.ofNat (48 + n % 10)] := by rw [decL, if_neg h]
theorem decL_len (n k : Nat) (h : n < 10 ^ k) (hk : 1 ≤ k) : (decL n).length ≤ k := by
  induction k generalizing n with
  | zero => omega
  | succ k ih =>
    by_cases hn : n < 10
    · rw [decL_low hn]; simp
    · rw [decL_big hn, List.length_append]
      have hk1 : 1 ≤ k := by
        rcases k with _ | k
        · simp at h; omega
        · omega
      have h' : n / 10 < 10 ^ k := by rw [Nat.pow_succ] at h; omega
      have := ih (n / 10) h' hk1
      simp
      omega
/-- The number that digits spell, behind a number that was read. -/
def numL (n : Nat) : List UInt8 → Nat
  | [] => n
  | c :: r => numL (n * 10 + (c.toNat - 48)) r
def digsB (l : List UInt8) : Bool := l.all fun c => decide (48 ≤ c.toNat) && decide (c.toNat ≤ 57)
theorem numL_app (n : Nat) (l r : List UInt8) : numL n (l ++ r) = numL (numL n l) r := by
  induction l generalizing n with
  | nil => rfl
  | cons c l ih => exact ih _
theorem digit_nat {n : Nat} (h : n < 10) : (UInt8.ofNat (48 + n)).toNat = 48 + n := by
  show (48 + n) % 256 = 48 + n
  omega
theorem decL_digs (n : Nat) : digsB (decL n) = true := by
  induction n using Nat.strongRecOn with
  | ind n ih =>
    by_cases hn : n < 10
    · rw [decL_low hn]
      unfold digsB
      simp
      omega
    · rw [decL_big hn]
      have := ih (n / 10) (by omega)
      unfold digsB at this ⊢
      rw [List.all_append, this]
      simp
      omega
theorem decL_num (n : Nat) : numL 0 (decL n) = n := by
  induction n using Nat.strongRecOn with
  | ind n ih =>
    by_cases hn : n < 10
    · rw [decL_low hn]
      show 0 * 10 + ((UInt8.ofNat (48 + n)).toNat - 48) = n
      rw [digit_nat hn]
      omega
    · rw [decL_big hn, numL_app, ih (n / 10) (by omega)]
      show n / 10 * 10 + ((UInt8.ofNat (48 + n % 10)).toNat - 48) = n
      rw [digit_nat (by omega)]
      omega
/-- It begins with no zero, but for zero itself. -/
theorem decL_head (n : Nat) (h : 1 ≤ n) : ∃ c r, decL n = c :: r ∧ c.toNat ≠ 48 := by
  induction n using Nat.strongRecOn with
  | ind n ih =>
    by_cases hn : n < 10
    · exact ⟨_, [], decL_low hn, by rw [digit_nat hn]; omega⟩
    · obtain ⟨c, r, e, hc⟩ := ih (n / 10) (by omega) (by omega)
      exact ⟨c, r ++ [UInt8.ofNat (48 + n % 10)], by rw [decL_big hn, e]; rfl, hc⟩
theorem numL_ge (n : Nat) (l : List UInt8) : n ≤ numL n l := by
  induction l generalizing n with
  | nil => exact Nat.le_refl _
  | cons c l ih => exact Nat.le_trans (by omega) (ih _)
theorem u8_of (c : UInt8) (h : 48 ≤ c.toNat) : UInt8.ofNat (48 + (c.toNat - 48)) = c := by
  rw [show 48 + (c.toNat - 48) = c.toNat by omega]
  simp
/-- What digits spell is written as they are, behind a number that is not zero. -/
theorem decL_back (n : Nat) (l : List UInt8) (hn : 1 ≤ n) (h : digsB l = true) : decL (numL n l) = decL n ++ l := by
  induction l generalizing n with
  | nil => rw [show numL n [] = n from rfl, List.append_nil]
  | cons c l ih =>
    have hc : 48 ≤ c.toNat ∧ c.toNat ≤ 57 := by unfold digsB at h; simp at h; exact h.1
    have hl : digsB l = true := by unfold digsB at h ⊢; simp at h ⊢; exact h.2
    rw [show numL n (c :: l) = numL (n * 10 + (c.toNat - 48)) l from rfl]
    rw [ih _ (by omega) hl, decL_big (n := n * 10 + (c.toNat - 48)) (by omega)]
    rw [show (n * 10 + (c.toNat - 48)) / 10 = n by omega, show (n * 10 + (c.toNat - 48)) % 10 = c.toNat - 48 by omega, u8_of c hc.1]
    simp
theorem decL_read (c : UInt8) (l : List UInt8) (hc : c.toNat ≠ 48) (h : digsB (c :: l) = true) : decL (numL 0 (c :: l)) = c :: l := by
  have hd : 48 ≤ c.toNat ∧ c.toNat ≤ 57 := by unfold digsB at h; simp at h; exact h.1
  have hl : digsB l = true := by unfold digsB at h ⊢; simp at h ⊢; exact h.2
  rw [show numL 0 (c :: l) = numL (0 * 10 + (c.toNat - 48)) l from rfl]
  rw [decL_back _ l (by omega) hl, decL_low (by omega), show 48 + (0 * 10 + (c.toNat - 48)) = 48 + (c.toNat - 48) by omega, u8_of c hd.1]
  rfl
/-- The text of an id. -/
def fmtL (a n : Nat) : List UInt8 := decL a ++ 46 :: decL n
def fmtI (x : Int) : List UInt8 := if validB x then fmtL (x / 1048576).toNat (x % 1048576).toNat else []
/-- Digits from the beginning on, as long as what they spell is small. -/
def readL (n : Nat) : List UInt8 → Nat × List UInt8
  | [] => (n, [])
  | c :: r => if 48 ≤ c.toNat ∧ c.toNat ≤ 57 ∧ n ≤ 1048575 then readL (n * 10 + (c.toNat - 48)) r else (n, c :: r)
theorem readL_le (n : Nat) (l : List UInt8) : (readL n l).2.length ≤ l.length := by
  induction l generalizing n with
  | nil => exact Nat.le_refl _
  | cons c r ih =>
    unfold readL
    split
    · exact Nat.le_succ_of_le (ih _)
    · exact Nat.le_refl _
/-- What was read are digits that spell the number. -/
theorem readL_own (n : Nat) (l : List UInt8) : ∃ p, l = p ++ (readL n l).2 ∧ digsB p = true ∧ numL n p = (readL n l).1 := by
  induction l generalizing n with
  | nil => exact ⟨[], rfl, rfl, rfl⟩
  | cons c r ih =>
    unfold readL
    split
    · obtain ⟨p, e, hd, hn⟩ := ih (n * 10 + (c.toNat - 48))
      refine ⟨c :: p, by rw [List.cons_append, ← e], ?_, hn⟩
      unfold digsB at hd ⊢
      rw [List.all_cons, hd]
      simp
      omega
    · exact ⟨[], rfl, rfl, rfl⟩
/-- Digits that spell a small number are read whole. -/
theorem readL_whole (n : Nat) (p r : List UInt8) (hd : digsB p = true) (hn : numL n p ≤ 1048575) (hr : ∀ c q, r = c :: q → c.toNat < 48) : readL n (p ++ r) = (numL n p, r) := by
  induction p generalizing n with
  | nil =>
    show readL n r = (n, r)
    rcases r with _ | ⟨c, q⟩
    · rfl
    · unfold readL
      rw [if_neg (by have := hr c q rfl; omega)]
  | cons c p ih =>
    have hc : 48 ≤ c.toNat ∧ c.toNat ≤ 57 := by unfold digsB at hd; simp at hd; exact hd.1
    have hl : digsB p = true := by unfold digsB at hd ⊢; simp at hd ⊢; exact hd.2
    have hge := numL_ge (n * 10 + (c.toNat - 48)) p
    have hn' : numL (n * 10 + (c.toNat - 48)) p ≤ 1048575 := hn
    show readL n (c :: (p ++ r)) = _
    unfold readL
    rw [if_pos ⟨hc.1, hc.2, by omega⟩]
    exact ih _ hl hn'
/-- The number at the beginning: zero where there is none, or where it begins with a zero. -/
def readN (l : List UInt8) : Nat × List UInt8 :=
  match l with
  | [] => (0, [])
  | c :: r => if c.toNat = 48 then (0, c :: r) else readL 0 (c :: r)
theorem readN_le (l : List UInt8) : (readN l).2.length ≤ l.length := by
  rcases l with _ | ⟨c, r⟩
  · exact Nat.le_refl _
  · unfold readN
    dsimp only
    split
    · exact Nat.le_refl _
    · exact readL_le _ _
theorem readN_own (l : List UInt8) (h : 1 ≤ (readN l).1) : l = decL (readN l).1 ++ (readN l).2 := by
  rcases l with _ | ⟨c, r⟩
  · unfold readN at h; simp at h
  · unfold readN at h ⊢
    dsimp only at h ⊢
    split at h
    · simp at h
    · rename_i hc
      rw [if_neg hc]
      obtain ⟨p, e, hd, hn⟩ := readL_own 0 (c :: r)
      rcases p with _ | ⟨d, p⟩
      · rw [← hn] at h
        exact absurd (show 1 ≤ 0 from h) (by omega)
      · have hdc : d = c := by have := congrArg List.head? e; simp at this; exact this.symm
        subst hdc
        rw [← hn, decL_read d p hc hd]
        exact e
theorem readN_whole (n : Nat) (r : List UInt8) (h : 1 ≤ n) (hn : n ≤ 1048575) (hr : ∀ c q, r = c :: q → c.toNat < 48) : readN (decL n ++ r) = (n, r) := by
  obtain ⟨c, q, e, hc⟩ := decL_head n h
  have h2 := readL_whole 0 (decL n) r (decL_digs n) (by rw [decL_num]; exact hn) hr
  rw [decL_num] at h2
  rw [e] at h2 ⊢
  show (if c.toNat = 48 then _ else readL 0 (c :: (q ++ r))) = _
  rw [if_neg hc]
  exact h2
/-- Parse: the id of a text, and its error. -/
def parseP (l : List UInt8) : Int × Int :=
  match (readN l).2 with
  | [] => (0, 13)
  | c :: r => if c.toNat = 46 then (if (readN r).2 = [] ∧ makeE (readN l).1 (readN r).1 = 0 then (makeI (readN l).1 (readN r).1, 0) else (0, 13)) else (0, 13)
/-- The text of an id is parsed as the id. -/
theorem parse_fmt (x : Int) (h : validB x = true) : parseP (fmtI x) = (x, 0) := by
  obtain ⟨h1, h2⟩ := make_valid h
  have hb : 1 ≤ x / 1048576 ∧ x / 1048576 ≤ 32 ∧ 1 ≤ x % 1048576 ∧ x % 1048576 ≤ 1048575 := by unfold validB siteB serB at h; simp at h; omega
  unfold fmtI fmtL
  rw [if_pos h]
  have r1 := readN_whole (x / 1048576).toNat (46 :: decL (x % 1048576).toNat) (by omega) (by omega) (fun c q e => by injection e with e _; subst e; decide)
  have r2 := readN_whole (x % 1048576).toNat [] (by omega) (by omega) (fun c q e => by cases e)
  rw [List.append_nil] at r2
  unfold parseP
  rw [r1]
  dsimp only
  rw [r2]
  dsimp only
  have c1 : (((x / 1048576).toNat : Nat) : Int) = x / 1048576 := by omega
  have c2 : (((x % 1048576).toNat : Nat) : Int) = x % 1048576 := by omega
  rw [c1, c2, if_pos (by decide), if_pos ⟨rfl, h2⟩, h1]
/-- What is parsed is the text of the id. -/
theorem parse_own (l : List UInt8) (h : (parseP l).2 = 0) : validB (parseP l).1 = true ∧ fmtI (parseP l).1 = l := by
  unfold parseP at h ⊢
  split at h
  · simp at h
  · rename_i c r he
    split at h
    · rename_i hc
      rw [if_pos hc]
      split at h
      · rename_i hm
        rw [if_pos hm]
        dsimp only
        obtain ⟨h1, h2⟩ := hm
        have hs : siteB ((readN l).1 : Int) = true ∧ serB ((readN r).1 : Int) = true := by
          unfold makeE at h2
          split at h2
          · rename_i hh; simpa using hh
          · simp at h2
        obtain ⟨hv, p1, p2⟩ := make_parts hs.1 hs.2
        refine ⟨hv, ?_⟩
        have b1 : 1 ≤ (readN l).1 := by have := hs.1; unfold siteB at this; simp at this; omega
        have b2 : 1 ≤ (readN r).1 := by have := hs.2; unfold serB at this; simp at this; omega
        have e1 := readN_own l b1
        have e2 := readN_own r b2
        unfold fmtI fmtL
        rw [if_pos hv, p1, p2]
        simp only [Int.toNat_natCast]
        rw [h1, List.append_nil] at e2
        rw [← e2]
        rw [he] at e1
        have hc' : c = 46 := UInt8.toNat_inj.1 hc
        rw [← hc']
        exact e1.symm
      · simp at h
    · simp at h
theorem parse_bad (l : List UInt8) (h : ∀ x, validB x = true → fmtI x ≠ l) : parseP l = (0, 13) := by
  by_cases h0 : (parseP l).2 = 0
  · exact absurd (parse_own l h0).2 (h _ (parse_own l h0).1)
  · unfold parseP at h0 ⊢
    split
    · rfl
    · split
      · split
        · rename_i he hc hm
          rw [he] at h0
          simp [hc, hm] at h0
        · rfl
      · rfl
end Go.Proofs.Ythhgincbifckgaa
