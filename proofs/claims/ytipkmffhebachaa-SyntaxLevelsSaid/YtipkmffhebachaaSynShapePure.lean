/- Plain functions: which trees have the right shape. No condition. -/
import Derived.Test.YtipkmffhebachaaSynNamed
import Derived.Test.YtipkmffhebachaaSynCounts
import Derived.Test.YtipkmffhebachaaSynWithin
namespace Go.Proofs.Ytipkmffhebachaa
/-- The sorts that kids must be of, in their order. -/
def sortsP : List Part → Int → List Int
  | [], _ => []
  | x :: r, n => List.replicate (countP x n).toNat x.kids ++ sortsP r n
mutual
def shapedT : Tr → Bool
  | .mk kd x _ ks => (freeP (partsP kd) ks.length).2 && namedP (partsP kd) x && shapedL ks (sortsP (partsP kd) (freeP (partsP kd) ks.length).1)
def shapedL : List Tr → List Int → Bool
  | [], _ => true
  | _ :: _, [] => true
  | k :: r, s :: ss => hasB s k.kind && shapedT k && shapedL r ss
end
theorem shapedT_eq (t : Tr) : shapedT t = ((freeP (partsP t.kind) t.kids.length).2 && namedP (partsP t.kind) t.text && shapedL t.kids (sortsP (partsP t.kind) (freeP (partsP t.kind) t.kids.length).1)) := by
  cases t with
  | mk kd x ls ks => rw [shapedT]; rfl
theorem shapedL_cons (k : Tr) (r : List Tr) (s : Int) (ss : List Int) : shapedL (k :: r) (s :: ss) = (hasB s k.kind && shapedT k && shapedL r ss) := by rw [shapedL]
theorem shapedL_nil (ss : List Int) : shapedL [] ss = true := by rw [shapedL]
theorem shapedL_none (ks : List Tr) : shapedL ks [] = true := by
  cases ks with
  | nil => rw [shapedL]
  | cons a r => rw [shapedL]
/-- How many parts are one kid, and how many are series. -/
def onesP : List Part → Nat
  | [] => 0
  | x :: r => (if x.series then 0 else if x.kids ≠ 0 then 1 else 0) + onesP r
def seriesP : List Part → Nat
  | [] => 0
  | x :: r => (if x.series then 1 else 0) + seriesP r
/-- How many kids the parts take together. -/
def sumP : List Part → Int → Int
  | [], _ => 0
  | x :: r, n => countP x n + sumP r n
theorem sumP_eq (l : List Part) (n : Int) : sumP l n = onesP l + seriesP l * n := by
  induction l with
  | nil => simp [sumP, onesP, seriesP]
  | cons x r ih =>
    rw [sumP, onesP, seriesP, ih]
    unfold countP
    cases hs : x.series
    · by_cases hk : x.kids ≠ 0
      · rw [if_neg (by decide), if_pos hk, if_neg (by decide), if_pos hk, if_neg (by decide), Nat.zero_add]
        omega
      · rw [if_neg (by decide), if_neg hk, if_neg (by decide), if_neg hk, if_neg (by decide), Nat.zero_add, Nat.zero_add]
        omega
    · rw [if_pos rfl, if_pos rfl, if_pos rfl]
      rw [show ((1 + seriesP r : Nat) : Int) = 1 + (seriesP r : Int) from by omega, Int.add_mul, Int.one_mul]
      omega
theorem freeL_ones (l : List Part) : ∀ a b k, (freeL l a b k).2.2 = k - onesP l := by
  induction l with
  | nil => intro a b k; simp [freeL, onesP]
  | cons x r ih =>
    intro a b k
    rw [freeL, onesP]
    cases hs : x.series
    · by_cases hk : x.kids ≠ 0
      · rw [if_neg (by decide), if_pos hk, ih, if_neg (by decide), if_pos hk]
        omega
      · rw [if_neg (by decide), if_neg hk, ih, if_neg (by decide), if_neg hk]
        omega
    · rw [if_pos rfl, ih, if_pos rfl]
      omega
theorem freeL_none (l : List Part) (h : seriesP l = 0) : ∀ a b k, (freeL l a b k).1 = a ∧ (freeL l a b k).2.1 = b := by
  induction l with
  | nil => intro a b k; exact ⟨rfl, rfl⟩
  | cons x r ih =>
    intro a b k
    rw [seriesP] at h
    rw [freeL]
    cases hs : x.series
    · rw [hs] at h
      have hr := ih (by simpa using h)
      by_cases hk : x.kids ≠ 0
      · rw [if_neg (by decide), if_pos hk]
        exact hr _ _ _
      · rw [if_neg (by decide), if_neg hk]
        exact hr _ _ _
    · rw [hs] at h
      simp at h
theorem freeL_low (l : List Part) (hl : ∀ x ∈ l, 0 ≤ x.least) : ∀ a b k, 0 ≤ a → 0 ≤ (freeL l a b k).1 := by
  induction l with
  | nil => intro a b k h; exact h
  | cons x r ih =>
    intro a b k h
    have hr := ih (fun y hy => hl y (List.mem_cons_of_mem _ hy))
    have hx := hl x (List.mem_cons_self ..)
    rw [freeL]
    split
    · exact hr _ _ _ hx
    · split
      · exact hr _ _ _ h
      · exact hr _ _ _ h
theorem partsP_fin2 : ∀ n : Fin 23, seriesP (partsP ((n.val : Nat) : Int)) ≤ 1 ∧ ∀ x ∈ partsP ((n.val : Nat) : Int), 0 ≤ x.least := by decide
theorem partsP_ok2 (k : Int) : seriesP (partsP k) ≤ 1 ∧ ∀ x ∈ partsP k, 0 ≤ x.least := by
  by_cases h : k ≤ 0 ∨ 23 ≤ k
  · rw [partsP_none h]
    exact ⟨by decide, fun x hx => by simp at hx⟩
  · have := partsP_fin2 ⟨k.toNat, by omega⟩
    rw [show (((⟨k.toNat, by omega⟩ : Fin 23).val : Nat) : Int) = k from by show ((k.toNat : Nat) : Int) = k; omega] at this
    exact this
/-- A node that can have this many kids: the series' number, and that the parts take them all. -/
theorem free_sum {kd k : Int} (h : (freeP (partsP kd) k).2 = true) : 0 ≤ (freeP (partsP kd) k).1 ∧ sumP (partsP kd) (freeP (partsP kd) k).1 = k := by
  obtain ⟨_, hk0, hne⟩ := freeP_le _ _ h
  obtain ⟨hs, hl⟩ := partsP_ok2 kd
  have h0 := freeL_low _ hl 0 0 k (Int.le_refl _)
  have h1 := freeL_ones (partsP kd) 0 0 k
  have hf : freeP (partsP kd) k = ((freeL (partsP kd) 0 0 k).2.2, decide ((freeL (partsP kd) 0 0 k).1 ≤ (freeL (partsP kd) 0 0 k).2.2) && decide ((freeL (partsP kd) 0 0 k).2.2 ≤ (freeL (partsP kd) 0 0 k).2.1)) := by
    unfold freeP
    rw [if_neg (by intro e; rcases e with e | e; exact hne e; omega)]
  rw [hf] at h ⊢
  simp only [Bool.and_eq_true, decide_eq_true_eq] at h
  rw [sumP_eq]
  show 0 ≤ (freeL (partsP kd) 0 0 k).2.2 ∧ _ + _ * (freeL (partsP kd) 0 0 k).2.2 = k
  refine ⟨by omega, ?_⟩
  rcases Nat.le_one_iff_eq_zero_or_eq_one.1 hs with hz | hz
  · obtain ⟨e1, e2⟩ := freeL_none _ hz 0 0 k
    rw [hz]
    rw [e1, e2] at h
    omega
  · rw [hz, h1]
    omega
theorem sumP_nonneg (l : List Part) (n : Int) (hn : 0 ≤ n) : 0 ≤ sumP l n := by
  rw [sumP_eq]
  have : 0 ≤ (seriesP l : Int) * n := Int.mul_nonneg (by omega) hn
  omega
theorem countP_nonneg (x : Part) (n : Int) (hn : 0 ≤ n) : 0 ≤ countP x n := by
  unfold countP
  split
  · exact hn
  · split <;> decide
theorem sortsP_len (l : List Part) (n : Int) (hn : 0 ≤ n) : ((sortsP l n).length : Int) = sumP l n := by
  induction l with
  | nil => rfl
  | cons x r ih =>
    have := countP_nonneg x n hn
    rw [sortsP, sumP, List.length_append, List.length_replicate, ← ih]
    omega
theorem kid_size {t k : Tr} {j : Nat} (h : t.kids[j]? = some k) : SizeOf.sizeOf k < SizeOf.sizeOf t := by
  cases t with
  | mk kd x ls ks =>
    have := List.sizeOf_lt_of_mem (List.mem_of_getElem? (show ks[j]? = some k from h))
    rw [Tr.mk.sizeOf_spec]
    omega
end Go.Proofs.Ytipkmffhebachaa
