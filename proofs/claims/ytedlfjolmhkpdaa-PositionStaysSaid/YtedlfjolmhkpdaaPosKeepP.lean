/- Plain: longest ascending choices of keys by columns and by pairs; which keys stay; new keys. No condition. -/
import Derived.Test.YtedlfjolmhkpdaaPosPure
namespace Go.Proofs.Ytedlfjolmhkpdaa
open Go.RowKit
abbrev Key := List UInt8
/-- One step of the reference's inner loop. -/
def stepB (k : Key) (m : Nat) (p : Key × Nat) : Nat := if 0 < p.2 ∧ bl k p.1 = true then max m (p.2 + 1) else m
/-- For each key how many the longest choice has that begins with it. -/
def bestP : List Key → List Nat
  | [] => []
  | k :: r => (if vldB k = true then (r.zip (bestP r)).foldl (stepB k) 1 else 0) :: bestP r
theorem best_len : (l : List Key) → (bestP l).length = l.length
  | [] => rfl
  | k :: r => by rw [bestP, List.length_cons, List.length_cons, best_len r]
theorem fold_ge (k : Key) : (ps : List (Key × Nat)) → (m : Nat) → m ≤ ps.foldl (stepB k) m
  | [], m => Nat.le_refl m
  | p :: ps, m => by
    rw [List.foldl_cons]
    refine Nat.le_trans ?_ (fold_ge k ps _)
    unfold stepB
    split <;> omega
theorem fold_mem (k : Key) : (ps : List (Key × Nat)) → (m : Nat) → (p : Key × Nat) → p ∈ ps → 0 < p.2 → bl k p.1 = true → p.2 + 1 ≤ ps.foldl (stepB k) m
  | [], _, _, h, _, _ => absurd h List.not_mem_nil
  | q :: ps, m, p, h, h0, hk => by
    rw [List.foldl_cons]
    rcases List.mem_cons.1 h with rfl | h
    · refine Nat.le_trans ?_ (fold_ge k ps _)
      unfold stepB
      rw [if_pos ⟨h0, hk⟩]
      omega
    · exact fold_mem k ps _ p h h0 hk
theorem fold_is (k : Key) : (ps : List (Key × Nat)) → (m : Nat) → ps.foldl (stepB k) m = m ∨ ∃ p ∈ ps, 0 < p.2 ∧ bl k p.1 = true ∧ ps.foldl (stepB k) m = p.2 + 1
  | [], m => .inl rfl
  | q :: ps, m => by
    rw [List.foldl_cons]
    rcases fold_is k ps (stepB k m q) with h | ⟨p, hp, h0, hk, h⟩
    · rw [h]
      unfold stepB
      split
      · rename_i hq
        rcases Nat.le_total (q.2 + 1) m with h1 | h1
        · exact .inl (by omega)
        · exact .inr ⟨q, List.mem_cons_self, hq.1, hq.2, by omega⟩
      · exact .inl rfl
    · exact .inr ⟨p, List.mem_cons_of_mem _ hp, h0, hk, h⟩
/-- A key with its count. -/
def At (l : List Key) (k : Key) (b : Nat) : Prop := (k, b) ∈ l.zip (bestP l)
theorem at_cons {k : Key} {r : List Key} {x : Key} {b : Nat} : At (k :: r) x b ↔ (x = k ∧ b = if vldB k = true then (r.zip (bestP r)).foldl (stepB k) 1 else 0) ∨ At r x b := by
  unfold At
  rw [bestP, List.zip_cons_cons, List.mem_cons, Prod.mk.injEq]
theorem at_valid : (l : List Key) → (x : Key) → (b : Nat) → At l x b → 0 < b → vldB x = true
  | [], _, _, h, _ => absurd h List.not_mem_nil
  | k :: r, x, b, h, h0 => by
    rcases at_cons.1 h with ⟨rfl, hb⟩ | h
    · split at hb
      · assumption
      · omega
    · exact at_valid r x b h h0
/-- The code's columns: what a search finds, what a put leaves. -/
def findH (hs : List Key) (k : Key) : Nat := hs.countP fun h => bl k h
def putH (hs : List Key) (k : Key) : List Key := if findH hs k = hs.length then hs ++ [k] else hs.set (findH hs k) k
def chainsP : List Key → List Nat × List Key
  | [] => ([], [])
  | k :: r => if vldB k = true then ((findH (chainsP r).2 k + 1) :: (chainsP r).1, putH (chainsP r).2 k) else (0 :: (chainsP r).1, (chainsP r).2)
/-- Descending. -/
def Desc (hs : List Key) : Prop := hs.Pairwise fun a b => bl b a = true
theorem desc_find : (hs : List Key) → (k : Key) → Desc hs → (j : Nat) → (h : Key) → hs[j]? = some h → (bl k h = true ↔ j < findH hs k)
  | [], _, _, _, _, hj => by simp at hj
  | a :: hs, k, hd, j, h, hj => by
    obtain ⟨h1, h2⟩ := List.pairwise_cons.1 hd
    have hc : findH (a :: hs) k = findH hs k + if bl k a = true then 1 else 0 := by unfold findH; rw [List.countP_cons]
    have hz : bl k a = false → findH hs k = 0 := fun ha => by
      unfold findH
      rw [List.countP_eq_zero]
      intro b hb hkb
      have := bl_trans _ _ _ hkb (h1 b hb)
      rw [ha] at this
      cases this
    rw [hc]
    cases j with
    | zero =>
      injection hj with hj
      subst hj
      cases ha : bl k a
      · rw [hz ha]; simp
      · simp
    | succ j =>
      have ih := desc_find hs k h2 j h (by simpa using hj)
      rw [ih]
      cases ha : bl k a
      · rw [hz ha]; simp
      · simp
theorem find_le (hs : List Key) (k : Key) : findH hs k ≤ hs.length := List.countP_le_length
theorem put_get (hs : List Key) (k : Key) (j : Nat) (h : Key) (hj : (putH hs k)[j]? = some h) : (j = findH hs k ∧ h = k) ∨ (j ≠ findH hs k ∧ hs[j]? = some h) := by
  unfold putH at hj
  split at hj
  · rename_i he
    rcases Nat.lt_or_ge j hs.length with hl | hl
    · rw [List.getElem?_append_left hl] at hj
      exact .inr ⟨by omega, hj⟩
    · rw [List.getElem?_append_right hl] at hj
      have : j - hs.length = 0 := by
        have := (List.getElem?_eq_some_iff.1 hj).1
        simp at this
        omega
      rw [this] at hj
      injection hj with hj
      exact .inl ⟨by omega, hj.symm⟩
  · rename_i he
    have hl := find_le hs k
    by_cases hjj : findH hs k = j
    · subst hjj
      rw [List.getElem?_set_self (by omega)] at hj
      injection hj with hj
      exact .inl ⟨rfl, hj.symm⟩
    · rw [List.getElem?_set_ne hjj] at hj
      exact .inr ⟨fun h => hjj h.symm, hj⟩
theorem put_at (hs : List Key) (k : Key) : (putH hs k)[findH hs k]? = some k := by
  unfold putH
  split
  · rename_i he
    rw [he]
    simp
  · have := find_le hs k
    exact List.getElem?_set_self (by omega)
theorem put_other (hs : List Key) (k : Key) (j : Nat) (h : Key) (hne : j ≠ findH hs k) (hj : hs[j]? = some h) : (putH hs k)[j]? = some h := by
  unfold putH
  have hl := (List.getElem?_eq_some_iff.1 hj).1
  split
  · rw [List.getElem?_append_left hl, hj]
  · rw [List.getElem?_set_ne (fun h => hne h.symm), hj]
theorem desc_lt {hs : List Key} (hd : Desc hs) {i j : Nat} {a b : Key} (hij : i < j) (ha : hs[i]? = some a) (hb : hs[j]? = some b) : bl b a = true := by
  obtain ⟨hi, rfl⟩ := List.getElem?_eq_some_iff.1 ha
  obtain ⟨hj, rfl⟩ := List.getElem?_eq_some_iff.1 hb
  exact List.pairwise_iff_getElem.1 hd i j hi hj hij
theorem desc_put {hs : List Key} (hd : Desc hs) (k : Key) : Desc (putH hs k) := by
  unfold Desc
  rw [List.pairwise_iff_getElem]
  intro i j hi hj hij
  have ha := put_get hs k i _ (List.getElem?_eq_getElem hi)
  have hb := put_get hs k j _ (List.getElem?_eq_getElem hj)
  rcases ha with ⟨a1, a2⟩ | ⟨a1, a2⟩ <;> rcases hb with ⟨b1, b2⟩ | ⟨b1, b2⟩
  · omega
  · rw [a2]
    have hn : ¬ bl k (putH hs k)[j] = true := fun h => by
      have := (desc_find hs k hd j _ b2).1 h
      omega
    rw [Bool.not_eq_true] at hn
    have hl := find_le hs k
    have hjl := (List.getElem?_eq_some_iff.1 b2).1
    obtain ⟨y, hy⟩ : ∃ y, hs[findH hs k]? = some y := ⟨_, List.getElem?_eq_getElem (by omega)⟩
    have h1 : bl k y = false := by
      rw [← Bool.not_eq_true]
      intro h
      have := (desc_find hs k hd _ y hy).1 h
      omega
    have h2 := desc_lt hd (by omega) hy b2
    exact bl_le_trans h2 h1
  · rw [b2]
    exact (desc_find hs k hd i _ a2).2 (by omega)
  · exact desc_lt hd hij a2 b2
/-- Columns and pairs agree. -/
theorem chains_best : (l : List Key) → (chainsP l).1 = bestP l ∧ Desc (chainsP l).2 ∧ (∀ (m : Nat) (h : Key), (chainsP l).2[m]? = some h → At l h (m + 1)) ∧ ∀ (x : Key) (m : Nat), At l x (m + 1) → ∃ h, (chainsP l).2[m]? = some h ∧ bl h x = false
  | [] => ⟨rfl, List.Pairwise.nil, fun m h hm => by simp [chainsP] at hm, fun x m h => absurd h List.not_mem_nil⟩
  | k :: r => by
    obtain ⟨h1, h2, h3, h4⟩ := chains_best r
    by_cases hv : vldB k = true
    · have hc : chainsP (k :: r) = ((findH (chainsP r).2 k + 1) :: (chainsP r).1, putH (chainsP r).2 k) := by rw [chainsP, if_pos hv]
      have hbest : (r.zip (bestP r)).foldl (stepB k) 1 = findH (chainsP r).2 k + 1 := by
        apply Nat.le_antisymm
        · rcases fold_is k (r.zip (bestP r)) 1 with h | ⟨p, hp, h0, hk, h⟩
          · omega
          · rw [h]
            obtain ⟨x, b⟩ := p
            obtain ⟨m, rfl⟩ : ∃ m, b = m + 1 := ⟨b - 1, by simp at h0; omega⟩
            obtain ⟨y, hy, hxy⟩ := h4 x m hp
            have := (desc_find _ k h2 m y hy).1 (by
              have hkx : bl k x = true := hk
              exact bl_le_trans hkx hxy)
            show m + 1 + 1 ≤ _
            omega
        · rcases Nat.eq_zero_or_pos (findH (chainsP r).2 k) with h0 | h0
          · rw [h0]
            exact fold_ge k _ 1
          · obtain ⟨m, hm⟩ : ∃ m, findH (chainsP r).2 k = m + 1 := ⟨findH (chainsP r).2 k - 1, by omega⟩
            have hl := find_le (chainsP r).2 k
            obtain ⟨y, hy⟩ : ∃ y, (chainsP r).2[m]? = some y := ⟨_, List.getElem?_eq_getElem (by omega)⟩
            have hky := (desc_find _ k h2 m y hy).2 (by omega)
            have := fold_mem k (r.zip (bestP r)) 1 (y, m + 1) (h3 m y hy) (by simp) hky
            rw [hm]
            exact this
      rw [hc]
      refine ⟨?_, desc_put h2 k, fun m h hm => ?_, fun x m hx => ?_⟩
      · show _ :: _ = bestP (k :: r)
        rw [bestP, if_pos hv, hbest, h1]
      · rw [at_cons, if_pos hv, hbest]
        rcases put_get _ k m h hm with ⟨a, b⟩ | ⟨_, b⟩
        · exact .inl ⟨b, by omega⟩
        · exact .inr (h3 m h b)
      · rw [at_cons, if_pos hv, hbest] at hx
        rcases hx with ⟨rfl, hm⟩ | hx
        · have : m = findH (chainsP r).2 x := by omega
          subst this
          exact ⟨x, put_at _ x, bl_irr x⟩
        · obtain ⟨h, hh, hhx⟩ := h4 x m hx
          by_cases hm : m = findH (chainsP r).2 k
          · subst hm
            refine ⟨k, put_at _ k, ?_⟩
            have hkh : bl k h = false := by
              rw [← Bool.not_eq_true]
              intro hb
              have := (desc_find _ k h2 _ h hh).1 hb
              omega
            rw [← Bool.not_eq_true]
            intro hkx
            rw [bl_le_trans hkx hhx] at hkh
            cases hkh
          · exact ⟨h, put_other _ k m h hm hh, hhx⟩
    · have hc : chainsP (k :: r) = (0 :: (chainsP r).1, (chainsP r).2) := by rw [chainsP, if_neg hv]
      rw [hc]
      refine ⟨?_, h2, fun m h hm => ?_, fun x m hx => ?_⟩
      · show _ :: _ = bestP (k :: r)
        rw [bestP, if_neg hv, h1]
      · exact at_cons.2 (.inr (h3 m h hm))
      · rw [at_cons, if_neg hv] at hx
        rcases hx with ⟨_, hm⟩ | hx
        · omega
        · exact h4 x m hx
/-- Which of the keys stay, by their counts. -/
def stayP : List Nat → Nat → List Bool
  | [], _ => []
  | c :: r, n => if 0 < n ∧ c = n then true :: stayP r (n - 1) else false :: stayP r n
def maxP (l : List Nat) : Nat := l.foldl max 0
def keepP (l : List Key) : List Bool := stayP (bestP l) (maxP (bestP l))
theorem stay_len : (l : List Nat) → (n : Nat) → (stayP l n).length = l.length
  | [], _ => rfl
  | c :: r, n => by
    rw [stayP]
    split <;> simp [stay_len r]
theorem keep_len (l : List Key) : (keepP l).length = l.length := by unfold keepP; rw [stay_len, best_len]
/-- The reference's choice, with the last key. -/
def stayR : List Key → List Nat → Nat → Key → List Bool
  | k :: r, c :: s, n, last => if 0 < n ∧ c = n ∧ (last = [] ∨ bl last k = true) then true :: stayR r s (n - 1) k else false :: stayR r s n last
  | _, _, _, _ => []
/-- Some key above the last has the count that is wanted next. -/
def More (l : List Key) (n : Nat) (last : Key) : Prop := 0 < n → ∃ x, At l x n ∧ (last = [] ∨ bl last x = true)
theorem more_here {k : Key} {r : List Key} {n : Nat} {last : Key} (hm : More (k :: r) n last) (h0 : 0 < n) (hc : (if vldB k = true then (r.zip (bestP r)).foldl (stepB k) 1 else 0) = n) : (last = [] ∨ bl last k = true) ∧ More r (n - 1) k := by
  have hv : vldB k = true := by
    rw [← Bool.not_eq_false]
    intro hf
    rw [if_neg (by rw [hf]; decide)] at hc
    omega
  rw [if_pos hv] at hc
  constructor
  · obtain ⟨x, hx, hl⟩ := hm h0
    rcases hl with hl | hl
    · exact .inl hl
    · rcases at_cons.1 hx with ⟨rfl, _⟩ | hx
      · exact .inr hl
      · right
        have hkx : bl k x = false := by
          rw [← Bool.not_eq_true]
          intro h
          have := fold_mem k (r.zip (bestP r)) 1 (x, n) hx h0 h
          rw [hc] at this
          exact absurd this (by show ¬ n + 1 ≤ n; omega)
        exact bl_le_trans hl hkx
  · intro hn
    rcases fold_is k (r.zip (bestP r)) 1 with h | ⟨p, hp, h0', hk, h⟩
    · omega
    · obtain ⟨x, b⟩ := p
      have hb : b = n - 1 := by
        have : (r.zip (bestP r)).foldl (stepB k) 1 = b + 1 := h
        omega
      subst hb
      exact ⟨x, hp, .inr hk⟩
theorem more_skip {k : Key} {r : List Key} {n : Nat} {last : Key} (hm : More (k :: r) n last) (hc : ¬ (0 < n ∧ (if vldB k = true then (r.zip (bestP r)).foldl (stepB k) 1 else 0) = n)) : More r n last := fun h0 => by
  obtain ⟨x, hx, hl⟩ := hm h0
  rcases at_cons.1 hx with ⟨rfl, hb⟩ | hx
  · exact absurd ⟨h0, hb.symm⟩ hc
  · exact ⟨x, hx, hl⟩
theorem stay_eq : (l : List Key) → (n : Nat) → (last : Key) → More l n last → stayR l (bestP l) n last = stayP (bestP l) n
  | [], n, last, _ => by
    rw [bestP]
    rfl
  | k :: r, n, last, hm => by
    rw [bestP, stayR, stayP]
    by_cases hc : 0 < n ∧ (if vldB k = true then (r.zip (bestP r)).foldl (stepB k) 1 else 0) = n
    · obtain ⟨h1, h2⟩ := more_here hm hc.1 hc.2
      rw [if_pos hc, if_pos ⟨hc.1, hc.2, h1⟩, stay_eq r (n - 1) k h2]
    · rw [if_neg hc, if_neg (fun h => hc ⟨h.1, h.2.1⟩), stay_eq r n last (more_skip hm hc)]
theorem foldl_max_mem : (l : List Nat) → (m : Nat) → l.foldl max m = m ∨ l.foldl max m ∈ l
  | [], m => .inl rfl
  | c :: r, m => by
    rw [List.foldl_cons]
    rcases foldl_max_mem r (max m c) with h | h
    · rw [h]
      rcases Nat.le_total c m with h' | h'
      · left; omega
      · right
        rw [Nat.max_eq_right h']
        exact List.mem_cons_self
    · exact .inr (List.mem_cons_of_mem _ h)
theorem foldl_max_ge : (l : List Nat) → (m : Nat) → m ≤ l.foldl max m ∧ ∀ x ∈ l, x ≤ l.foldl max m
  | [], m => ⟨Nat.le_refl m, fun x h => absurd h List.not_mem_nil⟩
  | c :: r, m => by
    rw [List.foldl_cons]
    obtain ⟨h1, h2⟩ := foldl_max_ge r (max m c)
    refine ⟨by omega, fun x hx => ?_⟩
    rcases List.mem_cons.1 hx with rfl | hx
    · omega
    · exact h2 x hx
theorem at_of_mem {l : List Key} {b : Nat} (h : b ∈ bestP l) : ∃ x, At l x b := by
  obtain ⟨j, hj⟩ := List.getElem?_of_mem h
  have hl := (List.getElem?_eq_some_iff.1 hj).1
  rw [best_len] at hl
  refine ⟨l[j], ?_⟩
  unfold At
  have : (l.zip (bestP l))[j]? = some (l[j], b) := by rw [List.getElem?_zip_eq_some]; exact ⟨List.getElem?_eq_getElem hl, hj⟩
  exact List.mem_of_getElem? this
theorem more_start (l : List Key) : More l (maxP (bestP l)) [] := fun h0 => by
  unfold maxP at h0 ⊢
  rcases foldl_max_mem (bestP l) 0 with h | h
  · omega
  · obtain ⟨x, hx⟩ := at_of_mem h
    exact ⟨x, hx, .inl rfl⟩
theorem keep_ref (l : List Key) : stayR l (bestP l) (maxP (bestP l)) [] = keepP l := stay_eq l _ _ (more_start l)
/-- What stays are keys in ascending order. -/
def OkS : List Key → List Bool → Key → Prop
  | k :: r, true :: s, last => vldB k = true ∧ bl last k = true ∧ OkS r s k
  | _ :: r, false :: s, last => OkS r s last
  | _, _, _ => True
theorem vld_ne {k : Key} (h : vldB k = true) : bl [] k = true := by
  have := ((vld_iff k).1 h).1
  cases k with
  | nil => exact absurd rfl this
  | cons => rfl
theorem stay_ok : (l : List Key) → (n : Nat) → (last : Key) → More l n last → OkS l (stayP (bestP l) n) last
  | [], _, _, _ => by
    rw [bestP]
    exact trivial
  | k :: r, n, last, hm => by
    rw [bestP, stayP]
    by_cases hc : 0 < n ∧ (if vldB k = true then (r.zip (bestP r)).foldl (stepB k) 1 else 0) = n
    · obtain ⟨h1, h2⟩ := more_here hm hc.1 hc.2
      have hv : vldB k = true := by
        rw [← Bool.not_eq_false]
        intro hf
        have := hc.2
        rw [if_neg (by rw [hf]; decide)] at this
        omega
      rw [if_pos hc]
      exact ⟨hv, by rcases h1 with rfl | h1; exact vld_ne hv; exact h1, stay_ok r (n - 1) k h2⟩
    · rw [if_neg hc]
      exact stay_ok r n last (more_skip hm hc)
theorem keep_ok (l : List Key) : OkS l (keepP l) [] := stay_ok l _ _ (more_start l)
/-- How many stay. -/
theorem stay_count : (l : List Key) → (n : Nat) → (last : Key) → More l n last → (stayP (bestP l) n).countP (· = true) = n
  | [], n, last, hm => by
    rcases Nat.eq_zero_or_pos n with h | h
    · subst h; rfl
    · obtain ⟨x, hx, _⟩ := hm h
      exact absurd hx List.not_mem_nil
  | k :: r, n, last, hm => by
    rw [bestP, stayP]
    by_cases hc : 0 < n ∧ (if vldB k = true then (r.zip (bestP r)).foldl (stepB k) 1 else 0) = n
    · have h2 := (more_here hm hc.1 hc.2).2
      have := stay_count r (n - 1) k h2
      have h0 := hc.1
      rw [if_pos hc, List.countP_cons, this]
      simp
      omega
    · rw [if_neg hc, List.countP_cons, stay_count r n last (more_skip hm hc)]
      simp
theorem keep_count (l : List Key) : (keepP l).countP (· = true) = maxP (bestP l) := stay_count l _ _ (more_start l)
/-- A greedy reading of a choice. -/
def greedy : List Key → List Bool → Key → Nat
  | k :: r, c :: s, last => if c = true ∧ vldB k = true ∧ bl last k = true then 1 + greedy r s k else greedy r s last
  | _, _, _ => 0
theorem greedy_best : (l : List Key) → (cs : List Bool) → (last : Key) → 0 < greedy l cs last → ∃ x b, At l x b ∧ greedy l cs last ≤ b ∧ bl last x = true
  | [], _, _, h => by
    rw [greedy] at h
    · omega
    · intro k r c s hk; cases hk
  | k :: r, [], _, h => by
    rw [greedy] at h
    · omega
    · intro k r c s _ hc; cases hc
  | k :: r, c :: s, last, h => by
    rw [greedy] at h ⊢
    by_cases hc : c = true ∧ vldB k = true ∧ bl last k = true
    · rw [if_pos hc]
      refine ⟨k, _, at_cons.2 (.inl ⟨rfl, rfl⟩), ?_, hc.2.2⟩
      rw [if_pos hc.2.1]
      rcases Nat.eq_zero_or_pos (greedy r s k) with h0 | h0
      · rw [h0]
        exact fold_ge k _ 1
      · obtain ⟨x, b, hx, hb, hkx⟩ := greedy_best r s k h0
        have := fold_mem k (r.zip (bestP r)) 1 (x, b) hx (by show 0 < b; omega) hkx
        have h3 : b + 1 ≤ (r.zip (bestP r)).foldl (stepB k) 1 := this
        omega
    · rw [if_neg hc] at h ⊢
      obtain ⟨x, b, hx, hb, hl⟩ := greedy_best r s last h
      exact ⟨x, b, at_cons.2 (.inr hx), hb, hl⟩
theorem greedy_le (l : List Key) (cs : List Bool) : greedy l cs [] ≤ (keepP l).countP (· = true) := by
  rw [keep_count]
  rcases Nat.eq_zero_or_pos (greedy l cs []) with h | h
  · omega
  · obtain ⟨x, b, hx, hb, _⟩ := greedy_best l cs [] h
    have : b ∈ bestP l := by
      have h1 : (x, b) ∈ l.zip (bestP l) := hx
      exact (List.of_mem_zip h1).2
    exact Nat.le_trans hb ((foldl_max_ge (bestP l) 0).2 b this)
/-- The next key that stays. -/
def nextS : List Key → List Bool → Key
  | k :: _, true :: _ => k
  | _ :: r, false :: s => nextS r s
  | _, _ => []
/-- The new keys. -/
def rekL : Key → List Key → List Bool → Option (List Key)
  | _, [], _ => some []
  | _, k :: r, true :: s => (rekL k r s).map (k :: ·)
  | last, _ :: r, false :: s => if (betweenP last (nextS r s)).2 = 0 then (rekL (betweenP last (nextS r s)).1 r s).map ((betweenP last (nextS r s)).1 :: ·) else none
  | _, _ :: _, [] => some []
/-- Ascending keys above a last one. -/
def AscV : Key → List Key → Prop
  | _, [] => True
  | last, x :: l => vldB x = true ∧ bl last x = true ∧ AscV x l
theorem ok_next : (l : List Key) → (st : List Bool) → (last x : Key) → OkS l st last → undB x (nextS l st) = true → OkS l st x
  | [], st, _, _, _, _ => by cases st <;> trivial
  | k :: r, [], _, _, _, _ => trivial
  | k :: r, true :: s, last, x, h, hu => by
    have hk : undB x k = true := hu
    rw [und_iff] at hk
    refine ⟨h.1, ?_, h.2.2⟩
    rcases hk with rfl | hk
    · cases h.1
    · exact hk
  | k :: r, false :: s, last, x, h, hu => ok_next r s last x h hu
theorem rek_asc : (l : List Key) → (st : List Bool) → (last : Key) → st.length = l.length → OkS l st last → (out : List Key) → rekL last l st = some out → out.length = l.length ∧ AscV last out ∧ ∀ j : Nat, st[j]? = some true → out[j]? = l[j]?
  | [], st, last, hl, _, out, h => by
    rw [rekL] at h
    injection h with h
    subst h
    refine ⟨rfl, trivial, fun j hj => ?_⟩
    have : st = [] := List.eq_nil_of_length_eq_zero (by simpa using hl)
    subst this
    simp at hj
  | k :: r, [], _, hl, _, _, _ => by simp at hl
  | k :: r, true :: s, last, hl, hok, out, h => by
    rw [rekL] at h
    cases hr : rekL k r s with
    | none => rw [hr] at h; cases h
    | some o =>
      rw [hr] at h
      injection h with h
      subst h
      obtain ⟨h1, h2, h3⟩ := rek_asc r s k (by simpa using hl) hok.2.2 o hr
      refine ⟨by simp [h1], ⟨hok.1, hok.2.1, h2⟩, fun j hj => ?_⟩
      cases j with
      | zero => rfl
      | succ j => exact h3 j (by simpa using hj)
  | k :: r, false :: s, last, hl, hok, out, h => by
    rw [rekL] at h
    split at h
    · rename_i he
      obtain ⟨x, hx⟩ : ∃ x, betweenP last (nextS r s) = (x, 0) := ⟨(betweenP last (nextS r s)).1, by rw [← he]⟩
      rw [hx] at h
      obtain ⟨b1, b2, b3, _⟩ := between_ok hx
      cases hr : rekL x r s with
      | none => rw [hr] at h; cases h
      | some o =>
        rw [hr] at h
        injection h with h
        subst h
        obtain ⟨h1, h2, h3⟩ := rek_asc r s x (by simpa using hl) (ok_next r s last x hok b3) o hr
        refine ⟨by simp [h1], ⟨b1, b2, h2⟩, fun j hj => ?_⟩
        cases j with
        | zero => simp at hj
        | succ j => exact h3 j (by simpa using hj)
    · cases h
/-- Of ascending keys all stay. -/
theorem asc_best : (l : List Key) → (last : Key) → AscV last l → (∀ x b, At l x b → bl last x = true ∧ b ≤ l.length) ∧ bestP l = (List.range' 1 l.length).reverse
  | [], _, _ => ⟨fun _ _ h => absurd h List.not_mem_nil, rfl⟩
  | k :: r, last, h => by
    obtain ⟨hv, hlk, hr⟩ := h
    obtain ⟨ih1, ih2⟩ := asc_best r k hr
    have hf : (r.zip (bestP r)).foldl (stepB k) 1 = r.length + 1 := by
      apply Nat.le_antisymm
      · rcases fold_is k (r.zip (bestP r)) 1 with h | ⟨p, hp, _, _, h⟩
        · omega
        · rw [h]
          have := (ih1 p.1 p.2 hp).2
          omega
      · cases r with
        | nil => exact Nat.le_refl 1
        | cons a r' =>
          have hb : bestP (a :: r') = (r'.length + 1) :: (List.range' 1 r'.length).reverse := by
            rw [ih2, List.length_cons, List.range'_1_concat, List.reverse_append, Nat.add_comm 1]
            rfl
          have hat : ((a, r'.length + 1) : Key × Nat) ∈ (a :: r').zip (bestP (a :: r')) := by
            rw [hb, List.zip_cons_cons]
            exact List.mem_cons_self
          have := fold_mem k _ 1 (a, r'.length + 1) hat (by simp) hr.2.1
          exact this
    refine ⟨fun x b hx => ?_, ?_⟩
    · rw [at_cons, if_pos hv, hf] at hx
      rcases hx with ⟨rfl, rfl⟩ | hx
      · exact ⟨hlk, by simp⟩
      · have := ih1 x b hx
        exact ⟨bl_trans _ _ _ hlk this.1, by simp; omega⟩
    · rw [bestP, if_pos hv, hf, ih2, List.length_cons, List.range'_1_concat, List.reverse_append, Nat.add_comm 1]
      rfl
theorem stay_all : (n : Nat) → stayP (List.range' 1 n).reverse n = List.replicate n true
  | 0 => rfl
  | n + 1 => by
    rw [List.range'_1_concat, List.reverse_append, List.reverse_singleton, List.singleton_append, stayP, if_pos ⟨by omega, by omega⟩, Nat.add_sub_cancel, stay_all n]
    rfl
theorem asc_max {l : List Key} {last : Key} (h : AscV last l) : maxP (bestP l) = l.length := by
  have hb := asc_best l last h
  unfold maxP
  rcases foldl_max_mem (bestP l) 0 with h1 | h1
  · have h2 := (foldl_max_ge (bestP l) 0).2
    rw [h1] at h2
    rw [h1]
    cases l with
    | nil => rfl
    | cons a r =>
      have := h2 (r.length + 1) (by rw [hb.2]; simp)
      omega
  · obtain ⟨x, hx⟩ := at_of_mem h1
    have h3 := (hb.1 x _ hx).2
    have h2 := (foldl_max_ge (bestP l) 0).2
    cases l with
    | nil => exact Nat.le_antisymm h3 (Nat.zero_le _)
    | cons a r =>
      have := h2 (r.length + 1) (by rw [hb.2]; simp)
      rw [List.length_cons] at h3 ⊢
      omega
theorem keep_asc {l : List Key} {last : Key} (h : AscV last l) : keepP l = List.replicate l.length true := by
  unfold keepP
  rw [asc_max h, (asc_best l last h).2, stay_all]
theorem rek_asc_same : (l : List Key) → (last : Key) → rekL last l (List.replicate l.length true) = some l
  | [], _ => rfl
  | k :: r, last => by
    rw [List.length_cons, List.replicate_succ, rekL, rek_asc_same r k]
    rfl
end Go.Proofs.Ytedlfjolmhkpdaa
