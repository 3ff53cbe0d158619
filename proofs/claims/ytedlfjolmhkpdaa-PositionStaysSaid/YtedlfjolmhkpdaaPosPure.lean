/- Plain: keys, which of them lie between two others, the enumeration of the reference. No condition. -/
import Derived.WalkKit
namespace Go.Proofs.Ytedlfjolmhkpdaa
open Go.RowKit
def bl (x y : List UInt8) : Bool := Op.bytesLess x y
theorem bl_nil (y : List UInt8) : bl y [] = false := by unfold bl; cases y <;> rfl
theorem bl_nil_cons (b : UInt8) (s : List UInt8) : bl [] (b :: s) = true := rfl
theorem bl_cons (a b : UInt8) (r s : List UInt8) : bl (a :: r) (b :: s) = true ↔ a.toNat < b.toNat ∨ a = b ∧ bl r s = true := by
  unfold bl
  rw [Op.bytesLess]
  simp only [Bool.or_eq_true, decide_eq_true_eq, Bool.and_eq_true, beq_iff_eq, UInt8.lt_iff_toNat_lt]
theorem bl_irr : (x : List UInt8) → bl x x = false
  | [] => rfl
  | a :: r => by
    rw [← Bool.not_eq_true, bl_cons, bl_irr r]
    simp
theorem bl_trans : (x y z : List UInt8) → bl x y = true → bl y z = true → bl x z = true
  | x, [], _, h, _ => by rw [bl_nil] at h; cases h
  | _, y :: _, [], _, h => by rw [bl_nil] at h; cases h
  | [], _ :: _, _ :: _, _, _ => rfl
  | a :: r, b :: s, c :: t, h, k => by
    rw [bl_cons] at h k ⊢
    rcases h with h | ⟨rfl, h⟩
    · rcases k with k | ⟨rfl, k⟩
      · exact .inl (by omega)
      · exact .inl h
    · rcases k with k | ⟨rfl, k⟩
      · exact .inl k
      · exact .inr ⟨rfl, bl_trans r s t h k⟩
theorem bl_tri : (x y : List UInt8) → bl x y = true ∨ x = y ∨ bl y x = true
  | [], [] => .inr (.inl rfl)
  | [], _ :: _ => .inl rfl
  | _ :: _, [] => .inr (.inr rfl)
  | a :: r, b :: s => by
    rw [bl_cons, bl_cons]
    rcases Nat.lt_trichotomy a.toNat b.toNat with h | h | h
    · exact .inl (.inl h)
    · have := UInt8.toNat_inj.1 h
      subst this
      rcases bl_tri r s with h | h | h
      · exact .inl (.inr ⟨rfl, h⟩)
      · exact .inr (.inl (by rw [h]))
      · exact .inr (.inr (.inr ⟨rfl, h⟩))
    · exact .inr (.inr (.inl h))
theorem bl_as {x y : List UInt8} (h : bl x y = true) : bl y x = false := by
  cases hy : bl y x
  · rfl
  · have := bl_trans _ _ _ h hy
    rw [bl_irr] at this
    cases this
theorem bl_le_trans {x y z : List UInt8} (h : bl x y = true) (k : bl z y = false) : bl x z = true := by
  rcases bl_tri x z with h' | h' | h'
  · exact h'
  · subst h'; rw [k] at h; cases h
  · rw [bl_trans _ _ _ h' h] at k; cases k
theorem le_bl_trans {x y z : List UInt8} (h : bl y x = false) (k : bl y z = true) : bl x z = true := by
  rcases bl_tri x z with h' | h' | h'
  · exact h'
  · subst h'; rw [h] at k; cases k
  · rw [bl_trans _ _ _ k h'] at h; cases h
theorem bl_app : (p x y : List UInt8) → bl (p ++ x) (p ++ y) = bl x y
  | [], _, _ => rfl
  | a :: p, x, y => by
    rw [Bool.eq_iff_iff, List.cons_append, List.cons_append, bl_cons, bl_app p x y]
    constructor
    · rintro (h | ⟨_, h⟩)
      · omega
      · exact h
    · exact fun h => .inr ⟨rfl, h⟩
theorem bl_pre (p : List UInt8) (c : UInt8) (x : List UInt8) : bl p (p ++ c :: x) = true := by
  have := bl_app p [] (c :: x)
  rw [List.append_nil] at this
  rw [this]
  rfl
/-- Letters. -/
def Lets (l : List UInt8) : Prop := ∀ c ∈ l, 97 ≤ c.toNat ∧ c.toNat ≤ 122
theorem lets_cons {c : UInt8} {l : List UInt8} : Lets (c :: l) ↔ (97 ≤ c.toNat ∧ c.toNat ≤ 122) ∧ Lets l := by
  unfold Lets
  simp
theorem lets_app {x y : List UInt8} : Lets (x ++ y) ↔ Lets x ∧ Lets y := by
  unfold Lets
  constructor
  · exact fun h => ⟨fun c hc => h c (List.mem_append.2 (.inl hc)), fun c hc => h c (List.mem_append.2 (.inr hc))⟩
  · rintro ⟨h, k⟩ c hc
    rcases List.mem_append.1 hc with hc | hc
    · exact h c hc
    · exact k c hc
def letB (c : UInt8) : Bool := decide (97 ≤ c.toNat) && decide (c.toNat ≤ 122)
/-- A key. -/
def vldB (l : List UInt8) : Bool := !l.isEmpty && decide (l.length ≤ 60) && l.all letB && !(l.getLast? == some 97)
theorem vld_iff (l : List UInt8) : vldB l = true ↔ l ≠ [] ∧ l.length ≤ 60 ∧ Lets l ∧ l.getLast? ≠ some 97 := by
  unfold vldB Lets letB
  simp only [Bool.and_eq_true, Bool.not_eq_true', decide_eq_true_eq, List.all_eq_true, List.isEmpty_eq_false_iff, beq_eq_false_iff_ne]
  constructor
  · rintro ⟨⟨⟨a, b⟩, c⟩, d⟩
    exact ⟨a, b, c, d⟩
  · rintro ⟨a, b, c, d⟩
    exact ⟨⟨⟨a, b⟩, c⟩, d⟩
def bndB (l : List UInt8) : Bool := l.isEmpty || vldB l
theorem bnd_lets {l : List UInt8} (h : bndB l = true) : Lets l ∧ l.length ≤ 60 := by
  unfold bndB at h
  simp only [Bool.or_eq_true, List.isEmpty_iff] at h
  rcases h with rfl | h
  · exact ⟨fun c hc => absurd hc List.not_mem_nil, by simp⟩
  · have := (vld_iff l).1 h
    exact ⟨this.2.2.1, this.2.1⟩
/-- No bound, or above. -/
def undB (k hi : List UInt8) : Bool := hi.isEmpty || bl k hi
theorem und_iff (k hi : List UInt8) : undB k hi = true ↔ hi = [] ∨ bl k hi = true := by unfold undB; simp
theorem und_down {x y hi : List UInt8} (h : bl x y = true) (k : undB y hi = true) : undB x hi = true := by
  rw [und_iff] at k ⊢
  rcases k with k | k
  · exact .inl k
  · exact .inr (bl_trans _ _ _ h k)
/-- The letters that a shortest key begins with. -/
def pfx : List UInt8 → Nat → List UInt8
  | _, 0 => []
  | [], n + 1 => 97 :: pfx [] n
  | d :: l, n + 1 => d :: pfx l n
theorem pfx_len : (l : List UInt8) → (n : Nat) → (pfx l n).length = n
  | _, 0 => by simp [pfx]
  | [], n + 1 => by simp [pfx, pfx_len [] n]
  | _ :: l, n + 1 => by simp [pfx, pfx_len l n]
theorem pfx_lets : (l : List UInt8) → (n : Nat) → Lets l → Lets (pfx l n)
  | l, 0, _ => by cases l <;> exact fun c hc => absurd hc List.not_mem_nil
  | [], n + 1, h => by
    rw [pfx, lets_cons]
    exact ⟨by decide, pfx_lets [] n h⟩
  | _ :: l, n + 1, h => by
    rw [pfx, lets_cons]
    rw [lets_cons] at h
    exact ⟨h.1, pfx_lets l n h.2⟩
theorem pfx_take : (l : List UInt8) → (n : Nat) → n ≤ l.length → pfx l n = l.take n
  | l, 0, _ => by cases l <;> rfl
  | [], n + 1, h => by simp at h
  | d :: l, n + 1, h => by rw [pfx, pfx_take l n (by simpa using h)]; rfl
theorem pfx_nil : (n : Nat) → pfx [] n = List.replicate n 97
  | 0 => rfl
  | n + 1 => by rw [pfx, pfx_nil n]; rfl
theorem pfx_rep : (l : List UInt8) → (n : Nat) → l.length ≤ n → pfx l n = l ++ List.replicate (n - l.length) 97
  | [], n, _ => by rw [pfx_nil]; rfl
  | d :: l, 0, h => by simp at h
  | d :: l, n + 1, h => by
    rw [pfx, pfx_rep l n (by simpa using h)]
    simp
/-- The letter a alone is the least. -/
theorem rep_least : (n : Nat) → (x : List UInt8) → Lets x → x.length = n → bl x (List.replicate n 97) = false
  | 0, x, _, _ => bl_nil x
  | n + 1, [], _, h => by simp at h
  | n + 1, c :: x, hx, h => by
    rw [lets_cons] at hx
    rw [List.replicate_succ, ← Bool.not_eq_true, bl_cons, rep_least n x hx.2 (by simpa using h)]
    have h97 : (97 : UInt8).toNat = 97 := rfl
    rw [h97]
    simp
    omega
/-- What is not above stays so behind letters a. -/
theorem pad_le : (q l : List UInt8) → (j : Nat) → Lets l → bl l q = false → bl (pfx l (q.length + j)) (q ++ List.replicate j 97) = false
  | [], l, j, hl, _ => by
    rw [List.length_nil, Nat.zero_add, List.nil_append]
    exact rep_least j _ (pfx_lets l j hl) (pfx_len l j)
  | c :: q, [], j, _, h => by cases h
  | c :: q, d :: l, j, hl, h => by
    rw [lets_cons] at hl
    rw [List.length_cons, show q.length + 1 + j = q.length + j + 1 from by omega, pfx, List.cons_append, ← Bool.not_eq_true, bl_cons]
    rw [← Bool.not_eq_true, bl_cons] at h
    rintro (h' | ⟨rfl, h'⟩)
    · exact h (.inl h')
    · have := pad_le q l j hl.2 (by rw [← Bool.not_eq_true]; exact fun hh => h (.inr ⟨rfl, hh⟩))
      rw [this] at h'
      cases h'
/-- What begins below stays below. -/
theorem low_pre : (q l x : List UInt8) → Lets q → bl q (pfx l q.length) = true → bl (q ++ x) l = true
  | [], l, _, _, h => by
    rw [List.length_nil] at h
    cases l <;> cases h
  | c :: q, [], x, hq, h => by
    rw [pfx_nil] at h
    rw [rep_least _ _ hq rfl] at h
    cases h
  | c :: q, d :: l, x, hq, h => by
    rw [lets_cons] at hq
    rw [List.length_cons, pfx, bl_cons] at h
    rw [List.cons_append, bl_cons]
    rcases h with h | ⟨rfl, h⟩
    · exact .inl h
    · exact .inr ⟨rfl, low_pre q l x hq.2 h⟩
theorem strip (q : List UInt8) : ∃ q' j, q = q' ++ List.replicate j 97 ∧ q'.getLast? ≠ some 97 := by
  induction hn : q.length generalizing q with
  | zero => exact ⟨[], 0, by simp [List.eq_nil_of_length_eq_zero hn], by simp⟩
  | succ n ih =>
    have hne : q ≠ [] := by rintro rfl; cases hn
    by_cases hl : q.getLast? = some 97
    · obtain ⟨q', j, e, h⟩ := ih q.dropLast (by simp [hn])
      refine ⟨q', j + 1, ?_, h⟩
      have h1 := List.dropLast_concat_getLast hne
      have h2 : q.getLast hne = 97 := by rw [List.getLast?_eq_some_getLast hne] at hl; injection hl
      rw [← h1, h2, e, List.append_assoc, List.replicate_succ']
    · exact ⟨q, 0, by simp, hl⟩
/-- No key of at most n letters lies between. -/
def NoneB (lo hi : List UInt8) (n : Nat) : Prop := ∀ k, vldB k = true → bl lo k = true → undB k hi = true → n < k.length
theorem none_zero (lo hi : List UInt8) : NoneB lo hi 0 := fun k hk _ _ => by
  have := ((vld_iff k).1 hk).1
  exact List.length_pos_iff.2 this
/-- A beginning that is greater gives a shorter key. -/
theorem above_stops {lo hi q : List UInt8} {n : Nat} (hn : NoneB lo hi n) (hl : Lets lo) (hq : Lets q) (hqn : q.length = n) (h60 : n ≤ 60) (h : bl (pfx lo n) q = true) (x : UInt8) : undB (q ++ [x]) hi = false := by
  rw [← Bool.not_eq_true]
  intro hu
  obtain ⟨q', j, e, hlast⟩ := strip q
  have hlen : q.length = q'.length + j := by rw [e]; simp
  have hlow : bl lo q' = true := by
    rw [← Bool.not_eq_false]
    intro hf
    have h1 := pad_le q' lo j hl hf
    rw [← e, ← hlen, hqn, h] at h1
    cases h1
  have hne : q' ≠ [] := by rintro rfl; rw [bl_nil] at hlow; cases hlow
  have hv : vldB q' = true := (vld_iff q').2 ⟨hne, by omega, by rw [e, lets_app] at hq; exact hq.1, hlast⟩
  have hlt : bl q' (q ++ [x]) = true := by
    rw [e, List.append_assoc]
    cases j with
    | zero => exact bl_pre _ _ _
    | succ j => exact bl_pre _ _ _
  have := hn q' hv hlow (und_down hlt hu)
  omega
/-- A shortest key begins with the letters of pfx. -/
theorem short_pre {lo hi k : List UInt8} {n : Nat} (hn : NoneB lo hi n) (hl : Lets lo) (hk : vldB k = true) (hlo : bl lo k = true) (hu : undB k hi = true) (hlen : k.length = n + 1) : ∃ c : UInt8, k = pfx lo n ++ [c] ∧ 98 ≤ c.toNat ∧ c.toNat ≤ 122 := by
  obtain ⟨hne, h60, hlet, hlast⟩ := (vld_iff k).1 hk
  have h1 := List.dropLast_concat_getLast hne
  obtain ⟨q, hq⟩ : ∃ q, q = k.dropLast := ⟨_, rfl⟩
  obtain ⟨c, hc⟩ : ∃ c, c = k.getLast hne := ⟨_, rfl⟩
  rw [← hq, ← hc] at h1
  have hlen' : q.length = n := by rw [hq]; simp [hlen]
  have hlets : Lets q ∧ Lets [c] := by rw [← lets_app, h1]; exact hlet
  have hcl := hlets.2 c List.mem_cons_self
  have hc97 : c ≠ 97 := by
    rintro rfl
    exact hlast (by rw [← h1]; simp)
  have h97 : c.toNat ≠ 97 := fun h => hc97 (UInt8.toNat_inj.1 h)
  refine ⟨c, ?_, by omega, hcl.2⟩
  rcases bl_tri q (pfx lo n) with h | h | h
  · rw [← hlen'] at h
    have h2 := low_pre q lo [c] hlets.1 h
    rw [h1] at h2
    rw [bl_as hlo] at h2
    cases h2
  · rw [← h1, h]
  · have h2 := above_stops hn hl hlets.1 hlen' (by omega) h c
    rw [h1, hu] at h2
    cases h2
/-- The numbers from c up to 122. -/
def upTo (c : Nat) : List Nat := List.range' c (123 - c)
/-- The letters that make a beginning a key between. -/
def endsL (st lo hi : List UInt8) : List Nat := (upTo 98).filter fun e => bl lo (st ++ [UInt8.ofNat e]) && undB (st ++ [UInt8.ofNat e]) hi
def firstN (lo hi : List UInt8) : Nat → Nat → Option (List UInt8)
  | 0, _ => none
  | f + 1, n => if endsL (pfx lo n) lo hi = [] then firstN lo hi f (n + 1) else some (pfx lo n ++ [UInt8.ofNat ((endsL (pfx lo n) lo hi).getD (((endsL (pfx lo n) lo hi).length - 1) / 2) 0)])
def betweenP (lo hi : List UInt8) : List UInt8 × Int :=
  if (bndB lo && bndB hi) = false then ([], 5) else if (!hi.isEmpty && !bl lo hi) = true then ([], 12) else match firstN lo hi 60 0 with | some k => (k, 0) | none => ([], 17)
theorem mem_upTo {c e : Nat} : e ∈ upTo c ↔ c ≤ e ∧ e ≤ 122 := by unfold upTo; simp; omega
theorem mem_ends {st lo hi : List UInt8} {e : Nat} : e ∈ endsL st lo hi ↔ (98 ≤ e ∧ e ≤ 122) ∧ bl lo (st ++ [UInt8.ofNat e]) = true ∧ undB (st ++ [UInt8.ofNat e]) hi = true := by
  unfold endsL
  rw [List.mem_filter, mem_upTo, Bool.and_eq_true]
theorem ofNat_small {e : Nat} (h : e ≤ 122) : (UInt8.ofNat e).toNat = e := by
  rw [UInt8.toNat_ofNat']
  omega
theorem ends_none {lo hi : List UInt8} {n : Nat} (hn : NoneB lo hi n) (hl : Lets lo) (h : endsL (pfx lo n) lo hi = []) : NoneB lo hi (n + 1) := fun k hk hlo hu => by
  have h1 := hn k hk hlo hu
  rcases Nat.lt_or_ge (n + 1) k.length with h2 | h2
  · exact h2
  · obtain ⟨c, hc, c1, c2⟩ := short_pre hn hl hk hlo hu (by omega)
    have : c.toNat ∈ endsL (pfx lo n) lo hi := mem_ends.2 ⟨⟨c1, c2⟩, by rw [UInt8.ofNat_toNat, ← hc]; exact ⟨hlo, hu⟩⟩
    rw [h] at this
    cases this
theorem pick_mem {l : List Nat} (h : l ≠ []) : l.getD ((l.length - 1) / 2) 0 ∈ l := by
  have := List.length_pos_iff.2 h
  rw [List.getD_eq_getElem?_getD, List.getElem?_eq_getElem (by omega)]
  exact List.getElem_mem _
theorem ends_vld {lo hi : List UInt8} {n e : Nat} (hl : Lets lo) (h60 : n < 60) (he : e ∈ endsL (pfx lo n) lo hi) : vldB (pfx lo n ++ [UInt8.ofNat e]) = true ∧ bl lo (pfx lo n ++ [UInt8.ofNat e]) = true ∧ undB (pfx lo n ++ [UInt8.ofNat e]) hi = true := by
  obtain ⟨⟨e1, e2⟩, e3, e4⟩ := mem_ends.1 he
  have h1 := ofNat_small e2
  refine ⟨(vld_iff _).2 ⟨by simp, by rw [List.length_append, pfx_len]; simp; omega, lets_app.2 ⟨pfx_lets lo n hl, ?_⟩, ?_⟩, e3, e4⟩
  · intro c hc
    rw [List.mem_singleton] at hc
    subst hc
    omega
  · rw [List.getLast?_append]
    simp
    intro h2
    rw [h2] at h1
    have : (97 : UInt8).toNat = 97 := rfl
    omega
/-- What firstN finds is a shortest key between. -/
theorem first_some {lo hi : List UInt8} (hl : Lets lo) : (f n : Nat) → n + f = 60 → NoneB lo hi n → (k : List UInt8) → firstN lo hi f n = some k → vldB k = true ∧ bl lo k = true ∧ undB k hi = true ∧ NoneB lo hi (k.length - 1)
  | 0, _, _, _, _, h => by cases h
  | f + 1, n, hf, hn, k, h => by
    rw [firstN] at h
    split at h
    · rename_i he
      exact first_some hl f (n + 1) (by omega) (ends_none hn hl he) k h
    · rename_i he
      injection h with h
      have hm := ends_vld hl (by omega) (pick_mem he)
      rw [h] at hm
      refine ⟨hm.1, hm.2.1, hm.2.2, ?_⟩
      rw [← h, List.length_append, pfx_len]
      exact hn
theorem first_none {lo hi : List UInt8} (hl : Lets lo) : (f n : Nat) → NoneB lo hi n → firstN lo hi f n = none → NoneB lo hi (n + f)
  | 0, _, hn, _ => hn
  | f + 1, n, hn, h => by
    rw [firstN] at h
    split at h
    · rename_i he
      have := first_none hl f (n + 1) (ends_none hn hl he) h
      rwa [show n + 1 + f = n + (f + 1) from by omega] at this
    · cases h
theorem between_ok {lo hi k : List UInt8} (h : betweenP lo hi = (k, 0)) : vldB k = true ∧ bl lo k = true ∧ undB k hi = true ∧ bndB lo = true ∧ bndB hi = true ∧ NoneB lo hi (k.length - 1) := by
  unfold betweenP at h
  split at h
  · injection h with _ h; cases h
  · rename_i hb
    rw [Bool.not_eq_false, Bool.and_eq_true] at hb
    split at h
    · injection h with _ h; cases h
    · split at h
      · rename_i k' hk
        injection h with h _
        subst h
        have := first_some (bnd_lets hb.1).1 60 0 rfl (none_zero lo hi) _ hk
        exact ⟨this.1, this.2.1, this.2.2.1, hb.1, hb.2, this.2.2.2⟩
      · injection h with _ h; cases h
theorem between_found {lo hi k : List UInt8} (hb : bndB lo = true) (hb' : bndB hi = true) (hk : vldB k = true) (hlo : bl lo k = true) (hu : undB k hi = true) : ∃ a, betweenP lo hi = (a, 0) ∧ a.length ≤ k.length := by
  unfold betweenP
  rw [hb, hb']
  have ho : (!hi.isEmpty && !bl lo hi) = false := by
    rw [und_iff] at hu
    rcases hu with rfl | hu
    · rfl
    · rw [bl_trans _ _ _ hlo hu]
      simp
  rw [ho]
  simp only [Bool.and_true, Bool.true_eq_false, if_false, Bool.false_eq_true]
  cases hf : firstN lo hi 60 0 with
  | none =>
    have h1 := first_none (bnd_lets hb).1 60 0 (none_zero lo hi) hf k hk hlo hu
    have := ((vld_iff k).1 hk).2.1
    omega
  | some a =>
    have h1 := (first_some (bnd_lets hb).1 60 0 rfl (none_zero lo hi) a hf).2.2.2 k hk hlo hu
    exact ⟨a, rfl, by omega⟩
theorem between_bad {lo hi : List UInt8} (h : (betweenP lo hi).2 ≠ 0) : (betweenP lo hi).1 = [] := by
  unfold betweenP at h ⊢
  by_cases h1 : (bndB lo && bndB hi) = false
  · rw [if_pos h1]
  · rw [if_neg h1] at h ⊢
    by_cases h2 : (!hi.isEmpty && !bl lo hi) = true
    · rw [if_pos h2]
    · rw [if_neg h2] at h ⊢
      cases hf : firstN lo hi 60 0 with
      | none => rfl
      | some k => rw [hf] at h; exact absurd rfl h
/-- The text behind one of n letters, in the reference's way. -/
def incr : List UInt8 → Option (List UInt8)
  | [] => none
  | c :: r => match incr r with
    | some r' => some (c :: r')
    | none => if c.toNat < 122 then some (UInt8.ofNat (c.toNat + 1) :: List.replicate r.length 97) else none
def afterL (lo : List UInt8) (n : Nat) : List UInt8 := if lo.length < n then lo ++ List.replicate (n - lo.length) 97 else (incr (lo.take n)).getD []
theorem incr_snoc : (p : List UInt8) → (c : UInt8) → incr (p ++ [c]) = if c.toNat < 122 then some (p ++ [UInt8.ofNat (c.toNat + 1)]) else (incr p).map (· ++ [97])
  | [], c => by
    show incr [c] = _
    rw [incr]
    rfl
  | d :: p, c => by
    rw [List.cons_append, incr, incr_snoc p c]
    by_cases hc : c.toNat < 122
    · rw [if_pos hc, if_pos hc]
      rfl
    · rw [if_neg hc, if_neg hc, incr]
      cases incr p with
      | some q => rfl
      | none =>
        show (if d.toNat < 122 then some (UInt8.ofNat (d.toNat + 1) :: List.replicate (p ++ [c]).length 97) else none) = Option.map _ (if d.toNat < 122 then some (UInt8.ofNat (d.toNat + 1) :: List.replicate p.length 97) else none)
        by_cases hd : d.toNat < 122
        · rw [if_pos hd, if_pos hd, List.length_append, List.length_singleton, List.replicate_succ']
          rfl
        · rw [if_neg hd, if_neg hd]
          rfl
theorem incr_up : (q q' : List UInt8) → Lets q → incr q = some q' → bl q q' = true ∧ q'.length = q.length ∧ Lets q'
  | [], _, _, h => by cases h
  | c :: r, q', hq, h => by
    rw [lets_cons] at hq
    rw [incr] at h
    cases hr : incr r with
    | some r' =>
      rw [hr] at h
      injection h with h
      subst h
      obtain ⟨h1, h2, h3⟩ := incr_up r r' hq.2 hr
      exact ⟨(bl_cons _ _ _ _).2 (.inr ⟨rfl, h1⟩), by simp [h2], lets_cons.2 ⟨hq.1, h3⟩⟩
    | none =>
      rw [hr] at h
      dsimp only at h
      split at h
      · rename_i hc
        injection h with h
        subst h
        have e := ofNat_small (e := c.toNat + 1) (by omega)
        refine ⟨(bl_cons _ _ _ _).2 (.inl (by omega)), by simp, lets_cons.2 ⟨by omega, fun x hx => ?_⟩⟩
        rw [List.mem_replicate] at hx
        rw [hx.2]
        decide
      · cases h
/-- The enumeration, with fuel. -/
def keysF (hi : List UInt8) (n : Nat) : Nat → List UInt8 → List (List UInt8) → Option (List (List UInt8))
  | 0, _, _ => none
  | f + 1, s, acc => if (!s.isEmpty && undB s hi && decide (acc.length < 100)) = true then keysF hi n f (afterL s n) (if vldB s = true then acc ++ [s] else acc) else some acc
theorem keysF_stop {hi : List UInt8} {n f : Nat} {s : List UInt8} {acc : List (List UInt8)} (h : (!s.isEmpty && undB s hi) = false) : keysF hi n (f + 1) s acc = some acc := by
  rw [keysF, h]
  simp
theorem after_snoc (p : List UInt8) (c : UInt8) : afterL (p ++ [c]) (p.length + 1) = if c.toNat < 122 then p ++ [UInt8.ofNat (c.toNat + 1)] else ((incr p).map (· ++ [97])).getD [] := by
  unfold afterL
  rw [if_neg (by simp), List.take_of_length_le (by simp), incr_snoc]
  by_cases hc : c.toNat < 122
  · rw [if_pos hc, if_pos hc]
    rfl
  · rw [if_neg hc, if_neg hc]
theorem upTo_cons {c : Nat} (h : c ≤ 122) : upTo c = c :: upTo (c + 1) := by
  unfold upTo
  rw [show 123 - c = 123 - (c + 1) + 1 from by omega, List.range'_succ]
theorem carry_stops {lo hi : List UInt8} {n f : Nat} {acc : List (List UInt8)} (hn : NoneB lo hi n) (hl : Lets lo) (h60 : n ≤ 60) : keysF hi (n + 1) (f + 1) (((incr (pfx lo n)).map (· ++ [97])).getD []) acc = some acc := by
  cases hi' : incr (pfx lo n) with
  | none => exact keysF_stop rfl
  | some q =>
    obtain ⟨h1, h2, h3⟩ := incr_up _ _ (pfx_lets lo n hl) hi'
    rw [pfx_len] at h2
    refine keysF_stop ?_
    show (!(q ++ [97]).isEmpty && undB (q ++ [97]) hi) = false
    rw [above_stops hn hl h3 h2 h60 h1 97]
    simp
theorem keys_from {lo hi : List UInt8} {n : Nat} (hn : NoneB lo hi n) (hl : Lets lo) (h60 : n < 60) : (m f c : Nat) → (acc : List (List UInt8)) → c + m = 122 → m + 2 ≤ f → 97 ≤ c → acc.length + 97 ≤ c →
    keysF hi (n + 1) f (pfx lo n ++ [UInt8.ofNat c]) acc = some (acc ++ ((upTo c).filter fun e => decide (98 ≤ e) && undB (pfx lo n ++ [UInt8.ofNat e]) hi).map fun e => pfx lo n ++ [UInt8.ofNat e]) := by
  intro m
  induction m with
  | zero =>
    intro f c acc hc hf h97 hacc
    obtain ⟨f, rfl⟩ : ∃ g, f = g + 2 := ⟨f - 2, by omega⟩
    obtain rfl : c = 122 := by omega
    have h1 := after_snoc (pfx lo n) (UInt8.ofNat 122)
    rw [pfx_len, if_neg (by decide)] at h1
    rw [upTo_cons (Nat.le_refl 122), show upTo (122 + 1) = [] from rfl, List.filter_cons]
    by_cases hu : undB (pfx lo n ++ [UInt8.ofNat 122]) hi = true
    · have hv : vldB (pfx lo n ++ [UInt8.ofNat 122]) = true := (vld_iff _).2 ⟨by simp, by rw [List.length_append, pfx_len]; simp; omega, lets_app.2 ⟨pfx_lets lo n hl, fun c hc => by rw [List.mem_singleton] at hc; subst hc; decide⟩, by simp⟩
      rw [keysF, hu, if_pos (by simp; omega), if_pos hv, h1, carry_stops hn hl (by omega)]
      rfl
    · have hu' : undB (pfx lo n ++ [UInt8.ofNat 122]) hi = false := by simpa using hu
      rw [keysF_stop (by rw [hu']; simp), hu']
      simp only [Bool.and_false, Bool.false_eq_true, if_false, List.filter_nil, List.map_nil, List.append_nil]
  | succ m ih =>
    intro f c acc hc hf h97 hacc
    obtain ⟨f, rfl⟩ : ∃ g, f = g + 1 := ⟨f - 1, by omega⟩
    have e := ofNat_small (e := c) (by omega)
    have h1 := after_snoc (pfx lo n) (UInt8.ofNat c)
    rw [pfx_len, e, if_pos (by omega)] at h1
    rw [upTo_cons (by omega), List.filter_cons]
    by_cases hu : undB (pfx lo n ++ [UInt8.ofNat c]) hi = true
    · rw [keysF, hu, if_pos (by simp; omega), h1]
      by_cases h98 : 98 ≤ c
      · have hv : vldB (pfx lo n ++ [UInt8.ofNat c]) = true := (vld_iff _).2 ⟨by simp, by rw [List.length_append, pfx_len]; simp; omega, lets_app.2 ⟨pfx_lets lo n hl, fun x hx => by rw [List.mem_singleton] at hx; subst hx; omega⟩, by
          rw [List.getLast?_append]
          simp
          intro h2
          rw [h2] at e
          have : (97 : UInt8).toNat = 97 := rfl
          omega⟩
        rw [if_pos hv, ih f (c + 1) _ (by omega) (by omega) (by omega) (by rw [List.length_append]; simp; omega)]
        simp [h98]
      · obtain rfl : c = 97 := by omega
        have hv : ¬ vldB (pfx lo n ++ [UInt8.ofNat 97]) = true := by
          rw [vld_iff]
          rintro ⟨_, _, _, h⟩
          exact h (by simp)
        rw [if_neg hv, ih f 98 _ (by omega) (by omega) (by omega) (by omega)]
        simp
    · have hu' : undB (pfx lo n ++ [UInt8.ofNat c]) hi = false := by simpa using hu
      rw [keysF_stop (by rw [hu']; simp), hu']
      have : (upTo (c + 1)).filter (fun e => decide (98 ≤ e) && undB (pfx lo n ++ [UInt8.ofNat e]) hi) = [] := by
        rw [List.filter_eq_nil_iff]
        intro d hd
        rw [mem_upTo] at hd
        have hdn := ofNat_small hd.2
        have hlt : bl (pfx lo n ++ [UInt8.ofNat c]) (pfx lo n ++ [UInt8.ofNat d]) = true := by
          rw [bl_app, bl_cons]
          exact .inl (by omega)
        rw [Bool.and_eq_true]
        rintro ⟨_, h⟩
        rw [und_down hlt h] at hu'
        cases hu'
      simp only [this, Bool.and_false, Bool.false_eq_true, if_false, List.map_nil, List.append_nil]
theorem upTo_filter {m : Nat} (h : 97 ≤ m) (h' : m ≤ 122) (q : Nat → Bool) : (upTo 98).filter (fun e => decide (m < e) && q e) = (upTo (m + 1)).filter fun e => decide (98 ≤ e) && q e := by
  have h1 : upTo 98 = List.range' 98 (m - 97) ++ upTo (m + 1) := by
    unfold upTo
    rw [show m + 1 = 98 + (m - 97) from by omega, List.range'_append_1]
    congr 1
    omega
  rw [h1, List.filter_append]
  have h2 : (List.range' 98 (m - 97)).filter (fun e => decide (m < e) && q e) = [] := by
    rw [List.filter_eq_nil_iff]
    intro d hd
    rw [List.mem_range'_1] at hd
    simp
    omega
  rw [h2, List.nil_append]
  apply List.filter_congr
  intro d hd
  rw [mem_upTo] at hd
  rw [decide_eq_true (show m < d by omega), decide_eq_true (show 98 ≤ d by omega)]
/-- The reference's keys of n + 1 letters are those that the code finds, if none is shorter. -/
theorem keys_all {lo hi : List UInt8} {n : Nat} (hn : NoneB lo hi n) (hl : Lets lo) (h60 : n < 60) :
    keysF hi (n + 1) 30 (afterL lo (n + 1)) [] = some ((endsL (pfx lo n) lo hi).map fun e => pfx lo n ++ [UInt8.ofNat e]) := by
  by_cases hlen : lo.length ≤ n
  · have h1 : afterL lo (n + 1) = pfx lo n ++ [UInt8.ofNat 97] := by
      unfold afterL
      rw [if_pos (by omega), pfx_rep lo n hlen, List.append_assoc, show n + 1 - lo.length = n - lo.length + 1 from by omega, List.replicate_succ']
      rfl
    rw [h1, keys_from hn hl h60 25 30 97 [] (by omega) (by omega) (by omega) (by simp)]
    have h2 : (upTo 97).filter (fun e => decide (98 ≤ e) && undB (pfx lo n ++ [UInt8.ofNat e]) hi) = endsL (pfx lo n) lo hi := by
      unfold endsL
      rw [upTo_cons (c := 97) (by omega), List.filter_cons]
      simp only [show decide (98 ≤ 97) = false from rfl, Bool.false_and, Bool.false_eq_true, if_false]
      apply List.filter_congr
      intro d hd
      rw [mem_upTo] at hd
      have : bl lo (pfx lo n ++ [UInt8.ofNat d]) = true := by
        rw [pfx_rep lo n hlen, List.append_assoc]
        cases n - lo.length with
        | zero => exact bl_pre _ _ _
        | succ j => exact bl_pre _ _ _
      rw [this, decide_eq_true hd.1]
    rw [h2]
    rfl
  · have hlt : n < lo.length := by omega
    obtain ⟨d, hd⟩ : ∃ d, d = lo[n] := ⟨_, rfl⟩
    have htk : lo.take (n + 1) = pfx lo n ++ [d] := by rw [pfx_take lo n (by omega), List.take_succ_eq_append_getElem hlt, hd]
    have hsplit : lo = pfx lo n ++ d :: lo.drop (n + 1) := by
      have h1 : lo.take (n + 1) ++ lo.drop (n + 1) = (pfx lo n ++ [d]) ++ lo.drop (n + 1) := by rw [htk]
      rw [List.take_append_drop, List.append_assoc] at h1
      exact h1
    have hdl : 97 ≤ d.toNat ∧ d.toNat ≤ 122 := by rw [hd]; exact hl _ (List.getElem_mem _)
    have hends : endsL (pfx lo n) lo hi = (upTo (d.toNat + 1)).filter fun e => decide (98 ≤ e) && undB (pfx lo n ++ [UInt8.ofNat e]) hi := by
      rw [← upTo_filter hdl.1 hdl.2]
      unfold endsL
      apply List.filter_congr
      intro e he
      rw [mem_upTo] at he
      congr 1
      rw [Bool.eq_iff_iff, decide_eq_true_eq]
      have e1 : bl lo (pfx lo n ++ [UInt8.ofNat e]) = bl (d :: lo.drop (n + 1)) [UInt8.ofNat e] := by
        conv => lhs; arg 1; rw [hsplit]
        exact bl_app _ _ _
      rw [e1, bl_cons, bl_nil, ofNat_small he.2]
      simp
    have haf : afterL lo (n + 1) = if d.toNat < 122 then pfx lo n ++ [UInt8.ofNat (d.toNat + 1)] else ((incr (pfx lo n)).map (· ++ [97])).getD [] := by
      have h1 := after_snoc (pfx lo n) d
      rw [pfx_len] at h1
      rw [← h1]
      unfold afterL
      rw [if_neg (by omega), if_neg (by rw [List.length_append, pfx_len]; simp), htk, List.take_of_length_le (by rw [List.length_append, pfx_len]; simp)]
    rw [haf, hends]
    by_cases h122 : d.toNat < 122
    · rw [if_pos h122, keys_from hn hl h60 (121 - d.toNat) 30 (d.toNat + 1) [] (by omega) (by omega) (by omega) (by simp; omega)]
      rfl
    · rw [if_neg h122, carry_stops hn hl (by omega)]
      have : d.toNat + 1 = 123 := by omega
      rw [this]
      rfl
end Go.Proofs.Ytedlfjolmhkpdaa
