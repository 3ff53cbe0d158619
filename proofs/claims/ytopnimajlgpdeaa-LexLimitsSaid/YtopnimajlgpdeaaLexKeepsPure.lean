/- What Scan answers keeps every byte: texts have the classes of their kinds, leads and the tail are trivia, and joined they are the source. No condition. -/
import Derived.Test.YtopnimajlgpdeaaLexOwn
import Derived.Test.YtopnimajlgpdeaaLexOpen
namespace Go.Proofs.Ytopnimajlgpdeaa
/-- Class (P1.1): the kind of the token that a text is as a whole, or 0. -/
def classN (l : List UInt8) : Nat := if l = [] then 0 else if (tokT l).e ≠ 0 ∨ (tokT l).n ≠ l.length then 0 else (tokT l).kind
def bl (s : ByteArray) : List UInt8 := suf s 0
theorem bl_length (s : ByteArray) : (bl s).length = s.size := by unfold bl; rw [suf_length]; omega
theorem bl_inj {a b : ByteArray} (h : bl a = bl b) : a = b := by
  unfold bl suf at h
  rw [List.drop_zero, List.drop_zero] at h
  cases a; cases b
  congr 1
  exact Array.toList_inj.1 h
theorem bl_append (a b : ByteArray) : bl (a ++ b) = bl a ++ bl b := by
  unfold bl suf
  rw [List.drop_zero, List.drop_zero, List.drop_zero, ByteArray.data_append, Array.toList_append]
def joinL (ts : List Tok) (tail : List UInt8) : List UInt8 := (ts.flatMap fun t => bl t.lead ++ bl t.text) ++ tail
theorem joinL_snoc (ts : List Tok) (t : Tok) : joinL (ts ++ [t]) [] = joinL ts [] ++ (bl t.lead ++ bl t.text) := by
  unfold joinL
  rw [List.flatMap_append]
  simp
def GoodTok (t : Tok) : Prop := (classN (bl t.text) : Int) = t.kind ∧ t.kind ≠ 0 ∧ triviaB t.lead false = true
theorem class_own {l : List UInt8} {n : Nat} (h : (tokT l).e = 0) (hn : (tokT l).n = n) : classN (l.take n) = (tokT l).kind := by
  subst hn
  have h1 := tok_len h
  have h2 := tok_take h
  unfold classN
  rw [if_neg, h2, if_neg]
  · rw [List.length_take]
    omega
  · intro e
    have := congrArg List.length e
    rw [List.length_take, List.length_nil] at this
    omega
theorem skipL_take (l : List UInt8) : ∀ o, skipL o (l.take (skipL o l).1) = skipL o l := by
  induction l with
  | nil => intro o; simp [skipL]
  | cons c r ih =>
    intro o
    by_cases ha : allowedB c.toNat = true
    · cases o
      · by_cases hc : c.toNat = 35
        · have e : skipL false (c :: r) = ((skipL true r).1 + 1, (skipL true r).2) := by
            rw [skipL, if_pos ha, if_neg (by decide), if_pos hc]
          rw [e, List.take_succ_cons, skipL, if_pos ha, if_neg (by decide), if_pos hc, ih]
        · by_cases hw : whiteB c.toNat = true
          · have e : skipL false (c :: r) = ((skipL false r).1 + 1, (skipL false r).2) := by
              rw [skipL, if_pos ha, if_neg (by decide), if_neg hc, if_pos hw]
            rw [e, List.take_succ_cons, skipL, if_pos ha, if_neg (by decide), if_neg hc, if_pos hw, ih]
          · have e : skipL false (c :: r) = (0, false) := by
              rw [skipL, if_pos ha, if_neg (by decide), if_neg hc, if_neg hw]
            rw [e]
            rfl
      · have e : skipL true (c :: r) = ((skipL (c.toNat != 10) r).1 + 1, (skipL (c.toNat != 10) r).2) := by
          rw [skipL, if_pos ha, if_pos rfl]
        rw [e, List.take_succ_cons, skipL, if_pos ha, if_pos rfl, ih]
    · have e : skipL o (c :: r) = (0, o) := by rw [skipL, if_neg ha]
      rw [e]
      rfl
theorem cut_skip (s : ByteArray) (k : Nat) (hk : k ≤ s.size) : skipTo (s.extract k (skipTo s k)) 0 = (s.extract k (skipTo s k)).size ∧ skipOpen (s.extract k (skipTo s k)) 0 = skipOpen s k := by
  have h1 := skipTo_le s k hk
  have h2 := skipTo_ge s k
  have hn : skipTo s k - k = (skipL false (suf s k)).1 := by unfold skipTo; omega
  have hs : suf (s.extract k (skipTo s k)) 0 = (suf s k).take (skipL false (suf s k)).1 := by rw [suf_extract, hn]
  constructor
  · rw [ByteArray.size_extract, Nat.min_eq_left h1, hn]
    rw [show ∀ x, skipTo x 0 = 0 + (skipL false (suf x 0)).1 from fun _ => rfl, hs, skipL_take, Nat.zero_add]
  · rw [show ∀ x, skipOpen x 0 = (skipL false (suf x 0)).2 from fun _ => rfl, hs, skipL_take]
    rfl
theorem good_tok {s : ByteArray} {k : Nat} (hk : k ≤ s.size) (hs : skipTo s k ≠ s.size) (he : (tokT (suf s (skipTo s k))).e = 0) :
    GoodTok ⟨(tokT (suf s (skipTo s k))).kind, s.extract k (skipTo s k), s.extract (skipTo s k) (skipTo s k + (tokT (suf s (skipTo s k))).n)⟩ := by
  have h1 := skipTo_le s k hk
  have ho : skipOpen s k = false := by
    cases h : skipOpen s k
    · rfl
    · rw [open_bad h (by omega)] at he
      cases he
  refine ⟨?_, ?_, ?_⟩
  · show ((classN (suf (s.extract _ _) 0) : Nat) : Int) = _
    rw [suf_extract, class_own he (by omega)]
  · have := tok_kind he
    show ((tokT (suf s (skipTo s k))).kind : Int) ≠ 0
    omega
  · show triviaB (s.extract k (skipTo s k)) false = true
    obtain ⟨c1, c2⟩ := cut_skip s k hk
    unfold triviaB
    rw [c1, c2, ho]
    simp
theorem good_tail {s : ByteArray} {k : Nat} (hk : k ≤ s.size) (hs : skipTo s k = s.size) : triviaB (s.extract k s.size) true = true := by
  obtain ⟨c1, _⟩ := cut_skip s k hk
  rw [hs] at c1
  unfold triviaB
  rw [c1]
  simp
/-- What a scan's answer is like. -/
def GoodRes (s : ByteArray) (r : Res) : Prop :=
  (r.e = 0 → (∀ t ∈ r.toks, GoodTok t) ∧ joinL r.toks (bl r.tail) = bl s ∧ triviaB r.tail true = true) ∧ (r.e ≠ 0 → r.toks = [] ∧ r.tail = ByteArray.empty)
theorem take_extract (s : ByteArray) (a b : Nat) (hab : a ≤ b) : (bl s).take a ++ bl (s.extract a b) = (bl s).take b := by
  unfold bl
  rw [suf_extract]
  have : suf s a = (suf s 0).drop a := by rw [suf_drop, Nat.zero_add]
  rw [this, ← List.drop_take]
  conv => rhs; rw [← List.take_append_drop a ((suf s 0).take b)]
  rw [List.take_take, Nat.min_eq_left hab]
theorem scanF_good (s : ByteArray) : ∀ f k acc, k ≤ s.size → s.size < f + k → (∀ t ∈ acc, GoodTok t) → joinL acc [] = (bl s).take k → GoodRes s (scanF s f k acc) := by
  intro f
  induction f with
  | zero => intro k acc hk hf _ _; omega
  | succ f ih =>
    intro k acc hk hf hacc hj
    have h2 := skipTo_ge s k
    have h3 := skipTo_le s k hk
    unfold scanF
    by_cases hs : skipTo s k = s.size
    · rw [if_pos hs]
      refine ⟨fun _ => ⟨hacc, ?_, good_tail hk hs⟩, fun h => absurd rfl h⟩
      have : joinL acc (bl (s.extract k s.size)) = joinL acc [] ++ bl (s.extract k s.size) := by unfold joinL; simp
      rw [this, hj, take_extract s k s.size hk, List.take_of_length_le (by rw [bl_length]; omega)]
    · rw [if_neg hs]
      by_cases he : (tokT (suf s (skipTo s k))).e = 0
      · rw [if_pos he]
        have h1 := tok_len he
        rw [suf_length] at h1
        refine ih _ _ (by omega) (by omega) ?_ ?_
        · intro t ht
          rcases List.mem_append.1 ht with h | h
          · exact hacc t h
          · rw [List.mem_singleton.1 h]
            exact good_tok hk hs he
        · rw [joinL_snoc, hj, ← List.append_assoc, take_extract s k _ h2, take_extract s _ _ (by omega)]
      · rw [if_neg he]
        exact ⟨fun h => absurd h he, fun _ => ⟨rfl, rfl⟩⟩
theorem scanR_good (s : ByteArray) : GoodRes s (scanR s) := by
  unfold scanR
  split
  · exact ⟨(fun h => by cases h), fun _ => ⟨rfl, rfl⟩⟩
  · exact scanF_good s _ _ _ (Nat.zero_le _) (by omega) (by simp) (by simp [joinL])
end Go.Proofs.Ytopnimajlgpdeaa
