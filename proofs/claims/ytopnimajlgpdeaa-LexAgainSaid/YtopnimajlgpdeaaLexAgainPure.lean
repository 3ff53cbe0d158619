/- Tokens that are joined are scanned as they were, if texts are tokens, leads are trivia, the tail is trivia at the end, and no two tokens without a lead between them fuse. No condition. -/
import Derived.Test.YtopnimajlgpdeaaLexRFuses
import Derived.Test.YtopnimajlgpdeaaLexStop
import Derived.Test.YtopnimajlgpdeaaLexJoin
namespace Go.Proofs.Ytopnimajlgpdeaa
open Go.RowKit
theorem skipL_app (l : List UInt8) : ∀ o r, (skipL o l).1 = l.length → skipL o (l ++ r) = (l.length + (skipL (skipL o l).2 r).1, (skipL (skipL o l).2 r).2) := by
  induction l with
  | nil => intro o r _; simp [skipL]
  | cons c l ih =>
    intro o r h
    rw [List.cons_append]
    by_cases ha : allowedB c.toNat = true
    · cases o
      · by_cases hc : c.toNat = 35
        · have e : ∀ x, skipL false (c :: x) = ((skipL true x).1 + 1, (skipL true x).2) := fun x => by rw [skipL, if_pos ha, if_neg (by decide), if_pos hc]
          rw [e] at h ⊢
          rw [e, ih true r (by simpa using h)]
          simp only [List.length_cons, Prod.mk.injEq, and_true]
          omega
        · by_cases hw : whiteB c.toNat = true
          · have e : ∀ x, skipL false (c :: x) = ((skipL false x).1 + 1, (skipL false x).2) := fun x => by rw [skipL, if_pos ha, if_neg (by decide), if_neg hc, if_pos hw]
            rw [e] at h ⊢
            rw [e, ih false r (by simpa using h)]
            simp only [List.length_cons, Prod.mk.injEq, and_true]
            omega
          · have e : ∀ x, skipL false (c :: x) = (0, false) := fun x => by rw [skipL, if_pos ha, if_neg (by decide), if_neg hc, if_neg hw]
            rw [e] at h
            simp at h
      · have e : ∀ x, skipL true (c :: x) = ((skipL (c.toNat != 10) x).1 + 1, (skipL (c.toNat != 10) x).2) := fun x => by rw [skipL, if_pos ha, if_pos rfl]
        rw [e] at h ⊢
        rw [e, ih _ r (by simpa using h)]
        simp only [List.length_cons, Prod.mk.injEq, and_true]
        omega
    · have e : ∀ x, skipL o (c :: x) = (0, o) := fun x => by rw [skipL, if_neg ha]
      rw [e] at h
      simp at h
theorem trivia_all {s : ByteArray} {b : Bool} (h : triviaB s b = true) : (skipL false (bl s)).1 = (bl s).length ∧ (b = false → (skipL false (bl s)).2 = false) := by
  unfold triviaB at h
  simp only [Bool.and_eq_true, beq_iff_eq, Bool.or_eq_true, Bool.not_eq_true'] at h
  obtain ⟨h1, h2⟩ := h
  have e : skipTo s 0 = 0 + (skipL false (bl s)).1 := rfl
  refine ⟨by rw [bl_length]; omega, fun hb => ?_⟩
  rcases h2 with h2 | h2
  · rw [hb] at h2
    cases h2
  · exact h2
theorem trivia_head {s : ByteArray} {b : Bool} {d : UInt8} {r : List UInt8} (h : triviaB s b = true) (hs : bl s = d :: r) : whiteB d.toNat = true ∨ d.toNat = 35 := by
  have h1 := (trivia_all h).1
  rw [hs] at h1
  by_cases hw : whiteB d.toNat = true
  · exact .inl hw
  · by_cases hc : d.toNat = 35
    · exact .inr hc
    · exfalso
      simp only [skipL, hc, hw, if_false, Bool.false_eq_true] at h1
      split at h1 <;> simp at h1
theorem class_parts {l : List UInt8} (h : classN l ≠ 0) : (tokT l).e = 0 ∧ (tokT l).n = l.length ∧ (tokT l).kind = classN l := by
  unfold classN at h ⊢
  split at h
  · exact absurd rfl h
  · rename_i h1
    split at h
    · exact absurd rfl h
    · rename_i h2
      rw [if_neg h1, if_neg h2]
      exact ⟨by omega, by omega, rfl⟩
theorem token_head {l : List UInt8} (h : classN l ≠ 0) : ∃ d r, l = d :: r ∧ d.toNat ≠ 46 ∧ whiteB d.toNat = false ∧ d.toNat ≠ 35 ∧ allowedB d.toNat = true := by
  obtain ⟨he, hn, _⟩ := class_parts h
  cases l with
  | nil => exact absurd rfl h
  | cons d r =>
    have h0 : at' (d :: r) 0 = d.toNat := rfl
    refine ⟨d, r, rfl, fun h46 => ?_, ?_, fun h35 => ?_, ?_⟩
    · rw [tok_none (l := d :: r) (by rw [h0, h46]; decide) (by rw [h0, h46]; decide) (by rw [h0, h46]; decide) (by rw [h0, h46]; decide) (by rw [h0, h46]; decide) (by rw [h0, h46]; decide)] at he
      cases he
    · cases hw : whiteB d.toNat
      · rfl
      · rw [tok_white (l := d :: r) (by rw [h0]; exact hw)] at he
        cases he
    · rw [tok_hash (l := d :: r) (by rw [h0]; exact h35)] at he
      cases he
    · cases ha : allowedB d.toNat
      · unfold tokT at he
        rw [h0, if_pos ha] at he
        cases he
      · rfl
theorem scanF_acc (s : ByteArray) : ∀ f k acc, (scanF s f k acc).toks = [] ∨ ∃ more, (scanF s f k acc).toks = acc ++ more := by
  intro f
  induction f with
  | zero => intro k acc; exact .inl rfl
  | succ f ih =>
    intro k acc
    unfold scanF
    split
    · exact .inr ⟨[], by simp⟩
    · split
      · rcases ih _ (acc ++ [_]) with h | ⟨m, h⟩
        · exact .inl h
        · exact .inr ⟨_ :: m, by rw [h, List.append_assoc]; rfl⟩
      · exact .inl rfl
theorem first_token {s : ByteArray} {k0 : Int} {l0 x0 : ByteArray} {more : List Tok} (h : (scanR s).toks = ⟨k0, l0, x0⟩ :: more) (hl : bl l0 = []) : (tokT (bl s)).e = 0 ∧ (tokT (bl s)).n = (bl x0).length := by
  unfold scanR at h
  split at h
  · cases h
  · unfold scanG at h
    rw [scanF] at h
    by_cases h1 : skipTo s 0 = s.size
    · rw [if_pos h1] at h
      cases h
    · rw [if_neg h1] at h
      have hle := skipTo_le s 0 (Nat.zero_le _)
      by_cases h2 : (tokT (suf s (skipTo s 0))).e = 0
      · rw [if_pos h2] at h
        rcases scanF_acc s s.size _ ([] ++ [_]) with h3 | ⟨m, h3⟩
        · rw [h3] at h
          cases h
        · rw [h3] at h
          rw [List.nil_append, List.singleton_append] at h
          injection h with h4 _
          injection h4 with h5 h6 h7
          have hs0 : skipTo s 0 = 0 := by
            have := congrArg ByteArray.size h6
            rw [ByteArray.size_extract, Nat.min_eq_left hle, ← bl_length l0, hl] at this
            simpa using this
          rw [hs0] at h2 h7
          have h8 := tok_len h2
          rw [suf_length] at h8
          refine ⟨h2, ?_⟩
          have := congrArg ByteArray.size h7
          rw [ByteArray.size_extract, ← bl_length x0] at this
          show (tokT (suf s 0)).n = _
          omega
      · rw [if_neg h2] at h
        cases h
theorem unfuse {x y : ByteArray} {d : UInt8} {r : List UInt8} (h1 : classN (bl x) ≠ 0) (h2 : classN (bl y) ≠ 0) (hf : fusesB x y = false) (hy : bl y = d :: r) : goes (bl x) d = false := by
  have hs : sameB (scanR (x ++ y)).toks (twoToks x y) = true := by
    have := fuses_open (a := x) (b := y) h1 h2
    rw [hf] at this
    simpa using this.symm
  have hlen : (scanR (x ++ y)).toks.length = 2 := by
    by_cases h : (scanR (x ++ y)).toks.length = 2
    · exact h
    · rw [sameB_length (by simpa [twoToks] using h)] at hs
      cases hs
  match ht : (scanR (x ++ y)).toks, hlen with
  | [⟨k0, l0, x0⟩, ⟨k1, l1, x1⟩], _ =>
    rw [ht] at hs
    obtain ⟨g1, g2, _, _⟩ := same_two hs
    obtain ⟨e1, e2⟩ := first_token ht g1
    rw [bl_append, hy, g2] at e2
    rw [bl_append, hy] at e1
    obtain ⟨c1, c2, _⟩ := class_parts h1
    cases hg : goes (bl x) d
    · rfl
    · exact absurd e2 (tok_goes c1 c2 hg r e1)
theorem sep_goes {a : List UInt8} {d : UInt8} (h : whiteB d.toNat = true ∨ d.toNat = 35) : goes a d = false ∧ d.toNat ≠ 46 := by
  have hv : d.toNat = 9 ∨ d.toNat = 10 ∨ d.toNat = 13 ∨ d.toNat = 32 ∨ d.toNat = 35 := by
    rcases h with h | h
    · unfold whiteB at h
      simp at h
      omega
    · omega
  constructor
  · unfold goes
    rcases hv with e | e | e | e | e <;> rw [e] <;> simp [wordB, letterB, upperB, lowerB, digitB]
  · omega
/-- No two tokens without a lead between them fuse. -/
def NoFuse : List Tok → Prop
  | [] => True
  | t :: r => (∀ u r', r = u :: r' → bl u.lead = [] → fusesB t.text u.text = false) ∧ NoFuse r
theorem good_class {t : Tok} (h : GoodTok t) : classN (bl t.text) ≠ 0 := by
  obtain ⟨h1, h2, _⟩ := h
  intro h3
  rw [h3] at h1
  exact h2 h1.symm
theorem tok_follow {t : Tok} {rest : List Tok} {tail : ByteArray} (ht : GoodTok t) (hr : ∀ u ∈ rest, GoodTok u) (hn : NoFuse (t :: rest)) (htl : triviaB tail true = true) :
    tokT (bl t.text ++ joinL rest (bl tail)) = tokT (bl t.text) := by
  have hc := good_class ht
  obtain ⟨he, hlen, _⟩ := class_parts hc
  have sep : ∀ d r, (whiteB d.toNat = true ∨ d.toNat = 35) → tokT (bl t.text ++ d :: r) = tokT (bl t.text) := fun d r h => by
    obtain ⟨g1, g2⟩ := sep_goes (a := bl t.text) h
    exact tok_stop he hlen g1 g2 r
  cases rest with
  | nil =>
    have e : joinL [] (bl tail) = bl tail := rfl
    rw [e]
    match hb : bl tail with
    | [] => rw [List.append_nil]
    | d :: r => exact sep d r (trivia_head htl hb)
  | cons u r' =>
    have hu := hr u (by simp)
    have e : joinL (u :: r') (bl tail) = bl u.lead ++ (bl u.text ++ joinL r' (bl tail)) := by unfold joinL; rw [List.flatMap_cons]; simp
    rw [e]
    match hb : bl u.lead with
    | [] =>
      obtain ⟨d, r, hd, h46, _⟩ := token_head (good_class hu)
      rw [hd]
      exact tok_stop he hlen (unfuse hc (good_class hu) (hn.1 u r' rfl hb) hd) h46 _
    | d :: r => exact sep d _ (trivia_head hu.2.2 hb)
theorem again_at (s tail : ByteArray) (htl : triviaB tail true = true) : ∀ (ts : List Tok) f k acc, suf s k = joinL ts (bl tail) → k ≤ s.size → s.size < f + k → (∀ u ∈ ts, GoodTok u) → NoFuse ts → scanF s f k acc = ⟨acc ++ ts, tail, 0, 0⟩ := by
  intro ts
  induction ts with
  | nil =>
    intro f k acc hs hk hf _ _
    obtain ⟨f, rfl⟩ : ∃ g, f = g + 1 := ⟨f - 1, by omega⟩
    have e : suf s k = bl tail := hs
    have hst : skipTo s k = s.size := by
      have h1 := (trivia_all htl).1
      have h2 := suf_length s k
      rw [e] at h2
      have : skipTo s k = k + (skipL false (suf s k)).1 := rfl
      rw [this, e, h1]
      omega
    rw [scanF, if_pos hst, List.append_nil]
    congr 1
    exact bl_inj (by rw [← e]; exact suf_to_end s k)
  | cons t rest ih =>
    intro f k acc hs hk hf hg hn
    obtain ⟨f, rfl⟩ : ∃ g, f = g + 1 := ⟨f - 1, by omega⟩
    have ht := hg t (by simp)
    obtain ⟨c1, c2, c3⟩ := class_parts (good_class ht)
    obtain ⟨d, r, hd, _, hw, h35, _⟩ := token_head (good_class ht)
    obtain ⟨t1, t2⟩ := trivia_all ht.2.2
    have e : suf s k = bl t.lead ++ (bl t.text ++ joinL rest (bl tail)) := by rw [hs]; unfold joinL; rw [List.flatMap_cons]; simp
    have hskip : skipL false (suf s k) = ((bl t.lead).length, false) := by
      rw [e, skipL_app _ _ _ t1, t2 rfl, hd, List.cons_append]
      simp [skipL, hw, h35]
    have hst : skipTo s k = k + (bl t.lead).length := by
      have : skipTo s k = k + (skipL false (suf s k)).1 := rfl
      rw [this, hskip]
    have hlen := congrArg List.length e
    rw [suf_length, List.length_append, List.length_append] at hlen
    have hpos := (tok_len c1).1
    have hsuf : suf s (skipTo s k) = bl t.text ++ joinL rest (bl tail) := by
      rw [hst, ← suf_drop, e, List.drop_left]
    have htok : tokT (suf s (skipTo s k)) = tokT (bl t.text) := by
      rw [hsuf]
      exact tok_follow ht (fun u hu => hg u (by simp [hu])) hn htl
    rw [scanF, if_neg (by omega), if_pos (by rw [htok]; exact c1), htok, c2, c3]
    have hx : (⟨(classN (bl t.text) : Nat), s.extract k (skipTo s k), s.extract (skipTo s k) (skipTo s k + (bl t.text).length)⟩ : Tok) = t := by
      obtain ⟨kind, lead, text⟩ := t
      congr 1
      · exact ht.1
      · refine bl_inj ?_
        show suf (s.extract _ _) 0 = _
        rw [suf_extract, hst, e, show k + (bl lead).length - k = (bl lead).length from by omega, List.take_left]
      · refine bl_inj ?_
        show suf (s.extract _ _) 0 = _
        rw [suf_extract, hsuf, show ∀ a b : Nat, a + b - a = b from fun a b => by omega, List.take_left]
    rw [hx, ih f _ _ ?_ (by omega) (by omega) (fun u hu => hg u (by simp [hu])) hn.2, List.append_assoc]
    · rfl
    · rw [← suf_drop, hsuf, List.drop_left]
theorem again {s tail : ByteArray} {ts : List Tok} (hs : bl s = joinL ts (bl tail)) (hsz : s.size ≤ 4096) (hg : ∀ u ∈ ts, GoodTok u) (hn : NoFuse ts) (htl : triviaB tail true = true) : scanR s = ⟨ts, tail, 0, 0⟩ := by
  unfold scanR scanG
  rw [if_neg (by omega), again_at s tail htl ts (s.size + 1) 0 [] hs (Nat.zero_le _) (by omega) hg hn, List.nil_append]
end Go.Proofs.Ytopnimajlgpdeaa
