/- A source that is parsed is the text of its tree; plain. -/
import Derived.Test.YtipkmffhebachaaLexPlain
import Derived.Test.YtipkmffhebachaaLexFuses
import Derived.Test.YtipkmffhebachaaSynRead
namespace Go.Proofs.Ytipkmffhebachaa
open Go.RowKit
theorem tok_none {l : List UInt8} (ha : allowedB (at' l 0) = true) (hl : letterB (at' l 0) = false) (hd : digitB (at' l 0) = false) (h34 : at' l 0 ≠ 34) (h61 : at' l 0 ≠ 61) (ho : oneSign (at' l 0) = false) : tokT l = ⟨0, 0, 2⟩ := by
  have hs : signLen l = 0 := by unfold signLen; rw [if_neg h61, if_neg (by simp [ho])]
  unfold tokT
  rw [if_neg (by simp [ha]), if_neg (by simp [hl]), if_neg (by simp [hd]), if_neg h34]
  unfold signT
  rw [if_pos hs]
theorem tok_white {l : List UInt8} (h : whiteB (at' l 0) = true) : tokT l = ⟨0, 0, 2⟩ := by
  have : at' l 0 = 9 ∨ at' l 0 = 10 ∨ at' l 0 = 13 ∨ at' l 0 = 32 := by
    unfold whiteB at h
    simp at h
    omega
  rcases this with h | h | h | h <;> exact tok_none (by rw [h]; decide) (by rw [h]; decide) (by rw [h]; decide) (by rw [h]; decide) (by rw [h]; decide) (by rw [h]; decide)
theorem tok_hash {l : List UInt8} (h : at' l 0 = 35) : tokT l = ⟨0, 0, 2⟩ :=
  tok_none (by rw [h]; decide) (by rw [h]; decide) (by rw [h]; decide) (by rw [h]; decide) (by rw [h]; decide) (by rw [h]; decide)
theorem skipL_app (l : List UInt8) : ∀ o r, (skipL o l).1 = l.length → skipL o (l ++ r) = (l.length + (skipL (skipL o l).2 r).1, (skipL (skipL o l).2 r).2) := by
  induction l with
  | nil => intro o r _; simp [skipL]
  | cons c l ih =>
    intro o r h
    rw [List.cons_append]
    by_cases ha : allowedB c.toNat = true
    · cases o
      · by_cases hc : c.toNat = 35
        · have e : ∀ x, skipL false (c :: x) = ((skipL true x).1 + 1, (skipL true x).2) := fun x => by rw [skipL, if_pos ha, if_neg (by decide), if_pos hc]
          rw [e] at h ⊢
          rw [e, ih true r (by simpa using h)]
          simp only [List.length_cons, Prod.mk.injEq, and_true]
          omega
        · by_cases hw : whiteB c.toNat = true
          · have e : ∀ x, skipL false (c :: x) = ((skipL false x).1 + 1, (skipL false x).2) := fun x => by rw [skipL, if_pos ha, if_neg (by decide), if_neg hc, if_pos hw]
            rw [e] at h ⊢
            rw [e, ih false r (by simpa using h)]
            simp only [List.length_cons, Prod.mk.injEq, and_true]
            omega
          · have e : ∀ x, skipL false (c :: x) = (0, false) := fun x => by rw [skipL, if_pos ha, if_neg (by decide), if_neg hc, if_neg hw]
            rw [e] at h
            simp at h
      · have e : ∀ x, skipL true (c :: x) = ((skipL (c.toNat != 10) x).1 + 1, (skipL (c.toNat != 10) x).2) := fun x => by rw [skipL, if_pos ha, if_pos rfl]
        rw [e] at h ⊢
        rw [e, ih _ r (by simpa using h)]
        simp only [List.length_cons, Prod.mk.injEq, and_true]
        omega
    · have e : ∀ x, skipL o (c :: x) = (0, o) := fun x => by rw [skipL, if_neg ha]
      rw [e] at h
      simp at h
theorem trivia_all {s : ByteArray} {b : Bool} (h : triviaB s b = true) : (skipL false (bl s)).1 = (bl s).length ∧ (b = false → (skipL false (bl s)).2 = false) := by
  unfold triviaB at h
  simp only [Bool.and_eq_true, beq_iff_eq, Bool.or_eq_true, Bool.not_eq_true'] at h
  obtain ⟨h1, h2⟩ := h
  have e : skipTo s 0 = 0 + (skipL false (bl s)).1 := rfl
  refine ⟨by rw [bl_length]; omega, fun hb => ?_⟩
  rcases h2 with h2 | h2
  · rw [hb] at h2
    cases h2
  · exact h2
theorem trivia_head {s : ByteArray} {b : Bool} {d : UInt8} {r : List UInt8} (h : triviaB s b = true) (hs : bl s = d :: r) : whiteB d.toNat = true ∨ d.toNat = 35 := by
  have h1 := (trivia_all h).1
  rw [hs] at h1
  by_cases hw : whiteB d.toNat = true
  · exact .inl hw
  · by_cases hc : d.toNat = 35
    · exact .inr hc
    · exfalso
      simp only [skipL, hc, hw, if_false, Bool.false_eq_true] at h1
      split at h1 <;> simp at h1
theorem class_parts {l : List UInt8} (h : classN l ≠ 0) : (tokT l).e = 0 ∧ (tokT l).n = l.length ∧ (tokT l).kind = classN l := by
  unfold classN at h ⊢
  split at h
  · exact absurd rfl h
  · rename_i h1
    split at h
    · exact absurd rfl h
    · rename_i h2
      rw [if_neg h1, if_neg h2]
      exact ⟨by omega, by omega, rfl⟩
theorem token_head {l : List UInt8} (h : classN l ≠ 0) : ∃ d r, l = d :: r ∧ d.toNat ≠ 46 ∧ whiteB d.toNat = false ∧ d.toNat ≠ 35 ∧ allowedB d.toNat = true := by
  obtain ⟨he, hn, _⟩ := class_parts h
  cases l with
  | nil => exact absurd rfl h
  | cons d r =>
    have h0 : at' (d :: r) 0 = d.toNat := rfl
    refine ⟨d, r, rfl, fun h46 => ?_, ?_, fun h35 => ?_, ?_⟩
    · rw [tok_none (l := d :: r) (by rw [h0, h46]; decide) (by rw [h0, h46]; decide) (by rw [h0, h46]; decide) (by rw [h0, h46]; decide) (by rw [h0, h46]; decide) (by rw [h0, h46]; decide)] at he
      cases he
    · cases hw : whiteB d.toNat
      · rfl
      · rw [tok_white (l := d :: r) (by rw [h0]; exact hw)] at he
        cases he
    · rw [tok_hash (l := d :: r) (by rw [h0]; exact h35)] at he
      cases he
    · cases ha : allowedB d.toNat
      · unfold tokT at he
        rw [h0, if_pos ha] at he
        cases he
      · rfl
theorem sep_goes {a : List UInt8} {d : UInt8} (h : whiteB d.toNat = true ∨ d.toNat = 35) : goes a d = false ∧ d.toNat ≠ 46 := by
  have hv : d.toNat = 9 ∨ d.toNat = 10 ∨ d.toNat = 13 ∨ d.toNat = 32 ∨ d.toNat = 35 := by
    rcases h with h | h
    · unfold whiteB at h
      simp at h
      omega
    · omega
  constructor
  · unfold goes
    rcases hv with e | e | e | e | e <;> rw [e] <;> simp [wordB, letterB, upperB, lowerB, digitB]
  · omega
theorem good_class {t : Tok} (h : GoodTok t) : classN (bl t.text) ≠ 0 := by
  obtain ⟨h1, h2, _⟩ := h
  intro h3
  rw [h3] at h1
  exact h2 h1.symm
end Go.Proofs.Ytipkmffhebachaa
namespace Go.Proofs.Ytipkmffhebachaa
open Go.RowKit
/-- No token goes on in the next one. -/
def NoGo : List Tok → Prop
  | [] => True
  | t :: r => (∀ u r', r = u :: r' → bl u.lead = [] → ∀ d x, bl u.text = d :: x → goes (bl t.text) d = false) ∧ NoGo r
theorem follow_go {t : Tok} {rest : List Tok} {tail : ByteArray} (ht : GoodTok t) (hr : ∀ u ∈ rest, GoodTok u) (hn : NoGo (t :: rest)) (htl : triviaB tail true = true) :
    tokT (bl t.text ++ joinL rest (bl tail)) = tokT (bl t.text) := by
  have hc := good_class ht
  obtain ⟨he, hlen, _⟩ := class_parts hc
  have sep : ∀ d r, (whiteB d.toNat = true ∨ d.toNat = 35) → tokT (bl t.text ++ d :: r) = tokT (bl t.text) := fun d r h => by
    obtain ⟨g1, g2⟩ := sep_goes (a := bl t.text) h
    exact tok_stop he hlen g1 g2 r
  cases rest with
  | nil =>
    have e : joinL [] (bl tail) = bl tail := rfl
    rw [e]
    match hb : bl tail with
    | [] => rw [List.append_nil]
    | d :: r => exact sep d r (trivia_head htl hb)
  | cons u r' =>
    have hu := hr u (by simp)
    have e : joinL (u :: r') (bl tail) = bl u.lead ++ (bl u.text ++ joinL r' (bl tail)) := by unfold joinL; rw [List.flatMap_cons]; simp
    rw [e]
    match hb : bl u.lead with
    | [] =>
      obtain ⟨d, r, hd, h46, _⟩ := token_head (good_class hu)
      have hg := hn.1 u r' rfl hb d r hd
      rw [hd]
      exact tok_stop he hlen hg h46 _
    | d :: r => exact sep d _ (trivia_head hu.2.2 hb)
theorem again_go_at (s tail : ByteArray) (htl : triviaB tail true = true) : ∀ (ts : List Tok) f k acc, suf s k = joinL ts (bl tail) → k ≤ s.size → s.size < f + k → (∀ u ∈ ts, GoodTok u) → NoGo ts → scanF s f k acc = ⟨acc ++ ts, tail, 0, 0⟩ := by
  intro ts
  induction ts with
  | nil =>
    intro f k acc hs hk hf _ _
    obtain ⟨f, rfl⟩ : ∃ g, f = g + 1 := ⟨f - 1, by omega⟩
    have e : suf s k = bl tail := hs
    have hst : skipTo s k = s.size := by
      have h1 := (trivia_all htl).1
      have h2 := suf_length s k
      rw [e] at h2
      have : skipTo s k = k + (skipL false (suf s k)).1 := rfl
      rw [this, e, h1]
      omega
    rw [scanF, if_pos hst, List.append_nil]
    congr 1
    exact bl_inj (by rw [← e]; exact suf_to_end s k)
  | cons t rest ih =>
    intro f k acc hs hk hf hg hn
    obtain ⟨f, rfl⟩ : ∃ g, f = g + 1 := ⟨f - 1, by omega⟩
    have ht := hg t (by simp)
    obtain ⟨c1, c2, c3⟩ := class_parts (good_class ht)
    obtain ⟨d, r, hd, _, hw, h35, _⟩ := token_head (good_class ht)
    obtain ⟨t1, t2⟩ := trivia_all ht.2.2
    have e : suf s k = bl t.lead ++ (bl t.text ++ joinL rest (bl tail)) := by rw [hs]; unfold joinL; rw [List.flatMap_cons]; simp
    have hskip : skipL false (suf s k) = ((bl t.lead).length, false) := by
      rw [e, skipL_app _ _ _ t1, t2 rfl, hd, List.cons_append]
      simp [skipL, hw, h35]
    have hst : skipTo s k = k + (bl t.lead).length := by
      have : skipTo s k = k + (skipL false (suf s k)).1 := rfl
      rw [this, hskip]
    have hlen := congrArg List.length e
    rw [suf_length, List.length_append, List.length_append] at hlen
    have hpos := (tok_len c1).1
    have hsuf : suf s (skipTo s k) = bl t.text ++ joinL rest (bl tail) := by
      rw [hst, ← suf_drop, e, List.drop_left]
    have htok : tokT (suf s (skipTo s k)) = tokT (bl t.text) := by
      rw [hsuf]
      exact follow_go ht (fun u hu => hg u (by simp [hu])) hn htl
    rw [scanF, if_neg (by omega), if_pos (by rw [htok]; exact c1), htok, c2, c3]
    have hx : (⟨(classN (bl t.text) : Nat), s.extract k (skipTo s k), s.extract (skipTo s k) (skipTo s k + (bl t.text).length)⟩ : Tok) = t := by
      obtain ⟨kind, lead, text⟩ := t
      congr 1
      · exact ht.1
      · refine bl_inj ?_
        show suf (s.extract _ _) 0 = _
        rw [suf_extract, hst, e, show k + (bl lead).length - k = (bl lead).length from by omega, List.take_left]
      · refine bl_inj ?_
        show suf (s.extract _ _) 0 = _
        rw [suf_extract, hsuf, show ∀ a b : Nat, a + b - a = b from fun a b => by omega, List.take_left]
    rw [hx, ih f _ _ ?_ (by omega) (by omega) (fun u hu => hg u (by simp [hu])) hn.2, List.append_assoc]
    · rfl
    · rw [← suf_drop, hsuf, List.drop_left]
theorem again_go {s tail : ByteArray} {ts : List Tok} (hs : bl s = joinL ts (bl tail)) (hsz : s.size ≤ 4096) (hg : ∀ u ∈ ts, GoodTok u) (hn : NoGo ts) (htl : triviaB tail true = true) : scanR s = ⟨ts, tail, 0, 0⟩ := by
  unfold scanR scanG
  rw [if_neg (by omega), again_go_at s tail htl ts (s.size + 1) 0 [] hs (Nat.zero_le _) (by omega) hg hn, List.nil_append]
theorem trivia_empty : triviaB ⟨#[]⟩ true = true ∧ triviaB ⟨#[]⟩ false = true := by decide
/-- Two tokens of which the first does not go on in the second. -/
theorem apart {x y : ByteArray} {d : UInt8} {r : List UInt8} (h1 : classN (bl x) ≠ 0) (h2 : classN (bl y) ≠ 0) (hy : bl y = d :: r) (hg : goes (bl x) d = false) (hsz : x.size + y.size ≤ 4096) : fusesB x y = false := by
  have hs : scanR (x ++ y) = ⟨twoToks x y, ⟨#[]⟩, 0, 0⟩ := by
    refine again_go ?_ (by rw [ByteArray.size_append]; exact hsz) ?_ ?_ trivia_empty.1
    · rw [bl_append]
      show _ = [] ++ bl x ++ ([] ++ bl y ++ []) ++ []
      simp
    · intro u hu
      rcases List.mem_cons.1 hu with rfl | hu
      · exact ⟨rfl, by show ((classN (bl x) : Nat) : Int) ≠ 0; omega, trivia_empty.2⟩
      · rcases List.mem_cons.1 hu with rfl | hu
        · exact ⟨rfl, by show ((classN (bl y) : Nat) : Int) ≠ 0; omega, trivia_empty.2⟩
        · simp at hu
    · refine ⟨fun u r' he _ d' x' hd => ?_, ⟨fun u r' he => by simp at he, trivial⟩⟩
      injection he with e1 e2
      subst e1
      rw [show bl (⟨classN (suf y 0), ByteArray.empty, y⟩ : Tok).text = bl y from rfl, hy] at hd
      injection hd with e3 _
      subst e3
      exact hg
  unfold fusesB
  rw [hs, sameB_self]
  simp
/-- Scanned tokens do not go on in the next ones. -/
theorem scanF_go (s : ByteArray) : ∀ f k acc, k ≤ s.size → s.size < f + k → (scanF s f k acc).e = 0 → ∃ ts, (scanF s f k acc).toks = acc ++ ts ∧ NoGo ts ∧ suf s k = joinL ts (bl (scanF s f k acc).tail) := by
  intro f
  induction f with
  | zero => intro k acc hk hf; omega
  | succ f ih =>
    intro k acc hk hf h
    have h2 := skipTo_ge s k
    have h3 := skipTo_le s k hk
    unfold scanF at h ⊢
    by_cases hs : skipTo s k = s.size
    · rw [if_pos hs]
      exact ⟨[], by simp, trivial, (suf_to_end s k).symm⟩
    · rw [if_neg hs] at h ⊢
      by_cases he : (tokT (suf s (skipTo s k))).e = 0
      · rw [if_pos he] at h ⊢
        have h1 := tok_len he
        rw [suf_length] at h1
        obtain ⟨ts, e1, e2, e3⟩ := ih _ _ (by omega) (by omega) h
        have hg := good_tok hk hs he
        have ht : bl (s.extract (skipTo s k) (skipTo s k + (tokT (suf s (skipTo s k))).n)) = (suf s (skipTo s k)).take (tokT (suf s (skipTo s k))).n := by
          show suf (s.extract _ _) 0 = _
          rw [suf_extract, Nat.add_sub_cancel_left]
        have hsp : suf s (skipTo s k) = (suf s (skipTo s k)).take (tokT (suf s (skipTo s k))).n ++ suf s (skipTo s k + (tokT (suf s (skipTo s k))).n) := by
          rw [← suf_drop, List.take_append_drop]
        refine ⟨_ :: ts, by rw [e1, List.append_assoc]; rfl, ⟨?_, e2⟩, ?_⟩
        · intro u r' hu hl d x hd
          show goes (bl (s.extract _ _)) d = false
          rw [ht]
          rw [hu] at e3
          have e4 : suf s (skipTo s k + (tokT (suf s (skipTo s k))).n) = d :: (x ++ joinL r' (bl (scanF s f (skipTo s k + (tokT (suf s (skipTo s k))).n) (acc ++ [⟨(tokT (suf s (skipTo s k))).kind, s.extract k (skipTo s k), s.extract (skipTo s k) (skipTo s k + (tokT (suf s (skipTo s k))).n)⟩])).tail)) := by
            rw [e3]
            unfold joinL
            rw [List.flatMap_cons, hl, hd]
            simp
          rw [e4] at hsp
          cases hgo : goes ((suf s (skipTo s k)).take (tokT (suf s (skipTo s k))).n) d
          · rfl
          · exfalso
            obtain ⟨c1, c2, _⟩ := class_parts (good_class hg)
            have c1 : (tokT (bl (s.extract (skipTo s k) (skipTo s k + (tokT (suf s (skipTo s k))).n)))).e = 0 := c1
            have c2 : (tokT (bl (s.extract (skipTo s k) (skipTo s k + (tokT (suf s (skipTo s k))).n)))).n = (bl (s.extract (skipTo s k) (skipTo s k + (tokT (suf s (skipTo s k))).n))).length := c2
            rw [ht] at c1 c2
            refine tok_goes c1 c2 hgo _ (by rw [← hsp]; exact he) ?_
            rw [← hsp, List.length_take, suf_length]
            omega
        · unfold joinL at e3 ⊢
          rw [List.flatMap_cons]
          have hlead : suf s k = bl (s.extract k (skipTo s k)) ++ suf s (skipTo s k) := by
            show _ = suf (s.extract _ _) 0 ++ _
            rw [suf_extract]
            conv => lhs; rw [← List.take_append_drop (skipTo s k - k) (suf s k)]
            rw [suf_drop, show k + (skipTo s k - k) = skipTo s k from by omega]
          have hmid : suf s (skipTo s k) = bl (s.extract (skipTo s k) (skipTo s k + (tokT (suf s (skipTo s k))).n)) ++ suf s (skipTo s k + (tokT (suf s (skipTo s k))).n) := by
            rw [ht]
            exact hsp
          refine hlead.trans ?_
          refine (congrArg (bl (s.extract k (skipTo s k)) ++ ·) (hmid.trans (congrArg (bl (s.extract (skipTo s k) (skipTo s k + (tokT (suf s (skipTo s k))).n)) ++ ·) e3))).trans ?_
          simp only [List.append_assoc]
      · rw [if_neg he] at h
        exact absurd h he
theorem scan_go {s : ByteArray} (h : (scanR s).e = 0) : NoGo (scanR s).toks := by
  unfold scanR at h ⊢
  split at h
  · cases h
  · rename_i hs
    rw [if_neg hs]
    obtain ⟨ts, e1, e2, _⟩ := scanF_go s (s.size + 1) 0 [] (Nat.zero_le _) (by omega) h
    unfold scanG
    rw [e1]
    exact e2
/-- The writer writes scanned tokens as they are. -/
theorem fold_toks : ∀ (u : List Tok) (acc : List UInt8) (last : ByteArray), (∀ t ∈ u, GoodTok t) → (u.map fun t => t.lead.size + t.text.size).sum ≤ 4096 →
    (∀ t r, u = t :: r → bl t.lead = [] → fusesB last t.text = false) → NoGo u → foldW (acc, last) (pcs u) = (acc ++ joinL u [], ((u.getLast?).map Tok.text).getD last) := by
  intro u
  induction u with
  | nil => intro acc last _ _ _ _; simp [pcs, foldW, joinL]
  | cons t r ih =>
    intro acc last hg hz hf hn
    have hsep : sepW last t.lead t.text = t.lead := by
      unfold sepW
      by_cases h0 : t.lead.size = 0
      · have hl : bl t.lead = [] := List.eq_nil_of_length_eq_zero (by rw [bl_length]; exact h0)
        rw [hf t r rfl hl, if_neg (fun h => by cases h.2)]
      · rw [if_neg (fun h => h0 h.1)]
    have hw : tokW (acc, last) t.lead t.text = (acc ++ bl t.lead ++ bl t.text, t.text) := by
      unfold tokW
      rw [hsep]
      simp [bl, suf]
    show foldW (tokW (acc, last) t.lead t.text) (pcs r) = _
    rw [hw, ih _ _ (fun x hx => hg x (List.mem_cons_of_mem _ hx)) (by rw [List.map_cons, List.sum_cons] at hz; omega) (fun v r' hv hl => ?_) hn.2]
    · have hj : joinL (t :: r) [] = bl t.lead ++ bl t.text ++ joinL r [] := by unfold joinL; rw [List.flatMap_cons]; simp
      rw [hj]
      congr 1
      · simp only [List.append_assoc]
      · cases r with
        | nil => rfl
        | cons a b => rw [List.getLast?_cons_cons]; cases h : (a :: b).getLast? with
          | none => simp at h
          | some z => rfl
    · subst hv
      obtain ⟨d, x, hd, _⟩ := token_head (good_class (hg v (by simp)))
      exact apart (good_class (hg t (by simp))) (good_class (hg v (by simp))) hd (hn.1 v r' rfl hl d x hd) (by rw [List.map_cons, List.sum_cons, List.map_cons, List.sum_cons] at hz; omega)
theorem fuses_none (a : ByteArray) : fusesB a ⟨#[]⟩ = false ∧ fusesB ⟨#[]⟩ a = false := by
  have h : classN (suf ⟨#[]⟩ 0) = 0 := by decide
  constructor
  · unfold fusesB
    rw [h]
    simp
  · unfold fusesB
    rw [h]
    simp
theorem mem_sum_le {l : List Nat} {x : Nat} (h : x ∈ l) : x ≤ l.sum := by
  induction l with
  | nil => simp at h
  | cons a r ih =>
    rw [List.sum_cons]
    rcases List.mem_cons.1 h with rfl | h
    · omega
    · have := ih h; omega
theorem size_of_bl {x : ByteArray} : (bl x).length = x.size := bl_length x
theorem init_end {s : ByteArray} (h : (scanR s).e = 0) : EndP (initP s) := by
  obtain ⟨g1, g2, g3⟩ := (scanR_good s).1 h
  have hsz := scan_short h
  obtain ⟨_, hsum⟩ := scan_sizes h
  refine ⟨⟨(scanR s).toks, ⟨0, (scanR s).tail, ⟨#[]⟩⟩, rfl, fun t ht => ⟨g1 t ht, ?_⟩, rfl, rfl, g3, ?_⟩⟩
  · have : t.lead.size + t.text.size ≤ ((scanR s).toks.map fun t => t.lead.size + t.text.size).sum := by
      have := List.mem_map_of_mem (f := fun t : Tok => t.lead.size + t.text.size) ht
      exact mem_sum_le this
    unfold maxLen
    omega
  · show (scanR s).tail.size < maxLen
    unfold maxLen
    omega
/-- There is enough fuel for every source. -/
theorem parse_total (s : ByteArray) : ∃ r, parseM 8200 s = some r := by
  unfold parseM
  by_cases h : (scanR s).e ≠ 0
  · rw [if_pos h]
    exact ⟨_, rfl⟩
  · rw [if_neg h]
    have h : (scanR s).e = 0 := by omega
    have hE := init_end h
    have hl : lenP (initP s) ≤ 4097 := by
      have := (scan_sizes h).1
      show ((scanR s).toks ++ [_]).length ≤ _
      rw [List.length_append, List.length_singleton]
      omega
    obtain ⟨⟨t, q⟩, h1, _⟩ := tot_node (tot_tree 8200 (by decide)) (n := 8200) (kind := 1) (partsP 1) ⟨#[]⟩ [] [] [] (initP s) hE (by omega) (by omega)
    have h1 : nodeG (treeM 8200) 8200 1 (partsP 1) ⟨#[]⟩ [] [] [] ⟨(scanR s).toks ++ [⟨0, (scanR s).tail, ⟨#[]⟩⟩], 0, 0, 0⟩ = some (t, q) := h1
    rw [h1]
    exact ⟨_, rfl⟩
/-- What a parsed source's tree is like. -/
theorem parse_read {n : Nat} {s : ByteArray} {t : Tr} {pl : Nat} (h : parseM n s = some (t, pl, 0)) : (scanR s).e = 0 ∧ t.kind = 1 ∧ goodT t ∧ withinT t 40 = true ∧ pieces t = pcs (scanR s).toks ++ [((scanR s).tail, ⟨#[]⟩)] := by
  unfold parseM at h
  by_cases hs : (scanR s).e ≠ 0
  · rw [if_pos hs] at h
    injection h with h
    injection h with _ h
    injection h with _ h
    exact absurd h hs
  · rw [if_neg hs] at h
    have hs : (scanR s).e = 0 := by omega
    refine ⟨hs, ?_⟩
    cases hN : nodeG (treeM n) n 1 (partsP 1) ⟨#[]⟩ [] [] [] (initP s) with
    | none =>
      have hN : nodeG (treeM n) n 1 (partsP 1) ⟨#[]⟩ [] [] [] ⟨(scanR s).toks ++ [⟨0, (scanR s).tail, ⟨#[]⟩⟩], 0, 0, 0⟩ = none := hN
      rw [hN] at h
      cases h
    | some tp =>
      obtain ⟨t', p⟩ := tp
      have hN' : nodeG (treeM n) n 1 (partsP 1) ⟨#[]⟩ [] [] [] ⟨(scanR s).toks ++ [⟨0, (scanR s).tail, ⟨#[]⟩⟩], 0, 0, 0⟩ = some (t', p) := hN
      rw [hN'] at h
      injection h with h
      by_cases hp : p.e ≠ 0
      · rw [if_pos hp] at h
        injection h with _ h
        injection h with _ h
        exact absurd h hp
      · rw [if_neg hp] at h
        by_cases hw : withinT t' 40 = true
        · rw [if_pos hw] at h
          injection h with h _
          subst h
          obtain ⟨okp, hend, _⟩ := okParts_of (k := 1) (by decide) (by decide)
          obtain ⟨_, hB⟩ := read_node (read_tree n) _ _ _ _ _ _ _ hN (init_end hs) okp (fun _ => rfl)
          obtain ⟨_, _, tx, lds, ks, cs, u, J⟩ := hB (by show p.e = 0; omega)
          obtain ⟨g1, g2, g3⟩ := read_good (by decide) (by decide) J
          have hrest := J.rest
          rw [hend, if_pos (by rfl), List.append_nil] at hrest
          refine ⟨g1, g2, hw, ?_⟩
          rw [g3, ← hrest]
          show pcs ((scanR s).toks ++ [⟨0, (scanR s).tail, ⟨#[]⟩⟩]) = _
          rw [pcs_append]
          rfl
        · rw [if_neg hw] at h
          injection h with _ h
          injection h with _ h
          cases h
theorem parse_small {n : Nat} (hn : n ≤ 65536) {s : ByteArray} {t : Tr} {pl : Nat} (h : parseM n s = some (t, pl, 0)) : smallT t = true := by
  unfold parseM at h
  split at h
  · injection h with h
    injection h with h _
    subst h
    rfl
  · split at h
    · cases h
    · rename_i t' p hN
      have h1 := small_parts (small_tree n hn) hn hN
      injection h with h
      split at h
      · injection h with h _
        subst h
        rfl
      · split at h
        · injection h with h _
          subst h
          exact h1
        · injection h with h _
          subst h
          rfl
theorem sizeP_pcs (u : List Tok) : sizeP (pcs u) = (u.map fun t => t.lead.size + t.text.size).sum + u.length := by
  induction u with
  | nil => rfl
  | cons a r ih =>
    show a.lead.size + a.text.size + 1 + sizeP (pcs r) = _
    rw [ih, List.map_cons, List.sum_cons, List.length_cons]
    omega
/-- A source that is parsed is the text of its tree, and the tree is valid. -/
theorem parse_round {n : Nat} {s : ByteArray} {t : Tr} {pl : Nat} (h : parseM n s = some (t, pl, 0)) : printT t = s ∧ validT t = true ∧ shapedT t = true ∧ wordsT t = true ∧ sizeP (pieces t) < 140737488355328 := by
  obtain ⟨hs, hk, ⟨g1, g2, g3, g4⟩, hw, hp⟩ := parse_read h
  obtain ⟨q1, q2, q3⟩ := (scanR_good s).1 hs
  have hsz := scan_short hs
  obtain ⟨hcnt, hsum⟩ := scan_sizes hs
  have htext : textL t = bl s := by
    unfold textL
    rw [hp, foldW_append, fold_toks _ _ _ q1 (by omega) (fun t r _ _ => (fuses_none _).2) (scan_go hs), foldW_one]
    unfold tokW sepW
    rw [(fuses_none _).1, if_neg (fun h => by cases h.2), ← q2]
    simp [joinL, bl, suf]
  have hpr : printT t = s := by
    unfold printT
    rw [g1, g2, htext]
    exact bl_inj (by simp [bl, suf])
  refine ⟨hpr, ?_, g1, g4, ?_⟩
  · unfold validT
    rw [g1, g2, g3, hw, htext, bl_length, decide_eq_true hsz]
    rfl
  · rw [hp, sizeP_append, sizeP_pcs]
    show _ + ((scanR s).tail.size + 0 + 1 + 0) < _
    omega
end Go.Proofs.Ytipkmffhebachaa
