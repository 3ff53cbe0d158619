/- What the parser reads, in the words of the tree's tokens; plain. -/
import Derived.Test.YtipkmffhebachaaSynTexts
import Derived.Test.YtipkmffhebachaaSynParse
namespace Go.Proofs.Ytipkmffhebachaa
open Go.RowKit
def pcs (u : List Tok) : List Piece := u.map fun t => (t.lead, t.text)
theorem pcs_append (a c : List Tok) : pcs (a ++ c) = pcs a ++ pcs c := List.map_append
theorem is_iff {x : ByteArray} {l : List UInt8} (h : is x l = true) : x.data.toList = l := by
  unfold is at h
  simpa using h
theorem ba_inj {a b : ByteArray} (h : a.data.toList = b.data.toList) : a = b := by
  cases a; cases b
  congr 1
  exact Array.toList_inj.1 h
/-- A token as the scanner gives it, of a size that a machine can hold. -/
def OkTok (t : Tok) : Prop := GoodTok t ∧ t.lead.size < maxLen ∧ t.text.size < maxLen
def OkLead (y : ByteArray) : Prop := triviaB y false = true ∧ y.size < maxLen
structure EndP (p : PS) : Prop where
  ex : ∃ l e, p.rest = l ++ [e] ∧ (∀ t ∈ l, OkTok t) ∧ e.kind = 0 ∧ e.text = ⟨#[]⟩ ∧ triviaB e.lead true = true ∧ e.lead.size < maxLen
theorem good_text {t : Tok} (h : GoodTok t) : t.text ≠ ⟨#[]⟩ := by
  intro e
  have h1 := h.1
  rw [e, show classN (bl ⟨#[]⟩) = 0 from by decide] at h1
  exact h.2.1 h1.symm
theorem EndP.cases {p : PS} (h : EndP p) : (OkTok (nextP p) ∧ p.rest = [nextP p] ++ (takeP p).rest ∧ EndP (takeP p) ∧ (takeP p).e = p.e) ∨
    ((nextP p).kind = 0 ∧ (nextP p).text = ⟨#[]⟩ ∧ triviaB (nextP p).lead true = true ∧ (nextP p).lead.size < maxLen ∧ takeP p = p ∧ p.rest = [nextP p]) := by
  obtain ⟨l, e, hr, hg, hk, ht, hl, hz⟩ := h.ex
  cases l with
  | nil =>
    have hn : nextP p = e := by unfold nextP; rw [hr]; rfl
    refine .inr ⟨by rw [hn]; exact hk, by rw [hn]; exact ht, by rw [hn]; exact hl, by rw [hn]; exact hz, ?_, by rw [hr, hn]; rfl⟩
    unfold takeP
    rw [if_neg (by rw [hr]; simp)]
  | cons a l =>
    have hn : nextP p = a := by unfold nextP; rw [hr]; rfl
    have hlen : 1 < p.rest.length := by rw [hr]; simp
    have ht' : (takeP p).rest = l ++ [e] := by
      unfold takeP
      rw [if_pos hlen]
      show p.rest.drop 1 = _
      rw [hr]
      rfl
    refine .inl ⟨by rw [hn]; exact hg a (by simp), by rw [ht', hr, hn]; rfl, ⟨⟨l, e, ht', fun t h => hg t (List.mem_cons_of_mem _ h), hk, ht, hl, hz⟩⟩, ?_⟩
    unfold takeP
    rw [if_pos hlen]
theorem EndP.take {p : PS} (h : EndP p) : EndP (takeP p) := by
  rcases h.cases with ⟨_, _, h1, _⟩ | ⟨_, _, _, _, h1, _⟩
  · exact h1
  · rw [h1]; exact h
theorem EndP.fail {p : PS} (h : EndP p) (n : Nat) : EndP (failP p n) := by
  obtain ⟨l, e, hr, hg, hk, ht, hl, hz⟩ := h.ex
  refine ⟨⟨[], e, ?_, by simp, hk, ht, hl, hz⟩⟩
  show p.rest.drop (p.rest.length - 1) = _
  rw [hr, List.length_append]
  simp
theorem fail_e (p : PS) {n : Nat} (hn : n ≠ 0) : (failP p n).e ≠ 0 := by
  show (if p.e = 0 then n else p.e) ≠ 0
  split <;> assumption
theorem EndP.read {p : PS} (h : EndP p) (hx : (nextP p).text ≠ ⟨#[]⟩) : OkTok (nextP p) ∧ p.rest = [nextP p] ++ (takeP p).rest ∧ (takeP p).e = p.e := by
  rcases h.cases with ⟨h1, h2, _, h3⟩ | ⟨_, h1, _⟩
  · exact ⟨h1, h2, h3⟩
  · exact absurd h1 hx
theorem nameB_end (n : Nat) : nameB n 0 ⟨#[]⟩ = false := by
  unfold nameB
  repeat' split
  all_goals rfl
/-- A part that is a token, and not the end. -/
def solidB (x : Part) : Bool := x.nm != 0 || !is x.word []
theorem fits_text {x : Part} {p : PS} (h : EndP p) (hs : solidB x = true) (hf : fitsB x (nextP p) = true) : (nextP p).text ≠ ⟨#[]⟩ := by
  intro e
  rcases h.cases with ⟨h1, _⟩ | ⟨hk, ht, _⟩
  · exact good_text h1.1 e
  · unfold fitsB at hf
    unfold solidB at hs
    split at hf
    · rename_i h0
      rw [ht] at hf
      have := is_iff hf
      rw [h0] at hs
      simp only [bne_self_eq_false, Bool.false_or, Bool.not_eq_true'] at hs
      have h2 : is x.word [] = true := by
        unfold is
        rw [← this]
        rfl
      rw [h2] at hs
      cases hs
    · rw [hk, ht, nameB_end] at hf
      cases hf
def goodT (t : Tr) : Prop := shapedT t = true ∧ ledT t = true ∧ limT t = true ∧ wordsT t = true
/-- What the reader of trees gives. -/
def ReadC (T : Int → PS → Option (Tr × PS)) : Prop := ∀ s p t q, EndP p → T s p = some (t, q) → EndP q ∧ (q.e = 0 → p.e = 0 ∧ beginsP s p ≠ 0 ∧ (∃ u, p.rest = u ++ q.rest ∧ pieces t = pcs u) ∧ hasB s t.kind = true ∧ goodT t ∧ (s = 5 → opB (nextP q).text = false))
theorem piecesAt_snoc (co : Bool) (cs : List ByteArray) : ∀ (l : List (List Piece)) (i : Nat) (x : List Piece), piecesAt co cs i (l ++ [x]) = piecesAt co cs i l ++ ((if 0 < i + l.length ∧ co = true then [((cs[i + l.length - 1]?).getD ⟨#[]⟩, ⟨#[44]⟩)] else []) ++ x)
  | [], i, x => by simp [piecesAt]
  | p :: r, i, x => by
    rw [List.cons_append, piecesAt, piecesAt, piecesAt_snoc co cs r (i + 1) x, List.length_cons, show i + 1 + r.length = i + (r.length + 1) from by omega]
    simp only [List.append_assoc]
theorem piecesAt_more (co : Bool) (cs d : List ByteArray) : ∀ (l : List (List Piece)) (i : Nat), i + l.length ≤ cs.length + 1 → piecesAt co (cs ++ d) i l = piecesAt co cs i l
  | [], i, _ => rfl
  | p :: r, i, h => by
    rw [List.length_cons] at h
    rw [piecesAt, piecesAt, piecesAt_more co cs d r (i + 1) (by omega)]
    by_cases hi : 0 < i
    · rw [List.getElem?_append_left (by omega)]
    · rw [if_neg (fun h => hi h.1), if_neg (fun h => hi h.1)]
theorem piecesAt_none (cs d : List ByteArray) : ∀ (l : List (List Piece)) (i : Nat), piecesAt false cs i l = piecesAt false d i l
  | [], i => rfl
  | p :: r, i => by
    rw [piecesAt, piecesAt, piecesAt_none cs d r (i + 1), if_neg (fun h => by cases h.2), if_neg (fun h => by cases h.2)]
/-- What the kids and commas of a series are like. -/
structure SerInv (x : Part) (more : Bool) (ks : List Tr) (cs : List ByteArray) : Prop where
  cl : x.commas = true → cs.length = if more then ks.length else ks.length - 1
  cn : x.commas = false → cs = []
  tr : ∀ y ∈ cs, OkLead y
  good : ∀ k ∈ ks, hasB x.kids k.kind = true ∧ goodT k
  most : (ks.length : Int) ≤ x.most
def SerOut (x : Part) (more : Bool) (ks : List Tr) (cs : List ByteArray) (p : PS) (r : List Tr × List ByteArray × PS) : Prop :=
  SerInv x false r.1 r.2.1 ∧ (more = true → ks.length < r.1.length) ∧ ∃ u, p.rest = u ++ r.2.2.rest ∧
    piecesAt x.commas r.2.1 0 (r.1.map pieces) = piecesAt x.commas cs 0 (ks.map pieces) ++ ((if more = true ∧ 0 < ks.length ∧ x.commas = true then [((cs[ks.length - 1]?).getD ⟨#[]⟩, ⟨#[44]⟩)] else []) ++ pcs u)
theorem read_series {T : Int → PS → Option (Tr × PS)} (hT : ReadC T) {x : Part} : ∀ (n : Nat) (more : Bool) (ks : List Tr) (cs : List ByteArray) (p : PS) (r : List Tr × List ByteArray × PS), seriesG T x n more ks cs p = some r → EndP p →
    EndP r.2.2 ∧ (r.2.2.e = 0 → p.e = 0 ∧ (SerInv x more ks cs → SerOut x more ks cs p r)) := by
  have done : ∀ (n : Nat) (ks : List Tr) (cs : List ByteArray) (p : PS) (r : List Tr × List ByteArray × PS), seriesG T x n false ks cs p = some r → EndP p →
      EndP r.2.2 ∧ (r.2.2.e = 0 → p.e = 0 ∧ (SerInv x false ks cs → SerOut x false ks cs p r)) := by
    intro n ks cs p r h hE
    have := series_done h
    subst this
    exact ⟨hE, fun he => ⟨he, fun hi => ⟨hi, (fun h => by cases h), [], rfl, by simp [pcs]⟩⟩⟩
  intro n
  induction n with
  | zero =>
    intro more ks cs p r h hE
    cases more
    · exact done _ _ _ _ _ h hE
    · unfold seriesG at h
      cases h
  | succ n ih =>
    intro more ks cs p r h hE
    cases more
    · exact done _ _ _ _ _ h hE
    · obtain ⟨t, q, ht, hw⟩ := series_step h
      have hL : EndP (limP x ks p) := by
        unfold limP
        split
        · exact hE.fail 3
        · exact hE
      obtain ⟨hEq, hq⟩ := hT _ _ _ _ hL ht
      -- what follows from no error behind the kid
      have facts : q.e = 0 → p.e = 0 ∧ limP x ks p = p ∧ ((ks.length : Int) ≤ x.most → (ks.length : Int) + 1 ≤ x.most) ∧ (∃ u, p.rest = u ++ q.rest ∧ pieces t = pcs u) ∧ hasB x.kids t.kind = true ∧ goodT t := by
        intro he
        obtain ⟨h1, h2, h3, h4, h5, _⟩ := hq he
        by_cases hl : (ks.length : Int) = x.most ∧ beginsP x.kids p ≠ 0
        · have : limP x ks p = failP p 3 := by unfold limP; rw [if_pos hl]
          rw [this] at h1
          exact absurd h1 (fail_e p (by decide))
        · have hp : limP x ks p = p := by unfold limP; rw [if_neg hl]
          rw [hp] at h1 h2 h3
          refine ⟨h1, hp, fun hm => ?_, h3, h4, h5⟩
          have : (ks.length : Int) ≠ x.most := fun e => hl ⟨e, h2⟩
          omega
      have good' : q.e = 0 → (∀ k ∈ ks, hasB x.kids k.kind = true ∧ goodT k) → ∀ k ∈ ks ++ [t], hasB x.kids k.kind = true ∧ goodT k := by
        intro he hg k hk
        obtain ⟨_, _, _, _, h4, h5⟩ := facts he
        rcases List.mem_append.1 hk with hk | hk
        · exact hg k hk
        · rw [List.mem_singleton.1 hk]
          exact ⟨h4, h5⟩
      have len' : ((ks ++ [t]).length : Int) = (ks.length : Int) + 1 := by rw [List.length_append, List.length_singleton]; omega
      rcases hw with ⟨hc, hcm, hg⟩ | ⟨hc, hcm, hg⟩ | ⟨hc, hg⟩
      · -- a comma follows
        obtain ⟨hA, hB⟩ := ih _ _ _ _ _ hg hEq.take
        refine ⟨hA, fun he => ?_⟩
        obtain ⟨e1, hO⟩ := hB he
        have hcx : (nextP q).text ≠ ⟨#[]⟩ := fun e => by rw [e] at hcm; cases hcm
        obtain ⟨g1, g2, g3⟩ := hEq.read hcx
        have eq0 : q.e = 0 := by rw [← g3]; exact e1
        obtain ⟨f1, f2, f3, ⟨u, f4, f5⟩, f6, f7⟩ := facts eq0
        refine ⟨f1, fun hi => ?_⟩
        have hcl : cs.length = ks.length := hi.cl hc
        have hi' : SerInv x true (ks ++ [t]) (cs ++ [(nextP q).lead]) := ⟨fun _ => by simp [hcl], (fun h => by rw [hc] at h; cases h), fun y hy => by
          rcases List.mem_append.1 hy with hy | hy
          · exact hi.tr y hy
          · rw [List.mem_singleton.1 hy]
            exact ⟨g1.1.2.2, g1.2.1⟩, good' eq0 hi.good, by rw [len']; exact f3 hi.most⟩
        obtain ⟨o1, o2, v, o3, o4⟩ := hO hi'
        refine ⟨o1, fun _ => ?_, u ++ [nextP q] ++ v, ?_, ?_⟩
        · have := o2 rfl
          rw [List.length_append, List.length_singleton] at this
          omega
        · rw [f4, g2, o3]
          simp only [List.append_assoc]
        · have hlast : (cs ++ [(nextP q).lead])[(ks ++ [t]).length - 1]? = some (nextP q).lead := by
            rw [List.length_append, List.length_singleton, Nat.add_sub_cancel, ← hcl, List.getElem?_append_right (Nat.le_refl _), Nat.sub_self]
            rfl
          rw [o4, if_pos ⟨rfl, by simp, hc⟩, hlast, List.map_append, List.map_singleton, piecesAt_snoc, piecesAt_more _ _ _ _ _ (by rw [List.length_map]; omega), List.length_map, Nat.zero_add]
          have hmid : (if 0 < ks.length ∧ x.commas = true then [(((cs ++ [(nextP q).lead])[ks.length - 1]?).getD ⟨#[]⟩, (⟨#[44]⟩ : ByteArray))] else []) = (if (true = true) ∧ 0 < ks.length ∧ x.commas = true then [((cs[ks.length - 1]?).getD ⟨#[]⟩, (⟨#[44]⟩ : ByteArray))] else []) := by
            by_cases hk : 0 < ks.length
            · rw [if_pos ⟨hk, hc⟩, if_pos ⟨rfl, hk, hc⟩, List.getElem?_append_left (by omega)]
            · rw [if_neg (fun h => hk h.1), if_neg (fun h => hk h.2.1)]
          rw [hmid, f5]
          have : ([nextP q].map fun t => (t.lead, t.text)) = [((nextP q).lead, (⟨#[44]⟩ : ByteArray))] := by
            rw [List.map_singleton, ba_inj (a := (nextP q).text) (b := ⟨#[44]⟩) (is_iff hcm)]
          rw [pcs_append, pcs_append, show pcs [nextP q] = [((nextP q).lead, (⟨#[44]⟩ : ByteArray))] from this]
          simp only [Option.getD_some, List.append_assoc]
      · -- no comma: the end
        have := series_done hg
        subst this
        refine ⟨hEq, fun he => ?_⟩
        obtain ⟨f1, f2, f3, ⟨u, f4, f5⟩, f6, f7⟩ := facts he
        refine ⟨f1, fun hi => ⟨⟨fun _ => ?_, (fun h => by rw [hc] at h; cases h), hi.tr, good' he hi.good, by rw [len']; exact f3 hi.most⟩, fun _ => ?_, u, f4, ?_⟩⟩
        · have : cs.length = ks.length := hi.cl hc
          simp [this]
        · show ks.length < (ks ++ [t]).length
          simp
        · show piecesAt x.commas cs 0 ((ks ++ [t]).map pieces) = _
          rw [List.map_append, List.map_singleton, piecesAt_snoc, List.length_map, Nat.zero_add, f5]
          by_cases hk : 0 < ks.length
          · rw [if_pos ⟨hk, hc⟩, if_pos ⟨rfl, hk, hc⟩]
          · rw [if_neg (fun h => hk h.1), if_neg (fun h => hk h.2.1)]
      · -- a series without commas
        obtain ⟨hA, hB⟩ := ih _ _ _ _ _ hg hEq
        refine ⟨hA, fun he => ?_⟩
        obtain ⟨e1, hO⟩ := hB he
        obtain ⟨f1, f2, f3, ⟨u, f4, f5⟩, f6, f7⟩ := facts e1
        refine ⟨f1, fun hi => ?_⟩
        obtain ⟨o1, o2, v, o3, o4⟩ := hO ⟨(fun h => by rw [hc] at h; cases h), hi.cn, hi.tr, good' e1 hi.good, by rw [len']; exact f3 hi.most⟩
        refine ⟨o1, fun _ => ?_, u ++ v, ?_, ?_⟩
        · cases hb : (beginsP x.kids q != 0)
          · rw [hb] at hg
            have := series_done hg
            subst this
            show ks.length < (ks ++ [t]).length
            simp
          · have := o2 hb
            rw [List.length_append, List.length_singleton] at this
            omega
        · rw [f4, o3, List.append_assoc]
        · rw [o4, hc, if_neg (fun h => by cases h.2.2), if_neg (fun h => by cases h.2.2), List.map_append, List.map_singleton, piecesAt_snoc, if_neg (fun h => by cases h.2), f5, pcs_append]
          simp only [List.append_assoc, List.nil_append]
end Go.Proofs.Ytipkmffhebachaa
namespace Go.Proofs.Ytipkmffhebachaa
open Go.RowKit
def namesP : List Part → Nat
  | [] => 0
  | x :: r => (if x.nm = 0 then 0 else 1) + namesP r
/-- Is the end of the source one of the parts? -/
def hasEnd : List Part → Bool
  | [] => false
  | x :: r => (!x.series && x.kids == 0 && !solidB x) || hasEnd r
def ends5 : List Part → Bool
  | [] => false
  | [x] => !x.series && x.kids == 5
  | _ :: y :: r => ends5 (y :: r)
def okParts : List Part → Bool
  | [] => true
  | x :: r => (if x.series then x.kids != 0 && x.nm == 0 && decide (x.least ≤ 1) && decide (0 ≤ x.most) && decide (x.most ≤ 40) && seriesP r == 0
      else !x.commas && (if x.kids ≠ 0 then x.nm == 0 && decide (x.most = 1) else decide (0 ≤ x.most) && (solidB x || (x.nm == 0 && r.isEmpty)))) && (x.nm == 0 || namesP r == 0) && okParts r
theorem okParts_fin : ∀ n : Fin 23, okParts (partsP ((n.val : Nat) : Int)) = true ∧ hasEnd (partsP ((n.val : Nat) : Int)) = (n.val == 1) ∧ (n.val ≠ 0 → partsP ((n.val : Nat) : Int) ≠ []) ∧ (n.val = 1 → commasP (partsP ((n.val : Nat) : Int)) 0 = 0) := by decide
theorem named_none (l : List Part) (x : ByteArray) (h : namesP l = 0) : namedP l x = is x [] := by
  induction l with
  | nil => rfl
  | cons p r ih =>
    unfold namesP at h
    by_cases hp : p.nm = 0
    · rw [if_pos hp] at h
      unfold namedP
      rw [if_pos hp]
      exact ih (by omega)
    · rw [if_neg hp] at h
      omega
/-- What the parts from some on read: the text, the leads, the kids and the commas' leads that they add. -/
structure NodeOut (l : List Part) (kind : Int) (text : ByteArray) (leads : List ByteArray) (kids : List Tr) (commas : List ByteArray) (p : PS) (r : Tr × PS) (tx : ByteArray) (lds : List ByteArray) (ks : List Tr) (cs : List ByteArray) (u : List Tok) : Prop where
  tree : r.1 = .mk kind tx (leads ++ lds ++ cs) (kids ++ ks)
  rest : p.rest = u ++ (if hasEnd l then [] else r.2.rest)
  text0 : namesP l = 0 → tx = text
  text1 : namesP l ≠ 0 → namedP l tx = true
  textS : text.size < maxLen → tx.size < maxLen
  ldsN : lds.length = tokensP l
  ldsT : ∀ i y, lds[i]? = some y → triviaB y (hasEnd l && i + 1 == tokensP l) = true ∧ y.size < maxLen
  kidsN : ks.length = onesP l + (ks.length - onesP l) ∧ (seriesP l = 0 → ks.length = onesP l)
  cs0 : seriesP l = 0 → cs = commas
  cs1 : seriesP l ≠ 0 → (∀ y ∈ cs, OkLead y) ∧ (cs.length : Int) = commasP l ((ks.length : Int) - onesP l)
  good : ∀ k ∈ ks, goodT k
  pieces : ∀ (c : Int) (cs' more : List ByteArray), (seriesP l = 0 ∨ (c = (ks.length : Int) - onesP l ∧ cs' = cs)) → piecesN c tx cs' l (lds ++ more) (ks.map pieces) = pcs u
  shape : ∀ c : Int, (seriesP l = 0 ∨ c = (ks.length : Int) - onesP l) → shapedL ks (sortsP l c) = true ∧ mostP l c = true
  least : ∀ x ∈ l, x.series = true → x.least ≤ (ks.length : Int) - onesP l
theorem shapedL_append : (a : List Tr) → (ss : List Int) → (b : List Tr) → (ts : List Int) → a.length = ss.length → shapedL (a ++ b) (ss ++ ts) = (shapedL a ss && shapedL b ts)
  | [], [], b, ts, _ => by rw [List.nil_append, List.nil_append, shapedL_nil, Bool.true_and]
  | k :: a, s :: ss, b, ts, h => by
    rw [List.cons_append, List.cons_append, shapedL_cons, shapedL_cons, shapedL_append a ss b ts (by simpa using h)]
    simp only [Bool.and_assoc]
theorem shapedL_all (s : Int) : (ks : List Tr) → (∀ k ∈ ks, hasB s k.kind = true ∧ goodT k) → shapedL ks (List.replicate ks.length s) = true
  | [], _ => by rw [shapedL_nil]
  | k :: r, h => by
    rw [List.length_cons, List.replicate_succ, shapedL_cons, shapedL_all s r (fun j hj => h j (List.mem_cons_of_mem _ hj)), (h k (by simp)).1, (h k (by simp)).2.1]
    rfl
theorem commasP_none (l : List Part) (h : seriesP l = 0) (ho : okParts l = true) (n : Int) : commasP l n = 0 := by
  induction l with
  | nil => rfl
  | cons x r ih =>
    unfold seriesP at h
    unfold okParts at ho
    cases hs : x.series
    · rw [hs] at h ho
      simp only [Bool.false_eq_true, if_false, Bool.and_eq_true, Bool.not_eq_true'] at ho
      unfold commasP
      rw [ho.1.1.1, ih (by simpa using h) ho.2]
      rfl
    · rw [hs] at h
      simp at h
/-- The token of a part. -/
theorem token_read {x : Part} {text : ByteArray} {leads : List ByteArray} {p : PS} (h : EndP p) : EndP (tokenP x text leads p).2.2 ∧ ((tokenP x text leads p).2.2.e = 0 → fitsB x (nextP p) = true ∧ tokenP x text leads p = (if x.nm = 0 then text else (nextP p).text, leads ++ [(nextP p).lead], takeP p)) := by
  unfold tokenP
  cases hf : fitsB x (nextP p)
  · rw [if_neg (by decide)]
    exact ⟨h.fail 2, fun he => absurd he (fail_e p (by decide))⟩
  · rw [if_pos rfl]
    exact ⟨h.take, fun _ => ⟨rfl, rfl⟩⟩
theorem hasEnd_tokens (l : List Part) (h : hasEnd l = true) : 0 < tokensP l := by
  induction l with
  | nil => cases h
  | cons x r ih =>
    unfold hasEnd at h
    unfold tokensP
    simp only [Bool.or_eq_true, Bool.and_eq_true, beq_iff_eq] at h
    rcases h with h | h
    · rw [if_pos h.1.2]; omega
    · have := ih h; omega
theorem fits_name {x : Part} {t : Tok} (hn : x.nm ≠ 0) (h : fitsB x t = true) (hg : GoodTok t) : nameB x.nm (classN (bl t.text)) t.text = true := by
  unfold fitsB at h
  rw [if_neg hn] at h
  rw [hg.1]
  exact h
theorem fits_word {x : Part} {t : Tok} (hn : x.nm = 0) (h : fitsB x t = true) : t.text = x.word := by
  unfold fitsB at h
  rw [if_pos hn] at h
  exact ba_inj (is_iff h)
theorem read_node {T : Int → PS → Option (Tr × PS)} (hT : ReadC T) {n : Nat} {kind : Int} : ∀ (l : List Part) (text : ByteArray) (leads : List ByteArray) (kids : List Tr) (commas : List ByteArray) (p : PS) (r : Tr × PS), nodeG T n kind l text leads kids commas p = some r → EndP p → okParts l = true → (seriesP l ≠ 0 → commas = []) →
    EndP r.2 ∧ (r.2.e = 0 → p.e = 0 ∧ (ends5 l = true → opB (nextP r.2).text = false) ∧ ∃ tx lds ks cs u, NodeOut l kind text leads kids commas p r tx lds ks cs u) := by
  intro l
  induction l with
  | nil =>
    intro text leads kids commas p r h hE _ _
    have := nodeG_end h
    subst this
    refine ⟨hE, fun he => ⟨he, (fun h => by cases h), text, [], [], commas, [], ?_⟩⟩
    exact { tree := by simp, rest := rfl, text0 := fun _ => rfl, text1 := fun h => absurd rfl h, textS := fun h => h, ldsN := rfl, ldsT := fun i y h => by simp at h, kidsN := ⟨rfl, fun _ => rfl⟩, cs0 := fun _ => rfl, cs1 := fun h => absurd rfl h, good := fun k h => by simp at h, pieces := fun c cs' more _ => rfl, shape := fun c _ => ⟨by rw [shapedL_nil], rfl⟩, least := fun x h => by simp at h }
  | cons x l ih =>
    intro text leads kids commas p r h hE ho hcm
    have hok := ho
    unfold okParts at ho
    rcases nodeG_step h with ⟨hs, s, hss, hg⟩ | ⟨hs, hk, t, q, ht, hg⟩ | ⟨hs, hk, hg⟩
    · -- a series
      rw [hs] at ho
      simp only [if_true, Bool.and_eq_true, decide_eq_true_eq, bne_iff_ne, beq_iff_eq, Bool.or_eq_true] at ho
      obtain ⟨⟨⟨⟨⟨⟨⟨hx0, hn0⟩, hl1⟩, hm0⟩, hm40⟩, hr0⟩, _⟩, hol⟩ := ho
      have hsl : seriesP (x :: l) = 1 := by show (if x.series = true then 1 else 0) + seriesP l = _; rw [hs, hr0]; rfl
      obtain ⟨hA, hB⟩ := read_series hT _ _ _ _ _ _ hss hE
      obtain ⟨iA, iB⟩ := ih _ _ _ _ _ _ hg hA hol (fun h => absurd hr0 h)
      refine ⟨iA, fun he => ?_⟩
      obtain ⟨je, j5, tx, lds, ks, cs, u, J⟩ := iB he
      obtain ⟨pe, hO⟩ := hB je
      obtain ⟨o1, o2, v, o3, o4⟩ := hO ⟨fun _ => by cases (decide (0 < x.least) || beginsP x.kids p != 0) <;> rfl, fun _ => rfl, fun y h => by simp at h, fun k h => by simp at h, hm0⟩
      obtain rfl := J.cs0 hr0
      have hkn := J.kidsN.2 hr0
      have hone : onesP (x :: l) = onesP l := by show (if x.series = true then 0 else if x.kids ≠ 0 then 1 else 0) + onesP l = _; rw [hs, if_pos rfl]; omega
      have hnum : ((s.1 ++ ks).length : Int) - onesP (x :: l) = s.1.length := by rw [hone, List.length_append, hkn]; omega
      have hcp : ∀ c, countP x c = c := fun c => by unfold countP; rw [hs]; rfl
      have htk : tokensP (x :: l) = tokensP l := by show (if x.kids = 0 then 1 else 0) + tokensP l = _; rw [if_neg hx0]; omega
      have hnm : namesP (x :: l) = namesP l := by show (if x.nm = 0 then 0 else 1) + namesP l = _; rw [if_pos hn0]; omega
      have hhe : hasEnd (x :: l) = hasEnd l := by show ((!x.series && x.kids == 0 && !solidB x) || hasEnd l) = _; rw [hs]; rfl
      have hnp : ∀ y, namedP (x :: l) y = namedP l y := fun y => by show (if x.nm = 0 then namedP l y else _) = _; rw [if_pos hn0]
      refine ⟨pe, fun h5 => ?_, tx, lds, s.1 ++ ks, s.2.1, v ++ u, ?_⟩
      · cases l with
        | nil => unfold ends5 at h5; rw [hs] at h5; cases h5
        | cons y l => exact j5 (by simpa [ends5] using h5)
      · exact
        { tree := by rw [J.tree]; simp only [List.append_assoc]
          rest := by rw [hhe, o3, J.rest]; simp only [List.append_assoc]
          text0 := fun h => J.text0 (by rw [hnm] at h; exact h)
          text1 := fun h => by rw [hnp]; exact J.text1 (by rw [hnm] at h; exact h)
          textS := J.textS
          ldsN := by rw [htk]; exact J.ldsN
          ldsT := by rw [htk, hhe]; exact J.ldsT
          kidsN := ⟨by rw [hone, List.length_append, hkn]; omega, fun h => by rw [hsl] at h; cases h⟩
          cs0 := fun h => by rw [hsl] at h; cases h
          cs1 := fun _ => ⟨o1.tr, by
            rw [hnum]
            show _ = (if x.commas && decide (1 < (s.1.length : Int)) then (s.1.length : Int) - 1 else 0) + commasP l (s.1.length : Int)
            rw [commasP_none l hr0 hol]
            cases hc : x.commas
            · rw [o1.cn hc]; rfl
            · have := o1.cl hc
              simp only [Bool.false_eq_true, if_false] at this
              by_cases h1 : 1 < (s.1.length : Int)
              · rw [decide_eq_true h1]
                simp only [Bool.and_self, if_true]
                omega
              · rw [decide_eq_false h1]
                simp only [Bool.and_false, Bool.false_eq_true, if_false]
                omega⟩
          good := fun k hk => by
            rcases List.mem_append.1 hk with hk | hk
            · exact (o1.good k hk).2
            · exact J.good k hk
          pieces := fun c cs' more hc0 => by
            obtain ⟨hc, hcs⟩ := hc0.resolve_left (by rw [hsl]; decide)
            rw [hnum] at hc
            subst hc hcs
            unfold piecesN
            rw [if_pos hx0, hcp, Int.toNat_natCast, List.map_append, List.take_left' (List.length_map ..), List.drop_left' (List.length_map ..), J.pieces _ _ _ (.inl hr0), o4, pcs_append]
            simp [piecesAt]
          shape := fun c hc => by
            have hc := hc.resolve_left (by rw [hsl]; decide)
            rw [hnum] at hc
            subst hc
            obtain ⟨j1, j2⟩ := J.shape (s.1.length : Int) (.inl hr0)
            constructor
            · unfold sortsP
              rw [hcp, Int.toNat_natCast, shapedL_append _ _ _ _ (by rw [List.length_replicate]), shapedL_all _ _ o1.good, j1]
              rfl
            · unfold mostP
              rw [hcp, decide_eq_true o1.most, j2]
              rfl
          least := fun y hy hys => by
            rw [hnum]
            rcases List.mem_cons.1 hy with rfl | hy
            · by_cases h0 : 0 < y.least
              · have := o2 (by rw [decide_eq_true h0]; rfl)
                simp only [List.length_nil] at this
                omega
              · omega
            · exfalso
              have : ∀ l : List Part, seriesP l = 0 → ∀ y ∈ l, y.series = false := by
                intro l
                induction l with
                | nil => intro _ y h; simp at h
                | cons a b ihb =>
                  intro h y hy
                  unfold seriesP at h
                  cases ha : a.series
                  · rcases List.mem_cons.1 hy with rfl | hy
                    · exact ha
                    · exact ihb (by omega) y hy
                  · rw [ha] at h
                    simp at h
              rw [this l hr0 y hy] at hys
              cases hys }
    · -- a kid
      have hk0 : x.kids ≠ 0 := by simpa using hk
      rw [hs] at ho
      simp only [Bool.false_eq_true, if_false, Bool.and_eq_true, Bool.not_eq_true', Bool.or_eq_true, beq_iff_eq] at ho
      obtain ⟨⟨⟨hcf, hif⟩, _⟩, hol⟩ := ho
      rw [if_pos hk0] at hif
      simp only [Bool.and_eq_true, beq_iff_eq, decide_eq_true_eq] at hif
      obtain ⟨hn0, hm1⟩ := hif
      have hsl : seriesP (x :: l) = seriesP l := by show (if x.series = true then 1 else 0) + seriesP l = _; rw [hs]; simp
      obtain ⟨hEq, hq⟩ := hT _ _ _ _ hE ht
      obtain ⟨iA, iB⟩ := ih _ _ _ _ _ _ hg hEq hol (fun h => hcm (by rw [hsl]; exact h))
      refine ⟨iA, fun he => ?_⟩
      obtain ⟨je, j5, tx, lds, ks, cs, u, J⟩ := iB he
      obtain ⟨pe, _, ⟨v, o3, o4⟩, hb, hgt, q5⟩ := hq je
      have hone : onesP (x :: l) = 1 + onesP l := by show (if x.series = true then 0 else if x.kids ≠ 0 then 1 else 0) + onesP l = _; rw [hs, if_neg (by decide), if_pos hk0]
      have hnum : ((t :: ks).length : Int) - onesP (x :: l) = (ks.length : Int) - onesP l := by rw [hone, List.length_cons]; omega
      have hcp : ∀ c, countP x c = 1 := fun c => by unfold countP; rw [hs, if_neg (by decide), if_pos hk0]
      have htk : tokensP (x :: l) = tokensP l := by show (if x.kids = 0 then 1 else 0) + tokensP l = _; rw [if_neg hk0]; omega
      have hnm : namesP (x :: l) = namesP l := by show (if x.nm = 0 then 0 else 1) + namesP l = _; rw [if_pos hn0]; omega
      have hhe : hasEnd (x :: l) = hasEnd l := by show ((!x.series && x.kids == 0 && !solidB x) || hasEnd l) = _; rw [show (x.kids == 0) = false from by simpa using hk0]; simp
      have hnp : ∀ y, namedP (x :: l) y = namedP l y := fun y => by show (if x.nm = 0 then namedP l y else _) = _; rw [if_pos hn0]
      refine ⟨pe, fun h5 => ?_, tx, lds, t :: ks, cs, v ++ u, ?_⟩
      · cases l with
        | nil =>
          have h5 : x.kids = 5 := by unfold ends5 at h5; simpa [hs] using h5
          have := nodeG_end hg
          subst this
          exact q5 h5
        | cons y l => exact j5 (by simpa [ends5] using h5)
      · exact
        { tree := by rw [J.tree]; simp only [List.append_assoc, List.singleton_append]
          rest := by rw [hhe, o3, J.rest]; simp only [List.append_assoc]
          text0 := fun h => J.text0 (by rw [hnm] at h; exact h)
          text1 := fun h => by rw [hnp]; exact J.text1 (by rw [hnm] at h; exact h)
          textS := J.textS
          ldsN := by rw [htk]; exact J.ldsN
          ldsT := by rw [htk, hhe]; exact J.ldsT
          kidsN := ⟨by rw [hone, List.length_cons]; have := J.kidsN.1; omega, fun h => by rw [hone, List.length_cons, J.kidsN.2 (by rw [hsl] at h; exact h)]; omega⟩
          cs0 := fun h => J.cs0 (by rw [hsl] at h; exact h)
          cs1 := fun h => by
            obtain ⟨j1, j2⟩ := J.cs1 (by rw [hsl] at h; exact h)
            refine ⟨j1, ?_⟩
            rw [hnum, j2]
            show _ = (if x.commas && decide (1 < (ks.length : Int) - onesP l) then (ks.length : Int) - onesP l - 1 else 0) + _
            rw [hcf]
            simp
          good := fun k hk => by
            rcases List.mem_cons.1 hk with rfl | hk
            · exact hgt
            · exact J.good k hk
          pieces := fun c cs' more hc => by
            rw [hnum, hsl] at hc
            unfold piecesN
            rw [if_pos hk0, hcp, List.map_cons]
            show piecesAt x.commas cs' 0 [Go.Proofs.Ytipkmffhebachaa.pieces t] ++ piecesN c tx cs' l (lds ++ more) (ks.map Go.Proofs.Ytipkmffhebachaa.pieces) = _
            rw [J.pieces _ _ _ hc, pcs_append, ← o4]
            simp [piecesAt]
          shape := fun c hc => by
            rw [hnum, hsl] at hc
            obtain ⟨j1, j2⟩ := J.shape c hc
            constructor
            · unfold sortsP
              rw [hcp]
              show shapedL (t :: ks) (x.kids :: sortsP l c) = true
              rw [shapedL_cons, hb, hgt.1, j1]
              rfl
            · unfold mostP
              rw [hcp, hm1, j2]
              rfl
          least := fun y hy hys => by
            rw [hnum]
            rcases List.mem_cons.1 hy with rfl | hy
            · rw [hs] at hys; cases hys
            · exact J.least y hy hys }
    · -- a token
      have hk0 : x.kids = 0 := by simpa using hk
      rw [hs] at ho
      simp only [Bool.false_eq_true, if_false, Bool.and_eq_true, Bool.not_eq_true', Bool.or_eq_true, beq_iff_eq] at ho
      obtain ⟨⟨⟨hcf, hif⟩, hno⟩, hol⟩ := ho
      rw [if_neg (fun h => h hk0)] at hif
      simp only [Bool.and_eq_true, decide_eq_true_eq, Bool.or_eq_true, beq_iff_eq] at hif
      obtain ⟨hm0, hso⟩ := hif
      have hsl : seriesP (x :: l) = seriesP l := by show (if x.series = true then 1 else 0) + seriesP l = _; rw [hs]; simp
      obtain ⟨hEq, hq⟩ := token_read (x := x) (text := text) (leads := leads) hE
      obtain ⟨iA, iB⟩ := ih _ _ _ _ _ _ hg hEq hol (fun h => hcm (by rw [hsl]; exact h))
      refine ⟨iA, fun he => ?_⟩
      obtain ⟨je, j5, tx, lds, ks, cs, u, J⟩ := iB he
      obtain ⟨hf, htp⟩ := hq je
      have hone : onesP (x :: l) = onesP l := by show (if x.series = true then 0 else if x.kids ≠ 0 then 1 else 0) + onesP l = _; rw [hs, if_neg (by decide), if_neg (fun h => h hk0)]; omega
      have hcp : ∀ c, countP x c = 0 := fun c => by unfold countP; rw [hs, if_neg (by decide), if_neg (fun h => h hk0)]
      have htk : tokensP (x :: l) = 1 + tokensP l := by show (if x.kids = 0 then 1 else 0) + tokensP l = _; rw [if_pos hk0]
      have hhe : hasEnd (x :: l) = (!solidB x || hasEnd l) := by show ((!x.series && x.kids == 0 && !solidB x) || hasEnd l) = _; rw [hs, hk0]; simp
      have htxt : (tokenP x text leads p).1 = if x.nm = 0 then text else (nextP p).text := by rw [htp]
      have hlds : (tokenP x text leads p).2.1 = leads ++ [(nextP p).lead] := by rw [htp]
      have hst : (tokenP x text leads p).2.2 = takeP p := by rw [htp]
      rw [hst] at je
      -- the token, solid or the end
      have tok : p.e = 0 ∧ (x.nm ≠ 0 → GoodTok (nextP p)) ∧ (nextP p).text.size < maxLen ∧ triviaB (nextP p).lead (hasEnd (x :: l) && 0 + 1 == tokensP (x :: l)) = true ∧ (nextP p).lead.size < maxLen ∧
          p.rest = ([nextP p] ++ u) ++ (if hasEnd (x :: l) then [] else r.2.rest) := by
        have hr := J.rest
        rw [hst] at hr
        cases hsd : solidB x
        · have hl : l = [] := by
            rw [hsd] at hso
            simp only [Bool.false_eq_true, false_or] at hso
            simpa using hso.2
          have hn : x.nm = 0 := by unfold solidB at hsd; simp only [Bool.or_eq_false_iff, bne_eq_false_iff_eq] at hsd; exact hsd.1
          have hw : (nextP p).text = ⟨#[]⟩ := by
            rw [fits_word hn hf]
            unfold solidB at hsd
            simp only [Bool.or_eq_false_iff, Bool.not_eq_false'] at hsd
            exact ba_inj (is_iff hsd.2)
          rcases hE.cases with ⟨g1, _⟩ | ⟨_, _, g3, g4, g5, g6⟩
          · exact absurd hw (good_text g1.1)
          · subst hl
            rw [g5] at je
            have hu : u = [] := by
              have := J.pieces 0 [] [] (.inl rfl)
              unfold pcs at this
              unfold piecesN at this
              cases u with
              | nil => rfl
              | cons a b => cases this
            refine ⟨je, fun h => absurd hn h, by rw [hw]; decide, ?_, g4, ?_⟩
            · rw [hhe, hsd, htk]; exact g3
            · rw [hhe, hsd, hu, g6]; rfl
        · obtain ⟨g1, g2, g3⟩ := hE.read (fits_text hE hsd hf)
          refine ⟨by rw [← g3]; exact je, fun _ => g1.1, g1.2.2, ?_, g1.2.1, ?_⟩
          · have : (hasEnd (x :: l) && 0 + 1 == tokensP (x :: l)) = false := by
              rw [hhe, hsd, htk]
              cases hh : hasEnd l
              · rfl
              · have := hasEnd_tokens l hh
                simp only [Bool.not_true, Bool.false_or, Bool.true_and]
                exact beq_eq_false_iff_ne.2 (by omega)
            rw [this]
            exact g1.1.2.2
          · rw [hhe, hsd, g2, hr]
            simp only [Bool.not_true, Bool.false_or, List.append_assoc]
      obtain ⟨pe, t1, t2, t3, t4, t5⟩ := tok
      have tx1 : x.nm ≠ 0 → tx = (nextP p).text := fun h => by
        have h0 : namesP l = 0 := by simpa [h] using hno
        rw [J.text0 h0, htxt, if_neg h]
      refine ⟨pe, fun h5 => ?_, tx, (nextP p).lead :: lds, ks, cs, [nextP p] ++ u, ?_⟩
      · cases l with
        | nil => unfold ends5 at h5; rw [hs, hk0] at h5; cases h5
        | cons y l => exact j5 (by simpa [ends5] using h5)
      · exact
        { tree := by rw [J.tree, hlds]; simp only [List.append_assoc, List.singleton_append]
          rest := t5
          text0 := fun h => by
            by_cases hn : x.nm = 0
            · have : namesP l = 0 := by unfold namesP at h; omega
              rw [J.text0 this, htxt, if_pos hn]
            · unfold namesP at h; rw [if_neg hn] at h; omega
          text1 := fun h => by
            show (if x.nm = 0 then namedP l tx else nameB x.nm (classN (bl tx)) tx) = true
            by_cases hn : x.nm = 0
            · rw [if_pos hn]
              refine J.text1 (fun h0 => h ?_)
              unfold namesP
              rw [if_pos hn, h0]
            · rw [if_neg hn, tx1 hn]
              exact fits_name hn hf (t1 hn)
          textS := fun h => by
            by_cases hn : x.nm = 0
            · exact J.textS (by rw [htxt, if_pos hn]; exact h)
            · rw [tx1 hn]; exact t2
          ldsN := by rw [htk, List.length_cons, J.ldsN]; omega
          ldsT := fun i y hy => by
            cases i with
            | zero =>
              simp only [List.getElem?_cons_zero, Option.some.injEq] at hy
              subst hy
              exact ⟨t3, t4⟩
            | succ i =>
              rw [List.getElem?_cons_succ] at hy
              obtain ⟨j1, j2⟩ := J.ldsT i y hy
              refine ⟨?_, j2⟩
              have hi := (List.getElem?_eq_some_iff.1 hy).1
              rw [J.ldsN] at hi
              have hso' : solidB x = true := by
                rcases hso with h | h
                · exact h
                · have : l = [] := by simpa using h.2
                  subst this
                  exact absurd hi (Nat.not_lt_zero _)
              rw [hhe, hso', htk, show (i + 1 + 1 == 1 + tokensP l) = (i + 1 == tokensP l) from by rw [Bool.eq_iff_iff, beq_iff_eq, beq_iff_eq]; omega]
              exact j1
          kidsN := by rw [hone, hsl]; exact J.kidsN
          cs0 := fun h => J.cs0 (by rw [hsl] at h; exact h)
          cs1 := fun h => by
            obtain ⟨j1, j2⟩ := J.cs1 (by rw [hsl] at h; exact h)
            refine ⟨j1, ?_⟩
            rw [hone, j2]
            show _ = (if x.commas && decide (1 < (ks.length : Int) - onesP l) then (ks.length : Int) - onesP l - 1 else 0) + _
            rw [hcf]
            simp
          good := J.good
          pieces := fun c cs' more hc => by
            rw [hone, hsl] at hc
            unfold piecesN
            rw [if_neg (fun h => h hk0)]
            show ((nextP p).lead, if x.nm ≠ 0 then tx else x.word) :: piecesN c tx cs' l (lds ++ more) (ks.map Go.Proofs.Ytipkmffhebachaa.pieces) = pcs ([nextP p] ++ u)
            rw [J.pieces _ _ _ hc, pcs_append]
            have : (if x.nm ≠ 0 then tx else x.word) = (nextP p).text := by
              by_cases hn : x.nm = 0
              · rw [if_neg (fun h => h hn), fits_word hn hf]
              · rw [if_pos hn, tx1 hn]
            rw [this]
            rfl
          shape := fun c hc => by
            rw [hone, hsl] at hc
            obtain ⟨j1, j2⟩ := J.shape c hc
            constructor
            · unfold sortsP
              rw [hcp]
              exact j1
            · unfold mostP
              rw [hcp, decide_eq_true hm0, j2]
              rfl
          least := fun y hy hys => by
            rw [hone]
            rcases List.mem_cons.1 hy with rfl | hy
            · rw [hs] at hys; cases hys
            · exact J.least y hy hys }
end Go.Proofs.Ytipkmffhebachaa
namespace Go.Proofs.Ytipkmffhebachaa
open Go.RowKit
def lenP (p : PS) : Nat := p.rest.length
theorem EndP.pos {p : PS} (h : EndP p) : 1 ≤ lenP p := by
  obtain ⟨l, e, hr, _⟩ := h.ex
  unfold lenP
  rw [hr]
  simp
theorem EndP.one {p : PS} (h : EndP p) (h1 : lenP p = 1) : (nextP p).kind = 0 ∧ (nextP p).text = ⟨#[]⟩ := by
  rcases h.cases with ⟨_, h2, h3, _⟩ | ⟨h2, h3, _⟩
  · have := h3.pos
    unfold lenP at h1 this
    rw [h2, List.length_append, List.length_singleton] at h1
    omega
  · exact ⟨h2, h3⟩
theorem EndP.fail_one {p : PS} (h : EndP p) (n : Nat) : lenP (failP p n) = 1 := by
  have := h.pos
  unfold lenP at this ⊢
  show (p.rest.drop (p.rest.length - 1)).length = 1
  rw [List.length_drop]
  omega
theorem EndP.take_le {p : PS} (h : EndP p) : lenP (takeP p) ≤ lenP p := by
  rcases h.cases with ⟨_, h2, _⟩ | ⟨_, _, _, _, h2, _⟩
  · unfold lenP
    rw [h2, List.length_append, List.length_singleton]
    omega
  · rw [h2]
    exact Nat.le_refl _
theorem EndP.take_lt {p : PS} (h : EndP p) (hx : (nextP p).text ≠ ⟨#[]⟩) : lenP (takeP p) + 1 = lenP p := by
  obtain ⟨_, h2, _⟩ := h.read hx
  unfold lenP
  rw [h2, List.length_append, List.length_singleton]
  omega
theorem begins_end {p : PS} (hk : (nextP p).kind = 0) (ht : (nextP p).text = ⟨#[]⟩) (s : Int) : beginsP s p = 0 := by
  have hd : defKind (nextP p).text = 0 := by rw [ht]; rfl
  have hty : typeKind (nextP p) = 0 := by
    unfold typeKind
    rw [ht, hk]
    rfl
  have hex : exprKind p = 0 := by
    unfold exprKind
    rw [ht, hk]
    rfl
  have hq : ∀ s, beginsQ s p = 0 := by
    intro s
    unfold beginsQ
    rw [hd, hty, hex, hk]
    simp
  unfold beginsP
  rw [hq, hq]
  simp
theorem begins_long {p : PS} (h : EndP p) {s : Int} (hb : beginsP s p ≠ 0) : 2 ≤ lenP p := by
  have h1 := h.pos
  by_cases h2 : lenP p = 1
  · obtain ⟨h3, h4⟩ := h.one h2
    exact absurd (begins_end h3 h4 s) hb
  · omega
theorem parts_first : ∀ n : Fin 23, n.val ≠ 0 → n.val ≠ 17 → n.val ≠ 21 → ∃ x r, partsP ((n.val : Nat) : Int) = x :: r ∧ x.kids = 0 ∧ x.series = false := by
  intro n
  match n with
  | ⟨0, _⟩ => intro h; exact absurd rfl h
  | ⟨1, _⟩ => intro _ _ _; exact ⟨_, _, rfl, rfl, rfl⟩
  | ⟨2, _⟩ => intro _ _ _; exact ⟨_, _, rfl, rfl, rfl⟩
  | ⟨3, _⟩ => intro _ _ _; exact ⟨_, _, rfl, rfl, rfl⟩
  | ⟨4, _⟩ => intro _ _ _; exact ⟨_, _, rfl, rfl, rfl⟩
  | ⟨5, _⟩ => intro _ _ _; exact ⟨_, _, rfl, rfl, rfl⟩
  | ⟨6, _⟩ => intro _ _ _; exact ⟨_, _, rfl, rfl, rfl⟩
  | ⟨7, _⟩ => intro _ _ _; exact ⟨_, _, rfl, rfl, rfl⟩
  | ⟨8, _⟩ => intro _ _ _; exact ⟨_, _, rfl, rfl, rfl⟩
  | ⟨9, _⟩ => intro _ _ _; exact ⟨_, _, rfl, rfl, rfl⟩
  | ⟨10, _⟩ => intro _ _ _; exact ⟨_, _, rfl, rfl, rfl⟩
  | ⟨11, _⟩ => intro _ _ _; exact ⟨_, _, rfl, rfl, rfl⟩
  | ⟨12, _⟩ => intro _ _ _; exact ⟨_, _, rfl, rfl, rfl⟩
  | ⟨13, _⟩ => intro _ _ _; exact ⟨_, _, rfl, rfl, rfl⟩
  | ⟨14, _⟩ => intro _ _ _; exact ⟨_, _, rfl, rfl, rfl⟩
  | ⟨15, _⟩ => intro _ _ _; exact ⟨_, _, rfl, rfl, rfl⟩
  | ⟨16, _⟩ => intro _ _ _; exact ⟨_, _, rfl, rfl, rfl⟩
  | ⟨17, _⟩ => intro _ h; exact absurd rfl h
  | ⟨18, _⟩ => intro _ _ _; exact ⟨_, _, rfl, rfl, rfl⟩
  | ⟨19, _⟩ => intro _ _ _; exact ⟨_, _, rfl, rfl, rfl⟩
  | ⟨20, _⟩ => intro _ _ _; exact ⟨_, _, rfl, rfl, rfl⟩
  | ⟨21, _⟩ => intro _ _ h; exact absurd rfl h
  | ⟨22, _⟩ => intro _ _ _; exact ⟨_, _, rfl, rfl, rfl⟩
  | ⟨n + 23, h⟩ => exact absurd h (by omega)
def KindOk (k : Int) : Prop := 0 ≤ k ∧ k < 23 ∧ k ≠ 21 ∧ k ≠ 1 ∧ k ≠ 17
theorem begins_kind (s : Int) (p : PS) : 0 ≤ beginsP s p ∧ beginsP s p < 23 ∧ beginsP s p ≠ 21 ∧ beginsP s p ≠ 1 ∧ (beginsP s p = 17 → s = 4) := by
  have h0 : KindOk 0 := by unfold KindOk; decide
  have hd : ∀ x, KindOk (defKind x) := by
    intro x; unfold defKind KindOk; split
    · decide
    · split <;> decide
  have ht : ∀ x, KindOk (typeKind x) := by
    intro x; unfold typeKind KindOk
    repeat' split
    all_goals decide
  have he : ∀ x, KindOk (exprKind x) := by
    intro x; unfold exprKind KindOk
    repeat' split
    all_goals decide
  have h4 : KindOk (if (nextP p).kind = 1 then 4 else 0) := by
    unfold KindOk
    split <;> decide
  have hq : ∀ s, KindOk (beginsQ s p) := by
    intro s
    have hk : KindOk (if s = 1 then defKind (nextP p).text else if s = 2 then (if (nextP p).kind = 1 then 4 else 0) else if s = 3 then typeKind (nextP p) else exprKind p) := by
      by_cases a1 : s = 1
      · rw [if_pos a1]; exact hd _
      · rw [if_neg a1]
        by_cases a2 : s = 2
        · rw [if_pos a2]; exact h4
        · rw [if_neg a2]
          by_cases a3 : s = 3
          · rw [if_pos a3]; exact ht _
          · rw [if_neg a3]; exact he _
    have all : ∀ k : Int, KindOk k → KindOk (if hasB s k then k else 0) := fun k h => by
      cases hasB s k
      · exact h0
      · exact h
    exact all _ hk
  unfold beginsP
  split
  · rename_i h4
    split
    · exact ⟨by decide, by decide, by decide, by decide, fun _ => h4⟩
    · exact ⟨by decide, by decide, by decide, by decide, fun h => by cases h⟩
  · obtain ⟨h1, h2, h3, h4, h5⟩ := hq s
    exact ⟨h1, h2, h3, h4, fun h => absurd h h5⟩
/-- Enough fuel for a state. -/
def fuelP (s : Int) (p : PS) : Nat := 2 * lenP p + if s = 4 then 1 else 0
/-- T comes to its end at states with at most L tokens, if the fuel m does. -/
def TotC (T : Int → PS → Option (Tr × PS)) (m : Nat) : Prop := ∀ s p, EndP p → fuelP s p ≤ m → ∃ t q, T s p = some (t, q) ∧ EndP q ∧ lenP q ≤ lenP p ∧ (lenP q < lenP p ∨ lenP q = 1)
theorem tot_series {T : Int → PS → Option (Tr × PS)} {m : Nat} (hT : TotC T m) {x : Part} : ∀ (n : Nat) (more : Bool) (ks : List Tr) (cs : List ByteArray) (p : PS), EndP p → 2 * lenP p + 1 ≤ m → lenP p + 1 ≤ n → ∃ r, seriesG T x n more ks cs p = some r ∧ EndP r.2.2 ∧ lenP r.2.2 ≤ lenP p := by
  have done : ∀ (n : Nat) (ks : List Tr) (cs : List ByteArray) (p : PS), EndP p → ∃ r, seriesG T x n false ks cs p = some r ∧ EndP r.2.2 ∧ lenP r.2.2 ≤ lenP p := by
    intro n ks cs p hE
    refine ⟨(ks, cs, p), ?_, hE, Nat.le_refl _⟩
    cases n <;> rfl
  intro n
  induction n with
  | zero => intro more ks cs p _ _ h; omega
  | succ n ih =>
    intro more ks cs p hE hm hn
    cases more
    · exact done _ _ _ _ hE
    · have hL : EndP (limP x ks p) ∧ lenP (limP x ks p) ≤ lenP p := by
        unfold limP
        split
        · refine ⟨hE.fail 3, ?_⟩
          rw [hE.fail_one 3]
          exact hE.pos
        · exact ⟨hE, Nat.le_refl _⟩
      obtain ⟨t, q, ht, hq, hle, hlt⟩ := hT x.kids (limP x ks p) hL.1 (by unfold fuelP; have := hL.2; split <;> omega)
      have hqp := hq.pos
      unfold seriesG
      change ∃ r, (match T x.kids (limP x ks p) with | none => none | some (t, q) => _) = some r ∧ _
      rw [ht]
      dsimp only
      cases hc : x.commas
      · rw [if_neg (by decide)]
        by_cases h1 : lenP q = 1
        · obtain ⟨e1, e2⟩ := hq.one h1
          rw [begins_end e1 e2]
          obtain ⟨r, h2, h3, h4⟩ := done n (ks ++ [t]) cs q hq
          exact ⟨r, h2, h3, by omega⟩
        · obtain ⟨r, h2, h3, h4⟩ := ih (beginsP x.kids q != 0) (ks ++ [t]) cs q hq (by omega) (by omega)
          exact ⟨r, h2, h3, by omega⟩
      · rw [if_pos rfl]
        cases hcm : is (nextP q).text [44]
        · rw [if_neg (by decide)]
          obtain ⟨r, h2, h3, h4⟩ := done n (ks ++ [t]) cs q hq
          exact ⟨r, h2, h3, by omega⟩
        · rw [if_pos rfl]
          have hcx : (nextP q).text ≠ ⟨#[]⟩ := fun e => by rw [e] at hcm; cases hcm
          have h1 := hq.take_lt hcx
          obtain ⟨r, h2, h3, h4⟩ := ih true (ks ++ [t]) (cs ++ [(nextP q).lead]) (takeP q) hq.take (by omega) (by omega)
          exact ⟨r, h2, h3, by omega⟩
theorem tokenP_state (x : Part) (text : ByteArray) (leads : List ByteArray) {p : PS} (h : EndP p) : lenP (tokenP x text leads p).2.2 ≤ lenP p := by
  unfold tokenP
  split
  · exact h.take_le
  · show lenP (failP p 2) ≤ _
    rw [h.fail_one]
    exact h.pos
theorem tot_node {T : Int → PS → Option (Tr × PS)} {m : Nat} (hT : TotC T m) {n : Nat} {kind : Int} : ∀ (l : List Part) (text : ByteArray) (leads : List ByteArray) (kids : List Tr) (commas : List ByteArray) (p : PS), EndP p → 2 * lenP p + 1 ≤ m → lenP p + 1 ≤ n → ∃ r, nodeG T n kind l text leads kids commas p = some r ∧ EndP r.2 ∧ lenP r.2 ≤ lenP p := by
  intro l
  induction l with
  | nil =>
    intro text leads kids commas p hE _ _
    exact ⟨_, rfl, hE, Nat.le_refl _⟩
  | cons x l ih =>
    intro text leads kids commas p hE hm hn
    unfold nodeG
    cases hs : x.series
    · rw [if_neg (by decide)]
      by_cases hk : x.kids ≠ 0
      · rw [if_pos hk]
        obtain ⟨t, q, ht, hq, hle, _⟩ := hT x.kids p hE (by unfold fuelP; split <;> omega)
        rw [ht]
        obtain ⟨r, h1, h2, h3⟩ := ih text leads (kids ++ [t]) commas q hq (by omega) (by omega)
        exact ⟨r, h1, h2, by omega⟩
      · rw [if_neg hk]
        have h0 := tokenP_state x text leads hE
        obtain ⟨r, h1, h2, h3⟩ := ih (tokenP x text leads p).1 (tokenP x text leads p).2.1 kids commas (tokenP x text leads p).2.2 (token_read hE).1 (by omega) (by omega)
        exact ⟨r, h1, h2, by omega⟩
    · rw [if_pos rfl]
      obtain ⟨s, h1, h2, h3⟩ := tot_series hT (x := x) n (decide (0 < x.least) || beginsP x.kids p != 0) [] [] p hE hm hn
      rw [h1]
      obtain ⟨r, h4, h5, h6⟩ := ih text leads (kids ++ s.1) s.2.1 s.2.2 h2 (by omega) (by omega)
      exact ⟨r, h4, h5, by omega⟩
theorem tot_ops {T : Int → PS → Option (Tr × PS)} {m : Nat} (hT : TotC T m) {s : Int} : ∀ (n : Nat) (t : Tr) (p : PS), EndP p → 2 * lenP p ≤ m → lenP p + 1 ≤ n → ∃ r, opsG T s n t p = some r ∧ EndP r.2 ∧ lenP r.2 ≤ lenP p := by
  intro n
  induction n with
  | zero => intro t p _ _ h; omega
  | succ n ih =>
    intro t p hE hm hn
    unfold opsG
    by_cases ho : s = 5 ∧ opB (nextP p).text = true
    · rw [if_pos ho]
      have hcx : (nextP p).text ≠ ⟨#[]⟩ := fun e => by have := ho.2; rw [e] at this; cases this
      have h1 := hE.take_lt hcx
      obtain ⟨u, q, hu, hq, hle, _⟩ := hT 7 (takeP p) hE.take (by unfold fuelP; rw [if_neg (by decide)]; omega)
      rw [hu]
      obtain ⟨r, h2, h3, h4⟩ := ih (.mk 21 (nextP p).text [(nextP p).lead] [t, u]) q hq (by omega) (by omega)
      exact ⟨r, h2, h3, by omega⟩
    · rw [if_neg ho]
      exact ⟨_, rfl, hE, Nat.le_refl _⟩
theorem tot_tree : ∀ n, 1 ≤ n → TotC (treeM n) n := by
  intro n
  induction n with
  | zero => intro h; omega
  | succ n ih =>
    intro _ s p hE hf
    have hpos := hE.pos
    unfold treeM
    by_cases hb : beginsP s p = 0
    · rw [if_pos hb]
      exact ⟨_, _, rfl, hE.fail 2, by rw [hE.fail_one]; exact hpos, .inr (hE.fail_one 2)⟩
    · rw [if_neg hb]
      have h2 := begins_long hE hb
      have hn : 1 ≤ n := by unfold fuelP at hf; omega
      have hT := ih hn
      obtain ⟨k0, k1, k2, k3, k4⟩ := begins_kind s p
      -- the node
      have node : ∃ t q, nodeG (treeM n) n (beginsP s p) (partsP (beginsP s p)) ⟨#[]⟩ [] [] [] p = some (t, q) ∧ EndP q ∧ lenP q ≤ lenP p ∧ (lenP q < lenP p ∨ lenP q = 1) := by
        by_cases h17 : beginsP s p = 17
        · have hs := k4 h17
          rw [h17]
          obtain ⟨t, q, ht, hq⟩ := hT 5 p hE (by unfold fuelP at hf ⊢; rw [if_pos hs] at hf; rw [if_neg (by decide)]; omega)
          refine ⟨.mk 17 ⟨#[]⟩ ([] ++ []) ([] ++ [t]), q, ?_, hq⟩
          show nodeG (treeM n) n 17 [oneP 5] ⟨#[]⟩ [] [] [] p = _
          unfold nodeG
          rw [if_neg (by decide), if_pos (by decide)]
          show (match treeM n 5 p with | none => none | some (t, q) => nodeG (treeM n) n 17 [] ⟨#[]⟩ [] ([] ++ [t]) [] q) = _
          rw [ht]
          rfl
        · obtain ⟨x, r, hx, hx0, hxs⟩ := parts_first ⟨(beginsP s p).toNat, by omega⟩ (by show (beginsP s p).toNat ≠ 0; omega) (by show (beginsP s p).toNat ≠ 17; omega) (by show (beginsP s p).toNat ≠ 21; omega)
          rw [show (((⟨(beginsP s p).toNat, by omega⟩ : Fin 23).val : Nat) : Int) = beginsP s p from by show (((beginsP s p).toNat : Nat) : Int) = _; omega] at hx
          rw [hx]
          unfold nodeG
          rw [hxs, if_neg (by decide), if_neg (fun h => h hx0)]
          have hle : lenP (tokenP x ⟨#[]⟩ [] p).2.2 + 1 ≤ lenP p := by
            unfold tokenP
            split
            · rename_i hf
              show lenP (takeP p) + 1 ≤ _
              rcases hE.cases with ⟨g1, g2, _⟩ | ⟨g1, g2, _⟩
              · exact Nat.le_of_eq (hE.take_lt (good_text g1.1))
              · exact absurd (begins_end g1 g2 s) hb
            · show lenP (failP p 2) + 1 ≤ _
              rw [hE.fail_one]
              exact h2
          obtain ⟨⟨t, q⟩, h3, h4, h5⟩ := tot_node hT (n := n) (kind := beginsP s p) r (tokenP x ⟨#[]⟩ [] p).1 (tokenP x ⟨#[]⟩ [] p).2.1 [] [] (tokenP x ⟨#[]⟩ [] p).2.2 (token_read hE).1 (by unfold fuelP at hf; omega) (by unfold fuelP at hf; omega)
          refine ⟨t, q, h3, h4, ?_, .inl ?_⟩
          · show lenP q ≤ _
            have h5 : lenP q ≤ _ := h5
            omega
          · have h5 : lenP q ≤ _ := h5
            omega
      obtain ⟨t, q, h3, h4, h5, h6⟩ := node
      rw [h3]
      obtain ⟨⟨t', q'⟩, h7, h8, h9⟩ := tot_ops hT (s := s) n t q h4 (by unfold fuelP at hf; omega) (by unfold fuelP at hf; omega)
      have h9 : lenP q' ≤ _ := h9
      exact ⟨t', q', h7, h8, by omega, by omega⟩
end Go.Proofs.Ytipkmffhebachaa
namespace Go.Proofs.Ytipkmffhebachaa
open Go.RowKit
theorem free_ends (c : Int) (hc : c ≤ 9223372036854775807) : ∀ (l : List Part) (a b k : Int), (seriesP l = 0 → a ≤ c ∧ c ≤ b) → (∀ x ∈ l, x.series = true → x.least ≤ c) → (freeL l a b k).1 ≤ c ∧ c ≤ (freeL l a b k).2.1 := by
  intro l
  induction l with
  | nil => intro a b k h _; exact h rfl
  | cons x r ih =>
    intro a b k h hl
    have hr := fun y hy => hl y (List.mem_cons_of_mem _ hy)
    unfold freeL
    cases hs : x.series
    · have h' : seriesP r = 0 → a ≤ c ∧ c ≤ b := fun h0 => h (by unfold seriesP; rw [hs, h0]; rfl)
      rw [if_neg (by decide)]
      split
      · exact ih _ _ _ h' hr
      · exact ih _ _ _ h' hr
    · rw [if_pos rfl]
      exact ih _ _ _ (fun _ => ⟨hl x (by simp) hs, hc⟩) hr
theorem most_le (c : Int) : ∀ l : List Part, okParts l = true → mostP l c = true → seriesP l ≠ 0 → c ≤ 40 := by
  intro l
  induction l with
  | nil => intro _ _ h; exact absurd rfl h
  | cons x r ih =>
    intro ho hm h
    unfold okParts at ho
    unfold mostP at hm
    simp only [Bool.and_eq_true, decide_eq_true_eq] at hm
    cases hs : x.series
    · simp only [Bool.and_eq_true] at ho
      refine ih ho.2 hm.2 (fun h0 => h ?_)
      unfold seriesP
      rw [hs, h0]
      rfl
    · rw [hs] at ho
      simp only [if_true, Bool.and_eq_true, decide_eq_true_eq] at ho
      have h1 := hm.1
      unfold countP at h1
      rw [hs, if_pos rfl] at h1
      have := ho.1.1.1.2
      omega
theorem trivL_of (kd : Int) : ∀ (l : List ByteArray) (i : Nat), (∀ j y, l[j]? = some y → triviaB y (kd == 1 && ((i + j : Nat) : Int) == 2) = true) → trivL kd i l = true := by
  intro l
  induction l with
  | nil => intro i _; rfl
  | cons a r ih =>
    intro i h
    unfold trivL
    rw [ih (i + 1) (fun j y hy => by
      have := h (j + 1) y (by rw [List.getElem?_cons_succ]; exact hy)
      rwa [show i + 1 + j = i + (j + 1) from by omega])]
    have := h 0 a rfl
    rw [Nat.add_zero] at this
    rw [this]
    rfl
theorem ledL_all : (ks : List Tr) → (∀ k ∈ ks, goodT k) → ledL ks = true
  | [], _ => by rw [ledL]
  | k :: r, h => by rw [ledL, ledL_all r (fun j hj => h j (List.mem_cons_of_mem _ hj)), (h k (by simp)).2.1]; rfl
theorem limL_all : (ks : List Tr) → (∀ k ∈ ks, goodT k) → limL ks = true
  | [], _ => by rw [limL]
  | k :: r, h => by rw [limL, limL_all r (fun j hj => h j (List.mem_cons_of_mem _ hj)), (h k (by simp)).2.2.1]; rfl
theorem wordsL_all : (ks : List Tr) → (∀ k ∈ ks, goodT k) → wordsL ks = true
  | [], _ => by rw [wordsL]
  | k :: r, h => by rw [wordsL, wordsL_all r (fun j hj => h j (List.mem_cons_of_mem _ hj)), (h k (by simp)).2.2.2]; rfl
theorem okParts_of {k : Int} (h1 : 1 ≤ k) (h2 : k < 23) : okParts (partsP k) = true ∧ hasEnd (partsP k) = (k == 1) ∧ partsP k ≠ [] := by
  obtain ⟨a, b, c, _⟩ := okParts_fin ⟨k.toNat, by omega⟩
  have e : (((⟨k.toNat, by omega⟩ : Fin 23).val : Nat) : Int) = k := by show ((k.toNat : Nat) : Int) = k; omega
  rw [e] at a b c
  refine ⟨a, ?_, c (by show k.toNat ≠ 0; omega)⟩
  rw [b, Bool.eq_iff_iff, beq_iff_eq, beq_iff_eq]
  show k.toNat = 1 ↔ _
  omega
theorem read_good {kind : Int} (h1 : 1 ≤ kind) (h2 : kind < 23) {p : PS} {r : Tr × PS} {tx : ByteArray} {lds : List ByteArray} {ks : List Tr} {cs : List ByteArray} {u : List Tok} (J : NodeOut (partsP kind) kind ⟨#[]⟩ [] [] [] p r tx lds ks cs u) :
    r.1.kind = kind ∧ goodT r.1 ∧ pieces r.1 = pcs u := by
  obtain ⟨ho, he, hne⟩ := okParts_of h1 h2
  have ht := J.tree
  simp only [List.nil_append] at ht
  obtain ⟨s1, s2⟩ := J.shape _ (.inr rfl)
  have hc0 : seriesP (partsP kind) = 0 → (ks.length : Int) - onesP (partsP kind) = 0 := fun h => by rw [J.kidsN.2 h]; omega
  have hcm : (ks.length : Int) - onesP (partsP kind) ≤ 9223372036854775807 := by
    by_cases h : seriesP (partsP kind) = 0
    · rw [hc0 h]; decide
    · have := most_le _ _ ho s2 h; omega
  have hfree : freeP (partsP kind) (ks.length : Int) = ((ks.length : Int) - onesP (partsP kind), true) := by
    unfold freeP
    rw [if_neg (by intro e; rcases e with e | e; exact hne e; omega), freeL_ones]
    obtain ⟨f1, f2⟩ := free_ends _ hcm (partsP kind) 0 0 (ks.length : Int) (fun h => by rw [hc0 h]; exact ⟨Int.le_refl _, Int.le_refl _⟩) J.least
    rw [decide_eq_true f1, decide_eq_true f2]
    rfl
  have hcs : (cs.length : Int) = commasP (partsP kind) ((ks.length : Int) - onesP (partsP kind)) ∧ ∀ y ∈ cs, OkLead y := by
    by_cases h : seriesP (partsP kind) = 0
    · rw [J.cs0 h, commasP_none _ h ho]
      exact ⟨rfl, fun y hy => by simp at hy⟩
    · exact ⟨(J.cs1 h).2, (J.cs1 h).1⟩
  have hnamed : namedP (partsP kind) tx = true := by
    by_cases h : namesP (partsP kind) = 0
    · rw [named_none _ _ h, J.text0 h]
      rfl
    · exact J.text1 h
  have hshape : shapedT r.1 = true := by
    rw [ht, shapedT, hfree, hnamed, s1]
    rfl
  have hled : ledT r.1 = true := by
    rw [ht, ledT, ledL_all ks J.good, trivL_of kind (lds ++ cs) 0 (fun j y hy => ?_)]
    · have hl : leadsP kind (ks.length : Int) = (tokensP (partsP kind) : Int) + commasP (partsP kind) ((ks.length : Int) - onesP (partsP kind)) := by
        unfold leadsP
        rw [hfree]
        rfl
      rw [hl, List.length_append, J.ldsN, ← hcs.1]
      simp
    · rw [Nat.zero_add]
      by_cases hj : j < lds.length
      · rw [List.getElem?_append_left hj] at hy
        have := (J.ldsT j y hy).1
        rw [he] at this
        by_cases hk : kind = 1
        · subst hk
          rw [show tokensP (partsP 1) = 3 from rfl] at this
          rw [show ((j : Int) == 2) = (j + 1 == 3) from by rw [Bool.eq_iff_iff, beq_iff_eq, beq_iff_eq]; omega]
          exact this
        · rw [beqF hk] at this ⊢
          exact this
      · rw [List.getElem?_append_right (by omega)] at hy
        have hm := List.mem_of_getElem? hy
        by_cases hk : kind = 1
        · subst hk
          have h0 := hcs.1
          have : commasP (partsP 1) ((ks.length : Int) - onesP (partsP 1)) = 0 := rfl
          rw [this] at h0
          have : cs = [] := List.eq_nil_of_length_eq_zero (by omega)
          rw [this] at hm
          simp at hm
        · rw [beqF hk]
          exact (hcs.2 y hm).1
  have hlim : limT r.1 = true := by
    rw [ht, limT, hfree, limL_all ks J.good, s2]
    rfl
  have hwords : wordsT r.1 = true := by
    rw [ht, wordsT, wordsL_all ks J.good, decide_eq_true (J.textS (by decide)), Bool.true_and, Bool.and_true, List.all_eq_true]
    intro y hy
    refine decide_eq_true ?_
    rcases List.mem_append.1 hy with hy | hy
    · obtain ⟨i, hi⟩ := List.getElem?_of_mem hy
      exact (J.ldsT i y hi).2
    · exact (hcs.2 y hy).2
  refine ⟨by rw [ht]; rfl, ⟨hshape, hled, hlim, hwords⟩, ?_⟩
  rw [ht, pieces_eq]
  show piecesN (freeP (partsP kind) (ks.length : Int)).1 tx ((lds ++ cs).drop (tokensP (partsP kind))) (partsP kind) (lds ++ cs) (ks.map pieces) = _
  rw [hfree, List.drop_left' J.ldsN]
  exact J.pieces _ _ _ (.inr ⟨rfl, rfl⟩)
theorem begins_has (s : Int) (p : PS) (h : beginsP s p ≠ 0) : hasB s (beginsP s p) = true := by
  unfold beginsP at h ⊢
  split
  · rename_i h4
    rw [if_pos h4] at h
    by_cases h5 : beginsQ 5 p ≠ 0
    · rw [if_pos h5, h4]
      rfl
    · rw [if_neg h5] at h
      exact absurd rfl h
  · rename_i h4
    rw [if_neg h4] at h
    have all : ∀ k : Int, (if hasB s k then k else 0) ≠ 0 → hasB s (if hasB s k then k else 0) = true := fun k h => by
      cases hb : hasB s k
      · rw [hb] at h
        exact absurd rfl h
      · exact hb
    exact all _ h
theorem has_operand {k : Int} (h : hasB 5 k = true) (h19 : k ≠ 19) (h20 : k ≠ 20) : hasB 6 k = true := by
  unfold hasB at h ⊢
  simp only [show (5 : Int) ≠ 1 from by decide, show (5 : Int) ≠ 2 from by decide, show (5 : Int) ≠ 3 from by decide, show (5 : Int) ≠ 4 from by decide, show (6 : Int) ≠ 1 from by decide, show (6 : Int) ≠ 2 from by decide, show (6 : Int) ≠ 3 from by decide, show (6 : Int) ≠ 4 from by decide, if_false, h19, h20, or_self] at h ⊢
  exact h
/-- An operator between two operands. -/
theorem bin_good {x l : ByteArray} {t u : Tr} (ho : opB x = true) (hl : OkLead l) (hx : x.size < maxLen) (h1 : hasB 6 t.kind = true) (h2 : hasB 7 u.kind = true) (g1 : goodT t) (g2 : goodT u) :
    goodT (.mk 21 x [l] [t, u]) ∧ pieces (.mk 21 x [l] [t, u]) = pieces t ++ ((l, x) :: pieces u) := by
  obtain ⟨a1, a2, a3, a4⟩ := g1
  obtain ⟨b1, b2, b3, b4⟩ := g2
  have hp : partsP 21 = [oneP 6, nameP 7, oneP 7] := rfl
  have hf : freeP [oneP 6, nameP 7, oneP 7] (([t, u] : List Tr).length : Int) = (0, true) := rfl
  refine ⟨⟨?_, ?_, ?_, ?_⟩, ?_⟩
  · rw [shapedT, hp, hf]
    show (true && nameB 7 (classN (bl x)) x && shapedL [t, u] [6, 7]) = true
    rw [shapedL_cons, shapedL_cons, shapedL_nil, h1, h2, a1, b1, show nameB 7 (classN (bl x)) x = opB x from rfl, ho]
    rfl
  · rw [ledT, ledL, ledL, ledL, a2, b2]
    show (((1 : Int) == 1) && trivL 21 0 [l] && (true && (true && true))) = true
    rw [trivL_of 21 [l] 0 (fun j y hy => by
      cases j with
      | zero => simp only [List.getElem?_cons_zero, Option.some.injEq] at hy; subst hy; exact hl.1
      | succ j => simp at hy)]
    rfl
  · rw [limT, hp, hf, limL, limL, limL, a3, b3]
    rfl
  · rw [wordsT, wordsL, wordsL, wordsL, a4, b4, decide_eq_true hx, List.all_cons, decide_eq_true hl.2]
    rfl
  · rw [pieces_eq]
    show piecesN (freeP [oneP 6, nameP 7, oneP 7] (([t, u] : List Tr).length : Int)).1 x [] [oneP 6, nameP 7, oneP 7] [l] [pieces t, pieces u] = _
    rw [hf]
    show ([] ++ pieces t ++ []) ++ ((l, x) :: (([] ++ pieces u ++ []) ++ [])) = _
    simp
theorem read_ops {T : Int → PS → Option (Tr × PS)} (hT : ReadC T) {s : Int} : ∀ (n : Nat) (t : Tr) (p : PS) (r : Tr × PS), opsG T s n t p = some r → EndP p →
    EndP r.2 ∧ (r.2.e = 0 → p.e = 0 ∧ (s = 5 → opB (nextP r.2).text = false) ∧ ∃ u, p.rest = u ++ r.2.rest ∧ (hasB s t.kind = true → goodT t → (s = 5 → opB (nextP p).text = true → hasB 6 t.kind = true) → pieces r.1 = pieces t ++ pcs u ∧ goodT r.1 ∧ hasB s r.1.kind = true)) := by
  intro n
  induction n with
  | zero => intro t p r h _; unfold opsG at h; cases h
  | succ n ih =>
    intro t p r h hE
    rcases opsG_step h with (⟨hs, ho, u, q, hu, hn⟩ | ⟨hs, ho, he⟩) | ⟨hs, he⟩
    · have hs5 : s = 5 := by simpa using hs
      have hcx : (nextP p).text ≠ ⟨#[]⟩ := fun e => by rw [e] at ho; cases ho
      obtain ⟨g1, g2, g3⟩ := hE.read hcx
      obtain ⟨hEq, hq⟩ := hT _ _ _ _ hE.take hu
      obtain ⟨hA, hB⟩ := ih _ _ _ hn hEq
      refine ⟨hA, fun e0 => ?_⟩
      obtain ⟨e1, e5, v, e2, e3⟩ := hB e0
      obtain ⟨f1, _, ⟨w, f2, f3⟩, f4, f5, _⟩ := hq e1
      refine ⟨by rw [← g3]; exact f1, e5, [nextP p] ++ w ++ v, by rw [g2, f2, e2]; simp only [List.append_assoc], fun k1 k2 k3 => ?_⟩
      obtain ⟨b1, b2⟩ := bin_good (x := (nextP p).text) (l := (nextP p).lead) ho ⟨g1.1.2.2, g1.2.1⟩ g1.2.2 (k3 hs5 ho) f4 k2 f5
      obtain ⟨c1, c2, c3⟩ := e3 (by rw [hs5]; rfl) b1 (fun _ _ => rfl)
      refine ⟨?_, c2, c3⟩
      rw [c1, b2, f3, pcs_append, pcs_append]
      simp [pcs]
    · subst he
      exact ⟨hE, fun e0 => ⟨e0, fun _ => ho, [], rfl, fun k1 k2 _ => ⟨by simp [pcs], k2, k1⟩⟩⟩
    · subst he
      have hs5 : s ≠ 5 := by simpa using hs
      exact ⟨hE, fun e0 => ⟨e0, fun h => absurd h hs5, [], rfl, fun k1 k2 _ => ⟨by simp [pcs], k2, k1⟩⟩⟩
theorem read_tree : ∀ n, ReadC (treeM n) := by
  intro n
  induction n with
  | zero => intro s p t q _ h; unfold treeM at h; cases h
  | succ n ih =>
    intro s p t q hE h
    rcases treeM_step h with ⟨_, he⟩ | ⟨hb, t0, q0, hN, ho⟩
    · injection he with h1 h2
      subst h2
      exact ⟨hE.fail 2, fun h => absurd h (fail_e p (by decide))⟩
    · have hb0 : beginsP s p ≠ 0 := by simpa using hb
      obtain ⟨k0, k1, k2, k3, k4⟩ := begins_kind s p
      obtain ⟨okp, hend, _⟩ := okParts_of (k := beginsP s p) (by omega) k1
      have hend : hasEnd (partsP (beginsP s p)) = false := by rw [hend]; exact beqF k3
      obtain ⟨hA, hB⟩ := read_node ih _ _ _ _ _ _ _ hN hE okp (fun _ => rfl)
      obtain ⟨hC, hD⟩ := read_ops ih _ _ _ _ ho hA
      refine ⟨hC, fun e0 => ?_⟩
      obtain ⟨e1, e5, v, e2, e3⟩ := hD e0
      obtain ⟨f1, f5, tx, lds, ks, cs, u, J⟩ := hB e1
      obtain ⟨g1, g2, g3⟩ := read_good (by omega) k1 J
      have hrest := J.rest
      rw [hend] at hrest
      have hhas := begins_has s p hb0
      obtain ⟨c1, c2, c3⟩ := e3 (by rw [g1]; exact hhas) g2 (fun hs5 hop => by
        rw [g1]
        by_cases h19 : beginsP s p = 19
        · rw [h19] at f5
          rw [f5 rfl] at hop
          cases hop
        · by_cases h20 : beginsP s p = 20
          · rw [h20] at f5
            rw [f5 rfl] at hop
            cases hop
          · rw [hs5] at hhas h19 h20 ⊢
            exact has_operand hhas h19 h20)
      exact ⟨f1, hb0, ⟨u ++ v, by rw [hrest, e2]; simp, by rw [c1, g3, pcs_append]⟩, c3, c2, e5⟩
end Go.Proofs.Ytipkmffhebachaa
