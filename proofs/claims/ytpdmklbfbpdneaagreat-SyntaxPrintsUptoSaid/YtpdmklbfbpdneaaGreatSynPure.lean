/- Plain functions in whose words the contracts of package syntax are stated: what the nodes of a kind consist of, trees, the parser on lists of tokens. No condition. -/
import Derived.Test.YtpdmklbfbpdneaaGreatLexPlain
namespace Go.Proofs.YtpdmklbfbpdneaaGreat
/-- A tree. -/
inductive Tr where
  | mk (kind : Int) (text : ByteArray) (leads : List ByteArray) (kids : List Tr)
def Tr.kind : Tr → Int | .mk k _ _ _ => k
def Tr.text : Tr → ByteArray | .mk _ x _ _ => x
def Tr.leads : Tr → List ByteArray | .mk _ _ l _ => l
def Tr.kids : Tr → List Tr | .mk _ _ _ l => l
theorem Tr.eta (t : Tr) : Tr.mk t.kind t.text t.leads t.kids = t := by cases t; rfl
def noTr : Tr := .mk 0 ⟨#[]⟩ [] []
/-- A part of a node. nm: the test of its name: 0 none, 1 upper, 2 lower, 3 reference, 4 callee, 5 number, 6 quoted, 7 operator. -/
structure Part where
  word : ByteArray
  nm : Nat
  kids : Int
  least : Int
  most : Int
  series : Bool
  commas : Bool
def wordP (s : ByteArray) : Part := ⟨s, 0, 0, 0, 0, false, false⟩
def nameP (n : Nat) : Part := ⟨⟨#[]⟩, n, 0, 0, 0, false, false⟩
def oneP (s : Int) : Part := ⟨⟨#[]⟩, 0, s, 0, 1, false, false⟩
def manyP (s least most : Int) : Part := ⟨⟨#[]⟩, 0, s, least, most, true, s != 1⟩
def partsP (k : Int) : List Part :=
  if k = 1 then [wordP ⟨#[109, 111, 100, 117, 108, 101]⟩, nameP 1, manyP 1 0 40, wordP ⟨#[]⟩]
  else if k = 2 then [wordP ⟨#[100, 101, 102]⟩, nameP 2, wordP ⟨#[40]⟩, manyP 2 0 8, wordP ⟨#[41]⟩, wordP ⟨#[58]⟩, oneP 3, wordP ⟨#[61]⟩, oneP 5]
  else if k = 3 then [wordP ⟨#[116, 121, 112, 101]⟩, nameP 1, wordP ⟨#[61]⟩, oneP 3]
  else if k = 4 then [nameP 2, wordP ⟨#[58]⟩, oneP 3]
  else if k = 5 then [wordP ⟨#[73, 110, 116]⟩]
  else if k = 6 then [wordP ⟨#[84, 101, 120, 116]⟩]
  else if k = 7 then [wordP ⟨#[66, 111, 111, 108]⟩]
  else if k = 8 then [wordP ⟨#[91]⟩, oneP 3, wordP ⟨#[93]⟩]
  else if k = 9 then [nameP 3]
  else if k = 10 then [nameP 5]
  else if k = 11 then [nameP 6]
  else if k = 12 then [nameP 2]
  else if k = 13 then [wordP ⟨#[116, 114, 117, 101]⟩]
  else if k = 14 then [wordP ⟨#[102, 97, 108, 115, 101]⟩]
  else if k = 15 then [wordP ⟨#[63]⟩]
  else if k = 16 then [nameP 4, wordP ⟨#[40]⟩, manyP 4 0 8, wordP ⟨#[41]⟩]
  else if k = 17 then [oneP 5]
  else if k = 18 then [wordP ⟨#[91]⟩, manyP 5 1 16, wordP ⟨#[93]⟩]
  else if k = 19 then [wordP ⟨#[105, 102]⟩, oneP 5, wordP ⟨#[116, 104, 101, 110]⟩, oneP 5, wordP ⟨#[101, 108, 115, 101]⟩, oneP 5]
  else if k = 20 then [wordP ⟨#[108, 101, 116]⟩, nameP 2, wordP ⟨#[61]⟩, oneP 5, wordP ⟨#[105, 110]⟩, oneP 5]
  else if k = 21 then [oneP 6, nameP 7, oneP 7]
  else if k = 22 then [wordP ⟨#[40]⟩, oneP 5, wordP ⟨#[41]⟩]
  else []
/-- Is a text this one? -/
def is (x : ByteArray) (l : List UInt8) : Bool := x.data.toList == l
def opB (x : ByteArray) : Bool := is x [43] || is x [45] || is x [42] || is x [60] || is x [61, 61]
def nameB (n : Nat) (k : Int) (x : ByteArray) : Bool :=
  if n = 1 then k == 2
  else if n = 2 then k == 1
  else if n = 3 then k == 2 || k == 4
  else if n = 4 then k == 1 || k == 3
  else if n = 5 then k == 5
  else if n = 6 then k == 6
  else opB x
def hasB (s k : Int) : Bool :=
  if s = 1 then k == 2 || k == 3
  else if s = 2 then k == 4
  else if s = 3 then decide (5 ≤ k) && decide (k ≤ 9)
  else if s = 4 then k == 17
  else if k = 17 then false
  else if k = 19 ∨ k = 20 then s == 5
  else if k = 21 then s != 7
  else decide (10 ≤ k) && decide (k ≤ 22)
def fitsB (x : Part) (t : Tok) : Bool := if x.nm = 0 then is t.text x.word.data.toList else nameB x.nm t.kind t.text
/-- The state of the parser. -/
structure PS where
  rest : List Tok
  read : Nat
  place : Nat
  e : Nat
def noTok : Tok := ⟨0, ⟨#[]⟩, ⟨#[]⟩⟩
def nextP (p : PS) : Tok := p.rest.headD noTok
def takeP (p : PS) : PS := if 1 < p.rest.length then ⟨p.rest.drop 1, p.read + ((nextP p).lead.size + (nextP p).text.size), p.place, p.e⟩ else p
def failP (p : PS) (e : Nat) : PS := ⟨p.rest.drop (p.rest.length - 1), p.read, if p.e = 0 then p.read + (nextP p).lead.size else p.place, if p.e = 0 then e else p.e⟩
def defKind (x : ByteArray) : Int := if is x [100, 101, 102] then 2 else if is x [116, 121, 112, 101] then 3 else 0
def typeKind (t : Tok) : Int := if is t.text [73, 110, 116] then 5 else if is t.text [84, 101, 120, 116] then 6 else if is t.text [66, 111, 111, 108] then 7 else if is t.text [91] then 8 else if t.kind = 2 ∨ t.kind = 4 then 9 else 0
def exprKind (p : PS) : Int :=
  if (nextP p).kind = 5 then 10
  else if (nextP p).kind = 6 then 11
  else if (nextP p).kind = 3 then 16
  else if (nextP p).kind = 1 then (if is ((p.rest.drop 1).headD noTok).text [40] then 16 else 12)
  else if is (nextP p).text [116, 114, 117, 101] then 13
  else if is (nextP p).text [102, 97, 108, 115, 101] then 14
  else if is (nextP p).text [63] then 15
  else if is (nextP p).text [91] then 18
  else if is (nextP p).text [105, 102] then 19
  else if is (nextP p).text [108, 101, 116] then 20
  else if is (nextP p).text [40] then 22
  else 0
/-- begins, but for arguments. -/
def beginsQ (s : Int) (p : PS) : Int :=
  let k := if s = 1 then defKind (nextP p).text else if s = 2 then (if (nextP p).kind = 1 then 4 else 0) else if s = 3 then typeKind (nextP p) else exprKind p
  if hasB s k then k else 0
def beginsP (s : Int) (p : PS) : Int := if s = 4 then (if beginsQ 5 p ≠ 0 then 17 else 0) else beginsQ s p
/-- The loop of series: kids and commas so far, and whether there is more. -/
def seriesG (T : Int → PS → Option (Tr × PS)) (x : Part) : Nat → Bool → List Tr → List ByteArray → PS → Option (List Tr × List ByteArray × PS)
  | _, false, ks, cs, p => some (ks, cs, p)
  | 0, true, _, _, _ => none
  | n + 1, true, ks, cs, p =>
    match T x.kids (if (ks.length : Int) = x.most ∧ beginsP x.kids p ≠ 0 then failP p 3 else p) with
    | none => none
    | some (t, q) =>
      if x.commas then
        if is (nextP q).text [44] then seriesG T x n true (ks ++ [t]) (cs ++ [(nextP q).lead]) (takeP q)
        else seriesG T x n false (ks ++ [t]) cs q
      else seriesG T x n (beginsP x.kids q != 0) (ks ++ [t]) cs q
def tokenP (x : Part) (text : ByteArray) (leads : List ByteArray) (p : PS) : ByteArray × List ByteArray × PS :=
  if fitsB x (nextP p) then (if x.nm = 0 then text else (nextP p).text, leads ++ [(nextP p).lead], takeP p)
  else (text, leads, failP p 2)
/-- The loop of node over the parts that are left. -/
def nodeG (T : Int → PS → Option (Tr × PS)) (n : Nat) (kind : Int) : List Part → ByteArray → List ByteArray → List Tr → List ByteArray → PS → Option (Tr × PS)
  | [], text, leads, kids, commas, p => some (.mk kind text (leads ++ commas) kids, p)
  | x :: l, text, leads, kids, commas, p =>
    if x.series then
      match seriesG T x n (decide (0 < x.least) || beginsP x.kids p != 0) [] [] p with
      | none => none
      | some (ks, cs, q) => nodeG T n kind l text leads (kids ++ ks) cs q
    else if x.kids ≠ 0 then
      match T x.kids p with
      | none => none
      | some (t, q) => nodeG T n kind l text leads (kids ++ [t]) commas q
    else nodeG T n kind l (tokenP x text leads p).1 (tokenP x text leads p).2.1 kids commas (tokenP x text leads p).2.2
/-- The operators behind an expression. -/
def opsG (T : Int → PS → Option (Tr × PS)) (s : Int) : Nat → Tr → PS → Option (Tr × PS)
  | 0, _, _ => none
  | n + 1, t, p =>
    if s = 5 ∧ opB (nextP p).text = true then
      match T 7 (takeP p) with
      | none => none
      | some (u, q) => opsG T s n (.mk 21 (nextP p).text [(nextP p).lead] [t, u]) q
    else some (t, p)
def treeM : Nat → Int → PS → Option (Tr × PS)
  | 0, _, _ => none
  | n + 1, s, p =>
    if beginsP s p = 0 then some (noTr, failP p 2)
    else match nodeG (treeM n) n (beginsP s p) (partsP (beginsP s p)) ⟨#[]⟩ [] [] [] p with
      | none => none
      | some (t, q) => opsG (treeM n) s n t q
mutual
def withinT : Tr → Nat → Bool
  | _, 0 => false
  | .mk _ _ _ l, n + 1 => withinL l n
def withinL : List Tr → Nat → Bool
  | [], _ => true
  | t :: r, n => withinT t n && withinL r n
end
/-- What Parse answers: the tree, the place, the error; none: the fuel did not do. -/
def parseM (fuel : Nat) (s : ByteArray) : Option (Tr × Nat × Nat) :=
  if (scanR s).e ≠ 0 then some (noTr, (scanR s).place, (scanR s).e)
  else match nodeG (treeM fuel) fuel 1 (partsP 1) ⟨#[]⟩ [] [] [] ⟨(scanR s).toks ++ [⟨0, (scanR s).tail, ⟨#[]⟩⟩], 0, 0, 0⟩ with
    | none => none
    | some (t, p) => some (if p.e ≠ 0 then (noTr, p.place, p.e) else if withinT t 40 then (t, 0, 0) else (noTr, 0, 4))
/-- What the parser wants of its state: there is an end, and nothing is too long. -/
structure PSok (p : PS) : Prop where
  last : ∃ l e, p.rest = l ++ [e] ∧ e.kind = 0
  len : p.rest.length ≤ 65536
  bytes : p.read + (p.rest.map fun t => t.lead.size + t.text.size).sum ≤ 16777216
  place : p.place ≤ 16777216
theorem PSok.ne {p : PS} (h : PSok p) : p.rest ≠ [] := by
  obtain ⟨l, e, h, _⟩ := h.last
  rw [h]
  simp
theorem PSok.next {p : PS} (h : PSok p) : p.rest = nextP p :: p.rest.drop 1 := by
  have := h.ne
  unfold nextP
  cases hr : p.rest with
  | nil => exact absurd hr this
  | cons a r => rfl
theorem PSok.nextLe {p : PS} (h : PSok p) : p.read + ((nextP p).lead.size + (nextP p).text.size) ≤ 16777216 := by
  have h1 := h.bytes
  rw [h.next, List.map_cons, List.sum_cons] at h1
  omega
theorem PSok.take {p : PS} (h : PSok p) : PSok (takeP p) := by
  unfold takeP
  split
  · rename_i hl
    obtain ⟨l, e, hr, he⟩ := h.last
    refine ⟨⟨l.drop 1, e, ?_, he⟩, by have := h.len; simp only [List.length_drop]; omega, ?_, h.place⟩
    · show p.rest.drop 1 = _
      rw [hr] at hl ⊢
      cases l with
      | nil => simp at hl
      | cons a r => rfl
    · have h1 := h.bytes
      rw [h.next, List.map_cons, List.sum_cons] at h1
      show p.read + _ + ((p.rest.drop 1).map _).sum ≤ _
      omega
  · exact h
theorem sum_drop_le (l : List Nat) (n : Nat) : (l.drop n).sum ≤ l.sum := by
  induction l generalizing n with
  | nil => simp
  | cons a r ih =>
    cases n with
    | zero => simp
    | succ n => rw [List.drop_succ_cons, List.sum_cons]; have := ih n; omega
theorem PSok.fail {p : PS} (h : PSok p) (e : Nat) : PSok (failP p e) := by
  obtain ⟨l, x, hr, hx⟩ := h.last
  unfold failP
  refine ⟨⟨[], x, ?_, hx⟩, by have := h.len; simp only [List.length_drop]; omega, ?_, ?_⟩
  · show p.rest.drop _ = _
    rw [hr, List.length_append]
    simp
  · have h1 := h.bytes
    show p.read + ((p.rest.drop _).map _).sum ≤ _
    rw [List.map_drop]
    have := sum_drop_le (p.rest.map fun t => t.lead.size + t.text.size) (p.rest.length - 1)
    omega
  · show (if p.e = 0 then p.read + (nextP p).lead.size else p.place) ≤ _
    have h1 := h.nextLe
    have h2 := h.place
    split <;> omega
theorem PSok.second {p : PS} (h : PSok p) (hk : (nextP p).kind ≠ 0) : 2 ≤ p.rest.length := by
  obtain ⟨l, e, hr, he⟩ := h.last
  cases l with
  | nil =>
    exfalso
    apply hk
    unfold nextP
    rw [hr]
    exact he
  | cons a r => rw [hr]; simp
end Go.Proofs.YtpdmklbfbpdneaaGreat
