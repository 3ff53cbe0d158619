/- Operators in a row, scanned and parsed; plain. -/
import Derived.Test.YtipkmffhebachaaSynRoundP
namespace Go.Proofs.Ytipkmffhebachaa
open Go.RowKit
def numTr : Tr := .mk 10 ⟨#[49]⟩ [⟨#[32]⟩] []
def zeroTr : Tr := .mk 10 ⟨#[48]⟩ [⟨#[32]⟩] []
def opT (i : Nat) : ByteArray := if i = 0 then ⟨#[43]⟩ else if i = 1 then ⟨#[45]⟩ else if i = 2 then ⟨#[42]⟩ else if i = 3 then ⟨#[60]⟩ else ⟨#[61, 61]⟩
def lvToks : List Nat → List Tok
  | [] => []
  | i :: r => ⟨8, ⟨#[32]⟩, opT i⟩ :: ⟨5, ⟨#[32]⟩, ⟨#[49]⟩⟩ :: lvToks r
def lvTree (t : Tr) : List Nat → Tr
  | [] => t
  | i :: r => lvTree (.mk 21 (opT i) [⟨#[32]⟩] [t, numTr]) r
theorem opT_op (i : Nat) : opB (opT i) = true := by
  unfold opT
  repeat' split
  all_goals rfl
theorem take_two (a b : Tok) (r : List Tok) (rd pl e : Nat) : takeP ⟨a :: b :: r, rd, pl, e⟩ = ⟨b :: r, rd + (a.lead.size + a.text.size), pl, e⟩ := by
  unfold takeP nextP
  simp
theorem unit_one (m : Nat) (b : Tok) (r : List Tok) (rd : Nat) : treeM (m + 2) 7 ⟨⟨5, ⟨#[32]⟩, ⟨#[49]⟩⟩ :: b :: r, rd, 0, 0⟩ = some (numTr, ⟨b :: r, rd + 2, 0, 0⟩) := by rfl
theorem lv_next (os : List Nat) (e : Tok) : ∃ b r, lvToks os ++ [e] = b :: r := by
  cases os with
  | nil => exact ⟨_, _, rfl⟩
  | cons i r => exact ⟨_, _, rfl⟩
theorem ops_lv (m : Nat) (e : Tok) (he : opB e.text = false) : ∀ (os : List Nat) (t : Tr) (n rd : Nat), os.length < n → ∃ rd', opsG (treeM (m + 2)) 5 n t ⟨lvToks os ++ [e], rd, 0, 0⟩ = some (lvTree t os, ⟨[e], rd', 0, 0⟩) := by
  intro os
  induction os with
  | nil =>
    intro t n rd hn
    obtain ⟨n, rfl⟩ : ∃ k, n = k + 1 := ⟨n - 1, by simp at hn; omega⟩
    refine ⟨rd, ?_⟩
    unfold opsG
    rw [if_neg (fun h => by have h2 : opB e.text = true := h.2; rw [he] at h2; cases h2)]
    rfl
  | cons i r ih =>
    intro t n rd hn
    rw [List.length_cons] at hn
    obtain ⟨n, rfl⟩ : ∃ k, n = k + 1 := ⟨n - 1, by omega⟩
    obtain ⟨b, r', hb⟩ := lv_next r e
    obtain ⟨rd', h⟩ := ih (.mk 21 (opT i) [⟨#[32]⟩] [t, numTr]) n (rd + (1 + (opT i).size) + 2) (by omega)
    refine ⟨rd', ?_⟩
    show opsG (treeM (m + 2)) 5 (n + 1) t ⟨⟨8, ⟨#[32]⟩, opT i⟩ :: ⟨5, ⟨#[32]⟩, ⟨#[49]⟩⟩ :: (lvToks r ++ [e]), rd, 0, 0⟩ = some (lvTree (.mk 21 (opT i) [⟨#[32]⟩] [t, numTr]) r, _)
    unfold opsG
    rw [if_pos ⟨rfl, opT_op i⟩, take_two, hb, unit_one, ← hb]
    exact h
theorem zero_lv (m : Nat) (e : Tok) (he : opB e.text = false) (os : List Nat) (rd : Nat) (hm : os.length < m + 2) : ∃ rd', treeM (m + 3) 5 ⟨⟨5, ⟨#[32]⟩, ⟨#[48]⟩⟩ :: (lvToks os ++ [e]), rd, 0, 0⟩ = some (lvTree zeroTr os, ⟨[e], rd', 0, 0⟩) := by
  obtain ⟨b, r', hb⟩ := lv_next os e
  obtain ⟨rd', h⟩ := ops_lv m e he os zeroTr (m + 2) (rd + 2) hm
  refine ⟨rd', ?_⟩
  rw [hb] at h ⊢
  have hn : nodeG (treeM (m + 2)) (m + 2) 10 (partsP 10) ⟨#[]⟩ [] [] [] ⟨⟨5, ⟨#[32]⟩, ⟨#[48]⟩⟩ :: b :: r', rd, 0, 0⟩ = some (zeroTr, ⟨b :: r', rd + 2, 0, 0⟩) := rfl
  have hk : beginsP 5 ⟨⟨5, ⟨#[32]⟩, ⟨#[48]⟩⟩ :: b :: r', rd, 0, 0⟩ = 10 := rfl
  unfold treeM
  rw [hk, if_neg (by decide), hn]
  exact h
def defTr (x : Tr) : Tr := .mk 2 ⟨#[102]⟩ [⟨#[32]⟩, ⟨#[32]⟩, ⟨#[]⟩, ⟨#[]⟩, ⟨#[]⟩, ⟨#[32]⟩] [.mk 5 ⟨#[]⟩ [⟨#[32]⟩] [], x]
def modTr (x : Tr) : Tr := .mk 1 ⟨#[77]⟩ [⟨#[]⟩, ⟨#[32]⟩, ⟨#[]⟩] [defTr x]
def endT : Tok := ⟨0, ⟨#[]⟩, ⟨#[]⟩⟩
def preT : List Tok := [⟨7, ⟨#[]⟩, ⟨#[109, 111, 100, 117, 108, 101]⟩⟩, ⟨2, ⟨#[32]⟩, ⟨#[77]⟩⟩, ⟨7, ⟨#[32]⟩, ⟨#[100, 101, 102]⟩⟩, ⟨1, ⟨#[32]⟩, ⟨#[102]⟩⟩, ⟨8, ⟨#[]⟩, ⟨#[40]⟩⟩, ⟨8, ⟨#[]⟩, ⟨#[41]⟩⟩, ⟨8, ⟨#[]⟩, ⟨#[58]⟩⟩, ⟨7, ⟨#[32]⟩, ⟨#[73, 110, 116]⟩⟩, ⟨8, ⟨#[32]⟩, ⟨#[61]⟩⟩, ⟨5, ⟨#[32]⟩, ⟨#[48]⟩⟩]
theorem series_one {T : Int → PS → Option (Tr × PS)} {x : Part} {n : Nat} {p q : PS} {t : Tr} (hm : x.most ≠ 0) (hc : x.commas = false) (ht : T x.kids p = some (t, q)) (hb : beginsP x.kids q = 0) : seriesG T x (n + 1) true [] [] p = some ([t], [], q) := by
  have hl : (if (([] : List Tr).length : Int) = x.most ∧ beginsP x.kids p ≠ 0 then failP p 3 else p) = p := if_neg (fun h => hm h.1.symm)
  unfold seriesG
  rw [hl, ht]
  dsimp only
  rw [hc, if_neg (by decide), hb]
  cases n <;> rfl
theorem node_series {T : Int → PS → Option (Tr × PS)} {n : Nat} {kind : Int} {x : Part} {l : List Part} {text : ByteArray} {leads : List ByteArray} {kids ks : List Tr} {commas cs : List ByteArray} {p q : PS} (hs : x.series = true) (hm : (decide (0 < x.least) || beginsP x.kids p != 0) = true) (h : seriesG T x n true [] [] p = some (ks, cs, q)) :
    nodeG T n kind (x :: l) text leads kids commas p = nodeG T n kind l text leads (kids ++ ks) cs q := by
  conv => lhs; unfold nodeG
  rw [if_pos hs, hm, h]
theorem parseM_of {n : Nat} {s : ByteArray} {ts : List Tok} {tail : ByteArray} {t : Tr} {p : PS} (hs : scanR s = ⟨ts, tail, 0, 0⟩) (hn : nodeG (treeM n) n 1 (partsP 1) ⟨#[]⟩ [] [] [] ⟨ts ++ [⟨0, tail, ⟨#[]⟩⟩], 0, 0, 0⟩ = some (t, p)) (he : p.e = 0) (hw : withinT t 40 = true) : parseM n s = some (t, 0, 0) := by
  unfold parseM
  rw [hs]
  dsimp only
  rw [if_neg (fun h => h rfl), hn]
  dsimp only
  rw [if_neg (fun h => h he), if_pos hw]
theorem def_lv (m : Nat) (os : List Nat) (rd : Nat) (hm : os.length < m + 2) : ∃ rd', treeM (m + 4) 1 ⟨⟨7, ⟨#[32]⟩, ⟨#[100, 101, 102]⟩⟩ :: ⟨1, ⟨#[32]⟩, ⟨#[102]⟩⟩ :: ⟨8, ⟨#[]⟩, ⟨#[40]⟩⟩ :: ⟨8, ⟨#[]⟩, ⟨#[41]⟩⟩ :: ⟨8, ⟨#[]⟩, ⟨#[58]⟩⟩ :: ⟨7, ⟨#[32]⟩, ⟨#[73, 110, 116]⟩⟩ :: ⟨8, ⟨#[32]⟩, ⟨#[61]⟩⟩ :: ⟨5, ⟨#[32]⟩, ⟨#[48]⟩⟩ :: (lvToks os ++ [endT]), rd, 0, 0⟩ = some (defTr (lvTree zeroTr os), ⟨[endT], rd', 0, 0⟩) := by
  obtain ⟨b, r', hb⟩ := lv_next os endT
  obtain ⟨rd', h⟩ := zero_lv m endT rfl os (rd + 15) hm
  refine ⟨rd', ?_⟩
  rw [hb] at h ⊢
  have hk : beginsP 1 ⟨⟨7, ⟨#[32]⟩, ⟨#[100, 101, 102]⟩⟩ :: ⟨1, ⟨#[32]⟩, ⟨#[102]⟩⟩ :: ⟨8, ⟨#[]⟩, ⟨#[40]⟩⟩ :: ⟨8, ⟨#[]⟩, ⟨#[41]⟩⟩ :: ⟨8, ⟨#[]⟩, ⟨#[58]⟩⟩ :: ⟨7, ⟨#[32]⟩, ⟨#[73, 110, 116]⟩⟩ :: ⟨8, ⟨#[32]⟩, ⟨#[61]⟩⟩ :: ⟨5, ⟨#[32]⟩, ⟨#[48]⟩⟩ :: b :: r', rd, 0, 0⟩ = 2 := rfl
  have hn : nodeG (treeM (m + 3)) (m + 3) 2 (partsP 2) ⟨#[]⟩ [] [] [] ⟨⟨7, ⟨#[32]⟩, ⟨#[100, 101, 102]⟩⟩ :: ⟨1, ⟨#[32]⟩, ⟨#[102]⟩⟩ :: ⟨8, ⟨#[]⟩, ⟨#[40]⟩⟩ :: ⟨8, ⟨#[]⟩, ⟨#[41]⟩⟩ :: ⟨8, ⟨#[]⟩, ⟨#[58]⟩⟩ :: ⟨7, ⟨#[32]⟩, ⟨#[73, 110, 116]⟩⟩ :: ⟨8, ⟨#[32]⟩, ⟨#[61]⟩⟩ :: ⟨5, ⟨#[32]⟩, ⟨#[48]⟩⟩ :: b :: r', rd, 0, 0⟩ = nodeG (treeM (m + 3)) (m + 3) 2 [oneP 5] ⟨#[102]⟩ [⟨#[32]⟩, ⟨#[32]⟩, ⟨#[]⟩, ⟨#[]⟩, ⟨#[]⟩, ⟨#[32]⟩] [.mk 5 ⟨#[]⟩ [⟨#[32]⟩] []] [] ⟨⟨5, ⟨#[32]⟩, ⟨#[48]⟩⟩ :: b :: r', rd + 15, 0, 0⟩ := by kernel_rfl
  have hn2 : nodeG (treeM (m + 3)) (m + 3) 2 (partsP 2) ⟨#[]⟩ [] [] [] ⟨⟨7, ⟨#[32]⟩, ⟨#[100, 101, 102]⟩⟩ :: ⟨1, ⟨#[32]⟩, ⟨#[102]⟩⟩ :: ⟨8, ⟨#[]⟩, ⟨#[40]⟩⟩ :: ⟨8, ⟨#[]⟩, ⟨#[41]⟩⟩ :: ⟨8, ⟨#[]⟩, ⟨#[58]⟩⟩ :: ⟨7, ⟨#[32]⟩, ⟨#[73, 110, 116]⟩⟩ :: ⟨8, ⟨#[32]⟩, ⟨#[61]⟩⟩ :: ⟨5, ⟨#[32]⟩, ⟨#[48]⟩⟩ :: b :: r', rd, 0, 0⟩ = some (defTr (lvTree zeroTr os), ⟨[endT], rd', 0, 0⟩) := by
    rw [hn]
    show (match treeM (m + 3) 5 _ with | none => none | some (t, q) => nodeG (treeM (m + 3)) (m + 3) 2 [] ⟨#[102]⟩ _ ([Tr.mk 5 ⟨#[]⟩ [⟨#[32]⟩] []] ++ [t]) [] q) = _
    rw [h]
    rfl
  unfold treeM
  rw [hk, if_neg (by decide), hn2]
  rfl
theorem mod_lv (m : Nat) (os : List Nat) (hm : os.length < m + 2) : ∃ rd', nodeG (treeM (m + 4)) (m + 4) 1 (partsP 1) ⟨#[]⟩ [] [] [] ⟨⟨7, ⟨#[]⟩, ⟨#[109, 111, 100, 117, 108, 101]⟩⟩ :: ⟨2, ⟨#[32]⟩, ⟨#[77]⟩⟩ :: ⟨7, ⟨#[32]⟩, ⟨#[100, 101, 102]⟩⟩ :: ⟨1, ⟨#[32]⟩, ⟨#[102]⟩⟩ :: ⟨8, ⟨#[]⟩, ⟨#[40]⟩⟩ :: ⟨8, ⟨#[]⟩, ⟨#[41]⟩⟩ :: ⟨8, ⟨#[]⟩, ⟨#[58]⟩⟩ :: ⟨7, ⟨#[32]⟩, ⟨#[73, 110, 116]⟩⟩ :: ⟨8, ⟨#[32]⟩, ⟨#[61]⟩⟩ :: ⟨5, ⟨#[32]⟩, ⟨#[48]⟩⟩ :: (lvToks os ++ [endT]), 0, 0, 0⟩ = some (modTr (lvTree zeroTr os), ⟨[endT], rd', 0, 0⟩) := by
  obtain ⟨b, r', hb⟩ := lv_next os endT
  obtain ⟨rd', h⟩ := def_lv m os 8 hm
  refine ⟨rd', ?_⟩
  rw [hb] at h ⊢
  have hn : nodeG (treeM (m + 4)) (m + 4) 1 (partsP 1) ⟨#[]⟩ [] [] [] ⟨⟨7, ⟨#[]⟩, ⟨#[109, 111, 100, 117, 108, 101]⟩⟩ :: ⟨2, ⟨#[32]⟩, ⟨#[77]⟩⟩ :: ⟨7, ⟨#[32]⟩, ⟨#[100, 101, 102]⟩⟩ :: ⟨1, ⟨#[32]⟩, ⟨#[102]⟩⟩ :: ⟨8, ⟨#[]⟩, ⟨#[40]⟩⟩ :: ⟨8, ⟨#[]⟩, ⟨#[41]⟩⟩ :: ⟨8, ⟨#[]⟩, ⟨#[58]⟩⟩ :: ⟨7, ⟨#[32]⟩, ⟨#[73, 110, 116]⟩⟩ :: ⟨8, ⟨#[32]⟩, ⟨#[61]⟩⟩ :: ⟨5, ⟨#[32]⟩, ⟨#[48]⟩⟩ :: b :: r', 0, 0, 0⟩ = nodeG (treeM (m + 4)) (m + 4) 1 [manyP 1 0 40, wordP ⟨#[]⟩] ⟨#[77]⟩ [⟨#[]⟩, ⟨#[32]⟩] [] [] ⟨⟨7, ⟨#[32]⟩, ⟨#[100, 101, 102]⟩⟩ :: ⟨1, ⟨#[32]⟩, ⟨#[102]⟩⟩ :: ⟨8, ⟨#[]⟩, ⟨#[40]⟩⟩ :: ⟨8, ⟨#[]⟩, ⟨#[41]⟩⟩ :: ⟨8, ⟨#[]⟩, ⟨#[58]⟩⟩ :: ⟨7, ⟨#[32]⟩, ⟨#[73, 110, 116]⟩⟩ :: ⟨8, ⟨#[32]⟩, ⟨#[61]⟩⟩ :: ⟨5, ⟨#[32]⟩, ⟨#[48]⟩⟩ :: b :: r', 8, 0, 0⟩ := by kernel_rfl
  rw [hn, node_series (x := manyP 1 0 40) rfl (by kernel_rfl) (series_one (x := manyP 1 0 40) (n := m + 3) (by decide) rfl h rfl)]
  rfl
theorem within_lv : ∀ (os : List Nat) (t : Tr) (d : Nat), 1 ≤ d → withinT t d = true → withinT (lvTree t os) (d + os.length) = true := by
  intro os
  induction os with
  | nil => intro t d _ h; exact h
  | cons i r ih =>
    intro t d hd h
    have h2 : withinT (.mk 21 (opT i) [⟨#[32]⟩] [t, numTr]) (d + 1) = true := by
      rw [withinT_step]
      show withinL [t, numTr] d = true
      obtain ⟨d, rfl⟩ : ∃ k, d = k + 1 := ⟨d - 1, by omega⟩
      rw [withinL, withinL, withinL, h, withinT_step]
      rfl
    have := ih _ (d + 1) (by omega) h2
    rw [List.length_cons, show d + (r.length + 1) = d + 1 + r.length from by omega]
    exact this
def lvSrc (os : List Nat) : ByteArray := os.foldl (fun s i => s ++ ⟨#[32]⟩ ++ opT i ++ ⟨#[32, 49]⟩) ⟨#[109, 111, 100, 117, 108, 101, 32, 77, 32, 100, 101, 102, 32, 102, 40, 41, 58, 32, 73, 110, 116, 32, 61, 32, 48]⟩
theorem lv_bytes : ∀ (os : List Nat) (s : ByteArray), bl (os.foldl (fun s i => s ++ ⟨#[32]⟩ ++ opT i ++ ⟨#[32, 49]⟩) s) = bl s ++ joinL (lvToks os) [] := by
  intro os
  induction os with
  | nil => intro s; simp [joinL, lvToks]
  | cons i r ih =>
    intro s
    rw [List.foldl_cons, ih, bl_append, bl_append, bl_append]
    rw [lvToks]
    unfold joinL
    rw [List.flatMap_cons, List.flatMap_cons]
    show bl s ++ [32] ++ bl (opT i) ++ [32, 49] ++ _ = bl s ++ ([32] ++ bl (opT i) ++ ([32] ++ [49] ++ _) ++ [])
    simp
theorem lv_size : ∀ (os : List Nat) (s : ByteArray), (os.foldl (fun s i => s ++ ⟨#[32]⟩ ++ opT i ++ ⟨#[32, 49]⟩) s).size ≤ s.size + 5 * os.length := by
  intro os
  induction os with
  | nil => intro s; simp
  | cons i r ih =>
    intro s
    have h1 := ih (s ++ ⟨#[32]⟩ ++ opT i ++ ⟨#[32, 49]⟩)
    have h2 : (opT i).size ≤ 2 := by
      unfold opT
      repeat' split
      all_goals decide
    rw [ByteArray.size_append, ByteArray.size_append, ByteArray.size_append] at h1
    have h3 : (⟨#[32]⟩ : ByteArray).size = 1 := rfl
    have h4 : (⟨#[32, 49]⟩ : ByteArray).size = 2 := rfl
    rw [List.foldl_cons, List.length_cons]
    omega
theorem nogo_lead {t u : Tok} {r : List Tok} (h : bl u.lead ≠ []) (hr : NoGo (u :: r)) : NoGo (t :: u :: r) := ⟨fun v r' he hl => by injection he with e _; subst e; exact absurd hl h, hr⟩
theorem nogo_next {t u : Tok} {r : List Tok} {d : UInt8} {x : List UInt8} (hd : bl u.text = d :: x) (hg : goes (bl t.text) d = false) (hr : NoGo (u :: r)) : NoGo (t :: u :: r) := ⟨fun v r' he hl d' x' hd' => by
  injection he with e _
  subst e
  rw [hd] at hd'
  injection hd' with e1 _
  subst e1
  exact hg, hr⟩
theorem nogo_lv : ∀ (os : List Nat) (t : Tok), NoGo (t :: lvToks os) := by
  intro os
  induction os with
  | nil => intro t; exact ⟨fun u r' h => (by cases h), trivial⟩
  | cons i r ih => intro t; exact nogo_lead (by show [32] ≠ []; decide) (nogo_lead (by show [32] ≠ []; decide) (ih _))
theorem trivia_blank : triviaB ⟨#[32]⟩ false = true := by decide
theorem good_lv : ∀ (os : List Nat), ∀ u ∈ lvToks os, GoodTok u := by
  intro os
  induction os with
  | nil => intro u h; cases h
  | cons i r ih =>
    intro u h
    unfold lvToks at h
    rcases List.mem_cons.1 h with rfl | h
    · refine ⟨?_, (by show (8 : Int) ≠ 0; decide), trivia_blank⟩
      show (classN (bl (opT i)) : Int) = 8
      unfold opT
      repeat' split
      all_goals decide
    · rcases List.mem_cons.1 h with rfl | h
      · exact ⟨by decide, (by show (5 : Int) ≠ 0; decide), by decide⟩
      · exact ih u h
theorem good_pre : ∀ u ∈ preT, GoodTok u := by
  intro u h
  unfold preT at h
  simp only [List.mem_cons, List.not_mem_nil, or_false] at h
  rcases h with rfl | rfl | rfl | rfl | rfl | rfl | rfl | rfl | rfl | rfl
  all_goals exact ⟨by decide, by decide, by decide⟩
theorem nogo_pre (os : List Nat) : NoGo (preT ++ lvToks os) := nogo_lead (by decide) (nogo_lead (by decide) (nogo_lead (by decide) (nogo_next (d := 40) (x := []) (by decide) (by decide) (nogo_next (d := 41) (x := []) (by decide) (by decide) (nogo_next (d := 58) (x := []) (by decide) (by decide) (nogo_lead (by decide) (nogo_lead (by decide) (nogo_lead (by decide) (nogo_lv os _)))))))))
theorem lv_scan (os : List Nat) (h : os.length ≤ 30) : scanR (lvSrc os) = ⟨preT ++ lvToks os, ⟨#[]⟩, 0, 0⟩ := by
  refine again_go ?_ ?_ ?_ (nogo_pre os) trivia_empty.1
  · unfold lvSrc
    rw [lv_bytes]
    show _ = joinL (preT ++ lvToks os) []
    unfold joinL
    rw [List.flatMap_append, List.append_assoc]
    rfl
  · have := lv_size os ⟨#[109, 111, 100, 117, 108, 101, 32, 77, 32, 100, 101, 102, 32, 102, 40, 41, 58, 32, 73, 110, 116, 32, 61, 32, 48]⟩
    have h2 : (⟨#[109, 111, 100, 117, 108, 101, 32, 77, 32, 100, 101, 102, 32, 102, 40, 41, 58, 32, 73, 110, 116, 32, 61, 32, 48]⟩ : ByteArray).size = 25 := rfl
    unfold lvSrc
    omega
  · intro u hu
    rcases List.mem_append.1 hu with hu | hu
    · exact good_pre u hu
    · exact good_lv os u hu
theorem lv_parse (os : List Nat) (h : os.length ≤ 30) : parseM 104 (lvSrc os) = some (modTr (lvTree zeroTr os), 0, 0) := by
  obtain ⟨rd', hn⟩ := mod_lv 100 os (by omega)
  have hw : withinT (modTr (lvTree zeroTr os)) 40 = true := by
    have h1 := within_lv os zeroTr (38 - os.length) (by omega) (by
      obtain ⟨d, hd⟩ : ∃ k, 38 - os.length = k + 1 := ⟨37 - os.length, by omega⟩
      rw [hd, withinT_step]
      rfl)
    rw [show 38 - os.length + os.length = 38 from by omega] at h1
    rw [withinT_step]
    show withinL [defTr (lvTree zeroTr os)] 39 = true
    rw [withinL, withinL, withinT_step]
    show (withinL [.mk 5 ⟨#[]⟩ [⟨#[32]⟩] [], lvTree zeroTr os] 38 && true) = true
    rw [withinL, withinL, withinL, h1, withinT_step]
    rfl
  have hn' : nodeG (treeM 104) 104 1 (partsP 1) ⟨#[]⟩ [] [] [] ⟨(preT ++ lvToks os) ++ [⟨0, ⟨#[]⟩, ⟨#[]⟩⟩], 0, 0, 0⟩ = some (modTr (lvTree zeroTr os), ⟨[endT], rd', 0, 0⟩) := by
    rw [List.append_assoc]
    exact hn
  exact parseM_of (lv_scan os h) hn' rfl hw
end Go.Proofs.Ytipkmffhebachaa
