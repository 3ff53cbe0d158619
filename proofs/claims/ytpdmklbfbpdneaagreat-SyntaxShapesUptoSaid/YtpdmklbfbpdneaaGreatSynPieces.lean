/- The contract of the writer's token; the tokens of a tree, and its text; plain. -/
import Derived.Test.YtpdmklbfbpdneaaGreatSynBuild
import Derived.Test.YtpdmklbfbpdneaaGreatLexFuses
import Derived.Test.YtpdmklbfbpdneaaGreatSynLeds
namespace Go.Proofs.YtpdmklbfbpdneaaGreat
open Go.RowKit
/-- What lies between the last token and a text. -/
def sepW (last lead text : ByteArray) : ByteArray := if lead.size = 0 ∧ fusesB last text = true then ⟨#[32]⟩ else lead
/-- The bytes written and the last token, after a token more. -/
def tokW (s : List UInt8 × ByteArray) (lead text : ByteArray) : List UInt8 × ByteArray := (s.1 ++ (sepW s.2 lead text).data.toList ++ text.data.toList, text)
def WrS (B b : Nat) (s : List UInt8 × ByteArray) (w : World) : Prop := IsWr B b (Lib.byteCells s.1) s.2 w ∧ s.2.size ≤ s.1.length
theorem writeS {B b : Nat} {l : List UInt8} {last : ByteArray} (x : ByteArray) (w : World) (h : IsWr B b (Lib.byteCells l) last w) (hlen : l.length + x.size ≤ 140737488355328) (hBw : B ≤ w.heap.size) :
    Calls Tryz.prog 169 #[.pointer (some ⟨b, 0, none⟩), .string x] w fun e w' => e = .returned (.tuple #[.int .i64 x.size, .nilIface]) ∧ (IsWr B b (Lib.byteCells (l ++ x.data.toList)) last w' ∧ Below B w w' ∧ Kept b w w') := by
  refine (writeString_anyW B b (Lib.byteCells l) last x w h (by rw [Lib.byteCells_length]; exact hlen) hBw).mono ?_
  rintro e w' ⟨h1, h2, h3, h4⟩
  refine ⟨h1, .inr ?_, h3, h4⟩
  have : Lib.byteCells (l ++ x.data.toList) = Lib.byteCells l ++ Lib.strCells x := by unfold Lib.byteCells Lib.strCells; rw [List.map_append]
  rw [this]
  exact h2
theorem WrAt.cell2 {B b : Nat} {p : Value} {bs : List Value} {last : ByteArray} {w : World} (h : WrAt B b p bs last w) : w.cell? ⟨b, 2, none⟩ = some (.string last) ∧ w.frozen? ⟨b, 2, none⟩ = false := by
  obtain ⟨_, v, hb, _⟩ := h
  exact ⟨by rw [Lib.cell_of_heap hb]; rfl, Lib.frozen_of_heap hb 2⟩
theorem IsWr.cell2 {B b : Nat} {bs : List Value} {last : ByteArray} {w : World} (h : IsWr B b bs last w) : w.cell? ⟨b, 2, none⟩ = some (.string last) ∧ w.frozen? ⟨b, 2, none⟩ = false := h.elim (·.cell2) (·.cell2)
theorem WrAt.base {B b : Nat} {p : Value} {bs : List Value} {last : ByteArray} {w : World} (h : WrAt B b p bs last w) : B ≤ b := h.1
theorem IsWr.base {B b : Nat} {bs : List Value} {last : ByteArray} {w : World} (h : IsWr B b bs last w) : B ≤ b := h.elim (·.base) (·.base)
theorem WrAt.last {B b : Nat} {p : Value} {bs : List Value} {last : ByteArray} {w : World} (h : WrAt B b p bs last w) (x : ByteArray) : WrAt B b p bs x (w.setCell ⟨b, 2, none⟩ (.string x)) := by
  obtain ⟨hB, v, hb, hown, hne⟩ := h
  refine ⟨hB, v, ?_, own_cell hown hne _, hne⟩
  rw [heap_cell hb]
  rfl
theorem IsWr.last {B b : Nat} {bs : List Value} {last : ByteArray} {w : World} (h : IsWr B b bs last w) (x : ByteArray) : IsWr B b bs x (w.setCell ⟨b, 2, none⟩ (.string x)) := h.imp (·.last x) (·.last x)
theorem WrAt.keep {B b : Nat} {p : Value} {bs : List Value} {last : ByteArray} {w w' : World} (h : WrAt B b p bs last w) (hb : Below w.heap.size w w') : WrAt B b p bs last w' := by
  obtain ⟨hB, v, hh, hown, hne⟩ := h
  refine ⟨hB, v, (hb.block b (lt_of_heap hh)).trans hh, ?_, hne⟩
  obtain ⟨h1, h2⟩ := hown
  refine ⟨h1, ?_⟩
  rcases h2 with h2 | ⟨g, cap, cur, hv, hg, hx, r⟩
  · exact .inl h2
  · exact .inr ⟨g, cap, cur, hv, hg, (hb.block g (lt_of_heap hx)).trans hx, r⟩
theorem IsWr.keep {B b : Nat} {bs : List Value} {last : ByteArray} {w w' : World} (h : IsWr B b bs last w) (hb : Below w.heap.size w w') : IsWr B b bs last w' := h.imp (·.keep hb) (·.keep hb)
theorem Kept.below {b : Nat} {w w' : World} (h : Below w.heap.size w w') : Kept b w w' := fun k _ _ _ h1 _ _ => (h.block k (lt_of_heap h1)).trans h1
theorem size_zero {x : ByteArray} (h : x.size = 0) : x = ⟨#[]⟩ := by
  obtain ⟨d⟩ := x
  have : d.size = 0 := h
  rw [Array.eq_empty_of_size_eq_zero this]
set_option maxRecDepth 100000 in
set_option maxHeartbeats 2000000 in
theorem token_wr (B b : Nat) (s : List UInt8 × ByteArray) (lead text : ByteArray) (w : World) (h : WrS B b s w) (hlen : s.1.length + lead.size + text.size + 1 < 140737488355328) (hBw : B ≤ w.heap.size) :
    Calls Tryz.prog 142 #[.pointer (some ⟨b, 0, none⟩), .string lead, .string text] w fun e w' => e = .returned (.tuple #[]) ∧ WrS B b (tokW s lead text) w' ∧ Below B w w' ∧ Kept b w w' := by
  obtain ⟨l, last⟩ := s
  obtain ⟨h, hls⟩ := h
  simp only at h hls hlen
  obtain ⟨c2, f2⟩ := h.cell2
  have HI := Lib.hid h
  have HLS := Lib.hid hls
  have HBW := Lib.hid hBw
  have HLEN := Lib.hid hlen
  clear h hls hlen hBw
  have HFN := Lib.hid (show last.size + text.size < maxLen from by have := HLEN.out; have := HLS.out; unfold maxLen; omega)
  by_cases hz : lead.size = 0
  · have := size_zero hz
    subst this
    cases hf : fusesB last text
    · have HS := Lib.hid (show tokW (l, last) ⟨#[]⟩ text = (l ++ (⟨#[]⟩ : ByteArray).data.toList ++ text.data.toList, text) from by unfold tokW sepW; rw [hf]; rfl)
      go_enter Tryz.func142, Tryz.ntmps142
      go_wp2_with fail
      go_at_call 168
      refine (fuses_any last text _ HFN.out).mono ?_
      rw [hf]
      rintro e w1 ⟨rfl, hb1⟩
      have HB1 := Lib.hid hb1
      clear hb1 c2 f2
      go_wp2_with fail
      go_at_call 169
      refine (writeS (l := l) ⟨#[]⟩ _ (HI.out.keep HB1.out) (by have := HLEN.out; have := (show (⟨#[]⟩ : ByteArray).size = 0 from rfl); omega) (by have := HB1.out.size; have := HBW.out; omega)).mono ?_
      rintro e w2 ⟨rfl, hi2, hb2, hk2⟩
      have HI2 := Lib.hid hi2
      have HB2 := Lib.hid ((HB1.out.mono HBW.out).trans hb2)
      have HK2 := Lib.hid ((Kept.below HB1.out).trans hk2)
      clear hi2 hb2 hk2
      go_wp2_with fail
      go_at_call 169
      refine (writeS text _ HI2.out (by have := HLEN.out; have := (show (⟨#[]⟩ : ByteArray).size = 0 from rfl); simp; omega) (by have := HB2.out.size; have := HBW.out; omega)).mono ?_
      rintro e w3 ⟨rfl, hi3, hb3, hk3⟩
      have HI3 := Lib.hid hi3
      have HB3 := Lib.hid (HB2.out.trans hb3)
      have HK3 := Lib.hid (HK2.out.trans hk3)
      obtain ⟨d2, g2⟩ := hi3.cell2
      clear hi3 hb3 hk3
      go_wp2
      go_end0
      rw [HS.out]
      exact ⟨rfl, ⟨HI3.out.last text, by simp only [List.length_append, Array.length_toList]; exact Nat.le_add_left _ _⟩, HB3.out.setCell (p := ⟨b, 2, none⟩) HI3.out.base _, HK3.out.trans (Kept.set _ _)⟩
    · have HS := Lib.hid (show tokW (l, last) ⟨#[]⟩ text = (l ++ (⟨#[32]⟩ : ByteArray).data.toList ++ text.data.toList, text) from by unfold tokW sepW; rw [hf]; rfl)
      go_enter Tryz.func142, Tryz.ntmps142
      go_wp2_with fail
      go_at_call 168
      refine (fuses_any last text _ HFN.out).mono ?_
      rw [hf]
      rintro e w1 ⟨rfl, hb1⟩
      have HB1 := Lib.hid hb1
      clear hb1 c2 f2
      go_wp2_with fail
      go_at_call 169
      refine (writeS (l := l) ⟨#[32]⟩ _ (HI.out.keep HB1.out) (by have := HLEN.out; have := (show (⟨#[32]⟩ : ByteArray).size = 1 from rfl); omega) (by have := HB1.out.size; have := HBW.out; omega)).mono ?_
      rintro e w2 ⟨rfl, hi2, hb2, hk2⟩
      have HI2 := Lib.hid hi2
      have HB2 := Lib.hid ((HB1.out.mono HBW.out).trans hb2)
      have HK2 := Lib.hid ((Kept.below HB1.out).trans hk2)
      clear hi2 hb2 hk2
      go_wp2_with fail
      go_at_call 169
      refine (writeS text _ HI2.out (by have := HLEN.out; have := (show (⟨#[32]⟩ : ByteArray).size = 1 from rfl); simp; omega) (by have := HB2.out.size; have := HBW.out; omega)).mono ?_
      rintro e w3 ⟨rfl, hi3, hb3, hk3⟩
      have HI3 := Lib.hid hi3
      have HB3 := Lib.hid (HB2.out.trans hb3)
      have HK3 := Lib.hid (HK2.out.trans hk3)
      obtain ⟨d2, g2⟩ := hi3.cell2
      clear hi3 hb3 hk3
      go_wp2
      go_end0
      rw [HS.out]
      exact ⟨rfl, ⟨HI3.out.last text, by simp only [List.length_append, Array.length_toList]; exact Nat.le_add_left _ _⟩, HB3.out.setCell (p := ⟨b, 2, none⟩) HI3.out.base _, HK3.out.trans (Kept.set _ _)⟩
  · have HS := Lib.hid (show tokW (l, last) lead text = (l ++ lead.data.toList ++ text.data.toList, text) from by unfold tokW sepW; rw [if_neg (fun e => hz e.1)])
    have hz' : lead.toList.isEmpty = false := by
      rw [ByteArray.toList_eq]
      cases he : lead.data.toList with
      | nil => exact absurd (show lead.data.size = 0 from by rw [← Array.length_toList, he]; rfl) hz
      | cons a r => rfl
    go_enter Tryz.func142, Tryz.ntmps142
    go_wp2_with fail
    go_at_call 169
    refine (writeS (l := l) lead _ HI.out (by have := HLEN.out; omega) HBW.out).mono ?_
    rintro e w2 ⟨rfl, hi2, hb2, hk2⟩
    have HI2 := Lib.hid hi2
    have HB2 := Lib.hid hb2
    have HK2 := Lib.hid hk2
    clear hi2 hb2 hk2
    go_wp2_with fail
    go_at_call 169
    refine (writeS text _ HI2.out (by have := HLEN.out; simp only [List.length_append, Array.length_toList]; have e : lead.data.size = lead.size := rfl; omega) (by have := HB2.out.size; have := HBW.out; omega)).mono ?_
    rintro e w3 ⟨rfl, hi3, hb3, hk3⟩
    have HI3 := Lib.hid hi3
    have HB3 := Lib.hid (HB2.out.trans hb3)
    have HK3 := Lib.hid (HK2.out.trans hk3)
    obtain ⟨d2, g2⟩ := hi3.cell2
    clear hi3 hb3 hk3
    go_wp2
    go_end0
    rw [HS.out]
    exact ⟨rfl, ⟨HI3.out.last text, by simp only [List.length_append, Array.length_toList]; exact Nat.le_add_left _ _⟩, HB3.out.setCell (p := ⟨b, 2, none⟩) HI3.out.base _, HK3.out.trans (Kept.set _ _)⟩
end Go.Proofs.YtpdmklbfbpdneaaGreat
namespace Go.Proofs.YtpdmklbfbpdneaaGreat
open Go.RowKit
/-- Lead and text. -/
abbrev Piece := ByteArray × ByteArray
def foldW (s : List UInt8 × ByteArray) (ps : List Piece) : List UInt8 × ByteArray := ps.foldl (fun s p => tokW s p.1 p.2) s
def sizeP : List Piece → Nat
  | [] => 0
  | p :: r => p.1.size + p.2.size + 1 + sizeP r
theorem sizeP_append (a c : List Piece) : sizeP (a ++ c) = sizeP a + sizeP c := by
  induction a with
  | nil => simp [sizeP]
  | cons p r ih => rw [List.cons_append, sizeP, sizeP, ih]; omega
theorem foldW_append (s : List UInt8 × ByteArray) (a c : List Piece) : foldW s (a ++ c) = foldW (foldW s a) c := List.foldl_append
theorem foldW_one (s : List UInt8 × ByteArray) (p : Piece) : foldW s [p] = tokW s p.1 p.2 := rfl
theorem sepW_le (a l x : ByteArray) : (sepW a l x).size ≤ l.size + 1 := by
  unfold sepW
  split
  · rename_i h
    rw [h.1]
    exact Nat.le_refl 1
  · omega
theorem foldW_le (ps : List Piece) : ∀ s, (foldW s ps).1.length ≤ s.1.length + sizeP ps := by
  induction ps with
  | nil => intro s; exact Nat.le_refl _
  | cons p r ih =>
    intro s
    have h1 := ih (tokW s p.1 p.2)
    have h2 := sepW_le s.2 p.1 p.2
    have e1 : (sepW s.2 p.1 p.2).data.size = (sepW s.2 p.1 p.2).size := rfl
    have e2 : p.2.data.size = p.2.size := rfl
    have h3 : (tokW s p.1 p.2).1.length = s.1.length + (sepW s.2 p.1 p.2).data.size + p.2.data.size := by unfold tokW; simp only [List.length_append, Array.length_toList]
    show (foldW (tokW s p.1 p.2) r).1.length ≤ _
    rw [sizeP]
    omega
/-- The tokens of the kids from number i on, with their commas. -/
def piecesAt (co : Bool) (cs : List ByteArray) : Nat → List (List Piece) → List Piece
  | _, [] => []
  | i, p :: r => (if 0 < i ∧ co = true then [((cs[i - 1]?).getD ⟨#[]⟩, ⟨#[44]⟩)] else []) ++ p ++ piecesAt co cs (i + 1) r
def piecesN (n : Int) (tx : ByteArray) (cs : List ByteArray) : List Part → List ByteArray → List (List Piece) → List Piece
  | [], _, _ => []
  | x :: r, ls, ks => if x.kids ≠ 0 then piecesAt x.commas cs 0 (ks.take (countP x n).toNat) ++ piecesN n tx cs r ls (ks.drop (countP x n).toNat)
    else ((ls[0]?).getD ⟨#[]⟩, if x.nm ≠ 0 then tx else x.word) :: piecesN n tx cs r (ls.drop 1) ks
mutual
/-- The tokens of a tree. -/
def pieces : Tr → List Piece
  | .mk k x ls ks => piecesN (freeP (partsP k) ks.length).1 x (ls.drop (tokensP (partsP k))) (partsP k) ls (piecesL ks)
def piecesL : List Tr → List (List Piece)
  | [] => []
  | t :: r => pieces t :: piecesL r
end
theorem piecesL_map (l : List Tr) : piecesL l = l.map pieces := by
  induction l with
  | nil => rfl
  | cons a r ih => rw [piecesL, ih]; rfl
theorem pieces_eq (t : Tr) : pieces t = piecesN (freeP (partsP t.kind) t.kids.length).1 t.text (t.leads.drop (tokensP (partsP t.kind))) (partsP t.kind) t.leads (t.kids.map pieces) := by
  cases t with
  | mk k x ls ks => rw [pieces, piecesL_map]; rfl
/-- A tree's text. -/
def textL (t : Tr) : List UInt8 := (foldW ([], ⟨#[]⟩) (pieces t)).1
end Go.Proofs.YtpdmklbfbpdneaaGreat
