/- The tokens of a tree, and its text; plain. -/
import Derived.Test.YtipkmffhebachaaSynWriter
import Derived.Test.YtipkmffhebachaaSynLeds
namespace Go.Proofs.Ytipkmffhebachaa
open Go.RowKit
/-- Lead and text. -/
abbrev Piece := ByteArray × ByteArray
def foldW (s : List UInt8 × ByteArray) (ps : List Piece) : List UInt8 × ByteArray := ps.foldl (fun s p => tokW s p.1 p.2) s
def sizeP : List Piece → Nat
  | [] => 0
  | p :: r => p.1.size + p.2.size + 1 + sizeP r
theorem sizeP_append (a c : List Piece) : sizeP (a ++ c) = sizeP a + sizeP c := by
  induction a with
  | nil => simp [sizeP]
  | cons p r ih => rw [List.cons_append, sizeP, sizeP, ih]; omega
theorem foldW_append (s : List UInt8 × ByteArray) (a c : List Piece) : foldW s (a ++ c) = foldW (foldW s a) c := List.foldl_append
theorem foldW_one (s : List UInt8 × ByteArray) (p : Piece) : foldW s [p] = tokW s p.1 p.2 := rfl
theorem sepW_le (a l x : ByteArray) : (sepW a l x).size ≤ l.size + 1 := by
  unfold sepW
  split
  · rename_i h
    rw [h.1]
    exact Nat.le_refl 1
  · omega
theorem foldW_le (ps : List Piece) : ∀ s, (foldW s ps).1.length ≤ s.1.length + sizeP ps := by
  induction ps with
  | nil => intro s; exact Nat.le_refl _
  | cons p r ih =>
    intro s
    have h1 := ih (tokW s p.1 p.2)
    have h2 := sepW_le s.2 p.1 p.2
    have e1 : (sepW s.2 p.1 p.2).data.size = (sepW s.2 p.1 p.2).size := rfl
    have e2 : p.2.data.size = p.2.size := rfl
    have h3 : (tokW s p.1 p.2).1.length = s.1.length + (sepW s.2 p.1 p.2).data.size + p.2.data.size := by unfold tokW; simp only [List.length_append, Array.length_toList]
    show (foldW (tokW s p.1 p.2) r).1.length ≤ _
    rw [sizeP]
    omega
/-- The tokens of the kids from number i on, with their commas. -/
def piecesAt (co : Bool) (cs : List ByteArray) : Nat → List (List Piece) → List Piece
  | _, [] => []
  | i, p :: r => (if 0 < i ∧ co = true then [((cs[i - 1]?).getD ⟨#[]⟩, ⟨#[44]⟩)] else []) ++ p ++ piecesAt co cs (i + 1) r
def piecesN (n : Int) (tx : ByteArray) (cs : List ByteArray) : List Part → List ByteArray → List (List Piece) → List Piece
  | [], _, _ => []
  | x :: r, ls, ks => if x.kids ≠ 0 then piecesAt x.commas cs 0 (ks.take (countP x n).toNat) ++ piecesN n tx cs r ls (ks.drop (countP x n).toNat)
    else ((ls[0]?).getD ⟨#[]⟩, if x.nm ≠ 0 then tx else x.word) :: piecesN n tx cs r (ls.drop 1) ks
mutual
/-- The tokens of a tree. -/
def pieces : Tr → List Piece
  | .mk k x ls ks => piecesN (freeP (partsP k) ks.length).1 x (ls.drop (tokensP (partsP k))) (partsP k) ls (piecesL ks)
def piecesL : List Tr → List (List Piece)
  | [] => []
  | t :: r => pieces t :: piecesL r
end
theorem piecesL_map (l : List Tr) : piecesL l = l.map pieces := by
  induction l with
  | nil => rfl
  | cons a r ih => rw [piecesL, ih]; rfl
theorem pieces_eq (t : Tr) : pieces t = piecesN (freeP (partsP t.kind) t.kids.length).1 t.text (t.leads.drop (tokensP (partsP t.kind))) (partsP t.kind) t.leads (t.kids.map pieces) := by
  cases t with
  | mk k x ls ks => rw [pieces, piecesL_map]; rfl
/-- A tree's text. -/
def textL (t : Tr) : List UInt8 := (foldW ([], ⟨#[]⟩) (pieces t)).1
end Go.Proofs.Ytipkmffhebachaa
