/- An argument that is a slice of tokens, opened: it reads as a list of tokens in memory. No condition. -/
import Derived.Test.YtopnimajlgpdeaaLexSame
import Derived.Deep.Slices
import Derived.ProofKit
namespace Go.Proofs.Ytopnimajlgpdeaa
open Go.RowKit Go.ChangeShapes Go.WideShapes Go.Deep
section
variable {H : Type} {enc : TypeId × Value → H} {w : World} {base : Nat} {spare : Nat → Bool} {held : Bool}
def tokData (H : Type) (t : Tok) : DataW H := .agg [.lit (.int .i64 t.kind), .lit (.string t.lead.data.toList), .lit (.string t.text.data.toList)]
theorem cells_tok : Try.prog.cellsOf 35 = 3 := by kernel_rfl
theorem cells_int : Try.prog.cellsOf 3 = 1 := by kernel_rfl
theorem cells_str : Try.prog.cellsOf 9 = 1 := by kernel_rfl
theorem open_tok {fuel : Nat} {cs : List Value} {d : DataW H × List MemPlace} (h : DataW.trod enc Try.prog w base spare held fuel 35 cs = some d) :
    ∃ t : Tok, cs = [.int .i64 t.kind, .string t.lead, .string t.text] ∧ d.1 = tokData H t := by
  obtain ⟨ys, n, _, hd, hlen, hyl, hf⟩ := DataW.trod_struct Try.underlying35 h
  rw [cells_tok] at hlen
  match cs, hlen, ys, hyl with
  | [c0, c1, c2], _, [y0, y1, y2], _ =>
    have f0 : DataW.trod enc Try.prog w base spare held n 3 (([c0, c1, c2].drop 0).take (Try.prog.cellsOf 3)) = some y0 := hf 0 _ rfl
    have f1 : DataW.trod enc Try.prog w base spare held n 9 (([c0, c1, c2].drop 1).take (Try.prog.cellsOf 9)) = some y1 := hf 1 _ rfl
    have f2 : DataW.trod enc Try.prog w base spare held n 9 (([c0, c1, c2].drop 2).take (Try.prog.cellsOf 9)) = some y2 := hf 2 _ rfl
    rw [cells_int] at f0
    rw [cells_str] at f1 f2
    obtain ⟨k, e0, g0, _⟩ := DataW.trod_int Try.underlying3 (show DataW.trod enc Try.prog w base spare held n 3 [c0] = some y0 from f0)
    obtain ⟨l, e1, g1, _⟩ := DataW.trod_string Try.underlying9 (show DataW.trod enc Try.prog w base spare held n 9 [c1] = some y1 from f1)
    obtain ⟨x, e2, g2, _⟩ := DataW.trod_string Try.underlying9 (show DataW.trod enc Try.prog w base spare held n 9 [c2] = some y2 from f2)
    refine ⟨⟨k, l, x⟩, ?_, ?_⟩
    · simp at e0 e1 e2
      rw [e0, e1, e2]
    · rw [hd, g0, g1, g2]
      rfl
instance : Inhabited Tok := ⟨⟨0, ByteArray.empty, ByteArray.empty⟩⟩
theorem open_toks {fuel : Nat} {cs : List Value} {x : DataW H × List MemPlace} (h : DataW.trod enc Try.prog w base spare held fuel 23 cs = some x) :
    ∃ (A : Option Addr) (c : Nat) (ts : List Tok), cs = [.slice A ts.length c] ∧ Toks w A ts ∧ ts.length ≤ maxLen ∧ ((ts = [] ∧ x.1 = .nil) ∨ ∃ sp, x.1 = .slice (ts.map (tokData H)) sp) := by
  rcases open_slice Try.underlying23 h with ⟨hcs, hx⟩ | ⟨a, len, cap, m, n, D, Pl, hcs, _, hl, hm, hmm, hx, hi⟩
  · exact ⟨none, 0, [], hcs, fun h => absurd rfl h, Nat.zero_le _, .inl ⟨rfl, by rw [hx]⟩⟩
  · rw [cells_tok] at hi
    have hlm : len ≤ m := by rw [hmm]; split <;> omega
    obtain ⟨f, hf⟩ := choose_lt (α := Tok) (n := len) (p := fun i t => w.cell? (a.add (i * 3)) = some (.int .i64 t.kind) ∧ w.cell? ((a.add (i * 3)).add 1) = some (.string t.lead) ∧ w.cell? ((a.add (i * 3)).add 2) = some (.string t.text) ∧ D i = tokData H t) (fun i hlt => by
      obtain ⟨cs', hc, ht⟩ := hi i (by omega)
      obtain ⟨t, e1, e2⟩ := open_tok ht
      obtain ⟨_, _, hat⟩ := World.cells?_some hc
      subst e1
      refine ⟨t, ?_, hat 1 (by omega), hat 2 (by omega), e2⟩
      have := hat 0 (by omega)
      simpa [Addr.add] using this)
    refine ⟨some a, cap, (List.range len).map f, ?_, ?_, ?_, .inr ⟨(List.range (m - len)).map fun j => D (len + j), ?_⟩⟩
    · rw [hcs]
      simp
    · intro hne
      obtain ⟨b, off, spot⟩ := a
      have h0 : 0 < len := by
        rcases Nat.eq_zero_or_pos len with h | h
        · subst h
          exact absurd rfl hne
        · exact h
      have hspot : spot = none := by
        have := World.cell?_spot (hf 0 h0).1
        simpa [Addr.add] using this
      subst hspot
      refine ⟨b, off, rfl, fun i t ht => ?_⟩
      have hlt : i < len := by
        obtain ⟨h1, _⟩ := List.getElem?_eq_some_iff.1 ht
        simpa using h1
      have et : t = f i := by
        rw [List.getElem?_map, List.getElem?_range hlt] at ht
        simpa using ht.symm
      subst et
      obtain ⟨g0, g1, g2, _⟩ := hf i hlt
      have hadd : ∀ n : Nat, ((⟨b, off, none⟩ : Addr).add n) = ⟨b, off + n, none⟩ := fun n => by unfold Addr.add; split <;> simp_all
      rw [hadd] at g0 g1 g2
      refine ⟨g0, ?_, ?_⟩
      · simpa [Addr.add] using g1
      · simpa [Addr.add] using g2
    · rw [List.length_map, List.length_range]
      omega
    · rw [hx]
      simp only [List.map_map]
      congr 1
      refine List.map_congr_left fun i hmem => ?_
      exact (hf i (by simpa using hmem)).2.2.2
end
end Go.Proofs.Ytopnimajlgpdeaa
