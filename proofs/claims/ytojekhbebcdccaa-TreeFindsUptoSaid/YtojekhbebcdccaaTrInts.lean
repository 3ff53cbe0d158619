/- A slice of ints that came in, opened: it reads as a list of ints in memory. No condition. -/
import Derived.Test.YtojekhbebcdccaaRows
import Derived.WalkKit
import Derived.WalkSpells
import Derived.WalkLawsBesides
import Derived.Lib.Hide
import Derived.ChangeSlices
import Derived.ProofKit
import Derived.Below
namespace Go.Proofs.Ytojekhbebcdccaa
open Go.RowKit Go.ChangeShapes Go.WideShapes
/-- A slice of ints that reads as a list. -/
def IntsAt (w : World) (A : Option Addr) (zs : List Int) : Prop := zs ≠ [] → ∃ b off, A = some ⟨b, off, none⟩ ∧ b < w.heap.size ∧ ∀ (i : Nat) (x : Int), zs[i]? = some x → w.cell? ⟨b, off + i, none⟩ = some (.int .i64 x)
theorem IntsAt.keep {w w' : World} {A : Option Addr} {zs : List Int} (h : IntsAt w A zs) (hb : Below w.heap.size w w') : IntsAt w' A zs := fun hne => by
  obtain ⟨b, off, hA, hlt, hc⟩ := h hne
  exact ⟨b, off, hA, Nat.lt_of_lt_of_le hlt hb.size, fun i x hx => (World.cell?_of_block (w := w) (a := ⟨b, off + i, none⟩) (hb.block b hlt)).trans (hc i x hx)⟩
theorem IntsAt.at {w : World} {A : Option Addr} {zs : List Int} (h : IntsAt w A zs) {i : Nat} (hi : i < zs.length) : ∃ b off, A = some ⟨b, off, none⟩ ∧ b < w.heap.size ∧ ∀ (i : Nat) (x : Int), zs[i]? = some x → w.cell? ⟨b, off + i, none⟩ = some (.int .i64 x) := h (fun e => by rw [e] at hi; simp at hi)
section
variable {H : Type} {enc : TypeId × Value → H} {w : World} {base : Nat} {spare : Nat → Bool} {held : Bool}
theorem cells_int1 : Try.prog.cellsOf 3 = 1 := by kernel_rfl
theorem open_ints1 {fuel : Nat} {cs : List Value} {x : DataW H × List MemPlace} (h : DataW.trod enc Try.prog w base spare held fuel 33 cs = some x) :
    ∃ (A : Option Addr) (c : Nat) (zs : List Int), cs = [.slice A zs.length c] ∧ IntsAt w A zs ∧ zs.length ≤ maxLen ∧ zs.length ≤ c ∧ ∀ z ∈ zs, (Lit.int .i64 z).wf = true := by
  rcases open_ints Try.underlying33 Try.underlying3 cells_int1 h with ⟨hcs, _⟩ | ⟨a, len, cap, zs, hcs, _, hl, hm, hz, _, hc, hwf⟩
  · exact ⟨none, 0, [], hcs, fun h => absurd rfl h, Nat.zero_le _, Nat.zero_le _, fun z h => by simp at h⟩
  · have hlz : len ≤ zs.length := by rw [hz]; split <;> omega
    have hlen : (zs.take len).length = len := by rw [List.length_take]; omega
    refine ⟨some a, cap, zs.take len, by rw [hlen]; exact hcs, fun hne => ?_, by rw [hlen]; omega, by rw [hlen]; exact hl, fun z hz => hwf z (List.mem_of_mem_take hz)⟩
    have h0 : 0 < len := by
      rcases Nat.eq_zero_or_pos len with h | h
      · subst h
        exact absurd rfl hne
      · exact h
    obtain ⟨b, off, spot⟩ := a
    have hspot : spot = none := by
      have := World.cell?_spot (hc 0 (by omega))
      simpa [Addr.add] using this
    subst hspot
    have hadd : ∀ n : Nat, ((⟨b, off, none⟩ : Addr).add n) = ⟨b, off + n, none⟩ := fun n => by unfold Addr.add; split <;> simp_all
    refine ⟨b, off, rfl, ?_, fun i x hx => ?_⟩
    · have := hc 0 (by omega)
      rw [hadd] at this
      exact World.block_lt_of_cell? w _ this
    · have hi := (List.getElem?_eq_some_iff.1 hx).1
      rw [hlen] at hi
      have := hc i (by omega)
      rw [hadd] at this
      rw [this]
      rw [List.getElem?_take_of_lt hi] at hx
      rw [List.getD_eq_getElem?_getD, hx]
      rfl
end
end Go.Proofs.Ytojekhbebcdccaa
