/- A slice of strings and a slice of bools that came in, opened. No condition. -/
import Derived.Test.YtedlfjolmhkpdaaPosLawP
import Derived.SliceStrings
import Derived.Deep.Grids
namespace Go.Proofs.Ytedlfjolmhkpdaa
open Go.RowKit Go.ChangeShapes Go.WideShapes
theorem rek_len (l : List Key) (h : l.length ≤ 400) : rekeyP l = match rekL [] l (keepP l) with | some o => o | none => spreadN l.length := by
  unfold rekeyP
  rw [if_neg (by omega)]
  cases rekL [] l (keepP l) <;> rfl
/-- What Rekey returns: as many ascending keys; those that stay have stayed, or all are spread anew. -/
theorem rekey_facts (l : List Key) (h : l.length ≤ 400) : (rekeyP l).length = l.length ∧ AscV [] (rekeyP l) ∧ (rekeyP l = spreadN l.length ∨ ∀ j : Nat, (keepP l)[j]? = some true → (rekeyP l)[j]? = l[j]?) := by
  rw [rek_len l h]
  cases hr : rekL [] l (keepP l) with
  | none => exact ⟨spread_len _, spread_asc h, .inl rfl⟩
  | some o =>
    obtain ⟨h1, h2, h3⟩ := rek_asc l (keepP l) [] (keep_len l) (keep_ok l) o hr
    exact ⟨h1, h2, .inr h3⟩
theorem rekey_len (l : List Key) : (rekeyP l).length ≤ 400 := by
  by_cases h : l.length ≤ 400
  · rw [(rekey_facts l h).1]; exact h
  · unfold rekeyP
    rw [if_pos (by omega)]
    simp
theorem rekey_again (l : List Key) (h : l.length ≤ 400) : rekeyP (rekeyP l) = rekeyP l := by
  obtain ⟨h1, h2, _⟩ := rekey_facts l h
  rw [rek_len (rekeyP l) (by rw [h1]; exact h), keep_asc h2, rek_asc_same]
section
variable {H : Type} {enc : TypeId × Value → H} {w : World} {base : Nat} {held : Bool}
theorem cells_bool1 : Try.prog.cellsOf 4 = 1 := by kernel_rfl
theorem cells_string1 : Try.prog.cellsOf 9 = 1 := by kernel_rfl
theorem spot_none {w : World} {b off : Nat} {spot : _} {v : Value} (h : w.cell? ((⟨b, off, spot⟩ : Addr).add 0) = some v) : spot = none := by
  have := World.cell?_spot h
  simpa [Addr.add] using this
theorem open_bools1 {fuel : Nat} {cs : List Value} {x : DataW H × List MemPlace} (h : DataW.trod enc Try.prog w base (fun _ => true) held fuel 34 cs = some x) :
    ∃ (A : Option Addr) (c : Nat) (ls : List Bool), cs = [.slice A ls.length c] ∧ LAt w A ls ∧ ls.length ≤ maxLen := by
  rcases Go.Deep.open_bools Try.underlying34 Try.underlying4 cells_bool1 h with ⟨hcs, _⟩ | ⟨a, len, cap, B, hcs, _, hl, hm, _, hc⟩
  · exact ⟨none, 0, [], hcs, fun h => absurd rfl h, Nat.zero_le _⟩
  · refine ⟨some a, cap, (List.range len).map B, by rw [List.length_map, List.length_range]; exact hcs, fun hne => ?_, by rw [List.length_map, List.length_range]; omega⟩
    have h0 : 0 < len := by
      rcases Nat.eq_zero_or_pos len with h | h
      · subst h
        exact absurd rfl hne
      · exact h
    obtain ⟨b, off, spot⟩ := a
    obtain rfl := spot_none (hc 0 (by omega))
    refine ⟨b, off, rfl, ?_, fun i x hx => ?_⟩
    · have := hc 0 (by omega)
      rw [plain_add] at this
      exact World.block_lt_of_cell? w _ this
    · have hi := (List.getElem?_eq_some_iff.1 hx).1
      rw [List.length_map, List.length_range] at hi
      rw [List.getElem?_map, List.getElem?_range hi] at hx
      injection hx with hx
      have := hc i (by omega)
      rw [plain_add] at this
      rw [this, hx]
theorem open_texts1 {fuel : Nat} {cs : List Value} {x : DataW H × List MemPlace} (h : DataW.trod enc Try.prog w base (fun _ => true) held fuel 28 cs = some x) :
    ∃ (A : Option Addr) (c : Nat) (ls : List Key), cs = [.slice A ls.length c] ∧ TAt w A ls ∧ ls.length ≤ c ∧ c ≤ maxLen ∧ ∀ k ∈ ls, k.length ≤ maxLen := by
  rcases open_strings Try.underlying28 Try.underlying9 cells_string1 h with ⟨hcs, _⟩ | ⟨a, len, cap, ss, hcs, _, hl, hm, hss, _, hc, hz⟩
  · exact ⟨none, 0, [], hcs, fun h => absurd rfl h, Nat.le_refl _, Nat.zero_le _, fun k hk => absurd hk List.not_mem_nil⟩
  · simp only [if_true] at hss
    have hlen : ((ss.take len).map fun s => s.data.toList).length = len := by rw [List.length_map, List.length_take]; omega
    refine ⟨some a, cap, (ss.take len).map fun s => s.data.toList, by rw [hlen]; exact hcs, fun hne => ?_, by rw [hlen]; exact hl, hm, fun k hk => ?_⟩
    · have h0 : 0 < len := by
        rcases Nat.eq_zero_or_pos len with h | h
        · subst h
          exact absurd rfl hne
        · exact h
      obtain ⟨b, off, spot⟩ := a
      obtain rfl := spot_none (hc 0 (by omega))
      refine ⟨b, off, rfl, ?_, fun i x hx => ?_⟩
      · have := hc 0 (by omega)
        rw [plain_add] at this
        exact World.block_lt_of_cell? w _ this
      · have hi := (List.getElem?_eq_some_iff.1 hx).1
        rw [hlen] at hi
        have his : i < ss.length := by omega
        rw [List.getElem?_map, List.getElem?_take_of_lt hi, List.getElem?_eq_getElem his] at hx
        injection hx with hx
        have := hc i his
        rw [plain_add, List.getD_eq_getElem?_getD, List.getElem?_eq_getElem his] at this
        rw [this, ← hx]
        show some (Value.string ss[i]) = some (.string (strL ss[i].data.toList))
        rw [strL_back]
    · obtain ⟨s, hs, rfl⟩ := List.mem_map.1 hk
      have := hz s (List.mem_of_mem_take hs)
      rw [data_len]
      exact this
end
end Go.Proofs.Ytedlfjolmhkpdaa
