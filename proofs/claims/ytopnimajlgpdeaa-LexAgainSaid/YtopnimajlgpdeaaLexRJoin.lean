/- The contract of the reference's Join: the same bytes. Condition: they are fewer than 2^63. -/
import Derived.Test.YtopnimajlgpdeaaLexJoin
namespace Go.Proofs.Ytopnimajlgpdeaa
open Go.RowKit
theorem bl_size {s : ByteArray} {l : List UInt8} (h : bl s = l) : s.size = l.length := by rw [← h, bl_length]
theorem ret_str {a b : ByteArray} (h : a = b) : Ending.returned (.string a) = .returned (.string b) := by rw [h]
set_option maxHeartbeats 2000000 in
theorem rjoin_any (A : Option Addr) (c : Nat) (ts : List Tok) (tail : ByteArray) (w : World) (ha : Toks w A ts) (hlen : (joinL ts (bl tail)).length ≤ 4611686018427387904) (hn : ts.length ≤ 1099511627776) :
    Calls Try.prog 20 #[.slice A ts.length c, .string tail] w fun e w' => e = .returned (.string ⟨(joinL ts (bl tail)).toArray⟩) ∧ Below w.heap.size w w' := by
  rw [joinL_tail, List.length_append] at hlen
  have HLen := Lib.hid hlen
  have HA := Lib.hid ha
  clear ha hlen
  go_enter Try.func20, Try.ntmps20
  go_wp2
  go_loopw [5, 6] (fun v i wr => ∃ (k : Nat) (s : ByteArray), v = .string s ∧ i = .int .i64 k ∧ k ≤ ts.length ∧ bl s = joinL (ts.take k) [] ∧ Below w.heap.size w wr) (fun _ i _ => ts.length - (intOf i).toNat)
  case atStart => exact ⟨0, ⟨#[]⟩, rfl, rfl, Nat.zero_le _, rfl, Below.refl _ _⟩
  case round =>
    obtain ⟨k, s, rfl, rfl, hk, hs, hb⟩ := hrel
    have HS := Lib.hid hs
    have HB := Lib.hid hb
    clear hs hb
    by_cases hlt : k < ts.length
    · obtain ⟨b', off, rfl, hca⟩ := (HA.out.below HB.out) (by intro e; rw [e] at hlt; simp at hlt)
      obtain ⟨t, ht⟩ : ∃ t, ts[k]? = some t := ⟨_, List.getElem?_eq_getElem hlt⟩
      obtain ⟨a0, a1, a2⟩ := hca k t ht
      have HT := Lib.hid ht
      have hj := joinL_le ts (k + 1)
      rw [joinL_take ht, List.length_append, List.length_append, bl_length, bl_length] at hj
      have hsz := bl_size HS.out
      have hl0 := HLen.out
      have hq1 := fun w : World => run_string_add_sum (P := Try.prog) w s t.lead (by omega)
      have hq2 := fun w : World => run_string_add_sum (P := Try.prog) w (s ++ t.lead) t.text (by rw [ByteArray.size_append]; omega)
      have hlt' : (k : Int) < (ts.length : Int) := by omega
      have hk1 : (0 : Int) ≤ (k : Int) := by omega
      clear hca ht hj hsz hl0
      go_wp2_with fail
      go_quiet (fail)
      go_wp2
      go_roundw
      case rel => exact ⟨k + 1, s ++ t.lead ++ t.text, rfl, by go_num, by omega, by rw [bl_append, bl_append, HS.out, joinL_take HT.out, List.append_assoc], below_drewN HB.out _⟩
      case measure => simp [intOf]; omega
    · have hkn : k = ts.length := by omega
      have hs2 : bl s = joinL ts [] := by rw [HS.out, hkn, List.take_length]
      have hsz := bl_size hs2
      have hl0 := HLen.out
      rw [bl_length] at hl0
      have hq1 := fun w : World => run_string_add_sum (P := Try.prog) w s tail (by omega)
      have HX := Lib.hid (show (⟨(joinL ts (bl tail)).toArray⟩ : ByteArray) = s ++ tail from bl_inj (by rw [bl_append, hs2, joinL_tail]; unfold bl suf; simp))
      clear hs2 hsz hl0
      go_wp2
      go_ret
      exact ⟨ret_str HX.out.symm, HB.out⟩
end Go.Proofs.Ytopnimajlgpdeaa
