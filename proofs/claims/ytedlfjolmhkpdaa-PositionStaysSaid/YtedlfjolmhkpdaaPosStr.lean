/- Strings as lists of bytes; the contracts of Valid, isBound and the reference's Valid. Condition: texts of at most 2^47 - 4096 bytes. -/
import Derived.Test.YtedlfjolmhkpdaaRows
import Derived.Test.YtedlfjolmhkpdaaPosPure
import Derived.WalkKit
import Derived.WalkSpells
import Derived.WalkLawsBesides
import Derived.Lib.Hide
import Derived.Deep.LoopGhost
import Derived.Deep.QuietTactic
import Derived.BigQuiet
import Derived.Laws.BytesArg
import Derived.Deep.AppendLies
namespace Go.Proofs.Ytedlfjolmhkpdaa
open Go.RowKit
theorem ret_bool {a b : Bool} (h : a = b) : Ending.returned (.bool a) = .returned (.bool b) := by rw [h]
theorem ret_int {a b : Int} (h : a = b) : Ending.returned (.int .i64 a) = .returned (.int .i64 b) := by rw [h]
theorem ret_str {a b : ByteArray} (h : a = b) : Ending.returned (.string a) = .returned (.string b) := by rw [h]
theorem ret_strnum {a b : Int} {c d : ByteArray} (h' : c = d) (h : a = b) : Ending.returned (.tuple #[.string c, .int .i64 a]) = .returned (.tuple #[.string d, .int .i64 b]) := by rw [h, h']
/-- The string of a list of bytes. -/
def strL (l : List UInt8) : ByteArray := ⟨l.toArray⟩
theorem strL_size (l : List UInt8) : (strL l).size = l.length := by unfold strL; simp [ByteArray.size]
theorem strL_inj {l r : List UInt8} (h : strL l = strL r) : l = r := by
  have := congrArg (fun s : ByteArray => s.data.toList) h
  simpa [strL] using this
theorem strL_back (s : ByteArray) : strL s.data.toList = s := by cases s; simp [strL]
theorem strL_list (l : List UInt8) : (strL l).data.toList = l := by unfold strL; simp
theorem strL_toList (l : List UInt8) : (strL l).toList = l := by rw [ByteArray.toList_eq, strL_list]
theorem str_nums (l : List UInt8) : strOfNums (l.map fun c => (c.toNat : Int)) = strL l := by
  unfold strOfNums strL
  rw [List.map_map]
  congr 2
  apply List.ext_getElem (by simp)
  intro i h1 h2
  simp
/-- What is left of a string from a place on. -/
def suf (s : ByteArray) (k : Nat) : List UInt8 := s.data.toList.drop k
theorem suf_cons (s : ByteArray) (k : Nat) (h : k < s.size) : suf s k = s[k] :: suf s (k + 1) := by
  unfold suf
  rw [List.drop_eq_getElem_cons (by simpa using h)]
  rfl
theorem suf_end (s : ByteArray) (k : Nat) (h : s.size ≤ k) : suf s k = [] := by
  unfold suf
  exact List.drop_eq_nil_of_le (by simpa using h)
theorem str_ne {s : ByteArray} (h : 0 < s.size) : ¬ s.toList = [] := by
  rw [ByteArray.toList_eq]
  intro e
  have h2 : s.data.toList.length = s.size := Array.length_toList
  rw [e] at h2
  exact absurd h2.symm (by show ¬ s.size = 0; omega)
theorem str_some {s : ByteArray} (h : 0 < s.size) : s.toList.isEmpty = false := by
  have := str_ne h
  cases hl : s.toList with
  | nil => exact absurd hl this
  | cons => rfl
theorem str_none {s : ByteArray} (h : s.size = 0) : s = ⟨#[]⟩ := by
  have hl : s.data.toList = [] := List.eq_nil_of_length_eq_zero (by simpa using h)
  cases s
  simp at hl
  rw [hl]
theorem data_len (s : ByteArray) : s.data.toList.length = s.size := Array.length_toList
theorem drewN_below (w : World) (n : Nat) : Below w.heap.size w (w.drewN n) := (Below.refl _ _).trans ⟨rfl, rfl, rfl, Nat.le_refl _, fun _ _ => rfl⟩
theorem last_at (s : ByteArray) (m : Nat) (h : s.size = m + 1) (hm : m < s.size) : s.data.toList.getLast? = some s[m] := by
  rw [List.getLast?_eq_getElem?, show s.data.toList.length - 1 = m by rw [data_len]; omega, List.getElem?_eq_getElem (by rw [data_len]; omega)]
  rfl
theorem vld_empty : vldB [] = false := rfl
theorem vld_long {l : List UInt8} (h : 60 < l.length) : vldB l = false := by
  unfold vldB
  rw [decide_eq_false (by omega)]
  simp
theorem vld_last {s : ByteArray} {m : Nat} (h : s.size = m + 1) (hm : m < s.size) (h60 : m < 60) : vldB s.data.toList = (s.data.toList.all letB && !decide (s[m].toNat = 97)) := by
  unfold vldB
  have h1 : s.data.toList.isEmpty = false := by
    cases hl : s.data.toList with
    | nil => have := data_len s; rw [hl] at this; simp at this; omega
    | cons => rfl
  rw [h1, last_at s m h hm, data_len, decide_eq_true (by omega : s.size ≤ 60)]
  have : (some s[m] == some (97 : UInt8)) = decide (s[m].toNat = 97) := by
    rw [Bool.eq_iff_iff, beq_iff_eq, decide_eq_true_eq, Option.some.injEq, ← UInt8.toNat_inj]
    rfl
  rw [this]
  simp
theorem all_step {s : ByteArray} {k : Nat} (h : k < s.size) : (suf s k).all letB = (letB s[k] && (suf s (k + 1)).all letB) := by rw [suf_cons s k h]; rfl
theorem neq97 (x : Nat) : ((x : Int) != 97) = !decide (x = 97) := by
  rw [Bool.eq_iff_iff]
  simp
  omega
theorem eq97 (x : Nat) : ((x : Int) == 97) = decide (x = 97) := by
  rw [Bool.eq_iff_iff]
  simp
  omega
set_option maxHeartbeats 1000000 in
theorem valid_any (s : ByteArray) (w : World) (hs : s.size ≤ maxLen) : Calls Try.prog 14 #[.string s] w fun e w' => e = .returned (.bool (vldB s.data.toList)) ∧ w = w' := by
  unfold maxLen at hs
  by_cases h0 : s.size = 0
  · obtain rfl := str_none h0
    clear h0
    go_enter Try.func14, Try.ntmps14
    go_wp2
    go_ret
    exact ⟨ret_bool rfl, rfl⟩
  · have hpos : 0 < s.size := by omega
    have n3 := str_ne hpos
    have n1 := str_some hpos
    by_cases h60 : 60 < s.size
    · have HV := Lib.hid (vld_long (l := s.data.toList) (by rw [data_len]; exact h60))
      clear h0
      go_enter Try.func14, Try.ntmps14
      go_wp2
      go_ret
      exact ⟨ret_bool HV.out.symm, rfl⟩
    · obtain ⟨m, hm⟩ : ∃ m, s.size = m + 1 := ⟨s.size - 1, by omega⟩
      have h59 : m < 60 := by omega
      have hml : m < s.size := by omega
      have HV := Lib.hid (vld_last hm hml h59)
      have HM := Lib.hid hm
      have hle : s.size ≤ 60 := by omega
      clear h0 hm h60
      go_enter Try.func14, Try.ntmps14
      go_wp2
      go_loop [13] (fun a => ∃ k : Nat, k ≤ s.size ∧ a = .int .i64 k ∧ (suf s 0).all letB = (suf s k).all letB) (fun a => s.size - (intOf a).toNat)
      case atStart => exact ⟨0, by omega, rfl, rfl⟩
      case round =>
        obtain ⟨k, hk, rfl, hrel⟩ := hrel
        have HR := Lib.hid hrel
        clear hrel n1 n3
        by_cases hlt : k < s.size
        · have HST := Lib.hid (all_step hlt)
          by_cases hb : 97 ≤ s[k].toNat ∧ s[k].toNat ≤ 122
          · obtain ⟨b1, b2⟩ := hb
            have HL := Lib.hid (show letB s[k] = true by unfold letB; simp [b1, b2])
            go_wp2
            go_round
            case rel => exact ⟨k + 1, by omega, by go_num, by rw [HR.out, HST.out, HL.out, Bool.true_and]⟩
            case measure => simp [intOf]; omega
          · have HL := Lib.hid (show letB s[k] = false by unfold letB; simp; omega)
            by_cases b1 : s[k].toNat < 97
            all_goals
              go_wp2
              go_ret
              exact ⟨ret_bool (by rw [HV.out, show s.data.toList = suf s 0 from rfl, HR.out, HST.out, HL.out]; rfl), rfl⟩
        · have HE := Lib.hid (show (suf s 0).all letB = true by rw [HR.out, suf_end s k (by omega)]; rfl)
          have hi1 : (s.size : Int) - 1 = (m : Int) := by have := HM.out; omega
          go_wp2
          go_ret
          refine ⟨ret_bool ?_, rfl⟩
          rw [HV.out, show s.data.toList = suf s 0 from rfl, HE.out, Bool.true_and, neq97]
theorem bytes_gtr (a b : List UInt8) : (!(Op.bytesLess a b || a == b)) = Op.bytesLess b a := by
  have h1 : Op.bytesLess a b = bl a b := rfl
  have h2 : Op.bytesLess b a = bl b a := rfl
  rw [h1, h2]
  rcases bl_tri a b with h | h | h
  · rw [h, bl_as h]; rfl
  · subst h; rw [bl_irr]; simp
  · rw [h, bl_as h]
    have : (a == b) = false := by
      rw [beq_eq_false_iff_ne]
      rintro rfl
      rw [bl_irr] at h
      cases h
    rw [this]
    rfl
theorem str_gtr (t : TypeId) (a b : ByteArray) : binOp .gtr t (.string a) (.string b) = pure (.bool (Op.bytesLess b.toList a.toList)) := by rw [binOp_string_gtr, bytes_gtr]
theorem str_leq (t : TypeId) (a b : ByteArray) : binOp .leq t (.string a) (.string b) = pure (.bool (!Op.bytesLess b.toList a.toList)) := by rw [binOp_string_leq, ← bytes_gtr a.toList, Bool.not_not]
theorem bnd_empty : bndB [] = true := rfl
theorem bnd_some {s : ByteArray} (h : 0 < s.size) : bndB s.data.toList = vldB s.data.toList := by
  unfold bndB
  cases hl : s.data.toList with
  | nil => have := data_len s; rw [hl] at this; simp at this; omega
  | cons => rfl
theorem isBound_any (s : ByteArray) (w : World) (hs : s.size ≤ maxLen) : Calls Try.prog 25 #[.string s] w fun e w' => e = .returned (.bool (bndB s.data.toList)) ∧ w = w' := by
  by_cases h0 : s.size = 0
  · obtain rfl := str_none h0
    clear h0 hs
    go_enter Try.func25, Try.ntmps25
    go_wp2
    go_ret
    exact ⟨ret_bool rfl, rfl⟩
  · have hpos : 0 < s.size := by omega
    have n3 := str_ne hpos
    have n1 := str_some hpos
    have HB := Lib.hid (bnd_some hpos)
    have HC := Lib.hid (fun w => valid_any s w hs)
    clear h0 hs
    go_enter Try.func25, Try.ntmps25
    go_wp2_with (first | (go_at_call 14; refine (HC.out _).mono ?_; rintro e w' ⟨rfl, rfl⟩))
    go_ret
    exact ⟨ret_bool HB.out.symm, rfl⟩
set_option maxHeartbeats 1000000 in
theorem rvalid_any (s : ByteArray) (w : World) (hs : s.size ≤ maxLen) : Calls Try.prog 15 #[.string s] w fun e w' => e = .returned (.bool (vldB s.data.toList)) ∧ w = w' := by
  unfold maxLen at hs
  by_cases h0 : s.size = 0
  · obtain rfl := str_none h0
    clear h0
    go_enter Try.func15, Try.ntmps15
    go_wp2
    go_ret
    exact ⟨ret_bool rfl, rfl⟩
  · by_cases h60 : 60 < s.size
    · have HV := Lib.hid (vld_long (l := s.data.toList) (by rw [data_len]; exact h60))
      clear h0
      have h1 : ¬ s.size < 1 := by omega
      go_enter Try.func15, Try.ntmps15
      go_wp2
      go_ret
      exact ⟨ret_bool HV.out.symm, rfl⟩
    · obtain ⟨m, hm⟩ : ∃ m, s.size = m + 1 := ⟨s.size - 1, by omega⟩
      have h59 : m < 60 := by omega
      have hml : m < s.size := by omega
      have HV := Lib.hid (vld_last hm hml h59)
      have HM := Lib.hid hm
      have hle : s.size ≤ 60 := by omega
      have h1 : ¬ s.size < 1 := by omega
      have hi1 : (s.size : Int) - 1 = (m : Int) := by omega
      clear h0 hm
      by_cases h97 : s[m].toNat = 97
      · have h98 : ((s[m].toNat : Int) == 97) = true := by rw [eq97, decide_eq_true h97]
        have HL := Lib.hid h97
        clear h97
        go_enter Try.func15, Try.ntmps15
        go_wp2
        go_ret
        exact ⟨ret_bool (by rw [HV.out, decide_eq_true HL.out]; simp), rfl⟩
      · have h98 : ((s[m].toNat : Int) == 97) = false := by rw [eq97, decide_eq_false h97]
        have HL := Lib.hid h97
        clear h97
        go_enter Try.func15, Try.ntmps15
        go_wp2
        clear hi1
        go_loop [3] (fun a => ∃ k : Nat, k ≤ s.size ∧ a = .int .i64 k ∧ (suf s 0).all letB = (suf s k).all letB) (fun a => s.size - (intOf a).toNat)
        case atStart => exact ⟨0, by omega, rfl, rfl⟩
        case round =>
          obtain ⟨k, hk, rfl, hrel⟩ := hrel
          have HR := Lib.hid hrel
          clear hrel h98
          by_cases hlt : k < s.size
          · have HST := Lib.hid (all_step hlt)
            by_cases hb : 97 ≤ s[k].toNat ∧ s[k].toNat ≤ 122
            · obtain ⟨b1, b2⟩ := hb
              have HL := Lib.hid (show letB s[k] = true by unfold letB; simp [b1, b2])
              go_wp2
              go_round
              case rel => exact ⟨k + 1, by omega, by go_num, by rw [HR.out, HST.out, HL.out, Bool.true_and]⟩
              case measure => simp [intOf]; omega
            · have HL := Lib.hid (show letB s[k] = false by unfold letB; simp; omega)
              by_cases b1 : s[k].toNat < 97
              all_goals
                go_wp2
                go_ret
                exact ⟨ret_bool (by rw [HV.out, show s.data.toList = suf s 0 from rfl, HR.out, HST.out, HL.out]; rfl), rfl⟩
          · have HE := Lib.hid (show (suf s 0).all letB = true by rw [HR.out, suf_end s k (by omega)]; rfl)
            go_wp2
            go_ret
            refine ⟨ret_bool ?_, rfl⟩
            rw [HV.out, show s.data.toList = suf s 0 from rfl, HE.out, decide_eq_false HL.out]
            rfl
end Go.Proofs.Ytedlfjolmhkpdaa
