/- The contracts of the reference's decimal, Format and Parse. Condition: texts of at most 2^47 - 4096 bytes. -/
import Derived.Test.YthhgincbifckgaaIdnRead
namespace Go.Proofs.Ythhgincbifckgaa
open Go.RowKit
theorem conv_one (w : World) (x : Int) : (convert 38 9 (.slice (some ⟨w.heap.size, 0, none⟩) 1 1)).run Try.prog (w.alloc (.cells #[.int .u8 x] 5)) = .ok (.string (strOfNums [x])) (w.alloc (.cells #[.int .u8 x] 5)) :=
  run_convert_bytes_arg _ 38 5 Try.underlying38 Try.underlying5 w.heap.size 0 1 1 [x] rfl (fun i hi => by
    obtain rfl : i = 0 := by omega
    have h := cell_one_new w (.int .u8 x) 5 0 _ rfl
    exact h) 9 Try.underlying9
theorem dig_cons (k : Nat) (acc : List UInt8) : strOfNums [48 + (k : Int) % 10] ++ strL acc = strL (UInt8.ofNat (48 + k % 10) :: acc) := by
  have h : (48 + (k : Int) % 10).toNat = 48 + k % 10 := by omega
  unfold strOfNums strL
  rw [List.map_cons, List.map_nil, h]
  apply ByteArray.ext
  rw [ByteArray.data_append]
  simp
def DecL (n : Nat) (w : World) (a b : Value) (wr : World) : Prop := ∃ (k : Nat) (acc : List UInt8), a = .int .i64 (k : Int) ∧ b = .string (strL acc) ∧ k ≤ n ∧ decL n = decL k ++ acc ∧ Below w.heap.size w wr
set_option maxHeartbeats 1000000 in
theorem decimal_any (n : Nat) (w : World) (hn : n ≤ 1048575) :
    Calls Try.prog 30 #[.int .i64 (n : Int)] w fun e w' => e = .returned (.string (strL (decL n))) ∧ Below w.heap.size w w' := by
  have kc := conv_one
  go_enter Try.func30, Try.ntmps30
  go_wp2
  go_loopw [0, 3] (fun a b wr => DecL n w a b wr) (fun a _ _ => (intOf a).toNat)
  case atStart => exact ⟨n, [], rfl, rfl, Nat.le_refl _, by simp, Below.refl _ _⟩
  case round =>
    obtain ⟨k, acc, rfl, rfl, hk, hacc, hb⟩ := hrel
    have HB := Lib.hid hb
    have HA := Lib.hid hacc
    have HDC := Lib.hid (dig_cons k acc)
    have hsz : ¬ 9223372036854775807 < (strOfNums [48 + (k : Int) % 10]).size + (strL acc).size := by
      have h1 := congrArg List.length hacc
      have h2 := decL_le7 n hn
      rw [List.length_append] at h1
      rw [strOfNums_size, strL_size, List.length_singleton]
      omega
    clear hb hacc
    by_cases hz : k < 10
    · have hz' : (((k : Int) / 10) == 0) = true := by simp; omega
      have HZ := Lib.hid (decL_low hz)
      have hz2 : (k : Int) / 10 = 0 := by omega
      have HM := Lib.hid (show k % 10 = k by omega)
      clear hz
      go_wp2
      go_ret
      exact ⟨ret_str (by rw [HDC.out, HA.out, HZ.out, HM.out]; rfl), HB.out.alloc HB.out.size _⟩
    · have hz' : (((k : Int) / 10) == 0) = false := by simp; omega
      have HZ := Lib.hid (decL_big hz)
      go_wp2
      go_roundw
      case rel => exact ⟨k / 10, UInt8.ofNat (48 + k % 10) :: acc, by simp, by rw [HDC.out], by omega, by rw [HA.out, HZ.out]; simp, (HB.out.alloc HB.out.size _)⟩
      case measure => simp [intOf]; omega
set_option maxHeartbeats 1000000 in
theorem rformat_any (x : Int) (w : World) : Calls Try.prog 23 #[.int .i64 x] w fun e w' => e = .returned (.string (strL (fmtI x))) ∧ Below w.heap.size w w' := by
  cases hv : validB x
  · have HF := Lib.hid (show fmtI x = [] by unfold fmtI; rw [hv]; rfl)
    have HV := Lib.hid hv
    clear hv
    go_enter Try.func23, Try.ntmps23
    go_wp2_with (first | (go_at_call 13; refine (rvalid_any _ _).mono ?_; rintro e w' ⟨rfl, rfl⟩; rw [HV.out]))
    go_ret
    exact ⟨ret_str (by rw [HF.out]; rfl), Below.refl _ _⟩
  · have hbd : 1 ≤ x / 1048576 ∧ x / 1048576 ≤ 32 ∧ 1 ≤ x % 1048576 ∧ x % 1048576 ≤ 1048575 := by unfold validB siteB serB at hv; simp at hv; omega
    obtain ⟨a, ha⟩ : ∃ a : Nat, x / 1048576 = (a : Int) := ⟨(x / 1048576).toNat, by omega⟩
    obtain ⟨n, hn⟩ : ∃ n : Nat, x % 1048576 = (n : Int) := ⟨(x % 1048576).toNat, by omega⟩
    have HF := Lib.hid (show strL (fmtI x) = (strL (decL a) ++ ⟨#[46]⟩) ++ strL (decL n) by unfold fmtI fmtL strL; rw [hv, ha, hn]; apply ByteArray.ext; simp [ByteArray.data_append])
    have HS1 := Lib.hid (fun w => by have h := rsite_any x w; unfold siteI at h; rw [hv, if_pos rfl, ha] at h; exact h : ∀ w, Calls Try.prog 15 #[.int .i64 x] w fun e w' => e = .returned (.int .i64 (a : Int)) ∧ w = w')
    have HS2 := Lib.hid (fun w => by have h := rserial_any x w; unfold serI at h; rw [hv, if_pos rfl, hn] at h; exact h : ∀ w, Calls Try.prog 17 #[.int .i64 x] w fun e w' => e = .returned (.int .i64 (n : Int)) ∧ w = w')
    have ha' : a ≤ 1048575 := by omega
    have hn' : n ≤ 1048575 := by omega
    have HD1 := Lib.hid (fun w => decimal_any a w ha')
    have HD2 := Lib.hid (fun w => decimal_any n w hn')
    have hs1 : (strL (decL a)).size ≤ 7 := by rw [strL_size]; exact decL_le7 a ha'
    have hs2 : (strL (decL n)).size ≤ 7 := by rw [strL_size]; exact decL_le7 n hn'
    obtain ⟨S1, hS1⟩ : ∃ S, S = strL (decL a) := ⟨_, rfl⟩
    obtain ⟨S2, hS2⟩ : ∃ S, S = strL (decL n) := ⟨_, rfl⟩
    rw [← hS1] at HF HD1 hs1
    rw [← hS2] at HF HD2 hs2
    have HV := Lib.hid hv
    clear hv hbd ha hn hS1 hS2
    go_enter Try.func23, Try.ntmps23
    go_wp2_with (first | (go_at_call 13; refine (rvalid_any _ _).mono ?_; rintro e w' ⟨rfl, rfl⟩; rw [HV.out]) | (go_at_call 15; refine (HS1.out _).mono ?_; rintro e w' ⟨rfl, rfl⟩))
    refine (HD1.out _).mono ?_
    rintro e w1 ⟨rfl, hb1⟩
    have HB1 := Lib.hid hb1
    clear hb1
    have c1 : ¬ 9223372036854775807 < S1.size + 1 := by omega
    have c2 : ¬ 9223372036854775807 < S1.size + 1 + S2.size := by omega
    go_wp2_with (first | (go_at_call 17; refine (HS2.out _).mono ?_; rintro e w' ⟨rfl, rfl⟩))
    refine (HD2.out _).mono ?_
    rintro e w2 ⟨rfl, hb2⟩
    have HB2 := Lib.hid hb2
    clear hb2
    go_wp2
    go_ret
    exact ⟨ret_str HF.out.symm, HB1.out.trans (HB2.out.mono HB1.out.size)⟩
end Go.Proofs.Ythhgincbifckgaa
