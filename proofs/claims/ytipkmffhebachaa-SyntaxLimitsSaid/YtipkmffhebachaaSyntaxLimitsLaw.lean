/- The law SyntaxLimits holds for every input: the call returns true, and each argument reads as it read. No condition. -/
import Derived.Test.YtipkmffhebachaaSynAwakes
import Derived.Test.YtipkmffhebachaaSynLimPure
import Derived.ProofKit
import Derived.OpenShut
import Derived.ShutString
import Derived.ChangeOld
import Derived.SizedLaws
namespace Go.Proofs.Ytipkmffhebachaa.syntaxLimits
open Go.ChangeShapes Go.WideShapes Go.ChangeAt Go.RowKit
open Go.ChangeMaps (open_string shut_string)
set_option linter.unusedVariables false
theorem own : ownKnob Try.prog.godebug = none := by kernel_rfl
theorem rowB_size (p : ByteArray) (n : Nat) : (rowB p n).size ≤ n * (p.size + 1) := by
  induction n with
  | zero => exact Nat.zero_le _
  | succ n ih =>
    rw [rowB, ByteArray.size_append, Nat.succ_mul]
    split
    · rw [ByteArray.size_append]
      show _ + 1 + _ ≤ _
      omega
    · omega
def RowAt (p : ByteArray) (n : Nat) (w : World) (v i : Value) (wr : World) : Prop := ∃ k : Nat, i = .int .i64 k ∧ k ≤ n ∧ v = .string (rowB p k) ∧ w = wr
set_option maxHeartbeats 1000000 in
theorem row_syn (p : ByteArray) (n : Nat) (w : World) (hp : p.size ≤ 10) (hn : n ≤ 100) : Calls Try.prog 19 #[.string p, .int .i64 n] w fun e w' => e = .returned (.string (rowB p n)) ∧ w = w' := by
  go_enter Try.func19, Try.ntmps19
  go_wp2
  go_loopw [5, 6] (fun v i wr => RowAt p n w v i wr) (fun _ i _ => n - (intOf i).toNat)
  case atStart => exact ⟨0, rfl, Nat.zero_le _, rfl, rfl⟩
  case round =>
    obtain ⟨k, rfl, hk, rfl, rfl⟩ := hrel
    have hsz := rowB_size p k
    have hsz2 : k * (p.size + 1) ≤ 100 * 11 := Nat.mul_le_mul (by omega) (by omega)
    by_cases hlt : k < n
    · by_cases hk0 : 0 < k
      · have d0 := decide_eq_true hk0
        have hq1 := fun w : World => run_string_add_sum (P := Try.prog) w (rowB p k) ⟨#[44]⟩ (by show (rowB p k).size + 1 ≤ _; omega)
        have hq2 := fun w : World => run_string_add_sum (P := Try.prog) w (rowB p k ++ ⟨#[44]⟩) p (by rw [ByteArray.size_append]; show (rowB p k).size + 1 + p.size ≤ _; omega)
        have HR := Lib.hid (show rowB p (k + 1) = rowB p k ++ ⟨#[44]⟩ ++ p from by rw [rowB, if_pos hk0])
        clear hsz hsz2
        go_wp2
        go_roundw
        case rel => exact ⟨k + 1, by go_num, by omega, by rw [HR.out], rfl⟩
        case measure => simp [intOf]; omega
      · have d0 := decide_eq_false hk0
        have hq2 := fun w : World => run_string_add_sum (P := Try.prog) w (rowB p k) p (by omega)
        have HR := Lib.hid (show rowB p (k + 1) = rowB p k ++ p from by rw [rowB, if_neg hk0])
        clear hsz hsz2
        go_wp2
        go_roundw
        case rel => exact ⟨k + 1, by go_num, by omega, by rw [HR.out], rfl⟩
        case measure => simp [intOf]; omega
    · have hkn : k = n := by omega
      subst hkn
      clear hsz hsz2
      go_wp2
      go_ret
      exact ⟨rfl, rfl⟩
theorem row_parsed {h p e : ByteArray} {most n : Nat} (hr : rowOk h p e most n = true) : ∃ t pl er, parseM 400 (h ++ rowB p n ++ e) = some (t, pl, er) ∧ (n ≤ most → er = 0) ∧ (¬ n ≤ most → er = 3 ∧ pl = h.size + (rowB p most).size + 1) := by
  unfold rowOk at hr
  cases hp : parseM 400 (h ++ rowB p n ++ e) with
  | none => rw [hp] at hr; cases hr
  | some r =>
    rw [hp] at hr
    obtain ⟨t, pl, er⟩ := r
    refine ⟨t, pl, er, rfl, fun hn => ?_, fun hn => ?_⟩
    · simpa [hn] using hr
    · simpa [hn] using hr
theorem mod_lim (a : Int) (N : Nat) (w : World) (h : (N : Int) = 1 + modM a 25) : Calls Try.prog 18 #[.int .i64 a, .int .i64 25] w fun e w' => e = .returned (.int .i64 ((N : Int) - 1)) ∧ w = w' := by
  refine (mod_syn a 25 w (by decide) (by decide)).mono fun e w' hh => ?_
  obtain ⟨he, hw⟩ := hh
  exact ⟨by rw [he, show modM a 25 = (N : Int) - 1 from by omega], hw⟩
set_option maxRecDepth 100000 in
set_option maxHeartbeats 2000000 in
theorem walk_0_1 (a0 a1 : Int) (N : Nat) (w : World) (HM : Hid ((N : Int) = 1 + modM a0 25)) (HM1 : Hid (((0 : Nat) : Int) = modM a1 3)) (hN1 : 1 ≤ N) (hN : N ≤ 25) (hc : N ≤ 8) (t : Tr) (pl : Nat) (HP : Hid (parseM 400 (⟨#[109, 111, 100, 117, 108, 101, 32, 77, 32, 100, 101, 102, 32, 102, 40]⟩ ++ rowB ⟨#[97, 58, 73, 110, 116]⟩ N ++ ⟨#[41, 58, 32, 73, 110, 116, 32, 61, 32, 49]⟩) = some (t, pl, 0))) :
    Calls Try.prog 7 #[.int .i64 a0, .int .i64 a1] w fun e w' => e = .returned (.bool true) ∧ Below w.heap.size w w' := by
  have d1 : decide ((N : Int) ≤ 8) = true := decide_eq_true (by omega)
  have hback : 1 + ((N : Int) - 1) = (N : Int) := by omega
  have hsz := rowB_size ⟨#[97, 58, 73, 110, 116]⟩ N
  have hsz2 : N * ((⟨#[97, 58, 73, 110, 116]⟩ : ByteArray).size + 1) ≤ 25 * 6 := Nat.mul_le_mul hN (by decide)
  have hsz3 : (rowB ⟨#[97, 58, 73, 110, 116]⟩ N).size ≤ 150 := by omega
  clear hsz hsz2
  have hq1 := fun w : World => run_string_add_sum (P := Try.prog) w ⟨#[109, 111, 100, 117, 108, 101, 32, 77, 32, 100, 101, 102, 32, 102, 40]⟩ (rowB ⟨#[97, 58, 73, 110, 116]⟩ N) (by show 15 + _ ≤ _; omega)
  have hq2 := fun w : World => run_string_add_sum (P := Try.prog) w (⟨#[109, 111, 100, 117, 108, 101, 32, 77, 32, 100, 101, 102, 32, 102, 40]⟩ ++ rowB ⟨#[97, 58, 73, 110, 116]⟩ N) ⟨#[41, 58, 32, 73, 110, 116, 32, 61, 32, 49]⟩ (by rw [ByteArray.size_append]; show 15 + _ + 10 ≤ _; omega)
  have S := Lib.hid (show (⟨#[109, 111, 100, 117, 108, 101, 32, 77, 32, 100, 101, 102, 32, 102, 40]⟩ ++ rowB ⟨#[97, 58, 73, 110, 116]⟩ N ++ ⟨#[41, 58, 32, 73, 110, 116, 32, 61, 32, 49]⟩).size ≤ maxLen from by rw [ByteArray.size_append, ByteArray.size_append]; show 15 + _ + 10 ≤ _; unfold maxLen; omega)
  clear hsz3 hc
  go_enter Try.func7, Try.ntmps7
  go_wp2_with fail
  go_at_call 18
  refine (mod_lim _ N _ HM.out).mono ?_
  rintro e w' ⟨rfl, rfl⟩
  dsimp only
  go_step
  repeat (first | go_values | go_skip | go_guarded | go_step | go_upon)
  go_at_call 18
  refine (mod_is _ _ 0 _ (by decide) (by decide) HM1.out).mono ?_
  rintro e w' ⟨rfl, rfl⟩
  dsimp only
  go_step
  repeat (first | go_values | go_skip | go_guarded | go_step | go_upon)
  go_at_call 19
  refine (row_syn _ N _ (Nat.le_of_ble_eq_true rfl) (by omega)).mono ?_
  rintro e w' ⟨rfl, rfl⟩
  dsimp only
  go_step
  repeat (first | go_values | go_skip | go_guarded | go_step | go_upon)
  go_at_call 10
  refine (parse_syn (n := 400) (Nat.le_of_ble_eq_true rfl) _ S.out HP.out).mono ?_
  rintro e w1 ⟨v, rfl, ht, hb⟩
  have HB := Lib.hid (hb.alloc hb.size (.cells #[.int .i64 v.kind, .string v.text, .slice v.la v.ll v.lc, .slice v.ka v.kl v.kc] 26))
  clear ht hb
  go_wp2_with fail
  go_at_call 9
  refine (awake_syn _).mono ?_
  rintro e w2 ⟨rfl, hb2⟩
  have HB2 := Lib.hid (HB.out.trans (hb2.mono HB.out.size))
  clear hb2
  go_wp2_with fail
  go_ret
  exact ⟨rfl, HB2.out⟩
set_option maxRecDepth 100000 in
set_option maxHeartbeats 2000000 in
theorem walk_0_0 (a0 a1 : Int) (N : Nat) (w : World) (HM : Hid ((N : Int) = 1 + modM a0 25)) (HM1 : Hid (((0 : Nat) : Int) = modM a1 3)) (hN1 : 1 ≤ N) (hN : N ≤ 25) (hc : ¬ N ≤ 8) (t : Tr) (pl : Nat) (HP : Hid (parseM 400 (⟨#[109, 111, 100, 117, 108, 101, 32, 77, 32, 100, 101, 102, 32, 102, 40]⟩ ++ rowB ⟨#[97, 58, 73, 110, 116]⟩ N ++ ⟨#[41, 58, 32, 73, 110, 116, 32, 61, 32, 49]⟩) = some (t, pl, 3))) (hpl : pl = 15 + (rowB ⟨#[97, 58, 73, 110, 116]⟩ 8).size + 1) :
    Calls Try.prog 7 #[.int .i64 a0, .int .i64 a1] w fun e w' => e = .returned (.bool true) ∧ Below w.heap.size w w' := by
  have d1 : decide ((N : Int) ≤ 8) = false := decide_eq_false (by omega)
  have hback : 1 + ((N : Int) - 1) = (N : Int) := by omega
  have hsz := rowB_size ⟨#[97, 58, 73, 110, 116]⟩ N
  have hsz2 : N * ((⟨#[97, 58, 73, 110, 116]⟩ : ByteArray).size + 1) ≤ 25 * 6 := Nat.mul_le_mul hN (by decide)
  have hsz3 : (rowB ⟨#[97, 58, 73, 110, 116]⟩ N).size ≤ 150 := by omega
  clear hsz hsz2
  have hq1 := fun w : World => run_string_add_sum (P := Try.prog) w ⟨#[109, 111, 100, 117, 108, 101, 32, 77, 32, 100, 101, 102, 32, 102, 40]⟩ (rowB ⟨#[97, 58, 73, 110, 116]⟩ N) (by show 15 + _ ≤ _; omega)
  have hq2 := fun w : World => run_string_add_sum (P := Try.prog) w (⟨#[109, 111, 100, 117, 108, 101, 32, 77, 32, 100, 101, 102, 32, 102, 40]⟩ ++ rowB ⟨#[97, 58, 73, 110, 116]⟩ N) ⟨#[41, 58, 32, 73, 110, 116, 32, 61, 32, 49]⟩ (by rw [ByteArray.size_append]; show 15 + _ + 10 ≤ _; omega)
  have S := Lib.hid (show (⟨#[109, 111, 100, 117, 108, 101, 32, 77, 32, 100, 101, 102, 32, 102, 40]⟩ ++ rowB ⟨#[97, 58, 73, 110, 116]⟩ N ++ ⟨#[41, 58, 32, 73, 110, 116, 32, 61, 32, 49]⟩).size ≤ maxLen from by rw [ByteArray.size_append, ByteArray.size_append]; show 15 + _ + 10 ≤ _; unfold maxLen; omega)
  have hpe : (pl : Int) = 15 + ((rowB ⟨#[97, 58, 73, 110, 116]⟩ 8).size : Int) + 1 := by omega
  clear hsz3 hc hpl
  go_enter Try.func7, Try.ntmps7
  go_wp2_with fail
  go_at_call 18
  refine (mod_lim _ N _ HM.out).mono ?_
  rintro e w' ⟨rfl, rfl⟩
  dsimp only
  go_step
  repeat (first | go_values | go_skip | go_guarded | go_step | go_upon)
  go_at_call 18
  refine (mod_is _ _ 0 _ (by decide) (by decide) HM1.out).mono ?_
  rintro e w' ⟨rfl, rfl⟩
  dsimp only
  go_step
  repeat (first | go_values | go_skip | go_guarded | go_step | go_upon)
  go_at_call 19
  refine (row_syn _ N _ (Nat.le_of_ble_eq_true rfl) (by omega)).mono ?_
  rintro e w' ⟨rfl, rfl⟩
  dsimp only
  go_step
  repeat (first | go_values | go_skip | go_guarded | go_step | go_upon)
  go_at_call 10
  refine (parse_syn (n := 400) (Nat.le_of_ble_eq_true rfl) _ S.out HP.out).mono ?_
  rintro e w1 ⟨v, rfl, ht, hb⟩
  have HB := Lib.hid (hb.alloc hb.size (.cells #[.int .i64 v.kind, .string v.text, .slice v.la v.ll v.lc, .slice v.ka v.kl v.kc] 26))
  clear ht hb
  go_wp2_with fail
  go_at_call 9
  refine (awake_syn _).mono ?_
  rintro e w2 ⟨rfl, hb2⟩
  have HB2 := Lib.hid (HB.out.trans (hb2.mono HB.out.size))
  clear hb2
  go_wp2_with fail
  go_at_call 19
  refine (row_syn _ 8 _ (Nat.le_of_ble_eq_true rfl) (by decide)).mono ?_
  rintro e w' ⟨rfl, rfl⟩
  dsimp only
  go_step
  repeat (first | go_values | go_skip | go_guarded | go_step | go_upon)
  go_ret
  have hsz := rowB_size ⟨#[97, 58, 73, 110, 116]⟩ 8
  have hsz1 : (⟨#[97, 58, 73, 110, 116]⟩ : ByteArray).size = 5 := rfl
  have hwr : ∀ n : Int, 0 ≤ n → n ≤ 10000 → wrap64 n = n := fun n h1 h2 => by unfold wrap64; omega
  exact ⟨ret_bool (by rw [hwr (15 + ((rowB ⟨#[97, 58, 73, 110, 116]⟩ 8).size : Int)) (by omega) (by omega), hwr (15 + ((rowB ⟨#[97, 58, 73, 110, 116]⟩ 8).size : Int) + 1) (by omega) (by omega)]; simp), HB2.out⟩
set_option maxRecDepth 100000 in
set_option maxHeartbeats 2000000 in
theorem walk_1_1 (a0 a1 : Int) (N : Nat) (w : World) (HM : Hid ((N : Int) = 1 + modM a0 25)) (HM1 : Hid (((1 : Nat) : Int) = modM a1 3)) (hN1 : 1 ≤ N) (hN : N ≤ 25) (hc : N ≤ 8) (t : Tr) (pl : Nat) (HP : Hid (parseM 400 (⟨#[109, 111, 100, 117, 108, 101, 32, 77, 32, 100, 101, 102, 32, 102, 40, 41, 58, 32, 73, 110, 116, 32, 61, 32, 103, 40]⟩ ++ rowB ⟨#[49]⟩ N ++ ⟨#[41]⟩) = some (t, pl, 0))) :
    Calls Try.prog 7 #[.int .i64 a0, .int .i64 a1] w fun e w' => e = .returned (.bool true) ∧ Below w.heap.size w w' := by
  have d1 : decide ((N : Int) ≤ 8) = true := decide_eq_true (by omega)
  have hback : 1 + ((N : Int) - 1) = (N : Int) := by omega
  have hsz := rowB_size ⟨#[49]⟩ N
  have hsz2 : N * ((⟨#[49]⟩ : ByteArray).size + 1) ≤ 25 * 2 := Nat.mul_le_mul hN (by decide)
  have hsz3 : (rowB ⟨#[49]⟩ N).size ≤ 150 := by omega
  clear hsz hsz2
  have hq1 := fun w : World => run_string_add_sum (P := Try.prog) w ⟨#[109, 111, 100, 117, 108, 101, 32, 77, 32, 100, 101, 102, 32, 102, 40, 41, 58, 32, 73, 110, 116, 32, 61, 32, 103, 40]⟩ (rowB ⟨#[49]⟩ N) (by show 26 + _ ≤ _; omega)
  have hq2 := fun w : World => run_string_add_sum (P := Try.prog) w (⟨#[109, 111, 100, 117, 108, 101, 32, 77, 32, 100, 101, 102, 32, 102, 40, 41, 58, 32, 73, 110, 116, 32, 61, 32, 103, 40]⟩ ++ rowB ⟨#[49]⟩ N) ⟨#[41]⟩ (by rw [ByteArray.size_append]; show 26 + _ + 1 ≤ _; omega)
  have S := Lib.hid (show (⟨#[109, 111, 100, 117, 108, 101, 32, 77, 32, 100, 101, 102, 32, 102, 40, 41, 58, 32, 73, 110, 116, 32, 61, 32, 103, 40]⟩ ++ rowB ⟨#[49]⟩ N ++ ⟨#[41]⟩).size ≤ maxLen from by rw [ByteArray.size_append, ByteArray.size_append]; show 26 + _ + 1 ≤ _; unfold maxLen; omega)
  clear hsz3 hc
  go_enter Try.func7, Try.ntmps7
  go_wp2_with fail
  go_at_call 18
  refine (mod_lim _ N _ HM.out).mono ?_
  rintro e w' ⟨rfl, rfl⟩
  dsimp only
  go_step
  repeat (first | go_values | go_skip | go_guarded | go_step | go_upon)
  go_at_call 18
  refine (mod_is _ _ 1 _ (by decide) (by decide) HM1.out).mono ?_
  rintro e w' ⟨rfl, rfl⟩
  dsimp only
  go_step
  repeat (first | go_values | go_skip | go_guarded | go_step | go_upon)
  go_at_call 19
  refine (row_syn _ N _ (Nat.le_of_ble_eq_true rfl) (by omega)).mono ?_
  rintro e w' ⟨rfl, rfl⟩
  dsimp only
  go_step
  repeat (first | go_values | go_skip | go_guarded | go_step | go_upon)
  go_at_call 10
  refine (parse_syn (n := 400) (Nat.le_of_ble_eq_true rfl) _ S.out HP.out).mono ?_
  rintro e w1 ⟨v, rfl, ht, hb⟩
  have HB := Lib.hid (hb.alloc hb.size (.cells #[.int .i64 v.kind, .string v.text, .slice v.la v.ll v.lc, .slice v.ka v.kl v.kc] 26))
  clear ht hb
  go_wp2_with fail
  go_at_call 9
  refine (awake_syn _).mono ?_
  rintro e w2 ⟨rfl, hb2⟩
  have HB2 := Lib.hid (HB.out.trans (hb2.mono HB.out.size))
  clear hb2
  go_wp2_with fail
  go_ret
  exact ⟨rfl, HB2.out⟩
set_option maxRecDepth 100000 in
set_option maxHeartbeats 2000000 in
theorem walk_1_0 (a0 a1 : Int) (N : Nat) (w : World) (HM : Hid ((N : Int) = 1 + modM a0 25)) (HM1 : Hid (((1 : Nat) : Int) = modM a1 3)) (hN1 : 1 ≤ N) (hN : N ≤ 25) (hc : ¬ N ≤ 8) (t : Tr) (pl : Nat) (HP : Hid (parseM 400 (⟨#[109, 111, 100, 117, 108, 101, 32, 77, 32, 100, 101, 102, 32, 102, 40, 41, 58, 32, 73, 110, 116, 32, 61, 32, 103, 40]⟩ ++ rowB ⟨#[49]⟩ N ++ ⟨#[41]⟩) = some (t, pl, 3))) (hpl : pl = 26 + (rowB ⟨#[49]⟩ 8).size + 1) :
    Calls Try.prog 7 #[.int .i64 a0, .int .i64 a1] w fun e w' => e = .returned (.bool true) ∧ Below w.heap.size w w' := by
  have d1 : decide ((N : Int) ≤ 8) = false := decide_eq_false (by omega)
  have hback : 1 + ((N : Int) - 1) = (N : Int) := by omega
  have hsz := rowB_size ⟨#[49]⟩ N
  have hsz2 : N * ((⟨#[49]⟩ : ByteArray).size + 1) ≤ 25 * 2 := Nat.mul_le_mul hN (by decide)
  have hsz3 : (rowB ⟨#[49]⟩ N).size ≤ 150 := by omega
  clear hsz hsz2
  have hq1 := fun w : World => run_string_add_sum (P := Try.prog) w ⟨#[109, 111, 100, 117, 108, 101, 32, 77, 32, 100, 101, 102, 32, 102, 40, 41, 58, 32, 73, 110, 116, 32, 61, 32, 103, 40]⟩ (rowB ⟨#[49]⟩ N) (by show 26 + _ ≤ _; omega)
  have hq2 := fun w : World => run_string_add_sum (P := Try.prog) w (⟨#[109, 111, 100, 117, 108, 101, 32, 77, 32, 100, 101, 102, 32, 102, 40, 41, 58, 32, 73, 110, 116, 32, 61, 32, 103, 40]⟩ ++ rowB ⟨#[49]⟩ N) ⟨#[41]⟩ (by rw [ByteArray.size_append]; show 26 + _ + 1 ≤ _; omega)
  have S := Lib.hid (show (⟨#[109, 111, 100, 117, 108, 101, 32, 77, 32, 100, 101, 102, 32, 102, 40, 41, 58, 32, 73, 110, 116, 32, 61, 32, 103, 40]⟩ ++ rowB ⟨#[49]⟩ N ++ ⟨#[41]⟩).size ≤ maxLen from by rw [ByteArray.size_append, ByteArray.size_append]; show 26 + _ + 1 ≤ _; unfold maxLen; omega)
  have hpe : (pl : Int) = 26 + ((rowB ⟨#[49]⟩ 8).size : Int) + 1 := by omega
  clear hsz3 hc hpl
  go_enter Try.func7, Try.ntmps7
  go_wp2_with fail
  go_at_call 18
  refine (mod_lim _ N _ HM.out).mono ?_
  rintro e w' ⟨rfl, rfl⟩
  dsimp only
  go_step
  repeat (first | go_values | go_skip | go_guarded | go_step | go_upon)
  go_at_call 18
  refine (mod_is _ _ 1 _ (by decide) (by decide) HM1.out).mono ?_
  rintro e w' ⟨rfl, rfl⟩
  dsimp only
  go_step
  repeat (first | go_values | go_skip | go_guarded | go_step | go_upon)
  go_at_call 19
  refine (row_syn _ N _ (Nat.le_of_ble_eq_true rfl) (by omega)).mono ?_
  rintro e w' ⟨rfl, rfl⟩
  dsimp only
  go_step
  repeat (first | go_values | go_skip | go_guarded | go_step | go_upon)
  go_at_call 10
  refine (parse_syn (n := 400) (Nat.le_of_ble_eq_true rfl) _ S.out HP.out).mono ?_
  rintro e w1 ⟨v, rfl, ht, hb⟩
  have HB := Lib.hid (hb.alloc hb.size (.cells #[.int .i64 v.kind, .string v.text, .slice v.la v.ll v.lc, .slice v.ka v.kl v.kc] 26))
  clear ht hb
  go_wp2_with fail
  go_at_call 9
  refine (awake_syn _).mono ?_
  rintro e w2 ⟨rfl, hb2⟩
  have HB2 := Lib.hid (HB.out.trans (hb2.mono HB.out.size))
  clear hb2
  go_wp2_with fail
  go_at_call 19
  refine (row_syn _ 8 _ (Nat.le_of_ble_eq_true rfl) (by decide)).mono ?_
  rintro e w' ⟨rfl, rfl⟩
  dsimp only
  go_step
  repeat (first | go_values | go_skip | go_guarded | go_step | go_upon)
  go_ret
  have hsz := rowB_size ⟨#[49]⟩ 8
  have hsz1 : (⟨#[49]⟩ : ByteArray).size = 1 := rfl
  have hwr : ∀ n : Int, 0 ≤ n → n ≤ 10000 → wrap64 n = n := fun n h1 h2 => by unfold wrap64; omega
  exact ⟨ret_bool (by rw [hwr (26 + ((rowB ⟨#[49]⟩ 8).size : Int)) (by omega) (by omega), hwr (26 + ((rowB ⟨#[49]⟩ 8).size : Int) + 1) (by omega) (by omega)]; simp), HB2.out⟩
set_option maxRecDepth 100000 in
set_option maxHeartbeats 2000000 in
theorem walk_2_1 (a0 a1 : Int) (N : Nat) (w : World) (HM : Hid ((N : Int) = 1 + modM a0 25)) (HM1 : Hid (((2 : Nat) : Int) = modM a1 3)) (hN1 : 1 ≤ N) (hN : N ≤ 25) (hc : N ≤ 16) (t : Tr) (pl : Nat) (HP : Hid (parseM 400 (⟨#[109, 111, 100, 117, 108, 101, 32, 77, 32, 100, 101, 102, 32, 102, 40, 41, 58, 32, 73, 110, 116, 32, 61, 32, 91]⟩ ++ rowB ⟨#[49]⟩ N ++ ⟨#[93]⟩) = some (t, pl, 0))) :
    Calls Try.prog 7 #[.int .i64 a0, .int .i64 a1] w fun e w' => e = .returned (.bool true) ∧ Below w.heap.size w w' := by
  have d1 : decide ((N : Int) ≤ 16) = true := decide_eq_true (by omega)
  have hback : 1 + ((N : Int) - 1) = (N : Int) := by omega
  have hsz := rowB_size ⟨#[49]⟩ N
  have hsz2 : N * ((⟨#[49]⟩ : ByteArray).size + 1) ≤ 25 * 2 := Nat.mul_le_mul hN (by decide)
  have hsz3 : (rowB ⟨#[49]⟩ N).size ≤ 150 := by omega
  clear hsz hsz2
  have hq1 := fun w : World => run_string_add_sum (P := Try.prog) w ⟨#[109, 111, 100, 117, 108, 101, 32, 77, 32, 100, 101, 102, 32, 102, 40, 41, 58, 32, 73, 110, 116, 32, 61, 32, 91]⟩ (rowB ⟨#[49]⟩ N) (by show 25 + _ ≤ _; omega)
  have hq2 := fun w : World => run_string_add_sum (P := Try.prog) w (⟨#[109, 111, 100, 117, 108, 101, 32, 77, 32, 100, 101, 102, 32, 102, 40, 41, 58, 32, 73, 110, 116, 32, 61, 32, 91]⟩ ++ rowB ⟨#[49]⟩ N) ⟨#[93]⟩ (by rw [ByteArray.size_append]; show 25 + _ + 1 ≤ _; omega)
  have S := Lib.hid (show (⟨#[109, 111, 100, 117, 108, 101, 32, 77, 32, 100, 101, 102, 32, 102, 40, 41, 58, 32, 73, 110, 116, 32, 61, 32, 91]⟩ ++ rowB ⟨#[49]⟩ N ++ ⟨#[93]⟩).size ≤ maxLen from by rw [ByteArray.size_append, ByteArray.size_append]; show 25 + _ + 1 ≤ _; unfold maxLen; omega)
  clear hsz3 hc
  go_enter Try.func7, Try.ntmps7
  go_wp2_with fail
  go_at_call 18
  refine (mod_lim _ N _ HM.out).mono ?_
  rintro e w' ⟨rfl, rfl⟩
  dsimp only
  go_step
  repeat (first | go_values | go_skip | go_guarded | go_step | go_upon)
  go_at_call 18
  refine (mod_is _ _ 2 _ (by decide) (by decide) HM1.out).mono ?_
  rintro e w' ⟨rfl, rfl⟩
  dsimp only
  go_step
  repeat (first | go_values | go_skip | go_guarded | go_step | go_upon)
  go_at_call 19
  refine (row_syn _ N _ (Nat.le_of_ble_eq_true rfl) (by omega)).mono ?_
  rintro e w' ⟨rfl, rfl⟩
  dsimp only
  go_step
  repeat (first | go_values | go_skip | go_guarded | go_step | go_upon)
  go_at_call 10
  refine (parse_syn (n := 400) (Nat.le_of_ble_eq_true rfl) _ S.out HP.out).mono ?_
  rintro e w1 ⟨v, rfl, ht, hb⟩
  have HB := Lib.hid (hb.alloc hb.size (.cells #[.int .i64 v.kind, .string v.text, .slice v.la v.ll v.lc, .slice v.ka v.kl v.kc] 26))
  clear ht hb
  go_wp2_with fail
  go_at_call 9
  refine (awake_syn _).mono ?_
  rintro e w2 ⟨rfl, hb2⟩
  have HB2 := Lib.hid (HB.out.trans (hb2.mono HB.out.size))
  clear hb2
  go_wp2_with fail
  go_ret
  exact ⟨rfl, HB2.out⟩
set_option maxRecDepth 100000 in
set_option maxHeartbeats 2000000 in
theorem walk_2_0 (a0 a1 : Int) (N : Nat) (w : World) (HM : Hid ((N : Int) = 1 + modM a0 25)) (HM1 : Hid (((2 : Nat) : Int) = modM a1 3)) (hN1 : 1 ≤ N) (hN : N ≤ 25) (hc : ¬ N ≤ 16) (t : Tr) (pl : Nat) (HP : Hid (parseM 400 (⟨#[109, 111, 100, 117, 108, 101, 32, 77, 32, 100, 101, 102, 32, 102, 40, 41, 58, 32, 73, 110, 116, 32, 61, 32, 91]⟩ ++ rowB ⟨#[49]⟩ N ++ ⟨#[93]⟩) = some (t, pl, 3))) (hpl : pl = 25 + (rowB ⟨#[49]⟩ 16).size + 1) :
    Calls Try.prog 7 #[.int .i64 a0, .int .i64 a1] w fun e w' => e = .returned (.bool true) ∧ Below w.heap.size w w' := by
  have d1 : decide ((N : Int) ≤ 16) = false := decide_eq_false (by omega)
  have hback : 1 + ((N : Int) - 1) = (N : Int) := by omega
  have hsz := rowB_size ⟨#[49]⟩ N
  have hsz2 : N * ((⟨#[49]⟩ : ByteArray).size + 1) ≤ 25 * 2 := Nat.mul_le_mul hN (by decide)
  have hsz3 : (rowB ⟨#[49]⟩ N).size ≤ 150 := by omega
  clear hsz hsz2
  have hq1 := fun w : World => run_string_add_sum (P := Try.prog) w ⟨#[109, 111, 100, 117, 108, 101, 32, 77, 32, 100, 101, 102, 32, 102, 40, 41, 58, 32, 73, 110, 116, 32, 61, 32, 91]⟩ (rowB ⟨#[49]⟩ N) (by show 25 + _ ≤ _; omega)
  have hq2 := fun w : World => run_string_add_sum (P := Try.prog) w (⟨#[109, 111, 100, 117, 108, 101, 32, 77, 32, 100, 101, 102, 32, 102, 40, 41, 58, 32, 73, 110, 116, 32, 61, 32, 91]⟩ ++ rowB ⟨#[49]⟩ N) ⟨#[93]⟩ (by rw [ByteArray.size_append]; show 25 + _ + 1 ≤ _; omega)
  have S := Lib.hid (show (⟨#[109, 111, 100, 117, 108, 101, 32, 77, 32, 100, 101, 102, 32, 102, 40, 41, 58, 32, 73, 110, 116, 32, 61, 32, 91]⟩ ++ rowB ⟨#[49]⟩ N ++ ⟨#[93]⟩).size ≤ maxLen from by rw [ByteArray.size_append, ByteArray.size_append]; show 25 + _ + 1 ≤ _; unfold maxLen; omega)
  have hpe : (pl : Int) = 25 + ((rowB ⟨#[49]⟩ 16).size : Int) + 1 := by omega
  clear hsz3 hc hpl
  go_enter Try.func7, Try.ntmps7
  go_wp2_with fail
  go_at_call 18
  refine (mod_lim _ N _ HM.out).mono ?_
  rintro e w' ⟨rfl, rfl⟩
  dsimp only
  go_step
  repeat (first | go_values | go_skip | go_guarded | go_step | go_upon)
  go_at_call 18
  refine (mod_is _ _ 2 _ (by decide) (by decide) HM1.out).mono ?_
  rintro e w' ⟨rfl, rfl⟩
  dsimp only
  go_step
  repeat (first | go_values | go_skip | go_guarded | go_step | go_upon)
  go_at_call 19
  refine (row_syn _ N _ (Nat.le_of_ble_eq_true rfl) (by omega)).mono ?_
  rintro e w' ⟨rfl, rfl⟩
  dsimp only
  go_step
  repeat (first | go_values | go_skip | go_guarded | go_step | go_upon)
  go_at_call 10
  refine (parse_syn (n := 400) (Nat.le_of_ble_eq_true rfl) _ S.out HP.out).mono ?_
  rintro e w1 ⟨v, rfl, ht, hb⟩
  have HB := Lib.hid (hb.alloc hb.size (.cells #[.int .i64 v.kind, .string v.text, .slice v.la v.ll v.lc, .slice v.ka v.kl v.kc] 26))
  clear ht hb
  go_wp2_with fail
  go_at_call 9
  refine (awake_syn _).mono ?_
  rintro e w2 ⟨rfl, hb2⟩
  have HB2 := Lib.hid (HB.out.trans (hb2.mono HB.out.size))
  clear hb2
  go_wp2_with fail
  go_at_call 19
  refine (row_syn _ 16 _ (Nat.le_of_ble_eq_true rfl) (by decide)).mono ?_
  rintro e w' ⟨rfl, rfl⟩
  dsimp only
  go_step
  repeat (first | go_values | go_skip | go_guarded | go_step | go_upon)
  go_ret
  have hsz := rowB_size ⟨#[49]⟩ 16
  have hsz1 : (⟨#[49]⟩ : ByteArray).size = 1 := rfl
  have hwr : ∀ n : Int, 0 ≤ n → n ≤ 10000 → wrap64 n = n := fun n h1 h2 => by unfold wrap64; omega
  exact ⟨ret_bool (by rw [hwr (25 + ((rowB ⟨#[49]⟩ 16).size : Int)) (by omega) (by omega), hwr (25 + ((rowB ⟨#[49]⟩ 16).size : Int) + 1) (by omega) (by omega)]; simp), HB2.out⟩
theorem walk (a0 : Int) (a1 : Int) (w : World) (w0 : (Lit.int .i64 a0).wf = true) (w1 : (Lit.int .i64 a1).wf = true) :
    Calls Try.prog 7 #[.int .i64 a0, .int .i64 a1] w fun e w' => e = .returned (.bool true) ∧ Below w.heap.size w w' := by
  have hb := modM_bd a0 (m := 25) (by decide)
  have hb1 := modM_bd a1 (m := 3) (by decide)
  obtain ⟨N, hN⟩ : ∃ N : Nat, (N : Int) = 1 + modM a0 25 := ⟨(1 + modM a0 25).toNat, by omega⟩
  have hN1 : 1 ≤ N := by omega
  have hN2 : N ≤ 25 := by omega
  rcases (show modM a1 3 = 0 ∨ modM a1 3 = 1 ∨ modM a1 3 = 2 from by omega) with h | h | h
  · obtain ⟨t, pl, er, hp, h1, h2⟩ := row_parsed (row_of_0 N hN1 hN2)
    by_cases hc : N ≤ 8
    · obtain rfl := h1 hc
      exact walk_0_1 a0 a1 N w (Lib.hid hN) (Lib.hid (by rw [h]; rfl)) hN1 hN2 hc t pl (Lib.hid hp)
    · obtain ⟨rfl, h3⟩ := h2 hc
      exact walk_0_0 a0 a1 N w (Lib.hid hN) (Lib.hid (by rw [h]; rfl)) hN1 hN2 hc t pl (Lib.hid hp) h3
  · obtain ⟨t, pl, er, hp, h1, h2⟩ := row_parsed (row_of_1 N hN1 hN2)
    by_cases hc : N ≤ 8
    · obtain rfl := h1 hc
      exact walk_1_1 a0 a1 N w (Lib.hid hN) (Lib.hid (by rw [h]; rfl)) hN1 hN2 hc t pl (Lib.hid hp)
    · obtain ⟨rfl, h3⟩ := h2 hc
      exact walk_1_0 a0 a1 N w (Lib.hid hN) (Lib.hid (by rw [h]; rfl)) hN1 hN2 hc t pl (Lib.hid hp) h3
  · obtain ⟨t, pl, er, hp, h1, h2⟩ := row_parsed (row_of_2 N hN1 hN2)
    by_cases hc : N ≤ 16
    · obtain rfl := h1 hc
      exact walk_2_1 a0 a1 N w (Lib.hid hN) (Lib.hid (by rw [h]; rfl)) hN1 hN2 hc t pl (Lib.hid hp)
    · obtain ⟨rfl, h3⟩ := h2 hc
      exact walk_2_0 a0 a1 N w (Lib.hid hN) (Lib.hid (by rw [h]; rfl)) hN1 hN2 hc t pl (Lib.hid hp) h3
set_option maxRecDepth 100000 in
theorem lifted (os : Os) (started : os.Started) (H : Type) (enc : TypeId × Value → H) :
    ReturnsInHanded {} Try.checked os 7 .any (Rows.syntaxLimitsSpec.pre6 enc Try.prog Try.f7 Rows.syntaxLimitsRow.domain false) (Rows.syntaxLimitsSpec.post enc Try.prog Try.f7 false true false false) := by
  refine returnsInHanded_of_change_sized (C := Try.checked) own started (by kernel_rfl) Try.func7
    (ChangeSpec.witness6 (enc := enc) (C := Try.checked) false ⟨#[], #[.int .i64 0, .int .i64 0], []⟩ 8 (by kernel_rfl) (by kernel_rfl) (by kernel_rfl) (by kernel_rfl)) ?_
  intro W base args ds gs before hval0 hW hcnd hsz0 _
  have hval : ∀ (j : Nat) t v, Try.f7.params[j]? = some t → args[j]? = some v → Value.okWide Try.prog W .any base t v := hval0
  have hW' := hW
  obtain ⟨p, q, hA0, hV, rfl, hfz, hnd⟩ := hW
  have hA : DataW.TrodAll enc Try.prog W 0 (fun _ => true) true Try.f7.params.toList args.toList ds p := hA0
  have hsz : (DataW.weightsEach Try.prog (Try.f7.params.toList ++ Rows.syntaxLimitsSpec.plain.varTypes Try.prog) (ds ++ gs)).all (· ≤ reachBytes) = true := hsz0
  rw [Try.params7] at hA hval hsz
  obtain ⟨v0, vs0, d0, ds0, p0, q0, hargs, rfl, rfl, h0, r0⟩ := trodAll_cons hA
  obtain ⟨v1, vs1, d1, ds1, p1, q1, rfl, rfl, rfl, h1, r1⟩ := trodAll_cons r0
  obtain ⟨rfl, rfl, rfl⟩ := trodAll_nil r1
  obtain rfl : args = #[v0, v1] := by cases args; simp_all
  obtain ⟨rfl, rfl⟩ := trodVars_none hV
  obtain ⟨a0, rfl, rfl, rfl, w0⟩ := open_int Try.underlying3 (hval 0 3 v0 rfl rfl) h0
  obtain ⟨a1, rfl, rfl, rfl, w1⟩ := open_int Try.underlying3 (hval 1 3 v1 rfl rfl) h1
  clear hA0 hval0
  simp only [List.append_nil] at hW'
  refine (walk a0 a1 W w0 w1).mono fun e W' ⟨he, bel⟩ => ?_
  subst he
  exact ⟨_, rfl, _, _, _, [], [], [], hW', trodAll_mk1 (shut_bool Try.underlying4 _), (trodAll_cons_mk (shut_int Try.underlying3 w0) (trodAll_cons_mk (shut_int Try.underlying3 w1) trodAll_mk0)), rfl, bel.frame _, fun h => by cases h⟩
theorem proved : Rows.SyntaxLimitsSaid :=
  OpenClaim.holds_of_wide 7 Try.f7 rfl rfl rfl rfl rfl rfl rfl ⟨rfl, rfl, rfl, rfl, rfl⟩ rfl rfl rfl rfl rfl (by kernel_rfl) Try.func7 (by kernel_rfl)
    (of_decide_eq_true (by kernel_rfl)) (by unfold Func.isWrapper; first | (rw [if_pos (by decide +kernel)]; kernel_rfl) | (rw [if_neg (by decide +kernel)]; exact ⟨rfl, rfl⟩))
    (fun os started H enc _ => lifted os started H enc)
#print axioms proved
end Go.Proofs.Ytipkmffhebachaa.syntaxLimits
