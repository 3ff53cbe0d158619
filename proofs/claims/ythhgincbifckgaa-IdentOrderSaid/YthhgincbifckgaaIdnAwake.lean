/- The contract of awake: the example of the chapter. -/
import Derived.Test.YthhgincbifckgaaIdnRParse
namespace Go.Proofs.Ythhgincbifckgaa
open Go.RowKit
def egL : List UInt8 := [51, 46, 49, 55]
theorem eg_fmt : fmtI 3145745 = egL := by
  have h3 : decL 3 = [51] := by rw [decL_low (by decide)]; rfl
  have h1 : decL 1 = [49] := by rw [decL_low (by decide)]; rfl
  have h17 : decL 17 = [49, 55] := by rw [decL_big (by decide)]; show decL 1 ++ _ = _; rw [h1]; rfl
  have hv : validB 3145745 = true := by decide
  unfold fmtI fmtL
  rw [if_pos hv]
  show decL 3 ++ 46 :: decL 17 = _
  rw [h3, h17]
  rfl
theorem eg_parse : parseP egL = (3145745, 0) := by rw [← eg_fmt]; exact parse_fmt _ (by decide)
theorem eg_str : strL egL = ⟨#[51, 46, 49, 55]⟩ := rfl
set_option maxHeartbeats 1000000 in
theorem awake_any (w : World) : Calls Try.prog 11 #[] w fun e w' => e = .returned (.bool true) ∧ Below w.heap.size w w' := by
  have HM := Lib.hid (fun w => make_any 3 17 w : ∀ w, Calls Try.prog 9 #[.int .i64 3, .int .i64 17] w fun e w' => e = .returned (.tuple #[.int .i64 3145745, .int .i64 0]) ∧ w = w')
  have HP := Lib.hid (fun w => by have h := parse_list egL w (by decide); rw [eg_parse] at h; exact h : ∀ w, Calls Try.prog 20 #[.string ⟨#[51, 46, 49, 55]⟩] w fun e w' => e = .returned (.tuple #[.int .i64 3145745, .int .i64 0]) ∧ Below w.heap.size w w')
  have HF := Lib.hid (fun w => by have h := format_any 3145745 w; rw [eg_fmt] at h; exact h : ∀ w, Calls Try.prog 22 #[.int .i64 3145745] w fun e w' => e = .returned (.string ⟨#[51, 46, 49, 55]⟩) ∧ Below w.heap.size w w')
  have HS := Lib.hid (fun w => site_any 3145745 w : ∀ w, Calls Try.prog 14 #[.int .i64 3145745] w fun e w' => e = .returned (.int .i64 3) ∧ w = w')
  have HR := Lib.hid (fun w => serial_any 3145745 w : ∀ w, Calls Try.prog 16 #[.int .i64 3145745] w fun e w' => e = .returned (.int .i64 17) ∧ w = w')
  have HV := Lib.hid (fun w => valid_any 3145745 w : ∀ w, Calls Try.prog 12 #[.int .i64 3145745] w fun e w' => e = .returned (.bool true) ∧ w = w')
  go_enter Try.func11, Try.ntmps11
  go_wp2_with (first | (go_at_call 9; refine (HM.out _).mono ?_; rintro e w' ⟨rfl, rfl⟩) | (go_at_call 14; refine (HS.out _).mono ?_; rintro e w' ⟨rfl, rfl⟩) | (go_at_call 16; refine (HR.out _).mono ?_; rintro e w' ⟨rfl, rfl⟩) | (go_at_call 12; refine (HV.out _).mono ?_; rintro e w' ⟨rfl, rfl⟩) | (go_at_call 20; refine (HP.out _).mono ?_; rintro e w1 ⟨rfl, hb1⟩; have HB1 := Lib.hid hb1; clear hb1) | (go_at_call 22; refine (HF.out _).mono ?_; rintro e w2 ⟨rfl, hb2⟩; have HB2 := Lib.hid hb2; clear hb2))
  go_ret
  exact ⟨rfl, HB1.out.trans (HB2.out.mono HB1.out.size)⟩
end Go.Proofs.Ythhgincbifckgaa
