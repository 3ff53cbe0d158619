/- The law IdentBack holds for every input: the call returns true, and each argument reads as it read. No condition. -/
import Derived.Test.YthhgincbifckgaaIdnAwake
import Derived.ProofKit
import Derived.OpenShut
import Derived.ShutString
import Derived.ChangeOld
import Derived.SizedLaws
namespace Go.Proofs.Ythhgincbifckgaa.identBack
open Go.ChangeShapes Go.WideShapes Go.ChangeAt Go.RowKit
open Go.ChangeMaps (open_string shut_string)
set_option linter.unusedVariables false
theorem own : ownKnob Try.prog.godebug = none := by kernel_rfl
theorem laidOut : laidOutB Try.prog = true := by kernel_rfl
set_option maxHeartbeats 1000000 in
theorem walk (a0 : Int) (a1 : Int) (w : World) (w0 : (Lit.int .i64 a0).wf = true) (w1 : (Lit.int .i64 a1).wf = true) :
    Calls Try.prog 6 #[.int .i64 a0, .int .i64 a1] w fun e w' => e = .returned (.bool true) ∧ Below w.heap.size w w' := by
  cases hg : siteB a0 && serB a1
  · have HM := Lib.hid (fun w => by have h := make_any a0 a1 w; unfold makeI makeE at h; rw [hg] at h; exact h : ∀ w, Calls Try.prog 9 #[.int .i64 a0, .int .i64 a1] w fun e w' => e = .returned (.tuple #[.int .i64 0, .int .i64 5]) ∧ w = w')
    have hb : a0 < 1 ∨ 32 < a0 ∨ a1 < 1 ∨ 1048575 < a1 := by unfold siteB serB at hg; simp at hg; omega
    have HBAD := Lib.hid hb
    clear hg hb
    go_enter Try.func6, Try.ntmps6
    go_wp2_with (first | (go_at_call 9; refine (HM.out _).mono ?_; rintro e w' ⟨rfl, rfl⟩) | (go_at_call 11; refine (awake_any _).mono ?_; rintro e w1 ⟨rfl, hb1⟩; have HB1 := Lib.hid hb1; clear hb1))
    all_goals
      go_ret
      refine ⟨ret_bool ?_, HB1.out⟩
      have hbad := HBAD.out
      first
        | rfl
        | (simp; omega)
        | (simp_all; omega)
  · have hg' := hg
    simp only [Bool.and_eq_true] at hg'
    obtain ⟨hv, p1, p2⟩ := make_parts hg'.1 hg'.2
    obtain ⟨x, hx⟩ : ∃ x, makeI a0 a1 = x := ⟨_, rfl⟩
    rw [hx] at hv p1 p2
    have HM := Lib.hid (fun w => by have h := make_any a0 a1 w; rw [hx] at h; unfold makeE at h; rw [hg] at h; exact h : ∀ w, Calls Try.prog 9 #[.int .i64 a0, .int .i64 a1] w fun e w' => e = .returned (.tuple #[.int .i64 x, .int .i64 0]) ∧ w = w')
    have hlen : (fmtI x).length ≤ 15 := by
      have hb : 1 ≤ x / 1048576 ∧ x / 1048576 ≤ 32 ∧ 1 ≤ x % 1048576 ∧ x % 1048576 ≤ 1048575 := by unfold validB siteB serB at hv; simp at hv; omega
      have k1 := decL_len (x / 1048576).toNat 7 (by omega) (by decide)
      have k2 := decL_len (x % 1048576).toNat 7 (by omega) (by decide)
      unfold fmtI fmtL
      rw [if_pos hv, List.length_append, List.length_cons]
      omega
    have HP := Lib.hid (fun w => by have h := parse_list (fmtI x) w (by unfold maxLen; omega); rw [parse_fmt x hv] at h; exact h : ∀ w, Calls Try.prog 20 #[.string (strL (fmtI x))] w fun e w' => e = .returned (.tuple #[.int .i64 x, .int .i64 0]) ∧ Below w.heap.size w w')
    have HS := Lib.hid (fun w => by have h := site_any x w; unfold siteI at h; rw [hv, if_pos rfl, p1] at h; exact h : ∀ w, Calls Try.prog 14 #[.int .i64 x] w fun e w' => e = .returned (.int .i64 a0) ∧ w = w')
    have HR := Lib.hid (fun w => by have h := serial_any x w; unfold serI at h; rw [hv, if_pos rfl, p2] at h; exact h : ∀ w, Calls Try.prog 16 #[.int .i64 x] w fun e w' => e = .returned (.int .i64 a1) ∧ w = w')
    have HV := Lib.hid (fun w => by have h := valid_any x w; rw [hv] at h; exact h : ∀ w, Calls Try.prog 12 #[.int .i64 x] w fun e w' => e = .returned (.bool true) ∧ w = w')
    clear hg hg' hv p1 p2 hx hlen
    go_enter Try.func6, Try.ntmps6
    go_wp2_with (first | (go_at_call 9; refine (HM.out _).mono ?_; rintro e w' ⟨rfl, rfl⟩) | (go_at_call 14; refine (HS.out _).mono ?_; rintro e w' ⟨rfl, rfl⟩) | (go_at_call 16; refine (HR.out _).mono ?_; rintro e w' ⟨rfl, rfl⟩) | (go_at_call 12; refine (HV.out _).mono ?_; rintro e w' ⟨rfl, rfl⟩) | (go_at_call 20; refine (HP.out _).mono ?_; rintro e w2 ⟨rfl, hb2⟩; have HB2 := Lib.hid hb2; clear hb2) | (go_at_call 22; refine (format_any _ _).mono ?_; rintro e w3 ⟨rfl, hb3⟩; have HB3 := Lib.hid hb3; clear hb3) | (go_at_call 11; refine (awake_any _).mono ?_; rintro e w1 ⟨rfl, hb1⟩; have HB1 := Lib.hid hb1; clear hb1))
    go_ret
    exact ⟨ret_bool (by simp), (HB3.out.trans (HB2.out.mono HB3.out.size)).trans (HB1.out.mono (Nat.le_trans HB3.out.size HB2.out.size))⟩
set_option maxRecDepth 100000 in
theorem lifted (os : Os) (started : os.Started) (H : Type) (enc : TypeId × Value → H) :
    ReturnsInHanded {} Try.checked os 6 .any (Rows.identBackSpec.pre6 enc Try.prog Try.f6 Rows.identBackRow.domain false) (Rows.identBackSpec.post enc Try.prog Try.f6 false true false false) := by
  refine returnsInHanded_of_change_sized (C := Try.checked) own started (by kernel_rfl) Try.func6
    (ChangeSpec.witness6 (enc := enc) (C := Try.checked) false ⟨#[], #[.int .i64 0, .int .i64 0], []⟩ 8 (by kernel_rfl) (by kernel_rfl) (by kernel_rfl) (by kernel_rfl)) ?_
  intro W base args ds gs before hval0 hW hcnd hsz0 _
  have hval : ∀ (j : Nat) t v, Try.f6.params[j]? = some t → args[j]? = some v → Value.okWide Try.prog W .any base t v := hval0
  have hW' := hW
  obtain ⟨p, q, hA0, hV, rfl, hfz, hnd⟩ := hW
  have hA : DataW.TrodAll enc Try.prog W 0 (fun _ => true) true Try.f6.params.toList args.toList ds p := hA0
  have hsz : (DataW.weightsEach Try.prog (Try.f6.params.toList ++ Rows.identBackSpec.plain.varTypes Try.prog) (ds ++ gs)).all (· ≤ reachBytes) = true := hsz0
  rw [Try.params6] at hA hval hsz
  obtain ⟨v0, vs0, d0, ds0, p0, q0, hargs, rfl, rfl, h0, r0⟩ := trodAll_cons hA
  obtain ⟨v1, vs1, d1, ds1, p1, q1, rfl, rfl, rfl, h1, r1⟩ := trodAll_cons r0
  obtain ⟨rfl, rfl, rfl⟩ := trodAll_nil r1
  obtain rfl : args = #[v0, v1] := by cases args; simp_all
  obtain ⟨rfl, rfl⟩ := trodVars_none hV
  obtain ⟨a0, rfl, rfl, rfl, w0⟩ := open_int Try.underlying3 (hval 0 3 v0 rfl rfl) h0
  obtain ⟨a1, rfl, rfl, rfl, w1⟩ := open_int Try.underlying3 (hval 1 3 v1 rfl rfl) h1
  clear hA0 hval0
  simp only [List.append_nil] at hW'
  refine (walk a0 a1 W w0 w1).mono fun e W' ⟨he, bel⟩ => ?_
  subst he
  exact ⟨_, rfl, _, _, _, [], [], [], hW', trodAll_mk1 (shut_bool Try.underlying4 _), (trodAll_cons_mk (shut_int Try.underlying3 w0) (trodAll_cons_mk (shut_int Try.underlying3 w1) trodAll_mk0)), rfl, bel.frame _, fun h => by cases h⟩
theorem proved : Rows.IdentBackSaid :=
  OpenClaim.holds_of_wide 6 Try.f6 rfl rfl rfl rfl rfl rfl rfl ⟨rfl, rfl, rfl, rfl, rfl⟩ rfl rfl rfl rfl rfl (by kernel_rfl) Try.func6 (by kernel_rfl)
    (of_decide_eq_true (by kernel_rfl)) (by unfold Func.isWrapper; first | (rw [if_pos (by decide +kernel)]; kernel_rfl) | (rw [if_neg (by decide +kernel)]; exact ⟨rfl, rfl⟩))
    (fun os started H enc _ => lifted os started H enc)
#print axioms proved
end Go.Proofs.Ythhgincbifckgaa.identBack
