/- The law PositionBetween holds for every input: the call returns true, and each argument reads as it read. No condition. -/
import Derived.Test.YtedlfjolmhkpdaaPosAwake
import Derived.ProofKit
import Derived.OpenShut
import Derived.ShutString
import Derived.ChangeOld
import Derived.SizedLaws
namespace Go.Proofs.Ytedlfjolmhkpdaa.positionBetween
open Go.ChangeShapes Go.WideShapes Go.ChangeAt Go.RowKit
open Go.ChangeMaps (open_string shut_string)
set_option linter.unusedVariables false
theorem own : ownKnob Try.prog.godebug = none := by kernel_rfl
theorem laidOut : laidOutB Try.prog = true := by kernel_rfl
attribute [local go_sem 2000] str_gtr str_leq
set_option maxRecDepth 100000 in
set_option maxHeartbeats 1000000 in
theorem walk (a0 : ByteArray) (a1 : ByteArray) (w : World) (z0 : a0.size ≤ 140737488351232) (z1 : a1.size ≤ 140737488351232) :
    Calls Try.prog 3 #[.string a0, .string a1] w fun e w' => e = .returned (.bool true) ∧ Below w.heap.size w w' := by
  have hm0 : a0.size ≤ maxLen := by unfold maxLen; omega
  have hm1 : a1.size ≤ maxLen := by unfold maxLen; omega
  have hb := fun W => between_any a0.data.toList a1.data.toList W (by rw [data_len]; exact hm0) (by rw [data_len]; exact hm1)
  have hr := fun W => rbetween_any a0.data.toList a1.data.toList W (by rw [data_len]; exact hm0) (by rw [data_len]; exact hm1)
  unfold BtwPost at hb hr
  rw [strL_back, strL_back] at hb hr
  obtain ⟨K, hK⟩ : ∃ K, K = strL (betweenP a0.data.toList a1.data.toList).1 := ⟨_, rfl⟩
  obtain ⟨en, hen⟩ : ∃ en, en = (betweenP a0.data.toList a1.data.toList).2 := ⟨_, rfl⟩
  rw [← hK, ← hen] at hb hr
  obtain ⟨v0, hv0⟩ : ∃ v, v = vldB a0.data.toList := ⟨_, rfl⟩
  obtain ⟨v1, hv1⟩ : ∃ v, v = vldB a1.data.toList := ⟨_, rfl⟩
  have HB := Lib.hid hb
  have HR := Lib.hid hr
  have HV0 := Lib.hid (fun W => by have h := valid_any a0 W hm0; rw [← hv0] at h; exact h : ∀ W, Calls Try.prog 14 #[.string a0] W fun e w' => e = .returned (.bool v0) ∧ W = w')
  have HV1 := Lib.hid (fun W => by have h := valid_any a1 W hm1; rw [← hv1] at h; exact h : ∀ W, Calls Try.prog 14 #[.string a1] W fun e w' => e = .returned (.bool v1) ∧ W = w')
  have HW0 := Lib.hid (fun W => by have h := rvalid_any a0 W hm0; rw [← hv0] at h; exact h : ∀ W, Calls Try.prog 15 #[.string a0] W fun e w' => e = .returned (.bool v0) ∧ W = w')
  have HW1 := Lib.hid (fun W => by have h := rvalid_any a1 W hm1; rw [← hv1] at h; exact h : ∀ W, Calls Try.prog 15 #[.string a1] W fun e w' => e = .returned (.bool v1) ∧ W = w')
  clear hb hr hK hen hv0 hv1 hm0 hm1
  by_cases h0 : 200 < a0.size
  · go_enter Try.func3, Try.ntmps3
    go_wp2_with ((go_at_call 11; refine (awake_any _).mono ?_; rintro e w1 ⟨rfl, hb1⟩; have HB1 := Lib.hid hb1; clear hb1))
    go_ret
    exact ⟨rfl, HB1.out⟩
  · by_cases h1 : 200 < a1.size
    · go_enter Try.func3, Try.ntmps3
      go_wp2_with ((go_at_call 11; refine (awake_any _).mono ?_; rintro e w1 ⟨rfl, hb1⟩; have HB1 := Lib.hid hb1; clear hb1))
      go_ret
      exact ⟨rfl, HB1.out⟩
    · go_enter Try.func3, Try.ntmps3
      go_wp2_with fail
      refine (HB.out _).mono ?_
      rintro e w1 ⟨rfl, hb1⟩
      have HB1 := Lib.hid hb1
      clear hb1
      go_wp2_with fail
      refine (HR.out _).mono ?_
      rintro e w2 ⟨rfl, hb2⟩
      have HB2 := Lib.hid (HB1.out.trans (hb2.mono HB1.out.size))
      clear hb2
      go_wp2_with fail
      refine (awake_any _).mono ?_
      rintro e w3 ⟨rfl, hb3⟩
      have HB3 := Lib.hid (HB2.out.trans (hb3.mono HB2.out.size))
      clear hb3
      cases v0 <;> cases v1
      all_goals
        go_wp2_with (first | (go_at_call 14; (with_reducible refine (HV0.out _).mono ?_); rintro e w' ⟨rfl, rfl⟩) | (go_at_call 14; (with_reducible refine (HV1.out _).mono ?_); rintro e w' ⟨rfl, rfl⟩) | (go_at_call 15; (with_reducible refine (HW0.out _).mono ?_); rintro e w' ⟨rfl, rfl⟩) | (go_at_call 15; (with_reducible refine (HW1.out _).mono ?_); rintro e w' ⟨rfl, rfl⟩))
        go_ret
        exact ⟨ret_bool (by simp), HB3.out⟩
set_option maxRecDepth 100000 in
theorem lifted (os : Os) (started : os.Started) (H : Type) (enc : TypeId × Value → H) :
    ReturnsInHanded {} Try.checked os 3 .any (Rows.positionBetweenSpec.pre6 enc Try.prog Try.f3 Rows.positionBetweenRow.domain false) (Rows.positionBetweenSpec.post enc Try.prog Try.f3 false true false false) := by
  refine returnsInHanded_of_change_sized (C := Try.checked) own started (by kernel_rfl) Try.func3
    (ChangeSpec.witness6 (enc := enc) (C := Try.checked) false ⟨#[], #[.string ByteArray.empty, .string ByteArray.empty], []⟩ 8 (by kernel_rfl) (by kernel_rfl) (by kernel_rfl) (by kernel_rfl)) ?_
  intro W base args ds gs before hval0 hW hcnd hsz0 _
  have hval : ∀ (j : Nat) t v, Try.f3.params[j]? = some t → args[j]? = some v → Value.okWide Try.prog W .any base t v := hval0
  have hW' := hW
  obtain ⟨p, q, hA0, hV, rfl, hfz, hnd⟩ := hW
  have hA : DataW.TrodAll enc Try.prog W 0 (fun _ => true) true Try.f3.params.toList args.toList ds p := hA0
  have hsz : (DataW.weightsEach Try.prog (Try.f3.params.toList ++ Rows.positionBetweenSpec.plain.varTypes Try.prog) (ds ++ gs)).all (· ≤ reachBytes) = true := hsz0
  rw [Try.params3] at hA hval hsz
  obtain ⟨v0, vs0, d0, ds0, p0, q0, hargs, rfl, rfl, h0, r0⟩ := trodAll_cons hA
  obtain ⟨v1, vs1, d1, ds1, p1, q1, rfl, rfl, rfl, h1, r1⟩ := trodAll_cons r0
  obtain ⟨rfl, rfl, rfl⟩ := trodAll_nil r1
  obtain rfl : args = #[v0, v1] := by cases args; simp_all
  obtain ⟨rfl, rfl⟩ := trodVars_none hV
  obtain ⟨a0, rfl, rfl, rfl, w0⟩ := open_string Try.underlying9 (hval 0 9 v0 rfl rfl) h0
  obtain ⟨a1, rfl, rfl, rfl, w1⟩ := open_string Try.underlying9 (hval 1 9 v1 rfl rfl) h1
  have z0 : a0.size ≤ 140737488351232 := by
    have := sized_string hsz (j := 0) (t := 9) (bytes := a0.data.toList) rfl rfl
    simpa [reachBytes] using this
  have z1 : a1.size ≤ 140737488351232 := by
    have := sized_string hsz (j := 1) (t := 9) (bytes := a1.data.toList) rfl rfl
    simpa [reachBytes] using this
  clear hA0 hval0
  simp only [List.append_nil] at hW'
  refine (walk a0 a1 W z0 z1).mono fun e W' ⟨he, bel⟩ => ?_
  subst he
  exact ⟨_, rfl, _, _, _, [], [], [], hW', trodAll_mk1 (shut_bool Try.underlying4 _), (trodAll_cons_mk (shut_string Try.underlying9 w0) (trodAll_cons_mk (shut_string Try.underlying9 w1) trodAll_mk0)), rfl, bel.frame _, fun h => by cases h⟩
theorem proved : Rows.PositionBetweenSaid :=
  OpenClaim.holds_of_wide 3 Try.f3 rfl rfl rfl rfl rfl rfl rfl ⟨rfl, rfl, rfl, rfl, rfl⟩ rfl rfl rfl rfl rfl (by kernel_rfl) Try.func3 (by kernel_rfl)
    (of_decide_eq_true (by kernel_rfl)) (by unfold Func.isWrapper; first | (rw [if_pos (by decide +kernel)]; kernel_rfl) | (rw [if_neg (by decide +kernel)]; exact ⟨rfl, rfl⟩))
    (fun os started H enc _ => lifted os started H enc)
#print axioms proved
end Go.Proofs.Ytedlfjolmhkpdaa.positionBetween
