/- The law SyntaxDeep holds for every input: the call returns true, and each argument reads as it read. No condition. -/
import Derived.Test.YtipkmffhebachaaSynAwakes
import Derived.Test.YtipkmffhebachaaSynDeepPure
import Derived.ProofKit
import Derived.OpenShut
import Derived.ShutString
import Derived.ChangeOld
import Derived.SizedLaws
namespace Go.Proofs.Ytipkmffhebachaa.syntaxDeep
open Go.ChangeShapes Go.WideShapes Go.ChangeAt Go.RowKit
open Go.ChangeMaps (open_string shut_string)
set_option linter.unusedVariables false
theorem own : ownKnob Try.prog.godebug = none := by kernel_rfl
theorem parens_size (n : Nat) : (parens n).size = 2 * n + 1 := by
  induction n with
  | zero => rfl
  | succ n ih =>
    rw [parens, ByteArray.size_append, ByteArray.size_append, ih]
    show 1 + (2 * n + 1) + 1 = _
    omega
theorem deep_parsed {n : Nat} (h : deepOk n = true) : ∃ t pl er, parseM 400 (deepSrc n) = some (t, pl, er) ∧ (n + 3 ≤ 40 → er = 0) ∧ (¬ n + 3 ≤ 40 → er = 4 ∧ pl = 0) := by
  unfold deepOk at h
  cases hp : parseM 400 (deepSrc n) with
  | none => rw [hp] at h; cases h
  | some r =>
    rw [hp] at h
    obtain ⟨t, pl, er⟩ := r
    refine ⟨t, pl, er, rfl, fun hn => ?_, fun hn => ?_⟩
    · simpa [hn] using h
    · simpa [hn] using h
def DeepAt (n : Nat) (w : World) (v i : Value) (wr : World) : Prop := ∃ k : Nat, i = .int .i64 k ∧ k ≤ n ∧ v = .string (parens k) ∧ w = wr
set_option maxRecDepth 100000 in
set_option maxHeartbeats 2000000 in
theorem walk_ok (a0 : Int) (N : Nat) (w : World) (HM : Hid ((N : Int) = modM a0 80)) (hN : N + 3 ≤ 40) (t : Tr) (pl : Nat) (HP : Hid (parseM 400 (deepSrc N) = some (t, pl, 0))) :
    Calls Try.prog 8 #[.int .i64 a0] w fun e w' => e = .returned (.bool true) ∧ Below w.heap.size w w' := by
  have d1 : decide ((N : Int) + 3 ≤ 40) = true := decide_eq_true (by omega)
  have S := Lib.hid (show (deepSrc N).size ≤ maxLen from by unfold deepSrc; rw [ByteArray.size_append, parens_size]; show 24 + (2 * N + 1) ≤ _; unfold maxLen; omega)
  go_enter Try.func8, Try.ntmps8
  go_wp2_with (go_at_call 18; refine (mod_is _ _ N _ (by decide) (by decide) HM.out).mono ?_; rintro e w' ⟨rfl, rfl⟩)
  go_loopw [3, 4] (fun v i wr => DeepAt N w v i wr) (fun _ i _ => N - (intOf i).toNat)
  case atStart => exact ⟨0, rfl, Nat.zero_le _, rfl, rfl⟩
  case round =>
    obtain ⟨k, rfl, hk, rfl, rfl⟩ := hrel
    by_cases hlt : k < N
    · have hq1 := fun w : World => run_string_add_sum (P := Try.prog) w ⟨#[40]⟩ (parens k) (by rw [parens_size]; show 1 + (2 * k + 1) ≤ _; omega)
      have hq2 := fun w : World => run_string_add_sum (P := Try.prog) w (⟨#[40]⟩ ++ parens k) ⟨#[41]⟩ (by rw [ByteArray.size_append, parens_size]; show 1 + (2 * k + 1) + 1 ≤ _; omega)
      go_wp2
      go_roundw
      case rel => exact ⟨k + 1, by go_num, by omega, rfl, rfl⟩
      case measure => simp [intOf]; omega
    · have hkn : k = N := by omega
      subst hkn
      have hq3 := fun w : World => run_string_add_sum (P := Try.prog) w ⟨#[109, 111, 100, 117, 108, 101, 32, 77, 32, 100, 101, 102, 32, 102, 40, 41, 58, 32, 73, 110, 116, 32, 61, 32]⟩ (parens k) (by rw [parens_size]; show 24 + (2 * k + 1) ≤ _; omega)
      go_wp2_with fail
      go_at_call 10
      refine (parse_syn (n := 400) (Nat.le_of_ble_eq_true rfl) _ S.out HP.out).mono ?_
      rintro e w1 ⟨v, rfl, ht, hb⟩
      have HB := Lib.hid (hb.alloc hb.size (.cells #[.int .i64 v.kind, .string v.text, .slice v.la v.ll v.lc, .slice v.ka v.kl v.kc] 26))
      clear ht hb
      go_wp2_with fail
      go_at_call 9
      refine (awake_syn _).mono ?_
      rintro e w2 ⟨rfl, hb2⟩
      have HB2 := Lib.hid (HB.out.trans (hb2.mono HB.out.size))
      clear hb2
      go_wp2_with fail
      go_ret
      exact ⟨rfl, HB2.out⟩
set_option maxRecDepth 100000 in
set_option maxHeartbeats 2000000 in
theorem walk_no (a0 : Int) (N : Nat) (w : World) (HM : Hid ((N : Int) = modM a0 80)) (hN : ¬ N + 3 ≤ 40) (hN2 : N < 80) (t : Tr) (HP : Hid (parseM 400 (deepSrc N) = some (t, 0, 4))) :
    Calls Try.prog 8 #[.int .i64 a0] w fun e w' => e = .returned (.bool true) ∧ Below w.heap.size w w' := by
  have d1 : decide ((N : Int) + 3 ≤ 40) = false := decide_eq_false (by omega)
  have S := Lib.hid (show (deepSrc N).size ≤ maxLen from by unfold deepSrc; rw [ByteArray.size_append, parens_size]; show 24 + (2 * N + 1) ≤ _; unfold maxLen; omega)
  go_enter Try.func8, Try.ntmps8
  go_wp2_with (go_at_call 18; refine (mod_is _ _ N _ (by decide) (by decide) HM.out).mono ?_; rintro e w' ⟨rfl, rfl⟩)
  go_loopw [3, 4] (fun v i wr => DeepAt N w v i wr) (fun _ i _ => N - (intOf i).toNat)
  case atStart => exact ⟨0, rfl, Nat.zero_le _, rfl, rfl⟩
  case round =>
    obtain ⟨k, rfl, hk, rfl, rfl⟩ := hrel
    by_cases hlt : k < N
    · have hq1 := fun w : World => run_string_add_sum (P := Try.prog) w ⟨#[40]⟩ (parens k) (by rw [parens_size]; show 1 + (2 * k + 1) ≤ _; omega)
      have hq2 := fun w : World => run_string_add_sum (P := Try.prog) w (⟨#[40]⟩ ++ parens k) ⟨#[41]⟩ (by rw [ByteArray.size_append, parens_size]; show 1 + (2 * k + 1) + 1 ≤ _; omega)
      go_wp2
      go_roundw
      case rel => exact ⟨k + 1, by go_num, by omega, rfl, rfl⟩
      case measure => simp [intOf]; omega
    · have hkn : k = N := by omega
      subst hkn
      have hq3 := fun w : World => run_string_add_sum (P := Try.prog) w ⟨#[109, 111, 100, 117, 108, 101, 32, 77, 32, 100, 101, 102, 32, 102, 40, 41, 58, 32, 73, 110, 116, 32, 61, 32]⟩ (parens k) (by rw [parens_size]; show 24 + (2 * k + 1) ≤ _; omega)
      go_wp2_with fail
      go_at_call 10
      refine (parse_syn (n := 400) (Nat.le_of_ble_eq_true rfl) _ S.out HP.out).mono ?_
      rintro e w1 ⟨v, rfl, ht, hb⟩
      have HB := Lib.hid (hb.alloc hb.size (.cells #[.int .i64 v.kind, .string v.text, .slice v.la v.ll v.lc, .slice v.ka v.kl v.kc] 26))
      clear ht hb
      go_wp2_with fail
      go_at_call 9
      refine (awake_syn _).mono ?_
      rintro e w2 ⟨rfl, hb2⟩
      have HB2 := Lib.hid (HB.out.trans (hb2.mono HB.out.size))
      clear hb2
      go_wp2_with fail
      go_ret
      exact ⟨rfl, HB2.out⟩
theorem walk (a0 : Int) (w : World) (w0 : (Lit.int .i64 a0).wf = true) :
    Calls Try.prog 8 #[.int .i64 a0] w fun e w' => e = .returned (.bool true) ∧ Below w.heap.size w w' := by
  have hb := modM_bd a0 (m := 80) (by decide)
  obtain ⟨N, hN⟩ : ∃ N : Nat, (N : Int) = modM a0 80 := ⟨(modM a0 80).toNat, by omega⟩
  obtain ⟨t, pl, er, hp, h1, h2⟩ := deep_parsed (deep_of N (by omega))
  by_cases h : N + 3 ≤ 40
  · obtain rfl := h1 h
    exact walk_ok a0 N w (Lib.hid hN) h t pl (Lib.hid hp)
  · obtain ⟨rfl, rfl⟩ := h2 h
    exact walk_no a0 N w (Lib.hid hN) h (by omega) t (Lib.hid hp)
set_option maxRecDepth 100000 in
theorem lifted (os : Os) (started : os.Started) (H : Type) (enc : TypeId × Value → H) :
    ReturnsInHanded {} Try.checked os 8 .any (Rows.syntaxDeepSpec.pre6 enc Try.prog Try.f8 Rows.syntaxDeepRow.domain false) (Rows.syntaxDeepSpec.post enc Try.prog Try.f8 false true false false) := by
  refine returnsInHanded_of_change_sized (C := Try.checked) own started (by kernel_rfl) Try.func8
    (ChangeSpec.witness6 (enc := enc) (C := Try.checked) false ⟨#[], #[.int .i64 0], []⟩ 8 (by kernel_rfl) (by kernel_rfl) (by kernel_rfl) (by kernel_rfl)) ?_
  intro W base args ds gs before hval0 hW hcnd hsz0 _
  have hval : ∀ (j : Nat) t v, Try.f8.params[j]? = some t → args[j]? = some v → Value.okWide Try.prog W .any base t v := hval0
  have hW' := hW
  obtain ⟨p, q, hA0, hV, rfl, hfz, hnd⟩ := hW
  have hA : DataW.TrodAll enc Try.prog W 0 (fun _ => true) true Try.f8.params.toList args.toList ds p := hA0
  have hsz : (DataW.weightsEach Try.prog (Try.f8.params.toList ++ Rows.syntaxDeepSpec.plain.varTypes Try.prog) (ds ++ gs)).all (· ≤ reachBytes) = true := hsz0
  rw [Try.params8] at hA hval hsz
  obtain ⟨v0, vs0, d0, ds0, p0, q0, hargs, rfl, rfl, h0, r0⟩ := trodAll_cons hA
  obtain ⟨rfl, rfl, rfl⟩ := trodAll_nil r0
  obtain rfl : args = #[v0] := by cases args; simp_all
  obtain ⟨rfl, rfl⟩ := trodVars_none hV
  obtain ⟨a0, rfl, rfl, rfl, w0⟩ := open_int Try.underlying3 (hval 0 3 v0 rfl rfl) h0
  clear hA0 hval0
  simp only [List.append_nil] at hW'
  refine (walk a0 W w0).mono fun e W' ⟨he, bel⟩ => ?_
  subst he
  exact ⟨_, rfl, _, _, _, [], [], [], hW', trodAll_mk1 (shut_bool Try.underlying4 _), (trodAll_cons_mk (shut_int Try.underlying3 w0) trodAll_mk0), rfl, bel.frame _, fun h => by cases h⟩
theorem proved : Rows.SyntaxDeepSaid :=
  OpenClaim.holds_of_wide 8 Try.f8 rfl rfl rfl rfl rfl rfl rfl ⟨rfl, rfl, rfl, rfl, rfl⟩ rfl rfl rfl rfl rfl (by kernel_rfl) Try.func8 (by kernel_rfl)
    (of_decide_eq_true (by kernel_rfl)) (by unfold Func.isWrapper; first | (rw [if_pos (by decide +kernel)]; kernel_rfl) | (rw [if_neg (by decide +kernel)]; exact ⟨rfl, rfl⟩))
    (fun os started H enc _ => lifted os started H enc)
#print axioms proved
end Go.Proofs.Ytipkmffhebachaa.syntaxDeep
