/- The law IdentSteps holds for every input: the call returns true, and each argument reads as it read. No condition. -/
import Derived.Test.YthhgincbifckgaaIdnAwake
import Derived.ProofKit
import Derived.OpenShut
import Derived.ShutString
import Derived.ChangeOld
import Derived.SizedLaws
namespace Go.Proofs.Ythhgincbifckgaa.identSteps
open Go.ChangeShapes Go.WideShapes Go.ChangeAt Go.RowKit
open Go.ChangeMaps (open_string shut_string)
set_option linter.unusedVariables false
theorem own : ownKnob Try.prog.godebug = none := by kernel_rfl
theorem laidOut : laidOutB Try.prog = true := by kernel_rfl
theorem steps {x n m : Int} (hn : 0 ≤ n) (hm : 0 ≤ m) (h : nextE x n = 0) : nextI (nextI x n) m = nextI x (n + m) ∧ nextE (nextI x n) m = nextE x (n + m) ∧ (nextE x (n + m) = 0 → serI (nextI x (n + m)) = serI (nextI x n) + m) := by
  have hs : siteB (x / 1048576) = true ∧ n ≤ 1048575 - x % 1048576 ∧ x % 1048576 + n ≠ 0 := by
    unfold nextE at h
    split at h
    · simp at h
    · rename_i hc
      split at h
      · simp at h
      · split at h
        · simp at h
        · rename_i h1 h2
          simp at hc
          exact ⟨hc.1, by omega, h2⟩
  obtain ⟨h1, h2, h3⟩ := hs
  have ha : nextI x n = x + n := by unfold nextI; rw [if_pos h]
  have hd : (x + n) / 1048576 = x / 1048576 := by omega
  have hr : (x + n) % 1048576 = x % 1048576 + n := by omega
  have he : nextE (x + n) m = nextE x (n + m) := by
    unfold nextE
    rw [hd, hr, h1]
    have c1 : (decide (m < 0)) = false := by simp; omega
    have c2 : (decide (n + m < 0)) = false := by simp; omega
    rw [c1, c2]
    simp only [Bool.not_true, Bool.or_false, Bool.false_eq_true, if_false]
    by_cases k : 1048575 - (x % 1048576 + n) < m
    · rw [if_pos k, if_pos (by omega)]
    · rw [if_neg k, if_neg (by omega), if_neg (by omega), if_neg (by omega)]
  refine ⟨?_, by rw [ha, he], fun h0 => ?_⟩
  · rw [ha]
    unfold nextI
    rw [he]
    split <;> omega
  · have hb : nextI x (n + m) = x + (n + m) := by unfold nextI; rw [if_pos h0]
    have hlt : n + m ≤ 1048575 - x % 1048576 := by
      unfold nextE at h0
      split at h0
      · simp at h0
      · split at h0
        · simp at h0
        · omega
    have hv : ∀ k, 0 ≤ k → k ≤ 1048575 - x % 1048576 → x % 1048576 + k ≠ 0 → serI (x + k) = x % 1048576 + k := fun k k0 k1 k2 => by
      have e1 : (x + k) / 1048576 = x / 1048576 := by omega
      have e2 : (x + k) % 1048576 = x % 1048576 + k := by omega
      unfold serI validB serB
      rw [e1, e2, h1]
      simp
      omega
    rw [hb, ha, hv _ (by omega) hlt (by omega), hv _ hn h2 h3]
    omega
set_option maxHeartbeats 1000000 in
theorem walk (a0 : Int) (a1 : Int) (a2 : Int) (w : World) (w0 : (Lit.int .i64 a0).wf = true) (w1 : (Lit.int .i64 a1).wf = true) (w2 : (Lit.int .i64 a2).wf = true) :
    Calls Try.prog 8 #[.int .i64 a0, .int .i64 a1, .int .i64 a2] w fun e w' => e = .returned (.bool true) ∧ Below w.heap.size w w' := by
  by_cases hg : 0 ≤ a1 ∧ 0 ≤ a2 ∧ a1 ≤ 1048575 ∧ a2 ≤ 1048575
  · obtain ⟨g1, g2, g3, g4⟩ := hg
    by_cases he : nextE a0 a1 = 0
    · obtain ⟨h1, h2, h3⟩ := steps g1 g2 he
      obtain ⟨A, hA⟩ : ∃ A, nextI a0 a1 = A := ⟨_, rfl⟩
      obtain ⟨B, hB⟩ : ∃ B, nextI a0 (a1 + a2) = B := ⟨_, rfl⟩
      obtain ⟨F, hF⟩ : ∃ F, nextE a0 (a1 + a2) = F := ⟨_, rfl⟩
      rw [hA, hB] at h1
      rw [hA, hF] at h2
      rw [hF, hA, hB] at h3
      have HN1 := Lib.hid (fun w => by have h := next_any a0 a1 w; rw [hA, he] at h; exact h : ∀ w, Calls Try.prog 18 #[.int .i64 a0, .int .i64 a1] w fun e w' => e = .returned (.tuple #[.int .i64 A, .int .i64 0]) ∧ w = w')
      have HN2 := Lib.hid (fun w => by have h := next_any A a2 w; rw [h1, h2] at h; exact h : ∀ w, Calls Try.prog 18 #[.int .i64 A, .int .i64 a2] w fun e w' => e = .returned (.tuple #[.int .i64 B, .int .i64 F]) ∧ w = w')
      have HN3 := Lib.hid (fun w => by have h := next_any a0 (a1 + a2) w; rw [hB, hF] at h; exact h : ∀ w, Calls Try.prog 18 #[.int .i64 a0, .int .i64 (a1 + a2)] w fun e w' => e = .returned (.tuple #[.int .i64 B, .int .i64 F]) ∧ w = w')
      have hsb : 0 ≤ serI A ∧ serI A ≤ 1048575 := by unfold serI; split <;> omega
      have H3 := Lib.hid h3
      have s0 := hsb.1
      have s1 := hsb.2
      clear h1 h2 h3 hA hB hF he hsb
      go_enter Try.func8, Try.ntmps8
      go_wp2_with (first | (go_at_call 18; with_reducible refine (HN1.out _).mono ?_; rintro e w' ⟨rfl, rfl⟩) | (go_at_call 18; with_reducible refine (HN2.out _).mono ?_; rintro e w' ⟨rfl, rfl⟩) | (go_at_call 18; with_reducible refine (HN3.out _).mono ?_; rintro e w' ⟨rfl, rfl⟩) | (go_at_call 16; refine (serial_any _ _).mono ?_; rintro e w' ⟨rfl, rfl⟩) | (go_at_call 11; refine (awake_any _).mono ?_; rintro e w1 ⟨rfl, hb1⟩; have HB1 := Lib.hid hb1; clear hb1))
      all_goals
        go_ret
        refine ⟨ret_bool ?_, HB1.out⟩
        have h3 := H3.out
        first
          | rfl
          | (simp_all; done)
          | (simp at h3; simp_all; done)
    · have he' : (nextE a0 a1 != 0) = true := by simp [he]
      clear he
      go_enter Try.func8, Try.ntmps8
      go_wp2_with (first | (go_at_call 18; refine (next_any _ _ _).mono ?_; rintro e w' ⟨rfl, rfl⟩) | (go_at_call 11; refine (awake_any _).mono ?_; rintro e w1 ⟨rfl, hb1⟩; have HB1 := Lib.hid hb1; clear hb1))
      all_goals
        go_ret
        exact ⟨rfl, HB1.out⟩
  · go_enter Try.func8, Try.ntmps8
    go_wp2_with (first | (exfalso; omega) | (go_at_call 11; refine (awake_any _).mono ?_; rintro e w1 ⟨rfl, hb1⟩; have HB1 := Lib.hid hb1; clear hb1))
    all_goals first | (exfalso; omega) | (go_ret; exact ⟨rfl, HB1.out⟩)
set_option maxRecDepth 100000 in
theorem lifted (os : Os) (started : os.Started) (H : Type) (enc : TypeId × Value → H) :
    ReturnsInHanded {} Try.checked os 8 .any (Rows.identStepsSpec.pre6 enc Try.prog Try.f8 Rows.identStepsRow.domain false) (Rows.identStepsSpec.post enc Try.prog Try.f8 false true false false) := by
  refine returnsInHanded_of_change_sized (C := Try.checked) own started (by kernel_rfl) Try.func8
    (ChangeSpec.witness6 (enc := enc) (C := Try.checked) false ⟨#[], #[.int .i64 0, .int .i64 0, .int .i64 0], []⟩ 8 (by kernel_rfl) (by kernel_rfl) (by kernel_rfl) (by kernel_rfl)) ?_
  intro W base args ds gs before hval0 hW hcnd hsz0 _
  have hval : ∀ (j : Nat) t v, Try.f8.params[j]? = some t → args[j]? = some v → Value.okWide Try.prog W .any base t v := hval0
  have hW' := hW
  obtain ⟨p, q, hA0, hV, rfl, hfz, hnd⟩ := hW
  have hA : DataW.TrodAll enc Try.prog W 0 (fun _ => true) true Try.f8.params.toList args.toList ds p := hA0
  have hsz : (DataW.weightsEach Try.prog (Try.f8.params.toList ++ Rows.identStepsSpec.plain.varTypes Try.prog) (ds ++ gs)).all (· ≤ reachBytes) = true := hsz0
  rw [Try.params8] at hA hval hsz
  obtain ⟨v0, vs0, d0, ds0, p0, q0, hargs, rfl, rfl, h0, r0⟩ := trodAll_cons hA
  obtain ⟨v1, vs1, d1, ds1, p1, q1, rfl, rfl, rfl, h1, r1⟩ := trodAll_cons r0
  obtain ⟨v2, vs2, d2, ds2, p2, q2, rfl, rfl, rfl, h2, r2⟩ := trodAll_cons r1
  obtain ⟨rfl, rfl, rfl⟩ := trodAll_nil r2
  obtain rfl : args = #[v0, v1, v2] := by cases args; simp_all
  obtain ⟨rfl, rfl⟩ := trodVars_none hV
  obtain ⟨a0, rfl, rfl, rfl, w0⟩ := open_int Try.underlying3 (hval 0 3 v0 rfl rfl) h0
  obtain ⟨a1, rfl, rfl, rfl, w1⟩ := open_int Try.underlying3 (hval 1 3 v1 rfl rfl) h1
  obtain ⟨a2, rfl, rfl, rfl, w2⟩ := open_int Try.underlying3 (hval 2 3 v2 rfl rfl) h2
  clear hA0 hval0
  simp only [List.append_nil] at hW'
  refine (walk a0 a1 a2 W w0 w1 w2).mono fun e W' ⟨he, bel⟩ => ?_
  subst he
  exact ⟨_, rfl, _, _, _, [], [], [], hW', trodAll_mk1 (shut_bool Try.underlying4 _), (trodAll_cons_mk (shut_int Try.underlying3 w0) (trodAll_cons_mk (shut_int Try.underlying3 w1) (trodAll_cons_mk (shut_int Try.underlying3 w2) trodAll_mk0))), rfl, bel.frame _, fun h => by cases h⟩
theorem proved : Rows.IdentStepsSaid :=
  OpenClaim.holds_of_wide 8 Try.f8 rfl rfl rfl rfl rfl rfl rfl ⟨rfl, rfl, rfl, rfl, rfl⟩ rfl rfl rfl rfl rfl (by kernel_rfl) Try.func8 (by kernel_rfl)
    (of_decide_eq_true (by kernel_rfl)) (by unfold Func.isWrapper; first | (rw [if_pos (by decide +kernel)]; kernel_rfl) | (rw [if_neg (by decide +kernel)]; exact ⟨rfl, rfl⟩))
    (fun os started H enc _ => lifted os started H enc)
#print axioms proved
end Go.Proofs.Ythhgincbifckgaa.identSteps
