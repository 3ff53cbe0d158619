/- The law PositionSpread holds for every input: the call returns true, and each argument reads as it read. No condition. -/
import Derived.Test.YtedlfjolmhkpdaaPosLawP
import Derived.ProofKit
import Derived.OpenShut
import Derived.ShutString
import Derived.ChangeOld
import Derived.SizedLaws
namespace Go.Proofs.Ytedlfjolmhkpdaa.positionSpread
open Go.ChangeShapes Go.WideShapes Go.ChangeAt Go.RowKit
open Go.ChangeMaps (open_string shut_string)
set_option linter.unusedVariables false
theorem own : ownKnob Try.prog.godebug = none := by kernel_rfl
theorem laidOut : laidOutB Try.prog = true := by kernel_rfl
set_option maxRecDepth 100000 in
set_option maxHeartbeats 2000000 in
theorem walk (a0 : Int) (w : World) (w0 : (Lit.int .i64 a0).wf = true) :
    Calls Try.prog 4 #[.int .i64 a0] w fun e w' => e = .returned (.bool true) ∧ Below w.heap.size w w' := by
  have hasc : AscV [] (spreadI a0) ∧ (spreadI a0).length ≤ 400 ∧ (a0 < 0 ∨ 400 < a0 ∨ ((spreadI a0).length : Int) = a0) := by
    unfold spreadI
    by_cases h : a0 < 0 ∨ 400 < a0
    · rw [if_pos h]
      exact ⟨trivial, by simp, by omega⟩
    · rw [if_neg h]
      refine ⟨spread_asc (by omega), by rw [spread_len]; omega, by rw [spread_len]; omega⟩
  obtain ⟨l, hl⟩ : ∃ l, l = spreadI a0 := ⟨_, rfl⟩
  have HS := Lib.hid (fun W => by have h := spread_any a0 W; rw [← hl] at h; exact h : ∀ W, Calls Try.prog 16 #[.int .i64 a0] W (SprPost l W))
  have HR := Lib.hid (fun W => by have h := rspread_any a0 W; rw [← hl] at h; exact h : ∀ W, Calls Try.prog 18 #[.int .i64 a0] W (SprPost l W))
  rw [← hl] at hasc
  obtain ⟨h1, h2, h3⟩ := hasc
  have HA := Lib.hid h1
  have HN := Lib.hid h3
  clear h1 h3 hl
  go_enter Try.func4, Try.ntmps4
  go_wp2_with fail
  refine (HS.out _).mono ?_
  rintro e w1 ⟨v1, rfl, hr1, hb1⟩
  obtain ⟨A, c, rfl⟩ := hr1.form
  have HROW := Lib.hid hr1
  have HB1 := Lib.hid hb1
  obtain ⟨n, hn⟩ : ∃ n, n = l.length := ⟨_, rfl⟩
  have HNL := Lib.hid hn
  rw [← hn] at h2 ⊢
  clear hr1 hb1 hn
  go_wp2
  go_loopw [4] (fun i wr => ∃ k : Nat, k ≤ n ∧ i = .int .i64 (k : Int) ∧ Below w1.heap.size w1 wr) (fun i _ => n - (intOf i).toNat)
  case atStart => exact ⟨0, Nat.zero_le _, rfl, Below.refl _ _⟩
  case round =>
    obtain ⟨k, hk, rfl, hbl⟩ := hrel
    have HBL := Lib.hid hbl
    clear hbl
    by_cases hlt : k < n
    · obtain ⟨g, c', hv, _, hg, hat⟩ := HROW.out.at (by rw [← HNL.out]; omega)
      injection hv with hA _ hc'
      subst hA hc'
      have hkl : k < l.length := by rw [← HNL.out]; exact hlt
      obtain ⟨x, hx⟩ : ∃ x, x = l[k] := ⟨_, rfl⟩
      have hgx : l[k]? = some x := by rw [hx]; exact List.getElem?_eq_getElem hkl
      have hvx := (asc_at l [] HA.out k x hgx).1
      have c1 : wr.cell? ⟨g, k, none⟩ = some (.string (strL x)) := (HBL.out.cell (p := ⟨g, k, none⟩) hg).trans (hat k x hgx)
      obtain ⟨X, hX⟩ : ∃ X, X = strL x := ⟨_, rfl⟩
      have HV := Lib.hid (fun W => by have h := valid_list x W (by have := ((vld_iff x).1 hvx).2.1; unfold maxLen; omega); rw [hvx, ← hX] at h; exact h.mono fun _ _ ⟨a, b⟩ => ⟨a, b.symm⟩ : ∀ W, Calls Try.prog 14 #[.string X] W fun e w' => e = .returned (.bool true) ∧ w' = W)
      rw [← hX] at c1
      have HX := Lib.hid hX
      cases k with
      | zero =>
        have g0 : decide ((0 : Int) < ((0 : Nat) : Int)) = false := by decide
        clear hx hgx hvx hat hX
        go_wp2
        go_quiet ((go_at_call 14; exact Calls.quiet_of_same (HV.out _)))
        go_wp2
        go_roundw
        case rel => exact ⟨1, hlt, rfl, HBL.out.trans (drewN_b _ _ _)⟩
        case measure => first | (simp [intOf]; done) | (simp [intOf]; omega)
      | succ j =>
        have hjl : j < l.length := by omega
        obtain ⟨y, hy⟩ : ∃ y, y = l[j] := ⟨_, rfl⟩
        have hgy : l[j]? = some y := by rw [hy]; exact List.getElem?_eq_getElem hjl
        have c2 : wr.cell? ⟨g, j, none⟩ = some (.string (strL y)) := (HBL.out.cell (p := ⟨g, j, none⟩) hg).trans (hat j y hgy)
        obtain ⟨Y, hY⟩ : ∃ Y, Y = strL y := ⟨_, rfl⟩
        rw [← hY] at c2
        have hless : Op.bytesLess Y.toList X.toList = true := by
          rw [hX, hY, strL_toList, strL_toList]
          exact (asc_at l [] HA.out j y hgy).2 x hgx
        have g0 : decide ((0 : Int) < (j : Int) + 1) = true := decide_eq_true (by omega)
        have j0 : (0 : Int) ≤ (j : Int) := by omega
        have j1 : (j : Int) < (n : Int) := by omega
        have j2 : (0 : Int) ≤ (j : Int) + 1 := by omega
        have j3 : (j : Int) + 1 < (n : Int) := by omega
        have t1 : ((j : Int) + 1).toNat = j + 1 := by omega
        have t2 : (j : Int) + 1 - 1 = (j : Int) := by omega
        have t3 : IntKind.i64.wrap ((j : Int) + 1 - 1) = (j : Int) := by rw [t2]; exact IntWalk.i64_in _ (by omega)
        have t4 : IntKind.i64.wrap (j : Int) = (j : Int) := IntWalk.i64_in _ (by omega)
        have HLT := Lib.hid hlt
        have HLJ := Lib.hid (show n - (j + 1 + 1) < n - (j + 1) by omega)
        clear hx hgx hvx hat hX hy hgy hY hjl hkl
        go_wp2
        go_quiet ((go_at_call 14; exact Calls.quiet_of_same (HV.out _)))
        go_wp2
        go_roundw
        case rel => exact ⟨j + 1 + 1, HLT.out, by go_num, HBL.out.trans (drewN_b _ _ _)⟩
        case measure => first | (simp [intOf]; done) | (simp [intOf]; omega)
    · have B1 := Lib.hid (HB1.out.trans (HBL.out.mono HB1.out.size))
      go_wp2_with fail
      refine (awake_any _).mono ?_
      rintro e w3 ⟨rfl, hb3⟩
      have B3 := Lib.hid (B1.out.trans (hb3.mono B1.out.size))
      have R3 := Lib.hid (HROW.out.keep (HBL.out.trans (hb3.mono HBL.out.size)))
      clear hb3
      go_wp2_with fail
      refine (HR.out _).mono ?_
      rintro e w4 ⟨v4, rfl, hr4, hb4⟩
      obtain ⟨A4, c4, rfl⟩ := hr4.form
      have B4 := Lib.hid (B3.out.trans (hb4.mono B3.out.size))
      have hst := texts_any A A4 c c4 l l w4 (R3.out.keep hb4).texts.2 hr4.texts.2 (by rw [← HNL.out]; unfold maxLen; omega)
      rw [decide_eq_true rfl, ← HNL.out] at hst
      have HST := Lib.hid hst
      rw [← HNL.out]
      clear hr4 hb4 hst
      go_wp2_with fail
      refine HST.out.mono ?_
      rintro e w5 ⟨rfl, q, rfl⟩
      have h3 := HN.out
      rw [← HNL.out] at h3
      have HB5 := Lib.hid (B4.out.trans (drewN_b w.heap.size w4 q))
      have h2' : n ≤ 400 := h2
      by_cases k1 : a0 < 0
      · clear h3
        go_wp2
        go_ret
        exact ⟨ret_bool (by simp), HB5.out⟩
      · by_cases k2 : 400 < a0
        · clear h3
          go_wp2
          go_ret
          exact ⟨ret_bool (by simp), HB5.out⟩
        · have k3 : ((n : Int) == a0) = true := decide_eq_true (by omega)
          clear h3
          go_wp2
          go_ret
          exact ⟨ret_bool (by simp), HB5.out⟩
set_option maxRecDepth 100000 in
theorem lifted (os : Os) (started : os.Started) (H : Type) (enc : TypeId × Value → H) :
    ReturnsInHanded {} Try.checked os 4 .any (Rows.positionSpreadSpec.pre6 enc Try.prog Try.f4 Rows.positionSpreadRow.domain false) (Rows.positionSpreadSpec.post enc Try.prog Try.f4 false true false false) := by
  refine returnsInHanded_of_change_sized (C := Try.checked) own started (by kernel_rfl) Try.func4
    (ChangeSpec.witness6 (enc := enc) (C := Try.checked) false ⟨#[], #[.int .i64 0], []⟩ 8 (by kernel_rfl) (by kernel_rfl) (by kernel_rfl) (by kernel_rfl)) ?_
  intro W base args ds gs before hval0 hW hcnd hsz0 _
  have hval : ∀ (j : Nat) t v, Try.f4.params[j]? = some t → args[j]? = some v → Value.okWide Try.prog W .any base t v := hval0
  have hW' := hW
  obtain ⟨p, q, hA0, hV, rfl, hfz, hnd⟩ := hW
  have hA : DataW.TrodAll enc Try.prog W 0 (fun _ => true) true Try.f4.params.toList args.toList ds p := hA0
  have hsz : (DataW.weightsEach Try.prog (Try.f4.params.toList ++ Rows.positionSpreadSpec.plain.varTypes Try.prog) (ds ++ gs)).all (· ≤ reachBytes) = true := hsz0
  rw [Try.params4] at hA hval hsz
  obtain ⟨v0, vs0, d0, ds0, p0, q0, hargs, rfl, rfl, h0, r0⟩ := trodAll_cons hA
  obtain ⟨rfl, rfl, rfl⟩ := trodAll_nil r0
  obtain rfl : args = #[v0] := by cases args; simp_all
  obtain ⟨rfl, rfl⟩ := trodVars_none hV
  obtain ⟨a0, rfl, rfl, rfl, w0⟩ := open_int Try.underlying3 (hval 0 3 v0 rfl rfl) h0
  clear hA0 hval0
  simp only [List.append_nil] at hW'
  refine (walk a0 W w0).mono fun e W' ⟨he, bel⟩ => ?_
  subst he
  exact ⟨_, rfl, _, _, _, [], [], [], hW', trodAll_mk1 (shut_bool Try.underlying4 _), (trodAll_cons_mk (shut_int Try.underlying3 w0) trodAll_mk0), rfl, bel.frame _, fun h => by cases h⟩
theorem proved : Rows.PositionSpreadSaid :=
  OpenClaim.holds_of_wide 4 Try.f4 rfl rfl rfl rfl rfl rfl rfl ⟨rfl, rfl, rfl, rfl, rfl⟩ rfl rfl rfl rfl rfl (by kernel_rfl) Try.func4 (by kernel_rfl)
    (of_decide_eq_true (by kernel_rfl)) (by unfold Func.isWrapper; first | (rw [if_pos (by decide +kernel)]; kernel_rfl) | (rw [if_neg (by decide +kernel)]; exact ⟨rfl, rfl⟩))
    (fun os started H enc _ => lifted os started H enc)
#print axioms proved
end Go.Proofs.Ytedlfjolmhkpdaa.positionSpread
