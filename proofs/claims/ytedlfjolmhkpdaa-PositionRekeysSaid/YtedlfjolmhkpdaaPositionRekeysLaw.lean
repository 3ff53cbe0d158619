/- The law PositionRekeys holds for every input: the call returns true, and each argument reads as it read. No condition. -/
import Derived.Test.YtedlfjolmhkpdaaPosOpen
import Derived.ProofKit
import Derived.OpenShut
import Derived.ShutString
import Derived.ChangeOld
import Derived.SizedLaws
namespace Go.Proofs.Ytedlfjolmhkpdaa.positionRekeys
open Go.ChangeShapes Go.WideShapes Go.ChangeAt Go.RowKit
open Go.ChangeMaps (open_string shut_string)
set_option linter.unusedVariables false
theorem own : ownKnob Try.prog.godebug = none := by kernel_rfl
theorem laidOut : laidOutB Try.prog = true := by kernel_rfl
set_option maxRecDepth 100000 in
set_option maxHeartbeats 1000000 in
theorem walk (A0 : Option Addr) (cap0 : Nat) (zs0 : List Key) (w : World) (i0 : TAt w A0 zs0) (l0 : zs0.length ≤ cap0) (m0 : cap0 ≤ maxLen) (s0 : ∀ k ∈ zs0, k.length ≤ maxLen) :
    Calls Try.prog 6 #[.slice A0 zs0.length cap0] w fun e w' => e = .returned (.bool true) ∧ Below w.heap.size w w' := by
  have HL := Lib.hid (fun W (h : TAt W A0 zs0) => light_any A0 cap0 zs0 W h (by omega) s0)
  have HT := Lib.hid i0
  cases hb : lightB zs0
  · have HLW := Lib.hid (by have h := HL.out w HT.out; rw [hb] at h; exact h : Calls Try.prog 19 #[.slice A0 zs0.length cap0] w fun e w' => e = .returned (.bool false) ∧ w = w')
    clear hb i0 s0
    go_enter Try.func6, Try.ntmps6
    go_wp2_with (first | (go_at_call 19; (with_reducible refine HLW.out.mono ?_); rintro e w' ⟨rfl, rfl⟩) | (go_at_call 11; refine (awake_any _).mono ?_; rintro e w1 ⟨rfl, hb1⟩; have HB1 := Lib.hid hb1; clear hb1))
    go_ret
    exact ⟨rfl, HB1.out⟩
  · have HLW := Lib.hid (by have h := HL.out w HT.out; rw [hb] at h; exact h : Calls Try.prog 19 #[.slice A0 zs0.length cap0] w fun e w' => e = .returned (.bool true) ∧ w = w')
    have hn := ((light_iff zs0).1 hb).1
    have HS := Lib.hid s0
    clear hb i0 s0
    go_enter Try.func6, Try.ntmps6
    go_wp2_with ((go_at_call 19; (with_reducible refine HLW.out.mono ?_); rintro e w' ⟨rfl, rfl⟩))
    refine (awake_any _).mono ?_
    rintro e w1 ⟨rfl, hb1⟩
    have HB1 := Lib.hid hb1
    clear hb1
    go_wp2_with fail
    refine (rekey_any zs0 A0 cap0 w1 (HT.out.keep HB1.out) (by omega) l0 HS.out).mono ?_
    rintro e w2 ⟨v2, rfl, hr2, hb2⟩
    obtain ⟨A2, c2, rfl⟩ := hr2.form
    have HR2 := Lib.hid hr2
    have HB2 := Lib.hid (HB1.out.trans (hb2.mono HB1.out.size))
    clear hr2 hb2
    go_wp2_with fail
    refine (rrekey_any zs0 A0 cap0 w2 (HT.out.keep HB2.out) (by omega) HS.out).mono ?_
    rintro e w3 ⟨v3, rfl, hr3, hb3⟩
    obtain ⟨A3, c3, rfl⟩ := hr3.form
    have hst := texts_any A2 A3 c2 c3 (rekeyP zs0) (rekeyP zs0) w3 (HR2.out.keep hb3).texts.2 hr3.texts.2 (by
      have h := HR2.out.1.1
      have := rekey_len zs0
      unfold maxLen
      omega)
    rw [decide_eq_true rfl] at hst
    have HB3 := Lib.hid (HB2.out.trans (hb3.mono HB2.out.size))
    have HST := Lib.hid hst
    clear hr3 hb3 hst
    go_wp2_with fail
    refine HST.out.mono ?_
    rintro e w4 ⟨rfl, q, rfl⟩
    go_wp2
    go_ret
    exact ⟨ret_bool (by simp), HB3.out.trans (drewN_b _ _ _)⟩
set_option maxRecDepth 100000 in
theorem lifted (os : Os) (started : os.Started) (H : Type) (enc : TypeId × Value → H) :
    ReturnsInHanded {} Try.checked os 6 .any (Rows.positionRekeysSpec.pre6 enc Try.prog Try.f6 Rows.positionRekeysRow.domain false) (Rows.positionRekeysSpec.post enc Try.prog Try.f6 false true false false) := by
  refine returnsInHanded_of_change_sized (C := Try.checked) own started (by kernel_rfl) Try.func6
    (ChangeSpec.witness6 (enc := enc) (C := Try.checked) false ⟨#[], #[.slice none 0 0], []⟩ 8 (by kernel_rfl) (by kernel_rfl) (by kernel_rfl) (by kernel_rfl)) ?_
  intro W base args ds gs before hval0 hW hcnd hsz0 _
  have hval : ∀ (j : Nat) t v, Try.f6.params[j]? = some t → args[j]? = some v → Value.okWide Try.prog W .any base t v := hval0
  have hW' := hW
  obtain ⟨p, q, hA0, hV, rfl, hfz, hnd⟩ := hW
  have hA : DataW.TrodAll enc Try.prog W 0 (fun _ => true) true Try.f6.params.toList args.toList ds p := hA0
  have hsz : (DataW.weightsEach Try.prog (Try.f6.params.toList ++ Rows.positionRekeysSpec.plain.varTypes Try.prog) (ds ++ gs)).all (· ≤ reachBytes) = true := hsz0
  rw [Try.params6] at hA hval hsz
  obtain ⟨v0, vs0, d0, ds0, p0, q0, hargs, rfl, rfl, h0, r0⟩ := trodAll_cons hA
  obtain ⟨rfl, rfl, rfl⟩ := trodAll_nil r0
  obtain rfl : args = #[v0] := by cases args; simp_all
  obtain ⟨rfl, rfl⟩ := trodVars_none hV
  obtain ⟨a0, len0, cap0, rfl⟩ := okWide_slice Try.underlying28 (hval 0 28 v0 rfl rfl)
  have k0 := h0
  have lt0 : ∀ x ∈ p0, x.block < W.heap.size := by obtain ⟨m, hm⟩ := k0; exact DataW.trod_lt m _ _ _ hm
  obtain ⟨fuel0, hf0⟩ := h0
  obtain ⟨A0, c0, zs0, hcs0, i0, l0, m0, s0⟩ := open_texts1 hf0
  simp [Value.cells] at hcs0
  obtain ⟨rfl, rfl, rfl⟩ := hcs0
  clear hA0 hval0
  simp only [List.append_nil] at hW'
  refine (walk a0 cap0 zs0 W i0 l0 m0 s0).mono fun e W' ⟨he, bel⟩ => ?_
  subst he
  exact ⟨_, rfl, _, _, _, [], _, [], hW', trodAll_mk1 (shut_bool Try.underlying4 _), (trodAll_cons_mk (Below.trod laidOut (by kernel_rfl) (of_decide_eq_true (by kernel_rfl)) k0 bel lt0) trodAll_mk0), rfl, bel.frame _, fun h => by cases h⟩
theorem proved : Rows.PositionRekeysSaid :=
  OpenClaim.holds_of_wide 6 Try.f6 rfl rfl rfl rfl rfl rfl rfl ⟨rfl, rfl, rfl, rfl, rfl⟩ rfl rfl rfl rfl rfl (by kernel_rfl) Try.func6 (by kernel_rfl)
    (of_decide_eq_true (by kernel_rfl)) (by unfold Func.isWrapper; first | (rw [if_pos (by decide +kernel)]; kernel_rfl) | (rw [if_neg (by decide +kernel)]; exact ⟨rfl, rfl⟩))
    (fun os started H enc _ => lifted os started H enc)
#print axioms proved
end Go.Proofs.Ytedlfjolmhkpdaa.positionRekeys
