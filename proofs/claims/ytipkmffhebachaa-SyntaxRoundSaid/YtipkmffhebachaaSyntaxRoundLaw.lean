/- The law SyntaxRound holds for every input: the call returns true, and each argument reads as it read. No condition. -/
import Derived.Test.YtipkmffhebachaaSynAwakes
import Derived.Test.YtipkmffhebachaaSynRoundP
import Derived.ProofKit
import Derived.OpenShut
import Derived.ShutString
import Derived.ChangeOld
import Derived.SizedLaws
namespace Go.Proofs.Ytipkmffhebachaa.syntaxRound
open Go.ChangeShapes Go.WideShapes Go.ChangeAt Go.RowKit
open Go.ChangeMaps (open_string shut_string)
set_option linter.unusedVariables false
theorem own : ownKnob Try.prog.godebug = none := by kernel_rfl
set_option maxRecDepth 100000 in
set_option maxHeartbeats 2000000 in
theorem walk_bad (a0 : ByteArray) (w : World) (HZ : Hid (a0.size ≤ maxLen)) (t : Tr) (pl er : Nat) (HP : Hid (parseM 8200 a0 = some (t, pl, er))) (he : er ≠ 0) :
    Calls Try.prog 5 #[.string a0] w fun e w' => e = .returned (.bool true) ∧ Below w.heap.size w w' := by
  have d1 : ((er : Int) != 0) = true := by simp [he]
  clear he
  go_enter Try.func5, Try.ntmps5
  go_wp2_with fail
  go_at_call 10
  refine (parse_syn (n := 8200) (Nat.le_of_ble_eq_true rfl) _ HZ.out HP.out).mono ?_
  rintro e w1 ⟨v, rfl, ht, hb⟩
  have HB := Lib.hid (hb.alloc hb.size (.cells #[.int .i64 v.kind, .string v.text, .slice v.la v.ll v.lc, .slice v.ka v.kl v.kc] 26))
  clear ht hb
  go_wp2_with fail
  go_at_call 9
  refine (awake_syn _).mono ?_
  rintro e w2 ⟨rfl, hb2⟩
  have HB2 := Lib.hid (HB.out.trans (hb2.mono HB.out.size))
  clear hb2
  go_wp2_with fail
  go_ret
  exact ⟨rfl, HB2.out⟩
set_option maxRecDepth 100000 in
set_option maxHeartbeats 2000000 in
theorem walk_good (a0 : ByteArray) (w : World) (HZ : Hid (a0.size ≤ maxLen)) (t : Tr) (pl : Nat) (HP : Hid (parseM 8200 a0 = some (t, pl, 0))) :
    Calls Try.prog 5 #[.string a0] w fun e w' => e = .returned (.bool true) ∧ Below w.heap.size w w' := by
  obtain ⟨g1, g2, g3, g4, g5⟩ := parse_round HP.out
  have HS := Lib.hid (parse_small (by decide) HP.out)
  have HPR := Lib.hid g1
  have HV := Lib.hid g2
  have HSH := Lib.hid g3
  have HW := Lib.hid g4
  have HSZ := Lib.hid g5
  clear g1 g2 g3 g4 g5
  go_enter Try.func5, Try.ntmps5
  go_wp2_with fail
  go_at_call 10
  refine (parse_syn (n := 8200) (Nat.le_of_ble_eq_true rfl) _ HZ.out HP.out).mono ?_
  rintro e w1 ⟨v, rfl, ht, hb⟩
  have HT := Lib.hid (ht.keep ((Below.refl w1.heap.size w1).alloc (Nat.le_refl _) (.cells #[.int .i64 v.kind, .string v.text, .slice v.la v.ll v.lc, .slice v.ka v.kl v.kc] 26)))
  have HB := Lib.hid (hb.alloc hb.size (.cells #[.int .i64 v.kind, .string v.text, .slice v.la v.ll v.lc, .slice v.ka v.kl v.kc] 26))
  have HG := Lib.hid (heap_alloc_new w1 (.cells #[.int .i64 v.kind, .string v.text, .slice v.la v.ll v.lc, .slice v.ka v.kl v.kc] 26))
  have HLT := Lib.hid (lt_of_heap HG.out)
  clear ht hb
  go_wp2_with fail
  go_at_call 9
  refine (awake_syn _).mono ?_
  rintro e w2 ⟨rfl, hb2⟩
  have HT2 := Lib.hid (HT.out.keep hb2)
  have HB2 := Lib.hid (HB.out.trans (hb2.mono HB.out.size))
  have hg2 := (hb2.block w1.heap.size (lt_of_heap HG.out)).trans HG.out
  have HG2 := Lib.hid hg2
  have r0 : w2.cell? ⟨w1.heap.size, 0, none⟩ = some (.int .i64 v.kind) := cells_of hg2 0 _ rfl
  have r1 : w2.cell? ⟨w1.heap.size, 1, none⟩ = some (.string v.text) := cells_of hg2 1 _ rfl
  have r2 : w2.cell? ⟨w1.heap.size, 2, none⟩ = some (.slice v.la v.ll v.lc) := cells_of hg2 2 _ rfl
  have r3 : w2.cell? ⟨w1.heap.size, 3, none⟩ = some (.slice v.ka v.kl v.kc) := cells_of hg2 3 _ rfl
  clear hb2 hg2
  go_wp2_with fail
  go_at_call 15
  refine (valid_syn _ t v _ HT2.out HS.out HW.out HSZ.out).mono ?_
  rw [HV.out]
  rintro e w3 ⟨rfl, hb3⟩
  have HT3 := Lib.hid (HT2.out.keep hb3)
  have HB3 := Lib.hid (HB2.out.trans (hb3.mono HB2.out.size))
  clear r0 r1 r2 r3
  have hg3 := (hb3.block w1.heap.size (lt_of_heap HG2.out)).trans HG2.out
  have HG3 := Lib.hid hg3
  have r0 : w3.cell? ⟨w1.heap.size, 0, none⟩ = some (.int .i64 v.kind) := cells_of hg3 0 _ rfl
  have r1 : w3.cell? ⟨w1.heap.size, 1, none⟩ = some (.string v.text) := cells_of hg3 1 _ rfl
  have r2 : w3.cell? ⟨w1.heap.size, 2, none⟩ = some (.slice v.la v.ll v.lc) := cells_of hg3 2 _ rfl
  have r3 : w3.cell? ⟨w1.heap.size, 3, none⟩ = some (.slice v.ka v.kl v.kc) := cells_of hg3 3 _ rfl
  clear hb3 hg3
  go_wp2_with fail
  go_at_call 16
  refine (shaped_syn (SizeOf.sizeOf t) _ t v _ (Nat.le_refl _) HT3.out HS.out HW.out).mono ?_
  rw [HSH.out]
  rintro e w4 ⟨rfl, hb4⟩
  have HT4 := Lib.hid (HT3.out.keep hb4)
  have HB4 := Lib.hid (HB3.out.trans (hb4.mono HB3.out.size))
  clear r0 r1 r2 r3
  have hg4 := (hb4.block w1.heap.size (lt_of_heap HG3.out)).trans HG3.out
  have HG4 := Lib.hid hg4
  have r0 : w4.cell? ⟨w1.heap.size, 0, none⟩ = some (.int .i64 v.kind) := cells_of hg4 0 _ rfl
  have r1 : w4.cell? ⟨w1.heap.size, 1, none⟩ = some (.string v.text) := cells_of hg4 1 _ rfl
  have r2 : w4.cell? ⟨w1.heap.size, 2, none⟩ = some (.slice v.la v.ll v.lc) := cells_of hg4 2 _ rfl
  have r3 : w4.cell? ⟨w1.heap.size, 3, none⟩ = some (.slice v.ka v.kl v.kc) := cells_of hg4 3 _ rfl
  clear hb4 hg4
  go_wp2_with fail
  go_at_call 17
  refine (print_syn _ t v _ HT4.out HS.out HW.out HSZ.out).mono ?_
  rw [HPR.out]
  rintro e w5 ⟨rfl, hb5⟩
  have HB5 := Lib.hid (HB4.out.trans (hb5.mono HB4.out.size))
  clear hb5 r0 r1 r2 r3
  go_wp2_with fail
  go_ret
  exact ⟨rfl, HB5.out⟩
theorem walk (a0 : ByteArray) (w : World) (z0 : a0.size ≤ 140737488351232) :
    Calls Try.prog 5 #[.string a0] w fun e w' => e = .returned (.bool true) ∧ Below w.heap.size w w' := by
  obtain ⟨⟨t, pl, er⟩, hp⟩ := parse_total a0
  have HZ := Lib.hid (show a0.size ≤ maxLen from by unfold maxLen; omega)
  by_cases he : er = 0
  · subst he
    exact walk_good a0 w HZ t pl (Lib.hid hp)
  · exact walk_bad a0 w HZ t pl er (Lib.hid hp) he
set_option maxRecDepth 100000 in
theorem lifted (os : Os) (started : os.Started) (H : Type) (enc : TypeId × Value → H) :
    ReturnsInHanded {} Try.checked os 5 .any (Rows.syntaxRoundSpec.pre6 enc Try.prog Try.f5 Rows.syntaxRoundRow.domain false) (Rows.syntaxRoundSpec.post enc Try.prog Try.f5 false true false false) := by
  refine returnsInHanded_of_change_sized (C := Try.checked) own started (by kernel_rfl) Try.func5
    (ChangeSpec.witness6 (enc := enc) (C := Try.checked) false ⟨#[], #[.string ByteArray.empty], []⟩ 8 (by kernel_rfl) (by kernel_rfl) (by kernel_rfl) (by kernel_rfl)) ?_
  intro W base args ds gs before hval0 hW hcnd hsz0 _
  have hval : ∀ (j : Nat) t v, Try.f5.params[j]? = some t → args[j]? = some v → Value.okWide Try.prog W .any base t v := hval0
  have hW' := hW
  obtain ⟨p, q, hA0, hV, rfl, hfz, hnd⟩ := hW
  have hA : DataW.TrodAll enc Try.prog W 0 (fun _ => true) true Try.f5.params.toList args.toList ds p := hA0
  have hsz : (DataW.weightsEach Try.prog (Try.f5.params.toList ++ Rows.syntaxRoundSpec.plain.varTypes Try.prog) (ds ++ gs)).all (· ≤ reachBytes) = true := hsz0
  rw [Try.params5] at hA hval hsz
  obtain ⟨v0, vs0, d0, ds0, p0, q0, hargs, rfl, rfl, h0, r0⟩ := trodAll_cons hA
  obtain ⟨rfl, rfl, rfl⟩ := trodAll_nil r0
  obtain rfl : args = #[v0] := by cases args; simp_all
  obtain ⟨rfl, rfl⟩ := trodVars_none hV
  obtain ⟨a0, rfl, rfl, rfl, w0⟩ := open_string Try.underlying9 (hval 0 9 v0 rfl rfl) h0
  have z0 : a0.size ≤ 140737488351232 := by
    have := sized_string hsz (j := 0) (t := 9) (bytes := a0.data.toList) rfl rfl
    simpa [reachBytes] using this
  clear hA0 hval0
  simp only [List.append_nil] at hW'
  refine (walk a0 W z0).mono fun e W' ⟨he, bel⟩ => ?_
  subst he
  exact ⟨_, rfl, _, _, _, [], [], [], hW', trodAll_mk1 (shut_bool Try.underlying4 _), (trodAll_cons_mk (shut_string Try.underlying9 w0) trodAll_mk0), rfl, bel.frame _, fun h => by cases h⟩
theorem proved : Rows.SyntaxRoundSaid :=
  OpenClaim.holds_of_wide 5 Try.f5 rfl rfl rfl rfl rfl rfl rfl ⟨rfl, rfl, rfl, rfl, rfl⟩ rfl rfl rfl rfl rfl (by kernel_rfl) Try.func5 (by kernel_rfl)
    (of_decide_eq_true (by kernel_rfl)) (by unfold Func.isWrapper; first | (rw [if_pos (by decide +kernel)]; kernel_rfl) | (rw [if_neg (by decide +kernel)]; exact ⟨rfl, rfl⟩))
    (fun os started H enc _ => lifted os started H enc)
#print axioms proved
end Go.Proofs.Ytipkmffhebachaa.syntaxRound
