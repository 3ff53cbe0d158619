/- The law PositionShort holds for every input: the call returns true, and each argument reads as it read. No condition. -/
import Derived.Test.YtedlfjolmhkpdaaPosOpen
import Derived.ProofKit
import Derived.OpenShut
import Derived.ShutString
import Derived.ChangeOld
import Derived.SizedLaws
namespace Go.Proofs.Ytedlfjolmhkpdaa.positionShort
open Go.ChangeShapes Go.WideShapes Go.ChangeAt Go.RowKit
open Go.ChangeMaps (open_string shut_string)
set_option linter.unusedVariables false
theorem own : ownKnob Try.prog.godebug = none := by kernel_rfl
theorem laidOut : laidOutB Try.prog = true := by kernel_rfl
attribute [local go_sem 2000] str_gtr str_leq
def Btw (x y : ByteArray) (k : ByteArray) (en : Int) : Prop := ∀ W, Calls Try.prog 12 #[.string x, .string y] W fun e w' => e = .returned (.tuple #[.string k, .int .i64 en]) ∧ Below W.heap.size W w'
theorem btw_of (x y : ByteArray) (hx : x.size ≤ maxLen) (hy : y.size ≤ maxLen) {k : Key} {en : Int} (h : betweenP x.data.toList y.data.toList = (k, en)) : Btw x y (strL k) en := fun W => by
  have hb := between_any x.data.toList y.data.toList W (by rw [data_len]; exact hx) (by rw [data_len]; exact hy)
  unfold BtwPost at hb
  rw [strL_back, strL_back, h] at hb
  exact hb
set_option maxRecDepth 100000 in
set_option maxHeartbeats 2000000 in
theorem walk_yes (a0 a1 a2 K : ByteArray) (en : Int) (w : World) (hB : Btw a0 a1 K en) (hen : en = 5 ∨ en = 0 ∧ K.size ≤ a2.size) (hK : K.size ≤ 60) (z2 : a2.size ≤ 140737488351232)
    (hv : ∀ W, Calls Try.prog 14 #[.string a2] W fun e w' => e = .returned (.bool true) ∧ W = w') (hl : a0.toList = [] ∨ ¬ a0.toList = [] ∧ Op.bytesLess a0.toList a2.toList = true) (hh : a1.toList = [] ∨ ¬ a1.toList = [] ∧ Op.bytesLess a2.toList a1.toList = true) :
    Calls Try.prog 8 #[.string a0, .string a1, .string a2] w fun e w' => e = .returned (.bool true) ∧ Below w.heap.size w w' := by
  have HB := Lib.hid hB
  have HV := Lib.hid hv
  have ie : ∀ s : ByteArray, s.toList = [] → s.toList.isEmpty = true := fun s h => by rw [h]; rfl
  have ine : ∀ s : ByteArray, ¬ s.toList = [] → s.toList.isEmpty = false := fun s h => by cases hs : s.toList with | nil => exact absurd hs h | cons => rfl
  have hen' : (en == 5) = true ∨ ((en == 5) = false ∧ (en == 0) = true ∧ K.size ≤ a2.size) := by
    rcases hen with rfl | ⟨rfl, h⟩
    · exact .inl rfl
    · exact .inr ⟨rfl, rfl, h⟩
  clear hB hv hen
  rcases hl with hl | ⟨hl, hl2⟩ <;> rcases hh with hh | ⟨hh, hh2⟩ <;> rcases hen' with he | ⟨he, he2, hks⟩
  all_goals
    first | have hl3 := ie a0 hl | have hl3 := ine a0 hl
    first | have hh3 := ie a1 hh | have hh3 := ine a1 hh
    clear ie ine
    go_enter Try.func8, Try.ntmps8
    go_wp2_with fail
    refine (HB.out _).mono ?_
    rintro e w1 ⟨rfl, hb1⟩
    have HB1 := Lib.hid hb1
    clear hb1
    go_wp2_with (first | (go_at_call 14; (with_reducible refine (HV.out _).mono ?_); rintro e w' ⟨rfl, rfl⟩) | (go_at_call 11; refine (awake_any _).mono ?_; rintro e w3 ⟨rfl, hb3⟩; have HB3 := Lib.hid (HB1.out.trans (hb3.mono HB1.out.size)); clear hb3))
    go_ret
    exact ⟨ret_bool (by simp), HB3.out⟩
set_option maxRecDepth 100000 in
set_option maxHeartbeats 2000000 in
theorem walk_no (a0 a1 a2 K : ByteArray) (en : Int) (w : World) (v : Bool) (hB : Btw a0 a1 K en)
    (hv : ∀ W, Calls Try.prog 14 #[.string a2] W fun e w' => e = .returned (.bool v) ∧ W = w')
    (hc : v = false ∨ v = true ∧ ¬ a0.toList = [] ∧ Op.bytesLess a0.toList a2.toList = false ∨ v = true ∧ (a0.toList = [] ∨ ¬ a0.toList = [] ∧ Op.bytesLess a0.toList a2.toList = true) ∧ ¬ a1.toList = [] ∧ Op.bytesLess a2.toList a1.toList = false) :
    Calls Try.prog 8 #[.string a0, .string a1, .string a2] w fun e w' => e = .returned (.bool true) ∧ Below w.heap.size w w' := by
  have HB := Lib.hid hB
  have ie : ∀ s : ByteArray, s.toList = [] → s.toList.isEmpty = true := fun s h => by rw [h]; rfl
  have ine : ∀ s : ByteArray, ¬ s.toList = [] → s.toList.isEmpty = false := fun s h => by cases hs : s.toList with | nil => exact absurd hs h | cons => rfl
  clear hB
  rcases hc with rfl | ⟨rfl, h1, h2⟩ | ⟨rfl, h1 | ⟨h1, h2⟩, h3, h4⟩
  all_goals
    have HV := Lib.hid hv
    try first | have i1 := ie a0 h1 | have i1 := ine a0 h1
    try have i3 := ine a1 h3
    clear hv ie ine
    go_enter Try.func8, Try.ntmps8
    go_wp2_with fail
    refine (HB.out _).mono ?_
    rintro e w1 ⟨rfl, hb1⟩
    have HB1 := Lib.hid hb1
    clear hb1
    go_wp2_with (first | (go_at_call 14; (with_reducible refine (HV.out _).mono ?_); rintro e w' ⟨rfl, rfl⟩) | (go_at_call 11; refine (awake_any _).mono ?_; rintro e w3 ⟨rfl, hb3⟩; have HB3 := Lib.hid (HB1.out.trans (hb3.mono HB1.out.size)); clear hb3))
    go_ret
    exact ⟨rfl, HB3.out⟩
theorem walk (a0 : ByteArray) (a1 : ByteArray) (a2 : ByteArray) (w : World) (z0 : a0.size ≤ 140737488351232) (z1 : a1.size ≤ 140737488351232) (z2 : a2.size ≤ 140737488351232) :
    Calls Try.prog 8 #[.string a0, .string a1, .string a2] w fun e w' => e = .returned (.bool true) ∧ Below w.heap.size w w' := by
  have m0 : a0.size ≤ maxLen := by unfold maxLen; omega
  have m1 : a1.size ≤ maxLen := by unfold maxLen; omega
  have m2 : a2.size ≤ maxLen := by unfold maxLen; omega
  have hv := fun W => valid_any a2 W m2
  have hB := btw_of a0 a1 m0 m1 (k := (betweenP a0.data.toList a1.data.toList).1) (en := (betweenP a0.data.toList a1.data.toList).2) rfl
  have hlk : Op.bytesLess a0.toList a2.toList = bl a0.data.toList a2.data.toList := by rw [ByteArray.toList_eq, ByteArray.toList_eq]; rfl
  have hkh : Op.bytesLess a2.toList a1.toList = bl a2.data.toList a1.data.toList := by rw [ByteArray.toList_eq, ByteArray.toList_eq]; rfl
  have t0 : a0.toList = a0.data.toList := ByteArray.toList_eq _
  have t1 : a1.toList = a1.data.toList := ByteArray.toList_eq _
  cases hvk : vldB a2.data.toList
  · rw [hvk] at hv
    exact walk_no a0 a1 a2 _ _ w false hB hv (.inl rfl)
  · rw [hvk] at hv
    by_cases c1 : ¬ a0.toList = [] ∧ Op.bytesLess a0.toList a2.toList = false
    · exact walk_no a0 a1 a2 _ _ w true hB hv (.inr (.inl ⟨rfl, c1⟩))
    · have d1 : a0.toList = [] ∨ ¬ a0.toList = [] ∧ Op.bytesLess a0.toList a2.toList = true := by
        by_cases h : a0.toList = []
        · exact .inl h
        · refine .inr ⟨h, ?_⟩
          rw [← Bool.not_eq_false]
          exact fun h2 => c1 ⟨h, h2⟩
      by_cases c2 : ¬ a1.toList = [] ∧ Op.bytesLess a2.toList a1.toList = false
      · exact walk_no a0 a1 a2 _ _ w true hB hv (.inr (.inr ⟨rfl, d1, c2⟩))
      · have d2 : a1.toList = [] ∨ ¬ a1.toList = [] ∧ Op.bytesLess a2.toList a1.toList = true := by
          by_cases h : a1.toList = []
          · exact .inl h
          · refine .inr ⟨h, ?_⟩
            rw [← Bool.not_eq_false]
            exact fun h2 => c2 ⟨h, h2⟩
        refine walk_yes a0 a1 a2 _ _ w hB ?_ (by rw [strL_size]; exact between_len _ _) z2 hv d1 d2
        by_cases hb : (bndB a0.data.toList && bndB a1.data.toList) = false
        · exact .inl (by rw [btw_arg hb])
        · rw [Bool.not_eq_false, Bool.and_eq_true] at hb
          have hlo : bl a0.data.toList a2.data.toList = true := by
            rcases d1 with h | h
            · rw [← t0, h]; exact vld_ne hvk
            · rw [← hlk]; exact h.2
          have hu : undB a2.data.toList a1.data.toList = true := by
            rw [und_iff]
            rcases d2 with h | h
            · left; rw [← t1]; exact h
            · right; rw [← hkh]; exact h.2
          obtain ⟨a, ha, hal⟩ := between_found hb.1 hb.2 hvk hlo hu
          right
          rw [ha]
          refine ⟨rfl, ?_⟩
          rw [strL_size, ← data_len a2]
          exact hal
set_option maxRecDepth 100000 in
theorem lifted (os : Os) (started : os.Started) (H : Type) (enc : TypeId × Value → H) :
    ReturnsInHanded {} Try.checked os 8 .any (Rows.positionShortSpec.pre6 enc Try.prog Try.f8 Rows.positionShortRow.domain false) (Rows.positionShortSpec.post enc Try.prog Try.f8 false true false false) := by
  refine returnsInHanded_of_change_sized (C := Try.checked) own started (by kernel_rfl) Try.func8
    (ChangeSpec.witness6 (enc := enc) (C := Try.checked) false ⟨#[], #[.string ByteArray.empty, .string ByteArray.empty, .string ByteArray.empty], []⟩ 8 (by kernel_rfl) (by kernel_rfl) (by kernel_rfl) (by kernel_rfl)) ?_
  intro W base args ds gs before hval0 hW hcnd hsz0 _
  have hval : ∀ (j : Nat) t v, Try.f8.params[j]? = some t → args[j]? = some v → Value.okWide Try.prog W .any base t v := hval0
  have hW' := hW
  obtain ⟨p, q, hA0, hV, rfl, hfz, hnd⟩ := hW
  have hA : DataW.TrodAll enc Try.prog W 0 (fun _ => true) true Try.f8.params.toList args.toList ds p := hA0
  have hsz : (DataW.weightsEach Try.prog (Try.f8.params.toList ++ Rows.positionShortSpec.plain.varTypes Try.prog) (ds ++ gs)).all (· ≤ reachBytes) = true := hsz0
  rw [Try.params8] at hA hval hsz
  obtain ⟨v0, vs0, d0, ds0, p0, q0, hargs, rfl, rfl, h0, r0⟩ := trodAll_cons hA
  obtain ⟨v1, vs1, d1, ds1, p1, q1, rfl, rfl, rfl, h1, r1⟩ := trodAll_cons r0
  obtain ⟨v2, vs2, d2, ds2, p2, q2, rfl, rfl, rfl, h2, r2⟩ := trodAll_cons r1
  obtain ⟨rfl, rfl, rfl⟩ := trodAll_nil r2
  obtain rfl : args = #[v0, v1, v2] := by cases args; simp_all
  obtain ⟨rfl, rfl⟩ := trodVars_none hV
  obtain ⟨a0, rfl, rfl, rfl, w0⟩ := open_string Try.underlying9 (hval 0 9 v0 rfl rfl) h0
  obtain ⟨a1, rfl, rfl, rfl, w1⟩ := open_string Try.underlying9 (hval 1 9 v1 rfl rfl) h1
  obtain ⟨a2, rfl, rfl, rfl, w2⟩ := open_string Try.underlying9 (hval 2 9 v2 rfl rfl) h2
  have z0 : a0.size ≤ 140737488351232 := by
    have := sized_string hsz (j := 0) (t := 9) (bytes := a0.data.toList) rfl rfl
    simpa [reachBytes] using this
  have z1 : a1.size ≤ 140737488351232 := by
    have := sized_string hsz (j := 1) (t := 9) (bytes := a1.data.toList) rfl rfl
    simpa [reachBytes] using this
  have z2 : a2.size ≤ 140737488351232 := by
    have := sized_string hsz (j := 2) (t := 9) (bytes := a2.data.toList) rfl rfl
    simpa [reachBytes] using this
  clear hA0 hval0
  simp only [List.append_nil] at hW'
  refine (walk a0 a1 a2 W z0 z1 z2).mono fun e W' ⟨he, bel⟩ => ?_
  subst he
  exact ⟨_, rfl, _, _, _, [], [], [], hW', trodAll_mk1 (shut_bool Try.underlying4 _), (trodAll_cons_mk (shut_string Try.underlying9 w0) (trodAll_cons_mk (shut_string Try.underlying9 w1) (trodAll_cons_mk (shut_string Try.underlying9 w2) trodAll_mk0))), rfl, bel.frame _, fun h => by cases h⟩
theorem proved : Rows.PositionShortSaid :=
  OpenClaim.holds_of_wide 8 Try.f8 rfl rfl rfl rfl rfl rfl rfl ⟨rfl, rfl, rfl, rfl, rfl⟩ rfl rfl rfl rfl rfl (by kernel_rfl) Try.func8 (by kernel_rfl)
    (of_decide_eq_true (by kernel_rfl)) (by unfold Func.isWrapper; first | (rw [if_pos (by decide +kernel)]; kernel_rfl) | (rw [if_neg (by decide +kernel)]; exact ⟨rfl, rfl⟩))
    (fun os started H enc _ => lifted os started H enc)
#print axioms proved
end Go.Proofs.Ytedlfjolmhkpdaa.positionShort
