/- The law TreeMeasures holds for every input of bulk at most 1048576: the call returns true, and each argument reads as it read. Condition: the bulk. -/
import Derived.Test.YtojekhbebcdccaaTreLight
import Derived.Test.YtojekhbebcdccaaTreRPaths
import Derived.Test.YtojekhbebcdccaaTreSPath
import Derived.ProofKit
import Derived.OpenShut
import Derived.ShutString
import Derived.ChangeOld
import Derived.JoinedCond
namespace Go.Proofs.Ytojekhbebcdccaa.treeMeasures
open Go.ChangeShapes Go.WideShapes Go.ChangeAt Go.RowKit
open Go.ChangeMaps (open_string shut_string)
set_option linter.unusedVariables false
theorem own : ownKnob Try.prog.godebug = none := by kernel_rfl
theorem laidOut : laidOutB Try.prog = true := by kernel_rfl
theorem tree_value {v0 : Value} {tv : TV} (h : v0.cells.toList = tv.cells) : v0 = .agg #[.int .i64 tv.kind, .string tv.text, .slice tv.la tv.ll tv.lc, .slice tv.ka tv.kl tv.kc] := by
  cases v0 <;> simp [Value.cells, TV.cells] at h
  rename_i cs
  congr 1
  exact Array.toList_inj.1 h
set_option maxRecDepth 100000 in
set_option maxHeartbeats 4000000 in
theorem walk_no (S : Nat → Prop) (t : Tr) (v : TV) (w : World) (h : TrAt S w t v) (hc : cntT t ≤ 1048576) (hd : (decide (sizeT t ≤ 300) && decide (0 ≤ 100)) = false) :
    Calls Try.prog 3 #[.agg #[.int .i64 v.kind, .string v.text, .slice v.la v.ll v.lc, .slice v.ka v.kl v.kc]] w fun e w' => e = .returned (.bool true) ∧ Below w.heap.size w w' := by
  have HB0 := Lib.hid ((Below.refl w.heap.size w).alloc (Nat.le_refl _) (trO v))
  have HT0 := Lib.hid (h.keep HB0.out)
  have HX0 := Lib.hid (heap_alloc_new w (trO v))
  have HS := Lib.hid (show sizeT t ≤ 140737488355328 from by have := size_cnt t; omega)
  have HF := Lib.hid (fit_cnt t hc)
  have HD := Lib.hid hd
  have k0 := cells_of HX0.out 0 _ rfl
  have k1 := cells_of HX0.out 1 _ rfl
  have k2 := cells_of HX0.out 2 _ rfl
  have k3 := cells_of HX0.out 3 _ rfl
  have kl := lt_of_heap HX0.out
  clear h hc hd
  go_enter Try.func3, Try.ntmps3
  go_wp2_with fail
  go_at_call 9
  refine (light_any S t v none 0 0 _ HT0.out HS.out).mono ?_
  rw [HD.out]
  rintro e w1 ⟨rfl, hb1⟩
  have HB1 := Lib.hid (HB0.out.trans (hb1.mono HB0.out.size))
  have HT1 := Lib.hid (HT0.out.keep hb1)
  have HX1 := Lib.hid ((hb1.block w.heap.size (lt_of_heap HX0.out)).trans HX0.out)
  clear hb1
  clear k0 k1 k2 k3 kl
  have k0 := cells_of HX1.out 0 _ rfl
  have k1 := cells_of HX1.out 1 _ rfl
  have k2 := cells_of HX1.out 2 _ rfl
  have k3 := cells_of HX1.out 3 _ rfl
  have kl := lt_of_heap HX1.out
  go_wp2_with fail
  go_at_call 10
  refine (awake_any _).mono ?_
  rintro e w9 ⟨rfl, hb9⟩
  have HB9 := Lib.hid (HB1.out.trans (hb9.mono HB1.out.size))
  clear hb9
  go_wp2_with fail
  go_ret
  exact ⟨rfl, HB9.out⟩
set_option maxRecDepth 100000 in
set_option maxHeartbeats 4000000 in
theorem walk_yes (S : Nat → Prop) (t : Tr) (v : TV) (w : World) (h : TrAt S w t v) (hc : cntT t ≤ 1048576) (hd : (decide (sizeT t ≤ 300) && decide (0 ≤ 100)) = true) :
    Calls Try.prog 3 #[.agg #[.int .i64 v.kind, .string v.text, .slice v.la v.ll v.lc, .slice v.ka v.kl v.kc]] w fun e w' => e = .returned (.bool true) ∧ Below w.heap.size w w' := by
  have HB0 := Lib.hid ((Below.refl w.heap.size w).alloc (Nat.le_refl _) (trO v))
  have HT0 := Lib.hid (h.keep HB0.out)
  have HX0 := Lib.hid (heap_alloc_new w (trO v))
  have HS := Lib.hid (show sizeT t ≤ 140737488355328 from by have := size_cnt t; omega)
  have HF := Lib.hid (fit_cnt t hc)
  have HD := Lib.hid hd
  have k0 := cells_of HX0.out 0 _ rfl
  have k1 := cells_of HX0.out 1 _ rfl
  have k2 := cells_of HX0.out 2 _ rfl
  have k3 := cells_of HX0.out 3 _ rfl
  have kl := lt_of_heap HX0.out
  clear h hc hd
  go_enter Try.func3, Try.ntmps3
  go_wp2_with fail
  go_at_call 9
  refine (light_any S t v none 0 0 _ HT0.out HS.out).mono ?_
  rw [HD.out]
  rintro e w1 ⟨rfl, hb1⟩
  have HB1 := Lib.hid (HB0.out.trans (hb1.mono HB0.out.size))
  have HT1 := Lib.hid (HT0.out.keep hb1)
  have HX1 := Lib.hid ((hb1.block w.heap.size (lt_of_heap HX0.out)).trans HX0.out)
  clear hb1
  clear k0 k1 k2 k3 kl
  have k0 := cells_of HX1.out 0 _ rfl
  have k1 := cells_of HX1.out 1 _ rfl
  have k2 := cells_of HX1.out 2 _ rfl
  have k3 := cells_of HX1.out 3 _ rfl
  have kl := lt_of_heap HX1.out
  go_wp2_with fail
  have hs3 : sizeT t ≤ 300 := by have := HD.out; simp at this; exact this
  have HSZ := Lib.hid hs3
  obtain ⟨ps, hpe⟩ : ∃ ps, pathsT t [] = ps := ⟨_, rfl⟩
  have HPE := Lib.hid hpe
  have hn3 : ps.length ≤ 300 := by rw [← hpe, pathsT_len]; exact hs3
  have HLNP := Lib.hid (show ∀ (j : Nat) (p : List Int), ps[j]? = some p → p.length ≤ maxLen from fun j p hp => by rw [← hpe, paths_nil] at hp; have h1 := rel_short (SizeOf.sizeOf t) t j p (Nat.le_refl _) hp; have h2 := HS.out; unfold maxLen; omega)
  have mixedL : Try.prog.follows Departure.mixedOrders = true := mixed
  clear hpe hs3 k0 k1 k2 k3 kl
  have k0 : w1.cell? ⟨w.heap.size, 0, none⟩ = some (.int .i64 v.kind) := cells_of HX1.out 0 _ rfl
  have k1 : w1.cell? ⟨w.heap.size, 1, none⟩ = some (.string v.text) := cells_of HX1.out 1 _ rfl
  have k2 : w1.cell? ⟨w.heap.size, 2, none⟩ = some (.slice v.la v.ll v.lc) := cells_of HX1.out 2 _ rfl
  have k3 : w1.cell? ⟨w.heap.size, 3, none⟩ = some (.slice v.ka v.kl v.kc) := cells_of HX1.out 3 _ rfl
  have kl := lt_of_heap HX1.out
  go_region_held3 (fun w' => w'.cell? ⟨w.heap.size, 0, none⟩ = some (.int .i64 v.kind) ∧ w'.cell? ⟨w.heap.size, 1, none⟩ = some (.string v.text) ∧ w'.cell? ⟨w.heap.size, 2, none⟩ = some (.slice v.la v.ll v.lc) ∧ w'.cell? ⟨w.heap.size, 3, none⟩ = some (.slice v.ka v.kl v.kc)) (first | with_reducible exact ⟨k0, k1, k2, k3⟩ | go_keep) (first | (go_at_call 15; refine (samepaths_any _ _ LA MA LC MC ps _ HPL8.out HPM.out (by omega) HLNP.out).mono ?_; rintro e w9 ⟨rfl, hb9⟩; have HB9 := Lib.hid (HB8.out.trans (hb9.mono HB8.out.size)); have HT9 := Lib.hid (HT8.out.keep hb9); have HX9 := Lib.hid ((hb9.block w.heap.size kl).trans HX8.out); clear hb9 k0 k1 k2 k3 kl; have k0 : w9.cell? ⟨w.heap.size, 0, none⟩ = some (.int .i64 v.kind) := cells_of HX9.out 0 _ rfl; have k1 : w9.cell? ⟨w.heap.size, 1, none⟩ = some (.string v.text) := cells_of HX9.out 1 _ rfl; have k2 : w9.cell? ⟨w.heap.size, 2, none⟩ = some (.slice v.la v.ll v.lc) := cells_of HX9.out 2 _ rfl; have k3 : w9.cell? ⟨w.heap.size, 3, none⟩ = some (.slice v.ka v.kl v.kc) := cells_of HX9.out 3 _ rfl; have kl := lt_of_heap HX9.out) | (go_at_call 17; refine (rpaths_any S t v _ HT7.out HF.out (by have := HSZ.out; omega)).mono ?_; rintro e w8 ⟨L8, rfl, hps8, hb8⟩; rw [HPE.out] at hps8; have HPL8 := Lib.hid (HPL.out.keep hb8); have hsh8 := hps8.shape; have HPM0 := Lib.hid hps8; clear hps8; obtain ⟨MA, MC, hsh⟩ := hsh8; subst hsh; have HPM := Lib.hid HPM0.out; have HB8 := Lib.hid (HB7.out.trans (hb8.mono HB7.out.size)); have HT8 := Lib.hid (HT7.out.keep hb8); have HX8 := Lib.hid ((hb8.block w.heap.size kl).trans HX7.out); clear hb8 k0 k1 k2 k3 kl; have k0 : w8.cell? ⟨w.heap.size, 0, none⟩ = some (.int .i64 v.kind) := cells_of HX8.out 0 _ rfl; have k1 : w8.cell? ⟨w.heap.size, 1, none⟩ = some (.string v.text) := cells_of HX8.out 1 _ rfl; have k2 : w8.cell? ⟨w.heap.size, 2, none⟩ = some (.slice v.la v.ll v.lc) := cells_of HX8.out 2 _ rfl; have k3 : w8.cell? ⟨w.heap.size, 3, none⟩ = some (.slice v.ka v.kl v.kc) := cells_of HX8.out 3 _ rfl; have kl := lt_of_heap HX8.out) | (go_at_call 16; refine (paths_any S t v _ HT6.out HF.out (by have := HSZ.out; omega)).mono ?_; rintro e w7 ⟨L7, rfl, hps7, hb7⟩; rw [HPE.out] at hps7; have hsh7 := hps7.shape; have HPL0 := Lib.hid hps7; clear hps7; obtain ⟨LA, LC, hsh⟩ := hsh7; subst hsh; have HPL := Lib.hid HPL0.out; have HB7 := Lib.hid (HB6.out.trans (hb7.mono HB6.out.size)); have HT7 := Lib.hid (HT6.out.keep hb7); have HX7 := Lib.hid ((hb7.block w.heap.size kl).trans HX6.out); clear hb7 k0 k1 k2 k3 kl; have k0 : w7.cell? ⟨w.heap.size, 0, none⟩ = some (.int .i64 v.kind) := cells_of HX7.out 0 _ rfl; have k1 : w7.cell? ⟨w.heap.size, 1, none⟩ = some (.string v.text) := cells_of HX7.out 1 _ rfl; have k2 : w7.cell? ⟨w.heap.size, 2, none⟩ = some (.slice v.la v.ll v.lc) := cells_of HX7.out 2 _ rfl; have k3 : w7.cell? ⟨w.heap.size, 3, none⟩ = some (.slice v.ka v.kl v.kc) := cells_of HX7.out 3 _ rfl; have kl := lt_of_heap HX7.out) | (go_at_call 14; refine (rdepth_any (SizeOf.sizeOf t) S t v _ (Nat.le_refl _) HT5.out HS.out).mono ?_; rintro e w6 ⟨rfl, hb6⟩; have HB6 := Lib.hid (HB5.out.trans (hb6.mono HB5.out.size)); have HT6 := Lib.hid (HT5.out.keep hb6); have HX6 := Lib.hid ((hb6.block w.heap.size kl).trans HX5.out); clear hb6 k0 k1 k2 k3 kl; have k0 : w6.cell? ⟨w.heap.size, 0, none⟩ = some (.int .i64 v.kind) := cells_of HX6.out 0 _ rfl; have k1 : w6.cell? ⟨w.heap.size, 1, none⟩ = some (.string v.text) := cells_of HX6.out 1 _ rfl; have k2 : w6.cell? ⟨w.heap.size, 2, none⟩ = some (.slice v.la v.ll v.lc) := cells_of HX6.out 2 _ rfl; have k3 : w6.cell? ⟨w.heap.size, 3, none⟩ = some (.slice v.ka v.kl v.kc) := cells_of HX6.out 3 _ rfl; have kl := lt_of_heap HX6.out) | (go_at_call 13; refine (depth_any (SizeOf.sizeOf t) S t v _ (Nat.le_refl _) HT4.out HS.out).mono ?_; rintro e w5 ⟨rfl, hb5⟩; have HB5 := Lib.hid (HB4.out.trans (hb5.mono HB4.out.size)); have HT5 := Lib.hid (HT4.out.keep hb5); have HX5 := Lib.hid ((hb5.block w.heap.size kl).trans HX4.out); clear hb5 k0 k1 k2 k3 kl; have k0 : w5.cell? ⟨w.heap.size, 0, none⟩ = some (.int .i64 v.kind) := cells_of HX5.out 0 _ rfl; have k1 : w5.cell? ⟨w.heap.size, 1, none⟩ = some (.string v.text) := cells_of HX5.out 1 _ rfl; have k2 : w5.cell? ⟨w.heap.size, 2, none⟩ = some (.slice v.la v.ll v.lc) := cells_of HX5.out 2 _ rfl; have k3 : w5.cell? ⟨w.heap.size, 3, none⟩ = some (.slice v.ka v.kl v.kc) := cells_of HX5.out 3 _ rfl; have kl := lt_of_heap HX5.out) | (go_at_call 12; refine (rsize_any (SizeOf.sizeOf t) S t v _ (Nat.le_refl _) HT3.out HS.out).mono ?_; rintro e w4 ⟨rfl, hb4⟩; have HB4 := Lib.hid (HB3.out.trans (hb4.mono HB3.out.size)); have HT4 := Lib.hid (HT3.out.keep hb4); have HX4 := Lib.hid ((hb4.block w.heap.size kl).trans HX3.out); clear hb4 k0 k1 k2 k3 kl; have k0 : w4.cell? ⟨w.heap.size, 0, none⟩ = some (.int .i64 v.kind) := cells_of HX4.out 0 _ rfl; have k1 : w4.cell? ⟨w.heap.size, 1, none⟩ = some (.string v.text) := cells_of HX4.out 1 _ rfl; have k2 : w4.cell? ⟨w.heap.size, 2, none⟩ = some (.slice v.la v.ll v.lc) := cells_of HX4.out 2 _ rfl; have k3 : w4.cell? ⟨w.heap.size, 3, none⟩ = some (.slice v.ka v.kl v.kc) := cells_of HX4.out 3 _ rfl; have kl := lt_of_heap HX4.out) | (go_at_call 11; refine (size_any (SizeOf.sizeOf t) S t v _ (Nat.le_refl _) HT2.out HS.out).mono ?_; rintro e w3 ⟨rfl, hb3⟩; have HB3 := Lib.hid (HB2.out.trans (hb3.mono HB2.out.size)); have HT3 := Lib.hid (HT2.out.keep hb3); have HX3 := Lib.hid ((hb3.block w.heap.size kl).trans HX2.out); clear hb3 k0 k1 k2 k3 kl; have k0 : w3.cell? ⟨w.heap.size, 0, none⟩ = some (.int .i64 v.kind) := cells_of HX3.out 0 _ rfl; have k1 : w3.cell? ⟨w.heap.size, 1, none⟩ = some (.string v.text) := cells_of HX3.out 1 _ rfl; have k2 : w3.cell? ⟨w.heap.size, 2, none⟩ = some (.slice v.la v.ll v.lc) := cells_of HX3.out 2 _ rfl; have k3 : w3.cell? ⟨w.heap.size, 3, none⟩ = some (.slice v.ka v.kl v.kc) := cells_of HX3.out 3 _ rfl; have kl := lt_of_heap HX3.out) | (go_at_call 10; refine (awake_any _).mono ?_; rintro e w2 ⟨rfl, hb⟩; have hb2 : Below w1.heap.size w1 w2 := (show Below w1.heap.size w1 _ from (Below.refl _ _).drew).trans hb; clear hb; have HB2 := Lib.hid (HB1.out.trans (hb2.mono HB1.out.size)); have HT2 := Lib.hid (HT1.out.keep hb2); have HX2 := Lib.hid ((hb2.block w.heap.size kl).trans HX1.out); clear hb2 k0 k1 k2 k3 kl; have k0 : w2.cell? ⟨w.heap.size, 0, none⟩ = some (.int .i64 v.kind) := cells_of HX2.out 0 _ rfl; have k1 : w2.cell? ⟨w.heap.size, 1, none⟩ = some (.string v.text) := cells_of HX2.out 1 _ rfl; have k2 : w2.cell? ⟨w.heap.size, 2, none⟩ = some (.slice v.la v.ll v.lc) := cells_of HX2.out 2 _ rfl; have k3 : w2.cell? ⟨w.heap.size, 3, none⟩ = some (.slice v.ka v.kl v.kc) := cells_of HX2.out 3 _ rfl; have kl := lt_of_heap HX2.out))
  all_goals
    go_simp
    go_wp2
    go_ret
    exact ⟨ret_bool (by simp), HB9.out⟩
theorem walk (S : Nat → Prop) (t : Tr) (v : TV) (w : World) (h : TrAt S w t v) (hc : cntT t ≤ 1048576) :
    Calls Try.prog 3 #[.agg #[.int .i64 v.kind, .string v.text, .slice v.la v.ll v.lc, .slice v.ka v.kl v.kc]] w fun e w' => e = .returned (.bool true) ∧ Below w.heap.size w w' := by
  cases hd : (decide (sizeT t ≤ 300) && decide (0 ≤ 100))
  · exact walk_no S t v w h hc hd
  · exact walk_yes S t v w h hc hd
set_option maxRecDepth 100000 in
theorem contract (H : Type) (enc : TypeId × Value → H) (W : World) (base : Nat) (args : Array Value) (ds gs : List (DataW H)) (before : List MemPlace)
    (hval : ∀ (j : Nat) t v, Try.f3.params[j]? = some t → args[j]? = some v → Value.okWide Try.prog W .any base t v)
    (hW : DataW.Whole enc Try.prog Try.f3.params.toList Rows.treeMeasuresSpec.vars false W args.toList ds gs before) (hk : Rows.uptoSmall H (ds ++ gs) = true) :
    Calls Try.prog 3 args W fun e W' => ∃ v, e = .returned v ∧ Rows.treeMeasuresSpec.post enc Try.prog Try.f3 false true false false W args v W' := by
  have hW' := hW
  obtain ⟨p, q, hA0, hV, rfl, hfz, hnd⟩ := hW
  have hA : DataW.TrodAll enc Try.prog W 0 (fun _ => true) true Try.f3.params.toList args.toList ds p := hA0
  rw [Try.params3] at hA hval
  obtain ⟨v0, vs0, d0, ds0, p0, q0, hargs, rfl, rfl, h0, r0⟩ := trodAll_cons hA
  obtain ⟨rfl, rfl, rfl⟩ := trodAll_nil r0
  obtain rfl : args = #[v0] := by cases args; simp_all
  obtain ⟨rfl, rfl⟩ := trodVars_none hV
  have k0 := h0
  have lt0 : ∀ x ∈ p0, x.block < W.heap.size := by obtain ⟨m, hm⟩ := k0; exact DataW.trod_lt m _ _ _ hm
  obtain ⟨fuel, hf⟩ := h0
  obtain ⟨t, tv, hcs, htr, hbk⟩ := open_tree fuel hf
  have hv0 : v0 = .agg #[.int .i64 tv.kind, .string tv.text, .slice tv.la tv.ll tv.lc, .slice tv.ka tv.kl tv.kc] := tree_value hcs
  have hbulk : cntT t ≤ 1048576 := by
    have h : Rows.uptoBulkAll [d0] ≤ 1048576 := of_decide_eq_true hk
    simp only [Rows.uptoBulkAll] at h
    have : cntT t + 1 ≤ Rows.uptoBulk d0 := hbk
    omega
  subst hv0
  clear hA0
  refine (walk _ t tv W htr hbulk).mono fun e W' ⟨he, bel⟩ => ?_
  subst he
  exact ⟨_, rfl, _, _, _, [], _, [], hW', trodAll_mk1 (shut_bool Try.underlying4 _), (trodAll_cons_mk (Below.trod laidOut (by kernel_rfl) (of_decide_eq_true (by kernel_rfl)) k0 bel lt0) trodAll_mk0), rfl, bel.frame _, fun h => by cases h⟩
set_option maxRecDepth 100000 in
theorem lifted (os : Os) (started : os.Started) (H : Type) (enc : TypeId × Value → H) (F : Stop.Interp) :
    ReturnsInHanded {} Try.checked os 3 .any ((Rows.OpenSpec.upto Rows.treeMeasuresSpec).pre6 enc Try.prog Try.f3 Rows.treeMeasuresUptoRow.domain false) (((Rows.OpenSpec.upto Rows.treeMeasuresSpec).at F).post enc Try.prog Try.f3 false true false false) := by
  refine returnsInHanded_of_cond (C := Try.checked) (s := Rows.OpenSpec.upto Rows.treeMeasuresSpec) (k := Rows.uptoSmall) rfl own started (by kernel_rfl) Try.func3
    (OpenSpec.witness (enc := enc) (C := Try.checked) (s := Rows.OpenSpec.upto Rows.treeMeasuresSpec) (k := Rows.uptoSmall) rfl false ⟨#[], #[.agg #[.int .i64 0, .string .empty, .slice none 0 0, .slice none 0 0]], []⟩ 8 (by kernel_rfl) (by kernel_rfl) (by kernel_rfl)
      (x := ([.agg [.lit (.int .i64 0), .lit (.string []), .nil, .nil]], [], [])) (by kernel_rfl) rfl (by kernel_rfl)) ?_
  intro W base args ds gs before hval hW _ hk _
  exact contract H enc W base args ds gs before hval hW hk
theorem proved : Rows.TreeMeasuresUptoSaid :=
  OpenClaim.holds_of_cond 3 Try.f3 rfl rfl rfl rfl rfl rfl rfl ⟨rfl, rfl, rfl, rfl, rfl⟩ rfl rfl rfl rfl rfl (by kernel_rfl) Try.func3 (by kernel_rfl)
    (of_decide_eq_true (by kernel_rfl)) (by unfold Func.isWrapper; first | (rw [if_pos (by decide +kernel)]; kernel_rfl) | (rw [if_neg (by decide +kernel)]; exact ⟨rfl, rfl⟩))
    (fun os started H enc _ F => lifted os started H enc F)
#print axioms proved
end Go.Proofs.Ytojekhbebcdccaa.treeMeasures
