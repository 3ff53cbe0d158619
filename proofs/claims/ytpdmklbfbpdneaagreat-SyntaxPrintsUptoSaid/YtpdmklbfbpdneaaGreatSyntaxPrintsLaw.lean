/- The law SyntaxPrints holds for every input of bulk at most 1048576: the call returns true, and each argument reads as it read. Condition: the bulk. -/
import Derived.Test.YtpdmklbfbpdneaaGreatSynCnt
import Derived.ProofKit
import Derived.OpenShut
import Derived.ShutString
import Derived.ChangeOld
import Derived.JoinedCond
namespace Go.Proofs.YtpdmklbfbpdneaaGreat.syntaxPrints
open Go.ChangeShapes Go.WideShapes Go.ChangeAt Go.RowKit
open Go.ChangeMaps (open_string shut_string)
set_option linter.unusedVariables false
theorem own : ownKnob Tryz.prog.godebug = none := by kernel_rfl
theorem laidOut : laidOutB Tryz.prog = true := by kernel_rfl
theorem tree_value {v0 : Value} {tv : TV} (h : v0.cells.toList = tv.cells) : v0 = .agg #[.int .i64 tv.kind, .string tv.text, .slice tv.la tv.ll tv.lc, .slice tv.ka tv.kl tv.kc] := by
  cases v0 <;> simp [Value.cells, TV.cells] at h
  rename_i cs
  congr 1
  exact Array.toList_inj.1 h
set_option maxRecDepth 100000 in
set_option maxHeartbeats 4000000 in
theorem walk (S : Nat → Prop) (t : Tr) (v : TV) (w : World) (h : TrAt S w t v) (hc : cntT t ≤ 1048576) :
    Calls Tryz.prog 9 #[.agg #[.int .i64 v.kind, .string v.text, .slice v.la v.ll v.lc, .slice v.ka v.kl v.kc]] w fun e w' => e = .returned (.bool true) ∧ Below w.heap.size w w' := by
  have HB0 := Lib.hid ((Below.refl w.heap.size w).alloc (Nat.le_refl _) (trO v))
  have HX := Lib.hid (heap_alloc_new w (trO v))
  have HT := Lib.hid (h.keep HB0.out)
  have HZ2 := Lib.hid (show sizeT t ≤ 140737488355328 from by have := size_cnt t; omega)
  have HS := Lib.hid (small_cnt t hc)
  have HW := Lib.hid (words_cnt t hc)
  have HC := Lib.hid hc
  clear h hc
  go_enter Tryz.func9, Tryz.ntmps9
  go_wp2_with fail
  generalize hW0 : w.alloc (.cells #[.int .i64 v.kind, .string v.text, .slice v.la v.ll v.lc, .slice v.ka v.kl v.kc] 25) = w1 at ⊢
  have HB1 := Lib.hid (show Below w.heap.size w w1 from hW0 ▸ HB0.out)
  have HX1 := Lib.hid (show w1.heap[w.heap.size]? = some (trO v) from hW0 ▸ HX.out)
  have HT1 := Lib.hid (show TrAt S w1 t v from hW0 ▸ HT.out)
  clear HB0 HX HT hW0
  have k0 : w1.cell? ⟨w.heap.size, 0, none⟩ = some (.int .i64 v.kind) := cells_of HX1.out 0 _ rfl
  have k1 : w1.cell? ⟨w.heap.size, 1, none⟩ = some (.string v.text) := cells_of HX1.out 1 _ rfl
  have k2 : w1.cell? ⟨w.heap.size, 2, none⟩ = some (.slice v.la v.ll v.lc) := cells_of HX1.out 2 _ rfl
  have k3 : w1.cell? ⟨w.heap.size, 3, none⟩ = some (.slice v.ka v.kl v.kc) := cells_of HX1.out 3 _ rfl
  by_cases hz : 400 < sizeT t
  · have d1 : decide ((400 : Int) < (sizeT t : Int)) = true := decide_eq_true (by omega)
    have d2 : decide (400 < sizeT t) = true := decide_eq_true hz
    clear hz
    go_wp2_with (first
      | (go_at_call 30; refine (rsize2_any _ S t v _ (Nat.le_refl _) HT1.out HZ2.out).mono ?_; rintro e w2 ⟨rfl, hb⟩; have hc := hb; have HB2 := Lib.hid (HB1.out.trans (hc.mono HB1.out.size)); have HX2 := Lib.hid ((hc.block w.heap.size (lt_of_heap HX1.out)).trans HX1.out); have HT2 := Lib.hid (HT1.out.keep hc); clear hb hc k0 k1 k2 k3; have k0 : w2.cell? ⟨w.heap.size, 0, none⟩ = some (.int .i64 v.kind) := cells_of HX2.out 0 _ rfl; have k1 : w2.cell? ⟨w.heap.size, 1, none⟩ = some (.string v.text) := cells_of HX2.out 1 _ rfl; have k2 : w2.cell? ⟨w.heap.size, 2, none⟩ = some (.slice v.la v.ll v.lc) := cells_of HX2.out 2 _ rfl; have k3 : w2.cell? ⟨w.heap.size, 3, none⟩ = some (.slice v.ka v.kl v.kc) := cells_of HX2.out 3 _ rfl)
      | (go_at_call 31; refine (awake_syn _).mono ?_; rintro e w3 ⟨rfl, hb⟩; have hc := hb; have HB3 := Lib.hid (HB2.out.trans (hc.mono HB2.out.size)); have HX3 := Lib.hid ((hc.block w.heap.size (lt_of_heap HX2.out)).trans HX2.out); have HT3 := Lib.hid (HT2.out.keep hc); clear hb hc k0 k1 k2 k3; have k0 : w3.cell? ⟨w.heap.size, 0, none⟩ = some (.int .i64 v.kind) := cells_of HX3.out 0 _ rfl; have k1 : w3.cell? ⟨w.heap.size, 1, none⟩ = some (.string v.text) := cells_of HX3.out 1 _ rfl; have k2 : w3.cell? ⟨w.heap.size, 2, none⟩ = some (.slice v.la v.ll v.lc) := cells_of HX3.out 2 _ rfl; have k3 : w3.cell? ⟨w.heap.size, 3, none⟩ = some (.slice v.ka v.kl v.kc) := cells_of HX3.out 3 _ rfl))
    go_ret
    exact ⟨rfl, HB3.out⟩
  · have d1 : decide ((400 : Int) < (sizeT t : Int)) = false := decide_eq_false (by omega)
    have d2 : decide (400 < sizeT t) = false := decide_eq_false hz
    have HZ := Lib.hid (show sizeT t ≤ 1000 from by omega)
    have HBD := Lib.hid (show (pieces t).length ≤ 1000000 from Nat.le_trans (pieces_few HZ.out) (by decide))
    have HSZ := Lib.hid (pieces_bulk HZ.out HC.out)
    have HSP := Lib.hid (show sizeP (pieces t) < 140737488355328 from by have := HSZ.out; omega)
    have HSH := Lib.hid (shaped_same (SizeOf.sizeOf t) t (Nat.le_refl _) HZ.out)
    clear hz
    go_wp2_with (go_at_call 30; refine (rsize2_any _ S t v _ (Nat.le_refl _) HT1.out HZ2.out).mono ?_; rintro e w2 ⟨rfl, hb⟩; have hc := hb; have HB2 := Lib.hid (HB1.out.trans (hc.mono HB1.out.size)); have HX2 := Lib.hid ((hc.block w.heap.size (lt_of_heap HX1.out)).trans HX1.out); have HT2 := Lib.hid (HT1.out.keep hc); clear hb hc k0 k1 k2 k3; have k0 : w2.cell? ⟨w.heap.size, 0, none⟩ = some (.int .i64 v.kind) := cells_of HX2.out 0 _ rfl; have k1 : w2.cell? ⟨w.heap.size, 1, none⟩ = some (.string v.text) := cells_of HX2.out 1 _ rfl; have k2 : w2.cell? ⟨w.heap.size, 2, none⟩ = some (.slice v.la v.ll v.lc) := cells_of HX2.out 2 _ rfl; have k3 : w2.cell? ⟨w.heap.size, 3, none⟩ = some (.slice v.ka v.kl v.kc) := cells_of HX2.out 3 _ rfl)
    clear d1 d2
    go_wp2_with fail
    go_region_held3 (fun w' => w'.cell? ⟨w.heap.size, 0, none⟩ = some (.int .i64 v.kind) ∧ w'.cell? ⟨w.heap.size, 1, none⟩ = some (.string v.text) ∧ w'.cell? ⟨w.heap.size, 2, none⟩ = some (.slice v.la v.ll v.lc) ∧ w'.cell? ⟨w.heap.size, 3, none⟩ = some (.slice v.ka v.kl v.kc)) (first | with_reducible exact ⟨k0, k1, k2, k3⟩ | go_keep) (first
      | (go_at_call 31; refine (awake_syn _).mono ?_; rintro e w3 ⟨rfl, hb⟩; have hc := (((Below.refl w2.heap.size w2).drew).trans hb); have HB3 := Lib.hid (HB2.out.trans (hc.mono HB2.out.size)); have HX3 := Lib.hid ((hc.block w.heap.size (lt_of_heap HX2.out)).trans HX2.out); have HT3 := Lib.hid (HT2.out.keep hc); clear hb hc k0 k1 k2 k3; have k0 : w3.cell? ⟨w.heap.size, 0, none⟩ = some (.int .i64 v.kind) := cells_of HX3.out 0 _ rfl; have k1 : w3.cell? ⟨w.heap.size, 1, none⟩ = some (.string v.text) := cells_of HX3.out 1 _ rfl; have k2 : w3.cell? ⟨w.heap.size, 2, none⟩ = some (.slice v.la v.ll v.lc) := cells_of HX3.out 2 _ rfl; have k3 : w3.cell? ⟨w.heap.size, 3, none⟩ = some (.slice v.ka v.kl v.kc) := cells_of HX3.out 3 _ rfl)
      | (go_at_call 36; refine (print_syn S t v _ HT3.out HS.out HW.out HSP.out).mono ?_; rintro e w4 ⟨rfl, hb⟩; have hc := hb; have HB4 := Lib.hid (HB3.out.trans (hc.mono HB3.out.size)); have HX4 := Lib.hid ((hc.block w.heap.size (lt_of_heap HX3.out)).trans HX3.out); have HT4 := Lib.hid (HT3.out.keep hc); clear hb hc k0 k1 k2 k3; have k0 : w4.cell? ⟨w.heap.size, 0, none⟩ = some (.int .i64 v.kind) := cells_of HX4.out 0 _ rfl; have k1 : w4.cell? ⟨w.heap.size, 1, none⟩ = some (.string v.text) := cells_of HX4.out 1 _ rfl; have k2 : w4.cell? ⟨w.heap.size, 2, none⟩ = some (.slice v.la v.ll v.lc) := cells_of HX4.out 2 _ rfl; have k3 : w4.cell? ⟨w.heap.size, 3, none⟩ = some (.slice v.ka v.kl v.kc) := cells_of HX4.out 3 _ rfl)
      | (go_at_call 37; refine (rprint_any S t v _ HT4.out HZ.out HS.out HW.out HBD.out HSZ.out).mono ?_; rintro e w5 ⟨rfl, hb⟩; have hc := hb; have HB5 := Lib.hid (HB4.out.trans (hc.mono HB4.out.size)); have HX5 := Lib.hid ((hc.block w.heap.size (lt_of_heap HX4.out)).trans HX4.out); have HT5 := Lib.hid (HT4.out.keep hc); clear hb hc k0 k1 k2 k3; have k0 : w5.cell? ⟨w.heap.size, 0, none⟩ = some (.int .i64 v.kind) := cells_of HX5.out 0 _ rfl; have k1 : w5.cell? ⟨w.heap.size, 1, none⟩ = some (.string v.text) := cells_of HX5.out 1 _ rfl; have k2 : w5.cell? ⟨w.heap.size, 2, none⟩ = some (.slice v.la v.ll v.lc) := cells_of HX5.out 2 _ rfl; have k3 : w5.cell? ⟨w.heap.size, 3, none⟩ = some (.slice v.ka v.kl v.kc) := cells_of HX5.out 3 _ rfl)
      | fail)
    all_goals
      go_wp2
      go_ret
      exact ⟨ret_bool (by simp), HB5.out⟩
set_option maxRecDepth 100000 in
theorem contract (H : Type) (enc : TypeId × Value → H) (W : World) (base : Nat) (args : Array Value) (ds gs : List (DataW H)) (before : List MemPlace)
    (hval : ∀ (j : Nat) t v, Tryz.f9.params[j]? = some t → args[j]? = some v → Value.okWide Tryz.prog W .any base t v)
    (hW : DataW.Whole enc Tryz.prog Tryz.f9.params.toList Rows.syntaxPrintsSpec.vars false W args.toList ds gs before) (hk : Rows.uptoSmall H (ds ++ gs) = true) :
    Calls Tryz.prog 9 args W fun e W' => ∃ v, e = .returned v ∧ Rows.syntaxPrintsSpec.post enc Tryz.prog Tryz.f9 false true false false W args v W' := by
  have hW' := hW
  obtain ⟨p, q, hA0, hV, rfl, hfz, hnd⟩ := hW
  have hA : DataW.TrodAll enc Tryz.prog W 0 (fun _ => true) true Tryz.f9.params.toList args.toList ds p := hA0
  rw [Tryz.params9] at hA hval
  obtain ⟨v0, vs0, d0, ds0, p0, q0, hargs, rfl, rfl, h0, r0⟩ := trodAll_cons hA
  obtain ⟨rfl, rfl, rfl⟩ := trodAll_nil r0
  obtain rfl : args = #[v0] := by cases args; simp_all
  obtain ⟨rfl, rfl⟩ := trodVars_none hV
  have k0 := h0
  have lt0 : ∀ x ∈ p0, x.block < W.heap.size := by obtain ⟨m, hm⟩ := k0; exact DataW.trod_lt m _ _ _ hm
  obtain ⟨fuel, hf⟩ := h0
  obtain ⟨t, tv, hcs, htr, hbk⟩ := open_tree fuel hf
  have hv0 : v0 = .agg #[.int .i64 tv.kind, .string tv.text, .slice tv.la tv.ll tv.lc, .slice tv.ka tv.kl tv.kc] := tree_value hcs
  have hbulk : cntT t ≤ 1048576 := by
    have h : Rows.uptoBulkAll [d0] ≤ 1048576 := of_decide_eq_true hk
    simp only [Rows.uptoBulkAll] at h
    have : cntT t + 1 ≤ Rows.uptoBulk d0 := hbk
    omega
  subst hv0
  clear hA0
  refine (walk _ t tv W htr hbulk).mono fun e W' ⟨he, bel⟩ => ?_
  subst he
  exact ⟨_, rfl, _, _, _, [], _, [], hW', trodAll_mk1 (shut_bool Tryz.underlying4 _), (trodAll_cons_mk (Below.trod laidOut (by kernel_rfl) (of_decide_eq_true (by kernel_rfl)) k0 bel lt0) trodAll_mk0), rfl, bel.frame _, fun h => by cases h⟩
set_option maxRecDepth 100000 in
theorem lifted (os : Os) (started : os.Started) (H : Type) (enc : TypeId × Value → H) (F : Stop.Interp) :
    ReturnsInHanded {} Tryz.checked os 9 .any ((Rows.OpenSpec.upto Rows.syntaxPrintsSpec).pre6 enc Tryz.prog Tryz.f9 Rows.syntaxPrintsUptoRow.domain false) (((Rows.OpenSpec.upto Rows.syntaxPrintsSpec).at F).post enc Tryz.prog Tryz.f9 false true false false) := by
  refine returnsInHanded_of_cond (C := Tryz.checked) (s := Rows.OpenSpec.upto Rows.syntaxPrintsSpec) (k := Rows.uptoSmall) rfl own started (by kernel_rfl) Tryz.func9
    (OpenSpec.witness (enc := enc) (C := Tryz.checked) (s := Rows.OpenSpec.upto Rows.syntaxPrintsSpec) (k := Rows.uptoSmall) rfl false ⟨#[], #[.agg #[.int .i64 0, .string .empty, .slice none 0 0, .slice none 0 0]], []⟩ 8 (by kernel_rfl) (by kernel_rfl) (by kernel_rfl)
      (x := ([.agg [.lit (.int .i64 0), .lit (.string []), .nil, .nil]], [], [])) (by kernel_rfl) rfl (by kernel_rfl)) ?_
  intro W base args ds gs before hval hW _ hk _
  exact contract H enc W base args ds gs before hval hW hk
theorem proved : Rows.SyntaxPrintsUptoSaid :=
  OpenClaim.holds_of_cond 9 Tryz.f9 rfl rfl rfl rfl rfl rfl rfl ⟨rfl, rfl, rfl, rfl, rfl⟩ rfl rfl rfl rfl rfl (by kernel_rfl) Tryz.func9 (by kernel_rfl)
    (of_decide_eq_true (by kernel_rfl)) (by unfold Func.isWrapper; first | (rw [if_pos (by decide +kernel)]; kernel_rfl) | (rw [if_neg (by decide +kernel)]; exact ⟨rfl, rfl⟩))
    (fun os started H enc _ F => lifted os started H enc F)
#print axioms proved
end Go.Proofs.YtpdmklbfbpdneaaGreat.syntaxPrints
