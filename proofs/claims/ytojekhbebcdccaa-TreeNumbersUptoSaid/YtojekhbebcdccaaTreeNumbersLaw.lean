/- The law TreeNumbers holds for every input of bulk at most 1048576: the call returns true, and each argument reads as it read. Condition: the bulk. -/
import Derived.Test.YtojekhbebcdccaaTreLight
import Derived.Test.YtojekhbebcdccaaTreNums
import Derived.ProofKit
import Derived.OpenShut
import Derived.ShutString
import Derived.ChangeOld
import Derived.JoinedCond
namespace Go.Proofs.Ytojekhbebcdccaa.treeNumbers
open Go.ChangeShapes Go.WideShapes Go.ChangeAt Go.RowKit
open Go.ChangeMaps (open_string shut_string)
set_option linter.unusedVariables false
theorem own : ownKnob Try.prog.godebug = none := by kernel_rfl
theorem laidOut : laidOutB Try.prog = true := by kernel_rfl
theorem tree_value {v0 : Value} {tv : TV} (h : v0.cells.toList = tv.cells) : v0 = .agg #[.int .i64 tv.kind, .string tv.text, .slice tv.la tv.ll tv.lc, .slice tv.ka tv.kl tv.kc] := by
  cases v0 <;> simp [Value.cells, TV.cells] at h
  rename_i cs
  congr 1
  exact Array.toList_inj.1 h
set_option maxRecDepth 100000 in
set_option maxHeartbeats 4000000 in
theorem walk_no (S : Nat → Prop) (t : Tr) (v : TV) (w : World) (h : TrAt S w t v) (hc : cntT t ≤ 1048576) (hd : (decide (sizeT t ≤ 300) && decide (0 ≤ 100)) = false) :
    Calls Try.prog 8 #[.agg #[.int .i64 v.kind, .string v.text, .slice v.la v.ll v.lc, .slice v.ka v.kl v.kc]] w fun e w' => e = .returned (.bool true) ∧ Below w.heap.size w w' := by
  have HB0 := Lib.hid ((Below.refl w.heap.size w).alloc (Nat.le_refl _) (trO v))
  have HT0 := Lib.hid (h.keep HB0.out)
  have HX0 := Lib.hid (heap_alloc_new w (trO v))
  have HS := Lib.hid (show sizeT t ≤ 140737488355328 from by have := size_cnt t; omega)
  have HF := Lib.hid (fit_cnt t hc)
  have HD := Lib.hid hd
  have k0 := cells_of HX0.out 0 _ rfl
  have k1 := cells_of HX0.out 1 _ rfl
  have k2 := cells_of HX0.out 2 _ rfl
  have k3 := cells_of HX0.out 3 _ rfl
  have kl := lt_of_heap HX0.out
  clear h hc hd
  go_enter Try.func8, Try.ntmps8
  go_wp2_with fail
  go_at_call 9
  refine (light_any S t v none 0 0 _ HT0.out HS.out).mono ?_
  rw [HD.out]
  rintro e w1 ⟨rfl, hb1⟩
  have HB1 := Lib.hid (HB0.out.trans (hb1.mono HB0.out.size))
  have HT1 := Lib.hid (HT0.out.keep hb1)
  have HX1 := Lib.hid ((hb1.block w.heap.size (lt_of_heap HX0.out)).trans HX0.out)
  clear hb1
  clear k0 k1 k2 k3 kl
  have k0 := cells_of HX1.out 0 _ rfl
  have k1 := cells_of HX1.out 1 _ rfl
  have k2 := cells_of HX1.out 2 _ rfl
  have k3 := cells_of HX1.out 3 _ rfl
  have kl := lt_of_heap HX1.out
  go_wp2_with fail
  go_at_call 10
  refine (awake_any _).mono ?_
  rintro e w9 ⟨rfl, hb9⟩
  have HB9 := Lib.hid (HB1.out.trans (hb9.mono HB1.out.size))
  clear hb9
  go_wp2_with fail
  go_ret
  exact ⟨rfl, HB9.out⟩
def NumsAt (ps : List (List Int)) (w w2 : World) (i : Value) (wr : World) : Prop := ∃ j : Nat, i = .int .i64 j ∧ j ≤ ps.length ∧ Below w.heap.size w wr ∧ Below w2.heap.size w2 wr
set_option maxRecDepth 100000 in
set_option maxHeartbeats 4000000 in
theorem walk_yes (S : Nat → Prop) (t : Tr) (v : TV) (w : World) (h : TrAt S w t v) (hc : cntT t ≤ 1048576) (hd : (decide (sizeT t ≤ 300) && decide (0 ≤ 100)) = true) :
    Calls Try.prog 8 #[.agg #[.int .i64 v.kind, .string v.text, .slice v.la v.ll v.lc, .slice v.ka v.kl v.kc]] w fun e w' => e = .returned (.bool true) ∧ Below w.heap.size w w' := by
  have HB0 := Lib.hid ((Below.refl w.heap.size w).alloc (Nat.le_refl _) (trO v))
  have HT0 := Lib.hid (h.keep HB0.out)
  have HX0 := Lib.hid (heap_alloc_new w (trO v))
  have HS := Lib.hid (show sizeT t ≤ 140737488355328 from by have := size_cnt t; omega)
  have HF := Lib.hid (fit_cnt t hc)
  have HD := Lib.hid hd
  have k0 := cells_of HX0.out 0 _ rfl
  have k1 := cells_of HX0.out 1 _ rfl
  have k2 := cells_of HX0.out 2 _ rfl
  have k3 := cells_of HX0.out 3 _ rfl
  have kl := lt_of_heap HX0.out
  clear h hc hd
  go_enter Try.func8, Try.ntmps8
  go_wp2_with fail
  go_at_call 9
  refine (light_any S t v none 0 0 _ HT0.out HS.out).mono ?_
  rw [HD.out]
  rintro e w1 ⟨rfl, hb1⟩
  have HB1 := Lib.hid (HB0.out.trans (hb1.mono HB0.out.size))
  have HT1 := Lib.hid (HT0.out.keep hb1)
  have HX1 := Lib.hid ((hb1.block w.heap.size (lt_of_heap HX0.out)).trans HX0.out)
  clear hb1
  clear k0 k1 k2 k3 kl
  have k0 := cells_of HX1.out 0 _ rfl
  have k1 := cells_of HX1.out 1 _ rfl
  have k2 := cells_of HX1.out 2 _ rfl
  have k3 := cells_of HX1.out 3 _ rfl
  have kl := lt_of_heap HX1.out
  go_wp2_with fail
  go_at_call 16
  refine (paths_any S t v _ HT1.out HF.out (by have := HD.out; simp at this; omega)).mono ?_
  rintro e w2 ⟨L, rfl, hps, hb2⟩
  have HB2 := Lib.hid (HB1.out.trans (hb2.mono HB1.out.size))
  have HT2 := Lib.hid (HT1.out.keep hb2)
  have HX2 := Lib.hid ((hb2.block w.heap.size (lt_of_heap HX1.out)).trans HX1.out)
  obtain ⟨ps, hpe⟩ : ∃ ps, pathsT t [] = ps := ⟨_, rfl⟩
  have HNUM := Lib.hid (show ∀ (j : Nat) (p : List Int), ps[j]? = some p → numG 0 t p = (j : Int) from fun j p hp => by rw [← hpe, paths_nil] at hp; rw [num_rel (SizeOf.sizeOf t) t 0 j p (Nat.le_refl _) hp, Nat.zero_add])
  have HLEN := Lib.hid (show ps.length = sizeT t from by rw [← hpe, pathsT_len])
  have HLNP := Lib.hid (show ∀ (j : Nat) (p : List Int), ps[j]? = some p → p.length ≤ maxLen from fun j p hp => by rw [← hpe, paths_nil] at hp; have h1 := rel_short (SizeOf.sizeOf t) t j p (Nat.le_refl _) hp; have h2 := HS.out; unfold maxLen; omega)
  have H0P := Lib.hid (show ps[0]? = some [] from by rw [← hpe, pathsT_eq]; rfl)
  rw [hpe] at hps
  obtain ⟨LA, LC, rfl⟩ := hps.shape
  have HPS := Lib.hid hps
  have hn3 : ps.length ≤ 300 := by rw [← hpe, pathsT_len]; have := HD.out; simp at this; exact this
  have mixedL : Try.prog.follows Departure.mixedOrders = true := mixed
  clear hps hb2 hpe
  clear k0 k1 k2 k3 kl
  go_wp2
  go_loopw [4] (fun i wr => NumsAt ps w w2 i wr) (fun i _ => ps.length - (intOf i).toNat)
  case atStart => exact ⟨0, rfl, Nat.zero_le _, HB2.out, Below.refl _ _⟩
  case round =>
    obtain ⟨j, rfl, hj, hbw, hbr⟩ := hrel
    have HBW := Lib.hid hbw
    have HTR := Lib.hid (HT2.out.keep hbr)
    have HXR := Lib.hid ((hbr.block w.heap.size (lt_of_heap HX2.out)).trans HX2.out)
    have HPR0 := Lib.hid (HPS.out.keep hbr)
    have HBR := Lib.hid hbr
    clear hbw hbr
    by_cases hlt : j < ps.length
    · obtain ⟨p, hp⟩ : ∃ p, ps[j]? = some p := ⟨_, List.getElem?_eq_getElem hlt⟩
      obtain ⟨g, pa, pc, hLA, gl, c0, hrow⟩ := HPR0.out.at hp
      subst hLA
      have HPR := Lib.hid hrow.ints
      have HPL := Lib.hid (HLNP.out j p hp)
      have HNM := Lib.hid (HNUM.out j p hp)
      have hja : (j : Int) < (ps.length : Int) := by omega
      have hj0 : (0 : Int) ≤ (j : Int) := by omega
      clear hrow hp
      have k0 : wr.cell? ⟨w.heap.size, 0, none⟩ = some (.int .i64 v.kind) := cells_of HXR.out 0 _ rfl
      have k1 : wr.cell? ⟨w.heap.size, 1, none⟩ = some (.string v.text) := cells_of HXR.out 1 _ rfl
      have k2 : wr.cell? ⟨w.heap.size, 2, none⟩ = some (.slice v.la v.ll v.lc) := cells_of HXR.out 2 _ rfl
      have k3 : wr.cell? ⟨w.heap.size, 3, none⟩ = some (.slice v.ka v.kl v.kc) := cells_of HXR.out 3 _ rfl
      have kl := lt_of_heap HXR.out
      go_wp2_with fail
      go_region_held3 (fun w' => w'.cell? ⟨w.heap.size, 0, none⟩ = some (.int .i64 v.kind) ∧ w'.cell? ⟨w.heap.size, 1, none⟩ = some (.string v.text) ∧ w'.cell? ⟨w.heap.size, 2, none⟩ = some (.slice v.la v.ll v.lc) ∧ w'.cell? ⟨w.heap.size, 3, none⟩ = some (.slice v.ka v.kl v.kc) ∧ w'.cell? ⟨g, j, none⟩ = some (.slice pa p.length pc)) (first | with_reducible exact ⟨k0, k1, k2, k3, c0⟩ | go_keep) ((go_at_call 21; refine (number_any S t v pa pc p _ (HTR.out.keep (Below.refl _ _).drew) (HPR.out.keep (Below.refl _ _).drew) HPL.out HS.out).mono ?_; rw [HNM.out]; rintro e w5 ⟨rfl, hb5⟩; have HB5 := Lib.hid (show Below wr.heap.size wr w5 from (show Below wr.heap.size wr _ from (Below.refl _ _).drew).trans hb5); have hx5 := (hb5.block w.heap.size kl).trans HXR.out; have hr5 := (World.cell?_of_block (w := wr) (a := ⟨g, j, none⟩) (hb5.block g gl)).trans c0; have gl5 := Nat.lt_of_lt_of_le gl hb5.size; clear hb5 k0 k1 k2 k3 kl c0 gl; have c0 := hr5; have gl := gl5; clear hr5 gl5; have k0 : w5.cell? ⟨w.heap.size, 0, none⟩ = some (.int .i64 v.kind) := cells_of hx5 0 _ rfl; have k1 : w5.cell? ⟨w.heap.size, 1, none⟩ = some (.string v.text) := cells_of hx5 1 _ rfl; have k2 : w5.cell? ⟨w.heap.size, 2, none⟩ = some (.slice v.la v.ll v.lc) := cells_of hx5 2 _ rfl; have k3 : w5.cell? ⟨w.heap.size, 3, none⟩ = some (.slice v.ka v.kl v.kc) := cells_of hx5 3 _ rfl; have kl := lt_of_heap hx5; clear hx5))
      all_goals
        clear k0 k1 k2 k3 kl c0 gl
        go_wp2
        go_roundw
        case measure => simp [intOf]; omega
        case rel => exact ⟨j + 1, by go_num, by omega, HBW.out.trans (HB5.out.mono HBW.out.size), HBR.out.trans (HB5.out.mono HBR.out.size)⟩
    · have hjn : j = ps.length := by omega
      subst hjn
      obtain ⟨g, pa, pc, hLA, gl, c0, _⟩ := HPR0.out.at H0P.out
      subst hLA
      have c0 : wr.cell? ⟨g, 0, none⟩ = some (.slice pa 0 pc) := c0
      have hp0 : (0 : Int) < (ps.length : Int) := by have := (List.getElem?_eq_some_iff.1 H0P.out).1; omega
      have k0 : wr.cell? ⟨w.heap.size, 0, none⟩ = some (.int .i64 v.kind) := cells_of HXR.out 0 _ rfl
      have k1 : wr.cell? ⟨w.heap.size, 1, none⟩ = some (.string v.text) := cells_of HXR.out 1 _ rfl
      have k2 : wr.cell? ⟨w.heap.size, 2, none⟩ = some (.slice v.la v.ll v.lc) := cells_of HXR.out 2 _ rfl
      have k3 : wr.cell? ⟨w.heap.size, 3, none⟩ = some (.slice v.ka v.kl v.kc) := cells_of HXR.out 3 _ rfl
      have kl := lt_of_heap HXR.out
      go_wp2_with fail
      go_at_call 10
      refine (awake_any _).mono ?_
      rintro e w5 ⟨rfl, hb5⟩
      have HB5 := Lib.hid hb5
      have HX5 := Lib.hid ((hb5.block w.heap.size kl).trans HXR.out)
      have HT5 := Lib.hid (HTR.out.keep hb5)
      have hr5 := (World.cell?_of_block (w := wr) (a := ⟨g, 0, none⟩) (hb5.block g gl)).trans c0
      have gl5 := Nat.lt_of_lt_of_le gl hb5.size
      clear hb5 k0 k1 k2 k3 kl c0 gl
      have c0 := hr5
      have gl := gl5
      clear hr5 gl5
      have k0 : w5.cell? ⟨w.heap.size, 0, none⟩ = some (.int .i64 v.kind) := cells_of HX5.out 0 _ rfl
      have k1 : w5.cell? ⟨w.heap.size, 1, none⟩ = some (.string v.text) := cells_of HX5.out 1 _ rfl
      have k2 : w5.cell? ⟨w.heap.size, 2, none⟩ = some (.slice v.la v.ll v.lc) := cells_of HX5.out 2 _ rfl
      have k3 : w5.cell? ⟨w.heap.size, 3, none⟩ = some (.slice v.ka v.kl v.kc) := cells_of HX5.out 3 _ rfl
      have kl := lt_of_heap HX5.out
      go_wp2_with fail
      go_at_call 11
      refine (size_any (SizeOf.sizeOf t) S t v _ (Nat.le_refl _) HT5.out HS.out).mono ?_
      rw [← HLEN.out]
      rintro e w6 ⟨rfl, hb6⟩
      have HB6 := Lib.hid (HB5.out.trans (hb6.mono HB5.out.size))
      have hr6 := (World.cell?_of_block (w := w5) (a := ⟨g, 0, none⟩) (hb6.block g gl)).trans c0
      have gl6 := Nat.lt_of_lt_of_le gl hb6.size
      clear hb6 k0 k1 k2 k3 kl c0 gl
      have c0 := hr6
      have gl := gl6
      clear hr6 gl6
      go_wp2
      go_ret
      exact ⟨ret_bool (by simp), HBW.out.trans (HB6.out.mono HBW.out.size)⟩
theorem walk (S : Nat → Prop) (t : Tr) (v : TV) (w : World) (h : TrAt S w t v) (hc : cntT t ≤ 1048576) :
    Calls Try.prog 8 #[.agg #[.int .i64 v.kind, .string v.text, .slice v.la v.ll v.lc, .slice v.ka v.kl v.kc]] w fun e w' => e = .returned (.bool true) ∧ Below w.heap.size w w' := by
  cases hd : (decide (sizeT t ≤ 300) && decide (0 ≤ 100))
  · exact walk_no S t v w h hc hd
  · exact walk_yes S t v w h hc hd
set_option maxRecDepth 100000 in
theorem contract (H : Type) (enc : TypeId × Value → H) (W : World) (base : Nat) (args : Array Value) (ds gs : List (DataW H)) (before : List MemPlace)
    (hval : ∀ (j : Nat) t v, Try.f8.params[j]? = some t → args[j]? = some v → Value.okWide Try.prog W .any base t v)
    (hW : DataW.Whole enc Try.prog Try.f8.params.toList Rows.treeNumbersSpec.vars false W args.toList ds gs before) (hk : Rows.uptoSmall H (ds ++ gs) = true) :
    Calls Try.prog 8 args W fun e W' => ∃ v, e = .returned v ∧ Rows.treeNumbersSpec.post enc Try.prog Try.f8 false true false false W args v W' := by
  have hW' := hW
  obtain ⟨p, q, hA0, hV, rfl, hfz, hnd⟩ := hW
  have hA : DataW.TrodAll enc Try.prog W 0 (fun _ => true) true Try.f8.params.toList args.toList ds p := hA0
  rw [Try.params8] at hA hval
  obtain ⟨v0, vs0, d0, ds0, p0, q0, hargs, rfl, rfl, h0, r0⟩ := trodAll_cons hA
  obtain ⟨rfl, rfl, rfl⟩ := trodAll_nil r0
  obtain rfl : args = #[v0] := by cases args; simp_all
  obtain ⟨rfl, rfl⟩ := trodVars_none hV
  have k0 := h0
  have lt0 : ∀ x ∈ p0, x.block < W.heap.size := by obtain ⟨m, hm⟩ := k0; exact DataW.trod_lt m _ _ _ hm
  obtain ⟨fuel, hf⟩ := h0
  obtain ⟨t, tv, hcs, htr, hbk⟩ := open_tree fuel hf
  have hv0 : v0 = .agg #[.int .i64 tv.kind, .string tv.text, .slice tv.la tv.ll tv.lc, .slice tv.ka tv.kl tv.kc] := tree_value hcs
  have hbulk : cntT t ≤ 1048576 := by
    have h : Rows.uptoBulkAll [d0] ≤ 1048576 := of_decide_eq_true hk
    simp only [Rows.uptoBulkAll] at h
    have : cntT t + 1 ≤ Rows.uptoBulk d0 := hbk
    omega
  subst hv0
  clear hA0
  refine (walk _ t tv W htr hbulk).mono fun e W' ⟨he, bel⟩ => ?_
  subst he
  exact ⟨_, rfl, _, _, _, [], _, [], hW', trodAll_mk1 (shut_bool Try.underlying4 _), (trodAll_cons_mk (Below.trod laidOut (by kernel_rfl) (of_decide_eq_true (by kernel_rfl)) k0 bel lt0) trodAll_mk0), rfl, bel.frame _, fun h => by cases h⟩
set_option maxRecDepth 100000 in
theorem lifted (os : Os) (started : os.Started) (H : Type) (enc : TypeId × Value → H) (F : Stop.Interp) :
    ReturnsInHanded {} Try.checked os 8 .any ((Rows.OpenSpec.upto Rows.treeNumbersSpec).pre6 enc Try.prog Try.f8 Rows.treeNumbersUptoRow.domain false) (((Rows.OpenSpec.upto Rows.treeNumbersSpec).at F).post enc Try.prog Try.f8 false true false false) := by
  refine returnsInHanded_of_cond (C := Try.checked) (s := Rows.OpenSpec.upto Rows.treeNumbersSpec) (k := Rows.uptoSmall) rfl own started (by kernel_rfl) Try.func8
    (OpenSpec.witness (enc := enc) (C := Try.checked) (s := Rows.OpenSpec.upto Rows.treeNumbersSpec) (k := Rows.uptoSmall) rfl false ⟨#[], #[.agg #[.int .i64 0, .string .empty, .slice none 0 0, .slice none 0 0]], []⟩ 8 (by kernel_rfl) (by kernel_rfl) (by kernel_rfl)
      (x := ([.agg [.lit (.int .i64 0), .lit (.string []), .nil, .nil]], [], [])) (by kernel_rfl) rfl (by kernel_rfl)) ?_
  intro W base args ds gs before hval hW _ hk _
  exact contract H enc W base args ds gs before hval hW hk
theorem proved : Rows.TreeNumbersUptoSaid :=
  OpenClaim.holds_of_cond 8 Try.f8 rfl rfl rfl rfl rfl rfl rfl ⟨rfl, rfl, rfl, rfl, rfl⟩ rfl rfl rfl rfl rfl (by kernel_rfl) Try.func8 (by kernel_rfl)
    (of_decide_eq_true (by kernel_rfl)) (by unfold Func.isWrapper; first | (rw [if_pos (by decide +kernel)]; kernel_rfl) | (rw [if_neg (by decide +kernel)]; exact ⟨rfl, rfl⟩))
    (fun os started H enc _ F => lifted os started H enc F)
#print axioms proved
end Go.Proofs.Ytojekhbebcdccaa.treeNumbers
