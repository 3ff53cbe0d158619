/- The law TreeFinds holds for every input of bulk at most 1048576: the call returns true, and each argument reads as it read. Condition: the bulk. -/
import Derived.Test.YtojekhbebcdccaaTreLight
import Derived.ProofKit
import Derived.OpenShut
import Derived.ShutString
import Derived.ChangeOld
import Derived.JoinedCond
namespace Go.Proofs.Ytojekhbebcdccaa.treeFinds
open Go.ChangeShapes Go.WideShapes Go.ChangeAt Go.RowKit
open Go.ChangeMaps (open_string shut_string)
set_option linter.unusedVariables false
theorem own : ownKnob Try.prog.godebug = none := by kernel_rfl
theorem laidOut : laidOutB Try.prog = true := by kernel_rfl
theorem tree_value {v0 : Value} {tv : TV} (h : v0.cells.toList = tv.cells) : v0 = .agg #[.int .i64 tv.kind, .string tv.text, .slice tv.la tv.ll tv.lc, .slice tv.ka tv.kl tv.kc] := by
  cases v0 <;> simp [Value.cells, TV.cells] at h
  rename_i cs
  congr 1
  exact Array.toList_inj.1 h
set_option maxRecDepth 100000 in
set_option maxHeartbeats 2000000 in
theorem walk_no (S : Nat → Prop) (t : Tr) (v : TV) (A : Option Addr) (c : Nat) (zs : List Int) (w : World) (h : TrAt S w t v) (hA : IntsAt w A zs) (hz : zs.length ≤ maxLen) (hc : cntT t ≤ 1048576) (hd : (decide (sizeT t ≤ 300) && decide (zs.length ≤ 100)) = false) :
    Calls Try.prog 4 #[.agg #[.int .i64 v.kind, .string v.text, .slice v.la v.ll v.lc, .slice v.ka v.kl v.kc], .slice A zs.length c] w fun e w' => e = .returned (.bool true) ∧ Below w.heap.size w w' := by
  have HB0 := Lib.hid ((Below.refl w.heap.size w).alloc (Nat.le_refl _) (trO v))
  have HT := Lib.hid (h.keep HB0.out)
  have HX := Lib.hid (heap_alloc_new w (trO v))
  have HS := Lib.hid (show sizeT t ≤ 140737488355328 from by have := size_cnt t; omega)
  have k0 := cells_of HX.out 0 _ rfl
  have k1 := cells_of HX.out 1 _ rfl
  have k2 := cells_of HX.out 2 _ rfl
  have k3 := cells_of HX.out 3 _ rfl
  have hbl := lt_of_heap HX.out
  have HD := Lib.hid hd
  clear h hA hz hc hd
  go_enter Try.func4, Try.ntmps4
  go_wp2_with fail
  go_at_call 9
  refine (light_any S t v A c zs.length _ HT.out HS.out).mono ?_
  rw [HD.out]
  rintro e w1 ⟨rfl, hb1⟩
  have HB1 := Lib.hid (HB0.out.trans (hb1.mono HB0.out.size))
  clear hb1 k0 k1 k2 k3 hbl
  go_wp2_with fail
  go_at_call 10
  refine (awake_any _).mono ?_
  rintro e w2 ⟨rfl, hb2⟩
  have HB2 := Lib.hid (HB1.out.trans (hb2.mono HB1.out.size))
  clear hb2
  go_wp2_with fail
  go_ret
  exact ⟨rfl, HB2.out⟩
set_option maxRecDepth 100000 in
set_option maxHeartbeats 4000000 in
theorem walk_yes (S : Nat → Prop) (t : Tr) (v : TV) (A : Option Addr) (c : Nat) (zs : List Int) (w : World) (h : TrAt S w t v) (hA : IntsAt w A zs) (hz : zs.length ≤ maxLen) (hc : cntT t ≤ 1048576) (hd : (decide (sizeT t ≤ 300) && decide (zs.length ≤ 100)) = true) :
    Calls Try.prog 4 #[.agg #[.int .i64 v.kind, .string v.text, .slice v.la v.ll v.lc, .slice v.ka v.kl v.kc], .slice A zs.length c] w fun e w' => e = .returned (.bool true) ∧ Below w.heap.size w w' := by
  have HB0 := Lib.hid ((Below.refl w.heap.size w).alloc (Nat.le_refl _) (trO v))
  have HT := Lib.hid (h.keep HB0.out)
  have HI := Lib.hid (hA.keep HB0.out)
  have HX := Lib.hid (heap_alloc_new w (trO v))
  have HS := Lib.hid (show sizeT t ≤ 140737488355328 from by have := size_cnt t; omega)
  have HF := Lib.hid (fit_cnt t hc)
  have HZ := Lib.hid hz
  obtain ⟨qb, hqb⟩ : ∃ q, (findT t zs).isSome = q := ⟨_, rfl⟩
  have HQB := Lib.hid hqb
  clear hqb
  have k0 := cells_of HX.out 0 _ rfl
  have k1 := cells_of HX.out 1 _ rfl
  have k2 := cells_of HX.out 2 _ rfl
  have k3 := cells_of HX.out 3 _ rfl
  have hbl := lt_of_heap HX.out
  have HD := Lib.hid hd
  clear h hA hz hc hd
  go_enter Try.func4, Try.ntmps4
  go_wp2_with fail
  go_at_call 9
  refine (light_any S t v A c zs.length _ HT.out HS.out).mono ?_
  rw [HD.out]
  rintro e w1 ⟨rfl, hb1⟩
  have HB1 := Lib.hid (HB0.out.trans (hb1.mono HB0.out.size))
  have HT1 := Lib.hid (HT.out.keep hb1)
  have HI1 := Lib.hid (HI.out.keep hb1)
  have HX1 := Lib.hid ((hb1.block w.heap.size hbl).trans HX.out)
  clear hb1 k0 k1 k2 k3 hbl
  have k0 := cells_of HX1.out 0 _ rfl
  have k1 := cells_of HX1.out 1 _ rfl
  have k2 := cells_of HX1.out 2 _ rfl
  have k3 := cells_of HX1.out 3 _ rfl
  have hbl := lt_of_heap HX1.out
  go_wp2_with fail
  go_at_call 18
  refine (at_any S t v A c zs _ HT1.out HI1.out HZ.out HF.out).mono ?_
  rintro e w2 ⟨hb2, x, he, S2, hS2, hx⟩
  rw [HQB.out] at he
  subst he
  have hbx := hb2.trans ((Below.refl w2.heap.size w2).alloc (Nat.le_refl _) (trO x) |>.mono hb2.size)
  have hkx := (Below.refl w2.heap.size w2).alloc (Nat.le_refl _) (trO x)
  have HB2 := Lib.hid (HB1.out.trans (hbx.mono HB1.out.size))
  have HT2 := Lib.hid (HT1.out.keep hbx)
  have HI2 := Lib.hid (HI1.out.keep hbx)
  have HX2 := Lib.hid ((hbx.block w.heap.size hbl).trans HX1.out)
  have HP2 := Lib.hid (hx.keep hkx)
  have HQ2 := Lib.hid (heap_alloc_new w2 (trO x))
  have hx2 := (hb2.block w.heap.size hbl).trans HX1.out
  clear hb2 hS2 hx hbx hkx k0 k1 k2 k3 hbl
  have k0 := cells_of hx2 0 _ rfl
  have k1 := cells_of hx2 1 _ rfl
  have k2 := cells_of hx2 2 _ rfl
  have k3 := cells_of hx2 3 _ rfl
  have hbl := lt_of_heap hx2
  clear hx2
  go_wp2_with fail
  go_at_call 19
  refine (rat_any S t v A c zs _ HT2.out HI2.out HZ.out).mono ?_
  rintro e w3 ⟨hb3, y, he, S3, hS3, hy⟩
  rw [HQB.out] at he
  subst he
  have hky := (Below.refl w3.heap.size w3).alloc (Nat.le_refl _) (trO y)
  have hby := hb3.trans (hky.mono hb3.size)
  have HB3 := Lib.hid (HB2.out.trans (hby.mono HB2.out.size))
  have HT3 := Lib.hid (HT2.out.keep hby)
  have HI3 := Lib.hid (HI2.out.keep hby)
  have HX3 := Lib.hid ((hby.block w.heap.size (lt_of_heap HX2.out)).trans HX2.out)
  have HP3 := Lib.hid (HP2.out.keep hby)
  have HQ3 := Lib.hid ((hby.block w2.heap.size (lt_of_heap HQ2.out)).trans HQ2.out)
  have HP4 := Lib.hid (hy.keep hky)
  have HQ4 := Lib.hid (heap_alloc_new w3 (trO y))
  clear hb3 hS3 hy hky hby k0 k1 k2 k3 hbl
  go_wp2_with fail
  go_region_law (first
    | (go_simp; go_at_call 10; refine (awake_any _).mono ?_; rintro e w4 ⟨rfl, hb4⟩; have hbd : Below (w3.alloc (trO y)).heap.size (w3.alloc (trO y)) w4 := (Below.refl _ _).drew.trans hb4; have HB5 := Lib.hid (HB3.out.trans (hbd.mono HB3.out.size)); have HT5 := Lib.hid (HT3.out.keep hbd); have HI5 := Lib.hid (HI3.out.keep hbd); have HX5 := Lib.hid ((hbd.block w.heap.size (lt_of_heap HX3.out)).trans HX3.out); have HPX := Lib.hid (HP3.out.keep hbd); have HPY := Lib.hid (HP4.out.keep hbd); have hqx := (hbd.block w2.heap.size (lt_of_heap HQ3.out)).trans HQ3.out; have hqy := (hbd.block w3.heap.size (lt_of_heap HQ4.out)).trans HQ4.out; have x0 := cells_of hqx 0 _ rfl; have x1 := cells_of hqx 1 _ rfl; have x2 := cells_of hqx 2 _ rfl; have x3 := cells_of hqx 3 _ rfl; have xbl := lt_of_heap hqx; have y0 := cells_of hqy 0 _ rfl; have y1 := cells_of hqy 1 _ rfl; have y2 := cells_of hqy 2 _ rfl; have y3 := cells_of hqy 3 _ rfl; have ybl := lt_of_heap hqy; clear hb4 hbd hqx hqy)
    | (go_simp; go_at_call 20; refine (rsame_any (SizeOf.sizeOf ((findT t zs).getD noTr)) S2 S3 _ _ x y _ (Nat.le_refl _) HPX.out HPY.out (fit_small _ (fit_get HF.out))).mono ?_; rw [sameT_self]; rintro e w5 ⟨rfl, hb5⟩; have HB6 := Lib.hid (HB5.out.trans (hb5.mono HB5.out.size)); have HT6 := Lib.hid (HT5.out.keep hb5); have HI6 := Lib.hid (HI5.out.keep hb5); have hx6 := (hb5.block w.heap.size (lt_of_heap HX5.out)).trans HX5.out; have HX6 := Lib.hid hx6; clear hb5 x0 x1 x2 x3 xbl y0 y1 y2 y3 ybl; have k0 := cells_of hx6 0 _ rfl; have k1 := cells_of hx6 1 _ rfl; have k2 := cells_of hx6 2 _ rfl; have k3 := cells_of hx6 3 _ rfl; have hbl := lt_of_heap hx6; clear hx6)
    | (go_simp; go_at_call 21; refine (number_any S t v A c zs _ HT6.out HI6.out HZ.out HS.out).mono ?_; rintro e w6 ⟨rfl, hb6⟩; have HB7 := Lib.hid (HB6.out.trans (hb6.mono HB6.out.size)); have HT7 := Lib.hid (HT6.out.keep hb6); have HI7 := Lib.hid (HI6.out.keep hb6); have hx7 := (hb6.block w.heap.size (lt_of_heap HX6.out)).trans HX6.out; clear hb6 k0 k1 k2 k3 hbl; have k0 := cells_of hx7 0 _ rfl; have k1 := cells_of hx7 1 _ rfl; have k2 := cells_of hx7 2 _ rfl; have k3 := cells_of hx7 3 _ rfl; have hbl := lt_of_heap hx7; clear hx7)
    | (go_simp; go_at_call 22; refine (rnumber_any S t v A c zs _ HT7.out HI7.out HZ.out HS.out).mono ?_; rintro e w7 ⟨rfl, hb7⟩; have HB8 := Lib.hid (HB7.out.trans (hb7.mono HB7.out.size)); clear hb7))
  all_goals
    go_simp
    go_wp2
    go_ret
    exact ⟨ret_bool (by simp), HB8.out⟩
theorem walk (S : Nat → Prop) (t : Tr) (v : TV) (A : Option Addr) (c : Nat) (zs : List Int) (w : World) (h : TrAt S w t v) (hA : IntsAt w A zs) (hz : zs.length ≤ maxLen) (hc : cntT t ≤ 1048576) :
    Calls Try.prog 4 #[.agg #[.int .i64 v.kind, .string v.text, .slice v.la v.ll v.lc, .slice v.ka v.kl v.kc], .slice A zs.length c] w fun e w' => e = .returned (.bool true) ∧ Below w.heap.size w w' := by
  cases hd : (decide (sizeT t ≤ 300) && decide (zs.length ≤ 100))
  · exact walk_no S t v A c zs w h hA hz hc hd
  · exact walk_yes S t v A c zs w h hA hz hc hd
set_option maxRecDepth 100000 in
theorem contract (H : Type) (enc : TypeId × Value → H) (W : World) (base : Nat) (args : Array Value) (ds gs : List (DataW H)) (before : List MemPlace)
    (hval : ∀ (j : Nat) t v, Try.f4.params[j]? = some t → args[j]? = some v → Value.okWide Try.prog W .any base t v)
    (hW : DataW.Whole enc Try.prog Try.f4.params.toList Rows.treeFindsSpec.vars false W args.toList ds gs before) (hk : Rows.uptoSmall H (ds ++ gs) = true) :
    Calls Try.prog 4 args W fun e W' => ∃ v, e = .returned v ∧ Rows.treeFindsSpec.post enc Try.prog Try.f4 false true false false W args v W' := by
  have hW' := hW
  obtain ⟨p, q, hA0, hV, rfl, hfz, hnd⟩ := hW
  have hA : DataW.TrodAll enc Try.prog W 0 (fun _ => true) true Try.f4.params.toList args.toList ds p := hA0
  rw [Try.params4] at hA hval
  obtain ⟨v0, vs0, d0, ds0, p0, q0, hargs, rfl, rfl, h0, r0⟩ := trodAll_cons hA
  obtain ⟨v1, vs1, d1, ds1, p1, q1, rfl, rfl, rfl, h1, r1⟩ := trodAll_cons r0
  obtain ⟨rfl, rfl, rfl⟩ := trodAll_nil r1
  obtain rfl : args = #[v0, v1] := by cases args; simp_all
  obtain ⟨rfl, rfl⟩ := trodVars_none hV
  have k0 := h0
  have lt0 : ∀ x ∈ p0, x.block < W.heap.size := by obtain ⟨m, hm⟩ := k0; exact DataW.trod_lt m _ _ _ hm
  have k1 := h1
  have lt1 : ∀ x ∈ p1, x.block < W.heap.size := by obtain ⟨m, hm⟩ := k1; exact DataW.trod_lt m _ _ _ hm
  obtain ⟨fuel, hf⟩ := h0
  obtain ⟨t, tv, hcs, htr, hbk⟩ := open_tree fuel hf
  have hv0 : v0 = .agg #[.int .i64 tv.kind, .string tv.text, .slice tv.la tv.ll tv.lc, .slice tv.ka tv.kl tv.kc] := tree_value hcs
  obtain ⟨a1, len1, cap1, rfl⟩ := okWide_slice Try.underlying33 (hval 1 33 v1 rfl rfl)
  obtain ⟨fuel1, hf1⟩ := h1
  obtain ⟨A1, c1, zs1, hcs1, i1, l1, _, _⟩ := open_ints1 hf1
  simp [Value.cells] at hcs1
  obtain ⟨rfl, rfl, rfl⟩ := hcs1
  have hbulk : cntT t ≤ 1048576 := by
    have h : Rows.uptoBulkAll [d0, d1] ≤ 1048576 := of_decide_eq_true hk
    simp only [Rows.uptoBulkAll] at h
    have : cntT t + 1 ≤ Rows.uptoBulk d0 := hbk
    omega
  subst hv0
  clear hA0
  refine (walk _ t tv a1 cap1 zs1 W htr i1 l1 hbulk).mono fun e W' ⟨he, bel⟩ => ?_
  subst he
  exact ⟨_, rfl, _, _, _, [], _, [], hW', trodAll_mk1 (shut_bool Try.underlying4 _), (trodAll_cons_mk (Below.trod laidOut (by kernel_rfl) (of_decide_eq_true (by kernel_rfl)) k0 bel lt0) (trodAll_cons_mk (Below.trod laidOut (by kernel_rfl) (of_decide_eq_true (by kernel_rfl)) k1 bel lt1) trodAll_mk0)), rfl, bel.frame _, fun h => by cases h⟩
set_option maxRecDepth 100000 in
theorem lifted (os : Os) (started : os.Started) (H : Type) (enc : TypeId × Value → H) (F : Stop.Interp) :
    ReturnsInHanded {} Try.checked os 4 .any ((Rows.OpenSpec.upto Rows.treeFindsSpec).pre6 enc Try.prog Try.f4 Rows.treeFindsUptoRow.domain false) (((Rows.OpenSpec.upto Rows.treeFindsSpec).at F).post enc Try.prog Try.f4 false true false false) := by
  refine returnsInHanded_of_cond (C := Try.checked) (s := Rows.OpenSpec.upto Rows.treeFindsSpec) (k := Rows.uptoSmall) rfl own started (by kernel_rfl) Try.func4
    (OpenSpec.witness (enc := enc) (C := Try.checked) (s := Rows.OpenSpec.upto Rows.treeFindsSpec) (k := Rows.uptoSmall) rfl false ⟨#[], #[.agg #[.int .i64 0, .string .empty, .slice none 0 0, .slice none 0 0], .slice none 0 0], []⟩ 8 (by kernel_rfl) (by kernel_rfl) (by kernel_rfl)
      (x := ([.agg [.lit (.int .i64 0), .lit (.string []), .nil, .nil], .nil], [], [])) (by kernel_rfl) rfl (by kernel_rfl)) ?_
  intro W base args ds gs before hval hW _ hk _
  exact contract H enc W base args ds gs before hval hW hk
theorem proved : Rows.TreeFindsUptoSaid :=
  OpenClaim.holds_of_cond 4 Try.f4 rfl rfl rfl rfl rfl rfl rfl ⟨rfl, rfl, rfl, rfl, rfl⟩ rfl rfl rfl rfl rfl (by kernel_rfl) Try.func4 (by kernel_rfl)
    (of_decide_eq_true (by kernel_rfl)) (by unfold Func.isWrapper; first | (rw [if_pos (by decide +kernel)]; kernel_rfl) | (rw [if_neg (by decide +kernel)]; exact ⟨rfl, rfl⟩))
    (fun os started H enc _ F => lifted os started H enc F)
#print axioms proved
end Go.Proofs.Ytojekhbebcdccaa.treeFinds
