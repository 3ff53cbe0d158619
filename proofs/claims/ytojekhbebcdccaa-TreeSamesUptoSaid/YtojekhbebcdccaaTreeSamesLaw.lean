/- The law TreeSames holds for every input of bulk at most 1048576: the call returns true, and each argument reads as it read. Condition: the bulk. -/
import Derived.Test.YtojekhbebcdccaaTreLight
import Derived.Test.YtojekhbebcdccaaTreRBare
import Derived.Deep.RegionHeld3
import Derived.ProofKit
import Derived.OpenShut
import Derived.ShutString
import Derived.ChangeOld
import Derived.JoinedCond
namespace Go.Proofs.Ytojekhbebcdccaa.treeSames
open Go.ChangeShapes Go.WideShapes Go.ChangeAt Go.RowKit
open Go.ChangeMaps (open_string shut_string)
set_option linter.unusedVariables false
theorem own : ownKnob Try.prog.godebug = none := by kernel_rfl
theorem laidOut : laidOutB Try.prog = true := by kernel_rfl
theorem tree_value {v0 : Value} {tv : TV} (h : v0.cells.toList = tv.cells) : v0 = .agg #[.int .i64 tv.kind, .string tv.text, .slice tv.la tv.ll tv.lc, .slice tv.ka tv.kl tv.kc] := by
  cases v0 <;> simp [Value.cells, TV.cells] at h
  rename_i cs
  congr 1
  exact Array.toList_inj.1 h
theorem bareL_len (l : List Tr) : (bareL l).length = l.length := by rw [bareL_map, List.length_map]
mutual
theorem fit_bare : (t : Tr) → fitT t = true → fitT (bareT t) = true
  | .mk _ _ ls ks, h => by
    rw [fitT] at h
    rw [bareT, fitT]
    simp only [Bool.and_eq_true, decide_eq_true_eq] at h ⊢
    exact ⟨⟨by simp, by rw [bareL_len]; exact h.1.2⟩, fitL_bare ks h.2⟩
theorem fitL_bare : (l : List Tr) → fitL l = true → fitL (bareL l) = true
  | [], _ => rfl
  | t :: r, h => by
    rw [fitL, Bool.and_eq_true] at h
    rw [bareL, fitL, fit_bare t h.1, fitL_bare r h.2]
    rfl
end
set_option maxRecDepth 100000 in
set_option maxHeartbeats 4000000 in
theorem walk_no1 (S : Nat → Prop) (t s : Tr) (v z : TV) (w : World) (h : TrAt S w t v) (h' : TrAt S w s z) (hc : cntT t ≤ 1048576) (hc' : cntT s ≤ 1048576) (hd : (decide (sizeT t ≤ 300) && decide (0 ≤ 100)) = false) :
    Calls Try.prog 6 #[.agg #[.int .i64 v.kind, .string v.text, .slice v.la v.ll v.lc, .slice v.ka v.kl v.kc], .agg #[.int .i64 z.kind, .string z.text, .slice z.la z.ll z.lc, .slice z.ka z.kl z.kc]] w fun e w' => e = .returned (.bool true) ∧ Below w.heap.size w w' := by
  have HB0 := Lib.hid (((Below.refl w.heap.size w).alloc (Nat.le_refl _) (trO v)).alloc (by rw [World.size_alloc]; omega) (trO z))
  have HTA0 := Lib.hid (h.keep HB0.out)
  have HTB0 := Lib.hid (h'.keep HB0.out)
  have HXA0 := Lib.hid (show ((w.alloc (trO v)).alloc (trO z)).heap[w.heap.size]? = some (trO v) from (Below.heap_alloc _ _ _ (by rw [World.size_alloc]; omega)).trans (heap_alloc_new w (trO v)))
  have HXB0 := Lib.hid (show ((w.alloc (trO v)).alloc (trO z)).heap[w.heap.size + 1]? = some (trO z) from by rw [← World.size_alloc w (trO v)]; exact heap_alloc_new _ _)
  have HSA := Lib.hid (show sizeT t ≤ 140737488355328 from by have := size_cnt t; omega)
  have HSB := Lib.hid (show sizeT s ≤ 140737488355328 from by have := size_cnt s; omega)
  have HFA := Lib.hid (fit_cnt t hc)
  have HFB := Lib.hid (fit_cnt s hc')
  have a0 := cells_of HXA0.out 0 _ rfl
  have a1 := cells_of HXA0.out 1 _ rfl
  have a2 := cells_of HXA0.out 2 _ rfl
  have a3 := cells_of HXA0.out 3 _ rfl
  have al := lt_of_heap HXA0.out
  have b0 := cells_of HXB0.out 0 _ rfl
  have b1 := cells_of HXB0.out 1 _ rfl
  have b2 := cells_of HXB0.out 2 _ rfl
  have b3 := cells_of HXB0.out 3 _ rfl
  have bl := lt_of_heap HXB0.out
  have HD := Lib.hid hd
  clear h h' hc hc' hd
  go_enter Try.func6, Try.ntmps6
  go_wp2_with fail
  go_at_call 9
  refine (light_any S t v none 0 0 _ HTA0.out HSA.out).mono ?_
  rw [HD.out]
  rintro e w1 ⟨rfl, hb1⟩
  have HB1 := Lib.hid (HB0.out.trans (hb1.mono HB0.out.size))
  have HTA1 := Lib.hid (HTA0.out.keep hb1)
  have HTB1 := Lib.hid (HTB0.out.keep hb1)
  have HXA1 := Lib.hid ((hb1.block w.heap.size (lt_of_heap HXA0.out)).trans HXA0.out)
  have HXB1 := Lib.hid ((hb1.block (w.heap.size + 1) (lt_of_heap HXB0.out)).trans HXB0.out)
  clear hb1
  clear a0 a1 a2 a3 al b0 b1 b2 b3 bl
  have a0 := cells_of HXA1.out 0 _ rfl
  have a1 := cells_of HXA1.out 1 _ rfl
  have a2 := cells_of HXA1.out 2 _ rfl
  have a3 := cells_of HXA1.out 3 _ rfl
  have al := lt_of_heap HXA1.out
  have b0 := cells_of HXB1.out 0 _ rfl
  have b1 := cells_of HXB1.out 1 _ rfl
  have b2 := cells_of HXB1.out 2 _ rfl
  have b3 := cells_of HXB1.out 3 _ rfl
  have bl := lt_of_heap HXB1.out
  go_wp2_with fail
  go_at_call 10
  refine (awake_any _).mono ?_
  rintro e w9 ⟨rfl, hb9⟩
  have HB9 := Lib.hid (HB1.out.trans (hb9.mono HB1.out.size))
  clear hb9
  go_wp2_with fail
  go_ret
  exact ⟨rfl, HB9.out⟩
set_option maxRecDepth 100000 in
set_option maxHeartbeats 4000000 in
theorem walk_no2 (S : Nat → Prop) (t s : Tr) (v z : TV) (w : World) (h : TrAt S w t v) (h' : TrAt S w s z) (hc : cntT t ≤ 1048576) (hc' : cntT s ≤ 1048576) (hd : (decide (sizeT t ≤ 300) && decide (0 ≤ 100)) = true) (he : (decide (sizeT s ≤ 300) && decide (0 ≤ 100)) = false) :
    Calls Try.prog 6 #[.agg #[.int .i64 v.kind, .string v.text, .slice v.la v.ll v.lc, .slice v.ka v.kl v.kc], .agg #[.int .i64 z.kind, .string z.text, .slice z.la z.ll z.lc, .slice z.ka z.kl z.kc]] w fun e w' => e = .returned (.bool true) ∧ Below w.heap.size w w' := by
  have HB0 := Lib.hid (((Below.refl w.heap.size w).alloc (Nat.le_refl _) (trO v)).alloc (by rw [World.size_alloc]; omega) (trO z))
  have HTA0 := Lib.hid (h.keep HB0.out)
  have HTB0 := Lib.hid (h'.keep HB0.out)
  have HXA0 := Lib.hid (show ((w.alloc (trO v)).alloc (trO z)).heap[w.heap.size]? = some (trO v) from (Below.heap_alloc _ _ _ (by rw [World.size_alloc]; omega)).trans (heap_alloc_new w (trO v)))
  have HXB0 := Lib.hid (show ((w.alloc (trO v)).alloc (trO z)).heap[w.heap.size + 1]? = some (trO z) from by rw [← World.size_alloc w (trO v)]; exact heap_alloc_new _ _)
  have HSA := Lib.hid (show sizeT t ≤ 140737488355328 from by have := size_cnt t; omega)
  have HSB := Lib.hid (show sizeT s ≤ 140737488355328 from by have := size_cnt s; omega)
  have HFA := Lib.hid (fit_cnt t hc)
  have HFB := Lib.hid (fit_cnt s hc')
  have a0 := cells_of HXA0.out 0 _ rfl
  have a1 := cells_of HXA0.out 1 _ rfl
  have a2 := cells_of HXA0.out 2 _ rfl
  have a3 := cells_of HXA0.out 3 _ rfl
  have al := lt_of_heap HXA0.out
  have b0 := cells_of HXB0.out 0 _ rfl
  have b1 := cells_of HXB0.out 1 _ rfl
  have b2 := cells_of HXB0.out 2 _ rfl
  have b3 := cells_of HXB0.out 3 _ rfl
  have bl := lt_of_heap HXB0.out
  have HD := Lib.hid hd
  have HE := Lib.hid he
  clear h h' hc hc' hd he
  go_enter Try.func6, Try.ntmps6
  go_wp2_with fail
  go_at_call 9
  refine (light_any S t v none 0 0 _ HTA0.out HSA.out).mono ?_
  rw [HD.out]
  rintro e w1 ⟨rfl, hb1⟩
  have HB1 := Lib.hid (HB0.out.trans (hb1.mono HB0.out.size))
  have HTA1 := Lib.hid (HTA0.out.keep hb1)
  have HTB1 := Lib.hid (HTB0.out.keep hb1)
  have HXA1 := Lib.hid ((hb1.block w.heap.size (lt_of_heap HXA0.out)).trans HXA0.out)
  have HXB1 := Lib.hid ((hb1.block (w.heap.size + 1) (lt_of_heap HXB0.out)).trans HXB0.out)
  clear hb1
  clear a0 a1 a2 a3 al b0 b1 b2 b3 bl
  have a0 := cells_of HXA1.out 0 _ rfl
  have a1 := cells_of HXA1.out 1 _ rfl
  have a2 := cells_of HXA1.out 2 _ rfl
  have a3 := cells_of HXA1.out 3 _ rfl
  have al := lt_of_heap HXA1.out
  have b0 := cells_of HXB1.out 0 _ rfl
  have b1 := cells_of HXB1.out 1 _ rfl
  have b2 := cells_of HXB1.out 2 _ rfl
  have b3 := cells_of HXB1.out 3 _ rfl
  have bl := lt_of_heap HXB1.out
  go_wp2_with fail
  go_at_call 9
  refine (light_any S s z none 0 0 _ HTB1.out HSB.out).mono ?_
  rw [HE.out]
  rintro e w2 ⟨rfl, hb2⟩
  have HB2 := Lib.hid (HB1.out.trans (hb2.mono HB1.out.size))
  have HTA2 := Lib.hid (HTA1.out.keep hb2)
  have HTB2 := Lib.hid (HTB1.out.keep hb2)
  have HXA2 := Lib.hid ((hb2.block w.heap.size (lt_of_heap HXA1.out)).trans HXA1.out)
  have HXB2 := Lib.hid ((hb2.block (w.heap.size + 1) (lt_of_heap HXB1.out)).trans HXB1.out)
  clear hb2
  clear a0 a1 a2 a3 al b0 b1 b2 b3 bl
  have a0 := cells_of HXA2.out 0 _ rfl
  have a1 := cells_of HXA2.out 1 _ rfl
  have a2 := cells_of HXA2.out 2 _ rfl
  have a3 := cells_of HXA2.out 3 _ rfl
  have al := lt_of_heap HXA2.out
  have b0 := cells_of HXB2.out 0 _ rfl
  have b1 := cells_of HXB2.out 1 _ rfl
  have b2 := cells_of HXB2.out 2 _ rfl
  have b3 := cells_of HXB2.out 3 _ rfl
  have bl := lt_of_heap HXB2.out
  go_wp2_with fail
  go_at_call 10
  refine (awake_any _).mono ?_
  rintro e w9 ⟨rfl, hb9⟩
  have HB9 := Lib.hid (HB2.out.trans (hb9.mono HB2.out.size))
  clear hb9
  go_wp2_with fail
  go_ret
  exact ⟨rfl, HB9.out⟩
set_option maxRecDepth 100000 in
set_option maxHeartbeats 4000000 in
theorem walk_yes (S : Nat → Prop) (t s : Tr) (v z : TV) (w : World) (h : TrAt S w t v) (h' : TrAt S w s z) (hc : cntT t ≤ 1048576) (hc' : cntT s ≤ 1048576) (hd : (decide (sizeT t ≤ 300) && decide (0 ≤ 100)) = true) (he : (decide (sizeT s ≤ 300) && decide (0 ≤ 100)) = true) :
    Calls Try.prog 6 #[.agg #[.int .i64 v.kind, .string v.text, .slice v.la v.ll v.lc, .slice v.ka v.kl v.kc], .agg #[.int .i64 z.kind, .string z.text, .slice z.la z.ll z.lc, .slice z.ka z.kl z.kc]] w fun e w' => e = .returned (.bool true) ∧ Below w.heap.size w w' := by
  have HB0 := Lib.hid (((Below.refl w.heap.size w).alloc (Nat.le_refl _) (trO v)).alloc (by rw [World.size_alloc]; omega) (trO z))
  have HTA0 := Lib.hid (h.keep HB0.out)
  have HTB0 := Lib.hid (h'.keep HB0.out)
  have HXA0 := Lib.hid (show ((w.alloc (trO v)).alloc (trO z)).heap[w.heap.size]? = some (trO v) from (Below.heap_alloc _ _ _ (by rw [World.size_alloc]; omega)).trans (heap_alloc_new w (trO v)))
  have HXB0 := Lib.hid (show ((w.alloc (trO v)).alloc (trO z)).heap[w.heap.size + 1]? = some (trO z) from by rw [← World.size_alloc w (trO v)]; exact heap_alloc_new _ _)
  have HSA := Lib.hid (show sizeT t ≤ 140737488355328 from by have := size_cnt t; omega)
  have HSB := Lib.hid (show sizeT s ≤ 140737488355328 from by have := size_cnt s; omega)
  have HFA := Lib.hid (fit_cnt t hc)
  have HFB := Lib.hid (fit_cnt s hc')
  have a0 := cells_of HXA0.out 0 _ rfl
  have a1 := cells_of HXA0.out 1 _ rfl
  have a2 := cells_of HXA0.out 2 _ rfl
  have a3 := cells_of HXA0.out 3 _ rfl
  have al := lt_of_heap HXA0.out
  have b0 := cells_of HXB0.out 0 _ rfl
  have b1 := cells_of HXB0.out 1 _ rfl
  have b2 := cells_of HXB0.out 2 _ rfl
  have b3 := cells_of HXB0.out 3 _ rfl
  have bl := lt_of_heap HXB0.out
  have HD := Lib.hid hd
  have HE := Lib.hid he
  obtain ⟨q, hq⟩ : ∃ q, sameT t s = q := ⟨_, rfl⟩
  have HQ := Lib.hid hq
  clear h h' hc hc' hd he hq
  go_enter Try.func6, Try.ntmps6
  go_wp2_with fail
  go_at_call 9
  refine (light_any S t v none 0 0 _ HTA0.out HSA.out).mono ?_
  rw [HD.out]
  rintro e w1 ⟨rfl, hb1⟩
  have HB1 := Lib.hid (HB0.out.trans (hb1.mono HB0.out.size))
  have HTA1 := Lib.hid (HTA0.out.keep hb1)
  have HTB1 := Lib.hid (HTB0.out.keep hb1)
  have HXA1 := Lib.hid ((hb1.block w.heap.size (lt_of_heap HXA0.out)).trans HXA0.out)
  have HXB1 := Lib.hid ((hb1.block (w.heap.size + 1) (lt_of_heap HXB0.out)).trans HXB0.out)
  clear hb1
  clear a0 a1 a2 a3 al b0 b1 b2 b3 bl
  have a0 := cells_of HXA1.out 0 _ rfl
  have a1 := cells_of HXA1.out 1 _ rfl
  have a2 := cells_of HXA1.out 2 _ rfl
  have a3 := cells_of HXA1.out 3 _ rfl
  have al := lt_of_heap HXA1.out
  have b0 := cells_of HXB1.out 0 _ rfl
  have b1 := cells_of HXB1.out 1 _ rfl
  have b2 := cells_of HXB1.out 2 _ rfl
  have b3 := cells_of HXB1.out 3 _ rfl
  have bl := lt_of_heap HXB1.out
  go_wp2_with fail
  go_at_call 9
  refine (light_any S s z none 0 0 _ HTB1.out HSB.out).mono ?_
  rw [HE.out]
  rintro e w2 ⟨rfl, hb2⟩
  have HB2 := Lib.hid (HB1.out.trans (hb2.mono HB1.out.size))
  have HTA2 := Lib.hid (HTA1.out.keep hb2)
  have HTB2 := Lib.hid (HTB1.out.keep hb2)
  have HXA2 := Lib.hid ((hb2.block w.heap.size (lt_of_heap HXA1.out)).trans HXA1.out)
  have HXB2 := Lib.hid ((hb2.block (w.heap.size + 1) (lt_of_heap HXB1.out)).trans HXB1.out)
  clear hb2
  clear a0 a1 a2 a3 al b0 b1 b2 b3 bl
  have a0 := cells_of HXA2.out 0 _ rfl
  have a1 := cells_of HXA2.out 1 _ rfl
  have a2 := cells_of HXA2.out 2 _ rfl
  have a3 := cells_of HXA2.out 3 _ rfl
  have al := lt_of_heap HXA2.out
  have b0 := cells_of HXB2.out 0 _ rfl
  have b1 := cells_of HXB2.out 1 _ rfl
  have b2 := cells_of HXB2.out 2 _ rfl
  have b3 := cells_of HXB2.out 3 _ rfl
  have bl := lt_of_heap HXB2.out
  go_wp2_with fail
  have mixedL : Try.prog.follows Departure.mixedOrders = true := mixed
  go_region_held3 (fun w' => w'.cell? ⟨w.heap.size, 0, none⟩ = some (.int .i64 v.kind) ∧ w'.cell? ⟨w.heap.size, 1, none⟩ = some (.string v.text) ∧ w'.cell? ⟨w.heap.size, 2, none⟩ = some (.slice v.la v.ll v.lc) ∧ w'.cell? ⟨w.heap.size, 3, none⟩ = some (.slice v.ka v.kl v.kc) ∧ w'.cell? ⟨w.heap.size + 1, 0, none⟩ = some (.int .i64 z.kind) ∧ w'.cell? ⟨w.heap.size + 1, 1, none⟩ = some (.string z.text) ∧ w'.cell? ⟨w.heap.size + 1, 2, none⟩ = some (.slice z.la z.ll z.lc) ∧ w'.cell? ⟨w.heap.size + 1, 3, none⟩ = some (.slice z.ka z.kl z.kc)) (exact ⟨a0, a1, a2, a3, b0, b1, b2, b3⟩) (first
    | (have hgd := HY8; clear hgd; go_at_call 20; refine (rsame_any (SizeOf.sizeOf (bareT t)) _ _ (bareT t) (bareT t) x y _ (Nat.le_refl _) HX8.out HY8.out (fit_small _ (fit_bare t HFA.out))).mono ?_; rw [sameT_self]; rintro e w9 ⟨rfl, hb9⟩; have HB9 := Lib.hid (HB8.out.trans (hb9.mono HB8.out.size)); have HTA9 := Lib.hid (HTA8.out.keep hb9); have HTB9 := Lib.hid (HTB8.out.keep hb9); have HXA9 := Lib.hid ((hb9.block w.heap.size (lt_of_heap HXA8.out)).trans HXA8.out); have HXB9 := Lib.hid ((hb9.block (w.heap.size + 1) (lt_of_heap HXB8.out)).trans HXB8.out); clear hb9; clear a0 a1 a2 a3 al b0 b1 b2 b3 bl; have a0 := cells_of HXA9.out 0 _ rfl; have a1 := cells_of HXA9.out 1 _ rfl; have a2 := cells_of HXA9.out 2 _ rfl; have a3 := cells_of HXA9.out 3 _ rfl; have al := lt_of_heap HXA9.out; have b0 := cells_of HXB9.out 0 _ rfl; have b1 := cells_of HXB9.out 1 _ rfl; have b2 := cells_of HXB9.out 2 _ rfl; have b3 := cells_of HXB9.out 3 _ rfl; have bl := lt_of_heap HXB9.out)
    | (go_at_call 27; refine (rbare_any (SizeOf.sizeOf t) S t v _ (Nat.le_refl _) HTA7.out HFA.out).mono ?_; rintro e w8 ⟨y, rfl, hy, hb8⟩; have HY8 := Lib.hid hy; have HX8 := Lib.hid (HX7.out.keep hb8); clear hy; have HB8 := Lib.hid (HB7.out.trans (hb8.mono HB7.out.size)); have HTA8 := Lib.hid (HTA7.out.keep hb8); have HTB8 := Lib.hid (HTB7.out.keep hb8); have HXA8 := Lib.hid ((hb8.block w.heap.size (lt_of_heap HXA7.out)).trans HXA7.out); have HXB8 := Lib.hid ((hb8.block (w.heap.size + 1) (lt_of_heap HXB7.out)).trans HXB7.out); clear hb8; clear a0 a1 a2 a3 al b0 b1 b2 b3 bl; have a0 := cells_of HXA8.out 0 _ rfl; have a1 := cells_of HXA8.out 1 _ rfl; have a2 := cells_of HXA8.out 2 _ rfl; have a3 := cells_of HXA8.out 3 _ rfl; have al := lt_of_heap HXA8.out; have b0 := cells_of HXB8.out 0 _ rfl; have b1 := cells_of HXB8.out 1 _ rfl; have b2 := cells_of HXB8.out 2 _ rfl; have b3 := cells_of HXB8.out 3 _ rfl; have bl := lt_of_heap HXB8.out)
    | (go_at_call 26; refine (bare_any (SizeOf.sizeOf t) S t v _ (Nat.le_refl _) HTA6.out HFA.out).mono ?_; rintro e w7 ⟨x, rfl, hx, hb7⟩; have HX7 := Lib.hid hx; clear hx; have HB7 := Lib.hid (HB6.out.trans (hb7.mono HB6.out.size)); have HTA7 := Lib.hid (HTA6.out.keep hb7); have HTB7 := Lib.hid (HTB6.out.keep hb7); have HXA7 := Lib.hid ((hb7.block w.heap.size (lt_of_heap HXA6.out)).trans HXA6.out); have HXB7 := Lib.hid ((hb7.block (w.heap.size + 1) (lt_of_heap HXB6.out)).trans HXB6.out); clear hb7; clear a0 a1 a2 a3 al b0 b1 b2 b3 bl; have a0 := cells_of HXA7.out 0 _ rfl; have a1 := cells_of HXA7.out 1 _ rfl; have a2 := cells_of HXA7.out 2 _ rfl; have a3 := cells_of HXA7.out 3 _ rfl; have al := lt_of_heap HXA7.out; have b0 := cells_of HXB7.out 0 _ rfl; have b1 := cells_of HXB7.out 1 _ rfl; have b2 := cells_of HXB7.out 2 _ rfl; have b3 := cells_of HXB7.out 3 _ rfl; have bl := lt_of_heap HXB7.out)
    | (have hgd := HTA5; clear hgd; go_at_call 25; refine (same_any (SizeOf.sizeOf t) S S t t v v _ (Nat.le_refl _) HTA5.out HTA5.out (fit_small _ HFA.out)).mono ?_; rw [sameT_self]; rintro e w6 ⟨rfl, hb6⟩; have HB6 := Lib.hid (HB5.out.trans (hb6.mono HB5.out.size)); have HTA6 := Lib.hid (HTA5.out.keep hb6); have HTB6 := Lib.hid (HTB5.out.keep hb6); have HXA6 := Lib.hid ((hb6.block w.heap.size (lt_of_heap HXA5.out)).trans HXA5.out); have HXB6 := Lib.hid ((hb6.block (w.heap.size + 1) (lt_of_heap HXB5.out)).trans HXB5.out); clear hb6; clear a0 a1 a2 a3 al b0 b1 b2 b3 bl; have a0 := cells_of HXA6.out 0 _ rfl; have a1 := cells_of HXA6.out 1 _ rfl; have a2 := cells_of HXA6.out 2 _ rfl; have a3 := cells_of HXA6.out 3 _ rfl; have al := lt_of_heap HXA6.out; have b0 := cells_of HXB6.out 0 _ rfl; have b1 := cells_of HXB6.out 1 _ rfl; have b2 := cells_of HXB6.out 2 _ rfl; have b3 := cells_of HXB6.out 3 _ rfl; have bl := lt_of_heap HXB6.out)
    | (go_at_call 20; refine (rsame_any (SizeOf.sizeOf t) S S t s v z _ (Nat.le_refl _) HTA4.out HTB4.out (fit_small _ HFA.out)).mono ?_; rw [HQ.out]; rintro e w5 ⟨rfl, hb5⟩; have HB5 := Lib.hid (HB4.out.trans (hb5.mono HB4.out.size)); have HTA5 := Lib.hid (HTA4.out.keep hb5); have HTB5 := Lib.hid (HTB4.out.keep hb5); have HXA5 := Lib.hid ((hb5.block w.heap.size (lt_of_heap HXA4.out)).trans HXA4.out); have HXB5 := Lib.hid ((hb5.block (w.heap.size + 1) (lt_of_heap HXB4.out)).trans HXB4.out); clear hb5; clear a0 a1 a2 a3 al b0 b1 b2 b3 bl; have a0 := cells_of HXA5.out 0 _ rfl; have a1 := cells_of HXA5.out 1 _ rfl; have a2 := cells_of HXA5.out 2 _ rfl; have a3 := cells_of HXA5.out 3 _ rfl; have al := lt_of_heap HXA5.out; have b0 := cells_of HXB5.out 0 _ rfl; have b1 := cells_of HXB5.out 1 _ rfl; have b2 := cells_of HXB5.out 2 _ rfl; have b3 := cells_of HXB5.out 3 _ rfl; have bl := lt_of_heap HXB5.out)
    | (go_at_call 25; refine (same_any (SizeOf.sizeOf t) S S t s v z _ (Nat.le_refl _) HTA3.out HTB3.out (fit_small _ HFA.out)).mono ?_; rw [HQ.out]; rintro e w4 ⟨rfl, hb4⟩; have HB4 := Lib.hid (HB3.out.trans (hb4.mono HB3.out.size)); have HTA4 := Lib.hid (HTA3.out.keep hb4); have HTB4 := Lib.hid (HTB3.out.keep hb4); have HXA4 := Lib.hid ((hb4.block w.heap.size (lt_of_heap HXA3.out)).trans HXA3.out); have HXB4 := Lib.hid ((hb4.block (w.heap.size + 1) (lt_of_heap HXB3.out)).trans HXB3.out); clear hb4; clear a0 a1 a2 a3 al b0 b1 b2 b3 bl; have a0 := cells_of HXA4.out 0 _ rfl; have a1 := cells_of HXA4.out 1 _ rfl; have a2 := cells_of HXA4.out 2 _ rfl; have a3 := cells_of HXA4.out 3 _ rfl; have al := lt_of_heap HXA4.out; have b0 := cells_of HXB4.out 0 _ rfl; have b1 := cells_of HXB4.out 1 _ rfl; have b2 := cells_of HXB4.out 2 _ rfl; have b3 := cells_of HXB4.out 3 _ rfl; have bl := lt_of_heap HXB4.out)
    | (go_at_call 10; refine (awake_any _).mono ?_; rintro e w3 ⟨rfl, hb⟩; have hb3 : Below w2.heap.size w2 w3 := (Below.refl _ _).drew.trans hb; clear hb; have HB3 := Lib.hid (HB2.out.trans (hb3.mono HB2.out.size)); have HTA3 := Lib.hid (HTA2.out.keep hb3); have HTB3 := Lib.hid (HTB2.out.keep hb3); have HXA3 := Lib.hid ((hb3.block w.heap.size (lt_of_heap HXA2.out)).trans HXA2.out); have HXB3 := Lib.hid ((hb3.block (w.heap.size + 1) (lt_of_heap HXB2.out)).trans HXB2.out); clear hb3; clear a0 a1 a2 a3 al b0 b1 b2 b3 bl; have a0 := cells_of HXA3.out 0 _ rfl; have a1 := cells_of HXA3.out 1 _ rfl; have a2 := cells_of HXA3.out 2 _ rfl; have a3 := cells_of HXA3.out 3 _ rfl; have al := lt_of_heap HXA3.out; have b0 := cells_of HXB3.out 0 _ rfl; have b1 := cells_of HXB3.out 1 _ rfl; have b2 := cells_of HXB3.out 2 _ rfl; have b3 := cells_of HXB3.out 3 _ rfl; have bl := lt_of_heap HXB3.out))
  all_goals
    go_simp
    go_wp2
    go_ret
    exact ⟨ret_bool (by simp), HB9.out⟩
theorem walk (S : Nat → Prop) (t s : Tr) (v z : TV) (w : World) (h : TrAt S w t v) (h' : TrAt S w s z) (hc : cntT t ≤ 1048576) (hc' : cntT s ≤ 1048576) :
    Calls Try.prog 6 #[.agg #[.int .i64 v.kind, .string v.text, .slice v.la v.ll v.lc, .slice v.ka v.kl v.kc], .agg #[.int .i64 z.kind, .string z.text, .slice z.la z.ll z.lc, .slice z.ka z.kl z.kc]] w fun e w' => e = .returned (.bool true) ∧ Below w.heap.size w w' := by
  cases hd : (decide (sizeT t ≤ 300) && decide (0 ≤ 100))
  · exact walk_no1 S t s v z w h h' hc hc' hd
  · cases he : (decide (sizeT s ≤ 300) && decide (0 ≤ 100))
    · exact walk_no2 S t s v z w h h' hc hc' hd he
    · exact walk_yes S t s v z w h h' hc hc' hd he
set_option maxRecDepth 100000 in
theorem contract (H : Type) (enc : TypeId × Value → H) (W : World) (base : Nat) (args : Array Value) (ds gs : List (DataW H)) (before : List MemPlace)
    (hval : ∀ (j : Nat) t v, Try.f6.params[j]? = some t → args[j]? = some v → Value.okWide Try.prog W .any base t v)
    (hW : DataW.Whole enc Try.prog Try.f6.params.toList Rows.treeSamesSpec.vars false W args.toList ds gs before) (hk : Rows.uptoSmall H (ds ++ gs) = true) :
    Calls Try.prog 6 args W fun e W' => ∃ v, e = .returned v ∧ Rows.treeSamesSpec.post enc Try.prog Try.f6 false true false false W args v W' := by
  have hW' := hW
  obtain ⟨p, q, hA0, hV, rfl, hfz, hnd⟩ := hW
  have hA : DataW.TrodAll enc Try.prog W 0 (fun _ => true) true Try.f6.params.toList args.toList ds p := hA0
  rw [Try.params6] at hA hval
  obtain ⟨v0, vs0, d0, ds0, p0, q0, hargs, rfl, rfl, h0, r0⟩ := trodAll_cons hA
  obtain ⟨v1, vs1, d1, ds1, p1, q1, rfl, rfl, rfl, h1, r1⟩ := trodAll_cons r0
  obtain ⟨rfl, rfl, rfl⟩ := trodAll_nil r1
  obtain rfl : args = #[v0, v1] := by cases args; simp_all
  obtain ⟨rfl, rfl⟩ := trodVars_none hV
  have k0 := h0
  have lt0 : ∀ x ∈ p0, x.block < W.heap.size := by obtain ⟨m, hm⟩ := k0; exact DataW.trod_lt m _ _ _ hm
  have k1 := h1
  have lt1 : ∀ x ∈ p1, x.block < W.heap.size := by obtain ⟨m, hm⟩ := k1; exact DataW.trod_lt m _ _ _ hm
  obtain ⟨fuel, hf⟩ := h0
  obtain ⟨t, tv, hcs, htr, hbk⟩ := open_tree fuel hf
  have hv0 : v0 = .agg #[.int .i64 tv.kind, .string tv.text, .slice tv.la tv.ll tv.lc, .slice tv.ka tv.kl tv.kc] := tree_value hcs
  obtain ⟨fuel1, hf1⟩ := h1
  obtain ⟨s1, tv1, hcs1, htr1, hbk1⟩ := open_tree fuel1 hf1
  have hv1 : v1 = .agg #[.int .i64 tv1.kind, .string tv1.text, .slice tv1.la tv1.ll tv1.lc, .slice tv1.ka tv1.kl tv1.kc] := tree_value hcs1
  have hb : Rows.uptoBulkAll [d0, d1] ≤ 1048576 := of_decide_eq_true hk
  simp only [Rows.uptoBulkAll] at hb
  have hq0 : cntT t + 1 ≤ Rows.uptoBulk d0 := hbk
  have hq1 : cntT s1 + 1 ≤ Rows.uptoBulk d1 := hbk1
  subst hv0 hv1
  clear hA0
  refine (walk _ t s1 tv tv1 W htr htr1 (by omega) (by omega)).mono fun e W' ⟨he, bel⟩ => ?_
  subst he
  exact ⟨_, rfl, _, _, _, [], _, [], hW', trodAll_mk1 (shut_bool Try.underlying4 _), (trodAll_cons_mk (Below.trod laidOut (by kernel_rfl) (of_decide_eq_true (by kernel_rfl)) k0 bel lt0) (trodAll_cons_mk (Below.trod laidOut (by kernel_rfl) (of_decide_eq_true (by kernel_rfl)) k1 bel lt1) trodAll_mk0)), rfl, bel.frame _, fun h => by cases h⟩
set_option maxRecDepth 100000 in
theorem lifted (os : Os) (started : os.Started) (H : Type) (enc : TypeId × Value → H) (F : Stop.Interp) :
    ReturnsInHanded {} Try.checked os 6 .any ((Rows.OpenSpec.upto Rows.treeSamesSpec).pre6 enc Try.prog Try.f6 Rows.treeSamesUptoRow.domain false) (((Rows.OpenSpec.upto Rows.treeSamesSpec).at F).post enc Try.prog Try.f6 false true false false) := by
  refine returnsInHanded_of_cond (C := Try.checked) (s := Rows.OpenSpec.upto Rows.treeSamesSpec) (k := Rows.uptoSmall) rfl own started (by kernel_rfl) Try.func6
    (OpenSpec.witness (enc := enc) (C := Try.checked) (s := Rows.OpenSpec.upto Rows.treeSamesSpec) (k := Rows.uptoSmall) rfl false ⟨#[], #[.agg #[.int .i64 0, .string .empty, .slice none 0 0, .slice none 0 0], .agg #[.int .i64 0, .string .empty, .slice none 0 0, .slice none 0 0]], []⟩ 8 (by kernel_rfl) (by kernel_rfl) (by kernel_rfl)
      (x := ([.agg [.lit (.int .i64 0), .lit (.string []), .nil, .nil], .agg [.lit (.int .i64 0), .lit (.string []), .nil, .nil]], [], [])) (by kernel_rfl) rfl (by kernel_rfl)) ?_
  intro W base args ds gs before hval hW _ hk _
  exact contract H enc W base args ds gs before hval hW hk
theorem proved : Rows.TreeSamesUptoSaid :=
  OpenClaim.holds_of_cond 6 Try.f6 rfl rfl rfl rfl rfl rfl rfl ⟨rfl, rfl, rfl, rfl, rfl⟩ rfl rfl rfl rfl rfl (by kernel_rfl) Try.func6 (by kernel_rfl)
    (of_decide_eq_true (by kernel_rfl)) (by unfold Func.isWrapper; first | (rw [if_pos (by decide +kernel)]; kernel_rfl) | (rw [if_neg (by decide +kernel)]; exact ⟨rfl, rfl⟩))
    (fun os started H enc _ F => lifted os started H enc F)
#print axioms proved
end Go.Proofs.Ytojekhbebcdccaa.treeSames
