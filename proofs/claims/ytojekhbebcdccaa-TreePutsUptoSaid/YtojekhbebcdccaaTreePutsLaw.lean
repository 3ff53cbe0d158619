/- The law TreePuts holds for every input of bulk at most 1048576: the call returns true, and each argument reads as it read. Condition: the bulk. -/
import Derived.Test.YtojekhbebcdccaaTreLight
import Derived.Test.YtojekhbebcdccaaTrePuts
import Derived.Deep.DeepCutAuto
import Derived.Deep.QuietTactic
import Derived.BigQuiet
import Derived.ProofKit
import Derived.OpenShut
import Derived.ShutString
import Derived.ChangeOld
import Derived.JoinedCond
namespace Go.Proofs.Ytojekhbebcdccaa.treePuts
open Go.ChangeShapes Go.WideShapes Go.ChangeAt Go.RowKit
open Go.ChangeMaps (open_string shut_string)
set_option linter.unusedVariables false
theorem own : ownKnob Try.prog.godebug = none := by kernel_rfl
theorem laidOut : laidOutB Try.prog = true := by kernel_rfl
theorem tree_value {v0 : Value} {tv : TV} (h : v0.cells.toList = tv.cells) : v0 = .agg #[.int .i64 tv.kind, .string tv.text, .slice tv.la tv.ll tv.lc, .slice tv.ka tv.kl tv.kc] := by
  cases v0 <;> simp [Value.cells, TV.cells] at h
  rename_i cs
  congr 1
  exact Array.toList_inj.1 h
set_option maxRecDepth 100000 in
set_option maxHeartbeats 4000000 in
theorem walk_no1 (S S' : Nat → Prop) (t s : Tr) (v z : TV) (n : Int) (w : World) (h : TrAt S w t v) (h' : TrAt S' w s z) (hc : cntT t ≤ 1048576) (hc' : cntT s ≤ 1048576) (hd : (decide (sizeT t ≤ 300) && decide (0 ≤ 100)) = false) :
    Calls Try.prog 7 #[.agg #[.int .i64 v.kind, .string v.text, .slice v.la v.ll v.lc, .slice v.ka v.kl v.kc], .int .i64 n, .agg #[.int .i64 z.kind, .string z.text, .slice z.la z.ll z.lc, .slice z.ka z.kl z.kc]] w fun e w' => e = .returned (.bool true) ∧ Below w.heap.size w w' := by
  have HB0 := Lib.hid (((Below.refl w.heap.size w).alloc (Nat.le_refl _) (trO v)).alloc (by rw [World.size_alloc]; omega) (trO z))
  have HTA0 := Lib.hid (h.keep HB0.out)
  have HTB0 := Lib.hid (h'.keep HB0.out)
  have HXA0 := Lib.hid (show ((w.alloc (trO v)).alloc (trO z)).heap[w.heap.size]? = some (trO v) from (Below.heap_alloc _ _ _ (by rw [World.size_alloc]; omega)).trans (heap_alloc_new w (trO v)))
  have HXB0 := Lib.hid (show ((w.alloc (trO v)).alloc (trO z)).heap[w.heap.size + 1]? = some (trO z) from by rw [← World.size_alloc w (trO v)]; exact heap_alloc_new _ _)
  have HSA := Lib.hid (show sizeT t ≤ 140737488355328 from by have := size_cnt t; omega)
  have HSB := Lib.hid (show sizeT s ≤ 140737488355328 from by have := size_cnt s; omega)
  have HFA := Lib.hid (fit_cnt t hc)
  have HFB := Lib.hid (fit_cnt s hc')
  have a0 := cells_of HXA0.out 0 _ rfl
  have a1 := cells_of HXA0.out 1 _ rfl
  have a2 := cells_of HXA0.out 2 _ rfl
  have a3 := cells_of HXA0.out 3 _ rfl
  have al := lt_of_heap HXA0.out
  have b0 := cells_of HXB0.out 0 _ rfl
  have b1 := cells_of HXB0.out 1 _ rfl
  have b2 := cells_of HXB0.out 2 _ rfl
  have b3 := cells_of HXB0.out 3 _ rfl
  have bl := lt_of_heap HXB0.out
  have HD := Lib.hid hd
  clear h h' hc hc' hd
  go_enter Try.func7, Try.ntmps7
  go_wp2_with fail
  go_at_call 9
  refine (light_any S t v none 0 0 _ HTA0.out HSA.out).mono ?_
  rw [HD.out]
  rintro e w1 ⟨rfl, hb1⟩
  have HB1 := Lib.hid (HB0.out.trans (hb1.mono HB0.out.size))
  have HTA1 := Lib.hid (HTA0.out.keep hb1)
  have HTB1 := Lib.hid (HTB0.out.keep hb1)
  have HXA1 := Lib.hid ((hb1.block w.heap.size (lt_of_heap HXA0.out)).trans HXA0.out)
  have HXB1 := Lib.hid ((hb1.block (w.heap.size + 1) (lt_of_heap HXB0.out)).trans HXB0.out)
  clear hb1
  clear a0 a1 a2 a3 al b0 b1 b2 b3 bl
  have a0 := cells_of HXA1.out 0 _ rfl
  have a1 := cells_of HXA1.out 1 _ rfl
  have a2 := cells_of HXA1.out 2 _ rfl
  have a3 := cells_of HXA1.out 3 _ rfl
  have al := lt_of_heap HXA1.out
  have b0 := cells_of HXB1.out 0 _ rfl
  have b1 := cells_of HXB1.out 1 _ rfl
  have b2 := cells_of HXB1.out 2 _ rfl
  have b3 := cells_of HXB1.out 3 _ rfl
  have bl := lt_of_heap HXB1.out
  go_wp2_with fail
  go_at_call 10
  refine (awake_any _).mono ?_
  rintro e w9 ⟨rfl, hb9⟩
  have HB9 := Lib.hid (HB1.out.trans (hb9.mono HB1.out.size))
  clear hb9
  go_wp2_with fail
  go_ret
  exact ⟨rfl, HB9.out⟩
set_option maxRecDepth 100000 in
set_option maxHeartbeats 4000000 in
theorem walk_no2 (S S' : Nat → Prop) (t s : Tr) (v z : TV) (n : Int) (w : World) (h : TrAt S w t v) (h' : TrAt S' w s z) (hc : cntT t ≤ 1048576) (hc' : cntT s ≤ 1048576) (hd : (decide (sizeT t ≤ 300) && decide (0 ≤ 100)) = true) (he : (decide (sizeT s ≤ 300) && decide (0 ≤ 100)) = false) :
    Calls Try.prog 7 #[.agg #[.int .i64 v.kind, .string v.text, .slice v.la v.ll v.lc, .slice v.ka v.kl v.kc], .int .i64 n, .agg #[.int .i64 z.kind, .string z.text, .slice z.la z.ll z.lc, .slice z.ka z.kl z.kc]] w fun e w' => e = .returned (.bool true) ∧ Below w.heap.size w w' := by
  have HB0 := Lib.hid (((Below.refl w.heap.size w).alloc (Nat.le_refl _) (trO v)).alloc (by rw [World.size_alloc]; omega) (trO z))
  have HTA0 := Lib.hid (h.keep HB0.out)
  have HTB0 := Lib.hid (h'.keep HB0.out)
  have HXA0 := Lib.hid (show ((w.alloc (trO v)).alloc (trO z)).heap[w.heap.size]? = some (trO v) from (Below.heap_alloc _ _ _ (by rw [World.size_alloc]; omega)).trans (heap_alloc_new w (trO v)))
  have HXB0 := Lib.hid (show ((w.alloc (trO v)).alloc (trO z)).heap[w.heap.size + 1]? = some (trO z) from by rw [← World.size_alloc w (trO v)]; exact heap_alloc_new _ _)
  have HSA := Lib.hid (show sizeT t ≤ 140737488355328 from by have := size_cnt t; omega)
  have HSB := Lib.hid (show sizeT s ≤ 140737488355328 from by have := size_cnt s; omega)
  have HFA := Lib.hid (fit_cnt t hc)
  have HFB := Lib.hid (fit_cnt s hc')
  have a0 := cells_of HXA0.out 0 _ rfl
  have a1 := cells_of HXA0.out 1 _ rfl
  have a2 := cells_of HXA0.out 2 _ rfl
  have a3 := cells_of HXA0.out 3 _ rfl
  have al := lt_of_heap HXA0.out
  have b0 := cells_of HXB0.out 0 _ rfl
  have b1 := cells_of HXB0.out 1 _ rfl
  have b2 := cells_of HXB0.out 2 _ rfl
  have b3 := cells_of HXB0.out 3 _ rfl
  have bl := lt_of_heap HXB0.out
  have HD := Lib.hid hd
  have HE := Lib.hid he
  clear h h' hc hc' hd he
  go_enter Try.func7, Try.ntmps7
  go_wp2_with fail
  go_at_call 9
  refine (light_any S t v none 0 0 _ HTA0.out HSA.out).mono ?_
  rw [HD.out]
  rintro e w1 ⟨rfl, hb1⟩
  have HB1 := Lib.hid (HB0.out.trans (hb1.mono HB0.out.size))
  have HTA1 := Lib.hid (HTA0.out.keep hb1)
  have HTB1 := Lib.hid (HTB0.out.keep hb1)
  have HXA1 := Lib.hid ((hb1.block w.heap.size (lt_of_heap HXA0.out)).trans HXA0.out)
  have HXB1 := Lib.hid ((hb1.block (w.heap.size + 1) (lt_of_heap HXB0.out)).trans HXB0.out)
  clear hb1
  clear a0 a1 a2 a3 al b0 b1 b2 b3 bl
  have a0 := cells_of HXA1.out 0 _ rfl
  have a1 := cells_of HXA1.out 1 _ rfl
  have a2 := cells_of HXA1.out 2 _ rfl
  have a3 := cells_of HXA1.out 3 _ rfl
  have al := lt_of_heap HXA1.out
  have b0 := cells_of HXB1.out 0 _ rfl
  have b1 := cells_of HXB1.out 1 _ rfl
  have b2 := cells_of HXB1.out 2 _ rfl
  have b3 := cells_of HXB1.out 3 _ rfl
  have bl := lt_of_heap HXB1.out
  go_wp2_with fail
  go_at_call 9
  refine (light_any S' s z none 0 0 _ HTB1.out HSB.out).mono ?_
  rw [HE.out]
  rintro e w2 ⟨rfl, hb2⟩
  have HB2 := Lib.hid (HB1.out.trans (hb2.mono HB1.out.size))
  have HTA2 := Lib.hid (HTA1.out.keep hb2)
  have HTB2 := Lib.hid (HTB1.out.keep hb2)
  have HXA2 := Lib.hid ((hb2.block w.heap.size (lt_of_heap HXA1.out)).trans HXA1.out)
  have HXB2 := Lib.hid ((hb2.block (w.heap.size + 1) (lt_of_heap HXB1.out)).trans HXB1.out)
  clear hb2
  clear a0 a1 a2 a3 al b0 b1 b2 b3 bl
  have a0 := cells_of HXA2.out 0 _ rfl
  have a1 := cells_of HXA2.out 1 _ rfl
  have a2 := cells_of HXA2.out 2 _ rfl
  have a3 := cells_of HXA2.out 3 _ rfl
  have al := lt_of_heap HXA2.out
  have b0 := cells_of HXB2.out 0 _ rfl
  have b1 := cells_of HXB2.out 1 _ rfl
  have b2 := cells_of HXB2.out 2 _ rfl
  have b3 := cells_of HXB2.out 3 _ rfl
  have bl := lt_of_heap HXB2.out
  go_wp2_with fail
  go_at_call 10
  refine (awake_any _).mono ?_
  rintro e w9 ⟨rfl, hb9⟩
  have HB9 := Lib.hid (HB2.out.trans (hb9.mono HB2.out.size))
  clear hb9
  go_wp2_with fail
  go_ret
  exact ⟨rfl, HB9.out⟩
def PutsAt (n : Nat) (w w2 : World) (i : Value) (wr : World) : Prop := ∃ j : Nat, i = .int .i64 j ∧ j ≤ n ∧ Below w.heap.size w wr ∧ Below w2.heap.size w2 wr
theorem fitL_set : (l : List Tr) → (i : Nat) → (k : Tr) → fitL l = true → fitT k = true → fitL (l.set i k) = true
  | [], _, _, _, _ => rfl
  | a :: r, 0, k, h, hk => by
    rw [fitL, Bool.and_eq_true] at h
    rw [List.set_cons_zero, fitL, hk, h.2]
    rfl
  | a :: r, i + 1, k, h, hk => by
    rw [fitL, Bool.and_eq_true] at h
    rw [List.set_cons_succ, fitL, h.1, fitL_set r i k h.2 hk]
    rfl
theorem fit_puts : ∀ (zs : List Int) (t s t' : Tr), fitT t = true → fitT s = true → putT zs t s = some t' → fitT t' = true
  | [], t, s, t', _, hs, h => by
    unfold putT at h
    injection h with h
    rw [← h]
    exact hs
  | z :: r, .mk k x ls ks, s, t', ht, hs, h => by
    unfold putT at h
    cases hkb : kidB (.mk k x ls ks) z
    · rw [hkb] at h; cases h
    rw [hkb] at h
    simp only [if_true] at h
    obtain ⟨k', hk', rfl⟩ := Option.map_eq_some_iff.1 h
    obtain ⟨_, _, z2⟩ := kidB_get hkb
    have h1 := fit_puts r _ s k' ((fitT_kids ht).2.2 _ _ z2) hs hk'
    rw [fitT] at ht
    simp only [Bool.and_eq_true, decide_eq_true_eq] at ht
    show fitT (.mk k x ls (ks.set z.toNat k')) = true
    rw [fitT]
    simp only [Bool.and_eq_true, decide_eq_true_eq, List.length_set]
    exact ⟨ht.1, fitL_set ks _ k' ht.2 h1⟩
theorem fit_put {t s : Tr} {zs : List Int} (ht : fitT t = true) (hs : fitT s = true) : fitT ((putT zs t s).getD noTr) = true := by
  cases hp : putT zs t s with
  | none => rfl
  | some u => exact fit_puts zs t s u ht hs hp
set_option maxRecDepth 100000 in
set_option maxHeartbeats 4000000 in
theorem walk_yes (S S' : Nat → Prop) (t s : Tr) (v z : TV) (n : Int) (w : World) (h : TrAt S w t v) (h' : TrAt S' w s z) (hc : cntT t ≤ 1048576) (hc' : cntT s ≤ 1048576) (hd : (decide (sizeT t ≤ 300) && decide (0 ≤ 100)) = true) (he : (decide (sizeT s ≤ 300) && decide (0 ≤ 100)) = true) :
    Calls Try.prog 7 #[.agg #[.int .i64 v.kind, .string v.text, .slice v.la v.ll v.lc, .slice v.ka v.kl v.kc], .int .i64 n, .agg #[.int .i64 z.kind, .string z.text, .slice z.la z.ll z.lc, .slice z.ka z.kl z.kc]] w fun e w' => e = .returned (.bool true) ∧ Below w.heap.size w w' := by
  have HB0 := Lib.hid (((Below.refl w.heap.size w).alloc (Nat.le_refl _) (trO v)).alloc (by rw [World.size_alloc]; omega) (trO z))
  have HTA0 := Lib.hid (h.keep HB0.out)
  have HTB0 := Lib.hid (h'.keep HB0.out)
  have HXA0 := Lib.hid (show ((w.alloc (trO v)).alloc (trO z)).heap[w.heap.size]? = some (trO v) from (Below.heap_alloc _ _ _ (by rw [World.size_alloc]; omega)).trans (heap_alloc_new w (trO v)))
  have HXB0 := Lib.hid (show ((w.alloc (trO v)).alloc (trO z)).heap[w.heap.size + 1]? = some (trO z) from by rw [← World.size_alloc w (trO v)]; exact heap_alloc_new _ _)
  have HSA := Lib.hid (show sizeT t ≤ 140737488355328 from by have := size_cnt t; omega)
  have HSB := Lib.hid (show sizeT s ≤ 140737488355328 from by have := size_cnt s; omega)
  have HFA := Lib.hid (fit_cnt t hc)
  have HFB := Lib.hid (fit_cnt s hc')
  have a0 := cells_of HXA0.out 0 _ rfl
  have a1 := cells_of HXA0.out 1 _ rfl
  have a2 := cells_of HXA0.out 2 _ rfl
  have a3 := cells_of HXA0.out 3 _ rfl
  have al := lt_of_heap HXA0.out
  have b0 := cells_of HXB0.out 0 _ rfl
  have b1 := cells_of HXB0.out 1 _ rfl
  have b2 := cells_of HXB0.out 2 _ rfl
  have b3 := cells_of HXB0.out 3 _ rfl
  have bl := lt_of_heap HXB0.out
  have HD := Lib.hid hd
  have HE := Lib.hid he
  clear h h' hc hc' hd he
  go_enter Try.func7, Try.ntmps7
  go_wp2_with fail
  go_at_call 9
  refine (light_any S t v none 0 0 _ HTA0.out HSA.out).mono ?_
  rw [HD.out]
  rintro e w1 ⟨rfl, hb1⟩
  have HB1 := Lib.hid (HB0.out.trans (hb1.mono HB0.out.size))
  have HTA1 := Lib.hid (HTA0.out.keep hb1)
  have HTB1 := Lib.hid (HTB0.out.keep hb1)
  have HXA1 := Lib.hid ((hb1.block w.heap.size (lt_of_heap HXA0.out)).trans HXA0.out)
  have HXB1 := Lib.hid ((hb1.block (w.heap.size + 1) (lt_of_heap HXB0.out)).trans HXB0.out)
  clear hb1
  clear a0 a1 a2 a3 al b0 b1 b2 b3 bl
  have a0 := cells_of HXA1.out 0 _ rfl
  have a1 := cells_of HXA1.out 1 _ rfl
  have a2 := cells_of HXA1.out 2 _ rfl
  have a3 := cells_of HXA1.out 3 _ rfl
  have al := lt_of_heap HXA1.out
  have b0 := cells_of HXB1.out 0 _ rfl
  have b1 := cells_of HXB1.out 1 _ rfl
  have b2 := cells_of HXB1.out 2 _ rfl
  have b3 := cells_of HXB1.out 3 _ rfl
  have bl := lt_of_heap HXB1.out
  go_wp2_with fail
  go_at_call 9
  refine (light_any S' s z none 0 0 _ HTB1.out HSB.out).mono ?_
  rw [HE.out]
  rintro e w2 ⟨rfl, hb2⟩
  have HB2 := Lib.hid (HB1.out.trans (hb2.mono HB1.out.size))
  have HTA2 := Lib.hid (HTA1.out.keep hb2)
  have HTB2 := Lib.hid (HTB1.out.keep hb2)
  have HXA2 := Lib.hid ((hb2.block w.heap.size (lt_of_heap HXA1.out)).trans HXA1.out)
  have HXB2 := Lib.hid ((hb2.block (w.heap.size + 1) (lt_of_heap HXB1.out)).trans HXB1.out)
  clear hb2
  clear a0 a1 a2 a3 al b0 b1 b2 b3 bl
  have a0 := cells_of HXA2.out 0 _ rfl
  have a1 := cells_of HXA2.out 1 _ rfl
  have a2 := cells_of HXA2.out 2 _ rfl
  have a3 := cells_of HXA2.out 3 _ rfl
  have al := lt_of_heap HXA2.out
  have b0 := cells_of HXB2.out 0 _ rfl
  have b1 := cells_of HXB2.out 1 _ rfl
  have b2 := cells_of HXB2.out 2 _ rfl
  have b3 := cells_of HXB2.out 3 _ rfl
  have bl := lt_of_heap HXB2.out
  go_wp2_with fail
  go_at_call 16
  refine (paths_any S t v _ HTA2.out HFA.out (by have := HD.out; simp at this; omega)).mono ?_
  rintro e w3 ⟨L, rfl, hps, hb3⟩
  obtain ⟨ps, hpe⟩ : ∃ ps, pathsT t [] = ps := ⟨_, rfl⟩
  rw [hpe] at hps
  have HLEN := Lib.hid (show ps.length = sizeT t from by rw [← hpe, pathsT_len])
  have HREL := Lib.hid (show relT t = ps from by rw [← paths_nil, hpe])
  have hn3 : ps.length ≤ 300 := by rw [← hpe, pathsT_len]; have := HD.out; simp at this; exact this
  obtain ⟨LA, LC, rfl⟩ := hps.shape
  have HPS3 := Lib.hid hps
  clear hps hpe
  have HB3 := Lib.hid (HB2.out.trans (hb3.mono HB2.out.size))
  have HTA3 := Lib.hid (HTA2.out.keep hb3)
  have HTB3 := Lib.hid (HTB2.out.keep hb3)
  have HXA3 := Lib.hid ((hb3.block w.heap.size (lt_of_heap HXA2.out)).trans HXA2.out)
  have HXB3 := Lib.hid ((hb3.block (w.heap.size + 1) (lt_of_heap HXB2.out)).trans HXB2.out)
  clear hb3
  clear a0 a1 a2 a3 al b0 b1 b2 b3 bl
  have a0 : w3.cell? ⟨w.heap.size, 0, none⟩ = some (.int .i64 v.kind) := cells_of HXA3.out 0 _ rfl
  have a1 : w3.cell? ⟨w.heap.size, 1, none⟩ = some (.string v.text) := cells_of HXA3.out 1 _ rfl
  have a2 : w3.cell? ⟨w.heap.size, 2, none⟩ = some (.slice v.la v.ll v.lc) := cells_of HXA3.out 2 _ rfl
  have a3 : w3.cell? ⟨w.heap.size, 3, none⟩ = some (.slice v.ka v.kl v.kc) := cells_of HXA3.out 3 _ rfl
  have al := lt_of_heap HXA3.out
  have b0 : w3.cell? ⟨w.heap.size + 1, 0, none⟩ = some (.int .i64 z.kind) := cells_of HXB3.out 0 _ rfl
  have b1 : w3.cell? ⟨w.heap.size + 1, 1, none⟩ = some (.string z.text) := cells_of HXB3.out 1 _ rfl
  have b2 : w3.cell? ⟨w.heap.size + 1, 2, none⟩ = some (.slice z.la z.ll z.lc) := cells_of HXB3.out 2 _ rfl
  have b3 : w3.cell? ⟨w.heap.size + 1, 3, none⟩ = some (.slice z.ka z.kl z.kc) := cells_of HXB3.out 3 _ rfl
  have bl := lt_of_heap HXB3.out
  go_wp2_with fail
  go_at_call 12
  refine (rsize_any (SizeOf.sizeOf t) S t v _ (Nat.le_refl _) HTA3.out HSA.out).mono ?_
  rw [← HLEN.out]
  rintro e w4 ⟨rfl, hb4⟩
  have HB4 := Lib.hid (HB3.out.trans (hb4.mono HB3.out.size))
  have HTA4 := Lib.hid (HTA3.out.keep hb4)
  have HTB4 := Lib.hid (HTB3.out.keep hb4)
  have HPS4 := Lib.hid (HPS3.out.keep hb4)
  have HXA4 := Lib.hid ((hb4.block w.heap.size (lt_of_heap HXA3.out)).trans HXA3.out)
  have HXB4 := Lib.hid ((hb4.block (w.heap.size + 1) (lt_of_heap HXB3.out)).trans HXB3.out)
  clear hb4
  clear a0 a1 a2 a3 al b0 b1 b2 b3 bl
  by_cases hn0 : n < 0
  · have d0 : decide (n < 0) = true := decide_eq_true hn0
    go_wp2_with fail
    go_at_call 10
    refine (awake_any _).mono ?_
    rintro e w9 ⟨rfl, hb9⟩
    have HB9 := Lib.hid (HB4.out.trans (hb9.mono HB4.out.size))
    clear hb9
    go_wp2_with fail
    go_ret
    exact ⟨rfl, HB9.out⟩
  have d0 : decide (n < 0) = false := decide_eq_false hn0
  by_cases hn1 : (ps.length : Int) ≤ n
  · have d1 : decide ((ps.length : Int) ≤ n) = true := decide_eq_true hn1
    go_wp2_with fail
    go_at_call 10
    refine (awake_any _).mono ?_
    rintro e w9 ⟨rfl, hb9⟩
    have HB9 := Lib.hid (HB4.out.trans (hb9.mono HB4.out.size))
    clear hb9
    go_wp2_with fail
    go_ret
    exact ⟨rfl, HB9.out⟩
  obtain ⟨m, rfl⟩ : ∃ m : Nat, n = (m : Int) := ⟨n.toNat, by omega⟩
  have hm : m < ps.length := by omega
  have d1 : decide (ps.length ≤ m) = false := decide_eq_false (by omega)
  have hmi : (m : Int) < (ps.length : Int) := by omega
  have hm0 : (0 : Int) ≤ (m : Int) := by omega
  obtain ⟨q, hq⟩ : ∃ q, ps[m]? = some q := ⟨_, List.getElem?_eq_getElem hm⟩
  obtain ⟨o, ho⟩ : ∃ o, findT t q = some o := find_rel (SizeOf.sizeOf t) t m q (Nat.le_refl _) (by rw [HREL.out]; exact hq)
  obtain ⟨t', hp⟩ : ∃ t', putT q t s = some t' := by
    have h1 := put_some s q t
    rw [ho] at h1
    exact Option.isSome_iff_exists.1 h1
  have HQ := Lib.hid hq
  have HO := Lib.hid ho
  have HP := Lib.hid hp
  have HFP := Lib.hid (fit_puts q t s t' HFA.out HFB.out hp)
  have HQL := Lib.hid (show q.length ≤ 1000 from by have h1 := rel_short (SizeOf.sizeOf t) t m q (Nat.le_refl _) (by rw [HREL.out]; exact hq); have h2 := HLEN.out; omega)
  have HQM := Lib.hid (show q.length ≤ maxLen from by have := HQL.out; unfold maxLen; omega)
  have mixedL : Try.prog.follows Departure.mixedOrders = true := mixed
  obtain ⟨g, pa, pc, hLA, gl, c0, hrow⟩ := HPS4.out.at hq
  subst hLA
  have HIQ := Lib.hid hrow.ints
  have HQC := Lib.hid (show q.length ≤ pc from row_cap hrow)
  have NA4 := Lib.hid (show w.heap.size ≠ w4.heap.size from Nat.ne_of_lt (lt_of_heap HXA4.out))
  have NG4 := Lib.hid (show g ≠ w4.heap.size from Nat.ne_of_lt gl)
  clear hq ho hp hrow hm hn0 hn1
  have a0 : w4.cell? ⟨w.heap.size, 0, none⟩ = some (.int .i64 v.kind) := cells_of HXA4.out 0 _ rfl
  have a1 : w4.cell? ⟨w.heap.size, 1, none⟩ = some (.string v.text) := cells_of HXA4.out 1 _ rfl
  have a2 : w4.cell? ⟨w.heap.size, 2, none⟩ = some (.slice v.la v.ll v.lc) := cells_of HXA4.out 2 _ rfl
  have a3 : w4.cell? ⟨w.heap.size, 3, none⟩ = some (.slice v.ka v.kl v.kc) := cells_of HXA4.out 3 _ rfl
  have al := lt_of_heap HXA4.out
  go_upto_region 8 with fail
  go_cut [8, 9] (fun s8 s9 wx => CutT w4 o true s8 s9 wx)
  case first =>
    go_region_held3 (fun w' => w'.cell? ⟨w.heap.size, 0, none⟩ = some (.int .i64 v.kind) ∧ w'.cell? ⟨w.heap.size, 1, none⟩ = some (.string v.text) ∧ w'.cell? ⟨w.heap.size, 2, none⟩ = some (.slice v.la v.ll v.lc) ∧ w'.cell? ⟨w.heap.size, 3, none⟩ = some (.slice v.ka v.kl v.kc) ∧ w'.cell? ⟨g, m, none⟩ = some (.slice pa q.length pc)) (first | with_reducible exact ⟨a0, a1, a2, a3, c0⟩ | with_reducible exact ⟨al_cell a0, al_cell a1, al_cell a2, al_cell a3, al_cell c0⟩ | with_reducible exact ⟨dr_cell a0, dr_cell a1, dr_cell a2, dr_cell a3, dr_cell c0⟩ | with_reducible exact ⟨dr_cell (al_cell a0), dr_cell (al_cell a1), dr_cell (al_cell a2), dr_cell (al_cell a3), dr_cell (al_cell c0)⟩ | with_reducible exact ⟨raw4_cell NA4.out a0, raw4_cell NA4.out a1, raw4_cell NA4.out a2, raw4_cell NA4.out a3, raw4_cell NG4.out c0⟩ | go_keep) ((go_at_call 18; refine (at_own S t v pa pc q _ (HTA4.out.keep (show Below w4.heap.size w4 _ from (by first | exact (Below.refl _ _).drew | exact ((Below.refl _ _).alloc (Nat.le_refl _) _).drew))) (HIQ.out.keep (show Below w4.heap.size w4 _ from (by first | exact (Below.refl _ _).drew | exact ((Below.refl _ _).alloc (Nat.le_refl _) _).drew))) HQM.out HFA.out).mono ?_; rintro e w5 ⟨hb, y, he, S9, hS9, hy⟩; rw [HO.out] at he hy; simp only [Option.isSome_some, Option.getD_some] at he hy; subst he; have hbd : Below w4.heap.size w4 w5 := (by first | exact (Below.refl _ _).drew.trans hb | exact (((Below.refl _ _).alloc (Nat.le_refl _) _).drew).trans (hb.mono (show w4.heap.size ≤ (w4.alloc (.cells #[.int .i64 0, .string ⟨#[]⟩, .slice none 0 0, .slice none 0 0] 25)).heap.size from by rw [World.size_alloc]; exact Nat.le_succ _))); have HBD := Lib.hid hbd; have HY := Lib.hid hy; have HS9 := Lib.hid hS9; (first | (have hbox : w5.heap[w4.heap.size]? = some (.cells #[.int .i64 0, .string ⟨#[]⟩, .slice none 0 0, .slice none 0 0] 25) := (hb.block w4.heap.size (show w4.heap.size < (w4.alloc (.cells #[.int .i64 0, .string ⟨#[]⟩, .slice none 0 0, .slice none 0 0] 25)).heap.size from by rw [World.size_alloc]; exact Nat.lt_succ_self _)).trans (heap_alloc_new w4 (.cells #[.int .i64 0, .string ⟨#[]⟩, .slice none 0 0, .slice none 0 0] 25)); have e0 := cells_of hbox 0 _ rfl; have e1 := cells_of hbox 1 _ rfl; have e2 := cells_of hbox 2 _ rfl; have e3 := cells_of hbox 3 _ rfl; have ebl := lt_of_heap hbox; have ebf := Lib.frozen_of_heap hbox; have HBOX := Lib.hid hbox; have HNQ := Lib.hid (show ∀ k, S9 k → k ≠ w4.heap.size from fun k hk => Nat.ne_of_gt (show w4.heap.size < k from Nat.lt_of_lt_of_le (show w4.heap.size < (w4.alloc (.cells #[.int .i64 0, .string ⟨#[]⟩, .slice none 0 0, .slice none 0 0] 25)).heap.size from by rw [World.size_alloc]; exact Nat.lt_succ_self _) (hS9 k hk).2)); clear hbox) | skip); clear hb hy hS9; have ha := (hbd.block (w.heap.size) al).trans HXA4.out; have hro := (World.cell?_of_block (w := w4) (a := ⟨g, m, none⟩) (hbd.block g gl)).trans c0; have hgl := Nat.lt_of_lt_of_le gl hbd.size; clear a0 a1 a2 a3 al c0 gl; have a0 : w5.cell? ⟨w.heap.size, 0, none⟩ = some (.int .i64 v.kind) := cells_of ha 0 _ rfl; have a1 : w5.cell? ⟨w.heap.size, 1, none⟩ = some (.string v.text) := cells_of ha 1 _ rfl; have a2 : w5.cell? ⟨w.heap.size, 2, none⟩ = some (.slice v.la v.ll v.lc) := cells_of ha 2 _ rfl; have a3 : w5.cell? ⟨w.heap.size, 3, none⟩ = some (.slice v.ka v.kl v.kc) := cells_of ha 3 _ rfl; have al := lt_of_heap ha; clear ha; have c0 := hro; have gl := hgl; clear hro hgl; clear hbd))
    all_goals
      go_wp2_with fail
      go_meet
      first
        | (have hh := HBOX.out; clear hh; exact ⟨w4.heap.size, rfl, rfl, ⟨y, S9, setT_heap (v := noTV) y HBOX.out, TrAt.move (w' := setT w5 w4.heap.size y) (fun _ h => h) (fun k hk _ => setT_other y (HNQ.out k hk)) _ _ HY.out⟩, HBD.out.trans (setT_below w5 w4.heap.size y)⟩)
        | exact ⟨_, rfl, rfl, ⟨y, S9, heap_alloc_new _ _, HY.out.keep ((Below.refl _ _).alloc (Nat.le_refl _) _)⟩, HBD.out.alloc HBD.out.size _⟩
  case rest =>
    obtain ⟨w5, hww⟩ : ∃ w', w' = wc := ⟨_, rfl⟩
    subst hww
    obtain ⟨go, rfl, rfl, hbx5, hbc⟩ := hcut
    have HBX5 := Lib.hid hbx5
    clear hbx5
    have HB5 := Lib.hid (HB4.out.trans (hbc.mono HB4.out.size))
    have HTA5 := Lib.hid (HTA4.out.keep hbc)
    have HTB5 := Lib.hid (HTB4.out.keep hbc)
    have HPS5 := Lib.hid (HPS4.out.keep hbc)
    have HXA5 := Lib.hid ((hbc.block w.heap.size (lt_of_heap HXA4.out)).trans HXA4.out)
    have HXB5 := Lib.hid ((hbc.block (w.heap.size + 1) (lt_of_heap HXB4.out)).trans HXB4.out)
    have HIQ_5 := Lib.hid (HIQ.out.keep hbc)
    have hgc := (World.cell?_of_block (w := w4) (a := ⟨g, m, none⟩) (hbc.block g gl)).trans c0
    have hgl := Nat.lt_of_lt_of_le gl hbc.size
    clear hbc gl c0 a0 a1 a2 a3 al
    have c0 := hgc
    have gl := hgl
    clear hgc hgl
    have NA5 := Lib.hid (show w.heap.size ≠ w5.heap.size from Nat.ne_of_lt (lt_of_heap HXA5.out))
    have NB5 := Lib.hid (show w.heap.size + 1 ≠ w5.heap.size from Nat.ne_of_lt (lt_of_heap HXB5.out))
    have NG5 := Lib.hid (show g ≠ w5.heap.size from Nat.ne_of_lt gl)
    have a0 : w5.cell? ⟨w.heap.size, 0, none⟩ = some (.int .i64 v.kind) := cells_of HXA5.out 0 _ rfl
    have a1 : w5.cell? ⟨w.heap.size, 1, none⟩ = some (.string v.text) := cells_of HXA5.out 1 _ rfl
    have a2 : w5.cell? ⟨w.heap.size, 2, none⟩ = some (.slice v.la v.ll v.lc) := cells_of HXA5.out 2 _ rfl
    have a3 : w5.cell? ⟨w.heap.size, 3, none⟩ = some (.slice v.ka v.kl v.kc) := cells_of HXA5.out 3 _ rfl
    have al := lt_of_heap HXA5.out
    have b0 : w5.cell? ⟨w.heap.size + 1, 0, none⟩ = some (.int .i64 z.kind) := cells_of HXB5.out 0 _ rfl
    have b1 : w5.cell? ⟨w.heap.size + 1, 1, none⟩ = some (.string z.text) := cells_of HXB5.out 1 _ rfl
    have b2 : w5.cell? ⟨w.heap.size + 1, 2, none⟩ = some (.slice z.la z.ll z.lc) := cells_of HXB5.out 2 _ rfl
    have b3 : w5.cell? ⟨w.heap.size + 1, 3, none⟩ = some (.slice z.ka z.kl z.kc) := cells_of HXB5.out 3 _ rfl
    have bl := lt_of_heap HXB5.out
    go_upto_region 9 with fail
    go_cut [10, 11] (fun s8 s9 wx => CutT w5 t' true s8 s9 wx)
    case first =>
     go_region_held3 (fun w' => w'.cell? ⟨w.heap.size, 0, none⟩ = some (.int .i64 v.kind) ∧ w'.cell? ⟨w.heap.size, 1, none⟩ = some (.string v.text) ∧ w'.cell? ⟨w.heap.size, 2, none⟩ = some (.slice v.la v.ll v.lc) ∧ w'.cell? ⟨w.heap.size, 3, none⟩ = some (.slice v.ka v.kl v.kc) ∧ w'.cell? ⟨w.heap.size + 1, 0, none⟩ = some (.int .i64 z.kind) ∧ w'.cell? ⟨w.heap.size + 1, 1, none⟩ = some (.string z.text) ∧ w'.cell? ⟨w.heap.size + 1, 2, none⟩ = some (.slice z.la z.ll z.lc) ∧ w'.cell? ⟨w.heap.size + 1, 3, none⟩ = some (.slice z.ka z.kl z.kc) ∧ w'.cell? ⟨g, m, none⟩ = some (.slice pa q.length pc)) (first | with_reducible exact ⟨a0, a1, a2, a3, b0, b1, b2, b3, c0⟩ | with_reducible exact ⟨al_cell a0, al_cell a1, al_cell a2, al_cell a3, al_cell b0, al_cell b1, al_cell b2, al_cell b3, al_cell c0⟩ | with_reducible exact ⟨dr_cell a0, dr_cell a1, dr_cell a2, dr_cell a3, dr_cell b0, dr_cell b1, dr_cell b2, dr_cell b3, dr_cell c0⟩ | with_reducible exact ⟨dr_cell (al_cell a0), dr_cell (al_cell a1), dr_cell (al_cell a2), dr_cell (al_cell a3), dr_cell (al_cell b0), dr_cell (al_cell b1), dr_cell (al_cell b2), dr_cell (al_cell b3), dr_cell (al_cell c0)⟩ | with_reducible exact ⟨raw4_cell NA5.out a0, raw4_cell NA5.out a1, raw4_cell NA5.out a2, raw4_cell NA5.out a3, raw4_cell NB5.out b0, raw4_cell NB5.out b1, raw4_cell NB5.out b2, raw4_cell NB5.out b3, raw4_cell NG5.out c0⟩ | go_keep) ((go_at_call 23; refine (replace_any S S' t s v z pa pc q _ (HTA5.out.keep (show Below w5.heap.size w5 _ from (by first | exact (Below.refl _ _).drew | exact ((Below.refl _ _).alloc (Nat.le_refl _) _).drew))) (HTB5.out.keep (show Below w5.heap.size w5 _ from (by first | exact (Below.refl _ _).drew | exact ((Below.refl _ _).alloc (Nat.le_refl _) _).drew))) (HIQ_5.out.keep (show Below w5.heap.size w5 _ from (by first | exact (Below.refl _ _).drew | exact ((Below.refl _ _).alloc (Nat.le_refl _) _).drew))) HQM.out HFA.out HFB.out).mono ?_; rintro e w6 ⟨hb, y, he, S9, hS9, hy⟩; rw [HO.out] at he; rw [HP.out] at hy; simp only [Option.isSome_some, Option.getD_some] at he hy; subst he; have hbd : Below w5.heap.size w5 w6 := (by first | exact (Below.refl _ _).drew.trans hb | exact (((Below.refl _ _).alloc (Nat.le_refl _) _).drew).trans (hb.mono (show w5.heap.size ≤ (w5.alloc (.cells #[.int .i64 0, .string ⟨#[]⟩, .slice none 0 0, .slice none 0 0] 25)).heap.size from by rw [World.size_alloc]; exact Nat.le_succ _))); have HBD := Lib.hid hbd; have HY := Lib.hid hy; (first | (have hbox : w6.heap[w5.heap.size]? = some (.cells #[.int .i64 0, .string ⟨#[]⟩, .slice none 0 0, .slice none 0 0] 25) := (hb.block w5.heap.size (show w5.heap.size < (w5.alloc (.cells #[.int .i64 0, .string ⟨#[]⟩, .slice none 0 0, .slice none 0 0] 25)).heap.size from by rw [World.size_alloc]; exact Nat.lt_succ_self _)).trans (heap_alloc_new w5 (.cells #[.int .i64 0, .string ⟨#[]⟩, .slice none 0 0, .slice none 0 0] 25)); have e0 := cells_of hbox 0 _ rfl; have e1 := cells_of hbox 1 _ rfl; have e2 := cells_of hbox 2 _ rfl; have e3 := cells_of hbox 3 _ rfl; have ebl := lt_of_heap hbox; have ebf := Lib.frozen_of_heap hbox; have HBOX := Lib.hid hbox; have HNQ := Lib.hid (show ∀ k, S9 k → k ≠ w5.heap.size from fun k hk => Nat.ne_of_gt (show w5.heap.size < k from Nat.lt_of_lt_of_le (show w5.heap.size < (w5.alloc (.cells #[.int .i64 0, .string ⟨#[]⟩, .slice none 0 0, .slice none 0 0] 25)).heap.size from by rw [World.size_alloc]; exact Nat.lt_succ_self _) (hS9 k hk).2)); clear hbox) | skip); clear hb hy hS9; have hha := (hbd.block (w.heap.size) al).trans HXA5.out; have hhb := (hbd.block (w.heap.size + 1) bl).trans HXB5.out; have hhc0 := (World.cell?_of_block (w := w5) (a := ⟨g, m, none⟩) (hbd.block g gl)).trans c0; have hhgl := Nat.lt_of_lt_of_le gl hbd.size; clear gl a0 a1 a2 a3 al b0 b1 b2 b3 bl c0; have a0 : w6.cell? ⟨w.heap.size, 0, none⟩ = some (.int .i64 v.kind) := cells_of hha 0 _ rfl; have a1 : w6.cell? ⟨w.heap.size, 1, none⟩ = some (.string v.text) := cells_of hha 1 _ rfl; have a2 : w6.cell? ⟨w.heap.size, 2, none⟩ = some (.slice v.la v.ll v.lc) := cells_of hha 2 _ rfl; have a3 : w6.cell? ⟨w.heap.size, 3, none⟩ = some (.slice v.ka v.kl v.kc) := cells_of hha 3 _ rfl; have al := lt_of_heap hha; have HXA5_w6 := Lib.hid hha; clear hha; have b0 : w6.cell? ⟨w.heap.size + 1, 0, none⟩ = some (.int .i64 z.kind) := cells_of hhb 0 _ rfl; have b1 : w6.cell? ⟨w.heap.size + 1, 1, none⟩ = some (.string z.text) := cells_of hhb 1 _ rfl; have b2 : w6.cell? ⟨w.heap.size + 1, 2, none⟩ = some (.slice z.la z.ll z.lc) := cells_of hhb 2 _ rfl; have b3 : w6.cell? ⟨w.heap.size + 1, 3, none⟩ = some (.slice z.ka z.kl z.kc) := cells_of hhb 3 _ rfl; have bl := lt_of_heap hhb; have HXB5_w6 := Lib.hid hhb; clear hhb; have c0 := hhc0; clear hhc0; have gl := hhgl; clear hhgl; clear hbd))
     all_goals
      go_wp2_with fail
      go_meet
      first
        | (have hh := HBOX.out; clear hh; exact ⟨w5.heap.size, rfl, rfl, ⟨y, S9, setT_heap (v := noTV) y HBOX.out, TrAt.move (w' := setT w6 w5.heap.size y) (fun _ h => h) (fun k hk _ => setT_other y (HNQ.out k hk)) _ _ HY.out⟩, HBD.out.trans (setT_below w6 w5.heap.size y)⟩)
        | exact ⟨_, rfl, rfl, ⟨y, S9, heap_alloc_new _ _, HY.out.keep ((Below.refl _ _).alloc (Nat.le_refl _) _)⟩, HBD.out.alloc HBD.out.size _⟩
    case rest =>
    obtain ⟨w6, hww⟩ : ∃ w', w' = wc := ⟨_, rfl⟩
    subst hww
    obtain ⟨gx, rfl, rfl, hbx6, hbc⟩ := hcut
    have HBX6 := Lib.hid hbx6
    clear hbx6
    have HB6 := Lib.hid (HB5.out.trans (hbc.mono HB5.out.size))
    have HTA6 := Lib.hid (HTA5.out.keep hbc)
    have HTB6 := Lib.hid (HTB5.out.keep hbc)
    have HPS6 := Lib.hid (HPS5.out.keep hbc)
    have HXA6 := Lib.hid ((hbc.block w.heap.size (lt_of_heap HXA5.out)).trans HXA5.out)
    have HXB6 := Lib.hid ((hbc.block (w.heap.size + 1) (lt_of_heap HXB5.out)).trans HXB5.out)
    have HIQ6 := Lib.hid (HIQ_5.out.keep hbc)
    have HBO6 := Lib.hid (HBX5.out.keep hbc)
    have hgc := (World.cell?_of_block (w := w5) (a := ⟨g, m, none⟩) (hbc.block g gl)).trans c0
    have hgl := Nat.lt_of_lt_of_le gl hbc.size
    clear hbc gl c0 a0 a1 a2 a3 al b0 b1 b2 b3 bl
    have c0 := hgc
    have gl := hgl
    clear hgc hgl
    obtain ⟨yx, Sx, hxx, hxt⟩ := HBX6.out
    have HXX6 := Lib.hid hxx
    have HTX6 := Lib.hid hxt
    have HFS := Lib.hid (find_put q t s t' HP.out)
    have NX6 := Lib.hid (show gx ≠ w6.heap.size from Nat.ne_of_lt (lt_of_heap hxx))
    have NG6 := Lib.hid (show g ≠ w6.heap.size from Nat.ne_of_lt gl)
    clear hxx hxt
    have x0 : w6.cell? ⟨gx, 0, none⟩ = some (.int .i64 yx.kind) := cells_of HXX6.out 0 _ rfl
    have x1 : w6.cell? ⟨gx, 1, none⟩ = some (.string yx.text) := cells_of HXX6.out 1 _ rfl
    have x2 : w6.cell? ⟨gx, 2, none⟩ = some (.slice yx.la yx.ll yx.lc) := cells_of HXX6.out 2 _ rfl
    have x3 : w6.cell? ⟨gx, 3, none⟩ = some (.slice yx.ka yx.kl yx.kc) := cells_of HXX6.out 3 _ rfl
    have xl := lt_of_heap HXX6.out
    go_upto_region 10 with fail
    go_cut [12, 13] (fun s8 s9 wx => CutT w6 s true s8 s9 wx)
    case first =>
     go_region_held3 (fun w' => w'.cell? ⟨gx, 0, none⟩ = some (.int .i64 yx.kind) ∧ w'.cell? ⟨gx, 1, none⟩ = some (.string yx.text) ∧ w'.cell? ⟨gx, 2, none⟩ = some (.slice yx.la yx.ll yx.lc) ∧ w'.cell? ⟨gx, 3, none⟩ = some (.slice yx.ka yx.kl yx.kc) ∧ w'.cell? ⟨g, m, none⟩ = some (.slice pa q.length pc)) (first | with_reducible exact ⟨x0, x1, x2, x3, c0⟩ | with_reducible exact ⟨al_cell x0, al_cell x1, al_cell x2, al_cell x3, al_cell c0⟩ | with_reducible exact ⟨dr_cell x0, dr_cell x1, dr_cell x2, dr_cell x3, dr_cell c0⟩ | with_reducible exact ⟨dr_cell (al_cell x0), dr_cell (al_cell x1), dr_cell (al_cell x2), dr_cell (al_cell x3), dr_cell (al_cell c0)⟩ | with_reducible exact ⟨raw4_cell NX6.out x0, raw4_cell NX6.out x1, raw4_cell NX6.out x2, raw4_cell NX6.out x3, raw4_cell NG6.out c0⟩ | go_keep) ((go_at_call 18; refine (at_own Sx t' yx pa pc q _ (HTX6.out.keep (show Below w6.heap.size w6 _ from (by first | exact (Below.refl _ _).drew | exact ((Below.refl _ _).alloc (Nat.le_refl _) _).drew))) (HIQ6.out.keep (show Below w6.heap.size w6 _ from (by first | exact (Below.refl _ _).drew | exact ((Below.refl _ _).alloc (Nat.le_refl _) _).drew))) HQM.out HFP.out).mono ?_; rintro e w7 ⟨hb, y, he, S9, hS9, hy⟩; rw [HFS.out] at he hy; simp only [Option.isSome_some, Option.getD_some] at he hy; subst he; have hbd : Below w6.heap.size w6 w7 := (by first | exact (Below.refl _ _).drew.trans hb | exact (((Below.refl _ _).alloc (Nat.le_refl _) _).drew).trans (hb.mono (show w6.heap.size ≤ (w6.alloc (.cells #[.int .i64 0, .string ⟨#[]⟩, .slice none 0 0, .slice none 0 0] 25)).heap.size from by rw [World.size_alloc]; exact Nat.le_succ _))); have HBD := Lib.hid hbd; have HY := Lib.hid hy; (first | (have hbox : w7.heap[w6.heap.size]? = some (.cells #[.int .i64 0, .string ⟨#[]⟩, .slice none 0 0, .slice none 0 0] 25) := (hb.block w6.heap.size (show w6.heap.size < (w6.alloc (.cells #[.int .i64 0, .string ⟨#[]⟩, .slice none 0 0, .slice none 0 0] 25)).heap.size from by rw [World.size_alloc]; exact Nat.lt_succ_self _)).trans (heap_alloc_new w6 (.cells #[.int .i64 0, .string ⟨#[]⟩, .slice none 0 0, .slice none 0 0] 25)); have e0 := cells_of hbox 0 _ rfl; have e1 := cells_of hbox 1 _ rfl; have e2 := cells_of hbox 2 _ rfl; have e3 := cells_of hbox 3 _ rfl; have ebl := lt_of_heap hbox; have ebf := Lib.frozen_of_heap hbox; have HBOX := Lib.hid hbox; have HNQ := Lib.hid (show ∀ k, S9 k → k ≠ w6.heap.size from fun k hk => Nat.ne_of_gt (show w6.heap.size < k from Nat.lt_of_lt_of_le (show w6.heap.size < (w6.alloc (.cells #[.int .i64 0, .string ⟨#[]⟩, .slice none 0 0, .slice none 0 0] 25)).heap.size from by rw [World.size_alloc]; exact Nat.lt_succ_self _) (hS9 k hk).2)); clear hbox) | skip); clear hb hy hS9; have hhx := (hbd.block (gx) xl).trans HXX6.out; have hhc0 := (World.cell?_of_block (w := w6) (a := ⟨g, m, none⟩) (hbd.block g gl)).trans c0; have hhgl := Nat.lt_of_lt_of_le gl hbd.size; clear gl x0 x1 x2 x3 xl c0; have x0 : w7.cell? ⟨gx, 0, none⟩ = some (.int .i64 yx.kind) := cells_of hhx 0 _ rfl; have x1 : w7.cell? ⟨gx, 1, none⟩ = some (.string yx.text) := cells_of hhx 1 _ rfl; have x2 : w7.cell? ⟨gx, 2, none⟩ = some (.slice yx.la yx.ll yx.lc) := cells_of hhx 2 _ rfl; have x3 : w7.cell? ⟨gx, 3, none⟩ = some (.slice yx.ka yx.kl yx.kc) := cells_of hhx 3 _ rfl; have xl := lt_of_heap hhx; have HXX6_w7 := Lib.hid hhx; clear hhx; have c0 := hhc0; clear hhc0; have gl := hhgl; clear hhgl; clear hbd))
     all_goals
      go_wp2_with fail
      go_meet
      first
        | (have hh := HBOX.out; clear hh; exact ⟨w6.heap.size, rfl, rfl, ⟨y, S9, setT_heap (v := noTV) y HBOX.out, TrAt.move (w' := setT w7 w6.heap.size y) (fun _ h => h) (fun k hk _ => setT_other y (HNQ.out k hk)) _ _ HY.out⟩, HBD.out.trans (setT_below w7 w6.heap.size y)⟩)
        | exact ⟨_, rfl, rfl, ⟨y, S9, heap_alloc_new _ _, HY.out.keep ((Below.refl _ _).alloc (Nat.le_refl _) _)⟩, HBD.out.alloc HBD.out.size _⟩
    case rest =>
    obtain ⟨w7, hww⟩ : ∃ w', w' = wc := ⟨_, rfl⟩
    subst hww
    obtain ⟨gy, rfl, rfl, hbx7, hbc⟩ := hcut
    have HBX7 := Lib.hid hbx7
    clear hbx7
    have HB7 := Lib.hid (HB6.out.trans (hbc.mono HB6.out.size))
    have HTA7 := Lib.hid (HTA6.out.keep hbc)
    have HTB7 := Lib.hid (HTB6.out.keep hbc)
    have HPS7 := Lib.hid (HPS6.out.keep hbc)
    have HXA7 := Lib.hid ((hbc.block w.heap.size (lt_of_heap HXA6.out)).trans HXA6.out)
    have HXB7 := Lib.hid ((hbc.block (w.heap.size + 1) (lt_of_heap HXB6.out)).trans HXB6.out)
    have HIQ7 := Lib.hid (HIQ6.out.keep hbc)
    have HBO7 := Lib.hid (HBO6.out.keep hbc)
    have HTX7 := Lib.hid (HTX6.out.keep hbc)
    have hgc := (World.cell?_of_block (w := w6) (a := ⟨g, m, none⟩) (hbc.block g gl)).trans c0
    have hgl := Nat.lt_of_lt_of_le gl hbc.size
    have HXX7 := Lib.hid ((hbc.block gx (lt_of_heap HXX6.out)).trans HXX6.out)
    clear hbc gl c0 x0 x1 x2 x3 xl
    have c0 := hgc
    have gl := hgl
    clear hgc hgl
    obtain ⟨yo, So, hoo, hot⟩ := HBO7.out
    obtain ⟨yy, Sy, hyy, hyt⟩ := HBX7.out
    have HXO7 := Lib.hid hoo
    have HTO7 := Lib.hid hot
    have HXY7 := Lib.hid hyy
    have HTY7 := Lib.hid hyt
    clear hoo hot hyy hyt
    have HSP := Lib.hid (size_put q t s t' o HP.out HO.out)
    have HC7 := Lib.hid c0
    have HGL7 := Lib.hid gl
    have hs1 : sizeT t ≤ 300 := by have := HD.out; simp at this; exact this
    have hs2 : sizeT s ≤ 300 := by have := HE.out; simp at this; exact this
    have e1 : IntKind.i64.wrap ((sizeT t : Int) - (sizeT o : Int)) = (sizeT t : Int) - (sizeT o : Int) := by rw [IntKind.wrap_i64]; have := HSP.out; omega
    have e2 : IntKind.i64.wrap ((sizeT t : Int) - (sizeT o : Int) + (sizeT s : Int)) = (sizeT t' : Int) := by rw [IntKind.wrap_i64]; have := HSP.out; omega
    have HSX := Lib.hid (show sizeT t' ≤ 140737488355328 from by have := HSP.out; omega)
    have HSO := Lib.hid (show sizeT o ≤ 140737488355328 from by have := HSP.out; omega)
    clear hs1 hs2 c0 gl
    go_upto_region 11 with fail
    have y0 : w7.cell? ⟨gy, 0, none⟩ = some (.int .i64 yy.kind) := cells_of HXY7.out 0 _ rfl
    have y1 : w7.cell? ⟨gy, 1, none⟩ = some (.string yy.text) := cells_of HXY7.out 1 _ rfl
    have y2 : w7.cell? ⟨gy, 2, none⟩ = some (.slice yy.la yy.ll yy.lc) := cells_of HXY7.out 2 _ rfl
    have y3 : w7.cell? ⟨gy, 3, none⟩ = some (.slice yy.ka yy.kl yy.kc) := cells_of HXY7.out 3 _ rfl
    have yl := lt_of_heap HXY7.out
    have b0 : w7.cell? ⟨w.heap.size + 1, 0, none⟩ = some (.int .i64 z.kind) := cells_of HXB7.out 0 _ rfl
    have b1 : w7.cell? ⟨w.heap.size + 1, 1, none⟩ = some (.string z.text) := cells_of HXB7.out 1 _ rfl
    have b2 : w7.cell? ⟨w.heap.size + 1, 2, none⟩ = some (.slice z.la z.ll z.lc) := cells_of HXB7.out 2 _ rfl
    have b3 : w7.cell? ⟨w.heap.size + 1, 3, none⟩ = some (.slice z.ka z.kl z.kc) := cells_of HXB7.out 3 _ rfl
    have bl := lt_of_heap HXB7.out
    have x0 : w7.cell? ⟨gx, 0, none⟩ = some (.int .i64 yx.kind) := cells_of HXX7.out 0 _ rfl
    have x1 : w7.cell? ⟨gx, 1, none⟩ = some (.string yx.text) := cells_of HXX7.out 1 _ rfl
    have x2 : w7.cell? ⟨gx, 2, none⟩ = some (.slice yx.la yx.ll yx.lc) := cells_of HXX7.out 2 _ rfl
    have x3 : w7.cell? ⟨gx, 3, none⟩ = some (.slice yx.ka yx.kl yx.kc) := cells_of HXX7.out 3 _ rfl
    have xl := lt_of_heap HXX7.out
    have a0 : w7.cell? ⟨w.heap.size, 0, none⟩ = some (.int .i64 v.kind) := cells_of HXA7.out 0 _ rfl
    have a1 : w7.cell? ⟨w.heap.size, 1, none⟩ = some (.string v.text) := cells_of HXA7.out 1 _ rfl
    have a2 : w7.cell? ⟨w.heap.size, 2, none⟩ = some (.slice v.la v.ll v.lc) := cells_of HXA7.out 2 _ rfl
    have a3 : w7.cell? ⟨w.heap.size, 3, none⟩ = some (.slice v.ka v.kl v.kc) := cells_of HXA7.out 3 _ rfl
    have al := lt_of_heap HXA7.out
    have o0 : w7.cell? ⟨go, 0, none⟩ = some (.int .i64 yo.kind) := cells_of HXO7.out 0 _ rfl
    have o1 : w7.cell? ⟨go, 1, none⟩ = some (.string yo.text) := cells_of HXO7.out 1 _ rfl
    have o2 : w7.cell? ⟨go, 2, none⟩ = some (.slice yo.la yo.ll yo.lc) := cells_of HXO7.out 2 _ rfl
    have o3 : w7.cell? ⟨go, 3, none⟩ = some (.slice yo.ka yo.kl yo.kc) := cells_of HXO7.out 3 _ rfl
    have ol := lt_of_heap HXO7.out
    go_region_held3 (fun w' => w'.cell? ⟨gy, 0, none⟩ = some (.int .i64 yy.kind) ∧ w'.cell? ⟨gy, 1, none⟩ = some (.string yy.text) ∧ w'.cell? ⟨gy, 2, none⟩ = some (.slice yy.la yy.ll yy.lc) ∧ w'.cell? ⟨gy, 3, none⟩ = some (.slice yy.ka yy.kl yy.kc) ∧ w'.cell? ⟨w.heap.size + 1, 0, none⟩ = some (.int .i64 z.kind) ∧ w'.cell? ⟨w.heap.size + 1, 1, none⟩ = some (.string z.text) ∧ w'.cell? ⟨w.heap.size + 1, 2, none⟩ = some (.slice z.la z.ll z.lc) ∧ w'.cell? ⟨w.heap.size + 1, 3, none⟩ = some (.slice z.ka z.kl z.kc) ∧ w'.cell? ⟨gx, 0, none⟩ = some (.int .i64 yx.kind) ∧ w'.cell? ⟨gx, 1, none⟩ = some (.string yx.text) ∧ w'.cell? ⟨gx, 2, none⟩ = some (.slice yx.la yx.ll yx.lc) ∧ w'.cell? ⟨gx, 3, none⟩ = some (.slice yx.ka yx.kl yx.kc) ∧ w'.cell? ⟨w.heap.size, 0, none⟩ = some (.int .i64 v.kind) ∧ w'.cell? ⟨w.heap.size, 1, none⟩ = some (.string v.text) ∧ w'.cell? ⟨w.heap.size, 2, none⟩ = some (.slice v.la v.ll v.lc) ∧ w'.cell? ⟨w.heap.size, 3, none⟩ = some (.slice v.ka v.kl v.kc) ∧ w'.cell? ⟨go, 0, none⟩ = some (.int .i64 yo.kind) ∧ w'.cell? ⟨go, 1, none⟩ = some (.string yo.text) ∧ w'.cell? ⟨go, 2, none⟩ = some (.slice yo.la yo.ll yo.lc) ∧ w'.cell? ⟨go, 3, none⟩ = some (.slice yo.ka yo.kl yo.kc)) (first | with_reducible exact ⟨y0, y1, y2, y3, b0, b1, b2, b3, x0, x1, x2, x3, a0, a1, a2, a3, o0, o1, o2, o3⟩ | with_reducible exact ⟨dr_cell y0, dr_cell y1, dr_cell y2, dr_cell y3, dr_cell b0, dr_cell b1, dr_cell b2, dr_cell b3, dr_cell x0, dr_cell x1, dr_cell x2, dr_cell x3, dr_cell a0, dr_cell a1, dr_cell a2, dr_cell a3, dr_cell o0, dr_cell o1, dr_cell o2, dr_cell o3⟩ | go_keep) (first | (have hgd := D11; clear hgd; go_at_call 11; refine (size_any (SizeOf.sizeOf s) S' s z _ (Nat.le_refl _) T_b_w11.out HSB.out).mono ?_; rintro e w12 ⟨rfl, hbd⟩; have D12 := Lib.hid (D11.out.trans (hbd.mono D11.out.size)); have hhy := (hbd.block (gy) yl).trans X_y_w11.out; have T_y_w12 := Lib.hid (T_y_w11.out.keep hbd); have hhb := (hbd.block (w.heap.size + 1) bl).trans X_b_w11.out; have T_b_w12 := Lib.hid (T_b_w11.out.keep hbd); have hhx := (hbd.block (gx) xl).trans X_x_w11.out; have T_x_w12 := Lib.hid (T_x_w11.out.keep hbd); have hha := (hbd.block (w.heap.size) al).trans X_a_w11.out; have T_a_w12 := Lib.hid (T_a_w11.out.keep hbd); have hho := (hbd.block (go) ol).trans X_o_w11.out; have T_o_w12 := Lib.hid (T_o_w11.out.keep hbd); clear y0 y1 y2 y3 yl b0 b1 b2 b3 bl x0 x1 x2 x3 xl a0 a1 a2 a3 al o0 o1 o2 o3 ol; have y0 : w12.cell? ⟨gy, 0, none⟩ = some (.int .i64 yy.kind) := cells_of hhy 0 _ rfl; have y1 : w12.cell? ⟨gy, 1, none⟩ = some (.string yy.text) := cells_of hhy 1 _ rfl; have y2 : w12.cell? ⟨gy, 2, none⟩ = some (.slice yy.la yy.ll yy.lc) := cells_of hhy 2 _ rfl; have y3 : w12.cell? ⟨gy, 3, none⟩ = some (.slice yy.ka yy.kl yy.kc) := cells_of hhy 3 _ rfl; have yl := lt_of_heap hhy; have X_y_w12 := Lib.hid hhy; clear hhy; have b0 : w12.cell? ⟨w.heap.size + 1, 0, none⟩ = some (.int .i64 z.kind) := cells_of hhb 0 _ rfl; have b1 : w12.cell? ⟨w.heap.size + 1, 1, none⟩ = some (.string z.text) := cells_of hhb 1 _ rfl; have b2 : w12.cell? ⟨w.heap.size + 1, 2, none⟩ = some (.slice z.la z.ll z.lc) := cells_of hhb 2 _ rfl; have b3 : w12.cell? ⟨w.heap.size + 1, 3, none⟩ = some (.slice z.ka z.kl z.kc) := cells_of hhb 3 _ rfl; have bl := lt_of_heap hhb; have X_b_w12 := Lib.hid hhb; clear hhb; have x0 : w12.cell? ⟨gx, 0, none⟩ = some (.int .i64 yx.kind) := cells_of hhx 0 _ rfl; have x1 : w12.cell? ⟨gx, 1, none⟩ = some (.string yx.text) := cells_of hhx 1 _ rfl; have x2 : w12.cell? ⟨gx, 2, none⟩ = some (.slice yx.la yx.ll yx.lc) := cells_of hhx 2 _ rfl; have x3 : w12.cell? ⟨gx, 3, none⟩ = some (.slice yx.ka yx.kl yx.kc) := cells_of hhx 3 _ rfl; have xl := lt_of_heap hhx; have X_x_w12 := Lib.hid hhx; clear hhx; have a0 : w12.cell? ⟨w.heap.size, 0, none⟩ = some (.int .i64 v.kind) := cells_of hha 0 _ rfl; have a1 : w12.cell? ⟨w.heap.size, 1, none⟩ = some (.string v.text) := cells_of hha 1 _ rfl; have a2 : w12.cell? ⟨w.heap.size, 2, none⟩ = some (.slice v.la v.ll v.lc) := cells_of hha 2 _ rfl; have a3 : w12.cell? ⟨w.heap.size, 3, none⟩ = some (.slice v.ka v.kl v.kc) := cells_of hha 3 _ rfl; have al := lt_of_heap hha; have X_a_w12 := Lib.hid hha; clear hha; have o0 : w12.cell? ⟨go, 0, none⟩ = some (.int .i64 yo.kind) := cells_of hho 0 _ rfl; have o1 : w12.cell? ⟨go, 1, none⟩ = some (.string yo.text) := cells_of hho 1 _ rfl; have o2 : w12.cell? ⟨go, 2, none⟩ = some (.slice yo.la yo.ll yo.lc) := cells_of hho 2 _ rfl; have o3 : w12.cell? ⟨go, 3, none⟩ = some (.slice yo.ka yo.kl yo.kc) := cells_of hho 3 _ rfl; have ol := lt_of_heap hho; have X_o_w12 := Lib.hid hho; clear hho; clear hbd) | (have hgd := D10; clear hgd; go_at_call 11; refine (size_any (SizeOf.sizeOf o) So o yo _ (Nat.le_refl _) T_o_w10.out HSO.out).mono ?_; rintro e w11 ⟨rfl, hbd⟩; have D11 := Lib.hid (D10.out.trans (hbd.mono D10.out.size)); have hhy := (hbd.block (gy) yl).trans X_y_w10.out; have T_y_w11 := Lib.hid (T_y_w10.out.keep hbd); have hhb := (hbd.block (w.heap.size + 1) bl).trans X_b_w10.out; have T_b_w11 := Lib.hid (T_b_w10.out.keep hbd); have hhx := (hbd.block (gx) xl).trans X_x_w10.out; have T_x_w11 := Lib.hid (T_x_w10.out.keep hbd); have hha := (hbd.block (w.heap.size) al).trans X_a_w10.out; have T_a_w11 := Lib.hid (T_a_w10.out.keep hbd); have hho := (hbd.block (go) ol).trans X_o_w10.out; have T_o_w11 := Lib.hid (T_o_w10.out.keep hbd); clear y0 y1 y2 y3 yl b0 b1 b2 b3 bl x0 x1 x2 x3 xl a0 a1 a2 a3 al o0 o1 o2 o3 ol; have y0 : w11.cell? ⟨gy, 0, none⟩ = some (.int .i64 yy.kind) := cells_of hhy 0 _ rfl; have y1 : w11.cell? ⟨gy, 1, none⟩ = some (.string yy.text) := cells_of hhy 1 _ rfl; have y2 : w11.cell? ⟨gy, 2, none⟩ = some (.slice yy.la yy.ll yy.lc) := cells_of hhy 2 _ rfl; have y3 : w11.cell? ⟨gy, 3, none⟩ = some (.slice yy.ka yy.kl yy.kc) := cells_of hhy 3 _ rfl; have yl := lt_of_heap hhy; have X_y_w11 := Lib.hid hhy; clear hhy; have b0 : w11.cell? ⟨w.heap.size + 1, 0, none⟩ = some (.int .i64 z.kind) := cells_of hhb 0 _ rfl; have b1 : w11.cell? ⟨w.heap.size + 1, 1, none⟩ = some (.string z.text) := cells_of hhb 1 _ rfl; have b2 : w11.cell? ⟨w.heap.size + 1, 2, none⟩ = some (.slice z.la z.ll z.lc) := cells_of hhb 2 _ rfl; have b3 : w11.cell? ⟨w.heap.size + 1, 3, none⟩ = some (.slice z.ka z.kl z.kc) := cells_of hhb 3 _ rfl; have bl := lt_of_heap hhb; have X_b_w11 := Lib.hid hhb; clear hhb; have x0 : w11.cell? ⟨gx, 0, none⟩ = some (.int .i64 yx.kind) := cells_of hhx 0 _ rfl; have x1 : w11.cell? ⟨gx, 1, none⟩ = some (.string yx.text) := cells_of hhx 1 _ rfl; have x2 : w11.cell? ⟨gx, 2, none⟩ = some (.slice yx.la yx.ll yx.lc) := cells_of hhx 2 _ rfl; have x3 : w11.cell? ⟨gx, 3, none⟩ = some (.slice yx.ka yx.kl yx.kc) := cells_of hhx 3 _ rfl; have xl := lt_of_heap hhx; have X_x_w11 := Lib.hid hhx; clear hhx; have a0 : w11.cell? ⟨w.heap.size, 0, none⟩ = some (.int .i64 v.kind) := cells_of hha 0 _ rfl; have a1 : w11.cell? ⟨w.heap.size, 1, none⟩ = some (.string v.text) := cells_of hha 1 _ rfl; have a2 : w11.cell? ⟨w.heap.size, 2, none⟩ = some (.slice v.la v.ll v.lc) := cells_of hha 2 _ rfl; have a3 : w11.cell? ⟨w.heap.size, 3, none⟩ = some (.slice v.ka v.kl v.kc) := cells_of hha 3 _ rfl; have al := lt_of_heap hha; have X_a_w11 := Lib.hid hha; clear hha; have o0 : w11.cell? ⟨go, 0, none⟩ = some (.int .i64 yo.kind) := cells_of hho 0 _ rfl; have o1 : w11.cell? ⟨go, 1, none⟩ = some (.string yo.text) := cells_of hho 1 _ rfl; have o2 : w11.cell? ⟨go, 2, none⟩ = some (.slice yo.la yo.ll yo.lc) := cells_of hho 2 _ rfl; have o3 : w11.cell? ⟨go, 3, none⟩ = some (.slice yo.ka yo.kl yo.kc) := cells_of hho 3 _ rfl; have ol := lt_of_heap hho; have X_o_w11 := Lib.hid hho; clear hho; clear hbd) | (have hgd := D9; clear hgd; go_at_call 11; refine (size_any (SizeOf.sizeOf t) S t v _ (Nat.le_refl _) T_a_w9.out HSA.out).mono ?_; rintro e w10 ⟨rfl, hbd⟩; have D10 := Lib.hid (D9.out.trans (hbd.mono D9.out.size)); have hhy := (hbd.block (gy) yl).trans X_y_w9.out; have T_y_w10 := Lib.hid (T_y_w9.out.keep hbd); have hhb := (hbd.block (w.heap.size + 1) bl).trans X_b_w9.out; have T_b_w10 := Lib.hid (T_b_w9.out.keep hbd); have hhx := (hbd.block (gx) xl).trans X_x_w9.out; have T_x_w10 := Lib.hid (T_x_w9.out.keep hbd); have hha := (hbd.block (w.heap.size) al).trans X_a_w9.out; have T_a_w10 := Lib.hid (T_a_w9.out.keep hbd); have hho := (hbd.block (go) ol).trans X_o_w9.out; have T_o_w10 := Lib.hid (T_o_w9.out.keep hbd); clear y0 y1 y2 y3 yl b0 b1 b2 b3 bl x0 x1 x2 x3 xl a0 a1 a2 a3 al o0 o1 o2 o3 ol; have y0 : w10.cell? ⟨gy, 0, none⟩ = some (.int .i64 yy.kind) := cells_of hhy 0 _ rfl; have y1 : w10.cell? ⟨gy, 1, none⟩ = some (.string yy.text) := cells_of hhy 1 _ rfl; have y2 : w10.cell? ⟨gy, 2, none⟩ = some (.slice yy.la yy.ll yy.lc) := cells_of hhy 2 _ rfl; have y3 : w10.cell? ⟨gy, 3, none⟩ = some (.slice yy.ka yy.kl yy.kc) := cells_of hhy 3 _ rfl; have yl := lt_of_heap hhy; have X_y_w10 := Lib.hid hhy; clear hhy; have b0 : w10.cell? ⟨w.heap.size + 1, 0, none⟩ = some (.int .i64 z.kind) := cells_of hhb 0 _ rfl; have b1 : w10.cell? ⟨w.heap.size + 1, 1, none⟩ = some (.string z.text) := cells_of hhb 1 _ rfl; have b2 : w10.cell? ⟨w.heap.size + 1, 2, none⟩ = some (.slice z.la z.ll z.lc) := cells_of hhb 2 _ rfl; have b3 : w10.cell? ⟨w.heap.size + 1, 3, none⟩ = some (.slice z.ka z.kl z.kc) := cells_of hhb 3 _ rfl; have bl := lt_of_heap hhb; have X_b_w10 := Lib.hid hhb; clear hhb; have x0 : w10.cell? ⟨gx, 0, none⟩ = some (.int .i64 yx.kind) := cells_of hhx 0 _ rfl; have x1 : w10.cell? ⟨gx, 1, none⟩ = some (.string yx.text) := cells_of hhx 1 _ rfl; have x2 : w10.cell? ⟨gx, 2, none⟩ = some (.slice yx.la yx.ll yx.lc) := cells_of hhx 2 _ rfl; have x3 : w10.cell? ⟨gx, 3, none⟩ = some (.slice yx.ka yx.kl yx.kc) := cells_of hhx 3 _ rfl; have xl := lt_of_heap hhx; have X_x_w10 := Lib.hid hhx; clear hhx; have a0 : w10.cell? ⟨w.heap.size, 0, none⟩ = some (.int .i64 v.kind) := cells_of hha 0 _ rfl; have a1 : w10.cell? ⟨w.heap.size, 1, none⟩ = some (.string v.text) := cells_of hha 1 _ rfl; have a2 : w10.cell? ⟨w.heap.size, 2, none⟩ = some (.slice v.la v.ll v.lc) := cells_of hha 2 _ rfl; have a3 : w10.cell? ⟨w.heap.size, 3, none⟩ = some (.slice v.ka v.kl v.kc) := cells_of hha 3 _ rfl; have al := lt_of_heap hha; have X_a_w10 := Lib.hid hha; clear hha; have o0 : w10.cell? ⟨go, 0, none⟩ = some (.int .i64 yo.kind) := cells_of hho 0 _ rfl; have o1 : w10.cell? ⟨go, 1, none⟩ = some (.string yo.text) := cells_of hho 1 _ rfl; have o2 : w10.cell? ⟨go, 2, none⟩ = some (.slice yo.la yo.ll yo.lc) := cells_of hho 2 _ rfl; have o3 : w10.cell? ⟨go, 3, none⟩ = some (.slice yo.ka yo.kl yo.kc) := cells_of hho 3 _ rfl; have ol := lt_of_heap hho; have X_o_w10 := Lib.hid hho; clear hho; clear hbd) | (have hgd := D8; clear hgd; go_at_call 11; refine (size_any (SizeOf.sizeOf t') Sx t' yx _ (Nat.le_refl _) T_x_w8.out HSX.out).mono ?_; rintro e w9 ⟨rfl, hbd⟩; have D9 := Lib.hid (D8.out.trans (hbd.mono D8.out.size)); have hhy := (hbd.block (gy) yl).trans X_y_w8.out; have T_y_w9 := Lib.hid (T_y_w8.out.keep hbd); have hhb := (hbd.block (w.heap.size + 1) bl).trans X_b_w8.out; have T_b_w9 := Lib.hid (T_b_w8.out.keep hbd); have hhx := (hbd.block (gx) xl).trans X_x_w8.out; have T_x_w9 := Lib.hid (T_x_w8.out.keep hbd); have hha := (hbd.block (w.heap.size) al).trans X_a_w8.out; have T_a_w9 := Lib.hid (T_a_w8.out.keep hbd); have hho := (hbd.block (go) ol).trans X_o_w8.out; have T_o_w9 := Lib.hid (T_o_w8.out.keep hbd); clear y0 y1 y2 y3 yl b0 b1 b2 b3 bl x0 x1 x2 x3 xl a0 a1 a2 a3 al o0 o1 o2 o3 ol; have y0 : w9.cell? ⟨gy, 0, none⟩ = some (.int .i64 yy.kind) := cells_of hhy 0 _ rfl; have y1 : w9.cell? ⟨gy, 1, none⟩ = some (.string yy.text) := cells_of hhy 1 _ rfl; have y2 : w9.cell? ⟨gy, 2, none⟩ = some (.slice yy.la yy.ll yy.lc) := cells_of hhy 2 _ rfl; have y3 : w9.cell? ⟨gy, 3, none⟩ = some (.slice yy.ka yy.kl yy.kc) := cells_of hhy 3 _ rfl; have yl := lt_of_heap hhy; have X_y_w9 := Lib.hid hhy; clear hhy; have b0 : w9.cell? ⟨w.heap.size + 1, 0, none⟩ = some (.int .i64 z.kind) := cells_of hhb 0 _ rfl; have b1 : w9.cell? ⟨w.heap.size + 1, 1, none⟩ = some (.string z.text) := cells_of hhb 1 _ rfl; have b2 : w9.cell? ⟨w.heap.size + 1, 2, none⟩ = some (.slice z.la z.ll z.lc) := cells_of hhb 2 _ rfl; have b3 : w9.cell? ⟨w.heap.size + 1, 3, none⟩ = some (.slice z.ka z.kl z.kc) := cells_of hhb 3 _ rfl; have bl := lt_of_heap hhb; have X_b_w9 := Lib.hid hhb; clear hhb; have x0 : w9.cell? ⟨gx, 0, none⟩ = some (.int .i64 yx.kind) := cells_of hhx 0 _ rfl; have x1 : w9.cell? ⟨gx, 1, none⟩ = some (.string yx.text) := cells_of hhx 1 _ rfl; have x2 : w9.cell? ⟨gx, 2, none⟩ = some (.slice yx.la yx.ll yx.lc) := cells_of hhx 2 _ rfl; have x3 : w9.cell? ⟨gx, 3, none⟩ = some (.slice yx.ka yx.kl yx.kc) := cells_of hhx 3 _ rfl; have xl := lt_of_heap hhx; have X_x_w9 := Lib.hid hhx; clear hhx; have a0 : w9.cell? ⟨w.heap.size, 0, none⟩ = some (.int .i64 v.kind) := cells_of hha 0 _ rfl; have a1 : w9.cell? ⟨w.heap.size, 1, none⟩ = some (.string v.text) := cells_of hha 1 _ rfl; have a2 : w9.cell? ⟨w.heap.size, 2, none⟩ = some (.slice v.la v.ll v.lc) := cells_of hha 2 _ rfl; have a3 : w9.cell? ⟨w.heap.size, 3, none⟩ = some (.slice v.ka v.kl v.kc) := cells_of hha 3 _ rfl; have al := lt_of_heap hha; have X_a_w9 := Lib.hid hha; clear hha; have o0 : w9.cell? ⟨go, 0, none⟩ = some (.int .i64 yo.kind) := cells_of hho 0 _ rfl; have o1 : w9.cell? ⟨go, 1, none⟩ = some (.string yo.text) := cells_of hho 1 _ rfl; have o2 : w9.cell? ⟨go, 2, none⟩ = some (.slice yo.la yo.ll yo.lc) := cells_of hho 2 _ rfl; have o3 : w9.cell? ⟨go, 3, none⟩ = some (.slice yo.ka yo.kl yo.kc) := cells_of hho 3 _ rfl; have ol := lt_of_heap hho; have X_o_w9 := Lib.hid hho; clear hho; clear hbd) | (go_at_call 25; refine (same_any (SizeOf.sizeOf s) Sy S' s s yy z _ (Nat.le_refl _) (HTY7.out.keep (Below.refl _ _).drew) (HTB7.out.keep (Below.refl _ _).drew) (fit_small _ HFB.out)).mono ?_; rw [sameT_self]; rintro e w8 ⟨rfl, hb⟩; have hbd : Below w7.heap.size w7 w8 := (show Below w7.heap.size w7 _ from (Below.refl _ _).drew).trans hb; clear hb; have D8 := Lib.hid hbd; have hhy := (hbd.block (gy) yl).trans HXY7.out; have T_y_w8 := Lib.hid (HTY7.out.keep hbd); have hhb := (hbd.block (w.heap.size + 1) bl).trans HXB7.out; have T_b_w8 := Lib.hid (HTB7.out.keep hbd); have hhx := (hbd.block (gx) xl).trans HXX7.out; have T_x_w8 := Lib.hid (HTX7.out.keep hbd); have hha := (hbd.block (w.heap.size) al).trans HXA7.out; have T_a_w8 := Lib.hid (HTA7.out.keep hbd); have hho := (hbd.block (go) ol).trans HXO7.out; have T_o_w8 := Lib.hid (HTO7.out.keep hbd); clear y0 y1 y2 y3 yl b0 b1 b2 b3 bl x0 x1 x2 x3 xl a0 a1 a2 a3 al o0 o1 o2 o3 ol; have y0 : w8.cell? ⟨gy, 0, none⟩ = some (.int .i64 yy.kind) := cells_of hhy 0 _ rfl; have y1 : w8.cell? ⟨gy, 1, none⟩ = some (.string yy.text) := cells_of hhy 1 _ rfl; have y2 : w8.cell? ⟨gy, 2, none⟩ = some (.slice yy.la yy.ll yy.lc) := cells_of hhy 2 _ rfl; have y3 : w8.cell? ⟨gy, 3, none⟩ = some (.slice yy.ka yy.kl yy.kc) := cells_of hhy 3 _ rfl; have yl := lt_of_heap hhy; have X_y_w8 := Lib.hid hhy; clear hhy; have b0 : w8.cell? ⟨w.heap.size + 1, 0, none⟩ = some (.int .i64 z.kind) := cells_of hhb 0 _ rfl; have b1 : w8.cell? ⟨w.heap.size + 1, 1, none⟩ = some (.string z.text) := cells_of hhb 1 _ rfl; have b2 : w8.cell? ⟨w.heap.size + 1, 2, none⟩ = some (.slice z.la z.ll z.lc) := cells_of hhb 2 _ rfl; have b3 : w8.cell? ⟨w.heap.size + 1, 3, none⟩ = some (.slice z.ka z.kl z.kc) := cells_of hhb 3 _ rfl; have bl := lt_of_heap hhb; have X_b_w8 := Lib.hid hhb; clear hhb; have x0 : w8.cell? ⟨gx, 0, none⟩ = some (.int .i64 yx.kind) := cells_of hhx 0 _ rfl; have x1 : w8.cell? ⟨gx, 1, none⟩ = some (.string yx.text) := cells_of hhx 1 _ rfl; have x2 : w8.cell? ⟨gx, 2, none⟩ = some (.slice yx.la yx.ll yx.lc) := cells_of hhx 2 _ rfl; have x3 : w8.cell? ⟨gx, 3, none⟩ = some (.slice yx.ka yx.kl yx.kc) := cells_of hhx 3 _ rfl; have xl := lt_of_heap hhx; have X_x_w8 := Lib.hid hhx; clear hhx; have a0 : w8.cell? ⟨w.heap.size, 0, none⟩ = some (.int .i64 v.kind) := cells_of hha 0 _ rfl; have a1 : w8.cell? ⟨w.heap.size, 1, none⟩ = some (.string v.text) := cells_of hha 1 _ rfl; have a2 : w8.cell? ⟨w.heap.size, 2, none⟩ = some (.slice v.la v.ll v.lc) := cells_of hha 2 _ rfl; have a3 : w8.cell? ⟨w.heap.size, 3, none⟩ = some (.slice v.ka v.kl v.kc) := cells_of hha 3 _ rfl; have al := lt_of_heap hha; have X_a_w8 := Lib.hid hha; clear hha; have o0 : w8.cell? ⟨go, 0, none⟩ = some (.int .i64 yo.kind) := cells_of hho 0 _ rfl; have o1 : w8.cell? ⟨go, 1, none⟩ = some (.string yo.text) := cells_of hho 1 _ rfl; have o2 : w8.cell? ⟨go, 2, none⟩ = some (.slice yo.la yo.ll yo.lc) := cells_of hho 2 _ rfl; have o3 : w8.cell? ⟨go, 3, none⟩ = some (.slice yo.ka yo.kl yo.kc) := cells_of hho 3 _ rfl; have ol := lt_of_heap hho; have X_o_w8 := Lib.hid hho; clear hho; clear hbd))
    clear y0 y1 y2 y3 yl b0 b1 b2 b3 bl x0 x1 x2 x3 xl a0 a1 a2 a3 al o0 o1 o2 o3 ol e1 e2
    have HPSL := Lib.hid (HPS7.out.keep D12.out)
    have HIQL := Lib.hid (HIQ7.out.keep D12.out)
    have HCL := Lib.hid (show w12.cell? ⟨g, m, none⟩ = some (.slice pa q.length pc) from (World.cell?_of_block (w := w7) (a := ⟨g, m, none⟩) (D12.out.block g HGL7.out)).trans HC7.out)
    have HGLL := Lib.hid (Nat.lt_of_lt_of_le HGL7.out D12.out.size)
    have HBL := Lib.hid (HB7.out.trans (D12.out.mono HB7.out.size))
    go_wp2
    go_loopw [14] (fun i wr => PutsAt ps.length w w12 i wr) (fun i _ => ps.length - (intOf i).toNat)
    case atStart => exact ⟨0, rfl, Nat.zero_le _, HBL.out, Below.refl _ _⟩
    case round =>
      obtain ⟨j, rfl, hj, hbw, hbr⟩ := hrel
      have HBW := Lib.hid hbw
      have HBR := Lib.hid hbr
      have HTR := Lib.hid (T_a_w12.out.keep hbr)
      have HXR := Lib.hid ((hbr.block w.heap.size (lt_of_heap X_a_w12.out)).trans X_a_w12.out)
      have HTXR := Lib.hid (T_x_w12.out.keep hbr)
      have HXXR := Lib.hid ((hbr.block gx (lt_of_heap X_x_w12.out)).trans X_x_w12.out)
      have HPSR := Lib.hid (HPSL.out.keep hbr)
      have HIQR := Lib.hid (HIQL.out.keep hbr)
      have c0 : wr.cell? ⟨g, m, none⟩ = some (.slice pa q.length pc) := (World.cell?_of_block (w := w12) (a := ⟨g, m, none⟩) (hbr.block g HGLL.out)).trans HCL.out
      have gl := Nat.lt_of_lt_of_le HGLL.out hbr.size
      clear hbw hbr
      by_cases hlt : j < ps.length
      · obtain ⟨r, hr⟩ : ∃ r, ps[j]? = some r := ⟨_, List.getElem?_eq_getElem hlt⟩
        obtain ⟨g', ra, rc, hLA, _, d0, hrow⟩ := HPSR.out.at hr
        have hgg : g = g' := by injection hLA with e; injection e with e _ _
        subst hgg
        have HIR := Lib.hid hrow.ints
        have HRC := Lib.hid (show r.length ≤ rc from row_cap hrow)
        have HRL := Lib.hid (show r.length ≤ 1000 from by have h1 := rel_short (SizeOf.sizeOf t) t j r (Nat.le_refl _) (by rw [HREL.out]; exact hr); have h2 := HLEN.out; omega)
        have HRM := Lib.hid (show r.length ≤ maxLen from by have := HRL.out; unfold maxLen; omega)
        obtain ⟨k, hk⟩ : ∃ k, findT t r = some k := find_rel (SizeOf.sizeOf t) t j r (Nat.le_refl _) (by rw [HREL.out]; exact hr)
        have HK := Lib.hid hk
        have hja : (j : Int) < (ps.length : Int) := by omega
        have hj0 : (0 : Int) ≤ (j : Int) := by omega
        clear hr hrow hLA hk
        cases hb1 : begB r q with
        | true =>
          have HG1 := Lib.hid hb1
          clear hb1
          have HBQ1 := Lib.hid (show ∀ n, Calls Try.prog 28 #[.slice ra r.length rc, .slice pa q.length pc] (wr.drewN n) fun e w' => e = .returned (.bool true) ∧ ∃ k, w' = (wr.drewN n).drewN k from fun n => by have h := begins_q ra pa rc pc r q (wr.drewN n) (HIR.out.keep (below_drewN wr n)) (HIQR.out.keep (below_drewN wr n)) (by have := HQL.out; omega) HRC.out; rw [HG1.out] at h; exact h)
          go_wp2_with fail
          go_quiet ((go_at_call 28; with_reducible exact Calls.quiet_of (HBQ1.out _)))
          clear d0 c0 gl
          go_wp2
          go_roundw
          case measure => simp [intOf]; omega
          case rel => exact ⟨j + 1, by go_num, by omega, HBW.out.trans ((below_drewN wr _).mono HBW.out.size), HBR.out.trans ((below_drewN wr _).mono HBR.out.size)⟩
        | false =>
          have HG1 := Lib.hid hb1
          clear hb1
          have HBQ1 := Lib.hid (show ∀ n, Calls Try.prog 28 #[.slice ra r.length rc, .slice pa q.length pc] (wr.drewN n) fun e w' => e = .returned (.bool false) ∧ ∃ k, w' = (wr.drewN n).drewN k from fun n => by have h := begins_q ra pa rc pc r q (wr.drewN n) (HIR.out.keep (below_drewN wr n)) (HIQR.out.keep (below_drewN wr n)) (by have := HQL.out; omega) HRC.out; rw [HG1.out] at h; exact h)
          cases hb2 : begB q r with
          | true =>
            have HG2 := Lib.hid hb2
            clear hb2
            go_wp2_with fail
            have HBQ2 := Lib.hid (show ∀ n, Calls Try.prog 28 #[.slice pa q.length pc, .slice ra r.length rc] (wr.drewN n) fun e w' => e = .returned (.bool true) ∧ ∃ k, w' = (wr.drewN n).drewN k from fun n => by have h := begins_q pa ra pc rc q r (wr.drewN n) (HIQR.out.keep (below_drewN wr n)) (HIR.out.keep (below_drewN wr n)) (by have := HRL.out; omega) HQC.out; rw [HG2.out] at h; exact h)
            go_quiet (first | (go_at_call 28; with_reducible exact Calls.quiet_of (HBQ1.out _)) | (go_at_call 28; with_reducible exact Calls.quiet_of (HBQ2.out _)))
            clear d0 c0 gl
            go_wp2
            go_roundw
            case measure => simp [intOf]; omega
            case rel => exact ⟨j + 1, by go_num, by omega, HBW.out.trans ((below_drewN wr _).mono HBW.out.size), HBR.out.trans ((below_drewN wr _).mono HBR.out.size)⟩
          | false =>
            have HG2 := Lib.hid hb2
            have HFX := Lib.hid (show findT t' r = some k from by rw [find_other q r t s t' HP.out HG1.out hb2]; exact HK.out)
            clear hb2
            go_wp2_with fail
            have HBQ2 := Lib.hid (show ∀ n, Calls Try.prog 28 #[.slice pa q.length pc, .slice ra r.length rc] (wr.drewN n) fun e w' => e = .returned (.bool false) ∧ ∃ k, w' = (wr.drewN n).drewN k from fun n => by have h := begins_q pa ra pc rc q r (wr.drewN n) (HIQR.out.keep (below_drewN wr n)) (HIR.out.keep (below_drewN wr n)) (by have := HRL.out; omega) HQC.out; rw [HG2.out] at h; exact h)
            go_quiet (first | (go_at_call 28; with_reducible exact Calls.quiet_of (HBQ1.out _)) | (go_at_call 28; with_reducible exact Calls.quiet_of (HBQ2.out _)))
            go_wp2_with fail
            obtain ⟨wa, hwa⟩ : ∃ W, W = wr.drewN nq := ⟨_, rfl⟩
            rw [← hwa]
            have DA := Lib.hid (show Below wr.heap.size wr wa from by rw [hwa]; exact below_drewN wr nq)
            have HTW := Lib.hid (HTR.out.keep DA.out)
            have HXW := Lib.hid ((DA.out.block w.heap.size (lt_of_heap HXR.out)).trans HXR.out)
            have HTXW := Lib.hid (HTXR.out.keep DA.out)
            have HXXW := Lib.hid ((DA.out.block gx (lt_of_heap HXXR.out)).trans HXXR.out)
            have HIW := Lib.hid (HIR.out.keep DA.out)
            have hdj := (World.cell?_of_block (w := wr) (a := ⟨g, j, none⟩) (DA.out.block g gl)).trans d0
            have hgl := Nat.lt_of_lt_of_le gl DA.out.size
            clear hwa d0 c0 gl
            have d0 := hdj
            have gl := hgl
            have HD0 := Lib.hid hdj
            have HG0 := Lib.hid hgl
            clear hdj hgl
            have NA17 := Lib.hid (show w.heap.size ≠ wa.heap.size from Nat.ne_of_lt (lt_of_heap HXW.out))
            have NG17 := Lib.hid (show g ≠ wa.heap.size from Nat.ne_of_lt gl)
            have a0 : wa.cell? ⟨w.heap.size, 0, none⟩ = some (.int .i64 v.kind) := cells_of HXW.out 0 _ rfl
            have a1 : wa.cell? ⟨w.heap.size, 1, none⟩ = some (.string v.text) := cells_of HXW.out 1 _ rfl
            have a2 : wa.cell? ⟨w.heap.size, 2, none⟩ = some (.slice v.la v.ll v.lc) := cells_of HXW.out 2 _ rfl
            have a3 : wa.cell? ⟨w.heap.size, 3, none⟩ = some (.slice v.ka v.kl v.kc) := cells_of HXW.out 3 _ rfl
            have al := lt_of_heap HXW.out
            go_region_held3 (fun w' => w'.cell? ⟨w.heap.size, 0, none⟩ = some (.int .i64 v.kind) ∧ w'.cell? ⟨w.heap.size, 1, none⟩ = some (.string v.text) ∧ w'.cell? ⟨w.heap.size, 2, none⟩ = some (.slice v.la v.ll v.lc) ∧ w'.cell? ⟨w.heap.size, 3, none⟩ = some (.slice v.ka v.kl v.kc) ∧ w'.cell? ⟨g, j, none⟩ = some (.slice ra r.length rc)) (first | with_reducible exact ⟨a0, a1, a2, a3, d0⟩ | with_reducible exact ⟨al_cell a0, al_cell a1, al_cell a2, al_cell a3, al_cell d0⟩ | with_reducible exact ⟨dr_cell a0, dr_cell a1, dr_cell a2, dr_cell a3, dr_cell d0⟩ | with_reducible exact ⟨dr_cell (al_cell a0), dr_cell (al_cell a1), dr_cell (al_cell a2), dr_cell (al_cell a3), dr_cell (al_cell d0)⟩ | with_reducible exact ⟨raw4_cell NA17.out a0, raw4_cell NA17.out a1, raw4_cell NA17.out a2, raw4_cell NA17.out a3, raw4_cell NG17.out d0⟩ | go_keep) ((go_at_call 18; refine (at_own S t v ra rc r _ (HTW.out.keep (show Below wa.heap.size wa _ from (by first | exact (Below.refl _ _).drew | exact ((Below.refl _ _).alloc (Nat.le_refl _) _).drew))) (HIW.out.keep (show Below wa.heap.size wa _ from (by first | exact (Below.refl _ _).drew | exact ((Below.refl _ _).alloc (Nat.le_refl _) _).drew))) HRM.out HFA.out).mono ?_; rintro e wb ⟨hb, y, he, S9, hS9, hy⟩; rw [HK.out] at he hy; simp only [Option.isSome_some, Option.getD_some] at he hy; subst he; have hbd : Below wa.heap.size wa wb := (by first | exact (Below.refl _ _).drew.trans hb | exact (((Below.refl _ _).alloc (Nat.le_refl _) _).drew).trans (hb.mono (show wa.heap.size ≤ (wa.alloc (.cells #[.int .i64 0, .string ⟨#[]⟩, .slice none 0 0, .slice none 0 0] 25)).heap.size from by rw [World.size_alloc]; exact Nat.le_succ _))); have HBD := Lib.hid hbd; have HY := Lib.hid hy; (first | (have hbox : wb.heap[wa.heap.size]? = some (.cells #[.int .i64 0, .string ⟨#[]⟩, .slice none 0 0, .slice none 0 0] 25) := (hb.block wa.heap.size (show wa.heap.size < (wa.alloc (.cells #[.int .i64 0, .string ⟨#[]⟩, .slice none 0 0, .slice none 0 0] 25)).heap.size from by rw [World.size_alloc]; exact Nat.lt_succ_self _)).trans (heap_alloc_new wa (.cells #[.int .i64 0, .string ⟨#[]⟩, .slice none 0 0, .slice none 0 0] 25)); have e0 := cells_of hbox 0 _ rfl; have e1 := cells_of hbox 1 _ rfl; have e2 := cells_of hbox 2 _ rfl; have e3 := cells_of hbox 3 _ rfl; have ebl := lt_of_heap hbox; have ebf := Lib.frozen_of_heap hbox; have HBOX := Lib.hid hbox; have HNQ := Lib.hid (show ∀ k, S9 k → k ≠ wa.heap.size from fun k hk => Nat.ne_of_gt (show wa.heap.size < k from Nat.lt_of_lt_of_le (show wa.heap.size < (wa.alloc (.cells #[.int .i64 0, .string ⟨#[]⟩, .slice none 0 0, .slice none 0 0] 25)).heap.size from by rw [World.size_alloc]; exact Nat.lt_succ_self _) (hS9 k hk).2)); clear hbox) | skip); clear hb hy hS9; have hha := (hbd.block (w.heap.size) al).trans HXW.out; have hhd0 := (World.cell?_of_block (w := wa) (a := ⟨g, j, none⟩) (hbd.block g gl)).trans d0; have hhgl := Nat.lt_of_lt_of_le gl hbd.size; clear gl a0 a1 a2 a3 al d0; have a0 : wb.cell? ⟨w.heap.size, 0, none⟩ = some (.int .i64 v.kind) := cells_of hha 0 _ rfl; have a1 : wb.cell? ⟨w.heap.size, 1, none⟩ = some (.string v.text) := cells_of hha 1 _ rfl; have a2 : wb.cell? ⟨w.heap.size, 2, none⟩ = some (.slice v.la v.ll v.lc) := cells_of hha 2 _ rfl; have a3 : wb.cell? ⟨w.heap.size, 3, none⟩ = some (.slice v.ka v.kl v.kc) := cells_of hha 3 _ rfl; have al := lt_of_heap hha; have HXW_wb := Lib.hid hha; clear hha; have d0 := hhd0; clear hhd0; have gl := hhgl; clear hhgl; clear hbd))
            all_goals
              first
                | (have hh := HBOX.out
                   clear hh
                   obtain ⟨wd, hW⟩ : ∃ W, W = setT wb wa.heap.size y := ⟨_, rfl⟩
                   obtain ⟨gc, hg⟩ : ∃ g, g = wa.heap.size := ⟨_, rfl⟩
                   rw [show ((((wb.setCell ⟨wa.heap.size, 0, none⟩ (.int .i64 y.kind)).setCell ⟨wa.heap.size, 1, none⟩ (.string y.text)).setCell ⟨wa.heap.size, 2, none⟩ (.slice y.la y.ll y.lc)).setCell ⟨wa.heap.size, 3, none⟩ (.slice y.ka y.kl y.kc)) = wd from hW.symm, show wa.heap.size = gc from hg.symm]
                   have HBXgc := Lib.hid (show BoxAt wd gc k from by rw [hW, hg]; exact ⟨y, S9, setT_heap (v := noTV) y HBOX.out, TrAt.move (w' := setT wb wa.heap.size y) (fun _ h => h) (fun k hk _ => setT_other y (HNQ.out k hk)) _ _ HY.out⟩)
                   have Dwd := Lib.hid (show Below wa.heap.size wa wd from by rw [hW]; exact HBD.out.trans (setT_below wb wa.heap.size y))
                   clear hW hg HBOX HNQ e0 e1 e2 e3 ebl ebf)
                | (obtain ⟨wd, hW⟩ : ∃ W, W = wb.alloc (trO y) := ⟨_, rfl⟩
                   obtain ⟨gc, hg⟩ : ∃ g, g = wb.heap.size := ⟨_, rfl⟩
                   rw [show wb.alloc (.cells #[.int .i64 y.kind, .string y.text, .slice y.la y.ll y.lc, .slice y.ka y.kl y.kc] 25) = wd from hW.symm, show wb.heap.size = gc from hg.symm]
                   have HBXgc := Lib.hid (show BoxAt wd gc k from by rw [hW, hg]; exact ⟨y, S9, heap_alloc_new _ _, HY.out.keep ((Below.refl _ _).alloc (Nat.le_refl _) _)⟩)
                   have Dwd := Lib.hid (show Below wa.heap.size wa wd from by rw [hW]; exact HBD.out.alloc HBD.out.size _)
                   clear hW hg)
              clear HBD HY a0 a1 a2 a3 al d0 gl
              have HTXV := Lib.hid (HTXW.out.keep Dwd.out)
              have HXXV := Lib.hid ((Dwd.out.block gx (lt_of_heap HXXW.out)).trans HXXW.out)
              have HIV := Lib.hid (HIW.out.keep Dwd.out)
              have d0 := (World.cell?_of_block (w := wa) (a := ⟨g, j, none⟩) (Dwd.out.block g HG0.out)).trans HD0.out
              have gl := Nat.lt_of_lt_of_le HG0.out Dwd.out.size
              have NX18 := Lib.hid (show gx ≠ wd.heap.size from Nat.ne_of_lt (lt_of_heap HXXV.out))
              have NG18 := Lib.hid (show g ≠ wd.heap.size from Nat.ne_of_lt gl)
              have x0 : wd.cell? ⟨gx, 0, none⟩ = some (.int .i64 yx.kind) := cells_of HXXV.out 0 _ rfl
              have x1 : wd.cell? ⟨gx, 1, none⟩ = some (.string yx.text) := cells_of HXXV.out 1 _ rfl
              have x2 : wd.cell? ⟨gx, 2, none⟩ = some (.slice yx.la yx.ll yx.lc) := cells_of HXXV.out 2 _ rfl
              have x3 : wd.cell? ⟨gx, 3, none⟩ = some (.slice yx.ka yx.kl yx.kc) := cells_of HXXV.out 3 _ rfl
              have xl := lt_of_heap HXXV.out
              go_wp2_with fail
              go_region_held3 (fun w' => w'.cell? ⟨gx, 0, none⟩ = some (.int .i64 yx.kind) ∧ w'.cell? ⟨gx, 1, none⟩ = some (.string yx.text) ∧ w'.cell? ⟨gx, 2, none⟩ = some (.slice yx.la yx.ll yx.lc) ∧ w'.cell? ⟨gx, 3, none⟩ = some (.slice yx.ka yx.kl yx.kc) ∧ w'.cell? ⟨g, j, none⟩ = some (.slice ra r.length rc)) (first | with_reducible exact ⟨x0, x1, x2, x3, d0⟩ | with_reducible exact ⟨al_cell x0, al_cell x1, al_cell x2, al_cell x3, al_cell d0⟩ | with_reducible exact ⟨dr_cell x0, dr_cell x1, dr_cell x2, dr_cell x3, dr_cell d0⟩ | with_reducible exact ⟨dr_cell (al_cell x0), dr_cell (al_cell x1), dr_cell (al_cell x2), dr_cell (al_cell x3), dr_cell (al_cell d0)⟩ | with_reducible exact ⟨raw4_cell NX18.out x0, raw4_cell NX18.out x1, raw4_cell NX18.out x2, raw4_cell NX18.out x3, raw4_cell NG18.out d0⟩ | go_keep) ((go_at_call 18; refine (at_own Sx t' yx ra rc r _ (HTXV.out.keep (show Below wd.heap.size wd _ from (by first | exact (Below.refl _ _).drew | exact ((Below.refl _ _).alloc (Nat.le_refl _) _).drew))) (HIV.out.keep (show Below wd.heap.size wd _ from (by first | exact (Below.refl _ _).drew | exact ((Below.refl _ _).alloc (Nat.le_refl _) _).drew))) HRM.out HFP.out).mono ?_; rintro e we ⟨hb, y, he, S9, hS9, hy⟩; rw [HFX.out] at he hy; simp only [Option.isSome_some, Option.getD_some] at he hy; subst he; have hbd : Below wd.heap.size wd we := (by first | exact (Below.refl _ _).drew.trans hb | exact (((Below.refl _ _).alloc (Nat.le_refl _) _).drew).trans (hb.mono (show wd.heap.size ≤ (wd.alloc (.cells #[.int .i64 0, .string ⟨#[]⟩, .slice none 0 0, .slice none 0 0] 25)).heap.size from by rw [World.size_alloc]; exact Nat.le_succ _))); have HBD := Lib.hid hbd; have HY := Lib.hid hy; (first | (have hbox : we.heap[wd.heap.size]? = some (.cells #[.int .i64 0, .string ⟨#[]⟩, .slice none 0 0, .slice none 0 0] 25) := (hb.block wd.heap.size (show wd.heap.size < (wd.alloc (.cells #[.int .i64 0, .string ⟨#[]⟩, .slice none 0 0, .slice none 0 0] 25)).heap.size from by rw [World.size_alloc]; exact Nat.lt_succ_self _)).trans (heap_alloc_new wd (.cells #[.int .i64 0, .string ⟨#[]⟩, .slice none 0 0, .slice none 0 0] 25)); have e0 := cells_of hbox 0 _ rfl; have e1 := cells_of hbox 1 _ rfl; have e2 := cells_of hbox 2 _ rfl; have e3 := cells_of hbox 3 _ rfl; have ebl := lt_of_heap hbox; have ebf := Lib.frozen_of_heap hbox; have HBOX := Lib.hid hbox; have HNQ := Lib.hid (show ∀ k, S9 k → k ≠ wd.heap.size from fun k hk => Nat.ne_of_gt (show wd.heap.size < k from Nat.lt_of_lt_of_le (show wd.heap.size < (wd.alloc (.cells #[.int .i64 0, .string ⟨#[]⟩, .slice none 0 0, .slice none 0 0] 25)).heap.size from by rw [World.size_alloc]; exact Nat.lt_succ_self _) (hS9 k hk).2)); clear hbox) | skip); clear hb hy hS9; have hhx := (hbd.block (gx) xl).trans HXXV.out; have hhd0 := (World.cell?_of_block (w := wd) (a := ⟨g, j, none⟩) (hbd.block g gl)).trans d0; have hhgl := Nat.lt_of_lt_of_le gl hbd.size; clear gl x0 x1 x2 x3 xl d0; have x0 : we.cell? ⟨gx, 0, none⟩ = some (.int .i64 yx.kind) := cells_of hhx 0 _ rfl; have x1 : we.cell? ⟨gx, 1, none⟩ = some (.string yx.text) := cells_of hhx 1 _ rfl; have x2 : we.cell? ⟨gx, 2, none⟩ = some (.slice yx.la yx.ll yx.lc) := cells_of hhx 2 _ rfl; have x3 : we.cell? ⟨gx, 3, none⟩ = some (.slice yx.ka yx.kl yx.kc) := cells_of hhx 3 _ rfl; have xl := lt_of_heap hhx; have HXXV_we := Lib.hid hhx; clear hhx; have d0 := hhd0; clear hhd0; have gl := hhgl; clear hhgl; clear hbd))
              all_goals
                first
                  | (have hh := HBOX.out
                     clear hh
                     obtain ⟨wf, hW⟩ : ∃ W, W = setT we wd.heap.size y := ⟨_, rfl⟩
                     obtain ⟨gd, hg⟩ : ∃ g, g = wd.heap.size := ⟨_, rfl⟩
                     rw [show ((((we.setCell ⟨wd.heap.size, 0, none⟩ (.int .i64 y.kind)).setCell ⟨wd.heap.size, 1, none⟩ (.string y.text)).setCell ⟨wd.heap.size, 2, none⟩ (.slice y.la y.ll y.lc)).setCell ⟨wd.heap.size, 3, none⟩ (.slice y.ka y.kl y.kc)) = wf from hW.symm, show wd.heap.size = gd from hg.symm]
                     have HBXgd := Lib.hid (show BoxAt wf gd k from by rw [hW, hg]; exact ⟨y, S9, setT_heap (v := noTV) y HBOX.out, TrAt.move (w' := setT we wd.heap.size y) (fun _ h => h) (fun k hk _ => setT_other y (HNQ.out k hk)) _ _ HY.out⟩)
                     have Dwf := Lib.hid (show Below wd.heap.size wd wf from by rw [hW]; exact HBD.out.trans (setT_below we wd.heap.size y))
                     clear hW hg HBOX HNQ e0 e1 e2 e3 ebl ebf)
                  | (obtain ⟨wf, hW⟩ : ∃ W, W = we.alloc (trO y) := ⟨_, rfl⟩
                     obtain ⟨gd, hg⟩ : ∃ g, g = we.heap.size := ⟨_, rfl⟩
                     rw [show we.alloc (.cells #[.int .i64 y.kind, .string y.text, .slice y.la y.ll y.lc, .slice y.ka y.kl y.kc] 25) = wf from hW.symm, show we.heap.size = gd from hg.symm]
                     have HBXgd := Lib.hid (show BoxAt wf gd k from by rw [hW, hg]; exact ⟨y, S9, heap_alloc_new _ _, HY.out.keep ((Below.refl _ _).alloc (Nat.le_refl _) _)⟩)
                     have Dwf := Lib.hid (show Below wd.heap.size wd wf from by rw [hW]; exact HBD.out.alloc HBD.out.size _)
                     clear hW hg)
                clear HBD HY x0 x1 x2 x3 xl d0 gl
                obtain ⟨yc, Sc, hcx, hct⟩ := HBXgc.out.keep Dwf.out
                obtain ⟨yd, Sd, hdx, hdt⟩ := HBXgd.out
                have HCT := Lib.hid hct
                have HDT := Lib.hid hdt
                have p0 : wf.cell? ⟨gc, 0, none⟩ = some (.int .i64 yc.kind) := cells_of hcx 0 _ rfl
                have p1 : wf.cell? ⟨gc, 1, none⟩ = some (.string yc.text) := cells_of hcx 1 _ rfl
                have p2 : wf.cell? ⟨gc, 2, none⟩ = some (.slice yc.la yc.ll yc.lc) := cells_of hcx 2 _ rfl
                have p3 : wf.cell? ⟨gc, 3, none⟩ = some (.slice yc.ka yc.kl yc.kc) := cells_of hcx 3 _ rfl
                have pl := lt_of_heap hcx
                have q0 : wf.cell? ⟨gd, 0, none⟩ = some (.int .i64 yd.kind) := cells_of hdx 0 _ rfl
                have q1 : wf.cell? ⟨gd, 1, none⟩ = some (.string yd.text) := cells_of hdx 1 _ rfl
                have q2 : wf.cell? ⟨gd, 2, none⟩ = some (.slice yd.la yd.ll yd.lc) := cells_of hdx 2 _ rfl
                have q3 : wf.cell? ⟨gd, 3, none⟩ = some (.slice yd.ka yd.kl yd.kc) := cells_of hdx 3 _ rfl
                have ql := lt_of_heap hdx
                clear hcx hdx hct hdt
                have HFK := Lib.hid ((fit_find r t k HFA.out HK.out).1)
                go_wp2_with fail
                go_at_call 25
                refine (same_any (SizeOf.sizeOf k) Sc Sd k k yc yd _ (Nat.le_refl _) HCT.out HDT.out (fit_small _ HFK.out)).mono ?_
                rw [sameT_self]
                rintro e wg ⟨rfl, hb⟩
                have DG := Lib.hid (DA.out.trans ((Dwd.out.trans ((Dwf.out.trans (hb.mono Dwf.out.size)).mono Dwd.out.size)).mono DA.out.size))
                clear hb p0 p1 p2 p3 pl q0 q1 q2 q3 ql
                go_wp2
                go_roundw
                case measure => simp [intOf]; omega
                case rel => exact ⟨j + 1, by go_num, by omega, HBW.out.trans (DG.out.mono HBW.out.size), HBR.out.trans (DG.out.mono HBR.out.size)⟩
      · clear c0 gl
        go_wp2_with fail
        go_at_call 10
        refine (awake_any _).mono ?_
        rintro e w13 ⟨rfl, hb13⟩
        have HB13 := Lib.hid (HBW.out.trans (hb13.mono HBW.out.size))
        clear hb13
        go_wp2_with fail
        go_ret
        exact ⟨rfl, HB13.out⟩
theorem walk (S S' : Nat → Prop) (t s : Tr) (v z : TV) (n : Int) (w : World) (h : TrAt S w t v) (h' : TrAt S' w s z) (hc : cntT t ≤ 1048576) (hc' : cntT s ≤ 1048576) :
    Calls Try.prog 7 #[.agg #[.int .i64 v.kind, .string v.text, .slice v.la v.ll v.lc, .slice v.ka v.kl v.kc], .int .i64 n, .agg #[.int .i64 z.kind, .string z.text, .slice z.la z.ll z.lc, .slice z.ka z.kl z.kc]] w fun e w' => e = .returned (.bool true) ∧ Below w.heap.size w w' := by
  cases hd : (decide (sizeT t ≤ 300) && decide (0 ≤ 100))
  · exact walk_no1 S S' t s v z n w h h' hc hc' hd
  · cases he : (decide (sizeT s ≤ 300) && decide (0 ≤ 100))
    · exact walk_no2 S S' t s v z n w h h' hc hc' hd he
    · exact walk_yes S S' t s v z n w h h' hc hc' hd he
set_option maxRecDepth 100000 in
theorem contract (H : Type) (enc : TypeId × Value → H) (W : World) (base : Nat) (args : Array Value) (ds gs : List (DataW H)) (before : List MemPlace)
    (hval : ∀ (j : Nat) t v, Try.f7.params[j]? = some t → args[j]? = some v → Value.okWide Try.prog W .any base t v)
    (hW : DataW.Whole enc Try.prog Try.f7.params.toList Rows.treePutsSpec.vars false W args.toList ds gs before) (hk : Rows.uptoSmall H (ds ++ gs) = true) :
    Calls Try.prog 7 args W fun e W' => ∃ v, e = .returned v ∧ Rows.treePutsSpec.post enc Try.prog Try.f7 false true false false W args v W' := by
  have hW' := hW
  obtain ⟨p, q, hA0, hV, rfl, hfz, hnd⟩ := hW
  have hA : DataW.TrodAll enc Try.prog W 0 (fun _ => true) true Try.f7.params.toList args.toList ds p := hA0
  rw [Try.params7] at hA hval
  obtain ⟨v0, vs0, d0, ds0, p0, q0, hargs, rfl, rfl, h0, r0⟩ := trodAll_cons hA
  obtain ⟨v1, vs1, d1, ds1, p1, q1, rfl, rfl, rfl, h1, r1⟩ := trodAll_cons r0
  obtain ⟨v2, vs2, d2, ds2, p2, q2, rfl, rfl, rfl, h2, r2⟩ := trodAll_cons r1
  obtain ⟨rfl, rfl, rfl⟩ := trodAll_nil r2
  obtain rfl : args = #[v0, v1, v2] := by cases args; simp_all
  obtain ⟨rfl, rfl⟩ := trodVars_none hV
  have k0 := h0
  have lt0 : ∀ x ∈ p0, x.block < W.heap.size := by obtain ⟨m, hm⟩ := k0; exact DataW.trod_lt m _ _ _ hm
  have k2 := h2
  have lt2 : ∀ x ∈ p2, x.block < W.heap.size := by obtain ⟨m, hm⟩ := k2; exact DataW.trod_lt m _ _ _ hm
  obtain ⟨fuel, hf⟩ := h0
  obtain ⟨t, tv, hcs, htr, hbk⟩ := open_tree fuel hf
  have hv0 : v0 = .agg #[.int .i64 tv.kind, .string tv.text, .slice tv.la tv.ll tv.lc, .slice tv.ka tv.kl tv.kc] := tree_value hcs
  obtain ⟨a1, rfl, rfl, rfl, w1⟩ := open_int Try.underlying3 (hval 1 3 v1 rfl rfl) h1
  obtain ⟨fuel2, hf2⟩ := h2
  obtain ⟨s2, tv2, hcs2, htr2, hbk2⟩ := open_tree fuel2 hf2
  have hv2 : v2 = .agg #[.int .i64 tv2.kind, .string tv2.text, .slice tv2.la tv2.ll tv2.lc, .slice tv2.ka tv2.kl tv2.kc] := tree_value hcs2
  have hb : Rows.uptoBulkAll [d0, _, d2] ≤ 1048576 := of_decide_eq_true hk
  simp only [Rows.uptoBulkAll] at hb
  have hq0 : cntT t + 1 ≤ Rows.uptoBulk d0 := hbk
  have hq2 : cntT s2 + 1 ≤ Rows.uptoBulk d2 := hbk2
  subst hv0 hv2
  clear hA0
  refine (walk _ _ t s2 tv tv2 a1 W htr htr2 (by omega) (by omega)).mono fun e W' ⟨he, bel⟩ => ?_
  subst he
  exact ⟨_, rfl, _, _, _, [], _, [], hW', trodAll_mk1 (shut_bool Try.underlying4 _), (trodAll_cons_mk (Below.trod laidOut (by kernel_rfl) (of_decide_eq_true (by kernel_rfl)) k0 bel lt0) (trodAll_cons_mk (shut_int Try.underlying3 w1) (trodAll_cons_mk (Below.trod laidOut (by kernel_rfl) (of_decide_eq_true (by kernel_rfl)) k2 bel lt2) trodAll_mk0))), rfl, bel.frame _, fun h => by cases h⟩
set_option maxRecDepth 100000 in
theorem lifted (os : Os) (started : os.Started) (H : Type) (enc : TypeId × Value → H) (F : Stop.Interp) :
    ReturnsInHanded {} Try.checked os 7 .any ((Rows.OpenSpec.upto Rows.treePutsSpec).pre6 enc Try.prog Try.f7 Rows.treePutsUptoRow.domain false) (((Rows.OpenSpec.upto Rows.treePutsSpec).at F).post enc Try.prog Try.f7 false true false false) := by
  refine returnsInHanded_of_cond (C := Try.checked) (s := Rows.OpenSpec.upto Rows.treePutsSpec) (k := Rows.uptoSmall) rfl own started (by kernel_rfl) Try.func7
    (OpenSpec.witness (enc := enc) (C := Try.checked) (s := Rows.OpenSpec.upto Rows.treePutsSpec) (k := Rows.uptoSmall) rfl false ⟨#[], #[.agg #[.int .i64 0, .string .empty, .slice none 0 0, .slice none 0 0], .int .i64 0, .agg #[.int .i64 0, .string .empty, .slice none 0 0, .slice none 0 0]], []⟩ 8 (by kernel_rfl) (by kernel_rfl) (by kernel_rfl)
      (x := ([.agg [.lit (.int .i64 0), .lit (.string []), .nil, .nil], .lit (.int .i64 0), .agg [.lit (.int .i64 0), .lit (.string []), .nil, .nil]], [], [])) (by kernel_rfl) rfl (by kernel_rfl)) ?_
  intro W base args ds gs before hval hW _ hk _
  exact contract H enc W base args ds gs before hval hW hk
theorem proved : Rows.TreePutsUptoSaid :=
  OpenClaim.holds_of_cond 7 Try.f7 rfl rfl rfl rfl rfl rfl rfl ⟨rfl, rfl, rfl, rfl, rfl⟩ rfl rfl rfl rfl rfl (by kernel_rfl) Try.func7 (by kernel_rfl)
    (of_decide_eq_true (by kernel_rfl)) (by unfold Func.isWrapper; first | (rw [if_pos (by decide +kernel)]; kernel_rfl) | (rw [if_neg (by decide +kernel)]; exact ⟨rfl, rfl⟩))
    (fun os started H enc _ F => lifted os started H enc F)
#print axioms proved
end Go.Proofs.Ytojekhbebcdccaa.treePuts
