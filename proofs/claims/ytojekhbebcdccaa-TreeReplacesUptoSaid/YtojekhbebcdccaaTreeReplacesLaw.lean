/- The law TreeReplaces holds for every input of bulk at most 1048576: the call returns true, and each argument reads as it read. Condition: the bulk. -/
import Derived.Test.YtojekhbebcdccaaTreLight
import Derived.Test.YtojekhbebcdccaaTreRReplace
import Derived.ProofKit
import Derived.OpenShut
import Derived.ShutString
import Derived.ChangeOld
import Derived.JoinedCond
namespace Go.Proofs.Ytojekhbebcdccaa.treeReplaces
open Go.ChangeShapes Go.WideShapes Go.ChangeAt Go.RowKit
open Go.ChangeMaps (open_string shut_string)
set_option linter.unusedVariables false
theorem own : ownKnob Try.prog.godebug = none := by kernel_rfl
theorem laidOut : laidOutB Try.prog = true := by kernel_rfl
theorem tree_value {v0 : Value} {tv : TV} (h : v0.cells.toList = tv.cells) : v0 = .agg #[.int .i64 tv.kind, .string tv.text, .slice tv.la tv.ll tv.lc, .slice tv.ka tv.kl tv.kc] := by
  cases v0 <;> simp [Value.cells, TV.cells] at h
  rename_i cs
  congr 1
  exact Array.toList_inj.1 h
set_option maxRecDepth 100000 in
set_option maxHeartbeats 4000000 in
theorem walk_no1 (S S' : Nat → Prop) (t s : Tr) (v z : TV) (A : Option Addr) (c : Nat) (zs : List Int) (w : World) (h : TrAt S w t v) (h' : TrAt S' w s z) (hA : IntsAt w A zs) (hz : zs.length ≤ maxLen) (hzc : zs.length ≤ c) (hc : cntT t ≤ 1048576) (hc' : cntT s ≤ 1048576) (hd : (decide (sizeT t ≤ 300) && decide (zs.length ≤ 100)) = false) :
    Calls Try.prog 5 #[.agg #[.int .i64 v.kind, .string v.text, .slice v.la v.ll v.lc, .slice v.ka v.kl v.kc], .slice A zs.length c, .agg #[.int .i64 z.kind, .string z.text, .slice z.la z.ll z.lc, .slice z.ka z.kl z.kc]] w fun e w' => e = .returned (.bool true) ∧ Below w.heap.size w w' := by
  have HB0 := Lib.hid (((Below.refl w.heap.size w).alloc (Nat.le_refl _) (trO v)).alloc (by rw [World.size_alloc]; omega) (trO z))
  have HTA0 := Lib.hid (h.keep HB0.out)
  have HTB0 := Lib.hid (h'.keep HB0.out)
  have HI0 := Lib.hid (hA.keep HB0.out)
  have HXA0 := Lib.hid (show ((w.alloc (trO v)).alloc (trO z)).heap[w.heap.size]? = some (trO v) from (Below.heap_alloc _ _ _ (by rw [World.size_alloc]; omega)).trans (heap_alloc_new w (trO v)))
  have HXB0 := Lib.hid (show ((w.alloc (trO v)).alloc (trO z)).heap[w.heap.size + 1]? = some (trO z) from by rw [← World.size_alloc w (trO v)]; exact heap_alloc_new _ _)
  have HSA := Lib.hid (show sizeT t ≤ 140737488355328 from by have := size_cnt t; omega)
  have HSB := Lib.hid (show sizeT s ≤ 140737488355328 from by have := size_cnt s; omega)
  have HFA := Lib.hid (fit_cnt t hc)
  have HFB := Lib.hid (fit_cnt s hc')
  have HZ := Lib.hid hz
  have HZC := Lib.hid hzc
  have a0 := cells_of HXA0.out 0 _ rfl
  have a1 := cells_of HXA0.out 1 _ rfl
  have a2 := cells_of HXA0.out 2 _ rfl
  have a3 := cells_of HXA0.out 3 _ rfl
  have al := lt_of_heap HXA0.out
  have b0 := cells_of HXB0.out 0 _ rfl
  have b1 := cells_of HXB0.out 1 _ rfl
  have b2 := cells_of HXB0.out 2 _ rfl
  have b3 := cells_of HXB0.out 3 _ rfl
  have bl := lt_of_heap HXB0.out
  have HD := Lib.hid hd
  clear h h' hA hz hzc hc hc' hd
  go_enter Try.func5, Try.ntmps5
  go_wp2_with fail
  go_at_call 9
  refine (light_any S t v A c zs.length _ HTA0.out HSA.out).mono ?_
  rw [HD.out]
  rintro e w1 ⟨rfl, hb1⟩
  have HB1 := Lib.hid (HB0.out.trans (hb1.mono HB0.out.size))
  have HTA1 := Lib.hid (HTA0.out.keep hb1)
  have HTB1 := Lib.hid (HTB0.out.keep hb1)
  have HI1 := Lib.hid (HI0.out.keep hb1)
  have HXA1 := Lib.hid ((hb1.block w.heap.size (lt_of_heap HXA0.out)).trans HXA0.out)
  have HXB1 := Lib.hid ((hb1.block (w.heap.size + 1) (lt_of_heap HXB0.out)).trans HXB0.out)
  clear hb1
  clear a0 a1 a2 a3 al b0 b1 b2 b3 bl
  have a0 := cells_of HXA1.out 0 _ rfl
  have a1 := cells_of HXA1.out 1 _ rfl
  have a2 := cells_of HXA1.out 2 _ rfl
  have a3 := cells_of HXA1.out 3 _ rfl
  have al := lt_of_heap HXA1.out
  have b0 := cells_of HXB1.out 0 _ rfl
  have b1 := cells_of HXB1.out 1 _ rfl
  have b2 := cells_of HXB1.out 2 _ rfl
  have b3 := cells_of HXB1.out 3 _ rfl
  have bl := lt_of_heap HXB1.out
  go_wp2_with fail
  go_at_call 10
  refine (awake_any _).mono ?_
  rintro e w9 ⟨rfl, hb9⟩
  have HB9 := Lib.hid (HB1.out.trans (hb9.mono HB1.out.size))
  clear hb9
  go_wp2_with fail
  go_ret
  exact ⟨rfl, HB9.out⟩
set_option maxRecDepth 100000 in
set_option maxHeartbeats 4000000 in
theorem walk_no2 (S S' : Nat → Prop) (t s : Tr) (v z : TV) (A : Option Addr) (c : Nat) (zs : List Int) (w : World) (h : TrAt S w t v) (h' : TrAt S' w s z) (hA : IntsAt w A zs) (hz : zs.length ≤ maxLen) (hzc : zs.length ≤ c) (hc : cntT t ≤ 1048576) (hc' : cntT s ≤ 1048576) (hd : (decide (sizeT t ≤ 300) && decide (zs.length ≤ 100)) = true) (he : (decide (sizeT s ≤ 300) && decide (0 ≤ 100)) = false) :
    Calls Try.prog 5 #[.agg #[.int .i64 v.kind, .string v.text, .slice v.la v.ll v.lc, .slice v.ka v.kl v.kc], .slice A zs.length c, .agg #[.int .i64 z.kind, .string z.text, .slice z.la z.ll z.lc, .slice z.ka z.kl z.kc]] w fun e w' => e = .returned (.bool true) ∧ Below w.heap.size w w' := by
  have HB0 := Lib.hid (((Below.refl w.heap.size w).alloc (Nat.le_refl _) (trO v)).alloc (by rw [World.size_alloc]; omega) (trO z))
  have HTA0 := Lib.hid (h.keep HB0.out)
  have HTB0 := Lib.hid (h'.keep HB0.out)
  have HI0 := Lib.hid (hA.keep HB0.out)
  have HXA0 := Lib.hid (show ((w.alloc (trO v)).alloc (trO z)).heap[w.heap.size]? = some (trO v) from (Below.heap_alloc _ _ _ (by rw [World.size_alloc]; omega)).trans (heap_alloc_new w (trO v)))
  have HXB0 := Lib.hid (show ((w.alloc (trO v)).alloc (trO z)).heap[w.heap.size + 1]? = some (trO z) from by rw [← World.size_alloc w (trO v)]; exact heap_alloc_new _ _)
  have HSA := Lib.hid (show sizeT t ≤ 140737488355328 from by have := size_cnt t; omega)
  have HSB := Lib.hid (show sizeT s ≤ 140737488355328 from by have := size_cnt s; omega)
  have HFA := Lib.hid (fit_cnt t hc)
  have HFB := Lib.hid (fit_cnt s hc')
  have HZ := Lib.hid hz
  have HZC := Lib.hid hzc
  have a0 := cells_of HXA0.out 0 _ rfl
  have a1 := cells_of HXA0.out 1 _ rfl
  have a2 := cells_of HXA0.out 2 _ rfl
  have a3 := cells_of HXA0.out 3 _ rfl
  have al := lt_of_heap HXA0.out
  have b0 := cells_of HXB0.out 0 _ rfl
  have b1 := cells_of HXB0.out 1 _ rfl
  have b2 := cells_of HXB0.out 2 _ rfl
  have b3 := cells_of HXB0.out 3 _ rfl
  have bl := lt_of_heap HXB0.out
  have HD := Lib.hid hd
  have HE := Lib.hid he
  clear h h' hA hz hzc hc hc' hd he
  go_enter Try.func5, Try.ntmps5
  go_wp2_with fail
  go_at_call 9
  refine (light_any S t v A c zs.length _ HTA0.out HSA.out).mono ?_
  rw [HD.out]
  rintro e w1 ⟨rfl, hb1⟩
  have HB1 := Lib.hid (HB0.out.trans (hb1.mono HB0.out.size))
  have HTA1 := Lib.hid (HTA0.out.keep hb1)
  have HTB1 := Lib.hid (HTB0.out.keep hb1)
  have HI1 := Lib.hid (HI0.out.keep hb1)
  have HXA1 := Lib.hid ((hb1.block w.heap.size (lt_of_heap HXA0.out)).trans HXA0.out)
  have HXB1 := Lib.hid ((hb1.block (w.heap.size + 1) (lt_of_heap HXB0.out)).trans HXB0.out)
  clear hb1
  clear a0 a1 a2 a3 al b0 b1 b2 b3 bl
  have a0 := cells_of HXA1.out 0 _ rfl
  have a1 := cells_of HXA1.out 1 _ rfl
  have a2 := cells_of HXA1.out 2 _ rfl
  have a3 := cells_of HXA1.out 3 _ rfl
  have al := lt_of_heap HXA1.out
  have b0 := cells_of HXB1.out 0 _ rfl
  have b1 := cells_of HXB1.out 1 _ rfl
  have b2 := cells_of HXB1.out 2 _ rfl
  have b3 := cells_of HXB1.out 3 _ rfl
  have bl := lt_of_heap HXB1.out
  go_wp2_with fail
  go_at_call 9
  refine (light_any S' s z none 0 0 _ HTB1.out HSB.out).mono ?_
  rw [HE.out]
  rintro e w2 ⟨rfl, hb2⟩
  have HB2 := Lib.hid (HB1.out.trans (hb2.mono HB1.out.size))
  have HTA2 := Lib.hid (HTA1.out.keep hb2)
  have HTB2 := Lib.hid (HTB1.out.keep hb2)
  have HI2 := Lib.hid (HI1.out.keep hb2)
  have HXA2 := Lib.hid ((hb2.block w.heap.size (lt_of_heap HXA1.out)).trans HXA1.out)
  have HXB2 := Lib.hid ((hb2.block (w.heap.size + 1) (lt_of_heap HXB1.out)).trans HXB1.out)
  clear hb2
  clear a0 a1 a2 a3 al b0 b1 b2 b3 bl
  have a0 := cells_of HXA2.out 0 _ rfl
  have a1 := cells_of HXA2.out 1 _ rfl
  have a2 := cells_of HXA2.out 2 _ rfl
  have a3 := cells_of HXA2.out 3 _ rfl
  have al := lt_of_heap HXA2.out
  have b0 := cells_of HXB2.out 0 _ rfl
  have b1 := cells_of HXB2.out 1 _ rfl
  have b2 := cells_of HXB2.out 2 _ rfl
  have b3 := cells_of HXB2.out 3 _ rfl
  have bl := lt_of_heap HXB2.out
  go_wp2_with fail
  go_at_call 10
  refine (awake_any _).mono ?_
  rintro e w9 ⟨rfl, hb9⟩
  have HB9 := Lib.hid (HB2.out.trans (hb9.mono HB2.out.size))
  clear hb9
  go_wp2_with fail
  go_ret
  exact ⟨rfl, HB9.out⟩
theorem fitL_set : (l : List Tr) → (i : Nat) → (k : Tr) → fitL l = true → fitT k = true → fitL (l.set i k) = true
  | [], _, _, _, _ => rfl
  | a :: r, 0, k, h, hk => by
    rw [fitL, Bool.and_eq_true] at h
    rw [List.set_cons_zero, fitL, hk, h.2]
    rfl
  | a :: r, i + 1, k, h, hk => by
    rw [fitL, Bool.and_eq_true] at h
    rw [List.set_cons_succ, fitL, h.1, fitL_set r i k h.2 hk]
    rfl
theorem fit_puts : ∀ (zs : List Int) (t s t' : Tr), fitT t = true → fitT s = true → putT zs t s = some t' → fitT t' = true
  | [], t, s, t', _, hs, h => by
    unfold putT at h
    injection h with h
    rw [← h]
    exact hs
  | z :: r, .mk k x ls ks, s, t', ht, hs, h => by
    unfold putT at h
    cases hkb : kidB (.mk k x ls ks) z
    · rw [hkb] at h; cases h
    rw [hkb] at h
    simp only [if_true] at h
    obtain ⟨k', hk', rfl⟩ := Option.map_eq_some_iff.1 h
    obtain ⟨_, _, z2⟩ := kidB_get hkb
    have h1 := fit_puts r _ s k' ((fitT_kids ht).2.2 _ _ z2) hs hk'
    rw [fitT] at ht
    simp only [Bool.and_eq_true, decide_eq_true_eq] at ht
    show fitT (.mk k x ls (ks.set z.toNat k')) = true
    rw [fitT]
    simp only [Bool.and_eq_true, decide_eq_true_eq, List.length_set]
    exact ⟨ht.1, fitL_set ks _ k' ht.2 h1⟩
theorem fit_put {t s : Tr} {zs : List Int} (ht : fitT t = true) (hs : fitT s = true) : fitT ((putT zs t s).getD noTr) = true := by
  cases hp : putT zs t s with
  | none => rfl
  | some u => exact fit_puts zs t s u ht hs hp
set_option maxRecDepth 100000 in
set_option maxHeartbeats 4000000 in
theorem walk_yes (S S' : Nat → Prop) (t s : Tr) (v z : TV) (A : Option Addr) (c : Nat) (zs : List Int) (w : World) (h : TrAt S w t v) (h' : TrAt S' w s z) (hA : IntsAt w A zs) (hz : zs.length ≤ maxLen) (hzc : zs.length ≤ c) (hc : cntT t ≤ 1048576) (hc' : cntT s ≤ 1048576) (hd : (decide (sizeT t ≤ 300) && decide (zs.length ≤ 100)) = true) (he : (decide (sizeT s ≤ 300) && decide (0 ≤ 100)) = true) :
    Calls Try.prog 5 #[.agg #[.int .i64 v.kind, .string v.text, .slice v.la v.ll v.lc, .slice v.ka v.kl v.kc], .slice A zs.length c, .agg #[.int .i64 z.kind, .string z.text, .slice z.la z.ll z.lc, .slice z.ka z.kl z.kc]] w fun e w' => e = .returned (.bool true) ∧ Below w.heap.size w w' := by
  have HB0 := Lib.hid (((Below.refl w.heap.size w).alloc (Nat.le_refl _) (trO v)).alloc (by rw [World.size_alloc]; omega) (trO z))
  have HTA0 := Lib.hid (h.keep HB0.out)
  have HTB0 := Lib.hid (h'.keep HB0.out)
  have HI0 := Lib.hid (hA.keep HB0.out)
  have HXA0 := Lib.hid (show ((w.alloc (trO v)).alloc (trO z)).heap[w.heap.size]? = some (trO v) from (Below.heap_alloc _ _ _ (by rw [World.size_alloc]; omega)).trans (heap_alloc_new w (trO v)))
  have HXB0 := Lib.hid (show ((w.alloc (trO v)).alloc (trO z)).heap[w.heap.size + 1]? = some (trO z) from by rw [← World.size_alloc w (trO v)]; exact heap_alloc_new _ _)
  have HSA := Lib.hid (show sizeT t ≤ 140737488355328 from by have := size_cnt t; omega)
  have HSB := Lib.hid (show sizeT s ≤ 140737488355328 from by have := size_cnt s; omega)
  have HFA := Lib.hid (fit_cnt t hc)
  have HFB := Lib.hid (fit_cnt s hc')
  have HZ := Lib.hid hz
  have HZC := Lib.hid hzc
  have a0 := cells_of HXA0.out 0 _ rfl
  have a1 := cells_of HXA0.out 1 _ rfl
  have a2 := cells_of HXA0.out 2 _ rfl
  have a3 := cells_of HXA0.out 3 _ rfl
  have al := lt_of_heap HXA0.out
  have b0 := cells_of HXB0.out 0 _ rfl
  have b1 := cells_of HXB0.out 1 _ rfl
  have b2 := cells_of HXB0.out 2 _ rfl
  have b3 := cells_of HXB0.out 3 _ rfl
  have bl := lt_of_heap HXB0.out
  have HD := Lib.hid hd
  have HE := Lib.hid he
  obtain ⟨qb, hqb⟩ : ∃ q, (findT t zs).isSome = q := ⟨_, rfl⟩
  have HQB := Lib.hid hqb
  clear hqb
  clear h h' hA hz hzc hc hc' hd he
  go_enter Try.func5, Try.ntmps5
  go_wp2_with fail
  go_at_call 9
  refine (light_any S t v A c zs.length _ HTA0.out HSA.out).mono ?_
  rw [HD.out]
  rintro e w1 ⟨rfl, hb1⟩
  have HB1 := Lib.hid (HB0.out.trans (hb1.mono HB0.out.size))
  have HTA1 := Lib.hid (HTA0.out.keep hb1)
  have HTB1 := Lib.hid (HTB0.out.keep hb1)
  have HI1 := Lib.hid (HI0.out.keep hb1)
  have HXA1 := Lib.hid ((hb1.block w.heap.size (lt_of_heap HXA0.out)).trans HXA0.out)
  have HXB1 := Lib.hid ((hb1.block (w.heap.size + 1) (lt_of_heap HXB0.out)).trans HXB0.out)
  clear hb1
  clear a0 a1 a2 a3 al b0 b1 b2 b3 bl
  have a0 := cells_of HXA1.out 0 _ rfl
  have a1 := cells_of HXA1.out 1 _ rfl
  have a2 := cells_of HXA1.out 2 _ rfl
  have a3 := cells_of HXA1.out 3 _ rfl
  have al := lt_of_heap HXA1.out
  have b0 := cells_of HXB1.out 0 _ rfl
  have b1 := cells_of HXB1.out 1 _ rfl
  have b2 := cells_of HXB1.out 2 _ rfl
  have b3 := cells_of HXB1.out 3 _ rfl
  have bl := lt_of_heap HXB1.out
  go_wp2_with fail
  go_at_call 9
  refine (light_any S' s z none 0 0 _ HTB1.out HSB.out).mono ?_
  rw [HE.out]
  rintro e w2 ⟨rfl, hb2⟩
  have HB2 := Lib.hid (HB1.out.trans (hb2.mono HB1.out.size))
  have HTA2 := Lib.hid (HTA1.out.keep hb2)
  have HTB2 := Lib.hid (HTB1.out.keep hb2)
  have HI2 := Lib.hid (HI1.out.keep hb2)
  have HXA2 := Lib.hid ((hb2.block w.heap.size (lt_of_heap HXA1.out)).trans HXA1.out)
  have HXB2 := Lib.hid ((hb2.block (w.heap.size + 1) (lt_of_heap HXB1.out)).trans HXB1.out)
  clear hb2
  clear a0 a1 a2 a3 al b0 b1 b2 b3 bl
  have a0 := cells_of HXA2.out 0 _ rfl
  have a1 := cells_of HXA2.out 1 _ rfl
  have a2 := cells_of HXA2.out 2 _ rfl
  have a3 := cells_of HXA2.out 3 _ rfl
  have al := lt_of_heap HXA2.out
  have b0 := cells_of HXB2.out 0 _ rfl
  have b1 := cells_of HXB2.out 1 _ rfl
  have b2 := cells_of HXB2.out 2 _ rfl
  have b3 := cells_of HXB2.out 3 _ rfl
  have bl := lt_of_heap HXB2.out
  go_wp2_with fail
  go_at_call 23
  refine (replace_any S S' t s v z A c zs _ HTA2.out HTB2.out HI2.out HZ.out HFA.out HFB.out).mono ?_
  rintro e w3 ⟨hb3, x, he, S3, hS3, hx⟩
  rw [HQB.out] at he
  subst he
  have hkx := (Below.refl w3.heap.size w3).alloc (Nat.le_refl _) (trO x)
  have hbx := hb3.trans (hkx.mono hb3.size)
  have HB3 := Lib.hid (HB2.out.trans (hbx.mono HB2.out.size))
  have HTA3 := Lib.hid (TrAt.keep (TrAt.low _ _ HTA2.out) hbx)
  have HTB3 := Lib.hid (TrAt.keep (TrAt.low _ _ HTB2.out) hbx)
  have HLE3 := Lib.hid hbx.size
  have HI3 := Lib.hid (HI2.out.keep hbx)
  have HP3 := Lib.hid (hx.keep hkx)
  have HQ3 := Lib.hid (heap_alloc_new w3 (trO x))
  have hxa3 := (hb3.block w.heap.size (lt_of_heap HXA2.out)).trans HXA2.out
  have hxb3 := (hb3.block (w.heap.size + 1) (lt_of_heap HXB2.out)).trans HXB2.out
  clear hb3 hS3 hx hkx hbx a0 a1 a2 a3 al b0 b1 b2 b3 bl
  have a0 := cells_of hxa3 0 _ rfl
  have a1 := cells_of hxa3 1 _ rfl
  have a2 := cells_of hxa3 2 _ rfl
  have a3 := cells_of hxa3 3 _ rfl
  have al := lt_of_heap hxa3
  have b0 := cells_of hxb3 0 _ rfl
  have b1 := cells_of hxb3 1 _ rfl
  have b2 := cells_of hxb3 2 _ rfl
  have b3 := cells_of hxb3 3 _ rfl
  have bl := lt_of_heap hxb3
  clear hxa3 hxb3
  go_wp2_with fail
  go_at_call 24
  refine (rreplace_any zs _ _ t s v z A c _ (fun k hk => Nat.lt_of_lt_of_le hk HLE3.out) (fun k hk => Nat.lt_of_lt_of_le hk HLE3.out) HTA3.out HTB3.out HI3.out HZ.out HZC.out HFA.out).mono ?_
  rintro e w4 ⟨hb4, y, he, S4, hS4, hy⟩
  rw [HQB.out] at he
  subst he
  have hky := (Below.refl w4.heap.size w4).alloc (Nat.le_refl _) (trO y)
  have hby := hb4.trans (hky.mono hb4.size)
  have HB4 := Lib.hid (HB3.out.trans (hby.mono HB3.out.size))
  have HP4 := Lib.hid (HP3.out.keep hby)
  have HQ4 := Lib.hid ((hby.block w3.heap.size (lt_of_heap HQ3.out)).trans HQ3.out)
  have HP5 := Lib.hid (hy.keep hky)
  have HQ5 := Lib.hid (heap_alloc_new w4 (trO y))
  clear hb4 hS4 hy hky hby a0 a1 a2 a3 al b0 b1 b2 b3 bl
  go_wp2_with fail
  go_at_call 10
  refine (awake_any _).mono ?_
  rintro e w5 ⟨rfl, hbd⟩
  have HB6 := Lib.hid (HB4.out.trans (hbd.mono HB4.out.size))
  have HPX := Lib.hid (HP4.out.keep hbd)
  have HPY := Lib.hid (HP5.out.keep hbd)
  have hqx := (hbd.block w3.heap.size (lt_of_heap HQ4.out)).trans HQ4.out
  have hqy := (hbd.block w4.heap.size (lt_of_heap HQ5.out)).trans HQ5.out
  clear hbd
  have x0 := cells_of hqx 0 _ rfl
  have x1 := cells_of hqx 1 _ rfl
  have x2 := cells_of hqx 2 _ rfl
  have x3 := cells_of hqx 3 _ rfl
  have xbl := lt_of_heap hqx
  have y0 := cells_of hqy 0 _ rfl
  have y1 := cells_of hqy 1 _ rfl
  have y2 := cells_of hqy 2 _ rfl
  have y3 := cells_of hqy 3 _ rfl
  have ybl := lt_of_heap hqy
  clear hqx hqy
  go_wp2_with fail
  go_at_call 20
  refine (rsame_any (SizeOf.sizeOf ((putT zs t s).getD noTr)) S3 S4 _ _ x y _ (Nat.le_refl _) HPX.out HPY.out (fit_small _ (fit_put HFA.out HFB.out))).mono ?_
  rw [sameT_self]
  rintro e w6 ⟨rfl, hb6⟩
  have HB8 := Lib.hid (HB6.out.trans (hb6.mono HB6.out.size))
  clear hb6
  go_wp2_with fail
  go_ret
  exact ⟨ret_bool (by simp), HB8.out⟩
theorem walk (S S' : Nat → Prop) (t s : Tr) (v z : TV) (A : Option Addr) (c : Nat) (zs : List Int) (w : World) (h : TrAt S w t v) (h' : TrAt S' w s z) (hA : IntsAt w A zs) (hz : zs.length ≤ maxLen) (hzc : zs.length ≤ c) (hc : cntT t ≤ 1048576) (hc' : cntT s ≤ 1048576) :
    Calls Try.prog 5 #[.agg #[.int .i64 v.kind, .string v.text, .slice v.la v.ll v.lc, .slice v.ka v.kl v.kc], .slice A zs.length c, .agg #[.int .i64 z.kind, .string z.text, .slice z.la z.ll z.lc, .slice z.ka z.kl z.kc]] w fun e w' => e = .returned (.bool true) ∧ Below w.heap.size w w' := by
  cases hd : (decide (sizeT t ≤ 300) && decide (zs.length ≤ 100))
  · exact walk_no1 S S' t s v z A c zs w h h' hA hz hzc hc hc' hd
  · cases he : (decide (sizeT s ≤ 300) && decide (0 ≤ 100))
    · exact walk_no2 S S' t s v z A c zs w h h' hA hz hzc hc hc' hd he
    · exact walk_yes S S' t s v z A c zs w h h' hA hz hzc hc hc' hd he
set_option maxRecDepth 100000 in
theorem contract (H : Type) (enc : TypeId × Value → H) (W : World) (base : Nat) (args : Array Value) (ds gs : List (DataW H)) (before : List MemPlace)
    (hval : ∀ (j : Nat) t v, Try.f5.params[j]? = some t → args[j]? = some v → Value.okWide Try.prog W .any base t v)
    (hW : DataW.Whole enc Try.prog Try.f5.params.toList Rows.treeReplacesSpec.vars false W args.toList ds gs before) (hk : Rows.uptoSmall H (ds ++ gs) = true) :
    Calls Try.prog 5 args W fun e W' => ∃ v, e = .returned v ∧ Rows.treeReplacesSpec.post enc Try.prog Try.f5 false true false false W args v W' := by
  have hW' := hW
  obtain ⟨p, q, hA0, hV, rfl, hfz, hnd⟩ := hW
  have hA : DataW.TrodAll enc Try.prog W 0 (fun _ => true) true Try.f5.params.toList args.toList ds p := hA0
  rw [Try.params5] at hA hval
  obtain ⟨v0, vs0, d0, ds0, p0, q0, hargs, rfl, rfl, h0, r0⟩ := trodAll_cons hA
  obtain ⟨v1, vs1, d1, ds1, p1, q1, rfl, rfl, rfl, h1, r1⟩ := trodAll_cons r0
  obtain ⟨v2, vs2, d2, ds2, p2, q2, rfl, rfl, rfl, h2, r2⟩ := trodAll_cons r1
  obtain ⟨rfl, rfl, rfl⟩ := trodAll_nil r2
  obtain rfl : args = #[v0, v1, v2] := by cases args; simp_all
  obtain ⟨rfl, rfl⟩ := trodVars_none hV
  have k0 := h0
  have lt0 : ∀ x ∈ p0, x.block < W.heap.size := by obtain ⟨m, hm⟩ := k0; exact DataW.trod_lt m _ _ _ hm
  have k1 := h1
  have lt1 : ∀ x ∈ p1, x.block < W.heap.size := by obtain ⟨m, hm⟩ := k1; exact DataW.trod_lt m _ _ _ hm
  have k2 := h2
  have lt2 : ∀ x ∈ p2, x.block < W.heap.size := by obtain ⟨m, hm⟩ := k2; exact DataW.trod_lt m _ _ _ hm
  obtain ⟨fuel, hf⟩ := h0
  obtain ⟨t, tv, hcs, htr, hbk⟩ := open_tree fuel hf
  have hv0 : v0 = .agg #[.int .i64 tv.kind, .string tv.text, .slice tv.la tv.ll tv.lc, .slice tv.ka tv.kl tv.kc] := tree_value hcs
  obtain ⟨a1, len1, cap1, rfl⟩ := okWide_slice Try.underlying33 (hval 1 33 v1 rfl rfl)
  obtain ⟨fuel1, hf1⟩ := h1
  obtain ⟨A1, c1, zs1, hcs1, i1, l1, lc1, _⟩ := open_ints1 hf1
  simp [Value.cells] at hcs1
  obtain ⟨rfl, rfl, rfl⟩ := hcs1
  obtain ⟨fuel2, hf2⟩ := h2
  obtain ⟨s2, tv2, hcs2, htr2, hbk2⟩ := open_tree fuel2 hf2
  have hv2 : v2 = .agg #[.int .i64 tv2.kind, .string tv2.text, .slice tv2.la tv2.ll tv2.lc, .slice tv2.ka tv2.kl tv2.kc] := tree_value hcs2
  have hb : Rows.uptoBulkAll [d0, d1, d2] ≤ 1048576 := of_decide_eq_true hk
  simp only [Rows.uptoBulkAll] at hb
  have hq0 : cntT t + 1 ≤ Rows.uptoBulk d0 := hbk
  have hq2 : cntT s2 + 1 ≤ Rows.uptoBulk d2 := hbk2
  subst hv0 hv2
  clear hA0
  refine (walk _ _ t s2 tv tv2 a1 cap1 zs1 W htr htr2 i1 l1 lc1 (by omega) (by omega)).mono fun e W' ⟨he, bel⟩ => ?_
  subst he
  exact ⟨_, rfl, _, _, _, [], _, [], hW', trodAll_mk1 (shut_bool Try.underlying4 _), (trodAll_cons_mk (Below.trod laidOut (by kernel_rfl) (of_decide_eq_true (by kernel_rfl)) k0 bel lt0) (trodAll_cons_mk (Below.trod laidOut (by kernel_rfl) (of_decide_eq_true (by kernel_rfl)) k1 bel lt1) (trodAll_cons_mk (Below.trod laidOut (by kernel_rfl) (of_decide_eq_true (by kernel_rfl)) k2 bel lt2) trodAll_mk0))), rfl, bel.frame _, fun h => by cases h⟩
set_option maxRecDepth 100000 in
theorem lifted (os : Os) (started : os.Started) (H : Type) (enc : TypeId × Value → H) (F : Stop.Interp) :
    ReturnsInHanded {} Try.checked os 5 .any ((Rows.OpenSpec.upto Rows.treeReplacesSpec).pre6 enc Try.prog Try.f5 Rows.treeReplacesUptoRow.domain false) (((Rows.OpenSpec.upto Rows.treeReplacesSpec).at F).post enc Try.prog Try.f5 false true false false) := by
  refine returnsInHanded_of_cond (C := Try.checked) (s := Rows.OpenSpec.upto Rows.treeReplacesSpec) (k := Rows.uptoSmall) rfl own started (by kernel_rfl) Try.func5
    (OpenSpec.witness (enc := enc) (C := Try.checked) (s := Rows.OpenSpec.upto Rows.treeReplacesSpec) (k := Rows.uptoSmall) rfl false ⟨#[], #[.agg #[.int .i64 0, .string .empty, .slice none 0 0, .slice none 0 0], .slice none 0 0, .agg #[.int .i64 0, .string .empty, .slice none 0 0, .slice none 0 0]], []⟩ 8 (by kernel_rfl) (by kernel_rfl) (by kernel_rfl)
      (x := ([.agg [.lit (.int .i64 0), .lit (.string []), .nil, .nil], .nil, .agg [.lit (.int .i64 0), .lit (.string []), .nil, .nil]], [], [])) (by kernel_rfl) rfl (by kernel_rfl)) ?_
  intro W base args ds gs before hval hW _ hk _
  exact contract H enc W base args ds gs before hval hW hk
theorem proved : Rows.TreeReplacesUptoSaid :=
  OpenClaim.holds_of_cond 5 Try.f5 rfl rfl rfl rfl rfl rfl rfl ⟨rfl, rfl, rfl, rfl, rfl⟩ rfl rfl rfl rfl rfl (by kernel_rfl) Try.func5 (by kernel_rfl)
    (of_decide_eq_true (by kernel_rfl)) (by unfold Func.isWrapper; first | (rw [if_pos (by decide +kernel)]; kernel_rfl) | (rw [if_neg (by decide +kernel)]; exact ⟨rfl, rfl⟩))
    (fun os started H enc _ F => lifted os started H enc F)
#print axioms proved
end Go.Proofs.Ytojekhbebcdccaa.treeReplaces
