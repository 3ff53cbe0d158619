/- The contracts of leaf, light and awake of stage 3. -/
import Derived.Test.YtojekhbebcdccaaTreAt
namespace Go.Proofs.Ytojekhbebcdccaa
open Go.RowKit Go.Shelf
def leafT (s : ByteArray) : Tr := .mk 10 s [⟨#[32]⟩] []
theorem leaf_any (s : ByteArray) (w : World) : Calls Try.prog 29 #[.string s] w fun e w' => ∃ u : TV, e = .returned (.agg #[.int .i64 u.kind, .string u.text, .slice u.la u.ll u.lc, .slice u.ka u.kl u.kc]) ∧ TrAt (fun k => w.heap.size ≤ k ∧ k < w'.heap.size) w' (leafT s) u ∧ Below w.heap.size w w' := by
  go_enter Try.func29, Try.ntmps29
  go_wp2
  refine bodyPost_ret (v := .agg #[.int .i64 10, .string s, .slice (some ⟨w.heap.size + 1, 0, none⟩) 1 1, .slice none 0 0]) (by simp [results, Try.results29, go_sem]) rfl ?_
  have hb : Below w.heap.size w ((w.alloc (.cells #[.int .i64 10, .string s, .slice (some ⟨w.heap.size + 1, 0, none⟩) 1 1, .slice none 0 0] 25)).alloc (.cells #[.string ⟨#[32]⟩] 9)) := ((Below.refl _ _).alloc (Nat.le_refl _) _).alloc (by rw [World.size_alloc]; omega) _
  have hs : ((w.alloc (.cells #[.int .i64 10, .string s, .slice (some ⟨w.heap.size + 1, 0, none⟩) 1 1, .slice none 0 0] 25)).alloc (.cells #[.string ⟨#[32]⟩] 9)).heap[w.heap.size + 1]? = some (.cells #[.string ⟨#[32]⟩] 9 (0, 0)) := by
    have h := heap_alloc_new (w.alloc (.cells #[.int .i64 10, .string s, .slice (some ⟨w.heap.size + 1, 0, none⟩) 1 1, .slice none 0 0] 25)) (.cells #[.string ⟨#[32]⟩] 9)
    rw [World.size_alloc] at h
    exact h
  refine ⟨⟨10, s, some ⟨w.heap.size + 1, 0, none⟩, 1, 1, none, 0, 0⟩, rfl, TrAt.make rfl rfl rfl rfl (fun _ => ⟨w.heap.size + 1, 0, rfl, ⟨Nat.le_succ _, lt_of_heap hs⟩, fun i x hx => ?_⟩) (fun h => absurd rfl h) ⟨Nat.le_refl _, Nat.le_refl _⟩, hb⟩
  cases i with
  | zero => simp [leafT, Tr.leads] at hx; subst hx; exact cells_of hs 0 _ rfl
  | succ i => simp [leafT, Tr.leads] at hx
def awakeTr : Tr := .mk 21 ⟨#[43]⟩ [] [leafT ⟨#[49]⟩, leafT ⟨#[50]⟩]
theorem awake_tree {S : Nat → Prop} {W : World} {K : Nat} {u1 u2 : TV} (hK : W.heap[K]? = some (.cells #[.int .i64 u1.kind, .string u1.text, .slice u1.la u1.ll u1.lc, .slice u1.ka u1.kl u1.kc, .int .i64 u2.kind, .string u2.text, .slice u2.la u2.ll u2.lc, .slice u2.ka u2.kl u2.kc] 25 (0, 0))) (h1 : TrAt S W (leafT ⟨#[49]⟩) u1) (h2 : TrAt S W (leafT ⟨#[50]⟩) u2) (hS : S K) : TrAt S W awakeTr ⟨21, ⟨#[43]⟩, none, 0, 0, some ⟨K, 0, none⟩, 2, 2⟩ := by
  refine TrAt.make rfl rfl rfl rfl (fun h => absurd rfl h) (fun _ => ⟨K, 0, rfl, hS, TrsAt.of [leafT ⟨#[49]⟩, leafT ⟨#[50]⟩] 0 fun i t ht => ?_⟩) ⟨Nat.le_refl _, Nat.le_refl _⟩
  cases i with
  | zero => simp at ht; subst ht; exact ⟨u1, cells_of hK 0 _ rfl, cells_of hK 1 _ rfl, cells_of hK 2 _ rfl, cells_of hK 3 _ rfl, h1⟩
  | succ i =>
    cases i with
    | zero => simp at ht; subst ht; exact ⟨u2, cells_of hK 4 _ rfl, cells_of hK 5 _ rfl, cells_of hK 6 _ rfl, cells_of hK 7 _ rfl, h2⟩
    | succ i => simp at ht
theorem heap_alloc_old {w : World} {o : Obj} {k : Nat} {x : Obj} (h : w.heap[k]? = some x) : (w.alloc o).heap[k]? = some x := (((Below.refl w.heap.size w).alloc (Nat.le_refl _) o).block k (lt_of_heap h)).trans h
theorem awake_find : findT awakeTr [1] = some (leafT ⟨#[50]⟩) := by rfl
theorem awake_size : sizeT awakeTr = 3 := by kernel_rfl
theorem awake_depth : depthT awakeTr = 2 := by kernel_rfl
theorem awake_num : numG 0 awakeTr [1] = 2 := by kernel_rfl
theorem awake_same : sameT awakeTr awakeTr = true := by kernel_rfl
theorem awake_fit : fitT awakeTr = true := by kernel_rfl
theorem awake_small : smallT awakeTr = true := by kernel_rfl
theorem ints_one {w : World} {b : Nat} {x : Int} (h : w.heap[b]? = some (.cells #[.int .i64 x] 3 (0, 0))) : IntsAt w (some ⟨b, 0, none⟩) [x] := fun _ => ⟨b, 0, rfl, lt_of_heap h, fun i y hy => by
  cases i with
  | zero => simp at hy; subst hy; exact cells_of h 0 _ rfl
  | succ i => simp at hy⟩
set_option maxRecDepth 100000 in
set_option maxHeartbeats 4000000 in
theorem awake_any (w : World) : Calls Try.prog 10 #[] w fun e w' => e = .returned (.bool true) ∧ Below w.heap.size w w' := by
  go_enter Try.func10, Try.ntmps10
  go_wp2_with fail
  go_at_call 29
  refine (leaf_any _ _).mono ?_
  rintro e w1 ⟨u1, rfl, ht1, hb1⟩
  have HT1 := Lib.hid ht1
  have HB1 := Lib.hid hb1
  clear ht1 hb1
  go_wp2_with fail
  go_at_call 29
  refine (leaf_any _ _).mono ?_
  rintro e w2 ⟨u2, rfl, ht2, hb2⟩
  have HT2 := Lib.hid ht2
  have HB2 := Lib.hid hb2
  clear ht2 hb2
  dsimp only
  go_step
  repeat (first | go_values | go_skip | go_guarded | go_step | go_upon)
  have hw3 : Below w2.heap.size w2 (((w2.alloc (.cells #[.int .i64 u1.kind, .string u1.text, .slice u1.la u1.ll u1.lc, .slice u1.ka u1.kl u1.kc, .int .i64 u2.kind, .string u2.text, .slice u2.la u2.ll u2.lc, .slice u2.ka u2.kl u2.kc] 25)).alloc (.cells #[.int .i64 21, .string ⟨#[43]⟩, .slice none 0 0, .slice (some ⟨w2.heap.size, 0, none⟩) 2 2] 25)).alloc (.cells #[.int .i64 1] 3)) := (((Below.refl w2.heap.size w2).alloc (Nat.le_refl _) (.cells #[.int .i64 u1.kind, .string u1.text, .slice u1.la u1.ll u1.lc, .slice u1.ka u1.kl u1.kc, .int .i64 u2.kind, .string u2.text, .slice u2.la u2.ll u2.lc, .slice u2.ka u2.kl u2.kc] 25)).alloc (by rw [World.size_alloc]; omega) (.cells #[.int .i64 21, .string ⟨#[43]⟩, .slice none 0 0, .slice (some ⟨w2.heap.size, 0, none⟩) 2 2] 25)).alloc (by rw [World.size_alloc, World.size_alloc]; omega) (.cells #[.int .i64 1] 3)
  have hK : (((w2.alloc (.cells #[.int .i64 u1.kind, .string u1.text, .slice u1.la u1.ll u1.lc, .slice u1.ka u1.kl u1.kc, .int .i64 u2.kind, .string u2.text, .slice u2.la u2.ll u2.lc, .slice u2.ka u2.kl u2.kc] 25)).alloc (.cells #[.int .i64 21, .string ⟨#[43]⟩, .slice none 0 0, .slice (some ⟨w2.heap.size, 0, none⟩) 2 2] 25)).alloc (.cells #[.int .i64 1] 3)).heap[w2.heap.size]? = some (.cells #[.int .i64 u1.kind, .string u1.text, .slice u1.la u1.ll u1.lc, .slice u1.ka u1.kl u1.kc, .int .i64 u2.kind, .string u2.text, .slice u2.la u2.ll u2.lc, .slice u2.ka u2.kl u2.kc] 25) := heap_alloc_old (heap_alloc_old (heap_alloc_new w2 (.cells #[.int .i64 u1.kind, .string u1.text, .slice u1.la u1.ll u1.lc, .slice u1.ka u1.kl u1.kc, .int .i64 u2.kind, .string u2.text, .slice u2.la u2.ll u2.lc, .slice u2.ka u2.kl u2.kc] 25)))
  have hT : (((w2.alloc (.cells #[.int .i64 u1.kind, .string u1.text, .slice u1.la u1.ll u1.lc, .slice u1.ka u1.kl u1.kc, .int .i64 u2.kind, .string u2.text, .slice u2.la u2.ll u2.lc, .slice u2.ka u2.kl u2.kc] 25)).alloc (.cells #[.int .i64 21, .string ⟨#[43]⟩, .slice none 0 0, .slice (some ⟨w2.heap.size, 0, none⟩) 2 2] 25)).alloc (.cells #[.int .i64 1] 3)).heap[w2.heap.size + 1]? = some (.cells #[.int .i64 21, .string ⟨#[43]⟩, .slice none 0 0, .slice (some ⟨w2.heap.size, 0, none⟩) 2 2] 25) := heap_alloc_old (by rw [← World.size_alloc w2 (.cells #[.int .i64 u1.kind, .string u1.text, .slice u1.la u1.ll u1.lc, .slice u1.ka u1.kl u1.kc, .int .i64 u2.kind, .string u2.text, .slice u2.la u2.ll u2.lc, .slice u2.ka u2.kl u2.kc] 25)]; exact heap_alloc_new _ _)
  have hP : (((w2.alloc (.cells #[.int .i64 u1.kind, .string u1.text, .slice u1.la u1.ll u1.lc, .slice u1.ka u1.kl u1.kc, .int .i64 u2.kind, .string u2.text, .slice u2.la u2.ll u2.lc, .slice u2.ka u2.kl u2.kc] 25)).alloc (.cells #[.int .i64 21, .string ⟨#[43]⟩, .slice none 0 0, .slice (some ⟨w2.heap.size, 0, none⟩) 2 2] 25)).alloc (.cells #[.int .i64 1] 3)).heap[w2.heap.size + 1 + 1]? = some (.cells #[.int .i64 1] 3) := by rw [← World.size_alloc w2 (.cells #[.int .i64 u1.kind, .string u1.text, .slice u1.la u1.ll u1.lc, .slice u1.ka u1.kl u1.kc, .int .i64 u2.kind, .string u2.text, .slice u2.la u2.ll u2.lc, .slice u2.ka u2.kl u2.kc] 25), ← World.size_alloc (w2.alloc (.cells #[.int .i64 u1.kind, .string u1.text, .slice u1.la u1.ll u1.lc, .slice u1.ka u1.kl u1.kc, .int .i64 u2.kind, .string u2.text, .slice u2.la u2.ll u2.lc, .slice u2.ka u2.kl u2.kc] 25)) (.cells #[.int .i64 21, .string ⟨#[43]⟩, .slice none 0 0, .slice (some ⟨w2.heap.size, 0, none⟩) 2 2] 25)]; exact heap_alloc_new _ _
  have HB3 := Lib.hid ((HB1.out.trans (HB2.out.mono HB1.out.size)).trans (hw3.mono (Nat.le_trans HB1.out.size HB2.out.size)))
  have HT3 := Lib.hid hT
  have HX3 := Lib.hid (awake_tree (S := fun k => k < (((w2.alloc (.cells #[.int .i64 u1.kind, .string u1.text, .slice u1.la u1.ll u1.lc, .slice u1.ka u1.kl u1.kc, .int .i64 u2.kind, .string u2.text, .slice u2.la u2.ll u2.lc, .slice u2.ka u2.kl u2.kc] 25)).alloc (.cells #[.int .i64 21, .string ⟨#[43]⟩, .slice none 0 0, .slice (some ⟨w2.heap.size, 0, none⟩) 2 2] 25)).alloc (.cells #[.int .i64 1] 3)).heap.size) hK (TrAt.low _ _ ((HT1.out.keep HB2.out).keep hw3)) (TrAt.low _ _ (HT2.out.keep hw3)) (lt_of_heap hK))
  have HP3 := Lib.hid hP
  clear hw3 hK hT hP HT1 HT2
  go_at_call 18
  refine (at_any _ awakeTr ⟨21, ⟨#[43]⟩, none, 0, 0, some ⟨w2.heap.size, 0, none⟩, 2, 2⟩ _ 1 [1] _ HX3.out (ints_one HP3.out) (by decide) awake_fit).mono ?_
  rintro e w4 ⟨hb4, x, rfl, S4, _, hx4⟩
  rw [awake_find] at hx4
  have hxt : x.text = ⟨#[50]⟩ := hx4.kl.2.2.2
  have HXT := Lib.hid hxt
  have HB4 := Lib.hid (HB3.out.trans (hb4.mono HB3.out.size))
  have HT4 := Lib.hid ((hb4.block (w2.heap.size + 1) (lt_of_heap HT3.out)).trans HT3.out)
  have HX4 := Lib.hid (HX3.out.keep hb4)
  clear hb4 hx4 HX3 HT3 HP3 hxt
  obtain ⟨xk, xt, xla, xll, xlc, xka, xkl, xkc⟩ := x
  have hxt := HXT.out
  simp only at hxt
  subst hxt
  have t0 := cells_of HT4.out 0 _ rfl
  have t1 := cells_of HT4.out 1 _ rfl
  have t2 := cells_of HT4.out 2 _ rfl
  have t3 := cells_of HT4.out 3 _ rfl
  have tbl := lt_of_heap HT4.out
  have hwx := (Below.refl w4.heap.size w4).alloc (Nat.le_refl _) (.cells #[.int .i64 xk, .string ⟨#[50]⟩, .slice xla xll xlc, .slice xka xkl xkc] 25)
  have HB4a := Lib.hid (HB4.out.trans (hwx.mono HB4.out.size))
  have HT4a := Lib.hid ((hwx.block (w2.heap.size + 1) tbl).trans HT4.out)
  have HX4a := Lib.hid (HX4.out.keep hwx)
  clear hwx
  go_wp2_with fail
  go_at_call 11
  refine (size_any (SizeOf.sizeOf awakeTr) _ awakeTr ⟨21, ⟨#[43]⟩, none, 0, 0, some ⟨w2.heap.size, 0, none⟩, 2, 2⟩ _ (Nat.le_refl _) HX4a.out (by rw [awake_size]; decide)).mono ?_
  rw [awake_size]
  rintro e w5 ⟨rfl, hb5⟩
  have HB5 := Lib.hid (HB4a.out.trans (hb5.mono HB4a.out.size))
  have HT5 := Lib.hid ((hb5.block (w2.heap.size + 1) (lt_of_heap HT4a.out)).trans HT4a.out)
  have HX5 := Lib.hid (HX4a.out.keep hb5)
  clear hb5 t0 t1 t2 t3 tbl
  have t0 := cells_of HT5.out 0 _ rfl
  have t1 := cells_of HT5.out 1 _ rfl
  have t2 := cells_of HT5.out 2 _ rfl
  have t3 := cells_of HT5.out 3 _ rfl
  have tbl := lt_of_heap HT5.out
  go_wp2_with fail
  go_at_call 13
  refine (depth_any (SizeOf.sizeOf awakeTr) _ awakeTr ⟨21, ⟨#[43]⟩, none, 0, 0, some ⟨w2.heap.size, 0, none⟩, 2, 2⟩ _ (Nat.le_refl _) HX5.out (by rw [awake_size]; decide)).mono ?_
  rw [awake_depth]
  rintro e w6 ⟨rfl, hb6⟩
  have HB6 := Lib.hid (HB5.out.trans (hb6.mono HB5.out.size))
  have HT6 := Lib.hid ((hb6.block (w2.heap.size + 1) (lt_of_heap HT5.out)).trans HT5.out)
  have HX6 := Lib.hid (HX5.out.keep hb6)
  clear hb6 t0 t1 t2 t3 tbl
  have t0 := cells_of HT6.out 0 _ rfl
  have t1 := cells_of HT6.out 1 _ rfl
  have t2 := cells_of HT6.out 2 _ rfl
  have t3 := cells_of HT6.out 3 _ rfl
  have tbl := lt_of_heap HT6.out
  have hwp := (Below.refl w6.heap.size w6).alloc (Nat.le_refl _) (.cells #[.int .i64 1] 3)
  have HB6a := Lib.hid (HB6.out.trans (hwp.mono HB6.out.size))
  have HT6a := Lib.hid ((hwp.block (w2.heap.size + 1) tbl).trans HT6.out)
  have HX6a := Lib.hid (HX6.out.keep hwp)
  clear hwp
  go_wp2_with fail
  go_at_call 21
  refine (number_any _ awakeTr ⟨21, ⟨#[43]⟩, none, 0, 0, some ⟨w2.heap.size, 0, none⟩, 2, 2⟩ _ 1 [1] _ HX6a.out (ints_one (heap_alloc_new _ _)) (by decide) (by rw [awake_size]; decide)).mono ?_
  rw [awake_num]
  rintro e w7 ⟨rfl, hb7⟩
  have HB7 := Lib.hid (HB6a.out.trans (hb7.mono HB6a.out.size))
  have HT7 := Lib.hid ((hb7.block (w2.heap.size + 1) (lt_of_heap HT6a.out)).trans HT6a.out)
  have HX7 := Lib.hid (HX6a.out.keep hb7)
  clear hb7 t0 t1 t2 t3 tbl
  have t0 := cells_of HT7.out 0 _ rfl
  have t1 := cells_of HT7.out 1 _ rfl
  have t2 := cells_of HT7.out 2 _ rfl
  have t3 := cells_of HT7.out 3 _ rfl
  have tbl := lt_of_heap HT7.out
  go_wp2_with fail
  go_at_call 25
  refine (same_any (SizeOf.sizeOf awakeTr) _ _ awakeTr awakeTr ⟨21, ⟨#[43]⟩, none, 0, 0, some ⟨w2.heap.size, 0, none⟩, 2, 2⟩ ⟨21, ⟨#[43]⟩, none, 0, 0, some ⟨w2.heap.size, 0, none⟩, 2, 2⟩ _ (Nat.le_refl _) HX7.out HX7.out awake_small).mono ?_
  rw [awake_same]
  rintro e w8 ⟨rfl, hb8⟩
  have HB8 := Lib.hid (HB7.out.trans (hb8.mono HB7.out.size))
  have HT8 := Lib.hid ((hb8.block (w2.heap.size + 1) (lt_of_heap HT7.out)).trans HT7.out)
  have HX8 := Lib.hid (HX7.out.keep hb8)
  clear hb8 t0 t1 t2 t3 tbl
  have t0 := cells_of HT8.out 0 _ rfl
  have t1 := cells_of HT8.out 1 _ rfl
  have t2 := cells_of HT8.out 2 _ rfl
  have t3 := cells_of HT8.out 3 _ rfl
  have tbl := lt_of_heap HT8.out
  go_wp2_with fail
  go_ret
  exact ⟨rfl, HB8.out⟩
end Go.Proofs.Ytojekhbebcdccaa
