/- The contract of tree.Replace. Conditions: trees and a path that a machine can hold. -/
import Derived.Test.YtojekhbebcdccaaTreWalks
import Derived.Test.YtojekhbebcdccaaTreCloneO
import Derived.Test.YtojekhbebcdccaaTreAt
namespace Go.Proofs.Ytojekhbebcdccaa
open Go.RowKit Go.Shelf
def noTV : TV := ⟨0, ⟨#[]⟩, none, 0, 0, none, 0, 0⟩
theorem three_blocks (w : World) (a b c : Obj) : (((w.alloc a).alloc b).alloc c).heap[w.heap.size]? = some a ∧ (((w.alloc a).alloc b).alloc c).heap[w.heap.size + 1]? = some b ∧ (((w.alloc a).alloc b).alloc c).heap[w.heap.size + 1 + 1]? = some c := by
  have h2 := heap_alloc_new ((w.alloc a).alloc b) c
  have h1 := heap_alloc_new (w.alloc a) b
  have h0 := heap_alloc_new w a
  rw [World.size_alloc] at h1
  rw [World.size_alloc, World.size_alloc] at h2
  have b1 := (Below.refl (w.alloc a).heap.size (w.alloc a)).alloc (Nat.le_refl _) b
  have b2 := (Below.refl ((w.alloc a).alloc b).heap.size ((w.alloc a).alloc b)).alloc (Nat.le_refl _) c
  refine ⟨?_, ?_, h2⟩
  · exact ((b2.block w.heap.size (by simp; omega)).trans (b1.block w.heap.size (by simp))).trans h0
  · exact (b2.block (w.heap.size + 1) (by simp)).trans h1
/-- What Replace answers: a tree, and whether the path denotes a node. -/
def RepPost (t : Tr) (zs : List Int) (s : Tr) (w : World) (e : Ending) (w' : World) : Prop :=
  Below w.heap.size w w' ∧ ∃ u : TV, e = .returned (.tuple #[.agg #[.int .i64 u.kind, .string u.text, .slice u.la u.ll u.lc, .slice u.ka u.kl u.kc], .bool (findT t zs).isSome]) ∧ ∃ S : Nat → Prop, (∀ k, S k → k < w'.heap.size ∧ w.heap.size ≤ k) ∧ TrAt S w' ((putT zs t s).getD noTr) u
set_option maxRecDepth 100000 in
set_option maxHeartbeats 2000000 in
theorem replace_any (S S' : Nat → Prop) (t s : Tr) (v z : TV) (A : Option Addr) (c : Nat) (zs : List Int) (w : World) (h : TrAt S w t v) (h' : TrAt S' w s z) (hA : IntsAt w A zs) (hz : zs.length ≤ maxLen) (hf : fitT t = true) (hf' : fitT s = true) :
    Calls Try.prog 23 #[.agg #[.int .i64 v.kind, .string v.text, .slice v.la v.ll v.lc, .slice v.ka v.kl v.kc], .slice A zs.length c, .agg #[.int .i64 z.kind, .string z.text, .slice z.la z.ll z.lc, .slice z.ka z.kl z.kc]] w (RepPost t zs s w) := by
  have hb0 := (((Below.refl w.heap.size w).alloc (Nat.le_refl _) (trO v)).alloc (by rw [World.size_alloc]; omega) (trO z)).alloc (by rw [World.size_alloc, World.size_alloc]; omega) (.cells #[.int .i64 0, .string ⟨#[]⟩, .slice none 0 0, .slice none 0 0] 25)
  have HB0 := Lib.hid hb0
  have HT := Lib.hid (h.keep hb0)
  have HH := Lib.hid h'
  have HA := Lib.hid hA
  obtain ⟨x0, x1, x2⟩ := three_blocks w (trO v) (trO z) (.cells #[.int .i64 0, .string ⟨#[]⟩, .slice none 0 0, .slice none 0 0] 25)
  have HX := Lib.hid x0
  have HU := Lib.hid x1
  have HR := Lib.hid x2
  have k0 := cells_of x0 0 _ rfl
  have k1 := cells_of x0 1 _ rfl
  have k2 := cells_of x0 2 _ rfl
  have k3 := cells_of x0 3 _ rfl
  have hbl := lt_of_heap x0
  have rf := Lib.frozen_of_heap x0
  have HZ := Lib.hid hz
  have HF := Lib.hid hf
  have HF' := Lib.hid hf'
  have HSZ := Lib.hid (show (((w.alloc (trO v)).alloc (trO z)).alloc (.cells #[.int .i64 0, .string ⟨#[]⟩, .slice none 0 0, .slice none 0 0] 25)).heap.size = w.heap.size + 3 from by simp)
  clear h h' hA hz hf hf' hb0 x0 x1 x2
  go_enter Try.func23, Try.ntmps23
  go_wp2_with fail
  go_at_call 35
  refine (clone_own (SizeOf.sizeOf t) S t v _ (Nat.le_refl _) HT.out HF.out).mono ?_
  rintro e w1 ⟨y, rfl, hO, hb1⟩
  have HB1 := Lib.hid (HB0.out.trans (hb1.mono HB0.out.size))
  have HBA := Lib.hid hb1
  have HO1 := Lib.hid hO
  have hx1 := (hb1.block w.heap.size (lt_of_heap HX.out)).trans HX.out
  have HU1 := Lib.hid ((hb1.block (w.heap.size + 1) (lt_of_heap HU.out)).trans HU.out)
  have HR1 := Lib.hid ((hb1.block (w.heap.size + 1 + 1) (lt_of_heap HR.out)).trans HR.out)
  have HS1 := Lib.hid hb1.size
  clear hb1 hO k0 k1 k2 k3 hbl rf
  have HX1 := Lib.hid hx1
  have k0 := cells_of hx1 0 _ rfl
  have k1 := cells_of hx1 1 _ rfl
  have k2 := cells_of hx1 2 _ rfl
  have k3 := cells_of hx1 3 _ rfl
  have hbl := lt_of_heap hx1
  have rf := Lib.frozen_of_heap hx1
  clear hx1
  go_wp2_with fail
  -- the world in which the clone stands in t
  have HX2 := Lib.hid (setT_heap y HX1.out)
  have HU2 := Lib.hid ((setT_other (w := w1) (b := w.heap.size) y (k := w.heap.size + 1) (by omega)).trans HU1.out)
  have HR2 := Lib.hid ((setT_other (w := w1) (b := w.heap.size) y (k := w.heap.size + 1 + 1) (by omega)).trans HR1.out)
  have HB2 := Lib.hid (HB1.out.trans (setT_below w1 w.heap.size y))
  have HO2 := Lib.hid (OwnT.move (w' := setT w1 w.heap.size y) _ _ _ _ (fun b h1 _ _ => setT_other y (by rw [HSZ.out] at h1; omega)) HO1.out)
  have hc2 : CellsAt (setT w1 w.heap.size y) w.heap.size 0 y := ⟨cells_of HX2.out 0 _ rfl, cells_of HX2.out 1 _ rfl, cells_of HX2.out 2 _ rfl, cells_of HX2.out 3 _ rfl⟩
  have HC2 := Lib.hid hc2
  have HI2 := Lib.hid (HA.out.keep HB2.out)
  have HS2 := Lib.hid (show (setT w1 w.heap.size y).heap.size = w1.heap.size from setT_size _ _ _)
  clear hc2 k0 k1 k2 k3 hbl rf
  go_at_call 34
  refine (find_walks _ t y w.heap.size 0 A c zs _ HC2.out (OwnT.tr _ t y _ _ (Nat.le_refl _) HO2.out) HI2.out HZ.out).mono ?_
  cases hfd : findT t zs with
  | none =>
    have HFD := Lib.hid hfd
    rintro e w3 ⟨hb3, he⟩
    rw [hfd] at he
    subst he
    have HB3 := Lib.hid (HB2.out.trans (hb3.mono HB2.out.size))
    have hr3 := (hb3.block (w.heap.size + 1 + 1) (lt_of_heap HR2.out)).trans HR2.out
    have r0 := cells_of hr3 0 _ rfl
    have r1 := cells_of hr3 1 _ rfl
    have r2 := cells_of hr3 2 _ rfl
    have r3 := cells_of hr3 3 _ rfl
    have rbl := lt_of_heap hr3
    have rrf := Lib.frozen_of_heap hr3
    clear hb3 hr3 hfd
    go_wp2
    refine bodyPost_ret (v := .tuple #[.agg #[.int .i64 0, .string ⟨#[]⟩, .slice none 0 0, .slice none 0 0], .bool false]) (by simp [results, Try.results23, go_sem, *]) rfl ?_
    refine ⟨HB3.out.trans ((setT_below w3 (w.heap.size + 1 + 1) noTV).mono (by omega)), noTV, by rw [HFD.out]; rfl, fun _ => False, fun _ h => h.elim, ?_⟩
    have hn : putT zs t s = none := by
      have h1 := put_some s zs t
      rw [HFD.out] at h1
      cases hp : putT zs t s with
      | none => rfl
      | some _ => rw [hp] at h1; cases h1
    rw [hn]
    exact noTr_at _ _
  | some u =>
    have HFD := Lib.hid hfd
    rintro e w3 ⟨hb3, he⟩
    rw [hfd] at he
    obtain ⟨b, o, x, rfl, hcx, hwk⟩ := he
    have HB3 := Lib.hid (HB2.out.trans (hb3.mono HB2.out.size))
    have HS3 := Lib.hid hb3.size
    have HBB := Lib.hid hb3
    have hu3 := (hb3.block (w.heap.size + 1) (lt_of_heap HU2.out)).trans HU2.out
    have HX3 := Lib.hid ((hb3.block w.heap.size (lt_of_heap HX2.out)).trans HX2.out)
    have HR3 := Lib.hid ((hb3.block (w.heap.size + 1 + 1) (lt_of_heap HR2.out)).trans HR2.out)
    have HO3 := Lib.hid (OwnT.move (w' := w3) _ _ _ _ (fun b _ _ h3 => hb3.block b h3) HO2.out)
    have HWK := Lib.hid hwk
    have HCX := Lib.hid hcx
    have u0 := cells_of hu3 0 _ rfl
    have u1 := cells_of hu3 1 _ rfl
    have u2 := cells_of hu3 2 _ rfl
    have u3 := cells_of hu3 3 _ rfl
    have ubl := lt_of_heap hu3
    have HH3 := Lib.hid (HH.out.keep HB3.out)
    clear hb3 hu3 hfd hcx hwk
    go_wp2_with fail
    go_at_call 35
    refine (clone_any (SizeOf.sizeOf s) S' s z _ (Nat.le_refl _) HH3.out HF'.out).mono ?_
    rintro e w4 ⟨y', rfl, hty, hb4⟩
    have HB4 := Lib.hid (HB3.out.trans (hb4.mono HB3.out.size))
    have HX4 := Lib.hid ((hb4.block w.heap.size (lt_of_heap HX3.out)).trans HX3.out)
    have HR4 := Lib.hid ((hb4.block (w.heap.size + 1 + 1) (lt_of_heap HR3.out)).trans HR3.out)
    have HO4 := Lib.hid (OwnT.move (w' := w4) _ _ _ _ (fun b _ _ h3 => hb4.block b h3) HO3.out)
    have HWK4 := Lib.hid (HWK.out.keep hb4)
    have HTY := Lib.hid hty
    have HS4 := Lib.hid hb4.size
    obtain ⟨cs, T, hbb, hob⟩ := walk_block zs t y _ _ w.heap.size 0 b o w4 _ _ (by rw [HFD.out]; rfl) HO4.out HWK4.out HX4.out (Nat.le_refl 4)
    have HBLK := Lib.hid hbb
    obtain ⟨c0, c1, c2, c3⟩ := HCX.out.keep hb4
    have bbl := lt_of_heap hbb
    have brf := Lib.frozen_of_heap hbb
    clear hb4 hty u0 u1 u2 u3 ubl hbb
    dsimp only
    go_step
    go_step
    go_step
    go_step
    go_step
    go_step
    obtain ⟨t', hp⟩ : ∃ t', putT zs t s = some t' := by
      have h1 := put_some s zs t
      rw [HFD.out] at h1
      exact Option.isSome_iff_exists.1 h1
    have hsz4 : (((w.alloc (trO v)).alloc (trO z)).alloc (.cells #[.int .i64 0, .string ⟨#[]⟩, .slice none 0 0, .slice none 0 0] 25)).heap.size = w.heap.size + 3 := HSZ.out
    have hle1 : w1.heap.size ≤ w3.heap.size := by have := HS3.out; rw [HS2.out] at this; exact this
    obtain ⟨hbo, v', hcv, htv⟩ := put_own s y' _ zs t t' y _ _ w.heap.size 0 b o w4 _ _ hp HO4.out ⟨cells_of HX4.out 0 _ rfl, cells_of HX4.out 1 _ rfl, cells_of HX4.out 2 _ rfl, cells_of HX4.out 3 _ rfl⟩ HWK4.out HX4.out (Nat.le_refl 4) (by rw [hsz4]; omega) HTY.out (fun k hk => ⟨by omega, by have := lt_of_heap HX3.out; omega⟩)
    rw [hsz4] at hbo
    obtain ⟨W5, hW5⟩ : ∃ W, W = setA w4 b o y' := ⟨_, rfl⟩
    have hsz5 : W5.heap.size = w4.heap.size := by rw [hW5]; exact setA_size _ _ _ _
    have hr5 : W5.heap[w.heap.size + 1 + 1]? = w4.heap[w.heap.size + 1 + 1]? := by rw [hW5]; exact setA_other (k := w.heap.size + 1 + 1) o y' (by omega)
    have HB5 := Lib.hid (show Below w.heap.size w W5 from by rw [hW5]; exact HB4.out.trans (setA_below w4 o y' (by omega)))
    rw [← hW5] at hcv htv
    have hraw : (((w4.setCell ⟨b, o, none⟩ (.int .i64 y'.kind)).setCell ⟨b, o + 1, none⟩ (.string y'.text)).setCell ⟨b, o + 2, none⟩ (.slice y'.la y'.ll y'.lc)).setCell ⟨b, o + 3, none⟩ (.slice y'.ka y'.kl y'.kc) = W5 := hW5.symm
    rw [hraw]
    clear hraw
    have HR5 := Lib.hid (hr5.trans HR4.out)
    have HLT := Lib.hid (show w1.heap.size ≤ W5.heap.size ∧ w4.heap.size = W5.heap.size from ⟨by rw [hsz5]; have := HS4.out; omega, hsz5.symm⟩)
    have HTV := Lib.hid htv
    have HP := Lib.hid hp
    have HBO := Lib.hid hbo
    have hr := HR5.out
    obtain ⟨k0, k1, k2, k3⟩ := hcv
    have tbl : w.heap.size < W5.heap.size := World.block_lt_of_cell? W5 _ k0
    have r0 := cells_of hr 0 _ rfl
    have r1 := cells_of hr 1 _ rfl
    have r2 := cells_of hr 2 _ rfl
    have r3 := cells_of hr 3 _ rfl
    have rbl := lt_of_heap hr
    have rrf := Lib.frozen_of_heap hr
    clear hW5 hsz5 hr5 htv hp hbo hr hle1 hsz4 c0 c1 c2 c3 bbl brf hob
    go_wp2
    refine bodyPost_ret (v := .tuple #[.agg #[.int .i64 v'.kind, .string v'.text, .slice v'.la v'.ll v'.lc, .slice v'.ka v'.kl v'.kc], .bool true]) (by simp [results, Try.results23, go_sem, *]) rfl ?_
    refine ⟨HB5.out.trans ((setT_below W5 (w.heap.size + 1 + 1) v').mono (by omega)), v', by rw [HFD.out]; rfl, fun k => w.heap.size ≤ k ∧ k < W5.heap.size, fun k hk => ⟨Nat.lt_of_lt_of_le hk.2 (setT_below W5 (w.heap.size + 1 + 1) v').size, hk.1⟩, ?_⟩
    rw [HP.out]
    refine TrAt.move (w' := setT W5 (w.heap.size + 1 + 1) v') (fun k hk => ?_) (fun k hk _ => setT_other _ ?_) _ _ HTV.out
    · have h1 := HLT.out
      have h0 := HSZ.out
      have h2 := HS1.out
      have h3 := HS3.out
      rw [HS2.out] at h3
      rcases hk with hk | hk <;> constructor <;> omega
    · have h0 := HSZ.out
      have h1 := HS3.out
      rw [HS2.out] at h1
      have h2 := HS1.out
      rcases hk with hk | hk <;> omega
end Go.Proofs.Ytojekhbebcdccaa
