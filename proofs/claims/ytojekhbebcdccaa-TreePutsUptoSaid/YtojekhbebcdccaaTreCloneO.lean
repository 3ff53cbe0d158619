/- The contract of clone, which says what memory the new tree has: blocks of its own. Condition: a tree whose lists a machine can hold. -/
import Derived.Test.YtojekhbebcdccaaTreOwn
namespace Go.Proofs.Ytojekhbebcdccaa
open Go.RowKit Go.Shelf
theorem OwnT.make {w : World} {t : Tr} {v : TV} {lo hi g : Nat} (h1 : v.kind = t.kind) (h2 : v.text = t.text) (h3 : v.ll = t.leads.length) (h4 : v.kl = t.kids.length) (h5 : v.ll ≤ v.lc ∧ v.kl ≤ v.kc) (h6 : lo ≤ g) (h7 : g ≤ hi) (h8 : StrsAt (fun b => lo ≤ b ∧ b < g) w v.la t.leads)
    (h9 : t.kids ≠ [] → v.ka = some ⟨g, 0, none⟩ ∧ ∃ (cs : Array Value) (us : List TV), w.heap[g]? = some (.cells cs 25 (0, 0)) ∧ us.length = t.kids.length ∧ RowIs cs us ∧ OwnL w t.kids us (g + 1) hi) : OwnT w t v lo hi := by
  cases t
  unfold OwnT
  exact ⟨h1, h2, h3, h4, h5, g, h6, h7, h8, h9⟩
def ClOwn (t : Tr) (us : List TV) (g : Nat) (W : World) (i : Value) (wr : World) : Prop :=
  ∃ (j : Nat) (vs : List TV) (cs : Array Value), i = .int .i64 j ∧ j ≤ t.kids.length ∧ vs.length = t.kids.length ∧ (∀ i, j ≤ i → vs[i]? = us[i]?) ∧ wr.heap[g]? = some (.cells cs 25 (0, 0)) ∧ RowIs cs vs ∧
    OwnL wr (t.kids.take j) (vs.take j) (g + 1) wr.heap.size ∧ Rest1 g W wr
set_option maxRecDepth 100000 in
set_option maxHeartbeats 2000000 in
theorem clone_own (N : Nat) : ∀ (S : Nat → Prop) (t : Tr) (v : TV) (w : World), SizeOf.sizeOf t ≤ N → TrAt S w t v → fitT t = true →
    Calls Try.prog 35 #[.agg #[.int .i64 v.kind, .string v.text, .slice v.la v.ll v.lc, .slice v.ka v.kl v.kc]] w fun e w' => ∃ u : TV, e = .returned (.agg #[.int .i64 u.kind, .string u.text, .slice u.la u.ll u.lc, .slice u.ka u.kl u.kc]) ∧ OwnT w' t u w.heap.size w'.heap.size ∧ Below w.heap.size w w' := by
  induction N with
  | zero => intro S t v w h; have := tr_pos t; omega
  | succ N ih =>
    intro S t v w hN h hz
    have HIH := Lib.hid ih
    obtain ⟨hf1, hf2, hf3⟩ := fitT_kids hz
    have HF1 := Lib.hid hf1
    have HF2 := Lib.hid hf2
    have HF3 := Lib.hid hf3
    have HN := Lib.hid hN
    obtain ⟨e1, e2, e3, e4⟩ := h.kl
    have hb0 := ((Below.refl w.heap.size w).alloc (Nat.le_refl _) (trO v)).alloc (by rw [World.size_alloc]; omega) (.cells #[.int .i64 0, .string ⟨#[]⟩, .slice none 0 0, .slice none 0 0] 25)
    have HB0 := Lib.hid hb0
    have HT := Lib.hid (TrAt.keep (TrAt.low t v h) hb0)
    obtain ⟨vk, vx, vla, vll, vlc, vka, vkl, vkc⟩ := v
    simp only at e1 e2 e3 e4
    subst e1 e2
    have HE3 := Lib.hid e3
    have HE4 := Lib.hid e4
    have HX := Lib.hid (show ((w.alloc (trO ⟨vk, vx, vla, t.leads.length, vlc, vka, t.kids.length, vkc⟩)).alloc (.cells #[.int .i64 0, .string ⟨#[]⟩, .slice none 0 0, .slice none 0 0] 25)).heap[w.heap.size]? = some (trO ⟨vk, vx, vla, t.leads.length, vlc, vka, t.kids.length, vkc⟩) from (((Below.refl (w.alloc (trO ⟨vk, vx, vla, t.leads.length, vlc, vka, t.kids.length, vkc⟩)).heap.size _).alloc (Nat.le_refl _) _).block w.heap.size (by simp)).trans (heap_alloc_new w _))
    have HR := Lib.hid (show ((w.alloc (trO ⟨vk, vx, vla, t.leads.length, vlc, vka, t.kids.length, vkc⟩)).alloc (.cells #[.int .i64 0, .string ⟨#[]⟩, .slice none 0 0, .slice none 0 0] 25)).heap[w.heap.size + 1]? = some (.cells #[.int .i64 0, .string ⟨#[]⟩, .slice none 0 0, .slice none 0 0] 25 (0, 0)) from by rw [← World.size_alloc w (trO ⟨vk, vx, vla, t.leads.length, vlc, vka, t.kids.length, vkc⟩)]; exact heap_alloc_new _ _)
    obtain ⟨is, his, hs0, hs1, hs2⟩ := info_parts string_info
    obtain ⟨it, hit, ht0, ht1, ht2⟩ := info_parts tree_info
    have k2 := cells_of HX.out 2 _ rfl
    have k3 := cells_of HX.out 3 _ rfl
    have rf := Lib.frozen_of_heap HX.out
    have hbl := lt_of_heap HX.out
    clear ih hf1 hf2 hf3 h hz hN hb0 e3 e4
    go_enter Try.func35, Try.ntmps35
    go_wp2_with (first
      | (at_builtin; refine wpList_copy rfl _ _ 22 rfl 9 is _ 1 16 Try.underlying22 his hs0 hs1 hs2 rfl (by decide) rfl (A := vla) (m := t.leads.length) (c := vlc) (news := t.leads.map Value.string) rfl (by simp) HT.out.strsIn.vals (strings_one _) (by have := HF1.out; omega) (by have := HF1.out; unfold maxLen; omega) ?_; intro LA w1 hown1 hg1; obtain ⟨la', lc', rfl⟩ := own_shape hown1; have HO1 := Lib.hid hown1; have HG1 := Lib.hid (grown_below hg1); have hx1 := (HG1.out.block w.heap.size hbl).trans HX.out; have HB1 := Lib.hid ((HB0.out.trans (HG1.out.mono (by simp; omega))).setCell (p := ⟨w.heap.size, 2, none⟩) (Nat.le_refl _) (.slice la' t.leads.length lc')); have HX1 := Lib.hid (heap_set (i := 2) (y := .slice la' t.leads.length lc') hx1 rfl); have HT1 := Lib.hid (TrAt.move (w' := w1.setCell ⟨w.heap.size, 2, none⟩ (.slice la' t.leads.length lc')) (fun _ h => h) (fun k hk _ => (Below.setCell (p := ⟨w.heap.size, 2, none⟩) (show Below w.heap.size _ w1 from HG1.out.mono (by simp; omega)) (Nat.le_refl _) (.slice la' t.leads.length lc')).block k hk) _ _ HT.out); obtain ⟨us, hul, hut, huc⟩ := KidsIn.vals HT1.out; have HUL := Lib.hid hul; have HUT := Lib.hid hut; have HUC := Lib.hid huc; clear hown1 hg1 k2 k3 rf hbl hul hut huc; have k0 := cells_of hx1 0 _ rfl; have k1 := cells_of hx1 1 _ rfl; have k2 := cells_of hx1 2 _ rfl; have k3 := cells_of hx1 3 _ rfl; have rf := Lib.frozen_of_heap hx1; have hbl := lt_of_heap hx1; clear hx1)
      | (at_builtin; refine wpList_copy rfl _ _ 23 rfl 25 it _ 4 72 Try.underlying23 hit ht0 ht1 ht2 rfl (by decide) rfl (A := vka) (m := t.kids.length) (c := vkc) (news := tvCells us) rfl (by rw [tvCells_length, HUL.out]) HUC.out (tvCells_one us) (by have := HF2.out; omega) (by have := HF2.out; unfold maxLen; omega) ?_; intro KA w2 hown2 hg2; obtain ⟨ka', kc', rfl⟩ := own_shape hown2; have HO2 := Lib.hid hown2; have HG2 := Lib.hid (grown_below hg2); have hx2 := (HG2.out.block w.heap.size (lt_of_heap HX1.out)).trans HX1.out; clear hown2 hg2 k0 k1 k2 k3 rf hbl; have k0 := cells_of hx2 0 _ rfl; have k1 := cells_of hx2 1 _ rfl; have k2 := cells_of hx2 2 _ rfl; have k3 := cells_of hx2 3 _ rfl; have rf := Lib.frozen_of_heap hx2; have hbl := lt_of_heap hx2; have HX2 := Lib.hid (heap_set (i := 3) (y := .slice ka' t.kids.length kc') hx2 rfl); clear hx2))
    have r1 := (HG1.out.block (w.heap.size + 1) (lt_of_heap HR.out)).trans HR.out
    have r1' : (w1.setCell ⟨w.heap.size, 2, none⟩ (.slice la' t.leads.length lc')).heap[w.heap.size + 1]? = _ := (set_other (by omega)).trans r1
    have r2 := (HG2.out.block (w.heap.size + 1) (lt_of_heap r1')).trans r1'
    have r2' : (w2.setCell ⟨w.heap.size, 3, none⟩ (.slice ka' t.kids.length kc')).heap[w.heap.size + 1]? = _ := (set_other (by omega)).trans r2
    have HR2 := Lib.hid r2'
    have HLS := Lib.hid (own_strs HO1.out)
    have HC1 := Lib.hid (row_cap HO1.out)
    have HC2 := Lib.hid (row_cap HO2.out)
    have hs1 : (w1.setCell ⟨w.heap.size, 2, none⟩ (.slice la' t.leads.length lc')).heap.size = w1.heap.size := by simp [World.setCell]
    have hs0' : ((w.alloc (trO ⟨vk, vx, vla, t.leads.length, vlc, vka, t.kids.length, vkc⟩)).alloc (.cells #[.int .i64 0, .string ⟨#[]⟩, .slice none 0 0, .slice none 0 0] 25)).heap.size = w.heap.size + 2 := by simp
    -- the leads' block, in the last world
    have HLW2 := Lib.hid (show ∀ b, w.heap.size + 2 ≤ b → b < w1.heap.size → b < (w2.setCell ⟨w.heap.size, 3, none⟩ (.slice ka' t.kids.length kc')).heap.size ∧ (w2.setCell ⟨w.heap.size, 3, none⟩ (.slice ka' t.kids.length kc')).heap[b]? = w1.heap[b]? from fun b hb hb1 => ⟨by
      have := HG2.out.size
      rw [hs1] at this
      simp [World.setCell]
      omega, ((set_other (by omega)).trans (HG2.out.block b (by rw [hs1]; exact hb1))).trans (set_other (by omega))⟩)
    have HS0 := Lib.hid hs0'
    have HS1 := Lib.hid hs1
    clear r1 r1' r2 r2' hs1 hs0'
    by_cases hn0 : t.kids.length = 0
    · have HN0 := Lib.hid hn0
      have HD12 : Below w.heap.size (w1.setCell ⟨w.heap.size, 2, none⟩ (.slice la' t.leads.length lc')) (w2.setCell ⟨w.heap.size, 3, none⟩ (.slice ka' t.kids.length kc')) := Below.setCell (p := ⟨w.heap.size, 3, none⟩) (show Below w.heap.size _ w2 from HG2.out.mono (Nat.le_of_lt (lt_of_heap HX1.out))) (Nat.le_refl _) _
      have HDW := Lib.hid HD12
      clear k0 k1 k2 k3 rf hbl HD12 hn0
      go_loopw [16] (fun i wr => i = .int .i64 0 ∧ w2.setCell ⟨w.heap.size, 3, none⟩ (.slice ka' t.kids.length kc') = wr) (fun _ _ => 0)
      case atStart => exact ⟨rfl, rfl⟩
      case round =>
        obtain ⟨rfl, rfl⟩ := hrel
        have hn1 : ¬ 0 < t.kids.length := by have := HN0.out; omega
        have k0 := cells_of HX2.out 0 _ rfl
        have k1 := cells_of HX2.out 1 _ rfl
        have k2 := cells_of HX2.out 2 _ rfl
        have k3 := cells_of HX2.out 3 _ rfl
        have tbl := lt_of_heap HX2.out
        have r0 := cells_of HR2.out 0 _ rfl
        have r1 := cells_of HR2.out 1 _ rfl
        have r2 := cells_of HR2.out 2 _ rfl
        have r3 := cells_of HR2.out 3 _ rfl
        have rbl := lt_of_heap HR2.out
        have rrf := Lib.frozen_of_heap HR2.out
        generalize hW : w2.setCell ⟨w.heap.size, 3, none⟩ (.slice ka' t.kids.length kc') = WR at HX2 HR2 HLW2 HDW k0 k1 k2 k3 tbl r0 r1 r2 r3 rbl rrf ⊢
        clear hW
        go_wp2
        refine bodyPost_ret (v := .agg #[.int .i64 vk, .string vx, .slice la' t.leads.length lc', .slice ka' t.kids.length kc']) (by simp [results, Try.results35, go_sem, *]) rfl ?_
        refine ⟨⟨vk, vx, la', t.leads.length, lc', ka', t.kids.length, kc'⟩, rfl, ?_, ?_⟩
        · have hsz : (setT WR (w.heap.size + 1) ⟨vk, vx, la', t.leads.length, lc', ka', t.kids.length, kc'⟩).heap.size = WR.heap.size := setT_size _ _ _
          have hlw : ∀ b, w.heap.size + 2 ≤ b → b < w1.heap.size → b < WR.heap.size ∧ (setT WR (w.heap.size + 1) ⟨vk, vx, la', t.leads.length, lc', ka', t.kids.length, kc'⟩).heap[b]? = w1.heap[b]? := fun b hb hb1 => by
            obtain ⟨h1, h2⟩ := HLW2.out b hb hb1
            exact ⟨h1, (setT_other ⟨vk, vx, la', t.leads.length, lc', ka', t.kids.length, kc'⟩ (by omega)).trans h2⟩
          have hlo : ∀ b, ((w.alloc (trO ⟨vk, vx, vla, t.leads.length, vlc, vka, t.kids.length, vkc⟩)).alloc (.cells #[.int .i64 0, .string ⟨#[]⟩, .slice none 0 0, .slice none 0 0] 25)).heap.size ≤ b → w.heap.size + 2 ≤ b := fun b hb => by rw [HS0.out] at hb; exact hb
          show OwnT (setT WR (w.heap.size + 1) ⟨vk, vx, la', t.leads.length, lc', ka', t.kids.length, kc'⟩) t _ _ _
          have hge : w.heap.size ≤ w1.heap.size ∧ w1.heap.size ≤ WR.heap.size := ⟨by have := HG1.out.size; simp at this; omega, by have := HDW.out.size; rw [HS1.out] at this; exact this⟩
          exact OwnT.make (g := w1.heap.size) HE3.out HE4.out rfl rfl ⟨HC1.out, HC2.out⟩ hge.1 (Nat.le_trans hge.2 (Nat.le_of_eq hsz.symm)) (HLS.out.move (fun b hb => ⟨by have := hlo b hb.1; omega, hb.2⟩) (fun b hb _ => (hlw b (hlo b hb.1) hb.2).2)) (fun h => absurd (List.eq_nil_of_length_eq_zero HN0.out) h)
        · exact (HB1.out.trans HDW.out).trans ((setT_below WR (w.heap.size + 1) ⟨vk, vx, la', t.leads.length, lc', ka', t.kids.length, kc'⟩).mono (Nat.le_succ _))
    · obtain ⟨g, hg1, hg2, cur, hg3, hg4⟩ : ∃ g, ka' = some ⟨g, 0, none⟩ ∧ (w1.setCell ⟨w.heap.size, 2, none⟩ (.slice la' t.leads.length lc')).heap.size ≤ g ∧ ∃ cur, w2.heap[g]? = some (.cells cur 25 (0, 0)) ∧ RowIs cur us := by
        rcases HO2.out.2 with ⟨_, h0⟩ | ⟨g, cap, cur, hv, hb, hh, hnc, hm, hsz, htk⟩
        · exact absurd h0 hn0
        · injection hv with e1 e2 e3
          refine ⟨g, e1, hb, cur, hh, fun i v hv => ?_⟩
          obtain ⟨q0, q1, q2, q3⟩ := tvCells_get us i v hv
          have hget : ∀ (o : Nat) (x : Value), (tvCells us)[o]? = some x → cur[o]? = some x := fun o x hx => by
            rw [← htk] at hx
            have hlt : o < t.kids.length * 4 := by
              have := (List.getElem?_eq_some_iff.1 hx).1
              rw [List.length_take] at this
              omega
            rw [List.getElem?_take_of_lt hlt] at hx
            rw [← Array.getElem?_toList]
            exact hx
          exact ⟨hget _ _ q0, hget _ _ q1, hget _ _ q2, hget _ _ q3⟩
      subst hg1
      have HG3 := Lib.hid hg3
      have HG4 := Lib.hid hg4
      have hgt : w.heap.size + 1 < g := by
        have h1 := HG1.out.size
        have h2 : (w1.setCell ⟨w.heap.size, 2, none⟩ (.slice la' t.leads.length lc')).heap.size = w1.heap.size := by simp [World.setCell]
        rw [h2] at hg2
        simp at h1
        omega
      have HGT := Lib.hid hgt
      have HGE := Lib.hid (show w1.heap.size ≤ g from by rw [HS1.out] at hg2; exact hg2)
      have hg2l := lt_of_heap hg3
      have HD12 : Below w.heap.size (w1.setCell ⟨w.heap.size, 2, none⟩ (.slice la' t.leads.length lc')) (w2.setCell ⟨w.heap.size, 3, none⟩ (.slice (some ⟨g, 0, none⟩) t.kids.length kc')) := Below.setCell (p := ⟨w.heap.size, 3, none⟩) (show Below w.heap.size _ w2 from HG2.out.mono (Nat.le_of_lt (lt_of_heap HX1.out))) (Nat.le_refl _) _
      have HW2 := Lib.hid (show (w2.setCell ⟨w.heap.size, 3, none⟩ (.slice (some ⟨g, 0, none⟩) t.kids.length kc')).heap[g]? = some (.cells cur 25 (0, 0)) from (Below.heap_setCell _ _ _ _ (fun e : g = w.heap.size => by omega)).trans hg3)
      have HDW := Lib.hid HD12
      have HLT2 := Lib.hid (show w.heap.size < (w2.setCell ⟨w.heap.size, 3, none⟩ (.slice (some ⟨g, 0, none⟩) t.kids.length kc')).heap.size from lt_of_heap HX2.out)
      clear k0 k1 k2 k3 rf hbl hg3 hg4 hgt hg2 HD12 hn0 hg2l
      go_loopw [16] (fun i wr => ClOwn t us g (w2.setCell ⟨w.heap.size, 3, none⟩ (.slice (some ⟨g, 0, none⟩) t.kids.length kc')) i wr) (fun i _ => t.kids.length - (intOf i).toNat)
      case atStart => exact ⟨0, us, cur, rfl, Nat.zero_le _, HUL.out, fun _ _ => rfl, HW2.out, HG4.out, (by rw [List.take_zero]; unfold OwnL; exact lt_of_heap HW2.out), Rest1.refl _ _⟩
      case round =>
        obtain ⟨j, vs, cs, rfl, hj, hvl, hve, hcs, hri, hfr, hrs⟩ := hrel
        have HVL := Lib.hid hvl
        have HVE := Lib.hid hve
        have HCS := Lib.hid hcs
        have HRI := Lib.hid hri
        have HFR := Lib.hid hfr
        have HRS := Lib.hid hrs
        have htb := (hrs.block w.heap.size HLT2.out (by have := HGT.out; omega)).trans HX2.out
        have HTB := Lib.hid htb
        have HDN := Lib.hid (HDW.out.trans (hrs.down (B := w.heap.size) (by have := HGT.out; omega) (Nat.le_of_lt HLT2.out)))
        clear hvl hve hcs hri hfr hrs
        by_cases hlt : j < t.kids.length
        · obtain ⟨k, hk⟩ : ∃ k, t.kids[j]? = some k := ⟨_, List.getElem?_eq_getElem hlt⟩
          obtain ⟨u, hu⟩ : ∃ u, us[j]? = some u := ⟨_, List.getElem?_eq_getElem (by rw [HUL.out]; exact hlt)⟩
          obtain ⟨q0, q1, q2, q3⟩ := HRI.out j u ((HVE.out j (Nat.le_refl _)).trans hu)
          have c0 := cells_of HCS.out _ _ q0
          have c1 := cells_of HCS.out _ _ q1
          have c2 := cells_of HCS.out _ _ q2
          have c3 := cells_of HCS.out _ _ q3
          have k3 := cells_of htb 3 _ rfl
          have gbl := lt_of_heap HCS.out
          have tbl := lt_of_heap htb
          have grf := Lib.frozen_of_heap HCS.out
          have HK := Lib.hid hk
          have HU := Lib.hid (TrAt.move (fun _ h => h) (fun b hb _ => HDN.out.block b hb) _ _ (HUT.out j k u hk hu))
          have HNK := Lib.hid (show SizeOf.sizeOf k ≤ N from by have := kid_sizeOf hk; have := HN.out; omega)
          have HFK := Lib.hid (HF3.out j k hk)
          have HBA := Lib.hid (((Below.refl wr.heap.size wr).alloc (Nat.le_refl _) (trO u)).drew)
          have hja : (j : Int) < (t.kids.length : Int) := by omega
          have hj0 : (0 : Int) ≤ (j : Int) := by omega
          have HUJ := Lib.hid hu
          clear hk hu q0 q1 q2 q3 htb
          go_wp2_with fail
          go_region_law (go_simp; go_at_call 35; refine (HIH.out _ k u _ HNK.out (HU.out.keep HBA.out) HFK.out).mono ?_; rintro e w5 ⟨y, rfl, hty, hb5⟩; have HTY := Lib.hid hty; have HB5 := Lib.hid (HBA.out.trans (hb5.mono HBA.out.size)); have HCS5 := Lib.hid ((HB5.out.block g gbl).trans HCS.out); have HTB5 := Lib.hid ((HB5.out.block w.heap.size tbl).trans HTB.out); have HLW := Lib.hid (show wr.heap.size < w5.heap.size from Nat.lt_of_lt_of_le (show wr.heap.size < (wr.alloc (trO u)).drew.heap.size by simp [World.drew]) hb5.size); clear hb5 hty c0 c1 c2 c3 k3 gbl tbl grf; obtain ⟨q0, q1, q2, q3⟩ := HRI.out j u ((HVE.out j (Nat.le_refl _)).trans HUJ.out); have c0 := cells_of HCS5.out _ _ q0; have c1 := cells_of HCS5.out _ _ q1; have c2 := cells_of HCS5.out _ _ q2; have c3 := cells_of HCS5.out _ _ q3; have gbl := lt_of_heap HCS5.out; have grf := Lib.frozen_of_heap HCS5.out; have k3 := cells_of HTB5.out 3 _ rfl; have tbl := lt_of_heap HTB5.out; clear q0 q1 q2 q3)
          all_goals
            clear c0 c1 c2 c3 k3 gbl tbl grf hja hj0
            have hj2 : (j : Int) + 1 ≤ 1900000000001 := by have := HF2.out; omega
            go_wp2
            go_roundw
            case measure => simp [intOf]; omega
            case rel =>
              have hR : Rest1 g wr (setK w5 g j y) := (Rest1.below HB5.out).trans (setK_rest w5 g j y)
              have hjv : j < vs.length := by rw [HVL.out]; exact hlt
              have hgw := lt_of_heap HCS.out
              refine ⟨j + 1, vs.set j y, setR cs j y, by go_num, by omega, by rw [List.length_set]; exact HVL.out, fun i hi => by rw [List.getElem?_set_ne (by omega)]; exact HVE.out i (by omega), setK_heap y HCS5.out, HRI.out.set hjv y, ?_, HRS.out.trans hR⟩
              rw [take_snoc HK.out, take_snoc (l := vs.set j y) (k := y) (List.getElem?_set_self hjv), List.take_set_of_le (Nat.le_refl _)]
              have hd : wr.heap.size ≤ (wr.alloc (trO u)).drew.heap.size := HBA.out.size
              refine OwnL.snoc (OwnL.move _ _ _ _ (fun b h1 h2 h3 => hR.block b h3 (by omega)) HFR.out) (by rw [List.length_take, List.length_take, HVL.out]) hd (OwnT.move _ _ _ _ (fun b h1 h2 h3 => (setK_rest w5 g j y).block b h3 (by omega)) ?_)
              have hsk : (setK w5 g j y).heap.size = w5.heap.size := setA_size w5 g (j * 4) y
              show OwnT w5 k y _ (setK w5 g j y).heap.size
              rw [hsk]
              exact HTY.out
        · have hjn : j = t.kids.length := by omega
          subst hjn
          have k0 := cells_of htb 0 _ rfl
          have k1 := cells_of htb 1 _ rfl
          have k2 := cells_of htb 2 _ rfl
          have k3 := cells_of htb 3 _ rfl
          have tbl := lt_of_heap htb
          have hrb := (HRS.out.block (w.heap.size + 1) (lt_of_heap HR2.out) (by have := HGT.out; omega)).trans HR2.out
          have r0 := cells_of hrb 0 _ rfl
          have r1 := cells_of hrb 1 _ rfl
          have r2 := cells_of hrb 2 _ rfl
          have r3 := cells_of hrb 3 _ rfl
          have rbl := lt_of_heap hrb
          have rrf := Lib.frozen_of_heap hrb
          have HRB := Lib.hid hrb
          clear hrb htb
          go_wp2
          refine bodyPost_ret (v := .agg #[.int .i64 vk, .string vx, .slice la' t.leads.length lc', .slice (some ⟨g, 0, none⟩) t.kids.length kc']) (by simp [results, Try.results35, go_sem, *]) rfl ?_
          refine ⟨⟨vk, vx, la', t.leads.length, lc', some ⟨g, 0, none⟩, t.kids.length, kc'⟩, rfl, ?_, ?_⟩
          · have hsz : (setT wr (w.heap.size + 1) ⟨vk, vx, la', t.leads.length, lc', some ⟨g, 0, none⟩, t.kids.length, kc'⟩).heap.size = wr.heap.size := setT_size _ _ _
            have hlw : ∀ b, w.heap.size + 2 ≤ b → b < w1.heap.size → b < wr.heap.size ∧ (setT wr (w.heap.size + 1) ⟨vk, vx, la', t.leads.length, lc', some ⟨g, 0, none⟩, t.kids.length, kc'⟩).heap[b]? = w1.heap[b]? := fun b hb hb1 => by
              obtain ⟨h1, h2⟩ := HLW2.out b hb hb1
              have hbg : b ≠ g := by have := HGE.out; omega
              exact ⟨Nat.lt_of_lt_of_le h1 HRS.out.size, ((setT_other ⟨vk, vx, la', t.leads.length, lc', some ⟨g, 0, none⟩, t.kids.length, kc'⟩ (by omega)).trans (HRS.out.block b h1 hbg)).trans h2⟩
            have hlo : ∀ b, ((w.alloc (trO ⟨vk, vx, vla, t.leads.length, vlc, vka, t.kids.length, vkc⟩)).alloc (.cells #[.int .i64 0, .string ⟨#[]⟩, .slice none 0 0, .slice none 0 0] 25)).heap.size ≤ b → w.heap.size + 2 ≤ b := fun b hb => by rw [HS0.out] at hb; exact hb
            show OwnT (setT wr (w.heap.size + 1) ⟨vk, vx, la', t.leads.length, lc', some ⟨g, 0, none⟩, t.kids.length, kc'⟩) t _ _ _
            have hfr := HFR.out
            rw [List.take_of_length_le (Nat.le_refl _), List.take_of_length_le (by rw [HVL.out]; exact Nat.le_refl _)] at hfr
            refine OwnT.make (g := g) HE3.out HE4.out rfl rfl ⟨HC1.out, HC2.out⟩ (by have := HGT.out; omega) (Nat.le_trans (Nat.le_of_lt (lt_of_heap HCS.out)) (Nat.le_of_eq hsz.symm)) (HLS.out.move (fun b hb => ⟨by have := hlo b hb.1; omega, Nat.lt_of_lt_of_le hb.2 HGE.out⟩) (fun b hb _ => (hlw b (hlo b hb.1) hb.2).2)) (fun _ => ⟨rfl, cs, vs, (setT_other _ (by have := HGT.out; omega)).trans HCS.out, HVL.out, HRI.out, OwnL.move _ _ _ _ (fun b h1 h2 h3 => setT_other _ (by have := HGT.out; omega)) ?_⟩)
            show OwnL wr t.kids vs (g + 1) (setT wr (w.heap.size + 1) ⟨vk, vx, la', t.leads.length, lc', some ⟨g, 0, none⟩, t.kids.length, kc'⟩).heap.size
            rw [hsz]
            exact hfr
          · exact (HB1.out.trans HDN.out).trans ((setT_below wr (w.heap.size + 1) ⟨vk, vx, la', t.leads.length, lc', some ⟨g, 0, none⟩, t.kids.length, kc'⟩).mono (Nat.le_succ _))
end Go.Proofs.Ytojekhbebcdccaa
