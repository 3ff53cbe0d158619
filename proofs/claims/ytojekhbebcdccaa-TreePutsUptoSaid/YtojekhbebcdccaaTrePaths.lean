/- The contract of the closure in tree.Paths. Conditions: a tree and a path that are small enough. -/
import Derived.Test.YtojekhbebcdccaaTreGrow
import Derived.Test.YtojekhbebcdccaaTreReplace
import Derived.Deep.RegionHeld3
import Derived.Laws.EntriesVeiled
namespace Go.Proofs.Ytojekhbebcdccaa
open Go.RowKit Go.Shelf
mutual
/-- The paths of a tree in preorder, behind a path. -/
def pathsT : Tr → List Int → List (List Int)
  | .mk _ _ _ ks, p => p :: pathsL ks 0 p
def pathsL : List Tr → Nat → List Int → List (List Int)
  | [], _, _ => []
  | t :: r, i, p => pathsT t (p ++ [(i : Int)]) ++ pathsL r (i + 1) p
end
theorem pathsT_eq (t : Tr) (p : List Int) : pathsT t p = p :: pathsL t.kids 0 p := by cases t; rw [pathsT]; rfl
theorem pathsL_snoc (t : Tr) (p : List Int) : (l : List Tr) → (i : Nat) → pathsL (l ++ [t]) i p = pathsL l i p ++ pathsT t (p ++ [((i + l.length : Nat) : Int)])
  | [], i => by rw [List.nil_append, pathsL, pathsL, pathsL, List.append_nil, List.nil_append]; rfl
  | a :: r, i => by
    rw [List.cons_append, pathsL, pathsL, pathsL_snoc t p r (i + 1), List.append_assoc, List.length_cons, show i + 1 + r.length = i + (r.length + 1) from by omega]
mutual
theorem pathsT_len : (t : Tr) → (p : List Int) → (pathsT t p).length = sizeT t
  | .mk _ _ _ ks, p => by rw [pathsT, sizeT, List.length_cons, pathsL_len ks 0 p]; omega
theorem pathsL_len : (l : List Tr) → (i : Nat) → (p : List Int) → (pathsL l i p).length = sizeL l
  | [], _, _ => by rw [pathsL, sizeL]; rfl
  | t :: r, i, p => by rw [pathsL, sizeL, List.length_append, pathsT_len t, pathsL_len r]
end
/-- All blocks but one and the arrays of slices stay. -/
structure PStep (B lb : Nat) (w w' : World) : Prop where
  os : w'.os = w.os
  tape : w'.tape = w.tape
  output : w'.output = w.output
  size : w.heap.size ≤ w'.heap.size
  block : ∀ k, k < w.heap.size → k ≠ lb → (k < B ∨ ∀ cs, w.heap[k]? ≠ some (.cells cs 33 (0, 0))) → w'.heap[k]? = w.heap[k]?
theorem PStep.refl (B lb : Nat) (w : World) : PStep B lb w w := ⟨rfl, rfl, rfl, Nat.le_refl _, fun _ _ _ _ => rfl⟩
theorem PStep.trans {B lb : Nat} {u v w : World} (h : PStep B lb u v) (k : PStep B lb v w) : PStep B lb u w :=
  ⟨k.os.trans h.os, k.tape.trans h.tape, k.output.trans h.output, Nat.le_trans h.size k.size, fun i hi hl hc => by
    have h1 := h.block i hi hl hc
    exact (k.block i (Nat.lt_of_lt_of_le hi h.size) hl (hc.imp id fun hn cs => by rw [h1]; exact hn cs)).trans h1⟩
theorem PStep.below {B lb : Nat} {w w' : World} (h : Below w.heap.size w w') : PStep B lb w w' := ⟨h.os, h.tape, h.output, h.size, fun k hk _ _ => h.block k hk⟩
theorem PStep.set (B lb : Nat) (w : World) (o : Nat) (u : Value) : PStep B lb w (w.setCell ⟨lb, o, none⟩ u) := ⟨rfl, rfl, rfl, by simp [World.setCell], fun _ _ hl _ => set_other hl⟩
theorem PStep.grown {B lb n : Nat} {w w' : World} {L : Value} {vs : List Value} (h : w.ownsRow B 33 1 L n vs) (hg : w.grownBy w' L.ownBlock) : PStep B lb w w' :=
  ⟨hg.os, hg.tape, hg.output, hg.size, fun k hk _ hc => hg.block k hk fun e => by
    rcases h.2 with ⟨hv, _⟩ | ⟨g, cap, cur, hv, hb, hh, _⟩
    · rw [hv] at e
      cases e
    · rw [hv] at e
      injection e with e
      subst e
      rcases hc with hc | hc
      · exact absurd hb (Nat.not_le_of_lt hc)
      · exact hc cur hh⟩
theorem PStep.down {B lb : Nat} {w w' : World} (h : PStep B lb w w') (hl : B ≤ lb) (hB : B ≤ w.heap.size) : Below B w w' := ⟨h.os, h.tape, h.output, h.size, fun k hk => h.block k (Nat.lt_of_lt_of_le hk hB) (by omega) (.inl hk)⟩
/-- A block of another type stays. -/
theorem PStep.other {B lb k : Nat} {w w' : World} {cs : Array Value} {T : TypeId} (h : PStep B lb w w') (hk : w.heap[k]? = some (.cells cs T (0, 0))) (hl : k ≠ lb) (hT : T ≠ 33) : w'.heap[k]? = some (.cells cs T (0, 0)) :=
  (h.block k (lt_of_heap hk) hl (.inr fun cs' e => by rw [hk] at e; injection e with e; injection e with _ e; exact hT e)).trans hk
theorem IntRow.step {B lb : Nat} {w w' : World} {v : Value} {p : List Int} {L : Value} (h : IntRow w B v p) (hs : PStep B lb w w') (hl : w.heap[lb]? = some (.cells #[L] 30 (0, 0))) : IntRow w' B v p := by
  refine ⟨h.1, ?_⟩
  rcases h.2 with h0 | ⟨g, cap, cur, hv, hb, hh, hr⟩
  · exact .inl h0
  · exact .inr ⟨g, cap, cur, hv, hb, hs.other hh (fun e => by rw [e, hl] at hh; injection hh with e; injection e with _ e; exact absurd e (by decide)) (by decide), hr⟩
theorem own_keep {B size n : Nat} {w w' : World} {T : TypeId} {v : Value} {xs : List Value} (h : w.ownsRow B T size v n xs) (hb : Below w.heap.size w w') : w'.ownsRow B T size v n xs := by
  refine ⟨h.1, ?_⟩
  rcases h.2 with h0 | ⟨g, cap, cur, hv, hb', hh, hr⟩
  · exact .inl h0
  · exact .inr ⟨g, cap, cur, hv, hb', (hb.block g (lt_of_heap hh)).trans hh, hr⟩
theorem own_base_le {B B' size n : Nat} {w : World} {T : TypeId} {v : Value} {xs : List Value} (h : w.ownsRow B T size v n xs) (hB : B' ≤ B) : w.ownsRow B' T size v n xs := by
  refine ⟨h.1, ?_⟩
  rcases h.2 with h0 | ⟨g, cap, cur, hv, hb', hr⟩
  · exact .inl h0
  · exact .inr ⟨g, cap, cur, hv, Nat.le_trans hB hb', hr⟩
/-- The list that the closure gathers. -/
def LAt (w : World) (B lb : Nat) (ps : List (List Int)) : Prop :=
  ∃ (L : Value) (vs : List Value), w.heap[lb]? = some (.cells #[L] 30 (0, 0)) ∧ w.ownsRow B 33 1 L ps.length vs ∧ ∀ (i : Nat) (v : Value) (p : List Int), vs[i]? = some v → ps[i]? = some p → IntRow w B v p
theorem LAt.below {w w' : World} {B lb : Nat} {ps : List (List Int)} (h : LAt w B lb ps) (hb : Below w.heap.size w w') : LAt w' B lb ps := by
  obtain ⟨L, vs, h1, h2, h3⟩ := h
  exact ⟨L, vs, (hb.block lb (lt_of_heap h1)).trans h1, own_keep h2 hb, fun i v p hv hp => own_keep (h3 i v p hv hp) hb⟩
theorem two_blocks (w : World) (a b : Obj) : ((w.alloc a).alloc b).heap[w.heap.size]? = some a ∧ ((w.alloc a).alloc b).heap[w.heap.size + 1]? = some b :=
  ⟨(Below.heap_alloc _ _ _ (by rw [World.size_alloc]; omega)).trans (heap_alloc_new w a), by rw [← World.size_alloc w a]; exact heap_alloc_new _ _⟩
theorem slice_info : (Try.prog.info? 33).map (fun i => (i.zero, i.size, i.bytes)) = some (some (.slice none 0 0), 1, 24) := by kernel_rfl
def fnV (lb fb : Nat) : Value := .func (.func 31) #[] #[.pointer (some ⟨lb, 0, none⟩), .pointer (some ⟨fb, 0, none⟩)]
def FAt (w : World) (lb fb : Nat) : Prop := w.heap[fb]? = some (.cells #[fnV lb fb] 44 (0, 0))
theorem grown_other {B n k : Nat} {w w' : World} {L : Value} {vs : List Value} {cs : Array Value} {T : TypeId} (h : w.ownsRow B 33 1 L n vs) (hg : w.grownBy w' L.ownBlock) (hk : w.heap[k]? = some (.cells cs T (0, 0))) (hT : T ≠ 33) : w'.heap[k]? = some (.cells cs T (0, 0)) :=
  (hg.block k (lt_of_heap hk) (fun e => by
    rcases h.2 with ⟨hv, _⟩ | ⟨g, cap, cur, hv, hb, hh, _⟩
    · rw [hv] at e
      cases e
    · rw [hv] at e
      injection e with e
      subst e
      rw [hk] at hh
      injection hh with hh
      injection hh with _ hh
      exact hT hh)).trans hk
theorem LAt.step1 {w w' : World} {B lb : Nat} {ps : List (List Int)} {L L' : Value} {vs : List Value} (h1 : w.heap[lb]? = some (.cells #[L] 30 (0, 0))) (h2 : w.ownsRow B 33 1 L ps.length vs) (h3 : ∀ (i : Nat) (v : Value) (p : List Int), vs[i]? = some v → ps[i]? = some p → IntRow w B v p)
    {x : Value} {p : List Int} (hx : IntRow w B x p) (ho : w'.ownsRow B 33 1 L' (ps.length + 1) (vs ++ [x])) (hg : w.grownBy w' L.ownBlock) : LAt (w'.setCell ⟨lb, 0, none⟩ L') B lb (ps ++ [p]) := by
  have hl := grown_other h2 hg h1 (by decide)
  have hs : PStep B lb w (w'.setCell ⟨lb, 0, none⟩ L') := (PStep.grown h2 hg).trans (PStep.set B lb w' 0 L')
  have hlen : vs.length = ps.length := by have := h2.1; omega
  refine ⟨L', vs ++ [x], heap_set hl rfl, ?_, fun i v q hv hq => ?_⟩
  · rw [List.length_append]
    refine ⟨ho.1, ?_⟩
    rcases ho.2 with h0 | ⟨g, cap, cur, hv, hb, hh, hr⟩
    · exact .inl h0
    · exact .inr ⟨g, cap, cur, hv, hb, (set_other (fun e => by rw [e, hl] at hh; injection hh with e; injection e with _ e; exact absurd e (by decide))).trans hh, hr⟩
  · by_cases hi : i < ps.length
    · rw [List.getElem?_append_left (by omega)] at hv
      rw [List.getElem?_append_left (by omega)] at hq
      exact (h3 i v q hv hq).step hs h1
    · have hi2 : i = ps.length := by
        have := (List.getElem?_eq_some_iff.1 hq).1
        rw [List.length_append] at this
        simp at this
        omega
      subst hi2
      rw [List.getElem?_append_right (by omega), hlen, Nat.sub_self] at hv
      rw [List.getElem?_append_right (by omega), Nat.sub_self] at hq
      simp at hv hq
      subst hv hq
      exact hx.step hs h1
theorem sizeL_get : (l : List Tr) → (j : Nat) → (k : Tr) → l[j]? = some k → sizeL (l.take j) + sizeT k ≤ sizeL l
  | [], _, _, h => by simp at h
  | a :: r, 0, k, h => by
    simp at h
    subst h
    rw [List.take_zero, sizeL, sizeL]
    omega
  | a :: r, j + 1, k, h => by
    have := sizeL_get r j k (by simpa using h)
    rw [List.take_succ_cons, sizeL, sizeL]
    omega
theorem size_pre {t k : Tr} {j : Nat} (h : t.kids[j]? = some k) : sizeL (t.kids.take j) + sizeT k ≤ sizeL t.kids := sizeL_get _ _ _ h
theorem size_kid1 {t k : Tr} {j : Nat} (h : t.kids[j]? = some k) : 1 + sizeT k ≤ sizeT t := by
  have h1 := size_pre h
  rw [sizeT_eq t]
  omega
/-- Where the closure's loop stands. -/
def ColAt (B lb fb : Nat) (t : Tr) (p : List Int) (ps : List (List Int)) (W : World) (i : Value) (wr : World) : Prop :=
  ∃ j : Nat, i = .int .i64 j ∧ j ≤ t.kids.length ∧ LAt wr B lb (ps ++ p :: pathsL (t.kids.take j) 0 p) ∧ FAt wr lb fb ∧ PStep B lb W wr
set_option maxRecDepth 100000 in
set_option maxHeartbeats 2000000 in
theorem collect_any (B lb fb : Nat) (hlb : B ≤ lb) (hne : fb ≠ lb) (N : Nat) : ∀ (S : Nat → Prop) (t : Tr) (v : TV) (A : Option Addr) (c : Nat) (p : List Int) (ps : List (List Int)) (w : World), SizeOf.sizeOf t ≤ N → TrAt S w t v → (∀ k, S k → k < B) → fitT t = true → IntRow w B (.slice A p.length c) p → LAt w B lb ps → FAt w lb fb → B ≤ w.heap.size → p.length + sizeT t ≤ 1000000 → ps.length + sizeT t ≤ 1000000 →
    Calls Try.prog 31 #[.agg #[.int .i64 v.kind, .string v.text, .slice v.la v.ll v.lc, .slice v.ka v.kl v.kc], .slice A p.length c, .pointer (some ⟨lb, 0, none⟩), .pointer (some ⟨fb, 0, none⟩)] w fun e w' => e = .returned (.tuple #[]) ∧ LAt w' B lb (ps ++ pathsT t p) ∧ PStep B lb w w' := by
  induction N with
  | zero => intro S t v A c p ps w h; have := tr_pos t; omega
  | succ N ih =>
    intro S t v A c p ps w hN h hS hz hp hL hF hB hb1 hb2
    obtain ⟨L, vs, hl0, hown, hrows⟩ := hL
    obtain ⟨LA, LC, rfl⟩ := own_shape hown
    have hkl := h.kl.1
    obtain ⟨vk, vx, vla, vll, vlc, vka, vkl, vkc⟩ := v
    simp only at hkl
    subst hkl
    have HIH := Lib.hid ih
    have HN := Lib.hid hN
    have HT := Lib.hid h
    have HS := Lib.hid hS
    have HZ := Lib.hid hz
    have HP := Lib.hid hp
    have HF := Lib.hid hF
    have HB := Lib.hid hB
    have HB1 := Lib.hid hb1
    have HB2 := Lib.hid hb2
    have HL0 := Lib.hid hl0
    have HOW := Lib.hid hown
    have HRW := Lib.hid hrows
    have l0 : w.cell? ⟨lb, 0, none⟩ = some (.slice LA ps.length LC) := cells_of hl0 0 _ rfl
    have lbl := lt_of_heap hl0
    have lrf := Lib.frozen_of_heap hl0
    have f0 : w.cell? ⟨fb, 0, none⟩ = some (fnV lb fb) := cells_of hF 0 _ rfl
    obtain ⟨il, hil, lz0, lz1, lz2⟩ := info_parts slice_info
    clear ih hN h hS hz hp hF hB hb1 hb2 hl0 hown hrows f0
    go_enter Try.func31, Try.ntmps31
    have HB0 := Lib.hid (((Below.refl w.heap.size w).alloc (Nat.le_refl _) (trO ⟨vk, vx, vla, vll, vlc, vka, t.kids.length, vkc⟩)).alloc (by rw [World.size_alloc]; omega) (.cells #[.slice A p.length c] 33))
    have HOA := Lib.hid (own_keep HOW.out HB0.out)
    have HBL := Lib.hid (show B ≤ ((w.alloc (trO ⟨vk, vx, vla, vll, vlc, vka, t.kids.length, vkc⟩)).alloc (.cells #[.slice A p.length c] 33)).heap.size from Nat.le_trans HB.out HB0.out.size)
    have hxa : ((w.alloc (trO ⟨vk, vx, vla, vll, vlc, vka, t.kids.length, vkc⟩)).alloc (.cells #[.slice A p.length c] 33)).heap[w.heap.size]? = some (trO ⟨vk, vx, vla, vll, vlc, vka, t.kids.length, vkc⟩) := (Below.heap_alloc _ _ _ (by rw [World.size_alloc]; omega)).trans (heap_alloc_new w (trO ⟨vk, vx, vla, vll, vlc, vka, t.kids.length, vkc⟩))
    have hxb : ((w.alloc (trO ⟨vk, vx, vla, vll, vlc, vka, t.kids.length, vkc⟩)).alloc (.cells #[.slice A p.length c] 33)).heap[w.heap.size + 1]? = some (.cells #[.slice A p.length c] 33 (0, 0)) := by rw [← World.size_alloc w (trO ⟨vk, vx, vla, vll, vlc, vka, t.kids.length, vkc⟩)]; exact heap_alloc_new _ _
    have HXA := Lib.hid hxa
    have HNW := Lib.hid (show ∀ (j : Nat) (u : Value), [Value.slice A p.length c][j]? = some u → ((w.alloc (trO ⟨vk, vx, vla, vll, vlc, vka, t.kids.length, vkc⟩)).alloc (.cells #[.slice A p.length c] 33)).cell? ((⟨w.heap.size + 1, 0, none⟩ : Addr).add j) = some u from fun j u hu => by
      cases j with
      | zero =>
        injection hu with hu
        subst hu
        exact cells_of hxb 0 _ rfl
      | succ j => simp at hu)
    have HL1 := Lib.hid ((HB0.out.block lb lbl).trans HL0.out)
    have hneb : ¬ lb = w.heap.size := by omega
    have hps : ps.length ≤ 1000000 := by have := HB2.out; omega
    clear hxa hxb
    go_wp2_with (at_builtin; refine wpList_append_lies _ rfl _ _ 30 rfl B 33 il _ 1 24 Try.underlying30 hil lz0 lz1 lz2 rfl (by decide) (.slice LA ps.length LC) ps.length vs rfl HOA.out ⟨w.heap.size + 1, 0, none⟩ 1 1 [.slice A p.length c] rfl rfl HNW.out (by simp [Value.oneCell']) (by decide) (by unfold maxLen; omega) (by omega) HBL.out _ rfl ?_; intro g2 c2 w2 hown2 hgr _ _; have HO2 := Lib.hid hown2; have HGR := Lib.hid hgr; have hl2 := grown_other HOA.out hgr HL1.out (by decide); have hx2 := grown_other HOA.out hgr HXA.out (by decide); clear l0 lbl lrf hown2 hgr; have l0 : w2.cell? ⟨lb, 0, none⟩ = some (.slice LA ps.length LC) := cells_of hl2 0 _ rfl; have lbl := lt_of_heap hl2; have lrf := Lib.frozen_of_heap hl2; have k3 : w2.cell? ⟨w.heap.size, 3, none⟩ = some (.slice vka t.kids.length vkc) := cells_of hx2 3 _ rfl; have kbl := lt_of_heap hx2; clear hl2 hx2)
    have HST := Lib.hid (show PStep B lb w (w2.setCell ⟨lb, 0, none⟩ (.slice (some ⟨g2, 0, none⟩) (ps.length + 1) c2)) from (PStep.below HB0.out).trans ((PStep.grown HOA.out HGR.out).trans (PStep.set B lb w2 0 _)))
    have HLL := Lib.hid (LAt.step1 HL1.out HOA.out (fun i v p hv hp => own_keep (HRW.out i v p hv hp) HB0.out) (own_keep HP.out HB0.out) HO2.out HGR.out)
    have HF2 := Lib.hid (HST.out.other HF.out hne (by decide))
    clear l0 lbl lrf k3 kbl hneb hps
    go_loopw [15] (fun i wr => ColAt B lb fb t p ps w i wr) (fun i _ => t.kids.length - (intOf i).toNat)
    case atStart => exact ⟨0, rfl, Nat.zero_le _, by rw [List.take_zero, pathsL]; exact HLL.out, HF2.out, HST.out⟩
    case round =>
      obtain ⟨j, rfl, hj, hll, hff, hst⟩ := hrel
      have HLW := Lib.hid hll
      have HFW := Lib.hid hff
      have HSW := Lib.hid hst
      have HTR := Lib.hid (TrAt.move (w' := wr) (fun _ h => h) (fun k hk hlt => hst.block k hlt (by have := HS.out k hk; omega) (.inl (HS.out k hk))) _ _ HT.out)
      clear hll hff hst
      by_cases hlt : j < t.kids.length
      · obtain ⟨k, hk⟩ : ∃ k, t.kids[j]? = some k := ⟨_, List.getElem?_eq_getElem hlt⟩
        obtain ⟨kb, ko, hka⟩ : ∃ b off, vka = some ⟨b, off, none⟩ := HTR.out.addr.resolve_left (by omega)
        subst hka
        obtain ⟨u, c0, c1, c2, c3, hu⟩ := HTR.out.at rfl hk
        have HU := Lib.hid hu
        have kbl : kb < wr.heap.size := World.block_lt_of_cell? wr _ c3
        have hsz := size_kid1 hk
        have HSZ := Lib.hid hsz
        have HNK := Lib.hid (show SizeOf.sizeOf k ≤ N from by have := kid_sizeOf hk; have := HN.out; omega)
        have HFK := Lib.hid ((fitT_kids HZ.out).2.2 j k hk)
        obtain ⟨p', hpp⟩ : ∃ p', p ++ [(j : Int)] = p' := ⟨_, rfl⟩
        have HPP := Lib.hid hpp
        have HTK := Lib.hid (show pathsL (t.kids.take (j + 1)) 0 p = pathsL (t.kids.take j) 0 p ++ pathsT k p' from by rw [take_snoc hk, pathsL_snoc, List.length_take, Nat.min_eq_left (Nat.le_of_lt hlt), Nat.zero_add, hpp])
        have HPL := Lib.hid (show (ps ++ p :: pathsL (t.kids.take j) 0 p).length + sizeT k ≤ 1000000 from by rw [List.length_append, List.length_cons, pathsL_len]; have h1 := HB2.out; have h2 := sizeT_eq t; have h3 : sizeL (t.kids.take j) + sizeT k ≤ sizeL t.kids := size_pre hk; omega)
        have HPK := Lib.hid (show p'.length + sizeT k ≤ 1000000 from by rw [← hpp, List.length_append]; have h1 := HB1.out; simp; omega)
        have HPLEN := Lib.hid (show p.length ≤ 1000000 from by have := HB1.out; omega)
        have hja : (j : Int) < (t.kids.length : Int) := by omega
        have hj0 : (0 : Int) ≤ (j : Int) := by omega
        have hjm : (j : Int) + 1 ≤ 1900000000001 := by have := (fitT_kids HZ.out).2.1; omega
        have mixedL : Try.prog.follows Departure.mixedOrders = true := mixed
        have HNB := Lib.hid (show wr.heap.size ≠ lb from by obtain ⟨_, _, h1, _⟩ := HLW.out; have := lt_of_heap h1; omega)
        have HBW := Lib.hid (show B ≤ wr.heap.size from Nat.le_trans HB.out HSW.out.size)
        have HPR := Lib.hid (HP.out.step HSW.out HL0.out)
        clear hk hu hsz hpp
        go_wp2_with fail
        obtain ⟨W4, hW4⟩ : ∃ W, W = wr.alloc (trO u) := ⟨_, rfl⟩
        rw [show wr.alloc (.cells #[.int .i64 u.kind, .string u.text, .slice u.la u.ll u.lc, .slice u.ka u.kl u.kc] 25) = W4 from hW4.symm]
        have HW4 := Lib.hid (show Below wr.heap.size wr W4 from by rw [hW4]; exact (Below.refl _ _).alloc (Nat.le_refl _) _)
        have HXK := Lib.hid (show W4.heap[wr.heap.size]? = some (trO u) from by rw [hW4]; exact heap_alloc_new _ _)
        have HF4 := Lib.hid (show FAt W4 lb fb from (HW4.out.block fb (lt_of_heap HFW.out)).trans HFW.out)
        have HP4 := Lib.hid (own_keep HPR.out HW4.out)
        clear hW4 c0 c1 c2 c3 kbl
        have HBC := Lib.hid (show Below W4.heap.size W4 ((W4.alloc (.cells #[.int .i64 j] 3)).alloc (.cells #[.slice A p.length c, .slice (some ⟨W4.heap.size, 0, none⟩) 1 1] 33)).drew from ((((Below.refl _ _).alloc (Nat.le_refl _) _).alloc (by rw [World.size_alloc]; exact Nat.le_succ _) _).drew))
        have HPC := Lib.hid (show IntRow ((W4.alloc (.cells #[.int .i64 j] 3)).alloc (.cells #[.slice A p.length c, .slice (some ⟨W4.heap.size, 0, none⟩) 1 1] 33)).drew B (.slice A p.length c) p from own_keep HP4.out HBC.out)
        have HTB := Lib.hid (show ((W4.alloc (.cells #[.int .i64 j] 3)).alloc (.cells #[.slice A p.length c, .slice (some ⟨W4.heap.size, 0, none⟩) 1 1] 33)).drew.heap[W4.heap.size]? = some (.cells #[.int .i64 j] 3 (0, 0)) ∧ ((W4.alloc (.cells #[.int .i64 j] 3)).alloc (.cells #[.slice A p.length c, .slice (some ⟨W4.heap.size, 0, none⟩) 1 1] 33)).drew.heap[W4.heap.size + 1]? = some (.cells #[.slice A p.length c, .slice (some ⟨W4.heap.size, 0, none⟩) 1 1] 33 (0, 0)) from two_blocks W4 (.cells #[.int .i64 j] 3) (.cells #[.slice A p.length c, .slice (some ⟨W4.heap.size, 0, none⟩) 1 1] 33))
        have f0 : W4.cell? ⟨fb, 0, none⟩ = some (.func (.func 31) #[] #[.pointer (some ⟨lb, 0, none⟩), .pointer (some ⟨fb, 0, none⟩)]) := cells_of HF4.out 0 _ rfl
        have fbl := lt_of_heap HF4.out
        have x0 : W4.cell? ⟨wr.heap.size, 0, none⟩ = some (.int .i64 u.kind) := cells_of HXK.out 0 _ rfl
        have x1 : W4.cell? ⟨wr.heap.size, 1, none⟩ = some (.string u.text) := cells_of HXK.out 1 _ rfl
        have x2 : W4.cell? ⟨wr.heap.size, 2, none⟩ = some (.slice u.la u.ll u.lc) := cells_of HXK.out 2 _ rfl
        have x3 : W4.cell? ⟨wr.heap.size, 3, none⟩ = some (.slice u.ka u.kl u.kc) := cells_of HXK.out 3 _ rfl
        have xbl := lt_of_heap HXK.out
        go_region_held3 (fun w' => w'.cell? ⟨fb, 0, none⟩ = some (.func (.func 31) #[] #[.pointer (some ⟨lb, 0, none⟩), .pointer (some ⟨fb, 0, none⟩)]) ∧ w'.cell? ⟨wr.heap.size, 0, none⟩ = some (.int .i64 u.kind) ∧ w'.cell? ⟨wr.heap.size, 1, none⟩ = some (.string u.text) ∧ w'.cell? ⟨wr.heap.size, 2, none⟩ = some (.slice u.la u.ll u.lc) ∧ w'.cell? ⟨wr.heap.size, 3, none⟩ = some (.slice u.ka u.kl u.kc)) (first | with_reducible exact ⟨f0, x0, x1, x2, x3⟩ | go_keep) (first | (go_at_call 31; refine (HIH.out S k u A5 c5 p' (ps ++ p :: pathsL (t.kids.take j) 0 p) _ HNK.out HU5.out HS.out HFK.out HV5.out HL5.out HF5.out (Nat.le_trans (Nat.le_trans HBW.out HW4.out.size) HB5.out.size) HPK.out HPL.out).mono ?_; rintro e w6 ⟨rfl, hl6, hs6⟩; have HL6 := Lib.hid hl6; have HS6 := Lib.hid hs6; have HXK6 := Lib.hid (hs6.other HXK5.out HNB.out (by decide)); have HF6 := Lib.hid (show FAt w6 lb fb from hs6.other HF5.out hne (by decide)); clear hl6 hs6 f0 x0 x1 x2 x3 xbl fbl; have f0 : w6.cell? ⟨fb, 0, none⟩ = some (.func (.func 31) #[] #[.pointer (some ⟨lb, 0, none⟩), .pointer (some ⟨fb, 0, none⟩)]) := cells_of HF6.out 0 _ rfl; have fbl := lt_of_heap HF6.out; have x0 : w6.cell? ⟨wr.heap.size, 0, none⟩ = some (.int .i64 u.kind) := cells_of HXK6.out 0 _ rfl; have x1 : w6.cell? ⟨wr.heap.size, 1, none⟩ = some (.string u.text) := cells_of HXK6.out 1 _ rfl; have x2 : w6.cell? ⟨wr.heap.size, 2, none⟩ = some (.slice u.la u.ll u.lc) := cells_of HXK6.out 2 _ rfl; have x3 : w6.cell? ⟨wr.heap.size, 3, none⟩ = some (.slice u.ka u.kl u.kc) := cells_of HXK6.out 3 _ rfl; have xbl := lt_of_heap HXK6.out) | (go_at_call 32; refine (concat_any B (W4.heap.size + 1) W4.heap.size A c p j _ (cells_of HTB.out.2 0 (.slice A p.length c) rfl) (cells_of HTB.out.2 1 (.slice (some ⟨W4.heap.size, 0, none⟩) 1 1) rfl) (cells_of HTB.out.1 0 (.int .i64 j) rfl) HPC.out HPLEN.out).mono ?_; rintro e w5 ⟨v5, rfl, hv5, hb5⟩; rw [HPP.out] at hv5; have hb4 : Below W4.heap.size W4 w5 := HBC.out.trans (hb5.mono HBC.out.size); have HV5 := Lib.hid (show IntRow w5 B v5 p' from own_base_le hv5 (Nat.le_trans (Nat.le_trans HBW.out HW4.out.size) HBC.out.size)); obtain ⟨A5, c5, hv5e⟩ := own_shape hv5; subst hv5e; have HB5 := Lib.hid hb4; have HL5 := Lib.hid ((HLW.out.below HW4.out).below hb4); have HU5 := Lib.hid ((HU.out.keep HW4.out).keep hb4); have HXK5 := Lib.hid ((hb4.block wr.heap.size xbl).trans HXK.out); have HF5 := Lib.hid (show FAt w5 lb fb from (hb4.block fb fbl).trans HF4.out); clear hv5 hb5 hb4 f0 x0 x1 x2 x3 xbl fbl; have f0 : w5.cell? ⟨fb, 0, none⟩ = some (.func (.func 31) #[] #[.pointer (some ⟨lb, 0, none⟩), .pointer (some ⟨fb, 0, none⟩)]) := cells_of HF5.out 0 _ rfl; have fbl := lt_of_heap HF5.out; have x0 : w5.cell? ⟨wr.heap.size, 0, none⟩ = some (.int .i64 u.kind) := cells_of HXK5.out 0 _ rfl; have x1 : w5.cell? ⟨wr.heap.size, 1, none⟩ = some (.string u.text) := cells_of HXK5.out 1 _ rfl; have x2 : w5.cell? ⟨wr.heap.size, 2, none⟩ = some (.slice u.la u.ll u.lc) := cells_of HXK5.out 2 _ rfl; have x3 : w5.cell? ⟨wr.heap.size, 3, none⟩ = some (.slice u.ka u.kl u.kc) := cells_of HXK5.out 3 _ rfl; have xbl := lt_of_heap HXK5.out))
        all_goals
          clear f0 x0 x1 x2 x3 xbl fbl
          go_wp2
          go_roundw
          case measure => simp [intOf]; omega
          case rel =>
            refine ⟨j + 1, by go_num, by omega, ?_, HF6.out, ((HSW.out.trans (PStep.below HW4.out)).trans (PStep.below HB5.out)).trans HS6.out⟩
            rw [HTK.out]
            have := HL6.out
            rw [List.append_assoc, List.cons_append] at this
            exact this
      · have hjn : j = t.kids.length := by omega
        subst hjn
        have hll := HLW.out
        rw [List.take_of_length_le (Nat.le_refl _)] at hll
        have HLL2 := Lib.hid hll
        clear hll
        go_wp2
        go_end0
        exact ⟨rfl, by rw [pathsT_eq]; exact HLL2.out, HSW.out⟩
/-- A list of paths that the call made. -/
def PsAt (w : World) (B : Nat) (L : Value) (ps : List (List Int)) : Prop :=
  ∃ vs : List Value, w.ownsRow B 33 1 L ps.length vs ∧ ∀ (i : Nat) (v : Value) (p : List Int), vs[i]? = some v → ps[i]? = some p → IntRow w B v p
theorem PsAt.keep {w w' : World} {B : Nat} {L : Value} {ps : List (List Int)} (h : PsAt w B L ps) (hb : Below w.heap.size w w') : PsAt w' B L ps := by
  obtain ⟨vs, h1, h2⟩ := h
  exact ⟨vs, own_keep h1 hb, fun i v p hv hp => own_keep (h2 i v p hv hp) hb⟩
set_option maxRecDepth 100000 in
set_option maxHeartbeats 2000000 in
theorem paths_any (S : Nat → Prop) (t : Tr) (v : TV) (w : World) (h : TrAt S w t v) (hz : fitT t = true) (hs : sizeT t ≤ 1000000) :
    Calls Try.prog 16 #[.agg #[.int .i64 v.kind, .string v.text, .slice v.la v.ll v.lc, .slice v.ka v.kl v.kc]] w fun e w' => ∃ L, e = .returned L ∧ PsAt w' w.heap.size L (pathsT t []) ∧ Below w.heap.size w w' := by
  have HT := Lib.hid h
  have HZ := Lib.hid hz
  have HS := Lib.hid hs
  obtain ⟨x0, x1, x2⟩ := three_blocks w (trO v) (.cells #[.slice none 0 0] 30) (.cells #[fnV (w.heap.size + 1) (w.heap.size + 1 + 1)] 44)
  obtain ⟨W0, hW0⟩ : ∃ W0, W0 = ((w.alloc (trO v)).alloc (.cells #[.slice none 0 0] 30)).alloc (.cells #[fnV (w.heap.size + 1) (w.heap.size + 1 + 1)] 44) := ⟨_, rfl⟩
  have HB0 := Lib.hid (show Below w.heap.size w W0 from by rw [hW0]; exact (((Below.refl w.heap.size w).alloc (Nat.le_refl _) _).alloc (by rw [World.size_alloc]; omega) _).alloc (by rw [World.size_alloc, World.size_alloc]; omega) _)
  have HRAW := Lib.hid (show ((w.alloc (.cells #[.int .i64 v.kind, .string v.text, .slice v.la v.ll v.lc, .slice v.ka v.kl v.kc] 25)).alloc (.cells #[.slice none 0 0] 30)).alloc (.cells #[.func (.func 31) #[] #[.pointer (some ⟨w.heap.size + 1, 0, none⟩), .pointer (some ⟨w.heap.size + 1 + 1, 0, none⟩)]] 44) = W0 from hW0.symm)
  rw [← hW0] at x0 x1 x2
  have HX := Lib.hid x0
  have HL := Lib.hid x1
  have HF := Lib.hid x2
  have hmf : ∀ (fn : Fn) (first cap : Array Value) (w : World), (Instr.makeFunc fn first cap).run Try.prog w = .ok (.func fn first cap) w := fun _ _ _ _ => rfl
  clear h hz hs x0 x1 x2 hW0
  go_enter Try.func16, Try.ntmps16
  go_wp2_with fail
  rw [HRAW.out]
  go_at_call 31
  refine (collect_any w.heap.size (w.heap.size + 1) (w.heap.size + 1 + 1) (Nat.le_succ _) (by omega) (SizeOf.sizeOf t) (fun k => k < w.heap.size) t v none 0 [] [] W0 (Nat.le_refl _) ((TrAt.low _ _ HT.out).keep HB0.out) (fun _ h => h) HZ.out (World.ownsRow_nil _ _ _ _) ⟨_, [], HL.out, World.ownsRow_nil _ _ _ _, fun i v p hv _ => by simp at hv⟩ HF.out HB0.out.size (by simpa using HS.out) (by simpa using HS.out)).mono ?_
  rintro e w2 ⟨rfl, hl2, hs2⟩
  rw [List.nil_append] at hl2
  obtain ⟨L, vs, h1, h2, h3⟩ := hl2
  have HP := Lib.hid (show PsAt w2 w.heap.size L (pathsT t []) from ⟨vs, h2, h3⟩)
  have HB2 := Lib.hid (HB0.out.trans (hs2.down (Nat.le_succ _) HB0.out.size))
  have l0 : w2.cell? ⟨w.heap.size + 1, 0, none⟩ = some L := cells_of h1 0 _ rfl
  have lbl := lt_of_heap h1
  obtain ⟨LA, LC, rfl⟩ := own_shape h2
  clear h1 h2 h3 hs2
  go_wp2
  go_ret
  exact ⟨_, rfl, HP.out, HB2.out⟩
end Go.Proofs.Ytojekhbebcdccaa
