/- What a replacement leaves as it was, on plain trees; and the contract of begins. Condition: paths that a machine can hold. -/
import Derived.Test.YtojekhbebcdccaaTreRReplace
import Derived.Test.YtojekhbebcdccaaTreSPath
namespace Go.Proofs.Ytojekhbebcdccaa
open Go.RowKit Go.Shelf
def begB (a b : List Int) : Bool := decide (b.length ≤ a.length) && intsEq (a.take b.length) b
theorem begB_nil (a : List Int) : begB a [] = true := by
  unfold begB
  simp [intsEq]
theorem begB_cons (x : Int) (a b : List Int) : begB (x :: a) (x :: b) = begB a b := by
  unfold begB
  rw [List.length_cons, List.length_cons, List.take_succ_cons, intsEq]
  simp
theorem sizeL_set : (l : List Tr) → (i : Nat) → (k k' : Tr) → l[i]? = some k → sizeL (l.set i k') + sizeT k = sizeL l + sizeT k'
  | [], _, _, _, h => by simp at h
  | a :: r, 0, k, k', h => by
    simp at h
    subst h
    rw [List.set_cons_zero, sizeL, sizeL]
    omega
  | a :: r, i + 1, k, k', h => by
    have := sizeL_set r i k k' (by simpa using h)
    rw [List.set_cons_succ, sizeL, sizeL]
    omega
/-- One step of a replacement. -/
theorem put_cons {z : Int} {r : List Int} {t u t' : Tr} (h : putT (z :: r) t u = some t') : kidB t z = true ∧ ∃ k', putT r (kidAt t z) u = some k' ∧ t' = .mk t.kind t.text t.leads (t.kids.set z.toNat k') := by
  unfold putT at h
  cases hkb : kidB t z
  · rw [hkb] at h; cases h
  rw [hkb] at h
  simp only [if_true] at h
  obtain ⟨k', hk', he⟩ := Option.map_eq_some_iff.1 h
  exact ⟨rfl, k', hk', he.symm⟩
theorem kid_set {t : Tr} {z : Int} {k' : Tr} (h : kidB t z = true) : kidB (.mk t.kind t.text t.leads (t.kids.set z.toNat k')) z = true ∧ kidAt (.mk t.kind t.text t.leads (t.kids.set z.toNat k')) z = k' := by
  obtain ⟨h0, h1, h2⟩ := kidB_get h
  have hl : z.toNat < t.kids.length := by omega
  constructor
  · unfold kidB at h ⊢
    show (decide (0 ≤ z) && decide (z < ((t.kids.set z.toNat k').length : Int))) = true
    rw [List.length_set]
    exact h
  · unfold kidAt
    show ((t.kids.set z.toNat k')[z.toNat]?).getD noTr = k'
    rw [List.getElem?_set_self hl]
    rfl
theorem kid_other {t : Tr} {z y : Int} {k' : Tr} (hz : kidB t z = true) (hne : z ≠ y) : kidB (.mk t.kind t.text t.leads (t.kids.set z.toNat k')) y = kidB t y ∧ (kidB t y = true → kidAt (.mk t.kind t.text t.leads (t.kids.set z.toNat k')) y = kidAt t y) := by
  obtain ⟨h0, _, _⟩ := kidB_get hz
  constructor
  · unfold kidB
    show (decide (0 ≤ y) && decide (y < ((t.kids.set z.toNat k').length : Int))) = _
    rw [List.length_set]
  · intro hy
    obtain ⟨y0, _, _⟩ := kidB_get hy
    unfold kidAt
    show ((t.kids.set z.toNat k')[y.toNat]?).getD noTr = _
    rw [List.getElem?_set_ne (by omega)]
theorem find_put : ∀ (q : List Int) (t u t' : Tr), putT q t u = some t' → findT t' q = some u
  | [], t, u, t', h => by
    unfold putT at h
    unfold findT
    exact h.symm ▸ rfl
  | z :: r, t, u, t', h => by
    obtain ⟨hkb, k', hk', rfl⟩ := put_cons h
    obtain ⟨h1, h2⟩ := kid_set (k' := k') hkb
    rw [findT, h1, h2]
    exact find_put r _ u k' hk'
theorem size_put : ∀ (q : List Int) (t u t' o : Tr), putT q t u = some t' → findT t q = some o → sizeT t' + sizeT o = sizeT t + sizeT u
  | [], t, u, t', o, h, ho => by
    unfold putT at h
    unfold findT at ho
    injection h with h
    injection ho with ho
    subst h ho
    omega
  | z :: r, t, u, t', o, h, ho => by
    obtain ⟨hkb, k', hk', rfl⟩ := put_cons h
    obtain ⟨_, _, h2⟩ := kidB_get hkb
    rw [findT, hkb] at ho
    have h3 := size_put r _ u k' o hk' ho
    have h4 := sizeL_set t.kids z.toNat _ k' h2
    rw [sizeT_eq t, sizeT_eq]
    show 1 + sizeL (t.kids.set z.toNat k') + _ = _
    omega
theorem find_other : ∀ (q r : List Int) (t u t' : Tr), putT q t u = some t' → begB r q = false → begB q r = false → findT t' r = findT t r
  | [], r, t, u, t', _, h, _ => by rw [begB_nil] at h; cases h
  | z :: q, [], t, u, t', _, _, h => by rw [begB_nil] at h; cases h
  | z :: q, y :: r, t, u, t', h, h1, h2 => by
    obtain ⟨hkb, k', hk', rfl⟩ := put_cons h
    by_cases hzy : z = y
    · subst hzy
      rw [begB_cons] at h1 h2
      obtain ⟨h3, h4⟩ := kid_set (k' := k') hkb
      rw [findT, h3, h4, findT, hkb]
      exact find_other q r _ u k' hk' h1 h2
    · obtain ⟨h3, h4⟩ := kid_other (k' := k') hkb hzy
      rw [findT, h3, findT]
      cases hy : kidB t y
      · rfl
      · rw [h4 hy]
theorem find_rel (N : Nat) : ∀ (t : Tr) (x : Nat) (q : List Int), SizeOf.sizeOf t ≤ N → (relT t)[x]? = some q → ∃ o, findT t q = some o := by
  induction N with
  | zero => intro t x q h; have := tr_pos t; omega
  | succ N ih =>
    intro t x q hN h
    rw [relT_eq] at h
    cases x with
    | zero =>
      simp at h
      subst h
      exact ⟨t, rfl⟩
    | succ x =>
      rw [List.getElem?_cons_succ] at h
      obtain ⟨j, k, r, h1, h2, _, h4⟩ := relL_get t.kids 0 x q h
      rw [Nat.zero_add] at h2
      subst h2
      have hj := (List.getElem?_eq_some_iff.1 h1).1
      have hkb : kidB t (j : Int) = true := by
        unfold kidB
        rw [decide_eq_true (by omega), decide_eq_true (by omega)]
        rfl
      have hka : kidAt t (j : Int) = k := by
        unfold kidAt
        rw [Int.toNat_natCast, h1]
        rfl
      rw [findT, hkb, hka]
      exact ih k _ r (by have := kid_sizeOf h1; omega) h4
set_option maxRecDepth 100000 in
set_option maxHeartbeats 1000000 in
theorem begins_q (A C : Option Addr) (a c : Nat) (p q : List Int) (w : World) (hA : IntsAt w A p) (hC : IntsAt w C q) (hq : q.length ≤ 1000000) (ha : p.length ≤ a) :
    Calls Try.prog 28 #[.slice A p.length a, .slice C q.length c] w fun e w' => e = .returned (.bool (begB p q)) ∧ ∃ n : Nat, w' = w.drewN n := by
  have HA := Lib.hid hA
  have HC := Lib.hid hC
  clear hA hC
  by_cases hl : q.length ≤ p.length
  · have d0 : decide (q.length ≤ p.length) = true := decide_eq_true hl
    have HR := Lib.hid (show begB p q = intsEq (p.take q.length) q from by unfold begB; rw [d0]; rfl)
    have HTL := Lib.hid (show (p.take q.length).length = q.length from by rw [List.length_take]; omega)
    have HAT := Lib.hid (show IntsAt w A (p.take q.length) from fun hne => by
      obtain ⟨b, off, h1, h2, h3⟩ := HA.out (fun e => hne (by rw [e]; simp))
      refine ⟨b, off, h1, h2, fun i x hx => h3 i x ?_⟩
      rw [List.getElem?_take] at hx
      split at hx
      · exact hx
      · cases hx)
    have hc1 := samepath_q A C a c (p.take q.length) q w HAT.out HC.out (by rw [HTL.out]; unfold maxLen; omega) (by unfold maxLen; omega)
    rw [HTL.out] at hc1
    have HC1 := Lib.hid hc1
    have hqa : q.length ≤ a := by omega
    clear hc1
    go_enter Try.func28, Try.ntmps28
    go_wp2_with fail
    go_at_call 30
    refine HC1.out.mono ?_
    rw [← HR.out]
    rintro e w2 ⟨rfl, n, rfl⟩
    go_wp2_with fail
    go_ret
    exact ⟨ret_bool (by first | rfl | simp), n, rfl⟩
  · have d0 : decide (q.length ≤ p.length) = false := decide_eq_false hl
    have HR := Lib.hid (show begB p q = false from by unfold begB; rw [d0]; rfl)
    go_enter Try.func28, Try.ntmps28
    go_wp2
    go_ret
    exact ⟨ret_bool HR.out.symm, 0, rfl⟩
/-- What At answers: a tree of new memory, and whether it is there. -/
def AtOwn (t : Tr) (zs : List Int) (w : World) (e : Ending) (w' : World) : Prop :=
  Below w.heap.size w w' ∧ ∃ u : TV, e = .returned (.tuple #[.agg #[.int .i64 u.kind, .string u.text, .slice u.la u.ll u.lc, .slice u.ka u.kl u.kc], .bool (findT t zs).isSome]) ∧ ∃ S : Nat → Prop, (∀ k, S k → k < w'.heap.size ∧ w.heap.size ≤ k) ∧ TrAt S w' ((findT t zs).getD noTr) u
set_option maxRecDepth 100000 in
set_option maxHeartbeats 1000000 in
theorem at_own (S : Nat → Prop) (t : Tr) (v : TV) (A : Option Addr) (c : Nat) (zs : List Int) (w : World) (h : TrAt S w t v) (hA : IntsAt w A zs) (hz : zs.length ≤ maxLen) (hf : fitT t = true) :
    Calls Try.prog 18 #[.agg #[.int .i64 v.kind, .string v.text, .slice v.la v.ll v.lc, .slice v.ka v.kl v.kc], .slice A zs.length c] w (AtOwn t zs w) := by
  have hb0 := ((Below.refl w.heap.size w).alloc (Nat.le_refl _) (trO v)).alloc (by rw [World.size_alloc]; omega) (.cells #[.int .i64 0, .string ⟨#[]⟩, .slice none 0 0, .slice none 0 0] 25)
  have HB0 := Lib.hid hb0
  have HT := Lib.hid (h.keep hb0)
  have HA := Lib.hid (hA.keep hb0)
  have hx : ((w.alloc (trO v)).alloc (.cells #[.int .i64 0, .string ⟨#[]⟩, .slice none 0 0, .slice none 0 0] 25)).heap[w.heap.size]? = some (trO v) := (((Below.refl (w.alloc (trO v)).heap.size _).alloc (Nat.le_refl _) _).block w.heap.size (by simp)).trans (heap_alloc_new w _)
  have HC := Lib.hid (show CellsAt ((w.alloc (trO v)).alloc (.cells #[.int .i64 0, .string ⟨#[]⟩, .slice none 0 0, .slice none 0 0] 25)) w.heap.size 0 v from ⟨cells_of hx 0 _ rfl, cells_of hx 1 _ rfl, cells_of hx 2 _ rfl, cells_of hx 3 _ rfl⟩)
  have HR := Lib.hid (show ((w.alloc (trO v)).alloc (.cells #[.int .i64 0, .string ⟨#[]⟩, .slice none 0 0, .slice none 0 0] 25)).heap[w.heap.size + 1]? = some (trO ⟨0, ⟨#[]⟩, none, 0, 0, none, 0, 0⟩) from by rw [← World.size_alloc w (trO v)]; exact heap_alloc_new _ _)
  have HZ := Lib.hid hz
  have HF := Lib.hid hf
  clear h hA hz hf hx hb0
  cases hfd : findT t zs with
  | none =>
    have HFD := Lib.hid hfd
    go_enter Try.func18, Try.ntmps18
    go_wp2_with fail
    go_at_call 34
    refine (find_any S t v w.heap.size 0 A c zs _ HC.out HT.out HA.out HZ.out).mono ?_
    rintro e w2 ⟨hb2, he⟩
    rw [hfd] at he
    subst he
    have HB2 := Lib.hid (HB0.out.trans (hb2.mono HB0.out.size))
    have hr2 := (hb2.block (w.heap.size + 1) (lt_of_heap HR.out)).trans HR.out
    have r0 := cells_of hr2 0 _ rfl
    have r1 := cells_of hr2 1 _ rfl
    have r2 := cells_of hr2 2 _ rfl
    have r3 := cells_of hr2 3 _ rfl
    have rbl := lt_of_heap hr2
    have rrf := Lib.frozen_of_heap hr2
    clear hb2 hr2 hfd
    go_wp2
    refine bodyPost_ret (v := .tuple #[.agg #[.int .i64 0, .string ⟨#[]⟩, .slice none 0 0, .slice none 0 0], .bool false]) (by simp [results, Try.results18, go_sem, *]) rfl ?_
    refine ⟨HB2.out.trans ((setT_below w2 (w.heap.size + 1) ⟨0, ⟨#[]⟩, none, 0, 0, none, 0, 0⟩).mono (Nat.le_succ _)), ⟨0, ⟨#[]⟩, none, 0, 0, none, 0, 0⟩, by rw [HFD.out]; rfl, fun _ => False, fun _ h => h.elim, ?_⟩
    rw [HFD.out]
    exact noTr_at _ _
  | some u =>
    have HFD := Lib.hid hfd
    have HFU := Lib.hid (fit_find zs t u HF.out hfd).1
    go_enter Try.func18, Try.ntmps18
    go_wp2_with fail
    go_at_call 34
    refine (find_any S t v w.heap.size 0 A c zs _ HC.out HT.out HA.out HZ.out).mono ?_
    rintro e w2 ⟨hb2, he⟩
    rw [hfd] at he
    obtain ⟨b, o, y, rfl, ⟨c0, c1, c2, c3⟩, hty, _⟩ := he
    have HB2 := Lib.hid (HB0.out.trans (hb2.mono HB0.out.size))
    have HR2 := Lib.hid ((hb2.block (w.heap.size + 1) (lt_of_heap HR.out)).trans HR.out)
    have HTY := Lib.hid hty
    have bbl : b < w2.heap.size := World.block_lt_of_cell? w2 _ c0
    clear hb2 hfd hty
    go_wp2_with fail
    go_at_call 35
    refine (clone_any (SizeOf.sizeOf u) S u y _ (Nat.le_refl _) HTY.out HFU.out).mono ?_
    rintro e w3 ⟨y', rfl, hty', hb3⟩
    have HB3 := Lib.hid (HB2.out.trans (hb3.mono HB2.out.size))
    have HR3 := Lib.hid ((hb3.block (w.heap.size + 1) (lt_of_heap HR2.out)).trans HR2.out)
    have HTY' := Lib.hid hty'
    have r0 := cells_of HR3.out 0 _ rfl
    have r1 := cells_of HR3.out 1 _ rfl
    have r2 := cells_of HR3.out 2 _ rfl
    have r3 := cells_of HR3.out 3 _ rfl
    have rbl := lt_of_heap HR3.out
    have rrf := Lib.frozen_of_heap HR3.out
    clear hb3 hty' c0 c1 c2 c3 bbl
    go_wp2
    refine bodyPost_ret (v := .tuple #[.agg #[.int .i64 y'.kind, .string y'.text, .slice y'.la y'.ll y'.lc, .slice y'.ka y'.kl y'.kc], .bool true]) (by simp [results, Try.results18, go_sem, *]) rfl ?_
    refine ⟨HB3.out.trans ((setT_below w3 (w.heap.size + 1) y').mono (Nat.le_succ _)), y', by rw [HFD.out]; rfl, fun k => w2.heap.size ≤ k ∧ k < w3.heap.size, fun k hk => ⟨Nat.lt_of_lt_of_le hk.2 (setT_below w3 (w.heap.size + 1) y').size, Nat.le_trans HB2.out.size hk.1⟩, ?_⟩
    rw [HFD.out]
    exact TrAt.move (w' := setT w3 (w.heap.size + 1) y') (fun _ h => h) (fun k hk _ => setT_other y' (by have := lt_of_heap HR2.out; have := hk.1; omega)) _ _ HTY'.out
theorem dr_cell {w : World} {p : Addr} {v : Value} (h : w.cell? p = some v) : w.drew.cell? p = some v := h
/-- A box that holds a tree. -/
def BoxAt (w : World) (b : Nat) (t : Tr) : Prop := ∃ (y : TV) (S : Nat → Prop), w.heap[b]? = some (trO y) ∧ TrAt S w t y
theorem BoxAt.keep {w w' : World} {b : Nat} {t : Tr} (h : BoxAt w b t) (hb : Below w.heap.size w w') : BoxAt w' b t := by
  obtain ⟨y, S, h1, h2⟩ := h
  exact ⟨y, S, (hb.block b (lt_of_heap h1)).trans h1, h2.keep hb⟩
/-- What 'x, ok := f(..)' leaves: a box with a tree, and a bool. -/
def CutT (W : World) (t : Tr) (ok : Bool) (x b : Value) (wx : World) : Prop := ∃ g : Nat, x = .pointer (some ⟨g, 0, none⟩) ∧ b = .bool ok ∧ BoxAt wx g t ∧ Below W.heap.size W wx
end Go.Proofs.Ytojekhbebcdccaa
