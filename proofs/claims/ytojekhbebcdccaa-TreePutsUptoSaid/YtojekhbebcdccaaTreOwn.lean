/- Trees whose memory is their own, and what a store into such a tree leaves; plain. No condition. -/
import Derived.Test.YtojekhbebcdccaaTreClone
namespace Go.Proofs.Ytojekhbebcdccaa
open Go.RowKit
mutual
/-- A tree that lies in the blocks from lo up to hi, and no two of its nodes share one. -/
def OwnT (w : World) : Tr → TV → Nat → Nat → Prop
  | .mk k x ls ks, v, lo, hi => v.kind = k ∧ v.text = x ∧ v.ll = ls.length ∧ v.kl = ks.length ∧ (v.ll ≤ v.lc ∧ v.kl ≤ v.kc) ∧ ∃ g, lo ≤ g ∧ g ≤ hi ∧ StrsAt (fun b => lo ≤ b ∧ b < g) w v.la ls ∧
    (ks ≠ [] → v.ka = some ⟨g, 0, none⟩ ∧ ∃ (cs : Array Value) (us : List TV), w.heap[g]? = some (.cells cs 25 (0, 0)) ∧ us.length = ks.length ∧ RowIs cs us ∧ OwnL w ks us (g + 1) hi)
def OwnL (w : World) : List Tr → List TV → Nat → Nat → Prop
  | [], _, lo, hi => lo ≤ hi
  | _ :: _, [], _, _ => False
  | t :: r, u :: us, lo, hi => ∃ m n, lo ≤ m ∧ m ≤ n ∧ OwnT w t u m n ∧ OwnL w r us n hi
end
theorem OwnT.le {w : World} {t : Tr} {v : TV} {lo hi : Nat} (h : OwnT w t v lo hi) : lo ≤ hi := by
  cases t
  unfold OwnT at h
  obtain ⟨_, _, _, _, _, g, h1, h2, _⟩ := h
  omega
theorem OwnL.le {w : World} : {l : List Tr} → {us : List TV} → {lo hi : Nat} → OwnL w l us lo hi → lo ≤ hi
  | [], _, _, _, h => by unfold OwnL at h; exact h
  | _ :: _, [], _, _, h => by unfold OwnL at h; exact h.elim
  | t :: r, u :: us, lo, hi, h => by
    unfold OwnL at h
    obtain ⟨m, n, h1, h2, _, h4⟩ := h
    have := OwnL.le h4
    omega
mutual
theorem OwnT.move {w w' : World} : (t : Tr) → (v : TV) → (lo hi : Nat) → (∀ b, lo ≤ b → b < hi → b < w.heap.size → w'.heap[b]? = w.heap[b]?) → OwnT w t v lo hi → OwnT w' t v lo hi
  | .mk k x ls ks, v, lo, hi, hw, h => by
    unfold OwnT at h ⊢
    obtain ⟨h1, h2, h3, h4, h5, g, hg1, hg2, hl, hk⟩ := h
    refine ⟨h1, h2, h3, h4, h5, g, hg1, hg2, hl.move (fun _ h => h) (fun b hb hlt => hw b hb.1 (by omega) hlt), fun hne => ?_⟩
    obtain ⟨ha, cs, us, hc, hu, hr, ho⟩ := hk hne
    have := ho.le
    exact ⟨ha, cs, us, (hw g hg1 (by omega) (lt_of_heap hc)).trans hc, hu, hr, OwnL.move ks us (g + 1) hi (fun b h1 h2 h3 => hw b (by omega) h2 h3) ho⟩
theorem OwnL.move {w w' : World} : (l : List Tr) → (us : List TV) → (lo hi : Nat) → (∀ b, lo ≤ b → b < hi → b < w.heap.size → w'.heap[b]? = w.heap[b]?) → OwnL w l us lo hi → OwnL w' l us lo hi
  | [], _, _, _, _, h => by unfold OwnL at h ⊢; exact h
  | _ :: _, [], _, _, _, h => by unfold OwnL at h; exact h.elim
  | t :: r, u :: us, lo, hi, hw, h => by
    unfold OwnL at h ⊢
    obtain ⟨m, n, h1, h2, h3, h4⟩ := h
    have := OwnL.le h4
    exact ⟨m, n, h1, h2, OwnT.move t u m n (fun b h1 h2 h3 => hw b (by omega) (by omega) h3) h3, OwnL.move r us n hi (fun b h1 h2 h3 => hw b (by omega) h2 h3) h4⟩
end
theorem OwnL.mono {w : World} : {l : List Tr} → {us : List TV} → {lo hi hi' : Nat} → OwnL w l us lo hi → hi ≤ hi' → OwnL w l us lo hi'
  | [], _, _, _, _, h, hh => by unfold OwnL at h ⊢; omega
  | _ :: _, [], _, _, _, h, _ => by unfold OwnL at h; exact h.elim
  | t :: r, u :: us, lo, hi, hi', h, hh => by
    unfold OwnL at h ⊢
    obtain ⟨m, n, h1, h2, h3, h4⟩ := h
    exact ⟨m, n, h1, h2, h3, OwnL.mono h4 hh⟩
theorem OwnL.snoc {w : World} {t : Tr} {u : TV} {m n : Nat} : {l : List Tr} → {us : List TV} → {lo hi : Nat} → OwnL w l us lo hi → us.length = l.length → hi ≤ m → OwnT w t u m n → OwnL w (l ++ [t]) (us ++ [u]) lo n
  | [], [], lo, hi, h, _, hm, ht => by
    unfold OwnL at h
    have := ht.le
    show OwnL w [t] [u] lo n
    unfold OwnL
    exact ⟨m, n, by omega, this, ht, by unfold OwnL; exact Nat.le_refl _⟩
  | [], _ :: _, _, _, _, hl, _, _ => by simp at hl
  | _ :: _, [], _, _, h, _, _, _ => by unfold OwnL at h; exact h.elim
  | a :: r, b :: us, lo, hi, h, hl, hm, ht => by
    unfold OwnL at h
    obtain ⟨m', n', h1, h2, h3, h4⟩ := h
    show OwnL w (a :: (r ++ [t])) (b :: (us ++ [u])) lo n
    unfold OwnL
    exact ⟨m', n', h1, h2, h3, OwnL.snoc h4 (by simpa using hl) hm ht⟩
/-- The i-th tree, and where the others lie. -/
theorem OwnL.get {w : World} : (l : List Tr) → (us : List TV) → (lo hi : Nat) → OwnL w l us lo hi → (i : Nat) → (k : Tr) → (u : TV) → l[i]? = some k → us[i]? = some u →
    ∃ m n, lo ≤ m ∧ m ≤ n ∧ n ≤ hi ∧ OwnT w k u m n ∧ ∀ (j : Nat) (k' : Tr) (u' : TV), j ≠ i → l[j]? = some k' → us[j]? = some u' → ∃ m' n', lo ≤ m' ∧ n' ≤ hi ∧ OwnT w k' u' m' n' ∧ (n' ≤ m ∨ n ≤ m')
  | [], _, _, _, _, i, k, u, hk, _ => by simp at hk
  | _ :: _, [], _, _, h, _, _, _, _, _ => by unfold OwnL at h; exact h.elim
  | t :: r, v :: us, lo, hi, h, i, k, u, hk, hu => by
    unfold OwnL at h
    obtain ⟨m, n, h1, h2, h3, h4⟩ := h
    have h5 := h4.le
    cases i with
    | zero =>
      simp at hk hu
      subst hk hu
      refine ⟨m, n, h1, h2, h5, h3, fun j k' u' hj hk' hu' => ?_⟩
      cases j with
      | zero => exact absurd rfl hj
      | succ j =>
        obtain ⟨m', n', q1, q2, q3, q4, _⟩ := OwnL.get r us n hi h4 j k' u' (by simpa using hk') (by simpa using hu')
        exact ⟨m', n', by omega, q3, q4, .inr q1⟩
    | succ i =>
      obtain ⟨m', n', q1, q2, q3, q4, q5⟩ := OwnL.get r us n hi h4 i k u (by simpa using hk) (by simpa using hu)
      refine ⟨m', n', by omega, q2, q3, q4, fun j k' u' hj hk' hu' => ?_⟩
      cases j with
      | zero =>
        simp at hk' hu'
        subst hk' hu'
        exact ⟨m, n, h1, h5, h3, .inl q1⟩
      | succ j =>
        obtain ⟨m2, n2, p1, p2, p3, p4⟩ := q5 j k' u' (fun e => hj (by omega)) (by simpa using hk') (by simpa using hu')
        exact ⟨m2, n2, by omega, p2, p3, p4⟩
theorem RowIs.at {w : World} {g : Nat} {cs : Array Value} {us : List TV} (hc : w.heap[g]? = some (.cells cs 25 (0, 0))) (h : RowIs cs us) {i : Nat} {u : TV} (hu : us[i]? = some u) : CellsAt w g (i * 4) u := by
  obtain ⟨q0, q1, q2, q3⟩ := h i u hu
  exact ⟨cells_of hc _ _ q0, cells_of hc _ _ q1, cells_of hc _ _ q2, cells_of hc _ _ q3⟩
theorem OwnT.tr {w : World} : (N : Nat) → (t : Tr) → (v : TV) → (lo hi : Nat) → SizeOf.sizeOf t ≤ N → OwnT w t v lo hi → TrAt (fun b => lo ≤ b ∧ b < hi) w t v
  | 0, t, _, _, _, hN, _ => by have := tr_pos t; omega
  | N + 1, .mk k x ls ks, v, lo, hi, hN, h => by
    unfold OwnT at h
    obtain ⟨h1, h2, h3, h4, h5, g, hg1, hg2, hl, hk⟩ := h
    unfold TrAt
    refine ⟨h1, h2, h3, h4, hl.move (fun b hb => ⟨hb.1, by omega⟩) (fun _ _ _ => rfl), fun hne => ?_, h5⟩
    obtain ⟨ha, cs, us, hc, hu, hr, ho⟩ := hk hne
    have hle := ho.le
    refine ⟨g, 0, ha, ⟨hg1, by omega⟩, TrsAt.of ks 0 fun i t ht => ?_⟩
    obtain ⟨u, hui⟩ : ∃ u, us[i]? = some u := ⟨_, List.getElem?_eq_getElem (by rw [hu]; exact (List.getElem?_eq_some_iff.1 ht).1)⟩
    obtain ⟨c0, c1, c2, c3⟩ := RowIs.at hc hr hui
    obtain ⟨m, n, q1, q2, q3, q4, _⟩ := ho.get ks us (g + 1) hi i t u ht hui
    rw [Nat.zero_add]
    exact ⟨u, c0, c1, c2, c3, TrAt.move (fun b hb => ⟨by omega, by omega⟩) (fun _ _ _ => rfl) t u (OwnT.tr N t u m n (by have := kid_sizeOf (t := .mk k x ls ks) ht; omega) q4)⟩
/-- A tree stored at a place. -/
def setA (w : World) (b o : Nat) (y : TV) : World := (((w.setCell ⟨b, o, none⟩ (.int .i64 y.kind)).setCell ⟨b, o + 1, none⟩ (.string y.text)).setCell ⟨b, o + 2, none⟩ (.slice y.la y.ll y.lc)).setCell ⟨b, o + 3, none⟩ (.slice y.ka y.kl y.kc)
def setO (cs : Array Value) (o : Nat) (y : TV) : Array Value := (((cs.setIfInBounds o (.int .i64 y.kind)).setIfInBounds (o + 1) (.string y.text)).setIfInBounds (o + 2) (.slice y.la y.ll y.lc)).setIfInBounds (o + 3) (.slice y.ka y.kl y.kc)
theorem setA_heap {w : World} {b : Nat} {cs : Array Value} {T : TypeId} (o : Nat) (y : TV) (h : w.heap[b]? = some (.cells cs T (0, 0))) : (setA w b o y).heap[b]? = some (.cells (setO cs o y) T (0, 0)) := heap_set (heap_set (heap_set (heap_set h rfl) rfl) rfl) rfl
theorem setA_other {w : World} {b k : Nat} (o : Nat) (y : TV) (h : k ≠ b) : (setA w b o y).heap[k]? = w.heap[k]? := (((set_other h).trans (set_other h)).trans (set_other h)).trans (set_other h)
theorem setA_size (w : World) (b o : Nat) (y : TV) : (setA w b o y).heap.size = w.heap.size := by simp [setA, World.setCell]
theorem setA_below (w : World) {B b : Nat} (o : Nat) (y : TV) (h : B ≤ b) : Below B w (setA w b o y) := ((((Below.refl B w).setCell (p := ⟨b, o, none⟩) h _).setCell (p := ⟨b, o + 1, none⟩) h _).setCell (p := ⟨b, o + 2, none⟩) h _).setCell (p := ⟨b, o + 3, none⟩) h _
theorem setO_size (cs : Array Value) (o : Nat) (y : TV) : (setO cs o y).size = cs.size := by simp [setO]
theorem setO_other (cs : Array Value) (o : Nat) (y : TV) (q : Nat) (h : q < o ∨ o + 4 ≤ q) : (setO cs o y)[q]? = cs[q]? := by
  unfold setO
  rw [Array.getElem?_setIfInBounds_ne (by omega), Array.getElem?_setIfInBounds_ne (by omega), Array.getElem?_setIfInBounds_ne (by omega), Array.getElem?_setIfInBounds_ne (by omega)]
theorem setA_cells {w : World} {b : Nat} {cs : Array Value} {T : TypeId} (o : Nat) (y : TV) (h : w.heap[b]? = some (.cells cs T (0, 0))) (ho : o + 4 ≤ cs.size) : CellsAt (setA w b o y) b o y := by
  have hh := setA_heap o y h
  refine ⟨cells_of hh _ _ ?_, cells_of hh _ _ ?_, cells_of hh _ _ ?_, cells_of hh _ _ ?_⟩ <;> unfold setO
  · rw [Array.getElem?_setIfInBounds_ne (by omega), Array.getElem?_setIfInBounds_ne (by omega), Array.getElem?_setIfInBounds_ne (by omega), Array.getElem?_setIfInBounds_self_of_lt (by omega)]
  · rw [Array.getElem?_setIfInBounds_ne (by omega), Array.getElem?_setIfInBounds_ne (by omega), Array.getElem?_setIfInBounds_self_of_lt (by simp; omega)]
  · rw [Array.getElem?_setIfInBounds_ne (by omega), Array.getElem?_setIfInBounds_self_of_lt (by simp; omega)]
  · rw [Array.getElem?_setIfInBounds_self_of_lt (by simp; omega)]
theorem setA_cell {w : World} {b : Nat} {cs : Array Value} {T : TypeId} (o : Nat) (y : TV) (h : w.heap[b]? = some (.cells cs T (0, 0))) (q : Nat) (hq : q < o ∨ o + 4 ≤ q) : (setA w b o y).cell? ⟨b, q, none⟩ = w.cell? ⟨b, q, none⟩ := by
  rw [Lib.cell_of_heap (setA_heap o y h), Lib.cell_of_heap h]
  exact setO_other cs o y q hq
theorem CellsAt.inj {w : World} {b o : Nat} {y z : TV} (h : CellsAt w b o y) (k : CellsAt w b o z) : y = z := by
  obtain ⟨a0, a1, a2, a3⟩ := h
  obtain ⟨b0, b1, b2, b3⟩ := k
  have e0 := Option.some.inj (a0.symm.trans b0)
  have e1 := Option.some.inj (a1.symm.trans b1)
  have e2 := Option.some.inj (a2.symm.trans b2)
  have e3 := Option.some.inj (a3.symm.trans b3)
  cases y
  cases z
  simp only [Value.int.injEq, Value.string.injEq, Value.slice.injEq, true_and] at e0 e1 e2 e3
  obtain ⟨e20, e21, e22⟩ := e2
  obtain ⟨e30, e31, e32⟩ := e3
  subst e0 e1 e20 e21 e22 e30 e31 e32
  rfl
/-- The way of a path through memory. -/
inductive Walks (w : World) : Nat → Nat → TV → List Int → Nat → Nat → Prop
  | here (pb po : Nat) (v : TV) : Walks w pb po v [] pb po
  | kid {pb po : Nat} {v : TV} {g ko : Nat} {z : Int} {u : TV} {r : List Int} {b o : Nat} (ha : v.ka = some ⟨g, ko, none⟩) (hc : CellsAt w g (ko + z.toNat * 4) u) (hr : Walks w g (ko + z.toNat * 4) u r b o) : Walks w pb po v (z :: r) b o
/-- A tree with another one in the place of a node. -/
def putT : List Int → Tr → Tr → Option Tr
  | [], _, u => some u
  | z :: r, t, u => if kidB t z then (putT r (kidAt t z) u).map fun k => .mk t.kind t.text t.leads (t.kids.set z.toNat k) else none
theorem put_some (u : Tr) : ∀ (zs : List Int) (t : Tr), (putT zs t u).isSome = (findT t zs).isSome
  | [], t => by unfold putT findT; rfl
  | z :: r, t => by
    unfold putT findT
    cases kidB t z
    · rfl
    · simp only [if_true, Option.isSome_map]
      exact put_some u r (kidAt t z)
theorem put_own (u : Tr) (y : TV) (S : Nat → Prop) : ∀ (zs : List Int) (t t' : Tr) (v : TV) (lo hi pb po b o : Nat) (w : World) (cs : Array Value) (T : TypeId), putT zs t u = some t' → OwnT w t v lo hi → CellsAt w pb po v → Walks w pb po v zs b o →
    w.heap[pb]? = some (.cells cs T (0, 0)) → po + 4 ≤ cs.size → ¬ (lo ≤ pb ∧ pb < hi) → TrAt S w u y → (∀ k, S k → ¬ (lo ≤ k ∧ k < hi) ∧ k ≠ pb) →
    (b = pb ∧ o = po ∨ lo ≤ b ∧ b < hi) ∧ ∃ v', CellsAt (setA w b o y) pb po v' ∧ TrAt (fun k => lo ≤ k ∧ k < hi ∨ S k) (setA w b o y) t' v'
  | [], t, t', v, lo, hi, pb, po, b, o, w, cs, T, hp, hO, hC, hW, hb, hs, hn, hT, hS => by
    cases hW
    unfold putT at hp
    injection hp with hp
    subst hp
    exact ⟨.inl ⟨rfl, rfl⟩, y, setA_cells po y hb hs, TrAt.move (fun _ h => .inr h) (fun k hk _ => setA_other po y (hS k hk).2) _ _ hT⟩
  | z :: r, .mk k x ls ks, t', v, lo, hi, pb, po, b, o, w, cs, T, hp, hO, hC, hW, hb, hs, hn, hT, hS => by
    unfold putT at hp
    cases hkb : kidB (.mk k x ls ks) z
    · rw [hkb] at hp; cases hp
    rw [hkb] at hp
    simp only [if_true] at hp
    obtain ⟨z0, z1, z2⟩ := kidB_get hkb
    change ks[z.toNat]? = some _ at z2
    obtain ⟨k', hk', rfl⟩ := Option.map_eq_some_iff.1 hp
    have hne : ks ≠ [] := fun e => by rw [e] at z2; simp at z2
    unfold OwnT at hO
    obtain ⟨h1, h2, h3, h4, h5, g, hg1, hg2, hl, hk⟩ := hO
    obtain ⟨ha, cs', us, hc, hu, hrow, ho⟩ := hk hne
    have hle := ho.le
    obtain ⟨u0, hu0⟩ : ∃ u, us[z.toNat]? = some u := ⟨_, List.getElem?_eq_getElem (by rw [hu]; exact (List.getElem?_eq_some_iff.1 z2).1)⟩
    obtain ⟨m, n, q1, q2, q3, q4, q5⟩ := ho.get ks us (g + 1) hi z.toNat _ u0 z2 hu0
    have hcu := RowIs.at hc hrow hu0
    cases hW with
    | kid ha' hc' hr' =>
      rename_i g' ko' u'
      rw [ha] at ha'
      injection ha' with e
      injection e with e1 e2 _
      subst e1 e2
      rw [Nat.zero_add] at hc' hr'
      obtain rfl := hcu.inj hc'
      have hsz : z.toNat * 4 + 4 ≤ cs'.size := by
        obtain ⟨_, _, _, r3⟩ := hrow z.toNat _ hu0
        have := (Array.getElem?_eq_some_iff.1 r3).1
        omega
      obtain ⟨hbo, v', hcv, htv⟩ := put_own u y S r (kidAt (.mk k x ls ks) z) k' u0 m n g (z.toNat * 4) b o w cs' _ hk' q4 hcu hr' hc hsz (by omega) hT (fun j hj => ⟨fun h => (hS j hj).1 ⟨by omega, by omega⟩, fun e => (hS j hj).1 ⟨by omega, by omega⟩⟩)
      have hbr : g ≤ b ∧ b < hi := by rcases hbo with ⟨rfl, _⟩ | ⟨h1, h2⟩ <;> omega
      refine ⟨.inr ⟨by omega, hbr.2⟩, v, ?_, ?_⟩
      · have hpb : pb ≠ b := fun e => hn ⟨by omega, by omega⟩
        have hk : ∀ i, (setA w b o y).cell? ⟨pb, i, none⟩ = w.cell? ⟨pb, i, none⟩ := fun i => World.cell?_of_block (w := w) (a := ⟨pb, i, none⟩) (setA_other o y hpb)
        exact ⟨(hk _).trans hC.1, (hk _).trans hC.2.1, (hk _).trans hC.2.2.1, (hk _).trans hC.2.2.2⟩
      · show TrAt _ _ (.mk k x ls (ks.set z.toNat k')) v
        unfold TrAt
        refine ⟨h1, h2, h3, by rw [List.length_set]; exact h4, hl.move (fun j hj => .inl ⟨hj.1, by omega⟩) (fun j hj _ => setA_other o y (by omega)), fun _ => ⟨g, 0, ha, .inl ⟨hg1, by omega⟩, TrsAt.of _ 0 fun i t ht => ?_⟩, h5⟩
        rw [Nat.zero_add]
        by_cases hi' : i = z.toNat
        · subst hi'
          rw [List.getElem?_set_self (List.getElem?_eq_some_iff.1 z2).1] at ht
          injection ht with ht
          subst ht
          exact ⟨v', hcv.1, hcv.2.1, hcv.2.2.1, hcv.2.2.2, TrAt.move (fun j hj => hj.imp (fun h => ⟨by omega, by omega⟩) id) (fun _ _ _ => rfl) _ _ htv⟩
        · rw [List.getElem?_set_ne (fun e => hi' e.symm)] at ht
          obtain ⟨ui, hui⟩ : ∃ u, us[i]? = some u := ⟨_, List.getElem?_eq_getElem (by rw [hu]; exact (List.getElem?_eq_some_iff.1 ht).1)⟩
          obtain ⟨m', n', p1, p2, p3, p4⟩ := q5 i t ui hi' ht hui
          have hci := RowIs.at hc hrow hui
          have hcell : ∀ c, c < 4 → (setA w b o y).cell? ⟨g, i * 4 + c, none⟩ = w.cell? ⟨g, i * 4 + c, none⟩ := fun c hc4 => by
            rcases hbo with ⟨rfl, rfl⟩ | ⟨hb1, hb2⟩
            · exact setA_cell (z.toNat * 4) y hc (i * 4 + c) (by rcases Nat.lt_or_gt_of_ne hi' with h | h <;> omega)
            · exact World.cell?_of_block (w := w) (a := ⟨g, i * 4 + c, none⟩) (setA_other (k := g) o y (by omega))
          refine ⟨ui, (hcell 0 (by omega)).trans hci.1, (hcell 1 (by omega)).trans hci.2.1, (hcell 2 (by omega)).trans hci.2.2.1, (hcell 3 (by omega)).trans hci.2.2.2, ?_⟩
          have := p3.le
          exact TrAt.move (fun j hj => .inl ⟨by omega, by omega⟩) (fun j hj _ => setA_other o y (by rcases hbo with ⟨rfl, _⟩ | _ <;> omega)) _ _ (OwnT.tr _ t ui m' n' (Nat.le_refl _) p3)
end Go.Proofs.Ytojekhbebcdccaa
