/- The numbers of the paths of a tree, in their order; and what the laws over paths share. No condition. -/
import Derived.Test.YtojekhbebcdccaaTrePaths
import Derived.Test.YtojekhbebcdccaaTreNumber
namespace Go.Proofs.Ytojekhbebcdccaa
open Go.RowKit Go.Shelf
mutual
/-- The paths of a tree in preorder. -/
def relT : Tr → List (List Int)
  | .mk _ _ _ ks => [] :: relL ks 0
def relL : List Tr → Nat → List (List Int)
  | [], _ => []
  | t :: r, i => (relT t).map ((i : Int) :: ·) ++ relL r (i + 1)
end
theorem relT_eq (t : Tr) : relT t = [] :: relL t.kids 0 := by cases t; rw [relT]; rfl
mutual
theorem paths_rel : (t : Tr) → (p : List Int) → pathsT t p = (relT t).map (p ++ ·)
  | .mk _ _ _ ks, p => by rw [pathsT, relT, List.map_cons, pathsL_rel ks 0 p, List.append_nil]
theorem pathsL_rel : (l : List Tr) → (i : Nat) → (p : List Int) → pathsL l i p = (relL l i).map (p ++ ·)
  | [], _, _ => by rw [pathsL, relL]; rfl
  | t :: r, i, p => by
    rw [pathsL, relL, List.map_append, pathsL_rel r, paths_rel t, List.map_map]
    congr 1
    apply List.map_congr_left
    intro q _
    simp
end
theorem paths_nil (t : Tr) : pathsT t [] = relT t := by
  rw [paths_rel]
  simp
theorem relT_len (t : Tr) : (relT t).length = sizeT t := by rw [← paths_nil, pathsT_len]
theorem relL_get : (l : List Tr) → (i x : Nat) → (q : List Int) → (relL l i)[x]? = some q →
    ∃ (j : Nat) (k : Tr) (r : List Int), l[j]? = some k ∧ q = ((i + j : Nat) : Int) :: r ∧ sizeL (l.take j) ≤ x ∧ (relT k)[x - sizeL (l.take j)]? = some r
  | [], i, x, q, h => by rw [relL] at h; simp at h
  | t :: l, i, x, q, h => by
    rw [relL] at h
    by_cases hx : x < sizeT t
    · rw [List.getElem?_append_left (by rw [List.length_map, relT_len]; exact hx), List.getElem?_map] at h
      cases hr : (relT t)[x]? with
      | none => rw [hr] at h; cases h
      | some r =>
        rw [hr] at h
        injection h with h
        exact ⟨0, t, r, rfl, h.symm, by rw [List.take_zero, sizeL]; omega, by rw [List.take_zero, sizeL, Nat.sub_zero]; exact hr⟩
    · rw [List.getElem?_append_right (by rw [List.length_map, relT_len]; omega), List.length_map, relT_len] at h
      obtain ⟨j, k, r, h1, h2, h3, h4⟩ := relL_get l (i + 1) (x - sizeT t) q h
      refine ⟨j + 1, k, r, by simpa using h1, by rw [h2, show i + 1 + j = i + (j + 1) from by omega], ?_, ?_⟩
      · rw [List.take_succ_cons, sizeL]
        omega
      · rw [List.take_succ_cons, sizeL, Nat.sub_add_eq]
        exact h4
theorem num_rel (N : Nat) : ∀ (t : Tr) (n x : Nat) (q : List Int), SizeOf.sizeOf t ≤ N → (relT t)[x]? = some q → numG n t q = ((n + x : Nat) : Int) := by
  induction N with
  | zero => intro t n x q h; have := tr_pos t; omega
  | succ N ih =>
    intro t n x q hN h
    rw [relT_eq] at h
    cases x with
    | zero =>
      simp at h
      subst h
      rw [numG]
      rfl
    | succ x =>
      rw [List.getElem?_cons_succ] at h
      obtain ⟨j, k, r, h1, h2, h3, h4⟩ := relL_get t.kids 0 x q h
      rw [Nat.zero_add] at h2
      subst h2
      have hj := (List.getElem?_eq_some_iff.1 h1).1
      have hkb : kidB t (j : Int) = true := by
        unfold kidB
        rw [decide_eq_true (by omega), decide_eq_true (by omega)]
        rfl
      have hka : kidAt t (j : Int) = k := by
        unfold kidAt
        rw [Int.toNat_natCast, h1]
        rfl
      rw [numG, hkb]
      simp only [if_true]
      rw [hka, Int.toNat_natCast, ih k _ (x - sizeL (t.kids.take j)) r (by have := kid_sizeOf h1; omega) h4]
      congr 1
      omega
theorem rel_short (N : Nat) : ∀ (t : Tr) (x : Nat) (q : List Int), SizeOf.sizeOf t ≤ N → (relT t)[x]? = some q → q.length + 1 ≤ sizeT t := by
  induction N with
  | zero => intro t x q h; have := tr_pos t; omega
  | succ N ih =>
    intro t x q hN h
    rw [relT_eq] at h
    cases x with
    | zero =>
      simp at h
      subst h
      rw [sizeT_eq]
      simp
    | succ x =>
      rw [List.getElem?_cons_succ] at h
      obtain ⟨j, k, r, h1, h2, h3, h4⟩ := relL_get t.kids 0 x q h
      have h5 := ih k _ r (by have := kid_sizeOf h1; omega) h4
      have h6 := size_kid1 h1
      rw [h2, List.length_cons]
      omega
theorem IntRow.ints {w : World} {B n c : Nat} {A : Option Addr} {p : List Int} (h : IntRow w B (.slice A n c) p) : IntsAt w A p := fun hne => by
  rcases h.2 with ⟨_, h0⟩ | ⟨g, cap, cur, hv, hb, hh, hnc, hm, hsz, htk⟩
  · exact absurd (List.eq_nil_of_length_eq_zero h0) hne
  · injection hv with e1 e2 e3
    refine ⟨g, 0, e1, lt_of_heap hh, fun i x hx => ?_⟩
    have hi := (List.getElem?_eq_some_iff.1 hx).1
    rw [Nat.zero_add, Lib.cell_of_heap hh]
    have h2 : (p.map (Value.int .i64))[i]? = some (.int .i64 x) := by rw [List.getElem?_map, hx]; rfl
    rw [← htk, List.getElem?_take_of_lt (by omega)] at h2
    rw [← Array.getElem?_toList]
    exact h2
theorem PsAt.at {w : World} {B n c j : Nat} {A : Option Addr} {ps : List (List Int)} {p : List Int} (h : PsAt w B (.slice A n c) ps) (hp : ps[j]? = some p) :
    ∃ g a c', A = some ⟨g, 0, none⟩ ∧ g < w.heap.size ∧ w.cell? ⟨g, j, none⟩ = some (.slice a p.length c') ∧ IntRow w B (.slice a p.length c') p := by
  obtain ⟨vs, h1, h2⟩ := h
  have hj := (List.getElem?_eq_some_iff.1 hp).1
  rcases h1.2 with ⟨_, h0⟩ | ⟨g, cap, cur, hv, hb, hh, hnc, hm, hsz, htk⟩
  · omega
  · injection hv with e1 e2 e3
    have hl := h1.1
    obtain ⟨v, hvj⟩ : ∃ v, vs[j]? = some v := ⟨_, List.getElem?_eq_getElem (by omega)⟩
    have hr := h2 j v p hvj hp
    obtain ⟨a, c', rfl⟩ := own_shape hr
    refine ⟨g, a, c', e1, lt_of_heap hh, ?_, hr⟩
    rw [Lib.cell_of_heap hh]
    rw [← htk, List.getElem?_take_of_lt (by omega)] at hvj
    rw [← Array.getElem?_toList]
    exact hvj
theorem PsAt.shape {w : World} {B : Nat} {L : Value} {ps : List (List Int)} (h : PsAt w B L ps) : ∃ A c, L = .slice A ps.length c := by
  obtain ⟨vs, h1, _⟩ := h
  exact own_shape h1
end Go.Proofs.Ytojekhbebcdccaa
