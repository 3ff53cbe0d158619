/- Plain: ascending keys by their places; the keys of a new list ascend. No condition. -/
import Derived.Test.YtedlfjolmhkpdaaPosAwake
namespace Go.Proofs.Ytedlfjolmhkpdaa
open Go.RowKit
theorem asc_of : (l : List Key) → (last : Key) → (∀ x ∈ l, vldB x = true) → (∀ x, l[0]? = some x → bl last x = true) → (∀ j x y, l[j]? = some x → l[j + 1]? = some y → bl x y = true) → AscV last l
  | [], _, _, _, _ => trivial
  | a :: r, _, hv, h0, hs => ⟨hv a List.mem_cons_self, h0 a rfl, asc_of r a (fun x hx => hv x (List.mem_cons_of_mem _ hx)) (fun x hx => hs 0 a x rfl hx) (fun j x y hx hy => hs (j + 1) x y hx hy)⟩
theorem asc_at : (l : List Key) → (last : Key) → AscV last l → (j : Nat) → (x : Key) → l[j]? = some x → vldB x = true ∧ ∀ y, l[j + 1]? = some y → bl x y = true
  | [], _, _, _, _, h => by simp at h
  | a :: r, last, ha, 0, x, h => by
    injection h with h
    subst h
    refine ⟨ha.1, fun y hy => ?_⟩
    cases r with
    | nil => simp at hy
    | cons b r =>
      injection hy with hy
      subst hy
      exact ha.2.2.2.1
  | a :: r, _, ha, j + 1, x, h => asc_at r a ha.2.2 j x h
theorem spreadK_ok {d i : Nat} (h : i * d ≤ 649) : vldB (spreadK d i) = true := by
  have e1 := ofNat_small (e := 97 + i * d / 25) (by omega)
  have e2 := ofNat_small (e := 98 + i * d % 25) (by omega)
  refine (vld_iff _).2 ⟨by unfold spreadK; simp, by unfold spreadK; simp, fun c hc => ?_, ?_⟩
  · unfold spreadK at hc
    simp only [List.mem_cons, List.not_mem_nil, or_false] at hc
    rcases hc with rfl | rfl <;> omega
  · unfold spreadK
    intro hc
    have hc2 : UInt8.ofNat (98 + i * d % 25) = 97 := by simpa using hc
    rw [hc2] at e2
    have : (97 : UInt8).toNat = 97 := rfl
    omega
theorem spreadK_lt {d i j : Nat} (h : i * d < j * d) (hj : j * d ≤ 649) : bl (spreadK d i) (spreadK d j) = true := by
  have e1 := ofNat_small (e := 97 + i * d / 25) (by omega)
  have e2 := ofNat_small (e := 98 + i * d % 25) (by omega)
  have e3 := ofNat_small (e := 97 + j * d / 25) (by omega)
  have e4 := ofNat_small (e := 98 + j * d % 25) (by omega)
  unfold spreadK
  rw [bl_cons, bl_cons, e1, e3, e2, e4]
  by_cases hq : i * d / 25 = j * d / 25
  · refine .inr ⟨by rw [hq], .inl ?_⟩
    omega
  · exact .inl (by omega)
theorem spread_get {n j : Nat} {x : Key} (h : (spreadN n)[j]? = some x) : j < n ∧ x = spreadK (650 / (n + 1)) (j + 1) := by
  unfold spreadN at h
  rw [List.getElem?_map] at h
  rcases Nat.lt_or_ge j n with hj | hj
  · rw [List.getElem?_range hj] at h
    injection h with h
    exact ⟨hj, h.symm⟩
  · rw [List.getElem?_eq_none (by simpa using hj)] at h
    cases h
theorem spread_asc {n : Nat} (hn : n ≤ 400) : AscV [] (spreadN n) := by
  have hd : 1 ≤ 650 / (n + 1) := (Nat.le_div_iff_mul_le (by omega)).2 (by omega)
  refine asc_of _ _ (fun x hx => ?_) (fun x hx => ?_) (fun j x y hx hy => ?_)
  · obtain ⟨j, hj⟩ := List.getElem?_of_mem hx
    obtain ⟨h1, rfl⟩ := spread_get hj
    exact spreadK_ok (spread_low h1)
  · obtain ⟨h1, rfl⟩ := spread_get hx
    exact vld_ne (spreadK_ok (spread_low h1))
  · obtain ⟨h1, rfl⟩ := spread_get hx
    obtain ⟨h2, rfl⟩ := spread_get hy
    refine spreadK_lt ?_ (spread_low h2)
    rw [Nat.add_mul (j + 1) 1]
    omega
end Go.Proofs.Ytedlfjolmhkpdaa
