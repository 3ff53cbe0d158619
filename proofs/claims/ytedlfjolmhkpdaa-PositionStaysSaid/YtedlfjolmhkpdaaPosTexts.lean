/- Strings anywhere; the contract of SameTexts. Condition: lists that a machine can hold. -/
import Derived.Test.YtedlfjolmhkpdaaPosSpread
namespace Go.Proofs.Ytedlfjolmhkpdaa
open Go.RowKit
/-- The strings of a slice, wherever it lies. -/
def TAt (w : World) (A : Option Addr) (l : List (List UInt8)) : Prop := l ≠ [] → ∃ b off, A = some ⟨b, off, none⟩ ∧ b < w.heap.size ∧ ∀ (j : Nat) (x : List UInt8), l[j]? = some x → w.cell? ⟨b, off + j, none⟩ = some (.string (strL x))
theorem TAt.keep {w w' : World} {A : Option Addr} {l : List (List UInt8)} (h : TAt w A l) (hb : Below w.heap.size w w') : TAt w' A l := fun hne => by
  obtain ⟨b, off, hA, hlt, hc⟩ := h hne
  exact ⟨b, off, hA, Nat.lt_of_lt_of_le hlt hb.size, fun j x hx => (hb.cell (p := ⟨b, off + j, none⟩) hlt).trans (hc j x hx)⟩
theorem SRow.texts {w : World} {B n c : Nat} {A : Option Addr} {l : List (List UInt8)} (h : SRow w B (.slice A n c) l) : n = l.length ∧ TAt w A l := by
  obtain ⟨A', c', hv⟩ := h.form
  injection hv with hA hn hc
  refine ⟨hn, fun hne => ?_⟩
  obtain ⟨g, c2, hv2, _, hg, hat⟩ := h.at (List.length_pos_iff.2 hne)
  injection hv2 with hA2 _ _
  exact ⟨g, 0, hA2, hg, fun j x hx => by rw [Nat.zero_add]; exact hat j x hx⟩
theorem ne_bool (a b : List UInt8) : (!((strL a).toList == (strL b).toList)) = !decide (a = b) := by
  rw [strL_toList, strL_toList]
  by_cases h : a = b
  · subst h; simp
  · simp [h]
theorem eq_at {la lb : List (List UInt8)} (h : ∀ j, j < la.length → la[j]? = lb[j]?) (hl : la.length = lb.length) : la = lb := by
  apply List.ext_getElem?
  intro j
  rcases Nat.lt_or_ge j la.length with hj | hj
  · exact h j hj
  · rw [List.getElem?_eq_none hj, List.getElem?_eq_none (by omega)]
def SameRel (la lb : List (List UInt8)) (w : World) (i : Value) (wr : World) : Prop := ∃ (k q : Nat), k ≤ la.length ∧ i = .int .i64 (k : Int) ∧ wr = w.drewN q ∧ ∀ j, j < k → la[j]? = lb[j]?
def BoolQ (b : Bool) (w : World) (e : Ending) (w' : World) : Prop := e = .returned (.bool b) ∧ ∃ q, w' = w.drewN q
set_option maxHeartbeats 1000000 in
theorem texts_any (A B : Option Addr) (ca cb : Nat) (la lb : List (List UInt8)) (w : World) (hA : TAt w A la) (hB : TAt w B lb) (ha : la.length ≤ maxLen) :
    Calls Try.prog 17 #[.slice A la.length ca, .slice B lb.length cb] w (BoolQ (decide (la = lb)) w) := by
  unfold maxLen at ha
  by_cases hl : la.length = lb.length
  · have HL := Lib.hid hl
    have HTA := Lib.hid hA
    have HTB := Lib.hid hB
    obtain ⟨n, hn⟩ : ∃ n, n = la.length := ⟨_, rfl⟩
    have HN := Lib.hid hn
    rw [← hl, ← hn]
    rw [← hn] at ha
    clear hA hB hl hn
    go_enter Try.func17, Try.ntmps17
    go_wp2
    go_loopw [5] (fun i wr => SameRel la lb w i wr) (fun i _ => n - (intOf i).toNat)
    case atStart => exact ⟨0, 0, by omega, rfl, rfl, fun j hj => absurd hj (Nat.not_lt_zero j)⟩
    case round =>
      obtain ⟨k, q, hk, rfl, rfl, hrel⟩ := hrel
      have HR := Lib.hid hrel
      clear hrel
      have HK := Lib.hid hk
      by_cases hlt : k < n
      · have hka : k < la.length := by rw [← HN.out]; exact hlt
        have hkb : k < lb.length := by rw [← HL.out, ← HN.out]; exact hlt
        obtain ⟨b1, o1, rfl, _, hc1⟩ := HTA.out (by rintro rfl; simp at hka)
        obtain ⟨b2, o2, rfl, _, hc2⟩ := HTB.out (by rintro rfl; simp at hkb)
        obtain ⟨x, hx⟩ : ∃ x, x = la[k] := ⟨_, rfl⟩
        obtain ⟨y, hy⟩ : ∃ y, y = lb[k] := ⟨_, rfl⟩
        have hgx : la[k]? = some x := by rw [hx]; exact List.getElem?_eq_getElem hka
        have hgy : lb[k]? = some y := by rw [hy]; exact List.getElem?_eq_getElem hkb
        have c1 : w.cell? ⟨b1, o1 + k, none⟩ = some (.string (strL x)) := hc1 k x hgx
        have c2 : w.cell? ⟨b2, o2 + k, none⟩ = some (.string (strL y)) := hc2 k y hgy
        have HGX := Lib.hid hgx
        have HGY := Lib.hid hgy
        clear hc1 hc2 hx hy hgx hgy hk
        by_cases hxy : x = y
        · have hq : ((strL x).toList == (strL y).toList) = true := by rw [hxy]; simp
          have HXY := Lib.hid hxy
          clear hxy
          go_wp2
          go_quiet (fail)
          go_wp2
          go_roundw
          case rel => exact ⟨k + 1, _, by have := HN.out; omega, by go_num, by first | rfl | exact World.drewN_drewN _ _ _, fun j hj => by
            rcases Nat.lt_succ_iff_lt_or_eq.1 hj with h | h
            · exact HR.out j h
            · subst h; rw [HGX.out, HGY.out, HXY.out]⟩
          case measure => simp [intOf]; omega
        · have hq : ((strL x).toList == (strL y).toList) = false := by rw [strL_toList, strL_toList]; simpa using hxy
          have HNE := Lib.hid (show la ≠ lb from by
            rintro rfl
            have h := HGX.out
            rw [HGY.out] at h
            injection h with h
            exact hxy h.symm)
          clear hxy
          go_wp2
          go_quiet (fail)
          go_wp2
          go_ret
          exact ⟨ret_bool (by rw [decide_eq_false HNE.out]), _, by first | rfl | exact World.drewN_drewN _ _ _⟩
      · have HE := Lib.hid (eq_at (fun j hj => HR.out j (by have := HN.out; omega)) HL.out)
        clear hk
        go_wp2
        go_ret
        exact ⟨ret_bool (by rw [decide_eq_true HE.out]), q, rfl⟩
  · have HNE := Lib.hid (show la ≠ lb from fun h => hl (by rw [h]))
    have hn1 : ((la.length : Int) != (lb.length : Int)) = true := by simp; omega
    go_enter Try.func17, Try.ntmps17
    go_wp2
    go_ret
    exact ⟨ret_bool (by rw [decide_eq_false HNE.out]), 0, rfl⟩
end Go.Proofs.Ytedlfjolmhkpdaa
