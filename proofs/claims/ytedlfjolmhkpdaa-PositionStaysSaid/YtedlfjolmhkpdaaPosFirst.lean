/- The contracts of slices.Index at bools and of firstStaying. Condition: lists that a machine can hold. -/
import Derived.Test.YtedlfjolmhkpdaaPosKeep
namespace Go.Proofs.Ytedlfjolmhkpdaa
open Go.RowKit
/-- The bools of a slice, wherever it lies. -/
def LAt (w : World) (A : Option Addr) (l : List Bool) : Prop := l ≠ [] → ∃ b off, A = some ⟨b, off, none⟩ ∧ b < w.heap.size ∧ ∀ (j : Nat) (x : Bool), l[j]? = some x → w.cell? ⟨b, off + j, none⟩ = some (.bool x)
theorem LAt.keep {w w' : World} {A : Option Addr} {l : List Bool} (h : LAt w A l) (hb : Below w.heap.size w w') : LAt w' A l := fun hne => by
  obtain ⟨b, off, hA, hlt, hc⟩ := h hne
  exact ⟨b, off, hA, Nat.lt_of_lt_of_le hlt hb.size, fun j x hx => (hb.cell (p := ⟨b, off + j, none⟩) hlt).trans (hc j x hx)⟩
theorem CAt.bools {w : World} {g c : Nat} {l : List Bool} (h : CAt w g 4 c (bls l)) : LAt w (some ⟨g, 0, none⟩) l := fun _ =>
  ⟨g, 0, rfl, h.lt, fun j x hx => by
    rw [Nat.zero_add]
    exact h.cell (by unfold bls; rw [List.getElem?_map, hx]; rfl)⟩
/-- The first true. -/
def firstT : List Bool → Option Nat
  | [] => none
  | true :: _ => some 0
  | false :: r => (firstT r).map (· + 1)
def idxI (l : List Bool) : Int := match firstT l with | some n => (n : Int) | none => -1
theorem first_of {l : List Bool} : (k : Nat) → (∀ j, j < k → l[j]? = some false) → l[k]? = some true → firstT l = some k
  | 0, _, h => by
    cases l with
    | nil => simp at h
    | cons a r =>
      injection h with h
      subst h
      rfl
  | k + 1, hf, h => by
    cases l with
    | nil => simp at h
    | cons a r =>
      have ha := hf 0 (Nat.succ_pos k)
      injection ha with ha
      subst ha
      rw [firstT, first_of (l := r) k (fun j hj => hf (j + 1) (by omega)) h]
      rfl
theorem first_no : (l : List Bool) → (∀ j, j < l.length → l[j]? = some false) → firstT l = none
  | [], _ => rfl
  | a :: r, h => by
    have ha := h 0 (by simp)
    injection ha with ha
    subst ha
    rw [firstT, first_no r (fun j hj => h (j + 1) (by simpa using hj))]
    rfl
theorem next_of : (ks : List Key) → (st : List Bool) → nextS ks st = match firstT st with | some n => ks.getD n [] | none => []
  | [], st => by
    cases st with
    | nil => rfl
    | cons a r =>
      show ([] : Key) = _
      cases firstT (a :: r) <;> rfl
  | k :: ks, [] => rfl
  | k :: ks, true :: st => rfl
  | k :: ks, false :: st => by
    rw [nextS, next_of ks st, firstT]
    cases firstT st <;> rfl
def IdxRel (l : List Bool) (i : Value) : Prop := ∃ k : Nat, k ≤ l.length ∧ i = .int .i64 (k : Int) ∧ ∀ j, j < k → l[j]? = some false
set_option maxHeartbeats 1000000 in
theorem index_any (A : Option Addr) (c : Nat) (l : List Bool) (w : World) (hT : LAt w A l) (hl : l.length ≤ 1000000) :
    Calls Try.prog 35 #[.slice A l.length c, .bool true] w fun e w' => e = .returned (.int .i64 (idxI l)) ∧ w = w' := by
  have HT := Lib.hid hT
  obtain ⟨n, hn⟩ : ∃ n, n = l.length := ⟨_, rfl⟩
  have HN := Lib.hid hn
  rw [← hn] at hl ⊢
  clear hT hn
  go_enter Try.func35, Try.ntmps35
  go_wp2
  go_loop [8] (fun i => IdxRel l i) (fun i => n - (intOf i).toNat)
  case atStart => exact ⟨0, Nat.zero_le _, rfl, fun j hj => absurd hj (Nat.not_lt_zero j)⟩
  case round =>
    obtain ⟨k, hk, rfl, hrel⟩ := hrel
    have HR := Lib.hid hrel
    rw [← HN.out] at hk
    clear hrel
    by_cases hlt : k < n
    · have hkl : k < l.length := by rw [← HN.out]; exact hlt
      obtain ⟨b, off, rfl, _, hc⟩ := HT.out (by rintro rfl; simp at hkl)
      obtain ⟨x, hx⟩ : ∃ x, x = l[k] := ⟨_, rfl⟩
      have hgx : l[k]? = some x := by rw [hx]; exact List.getElem?_eq_getElem hkl
      have hcell := hc k x hgx
      clear hc hx
      cases x
      · have HG := Lib.hid hgx
        clear hgx
        go_wp2
        go_round
        case rel => exact ⟨k + 1, hkl, by go_num, fun j hj => by
          rcases Nat.lt_succ_iff_lt_or_eq.1 hj with h | h
          · exact HR.out j h
          · subst h; exact HG.out⟩
        case measure => simp [intOf]; omega
      · have HI := Lib.hid (show idxI l = (k : Int) by unfold idxI; rw [first_of k HR.out hgx])
        clear hgx
        go_wp2
        go_ret
        exact ⟨ret_int HI.out.symm, rfl⟩
    · have HI := Lib.hid (show idxI l = -1 by unfold idxI; rw [first_no l (fun j hj => HR.out j (by have := HN.out; omega))])
      go_wp2
      go_ret
      exact ⟨ret_int HI.out.symm, rfl⟩
theorem first_lt {l : List Bool} {k : Nat} (h : firstT l = some k) : k < l.length := by
  induction l generalizing k with
  | nil => cases h
  | cons a r ih =>
    cases a
    · rw [firstT] at h
      cases hr : firstT r with
      | none => rw [hr] at h; cases h
      | some m =>
        rw [hr] at h
        injection h with h
        have h : m + 1 = k := h
        have := ih hr
        simp
        omega
    · injection h with h
      subst h
      simp
theorem first_any (A B : Option Addr) (c d : Nat) (ks : List Key) (st : List Bool) (w : World) (hT : TAt w A ks) (hL : LAt w B st) (hl : ks.length = st.length) (hn : ks.length ≤ 1000000) :
    Calls Try.prog 30 #[.slice A ks.length c, .slice B st.length d] w fun e w' => e = .returned (.string (strL (nextS ks st))) ∧ w = w' := by
  have HC := Lib.hid (index_any B d st w hL (by omega))
  have HN := Lib.hid (next_of ks st)
  cases hf : firstT st with
  | none =>
    have HI := Lib.hid (show idxI st = -1 by unfold idxI; rw [hf])
    rw [hf] at HN
    rw [HI.out] at HC
    clear hf hT hL hl hn
    go_enter Try.func30, Try.ntmps30
    go_wp2_with ((go_at_call 35; (with_reducible refine HC.out.mono ?_); rintro e w' ⟨rfl, rfl⟩))
    go_ret
    exact ⟨ret_str (by rw [HN.out]; rfl), rfl⟩
  | some k =>
    have HI := Lib.hid (show idxI st = (k : Int) by unfold idxI; rw [hf])
    have hk := first_lt hf
    rw [hf] at HN
    rw [HI.out] at HC
    rw [← hl] at hk
    obtain ⟨b, off, rfl, _, hc⟩ := hT (by rintro rfl; simp at hk)
    have hcell := hc k (ks.getD k []) (by rw [List.getD_eq_getElem?_getD, List.getElem?_eq_getElem hk]; rfl)
    obtain ⟨x, hx⟩ : ∃ x, x = ks.getD k [] := ⟨_, rfl⟩
    rw [← hx] at hcell
    have HX := Lib.hid hx
    obtain ⟨n, hnn⟩ : ∃ n, n = ks.length := ⟨_, rfl⟩
    rw [← hnn] at hk hn ⊢
    clear hf hL hl hc hx hnn
    go_enter Try.func30, Try.ntmps30
    go_wp2_with ((go_at_call 35; (with_reducible refine HC.out.mono ?_); rintro e w' ⟨rfl, rfl⟩))
    go_ret
    exact ⟨ret_str (by rw [HN.out, HX.out]), rfl⟩
end Go.Proofs.Ytedlfjolmhkpdaa
