/- The contracts of awake, light and sameBools. No condition. -/
import Derived.Test.YtedlfjolmhkpdaaPosRRekey
namespace Go.Proofs.Ytedlfjolmhkpdaa
open Go.RowKit
attribute [local go_sem 2000] str_gtr str_leq
theorem ex_between : betweenP [98] [99] = ([98, 110], 0) := by kernel_rfl
theorem ex_spread : spreadN 2 = [[105, 114], [114, 105]] := by kernel_rfl
theorem ex_keep : keepP [[109], [99], [], [102]] = [false, true, false, true] := by kernel_rfl
theorem ex_valid : vldB [98, 110] = true := by kernel_rfl
def Yes (w : World) (e : Ending) (w' : World) : Prop := e = .returned (.bool true) ∧ Below w.heap.size w w'
theorem aw_b (W : World) : Calls Try.prog 12 #[.string ⟨#[98]⟩, .string ⟨#[99]⟩] W fun e w' => e = .returned (.tuple #[.string ⟨#[98, 110]⟩, .int .i64 0]) ∧ Below W.heap.size W w' := by
  have h := between_any [98] [99] W (by unfold maxLen; simp) (by unfold maxLen; simp)
  unfold BtwPost at h
  rw [ex_between] at h
  exact h
theorem aw_s (W : World) : Calls Try.prog 16 #[.int .i64 2] W (SprPost [[105, 114], [114, 105]] W) := by
  have h := spread_nat 2 W (by omega)
  rw [ex_spread] at h
  exact h
theorem aw_v (W : World) : Calls Try.prog 14 #[.string ⟨#[98, 110]⟩] W fun e w' => e = .returned (.bool true) ∧ W = w' := by
  have h := valid_list [98, 110] W (by unfold maxLen; simp)
  rw [ex_valid] at h
  exact h
def exC : Array Value := #[.string ⟨#[109]⟩, .string ⟨#[99]⟩, .string ⟨#[]⟩, .string ⟨#[102]⟩]
theorem aw_k (W : World) : Calls Try.prog 21 #[.slice (some ⟨W.heap.size, 0, none⟩) 4 4] (W.alloc (.cells #[.string ⟨#[109]⟩, .string ⟨#[99]⟩, .string ⟨#[]⟩, .string ⟨#[102]⟩] 9)) (KeepPost [false, true, false, true] (W.alloc (.cells #[.string ⟨#[109]⟩, .string ⟨#[99]⟩, .string ⟨#[]⟩, .string ⟨#[102]⟩] 9))) := by
  have ht : TAt (W.alloc (.cells exC 9)) (some ⟨W.heap.size, 0, none⟩) [[109], [99], [], [102]] := fun _ => ⟨W.heap.size, 0, rfl, by rw [World.size_alloc]; omega, fun j x hx => by
    have h := CAt.whole W 9 exC (by show 4 ≤ maxLen; unfold maxLen; omega)
    rw [Nat.zero_add]
    refine h.cell ?_
    have := svs_get hx
    exact this⟩
  have h := keep_any [[109], [99], [], [102]] (some ⟨W.heap.size, 0, none⟩) 4 (W.alloc (.cells exC 9)) ht (by simp) (by
    intro k hk
    have h1 : k.length ≤ 1 := by
      simp only [List.mem_cons, List.not_mem_nil, or_false] at hk
      rcases hk with rfl | rfl | rfl | rfl <;> simp
    exact Nat.le_trans h1 (by unfold maxLen; omega))
  rw [ex_keep] at h
  exact h
set_option maxRecDepth 100000 in
set_option maxHeartbeats 1000000 in
theorem awake_any (w : World) : Calls Try.prog 11 #[] w (Yes w) := by
  go_enter Try.func11, Try.ntmps11
  go_wp2_with fail
  refine (aw_b _).mono ?_
  rintro e w1 ⟨rfl, hb1⟩
  have HB1 := Lib.hid hb1
  clear hb1
  go_wp2_with fail
  refine (aw_s _).mono ?_
  rintro e w2 ⟨v2, rfl, hr2, hb2⟩
  obtain ⟨g2, c2, rfl, _, hg2, hat2⟩ := hr2.at (by simp)
  have HB2 := Lib.hid (HB1.out.trans (hb2.mono HB1.out.size))
  have HAT2 := Lib.hid hat2
  have HG2 := Lib.hid hg2
  clear hb2 hr2 hat2 hg2
  go_wp2_with fail
  refine (aw_k _).mono ?_
  rintro e w3 ⟨g3, rfl, _, hc3, hb3⟩
  have B23 := Lib.hid (show Below w2.heap.size w2 w3 from ((Below.refl _ _).alloc (Nat.le_refl _) _).trans (hb3.mono (by rw [World.size_alloc]; omega)))
  have HB3 := Lib.hid (HB2.out.trans (B23.out.mono HB2.out.size))
  have d0 : w3.cell? ⟨g2, 0, none⟩ = some (.string ⟨#[105, 114]⟩) := (B23.out.cell (p := ⟨g2, 0, none⟩) HG2.out).trans (HAT2.out 0 [105, 114] rfl)
  have d1 : w3.cell? ⟨g2, 1, none⟩ = some (.string ⟨#[114, 105]⟩) := (B23.out.cell (p := ⟨g2, 1, none⟩) HG2.out).trans (HAT2.out 1 [114, 105] rfl)
  have e0 : w3.cell? ⟨g3, 0, none⟩ = some (.bool false) := hc3.cell rfl
  have e1 : w3.cell? ⟨g3, 1, none⟩ = some (.bool true) := hc3.cell rfl
  have e2 : w3.cell? ⟨g3, 2, none⟩ = some (.bool false) := hc3.cell rfl
  have e3 : w3.cell? ⟨g3, 3, none⟩ = some (.bool true) := hc3.cell rfl
  clear hc3 hb3
  go_wp2_with fail
  refine (aw_v _).mono ?_
  rintro e w' ⟨rfl, rfl⟩
  go_wp2
  go_ret
  exact ⟨ret_bool (by simp), HB3.out⟩
/-- Few short keys. -/
def lightB (ks : List Key) : Bool := decide (ks.length ≤ 60) && ks.all fun k => decide (k.length ≤ 100)
theorem light_iff (ks : List Key) : lightB ks = true ↔ ks.length ≤ 60 ∧ ∀ k ∈ ks, k.length ≤ 100 := by
  unfold lightB
  simp
def LtRel (ks : List Key) (i : Value) : Prop := ∃ k : Nat, k ≤ ks.length ∧ i = .int .i64 (k : Int) ∧ ∀ j x, j < k → ks[j]? = some x → x.length ≤ 100
set_option maxHeartbeats 1000000 in
theorem light_any (A : Option Addr) (c : Nat) (ks : List Key) (w : World) (hT : TAt w A ks) (hl : ks.length ≤ maxLen) (hs : ∀ k ∈ ks, k.length ≤ maxLen) : Calls Try.prog 19 #[.slice A ks.length c] w fun e w' => e = .returned (.bool (lightB ks)) ∧ w = w' := by
  unfold maxLen at hl
  by_cases h60 : 60 < ks.length
  · have HR := Lib.hid (show lightB ks = false by rw [← Bool.not_eq_true, light_iff]; omega)
    clear hT hs
    go_enter Try.func19, Try.ntmps19
    go_wp2
    go_ret
    exact ⟨ret_bool HR.out.symm, rfl⟩
  · have HT := Lib.hid hT
    obtain ⟨n, hn⟩ : ∃ n, n = ks.length := ⟨_, rfl⟩
    have HN := Lib.hid hn
    have HS := Lib.hid hs
    rw [← hn] at hl h60 ⊢
    have hn60 : n ≤ 60 := by omega
    clear hT hn hs
    go_enter Try.func19, Try.ntmps19
    go_wp2
    go_loop [3] (fun i => LtRel ks i) (fun i => n - (intOf i).toNat)
    case atStart => exact ⟨0, Nat.zero_le _, rfl, fun j x hj => absurd hj (Nat.not_lt_zero j)⟩
    case round =>
      obtain ⟨k, hk, rfl, hrel⟩ := hrel
      have HR := Lib.hid hrel
      rw [← HN.out] at hk
      clear hrel
      by_cases hlt : k < n
      · have hkl : k < ks.length := by rw [← HN.out]; exact hlt
        obtain ⟨b, off, rfl, _, hc⟩ := HT.out (by rintro rfl; simp at hkl)
        obtain ⟨x, hx⟩ : ∃ x, x = ks[k] := ⟨_, rfl⟩
        have hgx : ks[k]? = some x := by rw [hx]; exact List.getElem?_eq_getElem hkl
        have hcell := hc k x hgx
        have hmem : x ∈ ks := by rw [hx]; exact List.getElem_mem _
        obtain ⟨X, hX⟩ : ∃ X, X = strL x := ⟨_, rfl⟩
        have hXs : X.size = x.length := by rw [hX, strL_size]
        have hXm : X.size ≤ 9223372036854775807 := by rw [hXs]; have := HS.out x hmem; unfold maxLen at this; omega
        rw [← hX] at hcell
        have HXS := Lib.hid hXs
        have HG := Lib.hid hgx
        have HM := Lib.hid hmem
        clear hc hx hgx hX hXs hmem
        by_cases h100 : 100 < X.size
        · have HF := Lib.hid (show lightB ks = false by
            rw [← Bool.not_eq_true, light_iff]
            intro h
            have := h.2 x HM.out
            rw [HXS.out] at h100
            omega)
          go_wp2
          go_ret
          exact ⟨ret_bool HF.out.symm, rfl⟩
        · have HX100 := Lib.hid (show x.length ≤ 100 by rw [← HXS.out]; omega)
          go_wp2
          go_round
          case rel => exact ⟨k + 1, hkl, by go_num, fun j y hj hy => by
            rcases Nat.lt_succ_iff_lt_or_eq.1 hj with h | h
            · exact HR.out j y h hy
            · subst h
              rw [HG.out] at hy
              injection hy with hy
              rw [← hy]
              exact HX100.out⟩
          case measure => simp [intOf]; omega
      · have HF := Lib.hid (show lightB ks = true by
          rw [light_iff]
          refine ⟨by rw [← HN.out]; exact hn60, fun x hx => ?_⟩
          obtain ⟨j, hj⟩ := List.getElem?_of_mem hx
          exact HR.out j x (by have := (List.getElem?_eq_some_iff.1 hj).1; rw [← HN.out] at this; omega) hj)
        go_wp2
        go_ret
        exact ⟨ret_bool HF.out.symm, rfl⟩
def SbRel (la lb : List Bool) (w : World) (i : Value) (wr : World) : Prop := ∃ (k q : Nat), k ≤ la.length ∧ i = .int .i64 (k : Int) ∧ wr = w.drewN q ∧ ∀ j, j < k → la[j]? = lb[j]?
set_option maxHeartbeats 1000000 in
/-- Equal lists of bools. -/
theorem bools_same (A B : Option Addr) (ca cb : Nat) (l : List Bool) (w : World) (hA : LAt w A l) (hB : LAt w B l) (ha : l.length ≤ 1000000) :
    Calls Try.prog 20 #[.slice A l.length ca, .slice B l.length cb] w (BoolQ true w) := by
  have HTA := Lib.hid hA
  have HTB := Lib.hid hB
  obtain ⟨n, hn⟩ : ∃ n, n = l.length := ⟨_, rfl⟩
  have HN := Lib.hid hn
  rw [← hn] at ha ⊢
  clear hA hB hn
  go_enter Try.func20, Try.ntmps20
  go_wp2
  go_loopw [5] (fun i wr => SbRel l l w i wr) (fun i _ => n - (intOf i).toNat)
  case atStart => exact ⟨0, 0, by omega, rfl, rfl, fun j hj => absurd hj (Nat.not_lt_zero j)⟩
  case round =>
    obtain ⟨k, q, hk, rfl, rfl, hrel⟩ := hrel
    rw [← HN.out] at hk
    clear hrel
    by_cases hlt : k < n
    · have hka : k < l.length := by rw [← HN.out]; exact hlt
      obtain ⟨b1, o1, rfl, _, hc1⟩ := HTA.out (by rintro rfl; simp at hka)
      obtain ⟨b2, o2, rfl, _, hc2⟩ := HTB.out (by rintro rfl; simp at hka)
      obtain ⟨x, hx⟩ : ∃ x, x = l[k] := ⟨_, rfl⟩
      have hgx : l[k]? = some x := by rw [hx]; exact List.getElem?_eq_getElem hka
      have c1 : w.cell? ⟨b1, o1 + k, none⟩ = some (.bool x) := hc1 k x hgx
      have c2 : w.cell? ⟨b2, o2 + k, none⟩ = some (.bool x) := hc2 k x hgx
      clear hc1 hc2 hx hgx
      cases x
      all_goals
        go_wp2
        go_quiet (fail)
        go_wp2
        go_roundw
        case rel => exact ⟨k + 1, _, hka, by go_num, by first | rfl | exact World.drewN_drewN _ _ _, fun _ _ => rfl⟩
        case measure => simp [intOf]; omega
    · go_wp2
      go_ret
      exact ⟨rfl, q, rfl⟩
end Go.Proofs.Ytedlfjolmhkpdaa
