/- The contract of the reference's SamePath, and that of samePaths at equal lists. Condition: lists that a machine can hold. -/
import Derived.Test.YtojekhbebcdccaaTreNums
import Derived.Deep.RegionHeld3
import Derived.Deep.QuietTactic
namespace Go.Proofs.Ytojekhbebcdccaa
open Go.RowKit Go.Shelf
def intsEq : List Int → List Int → Bool
  | [], [] => true
  | x :: r, y :: s => (x == y) && intsEq r s
  | _, _ => false
theorem intsEq_self : (p : List Int) → intsEq p p = true
  | [] => rfl
  | x :: r => by rw [intsEq, intsEq_self r]; simp
theorem intsEq_iff : (p q : List Int) → (intsEq p q = true ↔ p = q)
  | [], [] => by simp [intsEq]
  | [], _ :: _ => by simp [intsEq]
  | _ :: _, [] => by simp [intsEq]
  | x :: r, y :: s => by rw [intsEq, Bool.and_eq_true, intsEq_iff r s]; simp
def SPAt (p q : List Int) (w : World) (i : Value) (wr : World) : Prop := ∃ j : Nat, i = .int .i64 j ∧ j ≤ p.length ∧ intsEq p q = intsEq (p.drop j) (q.drop j) ∧ ∃ n : Nat, wr = w.drewN n
set_option maxRecDepth 100000 in
set_option maxHeartbeats 1000000 in
theorem samepath_q (A C : Option Addr) (a c : Nat) (p q : List Int) (w : World) (hA : IntsAt w A p) (hC : IntsAt w C q) (hp : p.length ≤ maxLen) (hq : q.length ≤ maxLen) :
    Calls Try.prog 30 #[.slice A p.length a, .slice C q.length c] w fun e w' => e = .returned (.bool (intsEq p q)) ∧ ∃ n : Nat, w' = w.drewN n := by
  have HA := Lib.hid hA
  have HC := Lib.hid hC
  have hp6 : p.length ≤ 9223372036854775807 := by unfold maxLen at hp; omega
  have hq6 : q.length ≤ 9223372036854775807 := by unfold maxLen at hq; omega
  have mixedL : Try.prog.follows Departure.mixedOrders = true := mixed
  clear hA hC hp hq
  by_cases hl : p.length = q.length
  · have HL := Lib.hid hl
    rw [show Value.slice C q.length c = .slice C p.length c from by rw [hl]]
    clear hl hq6
    go_enter Try.func30, Try.ntmps30
    go_wp2
    go_loopw [5] (fun i wr => SPAt p q w i wr) (fun i _ => p.length - (intOf i).toNat)
    case atStart => exact ⟨0, rfl, Nat.zero_le _, rfl, 0, rfl⟩
    case round =>
      obtain ⟨j, rfl, hj, hf, n, rfl⟩ := hrel
      have HF := Lib.hid hf
      clear hf
      by_cases hlt : j < p.length
      · obtain ⟨x, hx⟩ : ∃ x, p[j]? = some x := ⟨_, List.getElem?_eq_getElem hlt⟩
        obtain ⟨y, hy⟩ : ∃ y, q[j]? = some y := ⟨_, List.getElem?_eq_getElem (by rw [← HL.out]; exact hlt)⟩
        obtain ⟨ab, ao, rfl, abl, hac⟩ := HA.out.at hlt
        obtain ⟨cb, co, rfl, cbl, hcc⟩ := HC.out.at (show j < q.length by rw [← HL.out]; exact hlt)
        have a0 := hac j x hx
        have c0 := hcc j y hy
        have HD := Lib.hid (show intsEq (p.drop j) (q.drop j) = ((x == y) && intsEq (p.drop (j + 1)) (q.drop (j + 1))) from by rw [drop_cons hx, drop_cons hy, intsEq])
        have hja : (j : Int) < (p.length : Int) := by omega
        have hj0 : (0 : Int) ≤ (j : Int) := by omega
        clear hac hcc hx hy
        by_cases hxy : x = y
        · subst hxy
          have HR := Lib.hid (show intsEq p q = intsEq (p.drop (j + 1)) (q.drop (j + 1)) from by rw [HF.out, HD.out]; simp)
          go_wp2_with fail
          go_region_o
          all_goals
            go_wp2
            go_roundw
            case measure => simp [intOf]; omega
            case rel => exact ⟨j + 1, by go_num, by omega, HR.out, n + 1, rfl⟩
        · have e1 : (x == y) = false := beq_eq_false_iff_ne.2 hxy
          have e2 : (x != y) = true := by rw [bne_iff_ne]; exact hxy
          have HR := Lib.hid (show intsEq p q = false from by rw [HF.out, HD.out, e1]; rfl)
          go_wp2_with fail
          go_region_o
          all_goals
            go_wp2
            go_ret
            exact ⟨ret_bool HR.out.symm, n + 1, rfl⟩
      · have HR := Lib.hid (show intsEq p q = true from by rw [HF.out, List.drop_eq_nil_of_le (by omega), List.drop_eq_nil_of_le (by have := HL.out; omega)]; rfl)
        go_wp2
        go_ret
        exact ⟨ret_bool HR.out.symm, n, rfl⟩
  · have HR := Lib.hid (show intsEq p q = false from by
      cases h : intsEq p q with
      | false => rfl
      | true => exact absurd (congrArg List.length ((intsEq_iff p q).1 h)) hl)
    have e1 : ((p.length : Int) == (q.length : Int)) = false := beq_eq_false_iff_ne.2 (by omega)
    have e2 : ((p.length : Int) != (q.length : Int)) = true := by rw [bne_iff_ne]; omega
    have e3 : (p.length == q.length) = false := beq_eq_false_iff_ne.2 hl
    have e4 : (p.length != q.length) = true := by rw [bne_iff_ne]; exact hl
    go_enter Try.func30, Try.ntmps30
    go_wp2
    go_ret
    exact ⟨ret_bool HR.out.symm, 0, rfl⟩
theorem below_drewN (w : World) (n : Nat) : Below w.heap.size w (w.drewN n) := ⟨rfl, rfl, rfl, Nat.le_refl _, fun _ _ => rfl⟩
theorem samepath_any (A C : Option Addr) (a c : Nat) (p q : List Int) (w : World) (hA : IntsAt w A p) (hC : IntsAt w C q) (hp : p.length ≤ maxLen) (hq : q.length ≤ maxLen) :
    Calls Try.prog 30 #[.slice A p.length a, .slice C q.length c] w fun e w' => e = .returned (.bool (intsEq p q)) ∧ Below w.heap.size w w' :=
  (samepath_q A C a c p q w hA hC hp hq).mono fun _ _ ⟨he, n, hn⟩ => ⟨he, by rw [hn]; exact below_drewN w n⟩
def SPsAt (n : Nat) (w : World) (i : Value) (wr : World) : Prop := ∃ j : Nat, i = .int .i64 j ∧ j ≤ n ∧ Below w.heap.size w wr
set_option maxRecDepth 100000 in
set_option maxHeartbeats 1000000 in
theorem samepaths_any (B B' : Nat) (LA MA : Option Addr) (LC MC : Nat) (ps : List (List Int)) (w : World) (hL : PsAt w B (.slice LA ps.length LC) ps) (hM : PsAt w B' (.slice MA ps.length MC) ps) (hn : ps.length ≤ 1000000) (hl : ∀ (j : Nat) (p : List Int), ps[j]? = some p → p.length ≤ maxLen) :
    Calls Try.prog 15 #[.slice LA ps.length LC, .slice MA ps.length MC] w fun e w' => e = .returned (.bool true) ∧ Below w.heap.size w w' := by
  have HL := Lib.hid hL
  have HM := Lib.hid hM
  have HLN := Lib.hid hl
  have mixedL : Try.prog.follows Departure.mixedOrders = true := mixed
  clear hL hM hl
  go_enter Try.func15, Try.ntmps15
  go_wp2
  go_loopw [5] (fun i wr => SPsAt ps.length w i wr) (fun i _ => ps.length - (intOf i).toNat)
  case atStart => exact ⟨0, rfl, Nat.zero_le _, Below.refl _ _⟩
  case round =>
    obtain ⟨j, rfl, hj, hb⟩ := hrel
    have HB := Lib.hid hb
    have HLR := Lib.hid (HL.out.keep hb)
    have HMR := Lib.hid (HM.out.keep hb)
    clear hb
    by_cases hlt : j < ps.length
    · obtain ⟨p, hp⟩ : ∃ p, ps[j]? = some p := ⟨_, List.getElem?_eq_getElem hlt⟩
      obtain ⟨g, pa, pc, hLA, gl, c0, hrow⟩ := HLR.out.at hp
      obtain ⟨g', qa, qc, hMA, gl', d0, hrow'⟩ := HMR.out.at hp
      subst hLA hMA
      have HPR := Lib.hid hrow.ints
      have HQR := Lib.hid hrow'.ints
      have HPL := Lib.hid (HLN.out j p hp)
      have hja : (j : Int) < (ps.length : Int) := by omega
      have hj0 : (0 : Int) ≤ (j : Int) := by omega
      clear hrow hrow' hp
      go_wp2_with fail
      go_region_held3 (fun w' => w'.cell? ⟨g, j, none⟩ = some (.slice pa p.length pc) ∧ w'.cell? ⟨g', j, none⟩ = some (.slice qa p.length qc)) (first | with_reducible exact ⟨c0, d0⟩ | go_keep) ((go_at_call 30; refine (samepath_any pa qa pc qc p p _ (HPR.out.keep (Below.refl _ _).drew) (HQR.out.keep (Below.refl _ _).drew) HPL.out HPL.out).mono ?_; rw [intsEq_self]; rintro e w5 ⟨rfl, hb5⟩; have hbd : Below wr.heap.size wr w5 := (show Below wr.heap.size wr _ from (Below.refl _ _).drew).trans hb5; have HB5 := Lib.hid hbd; have h1 := (World.cell?_of_block (w := wr) (a := ⟨g, j, none⟩) (hbd.block g gl)).trans c0; have h2 := (World.cell?_of_block (w := wr) (a := ⟨g', j, none⟩) (hbd.block g' gl')).trans d0; have h3 := Nat.lt_of_lt_of_le gl hbd.size; have h4 := Nat.lt_of_lt_of_le gl' hbd.size; clear hb5 hbd c0 d0 gl gl'; have c0 := h1; have d0 := h2; have gl := h3; have gl' := h4; clear h1 h2 h3 h4))
      all_goals
        clear c0 d0 gl gl'
        go_wp2
        go_roundw
        case measure => simp [intOf]; omega
        case rel => exact ⟨j + 1, by go_num, by omega, HB.out.trans (HB5.out.mono HB.out.size)⟩
    · go_wp2
      go_ret
      exact ⟨rfl, HB.out⟩
end Go.Proofs.Ytojekhbebcdccaa
