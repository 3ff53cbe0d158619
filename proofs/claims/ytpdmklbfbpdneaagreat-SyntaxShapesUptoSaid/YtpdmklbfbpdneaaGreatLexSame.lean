/- Lists of tokens in memory; the contracts of the reference's Same and of slices.Equal at tokens. Condition: at most 2^47 tokens. -/
import Derived.Test.YtpdmklbfbpdneaaGreatLexScan
import Derived.Laws.StructEq
namespace Go.Proofs.YtpdmklbfbpdneaaGreat
open Go.RowKit
/-- A slice value that reads as a list of tokens. -/
def Toks (w : World) (A : Option Addr) (ts : List Tok) : Prop :=
  ts ≠ [] → ∃ b off, A = some ⟨b, off, none⟩ ∧ ∀ (i : Nat) (t : Tok), ts[i]? = some t →
    w.cell? ⟨b, off + i * 3, none⟩ = some (.int .i64 t.kind) ∧ w.cell? ⟨b, off + i * 3 + 1, none⟩ = some (.string t.lead) ∧ w.cell? ⟨b, off + i * 3 + 2, none⟩ = some (.string t.text)
theorem Toks.same {w w' : World} {A : Option Addr} {ts : List Tok} (h : Toks w A ts) (hw : ∀ p : Addr, (∃ u, w.cell? p = some u) → w'.cell? p = w.cell? p) : Toks w' A ts := fun hne => by
  obtain ⟨b, off, hA, hc⟩ := h hne
  refine ⟨b, off, hA, fun i t ht => ?_⟩
  obtain ⟨h1, h2, h3⟩ := hc i t ht
  exact ⟨(hw _ ⟨_, h1⟩).trans h1, (hw _ ⟨_, h2⟩).trans h2, (hw _ ⟨_, h3⟩).trans h3⟩
theorem Toks.below {w w' : World} {A : Option Addr} {ts : List Tok} (h : Toks w A ts) (hb : Below w.heap.size w w') : Toks w' A ts :=
  h.same fun p ⟨_, hu⟩ => hb.cell (World.block_lt_of_cell? w p hu)
theorem Toks.drewN {w : World} {A : Option Addr} {ts : List Tok} (h : Toks w A ts) (n : Nat) : Toks (w.drewN n) A ts := h
def tokEq (t u : Tok) : Bool := t.kind == u.kind && t.lead.toList == u.lead.toList && t.text.toList == u.text.toList
def sameB : List Tok → List Tok → Bool
  | [], [] => true
  | t :: ts, u :: us => tokEq t u && sameB ts us
  | _, _ => false
theorem sameB_length {ts us : List Tok} (h : ts.length ≠ us.length) : sameB ts us = false := by
  induction ts generalizing us with
  | nil => cases us with
    | nil => exact absurd rfl h
    | cons u us => rfl
  | cons t ts ih => cases us with
    | nil => rfl
    | cons u us =>
      unfold sameB
      rw [ih (by simpa using h), Bool.and_false]
theorem sameB_self (ts : List Tok) : sameB ts ts = true := by
  induction ts with
  | nil => rfl
  | cons t ts ih =>
    unfold sameB tokEq
    rw [ih]
    simp
def SameAt (ts us : List Tok) (k : Nat) : Prop := k ≤ ts.length ∧ sameB ts us = sameB (ts.drop k) (us.drop k)
theorem SameAt.next {ts us : List Tok} {k : Nat} {t u : Tok} (h : SameAt ts us k) (ht : ts[k]? = some t) (hu : us[k]? = some u) (he : tokEq t u = true) : SameAt ts us (k + 1) := by
  obtain ⟨h1, h2⟩ := h
  obtain ⟨hk, e1⟩ := List.getElem?_eq_some_iff.1 ht
  obtain ⟨hk', e2⟩ := List.getElem?_eq_some_iff.1 hu
  refine ⟨hk, ?_⟩
  rw [h2, List.drop_eq_getElem_cons hk, List.drop_eq_getElem_cons hk', e1, e2, sameB, he, Bool.true_and]
theorem SameAt.stop {ts us : List Tok} {k : Nat} {t u : Tok} (h : SameAt ts us k) (ht : ts[k]? = some t) (hu : us[k]? = some u) (he : tokEq t u = false) : sameB ts us = false := by
  obtain ⟨hk, e1⟩ := List.getElem?_eq_some_iff.1 ht
  obtain ⟨hk', e2⟩ := List.getElem?_eq_some_iff.1 hu
  rw [h.2, List.drop_eq_getElem_cons hk, List.drop_eq_getElem_cons hk', e1, e2, sameB, he, Bool.false_and]
theorem SameAt.done {ts us : List Tok} {k : Nat} (h : SameAt ts us k) (hl : ts.length = us.length) (hk : ¬ k < ts.length) : sameB ts us = true := by
  rw [h.2, List.drop_eq_nil_of_le (by omega), List.drop_eq_nil_of_le (by omega)]
  rfl
theorem tok_under : Tryz.prog.underlying 61 = some (.struct (Tryz.prog.fieldsOf 61)) := by kernel_rfl
theorem tok_stood : Tryz.prog.stoodInHeld 61 = false := by kernel_rfl
theorem tok_guard : Tryz.prog.eqGuardType Tryz.prog.depth 61 = false := by kernel_rfl
theorem part_0 (x y z : Value) (w : World) : (part 3 #[x, y, z] 0).run Tryz.prog w = .ok x w := by
  simp [part, isAgg, run_underlying Tryz.underlying3]
theorem part_1 (x y z : Value) (w : World) : (part 9 #[x, y, z] 1).run Tryz.prog w = .ok y w := by
  simp [part, isAgg, run_underlying Tryz.underlying9]
theorem part_2 (x y z : Value) (w : World) : (part 9 #[x, y, z] 2).run Tryz.prog w = .ok z w := by
  simp [part, isAgg, run_underlying Tryz.underlying9]
theorem tok_equal (t u : Tok) (w : World) : (Op.equalIn 10000 61 (.agg #[.int .i64 t.kind, .string t.lead, .string t.text]) (.agg #[.int .i64 u.kind, .string u.lead, .string u.text])).run Tryz.prog w = .ok (tokEq t u) w := by
  rw [run_equalIn_agg w 9999 61 _ _ tok_under tok_stood]
  simp only [Program.fieldsOf, Tryz.underlying61, Op.eqFields, Sem.run_bind, Sem.run_ite, Sem.run_pure]
  have n1 : ("Lead" ≠ "_") = True := by simp
  have n2 : ("Text" ≠ "_") = True := by simp
  simp only [n1, n2, if_true, part_0, part_1, part_2, Result.andThen_ok, run_equalIn_int _ 9998 3 _ _ _ _ Tryz.underlying3, run_equalIn_string _ 9998 9 _ _ Tryz.underlying9]
  unfold tokEq
  cases h1 : (t.kind == u.kind) <;> cases h2 : (t.lead.toList == u.lead.toList) <;> cases h3 : (t.text.toList == u.text.toList) <;> simp

theorem tok_neq (t u : Tok) (w : World) : (binOp .neq 61 (.agg #[.int .i64 t.kind, .string t.lead, .string t.text]) (.agg #[.int .i64 u.kind, .string u.lead, .string u.text])).run Tryz.prog w = .ok (.bool (!tokEq t u)) w := by
  rw [run_neq_struct, tok_equal]
  rfl
theorem tok_eql (t u : Tok) (w : World) : (binOp .eql 61 (.agg #[.int .i64 t.kind, .string t.lead, .string t.text]) (.agg #[.int .i64 u.kind, .string u.lead, .string u.text])).run Tryz.prog w = .ok (.bool (tokEq t u)) w := by
  rw [run_eql_struct, tok_equal]
  rfl
set_option maxHeartbeats 1000000 in
theorem equal_any (A B : Option Addr) (c d : Nat) (ts us : List Tok) (w : World) (ha : Toks w A ts) (hb : Toks w B us) (hn : ts.length ≤ 140737488355328) :
    Calls Tryz.prog 179 #[.slice A ts.length c, .slice B us.length d] w fun e w' => e = .returned (.bool (sameB ts us)) ∧ ∃ n, w' = w.drewN n := by
  by_cases hl : ts.length = us.length
  · have hl' : ((ts.length : Int) != (us.length : Int)) = false := by simp [hl]
    have HL := Lib.hid hl
    have HA := Lib.hid ha
    have HB := Lib.hid hb
    clear hl ha hb
    go_enter Tryz.func179, Tryz.ntmps179
    go_wp2
    go_loopw [13] (fun i wr => ∃ (k n : Nat), i = .int .i64 k ∧ k ≤ ts.length ∧ SameAt ts us k ∧ wr = w.drewN n) (fun i _ => ts.length - (intOf i).toNat)
    case atStart => exact ⟨0, 0, rfl, Nat.zero_le _, ⟨Nat.zero_le _, rfl⟩, rfl⟩
    case round =>
      obtain ⟨k, n, rfl, hk, hrel, rfl⟩ := hrel
      have HR := Lib.hid hrel
      clear hrel
      by_cases hlt : k < ts.length
      · obtain ⟨b, off, rfl, hca⟩ := HA.out (by intro e; rw [e] at hlt; simp at hlt)
        obtain ⟨b', off', rfl, hcb⟩ := HB.out (by intro e; rw [HL.out, e] at hlt; simp at hlt)
        obtain ⟨t, ht⟩ : ∃ t, ts[k]? = some t := ⟨_, List.getElem?_eq_getElem hlt⟩
        obtain ⟨u, hu⟩ : ∃ u, us[k]? = some u := ⟨_, List.getElem?_eq_getElem (by rw [← HL.out]; exact hlt)⟩
        obtain ⟨a0, a1, a2⟩ := hca k t ht
        obtain ⟨b0, b1, b2⟩ := hcb k u hu
        have HT := Lib.hid ht
        have HU := Lib.hid hu
        clear hca hcb ht hu
        have hlt' : (k : Int) < (ts.length : Int) := by omega
        have hlu' : (k : Int) < (us.length : Int) := by have := HL.out; omega
        have hk0 : (0 : Int) ≤ (k : Int) := by omega
        have hG := fun (w : World) (x y : Operand) => run_eqGuard_agg w .neq 61 x y #[.int .i64 t.kind, .string t.lead, .string t.text] #[.int .i64 u.kind, .string u.lead, .string u.text] tok_guard
        have hN := fun (w : World) => tok_neq t u w
        cases he : tokEq t u
        · go_wp2_with fail
          go_quiet (fail)
          go_wp2
          go_ret
          exact ⟨ret_bool (HR.out.stop HT.out HU.out he).symm, _, World.drewN_drewN _ _ _⟩
        · go_wp2_with fail
          go_quiet (fail)
          go_wp2
          go_roundw
          case rel => exact ⟨k + 1, _, by go_num, by omega, HR.out.next HT.out HU.out he, rfl⟩
          case measure => simp [intOf]; omega
      · go_wp2
        go_ret
        exact ⟨ret_bool (HR.out.done HL.out hlt).symm, n, rfl⟩
  · have hl' : ((ts.length : Int) != (us.length : Int)) = true := by simp; omega
    have HL := Lib.hid (sameB_length hl)
    clear hl ha hb
    go_enter Tryz.func179, Tryz.ntmps179
    go_wp2
    go_ret
    exact ⟨ret_bool HL.out.symm, 0, rfl⟩
end Go.Proofs.YtpdmklbfbpdneaaGreat
