/- The contract of awake: the chapter's example holds. No condition. -/
import Derived.Test.YtopnimajlgpdeaaLexFuses
namespace Go.Proofs.Ytopnimajlgpdeaa
open Go.RowKit
def src0 : ByteArray := ⟨#[120, 32, 35, 97, 10, 43, 32, 49, 48, 32]⟩
def toks0 : List Tok := [⟨1, ⟨#[]⟩, ⟨#[120]⟩⟩, ⟨8, ⟨#[32, 35, 97, 10]⟩, ⟨#[43]⟩⟩, ⟨5, ⟨#[32]⟩, ⟨#[49, 48]⟩⟩]
theorem scan0 : scanR ⟨#[120, 32, 35, 97, 10, 43, 32, 49, 48, 32]⟩ = ⟨toks0, ⟨#[32]⟩, 0, 0⟩ := by kernel_rfl
theorem fuses0 : fusesB ⟨#[120]⟩ ⟨#[49]⟩ = true := by kernel_rfl
theorem scan_const (w : World) : Calls Try.prog 12 #[.string ⟨#[120, 32, 35, 97, 10, 43, 32, 49, 48, 32]⟩] w fun e w' => ∃ g c, e = .returned (.tuple #[.slice (some ⟨g, 0, none⟩) 3 c, .string ⟨#[32]⟩, .int .i64 0, .int .i64 0]) ∧ Below w.heap.size w w' ∧ w'.cell? ⟨g, 0, none⟩ = some (.int .i64 1) ∧ w'.cell? ⟨g, 1, none⟩ = some (.string ⟨#[]⟩) ∧ w'.cell? ⟨g, 2, none⟩ = some (.string ⟨#[120]⟩) ∧ w'.cell? ⟨g, 3, none⟩ = some (.int .i64 8) ∧ w'.cell? ⟨g, 4, none⟩ = some (.string ⟨#[32, 35, 97, 10]⟩) ∧ w'.cell? ⟨g, 5, none⟩ = some (.string ⟨#[43]⟩) ∧ w'.cell? ⟨g, 6, none⟩ = some (.int .i64 5) ∧ w'.cell? ⟨g, 7, none⟩ = some (.string ⟨#[32]⟩) ∧ w'.cell? ⟨g, 8, none⟩ = some (.string ⟨#[49, 48]⟩) := by
  refine (scan_any _ w (by decide)).mono fun e w' h => ?_
  obtain ⟨v, he, ho, hb⟩ := h
  rw [scan0] at he ho
  obtain ⟨g, c, hv, _, _⟩ := World.ownsRow.form ho (by decide)
  subst hv
  have hc := World.ownsRow.cells (g := g) ho rfl
  exact ⟨g, c, he, hb, hc 0 _ rfl, hc 1 _ rfl, hc 2 _ rfl, hc 3 _ rfl, hc 4 _ rfl, hc 5 _ rfl, hc 6 _ rfl, hc 7 _ rfl, hc 8 _ rfl⟩
theorem fuses_const (w : World) : Calls Try.prog 21 #[.string ⟨#[120]⟩, .string ⟨#[49]⟩] w fun e w' => e = .returned (.bool true) ∧ Below w.heap.size w w' := by
  have h := fuses_any ⟨#[120]⟩ ⟨#[49]⟩ w (by decide)
  rw [fuses0] at h
  exact h
theorem tokEq_self (t : Tok) : tokEq t t = true := by
  unfold tokEq
  simp
set_option maxHeartbeats 1000000 in
theorem awake_any (w : World) : Calls Try.prog 11 #[] w fun e w' => e = .returned (.bool true) ∧ Below w.heap.size w w' := by
  have hG := fun (w : World) (x y : Operand) (xs ys : Array Value) => run_eqGuard_agg w .eql 35 x y xs ys tok_guard
  have h0 : ∀ w : World, (binOp .eql 35 (.agg #[.int .i64 1, .string ⟨#[]⟩, .string ⟨#[120]⟩]) (.agg #[.int .i64 1, .string ⟨#[]⟩, .string ⟨#[120]⟩])).run Try.prog w = .ok (.bool true) w := fun w => (tok_eql ⟨1, ⟨#[]⟩, ⟨#[120]⟩⟩ ⟨1, ⟨#[]⟩, ⟨#[120]⟩⟩ w).trans (by rw [tokEq_self])
  have h1 : ∀ w : World, (binOp .eql 35 (.agg #[.int .i64 8, .string ⟨#[32, 35, 97, 10]⟩, .string ⟨#[43]⟩]) (.agg #[.int .i64 8, .string ⟨#[32, 35, 97, 10]⟩, .string ⟨#[43]⟩])).run Try.prog w = .ok (.bool true) w := fun w => (tok_eql ⟨8, ⟨#[32, 35, 97, 10]⟩, ⟨#[43]⟩⟩ ⟨8, ⟨#[32, 35, 97, 10]⟩, ⟨#[43]⟩⟩ w).trans (by rw [tokEq_self])
  have h2 : ∀ w : World, (binOp .eql 35 (.agg #[.int .i64 5, .string ⟨#[32]⟩, .string ⟨#[49, 48]⟩]) (.agg #[.int .i64 5, .string ⟨#[32]⟩, .string ⟨#[49, 48]⟩])).run Try.prog w = .ok (.bool true) w := fun w => (tok_eql ⟨5, ⟨#[32]⟩, ⟨#[49, 48]⟩⟩ ⟨5, ⟨#[32]⟩, ⟨#[49, 48]⟩⟩ w).trans (by rw [tokEq_self])
  go_enter Try.func11, Try.ntmps11
  go_wp2_with (first | (go_at_call 12; refine (scan_const _).mono ?_; rintro e w1 ⟨g, c, rfl, hb, c0, c1, c2, c3, c4, c5, c6, c7, c8⟩; have HB := Lib.hid hb; clear hb) | (go_at_call 21; refine (fuses_const _).mono ?_; rintro e w2 ⟨rfl, hb2⟩; have HB2 := Lib.hid hb2; clear hb2))
  go_ret
  exact ⟨rfl, HB.out.trans (HB2.out.mono HB.out.size)⟩
end Go.Proofs.Ytopnimajlgpdeaa
