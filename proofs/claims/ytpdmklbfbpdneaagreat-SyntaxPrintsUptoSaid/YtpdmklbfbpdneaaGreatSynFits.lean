/- The contract of fits. No condition. -/
import Derived.Test.YtpdmklbfbpdneaaGreatSynNames
import Derived.Laws.EntriesVeiled
namespace Go.Proofs.YtpdmklbfbpdneaaGreat
open Go.RowKit
theorem fn_ne (f : FuncId) (w : World) : (binOp .neq 79 (.func (.func f) #[] #[]) .nilFunc).run Tryz.prog w = .ok (.bool true) w := by kernel_rfl
theorem fn_nil (w : World) : (binOp .neq 79 .nilFunc .nilFunc).run Tryz.prog w = .ok (.bool false) w := by kernel_rfl
set_option maxRecDepth 100000 in
set_option maxHeartbeats 400000 in
theorem fits_0 (s : ByteArray) (k l m : Int) (se co : Bool) (t : Tok) (w : World) : Calls Tryz.prog 155 #[.agg #[.string s, .nilFunc, .int .i64 k, .int .i64 l, .int .i64 m, .bool se, .bool co], .agg #[.int .i64 t.kind, .string t.lead, .string t.text]] w fun e w' => e = .returned (.bool (fitsB ⟨s, 0, k, l, m, se, co⟩ t)) ∧ Below w.heap.size w w' := by
  have HR := Lib.hid (show fitsB ⟨s, 0, k, l, m, se, co⟩ t = (s.toList == t.text.toList) from by unfold fitsB; rw [if_pos rfl]; unfold is; rw [ByteArray.toList_eq, ByteArray.toList_eq, Bool.eq_iff_iff]; simp only [beq_iff_eq]; exact eq_comm)
  have hn := fn_nil
  go_enter Tryz.func155, Tryz.ntmps155
  go_wp2
  go_ret
  exact ⟨by rw [HR.out]; rfl, ((Below.refl _ _).alloc (Nat.le_refl _) _).alloc (by simp) _⟩
set_option maxRecDepth 100000 in
set_option maxHeartbeats 400000 in
theorem fits_1 (s : ByteArray) (k l m : Int) (se co : Bool) (t : Tok) (w : World) : Calls Tryz.prog 155 #[.agg #[.string s, .func (.func 94) #[] #[], .int .i64 k, .int .i64 l, .int .i64 m, .bool se, .bool co], .agg #[.int .i64 t.kind, .string t.lead, .string t.text]] w fun e w' => e = .returned (.bool (fitsB ⟨s, 1, k, l, m, se, co⟩ t)) ∧ Below w.heap.size w w' := by
  have HR := Lib.hid (show fitsB ⟨s, 1, k, l, m, se, co⟩ t = nameB 1 t.kind t.text from by unfold fitsB; rw [if_neg (fun e : (1 : Nat) = 0 => absurd e (by decide))])
  have hn := fn_ne
  go_enter Tryz.func155, Tryz.ntmps155
  go_wp2_with (go_at_call 94; refine (upper_syn t _).mono ?_; rintro e w1 ⟨rfl, hb⟩; have HB := Lib.hid hb; clear hb)
  go_ret
  exact ⟨by rw [HR.out]; rfl, (((Below.refl _ _).alloc (Nat.le_refl _) _).alloc (by simp) _).trans (HB.out.mono (by simp; omega))⟩
set_option maxRecDepth 100000 in
set_option maxHeartbeats 400000 in
theorem fits_2 (s : ByteArray) (k l m : Int) (se co : Bool) (t : Tok) (w : World) : Calls Tryz.prog 155 #[.agg #[.string s, .func (.func 96) #[] #[], .int .i64 k, .int .i64 l, .int .i64 m, .bool se, .bool co], .agg #[.int .i64 t.kind, .string t.lead, .string t.text]] w fun e w' => e = .returned (.bool (fitsB ⟨s, 2, k, l, m, se, co⟩ t)) ∧ Below w.heap.size w w' := by
  have HR := Lib.hid (show fitsB ⟨s, 2, k, l, m, se, co⟩ t = nameB 2 t.kind t.text from by unfold fitsB; rw [if_neg (fun e : (2 : Nat) = 0 => absurd e (by decide))])
  have hn := fn_ne
  go_enter Tryz.func155, Tryz.ntmps155
  go_wp2_with (go_at_call 96; refine (lower_syn t _).mono ?_; rintro e w1 ⟨rfl, hb⟩; have HB := Lib.hid hb; clear hb)
  go_ret
  exact ⟨by rw [HR.out]; rfl, (((Below.refl _ _).alloc (Nat.le_refl _) _).alloc (by simp) _).trans (HB.out.mono (by simp; omega))⟩
set_option maxRecDepth 100000 in
set_option maxHeartbeats 400000 in
theorem fits_3 (s : ByteArray) (k l m : Int) (se co : Bool) (t : Tok) (w : World) : Calls Tryz.prog 155 #[.agg #[.string s, .func (.func 98) #[] #[], .int .i64 k, .int .i64 l, .int .i64 m, .bool se, .bool co], .agg #[.int .i64 t.kind, .string t.lead, .string t.text]] w fun e w' => e = .returned (.bool (fitsB ⟨s, 3, k, l, m, se, co⟩ t)) ∧ Below w.heap.size w w' := by
  have HR := Lib.hid (show fitsB ⟨s, 3, k, l, m, se, co⟩ t = nameB 3 t.kind t.text from by unfold fitsB; rw [if_neg (fun e : (3 : Nat) = 0 => absurd e (by decide))])
  have hn := fn_ne
  go_enter Tryz.func155, Tryz.ntmps155
  go_wp2_with (go_at_call 98; refine (reference_syn t _).mono ?_; rintro e w1 ⟨rfl, hb⟩; have HB := Lib.hid hb; clear hb)
  go_ret
  exact ⟨by rw [HR.out]; rfl, (((Below.refl _ _).alloc (Nat.le_refl _) _).alloc (by simp) _).trans (HB.out.mono (by simp; omega))⟩
set_option maxRecDepth 100000 in
set_option maxHeartbeats 400000 in
theorem fits_4 (s : ByteArray) (k l m : Int) (se co : Bool) (t : Tok) (w : World) : Calls Tryz.prog 155 #[.agg #[.string s, .func (.func 136) #[] #[], .int .i64 k, .int .i64 l, .int .i64 m, .bool se, .bool co], .agg #[.int .i64 t.kind, .string t.lead, .string t.text]] w fun e w' => e = .returned (.bool (fitsB ⟨s, 4, k, l, m, se, co⟩ t)) ∧ Below w.heap.size w w' := by
  have HR := Lib.hid (show fitsB ⟨s, 4, k, l, m, se, co⟩ t = nameB 4 t.kind t.text from by unfold fitsB; rw [if_neg (fun e : (4 : Nat) = 0 => absurd e (by decide))])
  have hn := fn_ne
  go_enter Tryz.func155, Tryz.ntmps155
  go_wp2_with (go_at_call 136; refine (callee_syn t _).mono ?_; rintro e w1 ⟨rfl, hb⟩; have HB := Lib.hid hb; clear hb)
  go_ret
  exact ⟨by rw [HR.out]; rfl, (((Below.refl _ _).alloc (Nat.le_refl _) _).alloc (by simp) _).trans (HB.out.mono (by simp; omega))⟩
set_option maxRecDepth 100000 in
set_option maxHeartbeats 400000 in
theorem fits_5 (s : ByteArray) (k l m : Int) (se co : Bool) (t : Tok) (w : World) : Calls Tryz.prog 155 #[.agg #[.string s, .func (.func 134) #[] #[], .int .i64 k, .int .i64 l, .int .i64 m, .bool se, .bool co], .agg #[.int .i64 t.kind, .string t.lead, .string t.text]] w fun e w' => e = .returned (.bool (fitsB ⟨s, 5, k, l, m, se, co⟩ t)) ∧ Below w.heap.size w w' := by
  have HR := Lib.hid (show fitsB ⟨s, 5, k, l, m, se, co⟩ t = nameB 5 t.kind t.text from by unfold fitsB; rw [if_neg (fun e : (5 : Nat) = 0 => absurd e (by decide))])
  have hn := fn_ne
  go_enter Tryz.func155, Tryz.ntmps155
  go_wp2_with (go_at_call 134; refine (number_syn t _).mono ?_; rintro e w1 ⟨rfl, hb⟩; have HB := Lib.hid hb; clear hb)
  go_ret
  exact ⟨by rw [HR.out]; rfl, (((Below.refl _ _).alloc (Nat.le_refl _) _).alloc (by simp) _).trans (HB.out.mono (by simp; omega))⟩
set_option maxRecDepth 100000 in
set_option maxHeartbeats 400000 in
theorem fits_6 (s : ByteArray) (k l m : Int) (se co : Bool) (t : Tok) (w : World) : Calls Tryz.prog 155 #[.agg #[.string s, .func (.func 135) #[] #[], .int .i64 k, .int .i64 l, .int .i64 m, .bool se, .bool co], .agg #[.int .i64 t.kind, .string t.lead, .string t.text]] w fun e w' => e = .returned (.bool (fitsB ⟨s, 6, k, l, m, se, co⟩ t)) ∧ Below w.heap.size w w' := by
  have HR := Lib.hid (show fitsB ⟨s, 6, k, l, m, se, co⟩ t = nameB 6 t.kind t.text from by unfold fitsB; rw [if_neg (fun e : (6 : Nat) = 0 => absurd e (by decide))])
  have hn := fn_ne
  go_enter Tryz.func155, Tryz.ntmps155
  go_wp2_with (go_at_call 135; refine (quoted_syn t _).mono ?_; rintro e w1 ⟨rfl, hb⟩; have HB := Lib.hid hb; clear hb)
  go_ret
  exact ⟨by rw [HR.out]; rfl, (((Below.refl _ _).alloc (Nat.le_refl _) _).alloc (by simp) _).trans (HB.out.mono (by simp; omega))⟩
set_option maxRecDepth 100000 in
set_option maxHeartbeats 400000 in
theorem fits_7 (s : ByteArray) (k l m : Int) (se co : Bool) (t : Tok) (w : World) : Calls Tryz.prog 155 #[.agg #[.string s, .func (.func 137) #[] #[], .int .i64 k, .int .i64 l, .int .i64 m, .bool se, .bool co], .agg #[.int .i64 t.kind, .string t.lead, .string t.text]] w fun e w' => e = .returned (.bool (fitsB ⟨s, 7, k, l, m, se, co⟩ t)) ∧ Below w.heap.size w w' := by
  have HR := Lib.hid (show fitsB ⟨s, 7, k, l, m, se, co⟩ t = opB t.text from by unfold fitsB; rw [if_neg (fun e : (7 : Nat) = 0 => absurd e (by decide))]; rfl)
  have hn := fn_ne
  go_enter Tryz.func155, Tryz.ntmps155
  go_wp2_with (go_at_call 137; refine (operator_syn t _).mono ?_; rintro e w1 ⟨rfl, hb⟩; have HB := Lib.hid hb; clear hb)
  go_ret
  exact ⟨by rw [HR.out]; rfl, (((Below.refl _ _).alloc (Nat.le_refl _) _).alloc (by simp) _).trans (HB.out.mono (by simp; omega))⟩
theorem fits_syn (x : Part) (hx : x.nm ≤ 7) (t : Tok) (w : World) : Calls Tryz.prog 155 #[.agg #[.string x.word, fnV x.nm, .int .i64 x.kids, .int .i64 x.least, .int .i64 x.most, .bool x.series, .bool x.commas], .agg #[.int .i64 t.kind, .string t.lead, .string t.text]] w fun e w' => e = .returned (.bool (fitsB x t)) ∧ Below w.heap.size w w' := by
  obtain ⟨s, n, k, l, m, se, co⟩ := x
  match n, hx with
  | 0, _ => exact fits_0 s k l m se co t w
  | 1, _ => exact fits_1 s k l m se co t w
  | 2, _ => exact fits_2 s k l m se co t w
  | 3, _ => exact fits_3 s k l m se co t w
  | 4, _ => exact fits_4 s k l m se co t w
  | 5, _ => exact fits_5 s k l m se co t w
  | 6, _ => exact fits_6 s k l m se co t w
  | 7, _ => exact fits_7 s k l m se co t w
  | n + 8, h => exact absurd h (by show ¬ n + 8 ≤ 7; omega)
end Go.Proofs.YtpdmklbfbpdneaaGreat
