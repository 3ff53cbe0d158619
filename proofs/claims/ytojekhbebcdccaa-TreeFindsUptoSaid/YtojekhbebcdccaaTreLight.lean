/- The contract of light of stage 3, and what the laws of it share. -/
import Derived.Test.YtojekhbebcdccaaTreOpen
import Derived.Test.YtojekhbebcdccaaTreRSame
namespace Go.Proofs.Ytojekhbebcdccaa
open Go.RowKit Go.Shelf
mutual
theorem fit_small : (t : Tr) → fitT t = true → smallT t = true
  | .mk _ _ ls ks, h => by
    rw [fitT] at h
    simp only [Bool.and_eq_true, decide_eq_true_eq] at h
    rw [smallT, fitL_small ks h.2, decide_eq_true (by omega), decide_eq_true (by omega)]
    rfl
theorem fitL_small : (l : List Tr) → fitL l = true → smallL l = true
  | [], _ => by rw [smallL]
  | t :: r, h => by
    rw [fitL, Bool.and_eq_true] at h
    rw [smallL, fit_small t h.1, fitL_small r h.2]
    rfl
end
theorem textsEq_self : (l : List ByteArray) → textsEq l l = true
  | [] => rfl
  | a :: r => by rw [textsEq_cons, textsEq_self r]; simp
mutual
theorem sameT_self : (t : Tr) → sameT t t = true
  | .mk k x ls ks => by rw [sameT, sameL_self ks, textsEq_self]; simp
theorem sameL_self : (l : List Tr) → sameL l l = true
  | [] => by rw [sameL]
  | t :: r => by rw [sameL, sameT_self t, sameL_self r]; rfl
end
theorem fit_get {t : Tr} {zs : List Int} (h : fitT t = true) : fitT ((findT t zs).getD noTr) = true := by
  cases hf : findT t zs with
  | none => rfl
  | some u => exact (fit_find zs t u h hf).1
set_option maxRecDepth 100000 in
set_option maxHeartbeats 1000000 in
theorem light_any (S : Nat → Prop) (t : Tr) (v : TV) (A : Option Addr) (c n : Nat) (w : World) (h : TrAt S w t v) (hs : sizeT t ≤ 140737488355328) :
    Calls Try.prog 9 #[.agg #[.int .i64 v.kind, .string v.text, .slice v.la v.ll v.lc, .slice v.ka v.kl v.kc], .slice A n c] w fun e w' => e = .returned (.bool (decide (sizeT t ≤ 300) && decide (n ≤ 100))) ∧ Below w.heap.size w w' := by
  have HB0 := Lib.hid ((Below.refl w.heap.size w).alloc (Nat.le_refl _) (trO v))
  have HT := Lib.hid (h.keep HB0.out)
  have HX := Lib.hid (heap_alloc_new w (trO v))
  have HS := Lib.hid hs
  have k0 := cells_of HX.out 0 _ rfl
  have k1 := cells_of HX.out 1 _ rfl
  have k2 := cells_of HX.out 2 _ rfl
  have k3 := cells_of HX.out 3 _ rfl
  clear h hs
  by_cases h1 : sizeT t ≤ 300
  · by_cases h2 : n ≤ 100
    · have d1 := decide_eq_true h1
      have d2 := decide_eq_true h2
      have HR := Lib.hid (show (decide (sizeT t ≤ 300) && decide (n ≤ 100)) = true from by rw [d1, d2]; rfl)
      go_enter Try.func9, Try.ntmps9
      go_wp2_with (go_at_call 12; refine (rsize_any (SizeOf.sizeOf t) S t v _ (Nat.le_refl _) HT.out HS.out).mono ?_; rintro e w2 ⟨rfl, hb2⟩; have HB2 := Lib.hid (HB0.out.trans (hb2.mono HB0.out.size)); clear hb2)
      go_ret
      exact ⟨ret_bool (by first | (rw [HR.out]; done) | (rw [HR.out]; exact decide_eq_true (by omega)) | (rw [HR.out]; exact decide_eq_false (by omega)) | (simp [d1]; done) | (simp [h1]; done) | (simp; omega)), HB2.out⟩
    · have d1 := decide_eq_true h1
      have d2 := decide_eq_false h2
      have HR := Lib.hid (show (decide (sizeT t ≤ 300) && decide (n ≤ 100)) = false from by rw [d1, d2]; rfl)
      go_enter Try.func9, Try.ntmps9
      go_wp2_with (go_at_call 12; refine (rsize_any (SizeOf.sizeOf t) S t v _ (Nat.le_refl _) HT.out HS.out).mono ?_; rintro e w2 ⟨rfl, hb2⟩; have HB2 := Lib.hid (HB0.out.trans (hb2.mono HB0.out.size)); clear hb2)
      go_ret
      exact ⟨ret_bool (by first | (rw [HR.out]; done) | (rw [HR.out]; exact decide_eq_true (by omega)) | (rw [HR.out]; exact decide_eq_false (by omega)) | (simp [d1]; done) | (simp [h1]; done) | (simp; omega)), HB2.out⟩
  · have d1 := decide_eq_false h1
    have HR := Lib.hid (show (decide (sizeT t ≤ 300) && decide (n ≤ 100)) = false from by rw [d1]; rfl)
    go_enter Try.func9, Try.ntmps9
    go_wp2_with (go_at_call 12; refine (rsize_any (SizeOf.sizeOf t) S t v _ (Nat.le_refl _) HT.out HS.out).mono ?_; rintro e w2 ⟨rfl, hb2⟩; have HB2 := Lib.hid (HB0.out.trans (hb2.mono HB0.out.size)); clear hb2)
    go_ret
    exact ⟨ret_bool (by first | (rw [HR.out]; done) | (rw [HR.out]; exact decide_eq_true (by omega)) | (rw [HR.out]; exact decide_eq_false (by omega)) | (simp; done)), HB2.out⟩
end Go.Proofs.Ytojekhbebcdccaa
