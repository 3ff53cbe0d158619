/- The contract of the reference's Fuses: it answers as lex.Fuses does. Condition: lengths that a machine can hold, together. -/
import Derived.Test.YtpdmklbfbpdneaaGreatLexFuses
import Derived.Test.YtpdmklbfbpdneaaGreatLexRClass
namespace Go.Proofs.YtpdmklbfbpdneaaGreat
open Go.RowKit
theorem same_two {k0 k1 : Int} {l0 x0 l1 x1 a b : ByteArray} (h : sameB [⟨k0, l0, x0⟩, ⟨k1, l1, x1⟩] (twoToks a b) = true) : bl l0 = [] ∧ bl x0 = bl a ∧ bl l1 = [] ∧ bl x1 = bl b := by
  simp only [twoToks, sameB, tokEq, Bool.and_eq_true, beq_iff_eq, Bool.and_true] at h
  obtain ⟨⟨⟨_, h1⟩, h2⟩, ⟨_, h3⟩, h4⟩ := h
  simp only [← suf_zero] at h1 h2 h3 h4
  exact ⟨h1, h2, h3, h4⟩
theorem fuses_open {a b : ByteArray} (h1 : classN (suf a 0) ≠ 0) (h2 : classN (suf b 0) ≠ 0) : fusesB a b = !sameB (scanR (a ++ b)).toks (twoToks a b) := by
  unfold fusesB
  simp [h1, h2]
section
variable {a b : ByteArray} (h1 : classN (suf a 0) ≠ 0) (h2 : classN (suf b 0) ≠ 0)
include h1 h2
theorem fuses_err (he : (scanR (a ++ b)).e ≠ 0) : fusesB a b = true := by
  rw [fuses_open h1 h2, ((scanR_good (a ++ b)).2 he).1]
  rfl
theorem fuses_len (hl : (scanR (a ++ b)).toks.length ≠ 2) : fusesB a b = true := by
  rw [fuses_open h1 h2, sameB_length (by simpa [twoToks] using hl)]
  rfl
variable {k0 k1 : Int} {l0 x0 l1 x1 : ByteArray} (ht : (scanR (a ++ b)).toks = [⟨k0, l0, x0⟩, ⟨k1, l1, x1⟩])
include ht
theorem fuses_not (h : ¬ (bl l0 = [] ∧ bl x0 = bl a ∧ bl l1 = [] ∧ bl x1 = bl b)) : fusesB a b = true := by
  rw [fuses_open h1 h2, ht]
  cases hs : sameB [⟨k0, l0, x0⟩, ⟨k1, l1, x1⟩] (twoToks a b)
  · rfl
  · exact absurd (same_two hs) h
theorem fuses_tail (he : (scanR (a ++ b)).e = 0) (h : bl (scanR (a ++ b)).tail ≠ []) : fusesB a b = true := by
  refine fuses_not h1 h2 ht (fun ⟨g1, g2, g3, g4⟩ => h ?_)
  have hj := ((scanR_good (a ++ b)).1 he).2.1
  rw [ht] at hj
  unfold joinL at hj
  rw [List.flatMap_cons, List.flatMap_cons, List.flatMap_nil] at hj
  simp only [g1, g2, g3, g4, bl_append, List.nil_append, List.append_nil] at hj
  exact List.append_cancel_left (by rw [hj, List.append_nil] : (bl a ++ bl b) ++ bl (scanR (a ++ b)).tail = (bl a ++ bl b) ++ [])
theorem fuses_yes (he : (scanR (a ++ b)).e = 0) (h : bl l0 = [] ∧ bl x0 = bl a ∧ bl l1 = [] ∧ bl x1 = bl b) : fusesB a b = false := by
  have hg := ((scanR_good (a ++ b)).1 he).1
  rw [ht] at hg
  have q0 := (hg ⟨k0, l0, x0⟩ (by simp)).1
  have q1 := (hg ⟨k1, l1, x1⟩ (by simp)).1
  obtain ⟨g1, g2, g3, g4⟩ := h
  simp only [g2, g4] at q0 q1
  have e0 : bl ByteArray.empty = [] := rfl
  rw [fuses_open h1 h2, ht]
  simp only [twoToks, sameB, tokEq, ← suf_zero, Bool.and_true]
  change (!((k0 == (classN (bl a) : Int) && bl l0 == bl ByteArray.empty && bl x0 == bl a) && (k1 == (classN (bl b) : Int) && bl l1 == bl ByteArray.empty && bl x1 == bl b))) = false
  rw [g1, g2, g3, g4, e0, q0, q1]
  simp
end
theorem nil_yes {x : ByteArray} (h : bl x = []) : x.toList.isEmpty = true := by rw [← suf_zero]; unfold bl at h; rw [h]; rfl
theorem nil_no {x : ByteArray} (h : bl x ≠ []) : x.toList.isEmpty = false := by rw [← suf_zero]; unfold bl at h; simpa using h
theorem eq_yes {x y : ByteArray} (h : bl x = bl y) : (x.toList == y.toList) = true := by rw [← suf_zero, ← suf_zero]; unfold bl at h; simpa using h
theorem eq_no {x y : ByteArray} (h : bl x ≠ bl y) : (x.toList == y.toList) = false := by rw [← suf_zero, ← suf_zero]; unfold bl at h; simpa using h
theorem scan_two (s : ByteArray) (w : World) (hs : s.size ≤ maxLen) {k0 k1 : Int} {l0 x0 l1 x1 : ByteArray} (ht : (scanR s).toks = [⟨k0, l0, x0⟩, ⟨k1, l1, x1⟩]) :
    Calls Tryz.prog 112 #[.string s] w fun e w' => ∃ g c, e = .returned (.tuple #[.slice (some ⟨g, 0, none⟩) 2 c, .string (scanR s).tail, .int .i64 (scanR s).place, .int .i64 (scanR s).e]) ∧ Below w.heap.size w w' ∧
      w'.cell? ⟨g, 0, none⟩ = some (.int .i64 k0) ∧ w'.cell? ⟨g, 1, none⟩ = some (.string l0) ∧ w'.cell? ⟨g, 2, none⟩ = some (.string x0) ∧ w'.cell? ⟨g, 3, none⟩ = some (.int .i64 k1) ∧ w'.cell? ⟨g, 4, none⟩ = some (.string l1) ∧ w'.cell? ⟨g, 5, none⟩ = some (.string x1) := by
  refine (rScan_any s w hs).mono fun e w' h => ?_
  obtain ⟨v, he, ho, hb⟩ := h
  rw [ht] at ho
  obtain ⟨g, c, hv, _, _⟩ := World.ownsRow.form ho (by simp)
  subst hv
  have hc := World.ownsRow.cells (g := g) ho rfl
  exact ⟨g, c, he, hb, hc 0 _ rfl, hc 1 _ rfl, hc 2 _ rfl, hc 3 _ rfl, hc 4 _ rfl, hc 5 _ rfl⟩
set_option maxHeartbeats 4000000 in
theorem rfuses_any (a b : ByteArray) (w : World) (hs : a.size + b.size < maxLen) :
    Calls Tryz.prog 73 #[.string a, .string b] w fun e w' => e = .returned (.bool (fusesB a b)) ∧ Below w.heap.size w w' := by
  have HA := Lib.hid (show a.size < maxLen from by omega)
  have HB := Lib.hid (show b.size < maxLen from by omega)
  have HS := Lib.hid (show (a ++ b).size ≤ maxLen from by rw [ByteArray.size_append]; omega)
  unfold maxLen at hs
  by_cases h1 : classN (suf a 0) = 0
  · have h1' : (((classN (suf a 0) : Nat) : Int) == 0) = true := by simp [h1]
    have HF := Lib.hid (show fusesB a b = false from by unfold fusesB; simp [h1])
    clear h1
    go_enter Tryz.func73, Tryz.ntmps73
    go_wp2_with (go_at_call 102; ((with_reducible refine (rclass_any a _ HA.out).mono ?_); rintro e w1 ⟨rfl, hb1⟩; have W1 := Lib.hid hb1; clear hb1))
    go_ret
    exact ⟨ret_bool HF.out.symm, W1.out⟩
  · by_cases h2 : classN (suf b 0) = 0
    · have h1' : (((classN (suf a 0) : Nat) : Int) == 0) = false := by simp; omega
      have h2' : (((classN (suf b 0) : Nat) : Int) == 0) = true := by simp [h2]
      have HF := Lib.hid (show fusesB a b = false from by unfold fusesB; simp [h2])
      clear h1 h2
      go_enter Tryz.func73, Tryz.ntmps73
      go_wp2_with (first | (go_at_call 102; ((with_reducible refine (rclass_any a _ HA.out).mono ?_); rintro e w1 ⟨rfl, hb1⟩; have W1 := Lib.hid hb1; clear hb1)) | (go_at_call 102; ((with_reducible refine (rclass_any b _ HB.out).mono ?_); rintro e w2 ⟨rfl, hb2⟩; have W2 := Lib.hid hb2; clear hb2)))
      go_ret
      exact ⟨ret_bool HF.out.symm, W1.out.trans (W2.out.mono W1.out.size)⟩
    · have h1' : (((classN (suf a 0) : Nat) : Int) == 0) = false := by simp; omega
      have h2' : (((classN (suf b 0) : Nat) : Int) == 0) = false := by simp; omega
      have H1 := Lib.hid h1
      have H2 := Lib.hid h2
      clear h1 h2
      by_cases he : (scanR (a ++ b)).e = 0
      · have HE := Lib.hid he
        have he' : ((((scanR (a ++ b)).e : Nat) : Int) != 0) = false := by simp [he]
        clear he
        by_cases hl : (scanR (a ++ b)).toks.length = 2
        · obtain ⟨⟨k0, l0, x0⟩, ⟨k1, l1, x1⟩, ht⟩ : ∃ t u, (scanR (a ++ b)).toks = [t, u] := by
            match h : (scanR (a ++ b)).toks, hl with
            | [t, u], _ => exact ⟨t, u, rfl⟩
          have HT := Lib.hid ht
          clear hl ht
          by_cases ht0 : bl (scanR (a ++ b)).tail = []
          · have gt := nil_yes ht0
            by_cases hx0 : bl x0 = bl a
            · have gx0 := eq_yes hx0
              by_cases hl0 : bl l0 = []
              · have gl0 := nil_yes hl0
                by_cases hx1 : bl x1 = bl b
                · have gx1 := eq_yes hx1
                  by_cases hl1 : bl l1 = []
                  · have gl1 := nil_yes hl1
                    have HF := Lib.hid (fuses_yes H1.out H2.out HT.out HE.out ⟨hl0, hx0, hl1, hx1⟩)
                    go_enter Tryz.func73, Tryz.ntmps73
                    go_wp2_with (first | (go_at_call 102; ((with_reducible refine (rclass_any a _ HA.out).mono ?_); rintro e w1 ⟨rfl, hb1⟩; have W1 := Lib.hid hb1; clear hb1)) | (go_at_call 102; ((with_reducible refine (rclass_any b _ HB.out).mono ?_); rintro e w2 ⟨rfl, hb2⟩; have W2 := Lib.hid hb2; clear hb2)) | (go_at_call 112; refine (scan_two (a ++ b) _ HS.out HT.out).mono ?_; rintro e w3 ⟨g, c, rfl, hb3, c0, c1, c2, c3, c4, c5⟩; have W3 := Lib.hid hb3; clear hb3))
                    go_ret
                    exact ⟨ret_bool HF.out.symm, (W1.out.trans (W2.out.mono W1.out.size)).trans (W3.out.mono (Nat.le_trans W1.out.size W2.out.size))⟩
                  · have gl1 := nil_no hl1
                    have HF := Lib.hid (fuses_not H1.out H2.out HT.out (fun h => hl1 h.2.2.1))
                    go_enter Tryz.func73, Tryz.ntmps73
                    go_wp2_with (first | (go_at_call 102; ((with_reducible refine (rclass_any a _ HA.out).mono ?_); rintro e w1 ⟨rfl, hb1⟩; have W1 := Lib.hid hb1; clear hb1)) | (go_at_call 102; ((with_reducible refine (rclass_any b _ HB.out).mono ?_); rintro e w2 ⟨rfl, hb2⟩; have W2 := Lib.hid hb2; clear hb2)) | (go_at_call 112; refine (scan_two (a ++ b) _ HS.out HT.out).mono ?_; rintro e w3 ⟨g, c, rfl, hb3, c0, c1, c2, c3, c4, c5⟩; have W3 := Lib.hid hb3; clear hb3))
                    go_ret
                    exact ⟨ret_bool HF.out.symm, (W1.out.trans (W2.out.mono W1.out.size)).trans (W3.out.mono (Nat.le_trans W1.out.size W2.out.size))⟩
                · have gx1 := eq_no hx1
                  have HF := Lib.hid (fuses_not H1.out H2.out HT.out (fun h => hx1 h.2.2.2))
                  go_enter Tryz.func73, Tryz.ntmps73
                  go_wp2_with (first | (go_at_call 102; ((with_reducible refine (rclass_any a _ HA.out).mono ?_); rintro e w1 ⟨rfl, hb1⟩; have W1 := Lib.hid hb1; clear hb1)) | (go_at_call 102; ((with_reducible refine (rclass_any b _ HB.out).mono ?_); rintro e w2 ⟨rfl, hb2⟩; have W2 := Lib.hid hb2; clear hb2)) | (go_at_call 112; refine (scan_two (a ++ b) _ HS.out HT.out).mono ?_; rintro e w3 ⟨g, c, rfl, hb3, c0, c1, c2, c3, c4, c5⟩; have W3 := Lib.hid hb3; clear hb3))
                  go_ret
                  exact ⟨ret_bool HF.out.symm, (W1.out.trans (W2.out.mono W1.out.size)).trans (W3.out.mono (Nat.le_trans W1.out.size W2.out.size))⟩
              · have gl0 := nil_no hl0
                have HF := Lib.hid (fuses_not H1.out H2.out HT.out (fun h => hl0 h.1))
                go_enter Tryz.func73, Tryz.ntmps73
                go_wp2_with (first | (go_at_call 102; ((with_reducible refine (rclass_any a _ HA.out).mono ?_); rintro e w1 ⟨rfl, hb1⟩; have W1 := Lib.hid hb1; clear hb1)) | (go_at_call 102; ((with_reducible refine (rclass_any b _ HB.out).mono ?_); rintro e w2 ⟨rfl, hb2⟩; have W2 := Lib.hid hb2; clear hb2)) | (go_at_call 112; refine (scan_two (a ++ b) _ HS.out HT.out).mono ?_; rintro e w3 ⟨g, c, rfl, hb3, c0, c1, c2, c3, c4, c5⟩; have W3 := Lib.hid hb3; clear hb3))
                go_ret
                exact ⟨ret_bool HF.out.symm, (W1.out.trans (W2.out.mono W1.out.size)).trans (W3.out.mono (Nat.le_trans W1.out.size W2.out.size))⟩
            · have gx0 := eq_no hx0
              have HF := Lib.hid (fuses_not H1.out H2.out HT.out (fun h => hx0 h.2.1))
              go_enter Tryz.func73, Tryz.ntmps73
              go_wp2_with (first | (go_at_call 102; ((with_reducible refine (rclass_any a _ HA.out).mono ?_); rintro e w1 ⟨rfl, hb1⟩; have W1 := Lib.hid hb1; clear hb1)) | (go_at_call 102; ((with_reducible refine (rclass_any b _ HB.out).mono ?_); rintro e w2 ⟨rfl, hb2⟩; have W2 := Lib.hid hb2; clear hb2)) | (go_at_call 112; refine (scan_two (a ++ b) _ HS.out HT.out).mono ?_; rintro e w3 ⟨g, c, rfl, hb3, c0, c1, c2, c3, c4, c5⟩; have W3 := Lib.hid hb3; clear hb3))
              go_ret
              exact ⟨ret_bool HF.out.symm, (W1.out.trans (W2.out.mono W1.out.size)).trans (W3.out.mono (Nat.le_trans W1.out.size W2.out.size))⟩
          · have gt := nil_no ht0
            have HF := Lib.hid (fuses_tail H1.out H2.out HT.out HE.out ht0)
            go_enter Tryz.func73, Tryz.ntmps73
            go_wp2_with (first | (go_at_call 102; ((with_reducible refine (rclass_any a _ HA.out).mono ?_); rintro e w1 ⟨rfl, hb1⟩; have W1 := Lib.hid hb1; clear hb1)) | (go_at_call 102; ((with_reducible refine (rclass_any b _ HB.out).mono ?_); rintro e w2 ⟨rfl, hb2⟩; have W2 := Lib.hid hb2; clear hb2)) | (go_at_call 112; refine (scan_two (a ++ b) _ HS.out HT.out).mono ?_; rintro e w3 ⟨g, c, rfl, hb3, c0, c1, c2, c3, c4, c5⟩; have W3 := Lib.hid hb3; clear hb3))
            go_ret
            exact ⟨ret_bool HF.out.symm, (W1.out.trans (W2.out.mono W1.out.size)).trans (W3.out.mono (Nat.le_trans W1.out.size W2.out.size))⟩
        · have hl' : ((((scanR (a ++ b)).toks.length : Nat) : Int) != 2) = true := by simp; omega
          have HF := Lib.hid (fuses_len H1.out H2.out hl)
          clear hl
          go_enter Tryz.func73, Tryz.ntmps73
          go_wp2_with (first | (go_at_call 102; ((with_reducible refine (rclass_any a _ HA.out).mono ?_); rintro e w1 ⟨rfl, hb1⟩; have W1 := Lib.hid hb1; clear hb1)) | (go_at_call 102; ((with_reducible refine (rclass_any b _ HB.out).mono ?_); rintro e w2 ⟨rfl, hb2⟩; have W2 := Lib.hid hb2; clear hb2)) | (go_at_call 112; refine (rScan_any (a ++ b) _ HS.out).mono ?_; rintro e w3 ⟨v, rfl, ho, hb3⟩; obtain ⟨A, c, rfl⟩ := own_shape ho; have HO := Lib.hid ho; have W3 := Lib.hid hb3; clear ho hb3))
          go_ret
          exact ⟨ret_bool HF.out.symm, (W1.out.trans (W2.out.mono W1.out.size)).trans (W3.out.mono (Nat.le_trans W1.out.size W2.out.size))⟩
      · have he' : ((((scanR (a ++ b)).e : Nat) : Int) != 0) = true := by simp; omega
        have HF := Lib.hid (fuses_err H1.out H2.out he)
        clear he
        go_enter Tryz.func73, Tryz.ntmps73
        go_wp2_with (first | (go_at_call 102; ((with_reducible refine (rclass_any a _ HA.out).mono ?_); rintro e w1 ⟨rfl, hb1⟩; have W1 := Lib.hid hb1; clear hb1)) | (go_at_call 102; ((with_reducible refine (rclass_any b _ HB.out).mono ?_); rintro e w2 ⟨rfl, hb2⟩; have W2 := Lib.hid hb2; clear hb2)) | (go_at_call 112; refine (rScan_any (a ++ b) _ HS.out).mono ?_; rintro e w3 ⟨v, rfl, ho, hb3⟩; obtain ⟨A, c, rfl⟩ := own_shape ho; have HO := Lib.hid ho; have W3 := Lib.hid hb3; clear ho hb3))
        go_ret
        exact ⟨ret_bool HF.out.symm, (W1.out.trans (W2.out.mono W1.out.size)).trans (W3.out.mono (Nat.le_trans W1.out.size W2.out.size))⟩
end Go.Proofs.YtpdmklbfbpdneaaGreat
