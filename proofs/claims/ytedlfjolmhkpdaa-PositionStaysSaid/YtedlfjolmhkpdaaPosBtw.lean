/- The contract of Between. Condition: bounds of at most 2^47 - 4096 bytes. -/
import Derived.Test.YtedlfjolmhkpdaaPosEnds
import Derived.Outline
namespace Go.Proofs.Ytedlfjolmhkpdaa
open Go.RowKit
attribute [local go_sem 2000] str_gtr str_leq
theorem isBound_list (l : List UInt8) (w : World) (hs : l.length ≤ maxLen) : Calls Try.prog 25 #[.string (strL l)] w fun e w' => e = .returned (.bool (bndB l)) ∧ w = w' := by
  have h := isBound_any (strL l) w (by rw [strL_size]; exact hs)
  rw [strL_list] at h
  exact h
theorem valid_list (l : List UInt8) (w : World) (hs : l.length ≤ maxLen) : Calls Try.prog 14 #[.string (strL l)] w fun e w' => e = .returned (.bool (vldB l)) ∧ w = w' := by
  have h := valid_any (strL l) w (by rw [strL_size]; exact hs)
  rw [strL_list] at h
  exact h
theorem rvalid_list (l : List UInt8) (w : World) (hs : l.length ≤ maxLen) : Calls Try.prog 15 #[.string (strL l)] w fun e w' => e = .returned (.bool (vldB l)) ∧ w = w' := by
  have h := rvalid_any (strL l) w (by rw [strL_size]; exact hs)
  rw [strL_list] at h
  exact h
theorem BRow.form {w : World} {B : Nat} {v : Value} {l : List UInt8} (h : BRow w B v l) : ∃ A c, v = .slice A l.length c := by
  rcases h.1.2 with ⟨hv, h0⟩ | ⟨g, cap, cur, hv, _⟩
  · exact ⟨none, 0, by rw [hv, h0]⟩
  · exact ⟨_, cap, hv⟩
def BtwPost (lo hi : List UInt8) (w : World) (e : Ending) (w' : World) : Prop := e = .returned (.tuple #[.string (strL (betweenP lo hi).1), .int .i64 (betweenP lo hi).2]) ∧ Below w.heap.size w w'
theorem str_e {l : List UInt8} (h : l.isEmpty = true) : (strL l).toList.isEmpty = true ∧ (strL l).toList = [] := by
  rw [strL_toList]
  exact ⟨h, by simpa using h⟩
theorem str_f {l : List UInt8} (h : l.isEmpty = false) : (strL l).toList.isEmpty = false ∧ ¬ (strL l).toList = [] := by
  rw [strL_toList]
  exact ⟨h, by simpa using h⟩
theorem btw_arg {lo hi : List UInt8} (h : (bndB lo && bndB hi) = false) : betweenP lo hi = ([], 5) := by unfold betweenP; rw [if_pos h]
theorem btw_order {lo hi : List UInt8} (h1 : bndB lo = true) (h2 : bndB hi = true) (h : (!hi.isEmpty && !bl lo hi) = true) : betweenP lo hi = ([], 12) := by
  unfold betweenP
  rw [if_neg (by rw [h1, h2]; decide), if_pos h]
theorem btw_rest {lo hi : List UInt8} (h1 : bndB lo = true) (h2 : bndB hi = true) (h : (!hi.isEmpty && !bl lo hi) = false) : betweenP lo hi = match firstN lo hi 60 0 with | some k => (k, 0) | none => ([], 17) := by
  unfold betweenP
  rw [if_neg (by rw [h1, h2]; decide), if_neg (by rw [h]; decide)]
  cases firstN lo hi 60 0 <;> rfl
theorem first_next {lo hi : List UInt8} {n : Nat} (h : n < 60) (he : endsL (pfx lo n) lo hi = []) : firstN lo hi (60 - n) n = firstN lo hi (60 - (n + 1)) (n + 1) := by
  obtain ⟨f, hf⟩ : ∃ f, 60 - n = f + 1 := ⟨59 - n, by omega⟩
  rw [hf, firstN, if_pos he, show 60 - (n + 1) = f by omega]
theorem first_here {lo hi : List UInt8} {n : Nat} (h : n < 60) (he : endsL (pfx lo n) lo hi ≠ []) : firstN lo hi (60 - n) n = some (pfx lo n ++ [UInt8.ofNat ((endsL (pfx lo n) lo hi).getD (((endsL (pfx lo n) lo hi).length - 1) / 2) 0)]) := by
  obtain ⟨f, hf⟩ : ∃ f, 60 - n = f + 1 := ⟨59 - n, by omega⟩
  rw [hf, firstN, if_neg he]
def BtwRel (lo hi : List UInt8) (w : World) (i : Value) (wr : World) : Prop := ∃ n : Nat, n ≤ 60 ∧ i = .int .i64 (n : Int) ∧ firstN lo hi 60 0 = firstN lo hi (60 - n) n ∧ Below w.heap.size w wr
set_option maxHeartbeats 1000000 in
theorem between_loop (lo hi : List UInt8) (w : World) (b1 : bndB lo = true) (b2 : bndB hi = true) (ho : (!hi.isEmpty && !bl lo hi) = false) (hlo : lo.length ≤ maxLen) (hhi : hi.length ≤ maxLen) :
    Calls Try.prog 12 #[.string (strL lo), .string (strL hi)] w (BtwPost lo hi w) := by
  have HR := Lib.hid (btw_rest b1 b2 ho)
  have HC1 := Lib.hid (fun w => by have h := isBound_list lo w hlo; rw [b1] at h; exact h : ∀ w, Calls Try.prog 25 #[.string (strL lo)] w fun e w' => e = .returned (.bool true) ∧ w = w')
  have HC2 := Lib.hid (fun w => by have h := isBound_list hi w hhi; rw [b2] at h; exact h : ∀ w, Calls Try.prog 25 #[.string (strL hi)] w fun e w' => e = .returned (.bool true) ∧ w = w')
  obtain ⟨i0, hi0, hz0, hz1, hz2⟩ := info_parts byte_info
  cases e0 : hi.isEmpty
  · rw [e0, Bool.not_false, Bool.true_and, Bool.not_eq_false'] at ho
    have hg : Op.bytesLess (strL lo).toList (strL hi).toList = true := by rw [strL_toList, strL_toList]; exact ho
    obtain ⟨e1, e2⟩ := str_f e0
    clear ho e0 hlo hhi b1 b2
    go_enter Try.func12, Try.ntmps12
    go_wp2_with (first | (go_at_call 25; (with_reducible refine (HC1.out _).mono ?_); rintro e w' ⟨rfl, rfl⟩) | (go_at_call 25; (with_reducible refine (HC2.out _).mono ?_); rintro e w' ⟨rfl, rfl⟩))
    go_loopw [24] (fun i wr => BtwRel lo hi w i wr) (fun i _ => 60 - (intOf i).toNat)
    case atStart => exact ⟨0, by omega, rfl, rfl, Below.refl _ _⟩
    case round =>
      obtain ⟨n, hn, rfl, hrel, hbl⟩ := hrel
      have HREL := Lib.hid hrel
      have HBL := Lib.hid hbl
      clear hrel hbl e1 e2 hg
      by_cases hlt : n < 60
      · go_wp2_with fail
        refine (prefix_any lo n wr (by omega)).mono ?_
        rintro e w1 ⟨g, rfl, hg1, hat1, hbl1⟩
        have HAT := Lib.hid hat1
        have HBL1 := Lib.hid (HBL.out.trans (hbl1.mono HBL.out.size))
        have HG := Lib.hid hg1
        clear hat1 hbl1 hg1
        go_wp2_with fail
        have hen := endings_any (pfx lo n) lo hi g (n + 1) (n + 1) w1 HAT.out (by rw [pfx_len]; omega)
        rw [pfx_len] at hen
        refine hen.mono ?_
        rintro e w2 ⟨v2, rfl, hb2, hbl2⟩
        obtain ⟨es, hes⟩ : ∃ es, es = endsL (pfx lo n) lo hi := ⟨_, rfl⟩
        rw [← hes] at hb2
        obtain ⟨A2, c2, rfl⟩ := hb2.form
        have HB2 := Lib.hid hb2
        have HBL2 := Lib.hid hbl2
        have HES := Lib.hid hes
        have hl2 : es.length ≤ 25 := by rw [hes]; unfold endsL; exact Nat.le_trans (List.length_filter_le _ _) (by unfold upTo; simp)
        obtain ⟨m, hm⟩ : ∃ m, m = (es.map UInt8.ofNat).length := ⟨_, rfl⟩
        have hml : m = es.length := by rw [hm, List.length_map]
        have HML := Lib.hid hml
        have hm25 : m ≤ 25 := by omega
        have HM := Lib.hid hm
        rw [← hm]
        clear hb2 hbl2 hes hm hml hen
        by_cases h0 : 0 < m
        · obtain ⟨g2, c2', hv2, _, hat2⟩ := HB2.out.at (by rw [← HM.out]; exact h0)
          injection hv2 with hA2 _ hc2
          subst hA2 hc2
          obtain ⟨p, hp⟩ : ∃ p, p = (m - 1) / 2 := ⟨_, rfl⟩
          have hpm : p < m := by omega
          have hpi : ((m : Int) - 1) / 2 = (p : Int) := by omega
          obtain ⟨x, hx⟩ : ∃ x, x = UInt8.ofNat (es.getD p 0) := ⟨_, rfl⟩
          have hcell := hat2.cell (j := p) (x := x) (by
            have hpl : p < es.length := by rw [← HML.out]; exact hpm
            rw [List.getElem?_map, List.getElem?_eq_getElem hpl, hx, List.getD_eq_getElem?_getD, List.getElem?_eq_getElem hpl]
            rfl)
          have hne : es ≠ [] := by
            rintro rfl
            have h1 := HML.out
            simp at h1
            omega
          have HF := Lib.hid (show betweenP lo hi = (pfx lo n ++ [x], 0) by
            rw [HR.out, HREL.out, first_here hlt (by rw [← HES.out]; exact hne), hx, hp, HML.out, HES.out])
          have hrow := (HAT.out.below HBL2.out HAT.out.lt).row (B := w.heap.size) (Nat.le_trans HBL.out.size HG.out)
          have hpl := pfx_len lo n
          obtain ⟨P, hP⟩ : ∃ P, P = pfx lo n := ⟨_, rfl⟩
          rw [← hP] at hrow HF hpl
          have hR := hrow.1
          have hB2 := hrow.2
          rw [hpl] at hR
          have HROW := Lib.hid hR
          have HRB := Lib.hid hrow
          have HPL := Lib.hid hpl
          clear hR hrow hat2 hne hx hp hP hpl
          go_wp2_with (at_builtin; refine wpList_append_own _ rfl (.tmp 37) (.tmp 45) 39 rfl w.heap.size 5 i0 _ 1 1 Try.underlying39 hi0 hz0 hz1 hz2 rfl (by omega) (.slice (some ⟨g, 0, none⟩) n (n + 1)) n (bvs P) rfl (HROW.out.alloc _) ⟨w2.heap.size, 0, none⟩ 1 1 [.int .u8 (x.toNat : Int)] rfl rfl ?c1 ?c2 ?c3 ?c4 ?c5 ?_)
          case c1 => exact cell_one_new _ _ _
          case c2 => simp [Value.oneCell']
          case c3 => unfold maxLen; omega
          case c4 => omega
          case c5 => rw [World.size_alloc]; omega
          intro v5 w5 hown5 hg5 _
          have h5 := brow_grow (l := P) (c := x) (v := .slice (some ⟨g, 0, none⟩) n (n + 1)) (w := w2) (B := w.heap.size) (by have := HRB.out; rw [HPL.out] at this; exact this) (by rw [HPL.out]; exact hown5) hg5
          have hcv := conv_row h5.1 (by simp)
          have HB5 := Lib.hid h5.2
          clear h5 hown5 hg5
          go_wp2
          go_ret2
          exact ⟨ret_strnum (by rw [HF.out]) (by rw [HF.out]), (HBL1.out.trans (HBL2.out.mono HBL1.out.size)).trans HB5.out⟩
        · have hm0 : m = 0 := by omega
          have HNX := Lib.hid (first_next (lo := lo) (hi := hi) hlt (by rw [← HES.out]; exact List.eq_nil_of_length_eq_zero (by rw [← HML.out, hm0])))
          clear hm0
          go_wp2
          go_roundw
          case rel => exact ⟨n + 1, by omega, by go_num, HREL.out.trans HNX.out, HBL1.out.trans (HBL2.out.mono HBL1.out.size)⟩
          case measure => simp [intOf]; omega
      · have hn60 : n = 60 := by omega
        have HF := Lib.hid (show firstN lo hi 60 0 = none by rw [HREL.out, hn60]; rfl)
        clear hn60
        go_wp2
        go_ret2
        exact ⟨ret_strnum (by rw [HR.out, HF.out]; rfl) (by rw [HR.out, HF.out]), HBL.out⟩
  · obtain ⟨e1, e2⟩ := str_e e0
    clear ho e0 hlo hhi b1 b2
    go_enter Try.func12, Try.ntmps12
    go_wp2_with (first | (go_at_call 25; (with_reducible refine (HC1.out _).mono ?_); rintro e w' ⟨rfl, rfl⟩) | (go_at_call 25; (with_reducible refine (HC2.out _).mono ?_); rintro e w' ⟨rfl, rfl⟩))
    go_loopw [24] (fun i wr => BtwRel lo hi w i wr) (fun i _ => 60 - (intOf i).toNat)
    case atStart => exact ⟨0, by omega, rfl, rfl, Below.refl _ _⟩
    case round =>
      obtain ⟨n, hn, rfl, hrel, hbl⟩ := hrel
      have HREL := Lib.hid hrel
      have HBL := Lib.hid hbl
      clear hrel hbl e1 e2
      by_cases hlt : n < 60
      · go_wp2_with fail
        refine (prefix_any lo n wr (by omega)).mono ?_
        rintro e w1 ⟨g, rfl, hg1, hat1, hbl1⟩
        have HAT := Lib.hid hat1
        have HBL1 := Lib.hid (HBL.out.trans (hbl1.mono HBL.out.size))
        have HG := Lib.hid hg1
        clear hat1 hbl1 hg1
        go_wp2_with fail
        have hen := endings_any (pfx lo n) lo hi g (n + 1) (n + 1) w1 HAT.out (by rw [pfx_len]; omega)
        rw [pfx_len] at hen
        refine hen.mono ?_
        rintro e w2 ⟨v2, rfl, hb2, hbl2⟩
        obtain ⟨es, hes⟩ : ∃ es, es = endsL (pfx lo n) lo hi := ⟨_, rfl⟩
        rw [← hes] at hb2
        obtain ⟨A2, c2, rfl⟩ := hb2.form
        have HB2 := Lib.hid hb2
        have HBL2 := Lib.hid hbl2
        have HES := Lib.hid hes
        have hl2 : es.length ≤ 25 := by rw [hes]; unfold endsL; exact Nat.le_trans (List.length_filter_le _ _) (by unfold upTo; simp)
        obtain ⟨m, hm⟩ : ∃ m, m = (es.map UInt8.ofNat).length := ⟨_, rfl⟩
        have hml : m = es.length := by rw [hm, List.length_map]
        have HML := Lib.hid hml
        have hm25 : m ≤ 25 := by omega
        have HM := Lib.hid hm
        rw [← hm]
        clear hb2 hbl2 hes hm hml hen
        by_cases h0 : 0 < m
        · obtain ⟨g2, c2', hv2, _, hat2⟩ := HB2.out.at (by rw [← HM.out]; exact h0)
          injection hv2 with hA2 _ hc2
          subst hA2 hc2
          obtain ⟨p, hp⟩ : ∃ p, p = (m - 1) / 2 := ⟨_, rfl⟩
          have hpm : p < m := by omega
          have hpi : ((m : Int) - 1) / 2 = (p : Int) := by omega
          obtain ⟨x, hx⟩ : ∃ x, x = UInt8.ofNat (es.getD p 0) := ⟨_, rfl⟩
          have hcell := hat2.cell (j := p) (x := x) (by
            have hpl : p < es.length := by rw [← HML.out]; exact hpm
            rw [List.getElem?_map, List.getElem?_eq_getElem hpl, hx, List.getD_eq_getElem?_getD, List.getElem?_eq_getElem hpl]
            rfl)
          have hne : es ≠ [] := by
            rintro rfl
            have h1 := HML.out
            simp at h1
            omega
          have HF := Lib.hid (show betweenP lo hi = (pfx lo n ++ [x], 0) by
            rw [HR.out, HREL.out, first_here hlt (by rw [← HES.out]; exact hne), hx, hp, HML.out, HES.out])
          have hrow := (HAT.out.below HBL2.out HAT.out.lt).row (B := w.heap.size) (Nat.le_trans HBL.out.size HG.out)
          have hpl := pfx_len lo n
          obtain ⟨P, hP⟩ : ∃ P, P = pfx lo n := ⟨_, rfl⟩
          rw [← hP] at hrow HF hpl
          have hR := hrow.1
          have hB2 := hrow.2
          rw [hpl] at hR
          have HROW := Lib.hid hR
          have HRB := Lib.hid hrow
          have HPL := Lib.hid hpl
          clear hR hrow hat2 hne hx hp hP hpl
          go_wp2_with (at_builtin; refine wpList_append_own _ rfl (.tmp 37) (.tmp 45) 39 rfl w.heap.size 5 i0 _ 1 1 Try.underlying39 hi0 hz0 hz1 hz2 rfl (by omega) (.slice (some ⟨g, 0, none⟩) n (n + 1)) n (bvs P) rfl (HROW.out.alloc _) ⟨w2.heap.size, 0, none⟩ 1 1 [.int .u8 (x.toNat : Int)] rfl rfl ?c1 ?c2 ?c3 ?c4 ?c5 ?_)
          case c1 => exact cell_one_new _ _ _
          case c2 => simp [Value.oneCell']
          case c3 => unfold maxLen; omega
          case c4 => omega
          case c5 => rw [World.size_alloc]; omega
          intro v5 w5 hown5 hg5 _
          have h5 := brow_grow (l := P) (c := x) (v := .slice (some ⟨g, 0, none⟩) n (n + 1)) (w := w2) (B := w.heap.size) (by have := HRB.out; rw [HPL.out] at this; exact this) (by rw [HPL.out]; exact hown5) hg5
          have hcv := conv_row h5.1 (by simp)
          have HB5 := Lib.hid h5.2
          clear h5 hown5 hg5
          go_wp2
          go_ret2
          exact ⟨ret_strnum (by rw [HF.out]) (by rw [HF.out]), (HBL1.out.trans (HBL2.out.mono HBL1.out.size)).trans HB5.out⟩
        · have hm0 : m = 0 := by omega
          have HNX := Lib.hid (first_next (lo := lo) (hi := hi) hlt (by rw [← HES.out]; exact List.eq_nil_of_length_eq_zero (by rw [← HML.out, hm0])))
          clear hm0
          go_wp2
          go_roundw
          case rel => exact ⟨n + 1, by omega, by go_num, HREL.out.trans HNX.out, HBL1.out.trans (HBL2.out.mono HBL1.out.size)⟩
          case measure => simp [intOf]; omega
      · have hn60 : n = 60 := by omega
        have HF := Lib.hid (show firstN lo hi 60 0 = none by rw [HREL.out, hn60]; rfl)
        clear hn60
        go_wp2
        go_ret2
        exact ⟨ret_strnum (by rw [HR.out, HF.out]; rfl) (by rw [HR.out, HF.out]), HBL.out⟩
set_option maxHeartbeats 1000000 in
theorem between_any (lo hi : List UInt8) (w : World) (hlo : lo.length ≤ maxLen) (hhi : hi.length ≤ maxLen) :
    Calls Try.prog 12 #[.string (strL lo), .string (strL hi)] w (BtwPost lo hi w) := by
  cases b1 : bndB lo
  · have HR := Lib.hid (btw_arg (lo := lo) (hi := hi) (by rw [b1]; rfl))
    have HC1 := Lib.hid (fun w => by have h := isBound_list lo w hlo; rw [b1] at h; exact h : ∀ w, Calls Try.prog 25 #[.string (strL lo)] w fun e w' => e = .returned (.bool false) ∧ w = w')
    clear b1 hlo hhi
    go_enter Try.func12, Try.ntmps12
    go_wp2_with ((go_at_call 25; (with_reducible refine (HC1.out _).mono ?_); rintro e w' ⟨rfl, rfl⟩))
    go_ret2
    exact ⟨ret_strnum (by rw [HR.out]; rfl) (by rw [HR.out]), Below.refl _ _⟩
  · cases b2 : bndB hi
    · have HR := Lib.hid (btw_arg (lo := lo) (hi := hi) (by rw [b1, b2]; rfl))
      have HC1 := Lib.hid (fun w => by have h := isBound_list lo w hlo; rw [b1] at h; exact h : ∀ w, Calls Try.prog 25 #[.string (strL lo)] w fun e w' => e = .returned (.bool true) ∧ w = w')
      have HC2 := Lib.hid (fun w => by have h := isBound_list hi w hhi; rw [b2] at h; exact h : ∀ w, Calls Try.prog 25 #[.string (strL hi)] w fun e w' => e = .returned (.bool false) ∧ w = w')
      clear b1 b2 hlo hhi
      go_enter Try.func12, Try.ntmps12
      go_wp2_with (first | (go_at_call 25; (with_reducible refine (HC1.out _).mono ?_); rintro e w' ⟨rfl, rfl⟩) | (go_at_call 25; (with_reducible refine (HC2.out _).mono ?_); rintro e w' ⟨rfl, rfl⟩))
      go_ret2
      exact ⟨ret_strnum (by rw [HR.out]; rfl) (by rw [HR.out]), Below.refl _ _⟩
    · cases ho : (!hi.isEmpty && !bl lo hi)
      · exact between_loop lo hi w b1 b2 ho hlo hhi
      · have HR := Lib.hid (btw_order b1 b2 ho)
        have HC1 := Lib.hid (fun w => by have h := isBound_list lo w hlo; rw [b1] at h; exact h : ∀ w, Calls Try.prog 25 #[.string (strL lo)] w fun e w' => e = .returned (.bool true) ∧ w = w')
        have HC2 := Lib.hid (fun w => by have h := isBound_list hi w hhi; rw [b2] at h; exact h : ∀ w, Calls Try.prog 25 #[.string (strL hi)] w fun e w' => e = .returned (.bool true) ∧ w = w')
        simp only [Bool.and_eq_true, Bool.not_eq_true'] at ho
        have hg : Op.bytesLess (strL lo).toList (strL hi).toList = false := by rw [strL_toList, strL_toList]; exact ho.2
        obtain ⟨e1, e2⟩ := str_f ho.1
        clear ho b1 b2 hlo hhi
        go_enter Try.func12, Try.ntmps12
        go_wp2_with (first | (go_at_call 25; (with_reducible refine (HC1.out _).mono ?_); rintro e w' ⟨rfl, rfl⟩) | (go_at_call 25; (with_reducible refine (HC2.out _).mono ?_); rintro e w' ⟨rfl, rfl⟩))
        go_ret2
        exact ⟨ret_strnum (by rw [HR.out]; rfl) (by rw [HR.out]), Below.refl _ _⟩
end Go.Proofs.Ytedlfjolmhkpdaa
