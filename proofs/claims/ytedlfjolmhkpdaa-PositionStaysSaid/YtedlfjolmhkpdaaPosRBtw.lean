/- The contract of the reference's Between. Condition: bounds of at most 2^47 - 4096 bytes. -/
import Derived.Test.YtedlfjolmhkpdaaPosKeys
namespace Go.Proofs.Ytedlfjolmhkpdaa
open Go.RowKit
attribute [local go_sem 2000] str_gtr str_leq
def RBtwRel (lo hi : List UInt8) (w : World) (i : Value) (wr : World) : Prop := ∃ n : Nat, n ≤ 60 ∧ i = .int .i64 ((n + 1 : Nat) : Int) ∧ NoneB lo hi n ∧ firstN lo hi 60 0 = firstN lo hi (60 - n) n ∧ Below w.heap.size w wr
set_option maxRecDepth 100000 in
set_option maxHeartbeats 4000000 in
theorem rbetween_any (lo hi : List UInt8) (w : World) (hlo : lo.length ≤ maxLen) (hhi : hi.length ≤ maxLen) :
    Calls Try.prog 13 #[.string (strL lo), .string (strL hi)] w (BtwPost lo hi w) := by
  obtain ⟨L, hL⟩ : ∃ L, L = strL lo := ⟨_, rfl⟩
  obtain ⟨H, hH⟩ : ∃ H, H = strL hi := ⟨_, rfl⟩
  have hl1 : L.toList.isEmpty = lo.isEmpty := by rw [hL, strL_toList]
  have hl2 : (L.toList = []) = (lo.isEmpty = true) := by rw [hL, strL_toList]; simp
  have hh1 : H.toList.isEmpty = hi.isEmpty := by rw [hH, strL_toList]
  have hh2 : (H.toList = []) = (hi.isEmpty = true) := by rw [hH, strL_toList]; simp
  have hlh : Op.bytesLess L.toList H.toList = bl lo hi := by rw [hL, hH, strL_toList, strL_toList]; rfl
  have HV1 := Lib.hid (fun w => by have h := rvalid_list lo w hlo; rw [← hL] at h; exact h : ∀ w, Calls Try.prog 15 #[.string L] w fun e w' => e = .returned (.bool (vldB lo)) ∧ w = w')
  have HV2 := Lib.hid (fun w => by have h := rvalid_list hi w hhi; rw [← hH] at h; exact h : ∀ w, Calls Try.prog 15 #[.string H] w fun e w' => e = .returned (.bool (vldB hi)) ∧ w = w')
  have HK := Lib.hid (fun w n l hn hf => by have h := keys_any lo hi n l w hn hf; rw [← hL, ← hH] at h; exact h : ∀ w n l, n ≤ 60 → keysF hi n 30 (afterL lo n) [] = some l → Calls Try.prog 28 #[.string L, .string H, .int .i64 (n : Int)] w (SPost l w))
  rw [← hL, ← hH]
  clear hL hH hlo hhi
  cases eL : lo.isEmpty <;> cases vL : vldB lo <;> cases eH : hi.isEmpty <;> cases vH : vldB hi <;> cases ob : bl lo hi
  all_goals
    have b1 : bndB lo = (lo.isEmpty || vldB lo) := rfl
    have b2 : bndB hi = (hi.isEmpty || vldB hi) := rfl
    rw [eL, vL] at b1
    rw [eH, vH] at b2
    rw [eL] at hl1 hl2
    rw [eH] at hh1 hh2
    rw [ob] at hlh
    first | (exfalso; rw [List.isEmpty_iff] at eL; subst eL; cases vL; done) | (exfalso; rw [List.isEmpty_iff] at eH; subst eH; cases vH; done) | (exfalso; rw [List.isEmpty_iff] at eL; subst eL; cases hi with | nil => cases eH | cons a r => (cases ob; done)) | (exfalso; rw [List.isEmpty_iff] at eH; subst eH; rw [bl_nil] at ob; cases ob; done) | skip
  all_goals
    first | have hl3 : L.toList = [] := by rw [hl2] | have hl3 : ¬ L.toList = [] := by rw [hl2]; decide
    first | have hh3 : H.toList = [] := by rw [hh2] | have hh3 : ¬ H.toList = [] := by rw [hh2]; decide
    clear hl2 hh2
    rw [vL] at HV1
    rw [vH] at HV2
    clear vL vH
  all_goals
    first
      | (have HR := Lib.hid (btw_arg (lo := lo) (hi := hi) (by rw [b1, b2]; rfl))
         clear b1 b2 eL eH ob
         go_enter Try.func13, Try.ntmps13
         go_wp2_with (first | (go_at_call 15; (with_reducible refine (HV1.out _).mono ?_); rintro e w' ⟨rfl, rfl⟩) | (go_at_call 15; (with_reducible refine (HV2.out _).mono ?_); rintro e w' ⟨rfl, rfl⟩))
         go_ret2
         exact ⟨ret_strnum (by rw [HR.out]; rfl) (by rw [HR.out]), Below.refl _ _⟩)
      | (have HR := Lib.hid (btw_order (lo := lo) (hi := hi) (by rw [b1]; rfl) (by rw [b2]; rfl) (by rw [eH, ob]; rfl))
         clear b1 b2 eL eH ob
         go_enter Try.func13, Try.ntmps13
         go_wp2_with (first | (go_at_call 15; (with_reducible refine (HV1.out _).mono ?_); rintro e w' ⟨rfl, rfl⟩) | (go_at_call 15; (with_reducible refine (HV2.out _).mono ?_); rintro e w' ⟨rfl, rfl⟩))
         go_ret2
         exact ⟨ret_strnum (by rw [HR.out]; rfl) (by rw [HR.out]), Below.refl _ _⟩)
      | (have HR := Lib.hid (btw_rest (lo := lo) (hi := hi) (by rw [b1]; rfl) (by rw [b2]; rfl) (by rw [eH, ob]; rfl))
         have HLL := Lib.hid (bnd_lets (l := lo) (by rw [b1]; rfl))
         clear b1 b2 eL eH ob
         go_enter Try.func13, Try.ntmps13
         go_wp2_with (first | (go_at_call 15; (with_reducible refine (HV1.out _).mono ?_); rintro e w' ⟨rfl, rfl⟩) | (go_at_call 15; (with_reducible refine (HV2.out _).mono ?_); rintro e w' ⟨rfl, rfl⟩))
         clear hl1 hh1 hlh hl3 hh3
         go_loopw [6] (fun i wr => RBtwRel lo hi w i wr) (fun i _ => 61 - (intOf i).toNat)
         case atStart => exact ⟨0, by omega, rfl, none_zero lo hi, rfl, Below.refl _ _⟩
         case round =>
           obtain ⟨n, hn, rfl, hno, hrel, hbl⟩ := hrel
           have HREL := Lib.hid hrel
           have HBL := Lib.hid hbl
           have HNO := Lib.hid hno
           clear hrel hbl hno
           by_cases hlt : n < 60
           · have hle : ((n + 1 : Nat) : Int) ≤ 60 := by omega
             obtain ⟨es, hes⟩ : ∃ es, es = endsL (pfx lo n) lo hi := ⟨_, rfl⟩
             have hk := keys_all HNO.out HLL.out.1 hlt
             rw [← hes] at hk
             have HES := Lib.hid hes
             have HKC := Lib.hid (fun W => by have h := HK.out W (n + 1) _ hlt hk; rw [show ((n + 1 : Nat) : Int) = (n : Int) + 1 from rfl] at h; exact h : ∀ W, Calls Try.prog 28 #[.string L, .string H, .int .i64 ((n : Int) + 1)] W (SPost (es.map fun e => pfx lo n ++ [UInt8.ofNat e]) W))
             have hl2 : es.length ≤ 25 := by rw [hes]; unfold endsL; exact Nat.le_trans (List.length_filter_le _ _) (by unfold upTo; simp)
             clear hes hk
             go_wp2_with fail
             refine (HKC.out _).mono ?_
             rintro e w2 ⟨v2, rfl, hb2, hbl2⟩
             obtain ⟨A2, c2, rfl⟩ := hb2.form
             have HB2 := Lib.hid hb2
             have HBL2 := Lib.hid (hbl2.mono HBL.out.size)
             obtain ⟨m, hm⟩ : ∃ m, m = (es.map fun e => pfx lo n ++ [UInt8.ofNat e]).length := ⟨_, rfl⟩
             have hml : m = es.length := by rw [hm, List.length_map]
             have HML := Lib.hid hml
             have hm25 : m ≤ 25 := by omega
             have HM := Lib.hid hm
             rw [← hm]
             clear hb2 hbl2 hm hml
             by_cases h0 : 0 < m
             · obtain ⟨g2, c2', hv2, _, _, hat2⟩ := HB2.out.at (by rw [← HM.out]; exact h0)
               injection hv2 with hA2 _ hc2
               subst hA2 hc2
               obtain ⟨p, hp⟩ : ∃ p, p = (m - 1) / 2 := ⟨_, rfl⟩
               have hpm : p < m := by omega
               have hpi : ((m : Int) - 1) / 2 = (p : Int) := by omega
               obtain ⟨x, hx⟩ : ∃ x, x = pfx lo n ++ [UInt8.ofNat (es.getD p 0)] := ⟨_, rfl⟩
               have hcell := hat2 p x (by
                 have hpl : p < es.length := by rw [← HML.out]; exact hpm
                 rw [List.getElem?_map, List.getElem?_eq_getElem hpl, hx, List.getD_eq_getElem?_getD, List.getElem?_eq_getElem hpl]
                 rfl)
               have hne : es ≠ [] := by
                 rintro rfl
                 have h1 := HML.out
                 simp at h1
                 omega
               have HF := Lib.hid (show betweenP lo hi = (x, 0) by
                 rw [HR.out, HREL.out, first_here hlt (by rw [← HES.out]; exact hne), hx, hp, HML.out, HES.out])
               clear hat2 hne hx hp
               go_wp2
               go_ret2
               exact ⟨ret_strnum (by rw [HF.out]) (by rw [HF.out]), HBL.out.trans HBL2.out⟩
             · have hm0 : m = 0 := by omega
               have he0 : es = [] := List.eq_nil_of_length_eq_zero (by rw [← HML.out, hm0])
               have HNX := Lib.hid (first_next (lo := lo) (hi := hi) hlt (by rw [← HES.out]; exact he0))
               have HNN := Lib.hid (ends_none HNO.out HLL.out.1 (by rw [← HES.out]; exact he0))
               clear hm0 he0
               go_wp2
               go_roundw
               case rel => exact ⟨n + 1, by omega, by go_num, HNN.out, HREL.out.trans HNX.out, HBL.out.trans HBL2.out⟩
               case measure => simp [intOf]; omega
           · have hle : ¬ ((n + 1 : Nat) : Int) ≤ 60 := by omega
             have hn60 : n = 60 := by omega
             have HF := Lib.hid (show firstN lo hi 60 0 = none by rw [HREL.out, hn60]; rfl)
             clear hn60
             go_wp2
             go_ret2
             exact ⟨ret_strnum (by rw [HR.out, HF.out]; rfl) (by rw [HR.out, HF.out]), HBL.out⟩)
end Go.Proofs.Ytedlfjolmhkpdaa
