/- The contract of the reference's Parse. Condition: texts of at most 2^47 - 4096 bytes. -/
import Derived.Test.YthhgincbifckgaaIdnRef
import Derived.Test.YthhgincbifckgaaIdnRefP
namespace Go.Proofs.Ythhgincbifckgaa
open Go.RowKit
theorem parseR_long {l : List UInt8} (h : 20 < l.length) : parseR l = (0, 13) := by unfold parseR; rw [if_pos h]
theorem parseR_none {l : List UInt8} (h : ¬ 20 < l.length) (hr : rL 0 0 0 l = none) : parseR l = (0, 13) := by unfold parseR; rw [if_neg h, hr]
theorem parseR_some {l : List UInt8} {a n : Nat} (h : ¬ 20 < l.length) (hr : rL 0 0 0 l = some (a, n)) : parseR l = if makeE a n = 0 ∧ fmtI (makeI a n) = l then (makeI a n, 0) else (0, 13) := by unfold parseR; rw [if_neg h, hr]
set_option maxHeartbeats 1000000 in
theorem rparse_any (s : ByteArray) (w : World) (hs : s.size ≤ maxLen) :
    Calls Try.prog 21 #[.string s] w fun e w' => e = .returned (.tuple #[.int .i64 (parseR s.data.toList).1, .int .i64 (parseR s.data.toList).2]) ∧ Below w.heap.size w w' := by
  unfold maxLen at hs
  have hl : s.data.toList.length = s.size := Array.length_toList
  by_cases hlong : 20 < s.size
  · have HP := Lib.hid (parseR_long (l := s.data.toList) (by omega))
    clear hl
    go_enter Try.func21, Try.ntmps21
    go_wp2
    go_ret2
    exact ⟨ret_ints (by rw [HP.out]) (by rw [HP.out]), Below.refl _ _⟩
  · have hns : ¬ 20 < s.data.toList.length := by omega
    have HNS := Lib.hid hns
    have hle : s.size ≤ 20 := by omega
    clear hl hns
    go_enter Try.func21, Try.ntmps21
    go_wp2
    go_loop [4, 5, 6, 7] (fun a b c d => ∃ (p q t k : Nat), p ≤ 10485769 ∧ q ≤ 10485769 ∧ t ≤ k ∧ k ≤ s.size ∧ a = .int .i64 p ∧ b = .int .i64 q ∧ c = .int .i64 t ∧ d = .int .i64 k ∧ rL 0 0 0 s.data.toList = rL p q t (suf s k)) (fun _ _ _ d => s.size - (intOf d).toNat)
    case atStart => exact ⟨0, 0, 0, 0, by omega, by omega, by omega, by omega, rfl, rfl, rfl, rfl, rfl⟩
    case round =>
      obtain ⟨p, q, t, k, hp, hq, ht, hk, rfl, rfl, rfl, rfl, hrel⟩ := hrel
      have HR := Lib.hid hrel
      clear hrel
      by_cases hlt : k < s.size
      · have hcons := suf_cons s k hlt
        have hu := s[k].toNat_lt
        by_cases hdot : s[k].toNat = 46
        · have hst := rL_dot p q t s[k] (suf s (k + 1)) hdot
          rw [← hcons] at hst
          have HST := Lib.hid (HR.out.trans hst)
          have e1 : ((s[k].toNat : Int) == 46) = true := by simp [hdot]
          clear hst hcons hdot
          go_wp2
          go_round
          case rel => exact ⟨p, q, t + 1, k + 1, hp, hq, by omega, by omega, rfl, rfl, by go_num, by go_num, HST.out⟩
          case measure => simp [intOf]; omega
        · have e1 : ((s[k].toNat : Int) == 46) = false := by simp; omega
          by_cases hbad : s[k].toNat < 48 ∨ 57 < s[k].toNat ∨ 1048576 < p ∨ 1048576 < q
          · have hst := rL_bad p q t s[k] (suf s (k + 1)) hdot hbad
            rw [← hcons] at hst
            have HP := Lib.hid (parseR_none HNS.out (HR.out.trans hst))
            clear hst hcons
            go_wp2
            all_goals
              go_ret2
              exact ⟨ret_ints (by rw [HP.out]) (by rw [HP.out]), Below.refl _ _⟩
          · by_cases hz : t = 0
            · subst hz
              have hst := rL_site p q s[k] (suf s (k + 1)) (by omega) (by omega) (by omega) (by omega)
              rw [← hcons] at hst
              have HST := Lib.hid (HR.out.trans hst)
              have b0 : 48 ≤ s[k].toNat := by omega
              have b1 : s[k].toNat ≤ 57 := by omega
              have b2 : p ≤ 1048576 := by omega
              have b3 : q ≤ 1048576 := by omega
              clear hst hcons hdot hbad
              go_wp2
              go_round
              case rel => exact ⟨p * 10 + (s[k].toNat - 48), q, 0, k + 1, by omega, hq, by omega, by omega, by congr 1; omega, rfl, rfl, by go_num, HST.out⟩
              case measure => simp [intOf]; omega
            · have hst := rL_ser p q t s[k] (suf s (k + 1)) (by omega) (by omega) (by omega) (by omega) hz
              rw [← hcons] at hst
              have HST := Lib.hid (HR.out.trans hst)
              have b0 : 48 ≤ s[k].toNat := by omega
              have b1 : s[k].toNat ≤ 57 := by omega
              have b2 : p ≤ 1048576 := by omega
              have b3 : q ≤ 1048576 := by omega
              have hz' : ((t : Int) == 0) = false := by simp; omega
              clear hst hcons hdot hbad
              go_wp2
              go_round
              case rel => exact ⟨p, q * 10 + (s[k].toNat - 48), t, k + 1, hp, by omega, by omega, by omega, rfl, by congr 1; omega, rfl, by go_num, HST.out⟩
              case measure => simp [intOf]; omega
      · have hst : rL 0 0 0 s.data.toList = some (p, q) := by rw [HR.out, suf_end s k (by omega)]; rfl
        have hpr := parseR_some HNS.out hst
        clear hst
        by_cases he : makeE p q = 0
        · have e1 : (makeE p q != 0) = false := by simp [he]
          have HE := Lib.hid he
          have HP := Lib.hid hpr
          clear he hpr
          go_wp2_with (first | (go_at_call 10; refine (rmake_any _ _ _).mono ?_; rintro e w' ⟨rfl, rfl⟩))
          refine (rformat_any _ _).mono ?_
          rintro e w1 ⟨rfl, hb1⟩
          have HB1 := Lib.hid hb1
          clear hb1
          by_cases hf : fmtI (makeI p q) = s.data.toList
          · have e2 : ((strL (fmtI (makeI p q))).toList == s.toList) = true := by rw [ByteArray.toList_eq, ByteArray.toList_eq, strL_list, hf]; exact beq_self_eq_true _
            have HF := Lib.hid hf
            clear hf
            go_wp2
            go_ret2
            exact ⟨ret_ints (by rw [HP.out, if_pos ⟨HE.out, HF.out⟩]) (by rw [HP.out, if_pos ⟨HE.out, HF.out⟩]), HB1.out⟩
          · have e2 : ((strL (fmtI (makeI p q))).toList == s.toList) = false := by rw [ByteArray.toList_eq, ByteArray.toList_eq, strL_list]; exact beq_eq_false_iff_ne.2 hf
            have HF := Lib.hid hf
            clear hf
            go_wp2
            go_ret2
            exact ⟨ret_ints (by rw [HP.out, if_neg (fun h => HF.out h.2)]) (by rw [HP.out, if_neg (fun h => HF.out h.2)]), HB1.out⟩
        · have e1 : (makeE p q != 0) = true := by simp [he]
          have HP := Lib.hid (show parseR s.data.toList = (0, 13) by rw [hpr, if_neg (fun h => he h.1)])
          clear he hpr
          go_wp2_with (first | (go_at_call 10; refine (rmake_any _ _ _).mono ?_; rintro e w' ⟨rfl, rfl⟩))
          go_ret2
          exact ⟨ret_ints (by rw [HP.out]) (by rw [HP.out]), Below.refl _ _⟩
end Go.Proofs.Ythhgincbifckgaa
