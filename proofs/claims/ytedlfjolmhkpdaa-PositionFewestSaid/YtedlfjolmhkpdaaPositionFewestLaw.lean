/- The law PositionFewest holds for every input: the call returns true, and each argument reads as it read. No condition. -/
import Derived.Test.YtedlfjolmhkpdaaPosOpen
import Derived.ProofKit
import Derived.OpenShut
import Derived.ShutString
import Derived.ChangeOld
import Derived.SizedLaws
namespace Go.Proofs.Ytedlfjolmhkpdaa.positionFewest
open Go.ChangeShapes Go.WideShapes Go.ChangeAt Go.RowKit
open Go.ChangeMaps (open_string shut_string)
set_option linter.unusedVariables false
theorem own : ownKnob Try.prog.godebug = none := by kernel_rfl
theorem laidOut : laidOutB Try.prog = true := by kernel_rfl
attribute [local go_sem 2000] str_gtr str_leq
def FewRel (ks : List Key) (st cs : List Bool) (n tot : Nat) (gs : Nat) (w : World) (av bv lav lbv iv : Value) (wr : World) : Prop :=
  ∃ (i a b : Nat) (la lb : Key), i ≤ n ∧ a ≤ i ∧ b ≤ i ∧ iv = .int .i64 (i : Int) ∧ av = .int .i64 (a : Int) ∧ bv = .int .i64 (b : Int) ∧ lav = .string (strL la) ∧ lbv = .string (strL lb) ∧
    OkS (ks.drop i) (st.drop i) la ∧ a + (st.drop i).countP (· = true) = tot ∧ b + greedy (ks.drop i) (cs.drop i) lb ≤ tot ∧ CAt wr gs 4 n (bls st) ∧ Below w.heap.size w wr
theorem greedy_end (ks : List Key) (lb : Key) : greedy ks [] lb = 0 := by
  cases ks with
  | nil => rw [greedy]; intro k r c s h; cases h
  | cons a r => rw [greedy]; intro k r c s _ h; cases h
set_option maxRecDepth 100000 in
set_option maxHeartbeats 4000000 in
theorem walk (A0 : Option Addr) (cap0 : Nat) (zs0 : List Key) (A1 : Option Addr) (cap1 : Nat) (zs1 : List Bool) (w : World) (i0 : TAt w A0 zs0) (l0 : zs0.length ≤ cap0) (m0 : cap0 ≤ maxLen) (s0 : ∀ k ∈ zs0, k.length ≤ maxLen) (i1 : LAt w A1 zs1) (l1 : zs1.length ≤ maxLen) :
    Calls Try.prog 9 #[.slice A0 zs0.length cap0, .slice A1 zs1.length cap1] w fun e w' => e = .returned (.bool true) ∧ Below w.heap.size w w' := by
  have HL := Lib.hid (fun W (h : TAt W A0 zs0) => light_any A0 cap0 zs0 W h (by omega) s0)
  have HT := Lib.hid i0
  have HC := Lib.hid i1
  cases hb : lightB zs0
  · have HLW := Lib.hid (by have h := HL.out w HT.out; rw [hb] at h; exact h : Calls Try.prog 19 #[.slice A0 zs0.length cap0] w fun e w' => e = .returned (.bool false) ∧ w = w')
    clear hb i0 s0 i1
    go_enter Try.func9, Try.ntmps9
    go_wp2_with (first | (go_at_call 19; (with_reducible refine HLW.out.mono ?_); rintro e w' ⟨rfl, rfl⟩) | (go_at_call 11; refine (awake_any _).mono ?_; rintro e w1 ⟨rfl, hb1⟩; have HB1 := Lib.hid hb1; clear hb1))
    go_ret
    exact ⟨rfl, HB1.out⟩
  · have HLW := Lib.hid (by have h := HL.out w HT.out; rw [hb] at h; exact h : Calls Try.prog 19 #[.slice A0 zs0.length cap0] w fun e w' => e = .returned (.bool true) ∧ w = w')
    have hn60 := ((light_iff zs0).1 hb).1
    have HK := Lib.hid (keep_any zs0 A0 cap0 w i0 (by omega) s0)
    have HS := Lib.hid s0
    have HG := Lib.hid (greedy_le zs0 zs1)
    obtain ⟨n, hn⟩ : ∃ n, n = zs0.length := ⟨_, rfl⟩
    obtain ⟨m, hm⟩ : ∃ m, m = zs1.length := ⟨_, rfl⟩
    obtain ⟨st, hst⟩ : ∃ st, st = keepP zs0 := ⟨_, rfl⟩
    obtain ⟨tot, htot⟩ : ∃ t, t = st.countP (· = true) := ⟨_, rfl⟩
    have HSL := Lib.hid (show st.length = n by rw [hst, keep_len, hn])
    have HOK := Lib.hid (show OkS zs0 st [] by rw [hst]; exact keep_ok zs0)
    rw [← hst] at HK HG
    rw [← htot] at HG
    have HTOT := Lib.hid htot
    have HN := Lib.hid hn
    have HM := Lib.hid hm
    rw [← hn] at HLW HK hn60 ⊢
    rw [← hm] at l1 ⊢
    unfold maxLen at l1
    clear hb i0 s0 i1 hn hm hst htot l0 m0
    go_enter Try.func9, Try.ntmps9
    go_wp2_with ((go_at_call 19; (with_reducible refine HLW.out.mono ?_); rintro e w' ⟨rfl, rfl⟩))
    refine HK.out.mono ?_
    rintro e w1 ⟨gs, rfl, hg, hat, hb1⟩
    rw [HSL.out] at hat ⊢
    have HAT := Lib.hid hat
    have HB1 := Lib.hid hb1
    clear hat hb1 hg
    go_wp2
    go_loopw [6, 7, 8, 9, 10] (fun a b la lb i wr => FewRel zs0 st zs1 n tot gs w a b la lb i wr) (fun _ _ _ _ i _ => n - (intOf i).toNat)
    case atStart => exact ⟨0, 0, 0, [], [], Nat.zero_le _, Nat.le_refl _, Nat.le_refl _, rfl, rfl, rfl, rfl, rfl, HOK.out, by rw [Nat.zero_add]; exact HTOT.out.symm, by rw [Nat.zero_add]; exact HG.out, HAT.out, HB1.out⟩
    case round =>
      obtain ⟨i, a, b, la, lb, hi, ha, hb, rfl, rfl, rfl, rfl, rfl, hok, hcnt, hgr, hat, hbl⟩ := hrel
      have HOKI := Lib.hid hok
      have HCNT := Lib.hid hcnt
      have HGR := Lib.hid hgr
      have HATI := Lib.hid hat
      have HBI := Lib.hid hbl
      clear hok hcnt hgr hat hbl
      by_cases hlt : i < n
      · have hik : i < zs0.length := by rw [← HN.out]; exact hlt
        have his : i < st.length := by rw [HSL.out]; exact hlt
        obtain ⟨k, hk⟩ : ∃ k, k = zs0[i] := ⟨_, rfl⟩
        obtain ⟨s, hs⟩ : ∃ s, s = st[i] := ⟨_, rfl⟩
        have hgk : zs0[i]? = some k := by rw [hk]; exact List.getElem?_eq_getElem hik
        have hgs : st[i]? = some s := by rw [hs]; exact List.getElem?_eq_getElem his
        have hdk : zs0.drop i = k :: zs0.drop (i + 1) := by rw [hk]; exact List.drop_eq_getElem_cons hik
        have hds : st.drop i = s :: st.drop (i + 1) := by rw [hs]; exact List.drop_eq_getElem_cons his
        obtain ⟨kb, ko, rfl, hkb, hcs⟩ := HT.out (by rintro rfl; simp at hik)
        have c1 : wr.cell? ⟨kb, ko + i, none⟩ = some (.string (strL k)) := (HBI.out.cell (p := ⟨kb, ko + i, none⟩) hkb).trans (hcs i k hgk)
        have c2 : wr.cell? ⟨gs, i, none⟩ = some (.bool s) := HATI.out.cell (by unfold bls; rw [List.getElem?_map, hgs]; rfl)
        have hkl : k.length ≤ maxLen := HS.out k (by rw [hk]; exact List.getElem_mem _)
        obtain ⟨v, hv⟩ : ∃ v, v = vldB k := ⟨_, rfl⟩
        obtain ⟨K, hK⟩ : ∃ K, K = strL k := ⟨_, rfl⟩
        have HV := Lib.hid (fun W => by have h := valid_list k W hkl; rw [← hv, ← hK] at h; exact h : ∀ W, Calls Try.prog 14 #[.string K] W fun e w' => e = .returned (.bool v) ∧ W = w')
        obtain ⟨LA, hLA⟩ : ∃ S, S = strL la := ⟨_, rfl⟩
        obtain ⟨LB, hLB⟩ : ∃ S, S = strL lb := ⟨_, rfl⟩
        have hlessA : Op.bytesLess LA.toList K.toList = bl la k := by rw [hLA, hK, strL_toList, strL_toList]; rfl
        have hlessB : Op.bytesLess LB.toList K.toList = bl lb k := by rw [hLB, hK, strL_toList, strL_toList]; rfl
        rw [← hK] at c1
        rw [← hLA, ← hLB]
        have HKK := Lib.hid hK
        have HLA := Lib.hid hLA
        have HLB := Lib.hid hLB
        have HVV := Lib.hid hv
        have HDS := Lib.hid hds
        have hokc := HOKI.out
        have hcnc := HCNT.out
        rw [hdk, hds] at hokc
        rw [hds, List.countP_cons] at hcnc
        -- what the choice says here
        have hway : (m ≤ i ∧ greedy (zs0.drop (i + 1)) (zs1.drop (i + 1)) lb = greedy (zs0.drop i) (zs1.drop i) lb) ∨
            (i < m ∧ ∃ (cb co : Nat) (x : Bool), A1 = some ⟨cb, co, none⟩ ∧ wr.cell? ⟨cb, co + i, none⟩ = some (.bool x) ∧
              ((x = false ∨ x = true ∧ v = false ∨ x = true ∧ v = true ∧ bl lb k = false) ∧ greedy (zs0.drop (i + 1)) (zs1.drop (i + 1)) lb = greedy (zs0.drop i) (zs1.drop i) lb ∨
               (x = true ∧ v = true ∧ bl lb k = true) ∧ 1 + greedy (zs0.drop (i + 1)) (zs1.drop (i + 1)) k = greedy (zs0.drop i) (zs1.drop i) lb)) := by
          by_cases him : i < m
          · right
            have hic : i < zs1.length := by rw [← HM.out]; exact him
            obtain ⟨cb, co, hA1, hcb, hcc⟩ := HC.out (by rintro rfl; simp at hic)
            have hdc : zs1.drop i = zs1[i] :: zs1.drop (i + 1) := List.drop_eq_getElem_cons hic
            refine ⟨him, cb, co, zs1[i], hA1, (HBI.out.cell (p := ⟨cb, co + i, none⟩) hcb).trans (hcc i _ (List.getElem?_eq_getElem hic)), ?_⟩
            rw [hdk, hdc, greedy, ← hv]
            by_cases hall : zs1[i] = true ∧ v = true ∧ bl lb k = true
            · right
              rw [if_pos hall]
              exact ⟨hall, rfl⟩
            · left
              rw [if_neg hall]
              refine ⟨?_, rfl⟩
              cases hx : zs1[i]
              · exact .inl rfl
              · cases hvx : v
                · exact .inr (.inl ⟨rfl, rfl⟩)
                · refine .inr (.inr ⟨rfl, rfl, ?_⟩)
                  rw [← Bool.not_eq_true]
                  exact fun h => hall ⟨hx, hvx, h⟩
          · left
            refine ⟨by omega, ?_⟩
            have e1 : zs1.drop i = [] := List.drop_of_length_le (by rw [← HM.out]; omega)
            have e2 : zs1.drop (i + 1) = [] := List.drop_of_length_le (by rw [← HM.out]; omega)
            rw [e1, e2, greedy_end, greedy_end]
        clear hk hs hgk hgs hdk hds hcs hkl hv hK hLA hLB
        have HWAY := Lib.hid hway
        clear hway
        have i0' : (0 : Int) ≤ (i : Int) := by omega
        have i1' : (i : Int) < (n : Int) := by omega
        have z1 : IntKind.i64.wrap ((a : Int) + 1) = (a : Int) + 1 := IntWalk.i64_in _ (by omega)
        have z2 : IntKind.i64.wrap ((b : Int) + 1) = (b : Int) + 1 := IntWalk.i64_in _ (by omega)
        cases s
        · have HOK2 := Lib.hid (show OkS (zs0.drop (i + 1)) (st.drop (i + 1)) la from hokc)
          have HCN2 := Lib.hid (show a + (st.drop (i + 1)).countP (· = true) = tot by have h := hcnc; simp at h ⊢; omega)
          clear hokc hcnc hlessA
          rcases HWAY.out with ⟨hmi, hge⟩ | ⟨him, cb, co, x, rfl, hcc, ⟨hx | ⟨hx, hvf⟩ | ⟨hx, hvt, hbf⟩, hge⟩ | ⟨⟨hx, hvt, hbt⟩, hge⟩⟩
          · skip
            have HGR2 := Lib.hid (show b + greedy (zs0.drop (i + 1)) (zs1.drop (i + 1)) lb ≤ tot by rw [hge]; exact HGR.out)
            have hni : ¬ i < m := by omega
            clear hge hlessB
            go_wp2_with ((go_at_call 14; (with_reducible refine (HV.out _).mono ?_); rintro e w' ⟨rfl, rfl⟩))
            go_roundw
            case rel => exact ⟨i + 1, a, b, la, lb, hlt, by omega, by omega, by go_num, by first | rfl | go_num, by first | rfl | go_num, by rw [← HLA.out], by rw [← HLB.out], HOK2.out, HCN2.out, HGR2.out, by first | exact HATI.out | exact HATI.out.keep rfl, by first | exact HBI.out | exact HBI.out.trans (drewN_b _ _ _)⟩
            case measure => simp [intOf]; omega
          · subst hx
            have HGR2 := Lib.hid (show b + greedy (zs0.drop (i + 1)) (zs1.drop (i + 1)) lb ≤ tot by rw [hge]; exact HGR.out)
            clear hge hlessB
            go_wp2_with ((go_at_call 14; (with_reducible refine (HV.out _).mono ?_); rintro e w' ⟨rfl, rfl⟩))
            go_roundw
            case rel => exact ⟨i + 1, a, b, la, lb, hlt, by omega, by omega, by go_num, by first | rfl | go_num, by first | rfl | go_num, by rw [← HLA.out], by rw [← HLB.out], HOK2.out, HCN2.out, HGR2.out, by first | exact HATI.out | exact HATI.out.keep rfl, by first | exact HBI.out | exact HBI.out.trans (drewN_b _ _ _)⟩
            case measure => simp [intOf]; omega
          · subst hx hvf
            have HGR2 := Lib.hid (show b + greedy (zs0.drop (i + 1)) (zs1.drop (i + 1)) lb ≤ tot by rw [hge]; exact HGR.out)
            clear hge hlessB
            go_wp2_with ((go_at_call 14; (with_reducible refine (HV.out _).mono ?_); rintro e w' ⟨rfl, rfl⟩))
            go_roundw
            case rel => exact ⟨i + 1, a, b, la, lb, hlt, by omega, by omega, by go_num, by first | rfl | go_num, by first | rfl | go_num, by rw [← HLA.out], by rw [← HLB.out], HOK2.out, HCN2.out, HGR2.out, by first | exact HATI.out | exact HATI.out.keep rfl, by first | exact HBI.out | exact HBI.out.trans (drewN_b _ _ _)⟩
            case measure => simp [intOf]; omega
          · subst hx hvt
            have HGR2 := Lib.hid (show b + greedy (zs0.drop (i + 1)) (zs1.drop (i + 1)) lb ≤ tot by rw [hge]; exact HGR.out)
            rw [hbf] at hlessB
            clear hge hbf
            go_wp2_with ((go_at_call 14; (with_reducible refine (HV.out _).mono ?_); rintro e w' ⟨rfl, rfl⟩))
            go_roundw
            case rel => exact ⟨i + 1, a, b, la, lb, hlt, by omega, by omega, by go_num, by first | rfl | go_num, by first | rfl | go_num, by rw [← HLA.out], by rw [← HLB.out], HOK2.out, HCN2.out, HGR2.out, by first | exact HATI.out | exact HATI.out.keep rfl, by first | exact HBI.out | exact HBI.out.trans (drewN_b _ _ _)⟩
            case measure => simp [intOf]; omega
          · subst hx hvt
            have HGR2 := Lib.hid (show b + 1 + greedy (zs0.drop (i + 1)) (zs1.drop (i + 1)) k ≤ tot by have h := HGR.out; rw [← hge] at h; omega)
            rw [hbt] at hlessB
            clear hge hbt
            go_wp2_with ((go_at_call 14; (with_reducible refine (HV.out _).mono ?_); rintro e w' ⟨rfl, rfl⟩))
            go_quiet (fail)
            go_wp2
            go_roundw
            case rel => exact ⟨i + 1, a, b + 1, la, k, hlt, by omega, by omega, by go_num, by first | rfl | go_num, by first | rfl | go_num, by rw [← HLA.out], by rw [← HKK.out], HOK2.out, HCN2.out, HGR2.out, by first | exact HATI.out | exact HATI.out.keep rfl, by first | exact HBI.out | exact HBI.out.trans (drewN_b _ _ _)⟩
            case measure => simp [intOf]; omega
        · obtain ⟨hvk, hbk, hok2⟩ := hokc
          obtain rfl : v = true := by rw [HVV.out]; exact hvk
          rw [hbk] at hlessA
          have HOK2 := Lib.hid hok2
          have HCN2 := Lib.hid (show a + 1 + (st.drop (i + 1)).countP (· = true) = tot by have h := hcnc; simp at h ⊢; omega)
          clear hvk hbk hok2 hcnc
          rcases HWAY.out with ⟨hmi, hge⟩ | ⟨him, cb, co, x, rfl, hcc, ⟨hx | ⟨hx, hvf⟩ | ⟨hx, hvt, hbf⟩, hge⟩ | ⟨⟨hx, hvt, hbt⟩, hge⟩⟩
          · skip
            have HGR2 := Lib.hid (show b + greedy (zs0.drop (i + 1)) (zs1.drop (i + 1)) lb ≤ tot by rw [hge]; exact HGR.out)
            have hni : ¬ i < m := by omega
            clear hge hlessB
            go_wp2_with ((go_at_call 14; (with_reducible refine (HV.out _).mono ?_); rintro e w' ⟨rfl, rfl⟩))
            go_quiet (fail)
            go_wp2_with ((go_at_call 14; (with_reducible refine (HV.out _).mono ?_); rintro e w' ⟨rfl, rfl⟩))
            go_roundw
            case rel => exact ⟨i + 1, a + 1, b, k, lb, hlt, by omega, by omega, by go_num, by first | rfl | go_num, by first | rfl | go_num, by rw [← HKK.out], by rw [← HLB.out], HOK2.out, HCN2.out, HGR2.out, by first | exact HATI.out | exact HATI.out.keep rfl, by first | exact HBI.out | exact HBI.out.trans (drewN_b _ _ _)⟩
            case measure => simp [intOf]; omega
          · subst hx
            have HGR2 := Lib.hid (show b + greedy (zs0.drop (i + 1)) (zs1.drop (i + 1)) lb ≤ tot by rw [hge]; exact HGR.out)
            clear hge hlessB
            go_wp2_with ((go_at_call 14; (with_reducible refine (HV.out _).mono ?_); rintro e w' ⟨rfl, rfl⟩))
            go_quiet (fail)
            go_wp2_with ((go_at_call 14; (with_reducible refine (HV.out _).mono ?_); rintro e w' ⟨rfl, rfl⟩))
            go_roundw
            case rel => exact ⟨i + 1, a + 1, b, k, lb, hlt, by omega, by omega, by go_num, by first | rfl | go_num, by first | rfl | go_num, by rw [← HKK.out], by rw [← HLB.out], HOK2.out, HCN2.out, HGR2.out, by first | exact HATI.out | exact HATI.out.keep rfl, by first | exact HBI.out | exact HBI.out.trans (drewN_b _ _ _)⟩
            case measure => simp [intOf]; omega
          · cases hvf
          · subst hx
            have HGR2 := Lib.hid (show b + greedy (zs0.drop (i + 1)) (zs1.drop (i + 1)) lb ≤ tot by rw [hge]; exact HGR.out)
            rw [hbf] at hlessB
            clear hge hbf
            go_wp2_with ((go_at_call 14; (with_reducible refine (HV.out _).mono ?_); rintro e w' ⟨rfl, rfl⟩))
            go_quiet (fail)
            go_wp2_with ((go_at_call 14; (with_reducible refine (HV.out _).mono ?_); rintro e w' ⟨rfl, rfl⟩))
            go_roundw
            case rel => exact ⟨i + 1, a + 1, b, k, lb, hlt, by omega, by omega, by go_num, by first | rfl | go_num, by first | rfl | go_num, by rw [← HKK.out], by rw [← HLB.out], HOK2.out, HCN2.out, HGR2.out, by first | exact HATI.out | exact HATI.out.keep rfl, by first | exact HBI.out | exact HBI.out.trans (drewN_b _ _ _)⟩
            case measure => simp [intOf]; omega
          · subst hx
            have HGR2 := Lib.hid (show b + 1 + greedy (zs0.drop (i + 1)) (zs1.drop (i + 1)) k ≤ tot by have h := HGR.out; rw [← hge] at h; omega)
            rw [hbt] at hlessB
            clear hge hbt
            go_wp2_with ((go_at_call 14; (with_reducible refine (HV.out _).mono ?_); rintro e w' ⟨rfl, rfl⟩))
            go_quiet (fail)
            go_wp2_with ((go_at_call 14; (with_reducible refine (HV.out _).mono ?_); rintro e w' ⟨rfl, rfl⟩))
            go_quiet (fail)
            go_wp2
            go_roundw
            case rel => exact ⟨i + 1, a + 1, b + 1, k, k, hlt, by omega, by omega, by go_num, by first | rfl | go_num, by first | rfl | go_num, by rw [← HKK.out], by rw [← HKK.out], HOK2.out, HCN2.out, HGR2.out, by first | exact HATI.out | exact HATI.out.keep rfl, by first | exact HBI.out | exact HBI.out.trans (drewN_b _ _ _)⟩
            case measure => simp [intOf]; omega
      · have hin : i = n := by omega
        have HF := Lib.hid (show (b : Int) ≤ (a : Int) from by
          have h1 := HCNT.out
          have h2 := HGR.out
          rw [List.drop_of_length_le (by rw [HSL.out]; omega)] at h1
          simp at h1
          omega)
        have hba := HF.out
        have HBE := Lib.hid hin
        clear hin
        go_wp2_with ((go_at_call 11; refine (awake_any _).mono ?_; rintro e w3 ⟨rfl, hb3⟩; have HB3 := Lib.hid (HBI.out.trans (hb3.mono HBI.out.size)); clear hb3))
        go_ret
        exact ⟨ret_bool (by simp), HB3.out⟩
set_option maxRecDepth 100000 in
theorem lifted (os : Os) (started : os.Started) (H : Type) (enc : TypeId × Value → H) :
    ReturnsInHanded {} Try.checked os 9 .any (Rows.positionFewestSpec.pre6 enc Try.prog Try.f9 Rows.positionFewestRow.domain false) (Rows.positionFewestSpec.post enc Try.prog Try.f9 false true false false) := by
  refine returnsInHanded_of_change_sized (C := Try.checked) own started (by kernel_rfl) Try.func9
    (ChangeSpec.witness6 (enc := enc) (C := Try.checked) false ⟨#[], #[.slice none 0 0, .slice none 0 0], []⟩ 8 (by kernel_rfl) (by kernel_rfl) (by kernel_rfl) (by kernel_rfl)) ?_
  intro W base args ds gs before hval0 hW hcnd hsz0 _
  have hval : ∀ (j : Nat) t v, Try.f9.params[j]? = some t → args[j]? = some v → Value.okWide Try.prog W .any base t v := hval0
  have hW' := hW
  obtain ⟨p, q, hA0, hV, rfl, hfz, hnd⟩ := hW
  have hA : DataW.TrodAll enc Try.prog W 0 (fun _ => true) true Try.f9.params.toList args.toList ds p := hA0
  have hsz : (DataW.weightsEach Try.prog (Try.f9.params.toList ++ Rows.positionFewestSpec.plain.varTypes Try.prog) (ds ++ gs)).all (· ≤ reachBytes) = true := hsz0
  rw [Try.params9] at hA hval hsz
  obtain ⟨v0, vs0, d0, ds0, p0, q0, hargs, rfl, rfl, h0, r0⟩ := trodAll_cons hA
  obtain ⟨v1, vs1, d1, ds1, p1, q1, rfl, rfl, rfl, h1, r1⟩ := trodAll_cons r0
  obtain ⟨rfl, rfl, rfl⟩ := trodAll_nil r1
  obtain rfl : args = #[v0, v1] := by cases args; simp_all
  obtain ⟨rfl, rfl⟩ := trodVars_none hV
  obtain ⟨a0, len0, cap0, rfl⟩ := okWide_slice Try.underlying28 (hval 0 28 v0 rfl rfl)
  have k0 := h0
  have lt0 : ∀ x ∈ p0, x.block < W.heap.size := by obtain ⟨m, hm⟩ := k0; exact DataW.trod_lt m _ _ _ hm
  obtain ⟨fuel0, hf0⟩ := h0
  obtain ⟨A0, c0, zs0, hcs0, i0, l0, m0, s0⟩ := open_texts1 hf0
  simp [Value.cells] at hcs0
  obtain ⟨rfl, rfl, rfl⟩ := hcs0
  obtain ⟨a1, len1, cap1, rfl⟩ := okWide_slice Try.underlying34 (hval 1 34 v1 rfl rfl)
  have k1 := h1
  have lt1 : ∀ x ∈ p1, x.block < W.heap.size := by obtain ⟨m, hm⟩ := k1; exact DataW.trod_lt m _ _ _ hm
  obtain ⟨fuel1, hf1⟩ := h1
  obtain ⟨A1, c1, zs1, hcs1, i1, l1⟩ := open_bools1 hf1
  simp [Value.cells] at hcs1
  obtain ⟨rfl, rfl, rfl⟩ := hcs1
  clear hA0 hval0
  simp only [List.append_nil] at hW'
  refine (walk a0 cap0 zs0 a1 cap1 zs1 W i0 l0 m0 s0 i1 l1).mono fun e W' ⟨he, bel⟩ => ?_
  subst he
  exact ⟨_, rfl, _, _, _, [], _, [], hW', trodAll_mk1 (shut_bool Try.underlying4 _), (trodAll_cons_mk (Below.trod laidOut (by kernel_rfl) (of_decide_eq_true (by kernel_rfl)) k0 bel lt0) (trodAll_cons_mk (Below.trod laidOut (by kernel_rfl) (of_decide_eq_true (by kernel_rfl)) k1 bel lt1) trodAll_mk0)), rfl, bel.frame _, fun h => by cases h⟩
theorem proved : Rows.PositionFewestSaid :=
  OpenClaim.holds_of_wide 9 Try.f9 rfl rfl rfl rfl rfl rfl rfl ⟨rfl, rfl, rfl, rfl, rfl⟩ rfl rfl rfl rfl rfl (by kernel_rfl) Try.func9 (by kernel_rfl)
    (of_decide_eq_true (by kernel_rfl)) (by unfold Func.isWrapper; first | (rw [if_pos (by decide +kernel)]; kernel_rfl) | (rw [if_neg (by decide +kernel)]; exact ⟨rfl, rfl⟩))
    (fun os started H enc _ => lifted os started H enc)
#print axioms proved
end Go.Proofs.Ytedlfjolmhkpdaa.positionFewest
