/- The law PositionStays holds for every input: the call returns true, and each argument reads as it read. No condition. -/
import Derived.Test.YtedlfjolmhkpdaaPosOpen
import Derived.ProofKit
import Derived.OpenShut
import Derived.ShutString
import Derived.ChangeOld
import Derived.SizedLaws
namespace Go.Proofs.Ytedlfjolmhkpdaa.positionStays
open Go.ChangeShapes Go.WideShapes Go.ChangeAt Go.RowKit
open Go.ChangeMaps (open_string shut_string)
set_option linter.unusedVariables false
theorem own : ownKnob Try.prog.godebug = none := by kernel_rfl
theorem laidOut : laidOutB Try.prog = true := by kernel_rfl
attribute [local go_sem 2000] str_gtr str_leq
theorem srow_cap {w : World} {B n c : Nat} {A : Option Addr} {l : List Key} (h : SRow w B (.slice A n c) l) : l.length ≤ c := by
  rcases h.1.2 with ⟨hv, h0⟩ | ⟨g, cap, cur, hv, _, _, hnc, _⟩
  · rw [h0]; exact Nat.zero_le _
  · injection hv with _ _ hc
    rw [hc]
    exact hnc
set_option maxRecDepth 100000 in
set_option maxHeartbeats 4000000 in
theorem walk (A0 : Option Addr) (cap0 : Nat) (zs0 : List Key) (w : World) (i0 : TAt w A0 zs0) (l0 : zs0.length ≤ cap0) (m0 : cap0 ≤ maxLen) (s0 : ∀ k ∈ zs0, k.length ≤ maxLen) :
    Calls Try.prog 10 #[.slice A0 zs0.length cap0] w fun e w' => e = .returned (.bool true) ∧ Below w.heap.size w w' := by
  have HL := Lib.hid (fun W (h : TAt W A0 zs0) => light_any A0 cap0 zs0 W h (by omega) s0)
  have HT := Lib.hid i0
  cases hb : lightB zs0
  · have HLW := Lib.hid (by have h := HL.out w HT.out; rw [hb] at h; exact h : Calls Try.prog 19 #[.slice A0 zs0.length cap0] w fun e w' => e = .returned (.bool false) ∧ w = w')
    clear hb i0 s0
    go_enter Try.func10, Try.ntmps10
    go_wp2_with (first | (go_at_call 19; (with_reducible refine HLW.out.mono ?_); rintro e w' ⟨rfl, rfl⟩) | (go_at_call 11; refine (awake_any _).mono ?_; rintro e w1 ⟨rfl, hb1⟩; have HB1 := Lib.hid hb1; clear hb1))
    go_ret
    exact ⟨rfl, HB1.out⟩
  · have HLW := Lib.hid (by have h := HL.out w HT.out; rw [hb] at h; exact h : Calls Try.prog 19 #[.slice A0 zs0.length cap0] w fun e w' => e = .returned (.bool true) ∧ w = w')
    have hn60 := ((light_iff zs0).1 hb).1
    have HR := Lib.hid (rekey_any zs0 A0 cap0 w i0 (by omega) l0 s0)
    have HS := Lib.hid s0
    have HKA := Lib.hid (fun W (h : TAt W A0 zs0) => keep_any zs0 A0 cap0 W h (by omega) s0)
    obtain ⟨f1, f2, f3⟩ := rekey_facts zs0 (by omega)
    have HAG := Lib.hid (rekey_again zs0 (by omega))
    obtain ⟨n, hn⟩ : ∃ n, n = zs0.length := ⟨_, rfl⟩
    obtain ⟨st, hst⟩ : ∃ st, st = keepP zs0 := ⟨_, rfl⟩
    obtain ⟨l, hl⟩ : ∃ l, l = rekeyP zs0 := ⟨_, rfl⟩
    have HSL := Lib.hid (show st.length = n by rw [hst, keep_len, hn])
    rw [← hl] at f1 f2 f3 HR HAG
    rw [← hst] at f3 HKA
    rw [← hn] at f1 f3 HLW HR HKA hn60 ⊢
    have HASC := Lib.hid f2
    have HF3 := Lib.hid f3
    have HLL := Lib.hid f1
    have HN := Lib.hid hn
    have HSP := Lib.hid (fun W => by have h := spread_any (n : Int) W; rw [show spreadI (n : Int) = spreadN n by unfold spreadI; rw [if_neg (by omega), Int.toNat_natCast]] at h; exact h : ∀ W, Calls Try.prog 16 #[.int .i64 (n : Int)] W (SprPost (spreadN n) W))
    clear hb i0 s0 hn hst hl f1 f2 f3 l0 m0 HL
    go_enter Try.func10, Try.ntmps10
    go_wp2_with ((go_at_call 19; (with_reducible refine HLW.out.mono ?_); rintro e w' ⟨rfl, rfl⟩))
    refine HR.out.mono ?_
    rintro e w1 ⟨v1, rfl, hr1, hb1⟩
    obtain ⟨A1, c1, rfl⟩ := hr1.form
    rw [HLL.out]
    have HR1 := Lib.hid hr1
    have HB1 := Lib.hid hb1
    have HKC := Lib.hid (HKA.out w1 (HT.out.keep hb1))
    clear hr1 hb1
    go_wp2_with fail
    refine HKC.out.mono ?_
    rintro e w2 ⟨gs, rfl, hg, hat, hb2⟩
    rw [HSL.out] at hat ⊢
    have HR2 := Lib.hid (HR1.out.keep hb2)
    have HAT2 := Lib.hid hat
    have HB2 := Lib.hid (HB1.out.trans (hb2.mono HB1.out.size))
    clear hg hat hb2
    go_wp2_with fail
    refine (HSP.out _).mono ?_
    rintro e w3 ⟨v3, rfl, hr3, hb3⟩
    obtain ⟨A3, c3, rfl⟩ := hr3.form
    have HR3 := Lib.hid (HR2.out.keep hb3)
    have HAT3 := Lib.hid (HAT2.out.below hb3 HAT2.out.lt)
    have HB3 := Lib.hid (HB2.out.trans (hb3.mono HB2.out.size))
    have hst := texts_any A1 A3 c1 c3 l (spreadN n) w3 HR3.out.texts.2 hr3.texts.2 (by rw [HLL.out]; unfold maxLen; omega)
    obtain ⟨sp, hsp⟩ : ∃ sp, sp = decide (l = spreadN n) := ⟨_, rfl⟩
    rw [← hsp, HLL.out] at hst
    have HST := Lib.hid hst
    have HSPB := Lib.hid hsp
    clear hr3 hb3 hst hsp
    go_wp2_with fail
    refine HST.out.mono ?_
    rintro e w4 ⟨rfl, q4, hw4⟩
    have B34 := Lib.hid (show Below w3.heap.size w3 w4 by rw [hw4]; exact drewN_b _ _ _)
    have HR4 := Lib.hid (HR3.out.keep B34.out)
    have HAT4 := Lib.hid (HAT3.out.below B34.out HAT3.out.lt)
    have HB4 := Lib.hid (HB3.out.trans (B34.out.mono HB3.out.size))
    clear hw4
    go_wp2
    go_loopw [6] (fun i wr => ∃ k : Nat, k ≤ n ∧ i = .int .i64 (k : Int) ∧ Below w4.heap.size w4 wr) (fun i _ => n - (intOf i).toNat)
    case atStart => exact ⟨0, Nat.zero_le _, rfl, Below.refl _ _⟩
    case round =>
      obtain ⟨k, hk, rfl, hbl⟩ := hrel
      have HBL := Lib.hid hbl
      clear hbl
      by_cases hlt : k < n
      · obtain ⟨g, c', hv, _, hg, hat⟩ := HR4.out.at (by rw [HLL.out]; omega)
        injection hv with hA _ hc'
        subst hA hc'
        have hkl : k < l.length := by rw [HLL.out]; exact hlt
        have hks : k < st.length := by rw [HSL.out]; exact hlt
        have hkk : k < zs0.length := by rw [← HN.out]; exact hlt
        obtain ⟨x, hx⟩ : ∃ x, x = l[k] := ⟨_, rfl⟩
        obtain ⟨s, hs⟩ : ∃ s, s = st[k] := ⟨_, rfl⟩
        obtain ⟨z, hz⟩ : ∃ z, z = zs0[k] := ⟨_, rfl⟩
        have hgx : l[k]? = some x := by rw [hx]; exact List.getElem?_eq_getElem hkl
        have hgs : st[k]? = some s := by rw [hs]; exact List.getElem?_eq_getElem hks
        have hgz : zs0[k]? = some z := by rw [hz]; exact List.getElem?_eq_getElem hkk
        have hvx := (asc_at l [] HASC.out k x hgx).1
        obtain ⟨kb, ko, rfl, hkb, hcs⟩ := HT.out (by rintro rfl; simp at hkk)
        have c1 : wr.cell? ⟨g, k, none⟩ = some (.string (strL x)) := (HBL.out.cell (p := ⟨g, k, none⟩) hg).trans (hat k x hgx)
        have c2 : wr.cell? ⟨gs, k, none⟩ = some (.bool s) := (HBL.out.cell (p := ⟨gs, k, none⟩) HAT4.out.lt).trans (HAT4.out.cell (by unfold bls; rw [List.getElem?_map, hgs]; rfl))
        have c3 : wr.cell? ⟨kb, ko + k, none⟩ = some (.string (strL z)) := ((HB4.out.trans (HBL.out.mono HB4.out.size)).cell (p := ⟨kb, ko + k, none⟩) hkb).trans (hcs k z hgz)
        have hway : s = false ∨ s = true ∧ x = z ∨ s = true ∧ ¬ x = z ∧ sp = true := by
          cases hsv : s
          · exact .inl rfl
          · by_cases hxz : x = z
            · exact .inr (.inl ⟨rfl, hxz⟩)
            · refine .inr (.inr ⟨rfl, hxz, ?_⟩)
              rcases HF3.out with h | h
              · rw [HSPB.out]; exact decide_eq_true h
              · have h1 := h k (by rw [hgs, hsv])
                rw [hgx, hgz] at h1
                injection h1 with h1
                exact absurd h1 hxz
        obtain ⟨X, hX⟩ : ∃ X, X = strL x := ⟨_, rfl⟩
        obtain ⟨Z, hZ⟩ : ∃ Z, Z = strL z := ⟨_, rfl⟩
        have HV := Lib.hid (fun W => by have h := valid_list x W (by have := ((vld_iff x).1 hvx).2.1; unfold maxLen; omega); rw [hvx, ← hX] at h; exact h.mono fun _ _ ⟨a, b⟩ => ⟨a, b.symm⟩ : ∀ W, Calls Try.prog 14 #[.string X] W fun e w' => e = .returned (.bool true) ∧ w' = W)
        have hXZ : (X.toList == Z.toList) = decide (x = z) := by rw [hX, hZ, strL_toList, strL_toList]; by_cases h : x = z <;> simp [h]
        rw [← hX] at c1
        rw [← hZ] at c3
        cases k with
        | zero =>
          have g0 : decide ((0 : Int) < ((0 : Nat) : Int)) = false := by decide
          have h0n : (0 : Int) < (n : Int) := by omega
          rw [Nat.add_zero] at c3
          clear hx hgx hvx hat hX hs hz hgs hgz hZ hcs hkl hks hkk
          rcases hway with hw1 | ⟨hw1, hw2⟩ | ⟨hw1, hw2, hw3⟩
          · subst hw1
            clear hXZ
            go_wp2
            go_quiet ((go_at_call 14; exact Calls.quiet_of_same (HV.out _)))
            go_wp2
            go_roundw
            case rel => exact ⟨1, hlt, rfl, HBL.out.trans (drewN_b _ _ _)⟩
            case measure => first | (simp [intOf]; done) | (simp [intOf]; omega)
          · subst hw1
            rw [decide_eq_true hw2] at hXZ
            clear hw2
            go_wp2
            go_quiet ((go_at_call 14; exact Calls.quiet_of_same (HV.out _)))
            go_wp2
            go_roundw
            case rel => exact ⟨1, hlt, rfl, HBL.out.trans (drewN_b _ _ _)⟩
            case measure => first | (simp [intOf]; done) | (simp [intOf]; omega)
          · subst hw1 hw3
            rw [decide_eq_false hw2] at hXZ
            clear hw2
            go_wp2
            go_quiet ((go_at_call 14; exact Calls.quiet_of_same (HV.out _)))
            go_wp2
            go_roundw
            case rel => exact ⟨1, hlt, rfl, HBL.out.trans (drewN_b _ _ _)⟩
            case measure => first | (simp [intOf]; done) | (simp [intOf]; omega)
        | succ j =>
          have hjl : j < l.length := by omega
          obtain ⟨y, hy⟩ : ∃ y, y = l[j] := ⟨_, rfl⟩
          have hgy : l[j]? = some y := by rw [hy]; exact List.getElem?_eq_getElem hjl
          have c4 : wr.cell? ⟨g, j, none⟩ = some (.string (strL y)) := (HBL.out.cell (p := ⟨g, j, none⟩) hg).trans (hat j y hgy)
          obtain ⟨Y, hY⟩ : ∃ Y, Y = strL y := ⟨_, rfl⟩
          rw [← hY] at c4
          have hless : Op.bytesLess Y.toList X.toList = true := by
            rw [hX, hY, strL_toList, strL_toList]
            exact (asc_at l [] HASC.out j y hgy).2 x hgx
          have g0 : decide ((0 : Int) < (j : Int) + 1) = true := decide_eq_true (by omega)
          have j0 : (0 : Int) ≤ (j : Int) := by omega
          have j1 : (j : Int) < (n : Int) := by omega
          have j2 : (0 : Int) ≤ (j : Int) + 1 := by omega
          have j3 : (j : Int) + 1 < (n : Int) := by omega
          have t1 : ((j : Int) + 1).toNat = j + 1 := by omega
          have t2 : (j : Int) + 1 - 1 = (j : Int) := by omega
          have t3 : IntKind.i64.wrap ((j : Int) + 1 - 1) = (j : Int) := by rw [t2]; exact IntWalk.i64_in _ (by omega)
          have t4 : IntKind.i64.wrap (j : Int) = (j : Int) := IntWalk.i64_in _ (by omega)
          have HLT := Lib.hid hlt
          have HLJ := Lib.hid (show n - (j + 1 + 1) < n - (j + 1) by omega)
          clear hx hgx hvx hat hX hy hgy hY hjl hkl hs hz hgs hgz hZ hcs hks hkk
          rcases hway with hw1 | ⟨hw1, hw2⟩ | ⟨hw1, hw2, hw3⟩
          · subst hw1
            clear hXZ
            go_wp2
            go_quiet ((go_at_call 14; exact Calls.quiet_of_same (HV.out _)))
            go_wp2
            go_roundw
            case rel => exact ⟨j + 1 + 1, HLT.out, by go_num, HBL.out.trans (drewN_b _ _ _)⟩
            case measure => simp [intOf]; omega
          · subst hw1
            rw [decide_eq_true hw2] at hXZ
            clear hw2
            go_wp2
            go_quiet ((go_at_call 14; exact Calls.quiet_of_same (HV.out _)))
            go_wp2
            go_roundw
            case rel => exact ⟨j + 1 + 1, HLT.out, by go_num, HBL.out.trans (drewN_b _ _ _)⟩
            case measure => simp [intOf]; omega
          · subst hw1 hw3
            rw [decide_eq_false hw2] at hXZ
            clear hw2
            go_wp2
            go_quiet ((go_at_call 14; exact Calls.quiet_of_same (HV.out _)))
            go_wp2
            go_roundw
            case rel => exact ⟨j + 1 + 1, HLT.out, by go_num, HBL.out.trans (drewN_b _ _ _)⟩
            case measure => simp [intOf]; omega
      · have B5 := Lib.hid (HB4.out.trans (HBL.out.mono HB4.out.size))
        go_wp2_with fail
        refine (awake_any _).mono ?_
        rintro e w6 ⟨rfl, hb6⟩
        have B6 := Lib.hid (B5.out.trans (hb6.mono B5.out.size))
        have R6 := Lib.hid (HR4.out.keep (HBL.out.trans (hb6.mono HBL.out.size)))
        clear hb6
        have hrk := rekey_any l A1 c1 w6 R6.out.texts.2 (by rw [HLL.out]; omega) (srow_cap R6.out) (fun k hk => by
          obtain ⟨j, hj⟩ := List.getElem?_of_mem hk
          have := ((vld_iff k).1 (asc_at l [] HASC.out j k hj).1).2.1
          unfold maxLen
          omega)
        rw [HLL.out, HAG.out] at hrk
        have HRK := Lib.hid hrk
        clear hrk
        go_wp2_with fail
        refine HRK.out.mono ?_
        rintro e w7 ⟨v7, rfl, hr7, hb7⟩
        obtain ⟨A7, c7, rfl⟩ := hr7.form
        have B7 := Lib.hid (B6.out.trans (hb7.mono B6.out.size))
        have hst := texts_any A7 A1 c7 c1 l l w7 hr7.texts.2 (R6.out.keep hb7).texts.2 (by rw [HLL.out]; unfold maxLen; omega)
        rw [decide_eq_true rfl] at hst
        rw [HLL.out] at hst ⊢
        have HST2 := Lib.hid hst
        clear hr7 hb7 hst
        go_wp2_with fail
        refine HST2.out.mono ?_
        rintro e w8 ⟨rfl, q8, rfl⟩
        go_wp2
        go_ret
        exact ⟨ret_bool (by simp), B7.out.trans (drewN_b _ _ _)⟩
set_option maxRecDepth 100000 in
theorem lifted (os : Os) (started : os.Started) (H : Type) (enc : TypeId × Value → H) :
    ReturnsInHanded {} Try.checked os 10 .any (Rows.positionStaysSpec.pre6 enc Try.prog Try.f10 Rows.positionStaysRow.domain false) (Rows.positionStaysSpec.post enc Try.prog Try.f10 false true false false) := by
  refine returnsInHanded_of_change_sized (C := Try.checked) own started (by kernel_rfl) Try.func10
    (ChangeSpec.witness6 (enc := enc) (C := Try.checked) false ⟨#[], #[.slice none 0 0], []⟩ 8 (by kernel_rfl) (by kernel_rfl) (by kernel_rfl) (by kernel_rfl)) ?_
  intro W base args ds gs before hval0 hW hcnd hsz0 _
  have hval : ∀ (j : Nat) t v, Try.f10.params[j]? = some t → args[j]? = some v → Value.okWide Try.prog W .any base t v := hval0
  have hW' := hW
  obtain ⟨p, q, hA0, hV, rfl, hfz, hnd⟩ := hW
  have hA : DataW.TrodAll enc Try.prog W 0 (fun _ => true) true Try.f10.params.toList args.toList ds p := hA0
  have hsz : (DataW.weightsEach Try.prog (Try.f10.params.toList ++ Rows.positionStaysSpec.plain.varTypes Try.prog) (ds ++ gs)).all (· ≤ reachBytes) = true := hsz0
  rw [Try.params10] at hA hval hsz
  obtain ⟨v0, vs0, d0, ds0, p0, q0, hargs, rfl, rfl, h0, r0⟩ := trodAll_cons hA
  obtain ⟨rfl, rfl, rfl⟩ := trodAll_nil r0
  obtain rfl : args = #[v0] := by cases args; simp_all
  obtain ⟨rfl, rfl⟩ := trodVars_none hV
  obtain ⟨a0, len0, cap0, rfl⟩ := okWide_slice Try.underlying28 (hval 0 28 v0 rfl rfl)
  have k0 := h0
  have lt0 : ∀ x ∈ p0, x.block < W.heap.size := by obtain ⟨m, hm⟩ := k0; exact DataW.trod_lt m _ _ _ hm
  obtain ⟨fuel0, hf0⟩ := h0
  obtain ⟨A0, c0, zs0, hcs0, i0, l0, m0, s0⟩ := open_texts1 hf0
  simp [Value.cells] at hcs0
  obtain ⟨rfl, rfl, rfl⟩ := hcs0
  clear hA0 hval0
  simp only [List.append_nil] at hW'
  refine (walk a0 cap0 zs0 W i0 l0 m0 s0).mono fun e W' ⟨he, bel⟩ => ?_
  subst he
  exact ⟨_, rfl, _, _, _, [], _, [], hW', trodAll_mk1 (shut_bool Try.underlying4 _), (trodAll_cons_mk (Below.trod laidOut (by kernel_rfl) (of_decide_eq_true (by kernel_rfl)) k0 bel lt0) trodAll_mk0), rfl, bel.frame _, fun h => by cases h⟩
theorem proved : Rows.PositionStaysSaid :=
  OpenClaim.holds_of_wide 10 Try.f10 rfl rfl rfl rfl rfl rfl rfl ⟨rfl, rfl, rfl, rfl, rfl⟩ rfl rfl rfl rfl rfl (by kernel_rfl) Try.func10 (by kernel_rfl)
    (of_decide_eq_true (by kernel_rfl)) (by unfold Func.isWrapper; first | (rw [if_pos (by decide +kernel)]; kernel_rfl) | (rw [if_neg (by decide +kernel)]; exact ⟨rfl, rfl⟩))
    (fun os started H enc _ => lifted os started H enc)
#print axioms proved
end Go.Proofs.Ytedlfjolmhkpdaa.positionStays
