/- The contract of the reference's Rekey. Condition: at most 1,000 keys. -/
import Derived.Test.YtedlfjolmhkpdaaPosRKeep
import Derived.RegionTactic
namespace Go.Proofs.Ytedlfjolmhkpdaa
open Go.RowKit
def RR (ks : List Key) (st : List Bool) (gs g n : Nat) (w : World) (lv iv : Value) (wr : World) : Prop :=
  ∃ (k : Nat) (last : Key) (acc : List Key), k ≤ n ∧ iv = .int .i64 (k : Int) ∧ lv = .string (strL last) ∧ last.length ≤ maxLen ∧ acc.length = k ∧ rekL [] ks st = (rekL last (ks.drop k) (st.drop k)).map (acc ++ ·) ∧
    CAt wr g 9 n (svs (acc ++ List.replicate (n - k) [])) ∧ CAt wr gs 4 n (bls st) ∧ Below w.heap.size w wr
def NxRel (ks : List Key) (st : List Bool) (i n : Nat) (hv tv : Value) : Prop := ∃ m : Nat, i + 1 ≤ m ∧ m ≤ n ∧ tv = .int .i64 ((m : Int) - 1) ∧ hv = .string (strL (nextS (ks.drop m) (st.drop m)))
theorem out_set {acc : List Key} {k n : Nat} (hk : acc.length = k) (hn : k < n) (x : Key) : (svs (acc ++ List.replicate (n - k) [])).set k (.string (strL x)) = svs ((acc ++ [x]) ++ List.replicate (n - (k + 1)) []) := by
  unfold svs
  rw [show (Value.string (strL x)) = (fun x : Key => Value.string (strL x)) x from rfl, ← List.map_set, List.set_append_right _ _ (by omega), hk, Nat.sub_self, show n - k = n - (k + 1) + 1 by omega, List.replicate_succ, List.set_cons_zero, List.append_assoc]
  rfl
set_option maxRecDepth 100000 in
set_option maxHeartbeats 4000000 in
theorem rrekey_any (ks : List Key) (AK : Option Addr) (c : Nat) (w : World) (hT : TAt w AK ks) (hn : ks.length ≤ 1000) (hl : ∀ k ∈ ks, k.length ≤ maxLen) :
    Calls Try.prog 24 #[.slice AK ks.length c] w (SPost (rekeyP ks) w) := by
  by_cases h400 : 400 < ks.length
  · have HR := Lib.hid (show rekeyP ks = [] by unfold rekeyP; rw [if_pos h400])
    clear hT hl
    go_enter Try.func24, Try.ntmps24
    go_wp2
    go_ret
    exact ⟨_, rfl, by rw [HR.out]; exact SRow.nil (Nat.le_refl _), Below.refl _ _⟩
  · have HRK := Lib.hid (show rekeyP ks = (rekL [] ks (keepP ks)).getD (spreadN ks.length) by unfold rekeyP; rw [if_neg h400])
    have HK := Lib.hid (rkeep_any ks AK c w hT hn hl)
    obtain ⟨n, hnn⟩ : ∃ n, n = ks.length := ⟨_, rfl⟩
    obtain ⟨st, hst⟩ : ∃ st, st = keepP ks := ⟨_, rfl⟩
    have HSL := Lib.hid (show st.length = n by rw [hst, keep_len, hnn])
    rw [← hst] at HK HRK
    have HT := Lib.hid hT
    have HL := Lib.hid hl
    have HNN := Lib.hid hnn
    rw [← hnn] at HK HRK hn h400 ⊢
    clear hT hl hnn hst
    go_enter Try.func24, Try.ntmps24
    go_wp2_with fail
    refine HK.out.mono ?_
    rintro e w1 ⟨gs, rfl, hg, hat, hb1⟩
    rw [HSL.out] at hat ⊢
    have HAT := Lib.hid hat
    have HB1 := Lib.hid hb1
    have hmk := make_strings n hn w1
    obtain ⟨C0, hC0⟩ : ∃ C, C = madeCells #[Value.string ⟨#[]⟩] n := ⟨_, rfl⟩
    rw [← hC0] at hmk
    have H0 := Lib.hid (show CAt (w1.alloc (.cells C0 9)) w1.heap.size 9 n (svs (List.replicate n [])) from by
      have h := CAt.whole w1 9 C0 (by rw [hC0, size_madeCells]; unfold maxLen; omega)
      rw [hC0, size_madeCells, made_list, ← hC0] at h
      have e : svs (List.replicate n []) = List.replicate n (.string ⟨#[]⟩) := by unfold svs; simp [strL]
      rw [e]
      exact h)
    clear hat hb1 hg hC0
    go_wp2
    clear hmk
    go_loopw [6, 7] (fun l i wr => RR ks st gs w1.heap.size n w l i wr) (fun _ i _ => n - (intOf i).toNat)
    case atStart =>
      refine ⟨0, [], [], Nat.zero_le _, rfl, rfl, by simp, rfl, ?_, H0.out, HAT.out.alloc _, HB1.out.alloc HB1.out.size _⟩
      rw [List.drop_zero, List.drop_zero]
      cases rekL [] ks st <;> simp
    case round =>
      obtain ⟨k, last, acc, hk, rfl, rfl, hll, hal, hrek, hat, hst, hbl⟩ := hrel
      have HAL := Lib.hid hal
      have HREK := Lib.hid hrek
      have HATR := Lib.hid hat
      have HST := Lib.hid hst
      have HBL := Lib.hid hbl
      have HLL := Lib.hid hll
      clear hal hrek hat hst hbl hll
      by_cases hlt : k < n
      · have hkk : k < ks.length := by rw [← HNN.out]; exact hlt
        have hks : k < st.length := by rw [HSL.out]; exact hlt
        obtain ⟨x, hx⟩ : ∃ x, x = ks[k] := ⟨_, rfl⟩
        obtain ⟨s, hs⟩ : ∃ s, s = st[k] := ⟨_, rfl⟩
        have hgx : ks[k]? = some x := by rw [hx]; exact List.getElem?_eq_getElem hkk
        have hgs : st[k]? = some s := by rw [hs]; exact List.getElem?_eq_getElem hks
        have hdk : ks.drop k = x :: ks.drop (k + 1) := by rw [hx]; exact List.drop_eq_getElem_cons hkk
        have hds : st.drop k = s :: st.drop (k + 1) := by rw [hs]; exact List.drop_eq_getElem_cons hks
        obtain ⟨kb, ko, rfl, hkb, hcs⟩ := HT.out (by rintro rfl; simp at hkk)
        have c1 : wr.cell? ⟨kb, ko + k, none⟩ = some (.string (strL x)) := (HBL.out.cell (p := ⟨kb, ko + k, none⟩) hkb).trans (hcs k x hgx)
        have c2 : wr.cell? ⟨gs, k, none⟩ = some (.bool s) := HST.out.cell (by unfold bls; rw [List.getElem?_map, hgs]; rfl)
        obtain ⟨u, hu⟩ := HATR.out.any hlt
        have huf := HATR.out.frozen k
        have HCS := Lib.hid hcs
        have HXL := Lib.hid (HL.out x (by rw [hx]; exact List.getElem_mem _))
        have HDK := Lib.hid hdk
        have HDS := Lib.hid hds
        clear hx hs hgx hgs hdk hds hcs
        cases s
        · clear c1 hu huf
          go_wp2
          clear c2
          obtain ⟨wo, rfl⟩ : ∃ wo : World, wo = wr := ⟨_, rfl⟩
          go_loop [8, 9] (fun hv tv => NxRel ks st k n hv tv) (fun _ tv => (intOf tv + 1).toNat)
          case atStart =>
            refine ⟨n, hlt, Nat.le_refl _, rfl, ?_⟩
            rw [List.drop_of_length_le (by rw [← HNN.out]; exact Nat.le_refl _)]
            have e : nextS [] (st.drop n) = [] := by cases st.drop n <;> rfl
            rw [e]
            rfl
          case round =>
            obtain ⟨m, hm1, hm2, rfl, rfl⟩ := hrel
            first | (rename wo = wo => hww; clear hww) | skip
            by_cases hmk : k + 1 < m
            · obtain ⟨q, rfl⟩ : ∃ q, m = q + 1 := ⟨m - 1, by omega⟩
              have hqi : (((q + 1 : Nat) : Int) - 1) = (q : Int) := by omega
              rw [hqi]
              have hqn : q < n := by omega
              have hkq : k < q := by omega
              have hqk : q < ks.length := by rw [← HNN.out]; exact hqn
              have hqs : q < st.length := by rw [HSL.out]; exact hqn
              obtain ⟨y, hy⟩ : ∃ y, y = ks[q] := ⟨_, rfl⟩
              obtain ⟨b, hb⟩ : ∃ b, b = st[q] := ⟨_, rfl⟩
              have hgy : ks[q]? = some y := by rw [hy]; exact List.getElem?_eq_getElem hqk
              have hgb : st[q]? = some b := by rw [hb]; exact List.getElem?_eq_getElem hqs
              have hdy : ks.drop q = y :: ks.drop (q + 1) := by rw [hy]; exact List.drop_eq_getElem_cons hqk
              have hdb : st.drop q = b :: st.drop (q + 1) := by rw [hb]; exact List.drop_eq_getElem_cons hqs
              have d1 : wo.cell? ⟨kb, ko + q, none⟩ = some (.string (strL y)) := (HBL.out.cell (p := ⟨kb, ko + q, none⟩) hkb).trans (HCS.out q y hgy)
              have d2 : wo.cell? ⟨gs, q, none⟩ = some (.bool b) := HST.out.cell (by unfold bls; rw [List.getElem?_map, hgb]; rfl)
              cases b
              · have HN := Lib.hid (show nextS (ks.drop q) (st.drop q) = nextS (ks.drop (q + 1)) (st.drop (q + 1)) by rw [hdy, hdb, nextS])
                clear hy hb hgy hgb hdy hdb hqi hm1 hm2
                go_wp2
                go_round
                case rel => exact ⟨q, by omega, by omega, by go_num, by rw [HN.out]⟩
                case measure => simp [intOf]
              · have HN := Lib.hid (show nextS (ks.drop q) (st.drop q) = y by rw [hdy, hdb, nextS])
                clear hy hb hgy hgb hdy hdb hqi hm1 hm2
                go_wp2
                go_round
                case rel => exact ⟨q, by omega, by omega, by go_num, by rw [HN.out]⟩
                case measure => simp [intOf]
            · obtain rfl : m = k + 1 := by omega
              have hmi : (((k + 1 : Nat) : Int) - 1) = (k : Int) := by omega
              rw [hmi]
              obtain ⟨nx, hnx⟩ : ∃ nx, nx = nextS (ks.drop (k + 1)) (st.drop (k + 1)) := ⟨_, rfl⟩
              rw [← hnx]
              have hnxl : nx.length ≤ maxLen := by
                rcases next_mem (ks.drop (k + 1)) (st.drop (k + 1)) with h | h
                · rw [hnx, h]; simp
                · rw [hnx]; exact HL.out _ (List.mem_of_mem_drop h)
              obtain ⟨y, hy⟩ : ∃ y, y = (betweenP last nx).1 := ⟨_, rfl⟩
              obtain ⟨en, hen⟩ : ∃ en, en = (betweenP last nx).2 := ⟨_, rfl⟩
              have hyl : y.length ≤ 60 := by rw [hy]; exact between_len last nx
              have HBT := Lib.hid (fun W => by have h := rbetween_any last nx W HLL.out hnxl; unfold BtwPost at h; rw [← hy, ← hen] at h; exact h : ∀ W, Calls Try.prog 13 #[.string (strL last), .string (strL nx)] W fun e w' => e = .returned (.tuple #[.string (strL y), .int .i64 en]) ∧ Below W.heap.size W w')
              obtain ⟨Y, hY⟩ : ∃ Y, Y = strL y := ⟨_, rfl⟩
              rw [← hY] at HBT
              have HYS := Lib.hid hY
              have HEN := Lib.hid hen
              have HY := Lib.hid hy
              have HNX := Lib.hid hnx
              clear hy hen hY hnx hmi hm1 hm2 hmk
              go_wp2_with fail
              refine (HBT.out _).mono ?_
              rintro e w5 ⟨rfl, hb5⟩
              have B5 := Lib.hid (HBL.out.trans (hb5.mono HBL.out.size))
              have A5 := Lib.hid (HATR.out.below hb5 HATR.out.lt)
              have S5 := Lib.hid (HST.out.below hb5 HST.out.lt)
              clear hb5
              by_cases he : en = 0
              · have he1 : (en != 0) = false := by simp [he]
                have HRN := Lib.hid (show rekL [] ks st = (rekL y (ks.drop (k + 1)) (st.drop (k + 1))).map ((acc ++ [y]) ++ ·) by
                  rw [HREK.out, HDK.out, HDS.out, rek_false (x := y) (by rw [← HNX.out, HY.out, ← he, HEN.out]), map_some])
                obtain ⟨u, hu⟩ := A5.out.any hlt
                have huf := A5.out.frozen k
                have HS := Lib.hid (by have h := A5.out.set (j := k) (.string (strL y)); rw [out_set HAL.out hlt y, ← HYS.out] at h; exact h : CAt (w5.setCell ⟨w1.heap.size, k, none⟩ (.string Y)) w1.heap.size 9 n _)
                have HSS := Lib.hid (S5.out.far (p := ⟨w1.heap.size, k, none⟩) (S5.out.ne A5.out (by decide)) (.string Y))
                have HSB := Lib.hid (B5.out.setCell (p := ⟨w1.heap.size, k, none⟩) (by exact HB1.out.size) (.string Y))
                clear he
                go_wp2
                go_roundw
                case rel => exact ⟨k + 1, y, acc ++ [y], hlt, by go_num, by rw [← HYS.out], by unfold maxLen; omega, by rw [List.length_append, HAL.out]; rfl, HRN.out, HS.out, HSS.out, HSB.out⟩
                case measure => simp [intOf]; omega
              · have he1 : (en != 0) = true := by simp [he]
                have HRS := Lib.hid (show rekeyP ks = spreadN n by
                  rw [HRK.out, HREK.out, HDK.out, HDS.out, rek_fail (by rw [← HNX.out, ← HEN.out]; exact he), HNN.out]
                  rfl)
                have HSP := Lib.hid (fun W => by have h := rspread_any (n : Int) W; rw [show spreadI (n : Int) = spreadN n by unfold spreadI; rw [if_neg (by omega), Int.toNat_natCast]] at h; exact h : ∀ W, Calls Try.prog 18 #[.int .i64 (n : Int)] W (SprPost (spreadN n) W))
                clear he
                go_wp2_with fail
                refine (HSP.out _).mono ?_
                rintro e w6 ⟨v6, rfl, hr6, hb6⟩
                have HR6 := Lib.hid hr6
                have HB6 := Lib.hid hb6
                clear hr6 hb6
                go_wp2
                go_ret
                exact ⟨v6, rfl, by rw [HRS.out]; exact ⟨ownsRow_low HR6.out.1 B5.out.size, Nat.le_trans B5.out.size HB6.out.size⟩, B5.out.trans (HB6.out.mono B5.out.size)⟩
        · have HNX := Lib.hid (show rekL [] ks st = (rekL x (ks.drop (k + 1)) (st.drop (k + 1))).map ((acc ++ [x]) ++ ·) by
            rw [HREK.out, HDK.out, HDS.out, rek_true, map_some])
          obtain ⟨X, hX⟩ : ∃ X, X = strL x := ⟨_, rfl⟩
          rw [← hX] at c1
          have HX := Lib.hid hX
          have i1 : (0 : Int) ≤ (k : Int) := by omega
          have i2 : (k : Int) < (n : Int) := by omega
          clear hX
          have HS := Lib.hid (by have h := HATR.out.set (j := k) (.string (strL x)); rw [out_set HAL.out hlt x, ← HX.out] at h; exact h : CAt (wr.setCell ⟨w1.heap.size, k, none⟩ (.string X)) w1.heap.size 9 n _)
          have HSS := Lib.hid (HST.out.far (p := ⟨w1.heap.size, k, none⟩) (HST.out.ne HATR.out (by decide)) (.string X))
          have HSB := Lib.hid (HBL.out.setCell (p := ⟨w1.heap.size, k, none⟩) (by exact HB1.out.size) (.string X))
          go_wp2
          go_region
          all_goals
            go_wp2
            go_roundw
            case rel => exact ⟨k + 1, x, acc ++ [x], hlt, by go_num, by rw [← HX.out], HXL.out, by rw [List.length_append, HAL.out]; rfl, HNX.out, by first | exact HS.out | exact HS.out.keep rfl, by first | exact HSS.out | exact HSS.out.keep rfl, by first | exact HSB.out | exact HSB.out.drew⟩
            case measure => simp [intOf]; omega
      · have hkn : k = n := by omega
        have HF := Lib.hid (show rekeyP ks = acc by
          rw [HRK.out, HREK.out, List.drop_of_length_le (by rw [← HNN.out, hkn]; exact Nat.le_refl _)]
          rw [rekL]
          simp)
        have HR := Lib.hid (show SRow wr w.heap.size (.slice (some ⟨w1.heap.size, 0, none⟩) n n) acc from by
          have h := CAt.row (B := w.heap.size) HATR.out HB1.out.size
          have e : n - n = 0 := by omega
          rw [hkn, e, List.replicate_zero, List.append_nil, svs_len, HAL.out, hkn] at h
          refine ⟨?_, HBL.out.size⟩
          rw [HAL.out, hkn]
          exact h)
        clear hkn
        go_wp2
        go_ret
        exact ⟨_, rfl, by rw [HF.out]; exact HR.out, HBL.out⟩
end Go.Proofs.Ytedlfjolmhkpdaa
