/- The contract of the reference's Keep. Condition: at most 1,000 keys. -/
import Derived.Test.YtedlfjolmhkpdaaPosRekey
import Derived.IntWalk
namespace Go.Proofs.Ytedlfjolmhkpdaa
open Go.RowKit
attribute [local go_sem 2000] str_gtr str_leq
theorem drewN_b (B : Nat) (w : World) (q : Nat) : Below B w (w.drewN q) := ⟨rfl, rfl, rfl, Nat.le_refl _, fun _ _ => rfl⟩
def foldT (k : Key) (ps : List (Key × Nat)) (m : Nat) : Nat := (ps.take m).foldl (stepB k) 1
theorem foldT_next {k : Key} {ps : List (Key × Nat)} {m : Nat} {p : Key × Nat} (h : ps[m]? = some p) : foldT k ps (m + 1) = stepB k (foldT k ps m) p := by
  have hm := (List.getElem?_eq_some_iff.1 h).1
  have hp := (List.getElem?_eq_some_iff.1 h).2
  unfold foldT
  rw [List.take_succ_eq_append_getElem hm, List.foldl_append, hp]
  rfl
theorem foldT_all (k : Key) (ps : List (Key × Nat)) : foldT k ps ps.length = ps.foldl (stepB k) 1 := by unfold foldT; rw [List.take_length]
theorem foldT_le (k : Key) (r : List Key) : (m : Nat) → foldT k (r.zip (bestP r)) m ≤ r.length + 1
  | 0 => by
    show 1 ≤ _
    omega
  | m + 1 => by
    have ih := foldT_le k r m
    rcases Nat.lt_or_ge m (r.zip (bestP r)).length with h | h
    · rw [foldT_next (List.getElem?_eq_getElem h)]
      unfold stepB
      split
      · have := best_le r (r.zip (bestP r))[m].1 (r.zip (bestP r))[m].2 (List.getElem_mem h)
        omega
      · exact ih
    · unfold foldT at ih ⊢
      rw [List.take_of_length_le (by omega)]
      rw [List.take_of_length_le h] at ih
      exact ih
def R1 (ks : List Key) (g n : Nat) (w : World) (iv : Value) (wr : World) : Prop := ∃ j : Nat, j ≤ n ∧ iv = .int .i64 ((j : Int) - 1) ∧ CAt wr g 3 n (ivs (List.replicate j 0 ++ bestP (ks.drop j))) ∧ Below w.heap.size w wr
def R2 (k : Key) (r : List Key) (g n j : Nat) (w : World) (tv : Value) (wr : World) : Prop := ∃ m : Nat, m ≤ r.length ∧ tv = .int .i64 ((j + 1 + m : Nat) : Int) ∧ CAt wr g 3 n (ivs (List.replicate j 0 ++ foldT k (r.zip (bestP r)) m :: bestP r)) ∧ Below w.heap.size w wr
def R4 (ks : List Key) (bs : List Nat) (gc g n : Nat) (w : World) (mv lv iv : Value) (wr : World) : Prop :=
  ∃ (i x : Nat) (last : Key) (p : List Bool), i ≤ n ∧ iv = .int .i64 (i : Int) ∧ mv = .int .i64 (x : Int) ∧ x ≤ 1000 ∧ lv = .string (strL last) ∧ p.length = i ∧ stayR ks bs (maxP bs) [] = p ++ stayR (ks.drop i) (bs.drop i) x last ∧ CAt wr g 4 n (bls (p ++ List.replicate (n - i) false)) ∧ CAt wr gc 3 n (ivs bs) ∧ Below w.heap.size w wr
theorem rep_set (j a : Nat) (l : List Nat) (x y : Nat) : (ivs (List.replicate j x ++ y :: l)).set j (.int .i64 (a : Int)) = ivs (List.replicate j x ++ a :: l) := by
  unfold ivs
  rw [show (Value.int .i64 (a : Int)) = (fun n : Nat => Value.int .i64 (n : Int)) a from rfl, ← List.map_set, List.set_append_right _ _ (by simp), List.length_replicate, Nat.sub_self]
  rfl
set_option maxRecDepth 100000 in
set_option maxHeartbeats 4000000 in
theorem rkeep_any (ks : List Key) (AK : Option Addr) (c : Nat) (w : World) (hT : TAt w AK ks) (hn : ks.length ≤ 1000) (hl : ∀ k ∈ ks, k.length ≤ maxLen) :
    Calls Try.prog 22 #[.slice AK ks.length c] w (KeepPost (keepP ks) w) := by
  obtain ⟨n, hnn⟩ : ∃ n, n = ks.length := ⟨_, rfl⟩
  have hmk := make_ints n (by omega) w
  obtain ⟨C0, hC0⟩ : ∃ C, C = madeCells #[Value.int .i64 0] n := ⟨_, rfl⟩
  rw [← hC0] at hmk
  have H0 := Lib.hid (show CAt (w.alloc (.cells C0 3)) w.heap.size 3 n (ivs (List.replicate n 0)) from by
    have h := CAt.whole w 3 C0 (by rw [hC0, size_madeCells]; unfold maxLen; omega)
    rw [hC0, size_madeCells, made_list, ← hC0] at h
    have e : ivs (List.replicate n 0) = List.replicate n (.int .i64 0) := by unfold ivs; simp
    rw [e]
    exact h)
  have HKR := Lib.hid (keep_ref ks)
  have HKL := Lib.hid (show (keepP ks).length = n by rw [keep_len, hnn])
  have HBL := Lib.hid (show (bestP ks).length = n by rw [best_len, hnn])
  have HALL := Lib.hid (show ∀ x ∈ bestP ks, x ≤ n by rw [hnn]; exact best_all ks)
  have HT := Lib.hid hT
  have HL := Lib.hid hl
  have HNN := Lib.hid hnn
  rw [← hnn] at hn ⊢
  clear hT hl hnn hC0
  go_enter Try.func22, Try.ntmps22
  go_wp2
  clear hmk
  go_loopw [5] (fun iv wr => R1 ks w.heap.size n w iv wr) (fun iv _ => (intOf iv + 1).toNat)
  case atStart =>
    refine ⟨n, Nat.le_refl _, rfl, ?_, (Below.refl _ _).alloc (Nat.le_refl _) _⟩
    rw [List.drop_of_length_le (by rw [← HNN.out]; exact Nat.le_refl _)]
    show CAt _ _ _ _ (ivs (List.replicate n 0 ++ []))
    rw [List.append_nil]
    exact H0.out
  case round =>
    obtain ⟨j', hj, rfl, hat, hbl⟩ := hrel
    have HAT := Lib.hid hat
    have HB := Lib.hid hbl
    clear hat hbl
    by_cases h0 : j' = 0
    · subst h0
      obtain ⟨wo, rfl⟩ : ∃ wo : World, wo = wr := ⟨_, rfl⟩
      obtain ⟨bs, hbs⟩ : ∃ bs, bs = bestP ks := ⟨_, rfl⟩
      have HC := Lib.hid (show CAt wo w.heap.size 3 n (ivs bs) from by have h := HAT.out; rw [List.drop_zero, ← hbs] at h; exact h)
      rw [← hbs] at HKR HBL HALL
      have hmk := make_bools n hn wo
      rw [show (((0 : Nat) : Int) - 1) = -1 from rfl]
      clear hbs hj HAT
      go_wp2
      go_loop [7, 8] (fun m i => MaxRel bs m i) (fun _ i => n - (intOf i).toNat)
      case atStart => exact ⟨0, Nat.zero_le _, rfl, rfl⟩
      case round =>
        obtain ⟨k, hk, rfl, rfl⟩ := hrel
        first | (rename wo = wo => hww; clear hww) | skip
        rw [HBL.out] at hk
        by_cases hlt : k < n
        · have hkb : k < bs.length := by rw [HBL.out]; exact hlt
          obtain ⟨x, hx⟩ : ∃ x, x = bs[k] := ⟨_, rfl⟩
          have hgx : bs[k]? = some x := by rw [hx]; exact List.getElem?_eq_getElem hkb
          have hcell := HC.out.cell (ivs_get hgx)
          have hxn : x ≤ n := HALL.out x (by rw [hx]; exact List.getElem_mem _)
          have hms := max_snoc bs k hkb
          rw [← hx] at hms
          obtain ⟨m, hm⟩ : ∃ m, m = maxP (bs.take k) := ⟨_, rfl⟩
          rw [← hm] at hms ⊢
          have HMS := Lib.hid hms
          clear hx hgx hms hm hmk
          go_wp2
          go_round
          case rel => exact ⟨k + 1, hkb, by go_num, by rw [HMS.out]; first | rfl | (congr 1; omega)⟩
          case measure => simp [intOf]; omega
        · have hkn : k = n := by omega
          obtain ⟨x0, hx0⟩ : ∃ x0, x0 = maxP (bs.take k) := ⟨_, rfl⟩
          have hxm : x0 = maxP bs := by rw [hx0, hkn, ← HBL.out, List.take_length]
          have hx0n : x0 ≤ n := by rw [hxm]; exact max_le HALL.out
          rw [← hx0]
          have HXM := Lib.hid hxm
          obtain ⟨C1, hC1⟩ : ∃ C, C = madeCells #[Value.bool false] n := ⟨_, rfl⟩
          rw [← hC1] at hmk
          have H1 := Lib.hid (show CAt (wo.alloc (.cells C1 4)) wo.heap.size 4 n (bls (List.replicate n false)) from by
            have h := CAt.whole wo 4 C1 (by rw [hC1, size_madeCells]; unfold maxLen; omega)
            rw [hC1, size_madeCells, made_list, ← hC1] at h
            have e : bls (List.replicate n false) = List.replicate n (.bool false) := by unfold bls; simp
            rw [e]
            exact h)
          clear hkn hx0 hxm hC1 hk
          go_wp2
          clear hmk
          go_loopw [7, 10, 11] (fun m l i wr => R4 ks bs w.heap.size wo.heap.size n w m l i wr) (fun _ _ i _ => n - (intOf i).toNat)
          case atStart =>
            refine ⟨0, x0, [], [], Nat.zero_le _, rfl, rfl, by omega, rfl, rfl, ?_, H1.out, HC.out.alloc _, HB.out.alloc HB.out.size _⟩
            rw [HXM.out]; rfl
          case round =>
            obtain ⟨i, x, last, p, hi, rfl, rfl, hx1, rfl, hpl, hst, hat5, hct, hbl5⟩ := hrel
            have HST := Lib.hid hst
            have HAT5 := Lib.hid hat5
            have HCT := Lib.hid hct
            have HBL5 := Lib.hid hbl5
            have HPL := Lib.hid hpl
            clear hst hat5 hct hbl5 hpl
            by_cases hlt : i < n
            · have hib : i < bs.length := by rw [HBL.out]; exact hlt
              have hik : i < ks.length := by rw [← HNN.out]; exact hlt
              obtain ⟨y, hy⟩ : ∃ y, y = bs[i] := ⟨_, rfl⟩
              obtain ⟨k, hk⟩ : ∃ k, k = ks[i] := ⟨_, rfl⟩
              have hgy : bs[i]? = some y := by rw [hy]; exact List.getElem?_eq_getElem hib
              have hgk : ks[i]? = some k := by rw [hk]; exact List.getElem?_eq_getElem hik
              have hyn : y ≤ n := HALL.out y (by rw [hy]; exact List.getElem_mem _)
              have hdb : bs.drop i = y :: bs.drop (i + 1) := by rw [hy]; exact List.drop_eq_getElem_cons hib
              have hdk : ks.drop i = k :: ks.drop (i + 1) := by rw [hk]; exact List.drop_eq_getElem_cons hik
              have hcell := HCT.out.cell (ivs_get hgy)
              obtain ⟨kb, ko, rfl, hkb, hcs⟩ := HT.out (by rintro rfl; simp at hik)
              have hck : wr.cell? ⟨kb, ko + i, none⟩ = some (.string (strL k)) := (HBL5.out.cell (p := ⟨kb, ko + i, none⟩) hkb).trans (hcs i k hgk)
              have hstep : stayR (ks.drop i) (bs.drop i) x last = if 0 < x ∧ y = x ∧ (last = [] ∨ bl last k = true) then true :: stayR (ks.drop (i + 1)) (bs.drop (i + 1)) (x - 1) k else false :: stayR (ks.drop (i + 1)) (bs.drop (i + 1)) x last := by rw [hdk, hdb, stayR]
              obtain ⟨u, hu⟩ := HAT5.out.any hlt
              have huf := HAT5.out.frozen i
              have hset : ∀ b : Bool, CAt (wr.setCell ⟨wo.heap.size, i, none⟩ (.bool b)) wo.heap.size 4 n (bls ((p ++ [b]) ++ List.replicate (n - (i + 1)) false)) := fun b => by
                have h1 := HAT5.out.set (j := i) (.bool b)
                unfold bls at h1 ⊢
                rw [← List.map_set, List.set_append_right _ _ (by rw [HPL.out]; exact Nat.le_refl _), HPL.out, Nat.sub_self, show n - i = n - (i + 1) + 1 by omega, List.replicate_succ, List.set_cons_zero] at h1
                rw [List.append_assoc]
                exact h1
              have HSTEP := Lib.hid hstep
              have HSET := Lib.hid hset
              obtain ⟨LS, hLS⟩ : ∃ S, S = strL last := ⟨_, rfl⟩
              obtain ⟨K, hK⟩ : ∃ S, S = strL k := ⟨_, rfl⟩
              have hl1 : LS.toList.isEmpty = last.isEmpty := by rw [hLS, strL_toList]
              have hl2 : (LS.toList = []) = (last.isEmpty = true) := by rw [hLS, strL_toList]; simp
              have hlk : Op.bytesLess LS.toList K.toList = bl last k := by rw [hLS, hK, strL_toList, strL_toList]; rfl
              rw [← hK] at hck
              rw [← hLS]
              have HKK := Lib.hid hK
              have HLS := Lib.hid hLS
              have hy1000 : y ≤ 1000 := by omega
              clear hy hk hgy hgk hdb hdk hcs hstep hset hLS hK hyn
              by_cases hx0 : 0 < x
              · by_cases hyx : y = x
                · have he : ((y : Int) == (x : Int)) = true := by simp [hyx]
                  have HYX := Lib.hid hyx
                  clear hyx
                  cases el : last.isEmpty <;> cases eb : bl last k
                  all_goals
                    rw [el] at hl1 hl2
                    rw [eb] at hlk
                    first | have hl3 : LS.toList = [] := by rw [hl2] | have hl3 : ¬ LS.toList = [] := by rw [hl2]; decide
                    clear hl2
                  all_goals
                    first
                      | (have HC2 := Lib.hid (show 0 < x ∧ y = x ∧ (last = [] ∨ bl last k = true) from ⟨hx0, HYX.out, by first | exact .inl (List.isEmpty_iff.1 el) | exact .inr eb⟩)
                         have HS := Lib.hid (show stayR ks bs (maxP bs) [] = (p ++ [true]) ++ stayR (ks.drop (i + 1)) (bs.drop (i + 1)) (x - 1) k by rw [HST.out, HSTEP.out, if_pos HC2.out, List.append_assoc]; rfl)
                         have HN := Lib.hid (HSET.out true)
                         have HNC := Lib.hid (HCT.out.far (p := ⟨wo.heap.size, i, none⟩) (HCT.out.ne HAT5.out (by decide)) (.bool true))
                         have HNB := Lib.hid (HBL5.out.setCell (p := ⟨wo.heap.size, i, none⟩) (by exact HB.out.size) (.bool true))
                         have HXI := Lib.hid (show ((x : Int) - 1) = ((x - 1 : Nat) : Int) by omega)
                         clear el eb
                         go_wp2
                         go_roundw
                         case rel => exact ⟨i + 1, x - 1, k, p ++ [true], hlt, by go_num, by rw [HXI.out], by omega, by rw [← HKK.out], by rw [List.length_append, HPL.out]; rfl, HS.out, HN.out, HNC.out, HNB.out⟩
                         case measure => simp [intOf]; omega)
                      | (have HC2 := Lib.hid (show ¬ (0 < x ∧ y = x ∧ (last = [] ∨ bl last k = true)) from fun h => by
                           rcases h.2.2 with h | h
                           · subst h; cases el
                           · rw [eb] at h; cases h)
                         have HS := Lib.hid (show stayR ks bs (maxP bs) [] = (p ++ [false]) ++ stayR (ks.drop (i + 1)) (bs.drop (i + 1)) x last by rw [HST.out, HSTEP.out, if_neg HC2.out, List.append_assoc]; rfl)
                         have HN := Lib.hid (show CAt wr wo.heap.size 4 n (bls ((p ++ [false]) ++ List.replicate (n - (i + 1)) false)) from by
                           have h1 := HAT5.out
                           rw [show n - i = n - (i + 1) + 1 by omega, List.replicate_succ] at h1
                           rw [List.append_assoc]
                           exact h1)
                         clear el eb hu huf
                         go_wp2
                         go_roundw
                         case rel => exact ⟨i + 1, x, last, p ++ [false], hlt, by go_num, rfl, hx1, by rw [← HLS.out], by rw [List.length_append, HPL.out]; rfl, HS.out, HN.out, HCT.out, HBL5.out⟩
                         case measure => simp [intOf]; omega)
                · have he : ((y : Int) == (x : Int)) = false := by simp; omega
                  have HS := Lib.hid (show stayR ks bs (maxP bs) [] = (p ++ [false]) ++ stayR (ks.drop (i + 1)) (bs.drop (i + 1)) x last by rw [HST.out, HSTEP.out, if_neg (fun h => hyx h.2.1), List.append_assoc]; rfl)
                  have HN := Lib.hid (show CAt wr wo.heap.size 4 n (bls ((p ++ [false]) ++ List.replicate (n - (i + 1)) false)) from by
                    have h1 := HAT5.out
                    rw [show n - i = n - (i + 1) + 1 by omega, List.replicate_succ] at h1
                    rw [List.append_assoc]
                    exact h1)
                  clear hyx hu huf hl1 hl2 hlk
                  go_wp2
                  go_roundw
                  case rel => exact ⟨i + 1, x, last, p ++ [false], hlt, by go_num, rfl, hx1, by rw [← HLS.out], by rw [List.length_append, HPL.out]; rfl, HS.out, HN.out, HCT.out, HBL5.out⟩
                  case measure => simp [intOf]; omega
              · have HS := Lib.hid (show stayR ks bs (maxP bs) [] = (p ++ [false]) ++ stayR (ks.drop (i + 1)) (bs.drop (i + 1)) x last by rw [HST.out, HSTEP.out, if_neg (fun h => hx0 h.1), List.append_assoc]; rfl)
                have HN := Lib.hid (show CAt wr wo.heap.size 4 n (bls ((p ++ [false]) ++ List.replicate (n - (i + 1)) false)) from by
                  have h1 := HAT5.out
                  rw [show n - i = n - (i + 1) + 1 by omega, List.replicate_succ] at h1
                  rw [List.append_assoc]
                  exact h1)
                clear hu huf hl1 hl2 hlk
                go_wp2
                go_roundw
                case rel => exact ⟨i + 1, x, last, p ++ [false], hlt, by go_num, rfl, hx1, by rw [← HLS.out], by rw [List.length_append, HPL.out]; rfl, HS.out, HN.out, HCT.out, HBL5.out⟩
                case measure => simp [intOf]; omega
            · have hin : i = n := by omega
              have HF := Lib.hid (show CAt wr wo.heap.size 4 n (bls (keepP ks)) from by
                have h1 := HAT5.out
                rw [hin, Nat.sub_self, List.replicate_zero, List.append_nil] at h1
                rw [← HKR.out, HST.out, hin, List.drop_of_length_le (by rw [← HNN.out]; exact Nat.le_refl _)]
                have e : stayR [] (bs.drop n) x last = [] := by rw [stayR]; intro k r c s h; cases h
                rw [e, List.append_nil]
                exact h1)
              clear hin
              go_wp2
              go_ret
              exact ⟨wo.heap.size, by rw [HKL.out]; rfl, HB.out.size, by rw [HKL.out]; exact HF.out, HBL5.out⟩
    · obtain ⟨j, rfl⟩ : ∃ j, j' = j + 1 := ⟨j' - 1, by omega⟩
      have hji : (((j + 1 : Nat) : Int) - 1) = (j : Int) := by omega
      have hjn : j < n := hj
      have hjl : j < ks.length := by rw [← HNN.out]; exact hjn
      rw [hji]
      obtain ⟨kb, ko, rfl, hkb, hcs⟩ := HT.out (by rintro rfl; simp at hjl)
      obtain ⟨k, hk⟩ : ∃ k, k = ks[j] := ⟨_, rfl⟩
      have hgk : ks[j]? = some k := by rw [hk]; exact List.getElem?_eq_getElem hjl
      have hkl : k.length ≤ maxLen := HL.out k (by rw [hk]; exact List.getElem_mem _)
      have hdrop : ks.drop j = k :: ks.drop (j + 1) := by rw [hk]; exact List.drop_eq_getElem_cons hjl
      have c1 : wr.cell? ⟨kb, ko + j, none⟩ = some (.string (strL k)) := (HB.out.cell (p := ⟨kb, ko + j, none⟩) hkb).trans (hcs j k hgk)
      have HCS := Lib.hid hcs
      have HDR := Lib.hid hdrop
      have HV := Lib.hid (fun w => rvalid_list k w hkl)
      obtain ⟨u, hu⟩ := HAT.out.any hjn
      have huf := HAT.out.frozen j
      clear hk hgk hkl hdrop hcs h0 hj
      cases hv : vldB k
      · rw [hv] at HV
        have HN := Lib.hid (show bestP (ks.drop j) = 0 :: bestP (ks.drop (j + 1)) by rw [HDR.out, bestP, if_neg (by rw [hv]; decide)])
        clear hji
        go_wp2_with ((go_at_call 15; (with_reducible refine (HV.out _).mono ?_); rintro e w' ⟨rfl, rfl⟩))
        go_roundw
        case rel =>
          refine ⟨j, by omega, by go_num, ?_, HB.out⟩
          have h := HAT.out
          rw [List.replicate_succ', List.append_assoc] at h
          rw [HN.out]
          exact h
        case measure => simp [intOf]
      · rw [hv] at HV
        obtain ⟨r, hr⟩ : ∃ r, r = ks.drop (j + 1) := ⟨_, rfl⟩
        have hrl : r.length = n - (j + 1) := by rw [hr, List.length_drop, ← HNN.out]
        have HN := Lib.hid (show bestP (ks.drop j) = (r.zip (bestP r)).foldl (stepB k) 1 :: bestP r by rw [HDR.out, bestP, if_pos hv, ← hr])
        have HRL := Lib.hid hrl
        have HRR := Lib.hid hr
        have H1 := Lib.hid (show CAt (wr.setCell ⟨w.heap.size, j, none⟩ (.int .i64 1)) w.heap.size 3 n (ivs (List.replicate j 0 ++ 1 :: bestP r)) from by
          have h := HAT.out.set (j := j) (.int .i64 ((1 : Nat) : Int))
          rw [List.replicate_succ', List.append_assoc, ← hr] at h
          rw [← rep_set j 1 (bestP r) 0 0]
          exact h)
        have HB1 := Lib.hid (HB.out.setCell (p := ⟨w.heap.size, j, none⟩) (Nat.le_refl _) (.int .i64 1))
        clear hji hv hrl hr
        go_wp2_with ((go_at_call 15; (with_reducible refine (HV.out _).mono ?_); rintro e w' ⟨rfl, rfl⟩))
        obtain ⟨wo, hwo⟩ : ∃ wo : World, wo = wr := ⟨_, rfl⟩
        clear c1 hu huf
        go_loopw [6] (fun tv wr => R2 k r w.heap.size n j w tv wr) (fun tv _ => n - (intOf tv).toNat)
        case atStart => exact ⟨0, Nat.zero_le _, rfl, H1.out, HB1.out⟩
        case round =>
          obtain ⟨m, hm, rfl, hat2, hbl2⟩ := hrel
          have HAT2 := Lib.hid hat2
          have HBL2 := Lib.hid hbl2
          rw [HRL.out] at hm
          obtain ⟨t, ht⟩ : ∃ t, t = j + 1 + m := ⟨_, rfl⟩
          rw [← ht]
          have HTT := Lib.hid ht
          by_cases hlt : t < n
          · have hmr : m < r.length := by rw [HRL.out]; omega
            have hmb : m < (bestP r).length := by rw [best_len]; exact hmr
            have htl : t < ks.length := by rw [← HNN.out]; exact hlt
            obtain ⟨kt, hkt⟩ : ∃ kt, kt = r[m] := ⟨_, rfl⟩
            obtain ⟨b, hb⟩ : ∃ b, b = (bestP r)[m] := ⟨_, rfl⟩
            have hzip : (r.zip (bestP r))[m]? = some (kt, b) := by
              rw [List.getElem?_zip_eq_some, hkt, hb]
              exact ⟨List.getElem?_eq_getElem hmr, List.getElem?_eq_getElem hmb⟩
            have hgt : ks[t]? = some kt := by
              have h : r[m]? = some kt := by rw [hkt]; exact List.getElem?_eq_getElem hmr
              rw [HRR.out, List.getElem?_drop, ← ht] at h
              exact h
            have hgj : ks[j]? = some k := by
              have h : (ks.drop j)[0]? = some k := by rw [HDR.out]; rfl
              rw [List.getElem?_drop] at h
              exact h
            have d1 : wr.cell? ⟨kb, ko + j, none⟩ = some (.string (strL k)) := (HBL2.out.cell (p := ⟨kb, ko + j, none⟩) hkb).trans (HCS.out j k hgj)
            have d2 : wr.cell? ⟨kb, ko + t, none⟩ = some (.string (strL kt)) := (HBL2.out.cell (p := ⟨kb, ko + t, none⟩) hkb).trans (HCS.out t kt hgt)
            obtain ⟨f, hf⟩ : ∃ f, f = foldT k (r.zip (bestP r)) m := ⟨_, rfl⟩
            rw [← hf] at HAT2
            have hfn : f ≤ 1000 := by rw [hf]; have := foldT_le k r m; rw [HRL.out] at this; omega
            have hbn : b ≤ 1000 := by
              have h := best_all r b (by rw [hb]; exact List.getElem_mem _)
              rw [HRL.out] at h
              omega
            have d3 : wr.cell? ⟨w.heap.size, t, none⟩ = some (.int .i64 (b : Int)) := HAT2.out.cell (ivs_get (by
              rw [ht, List.getElem?_append_right (by rw [List.length_replicate]; omega), List.length_replicate, show j + 1 + m - j = m + 1 by omega, List.getElem?_cons_succ, hb]
              exact List.getElem?_eq_getElem hmb))
            have d4 : wr.cell? ⟨w.heap.size, j, none⟩ = some (.int .i64 (f : Int)) := HAT2.out.cell (ivs_get (by
              rw [List.getElem?_append_right (by rw [List.length_replicate]; exact Nat.le_refl _), List.length_replicate, Nat.sub_self]
              rfl))
            have d5 := HAT2.out.frozen j
            have hnx := foldT_next (k := k) hzip
            rw [← hf] at hnx
            have HNX := Lib.hid hnx
            have HFF := Lib.hid hf
            obtain ⟨K, hK⟩ : ∃ K, K = strL k := ⟨_, rfl⟩
            obtain ⟨KT, hKT⟩ : ∃ K, K = strL kt := ⟨_, rfl⟩
            have hless : Op.bytesLess K.toList KT.toList = bl k kt := by rw [hK, hKT, strL_toList, strL_toList]; rfl
            rw [← hK] at d1
            rw [← hKT] at d2
            have i1 : (0 : Int) ≤ (t : Int) := by omega
            have i2 : (t : Int) < (n : Int) := by omega
            have i3 : (0 : Int) ≤ (j : Int) := by omega
            have i4 : (j : Int) < (n : Int) := by omega
            clear ht hkt hb hzip hgt hgj hf hnx hK hKT hat2 hbl2
            by_cases hb0 : 0 < b
            · have g1 : decide ((0 : Int) < (b : Int)) = true := by simp [hb0]
              cases hkk : bl k kt
              · rw [hkk] at hless
                have HNO := Lib.hid (show foldT k (r.zip (bestP r)) (m + 1) = f by rw [HNX.out]; unfold stepB; rw [if_neg (fun h => by have h2 : bl k kt = true := h.2; rw [hkk] at h2; cases h2)])
                go_wp2
                go_quiet (fail)
                go_wp2
                go_roundw
                case rel => exact ⟨m + 1, hmr, by rw [← Nat.add_assoc, ← HTT.out]; go_num, by rw [HNO.out]; exact HAT2.out.keep rfl, HBL2.out.trans (drewN_b _ _ _)⟩
                case measure => simp [intOf]; omega
              · rw [hkk] at hless
                have HYES := Lib.hid (show foldT k (r.zip (bestP r)) (m + 1) = max f (b + 1) by rw [HNX.out]; unfold stepB; rw [if_pos ⟨hb0, hkk⟩])
                go_wp2
                go_quiet (fail)
                go_wp2_with fail
                have e3 : (wr.drewN nq).cell? ⟨w.heap.size, t, none⟩ = some (.int .i64 (b : Int)) := d3
                have e4 : (wr.drewN nq).cell? ⟨w.heap.size, j, none⟩ = some (.int .i64 (f : Int)) := d4
                have P := Lib.hid (show CAt (wr.drewN nq) w.heap.size 3 n _ from HAT2.out.keep rfl)
                have B := Lib.hid (HBL2.out.trans (drewN_b w.heap.size wr nq))
                have z1 : IntKind.i64.wrap ((b : Int) + 1) = (b : Int) + 1 := IntWalk.i64_in _ (by omega)
                clear d1 d2 d3 d4 d5
                generalize wr.drewN nq = wq at e3 e4 P B ⊢
                go_still_tail 13, (by kernel_rfl)
                change wpList _ _ _ _ _ wq.drew
                have PD := Lib.hid (show CAt wq.drew w.heap.size 3 n _ from P.out.keep rfl)
                have BD := Lib.hid (B.out.trans (drewN_b w.heap.size wq 1))
                clear e3 e4 z1
                have BD2 := Lib.hid (show Below w.heap.size w wq.drew from BD.out)
                clear BD
                generalize wq.drew = wd at PD BD2 ⊢
                have e4 := PD.out.cell (j := j) (x := .int .i64 (f : Int)) (ivs_get (by
                  rw [List.getElem?_append_right (by rw [List.length_replicate]; exact Nat.le_refl _), List.length_replicate, Nat.sub_self]
                  rfl))
                have e5 := PD.out.frozen j
                go_wp2
                go_roundw
                case rel =>
                  refine ⟨m + 1, hmr, by rw [← Nat.add_assoc, ← HTT.out]; go_num, ?_, BD2.out.setCell (Nat.le_refl _) _⟩
                  have h := PD.out.set (j := j) (.int .i64 ((max f (b + 1) : Nat) : Int))
                  rw [rep_set] at h
                  rw [HYES.out]
                  rw [show ((max f (b + 1) : Nat) : Int) = max (f : Int) ((b : Int) + 1) by omega] at h
                  exact h
                case measure => simp [intOf]; omega
            · have g1 : decide ((0 : Int) < (b : Int)) = false := by simp; omega
              have HNO := Lib.hid (show foldT k (r.zip (bestP r)) (m + 1) = f by rw [HNX.out]; unfold stepB; rw [if_neg (fun h => hb0 h.1)])
              go_wp2
              go_quiet (fail)
              go_wp2
              go_roundw
              case rel => exact ⟨m + 1, hmr, by rw [← Nat.add_assoc, ← HTT.out]; go_num, by rw [HNO.out]; exact HAT2.out.keep rfl, HBL2.out.trans (drewN_b _ _ _)⟩
              case measure => simp [intOf]; omega
          · have hmr : m = r.length := by have := HRL.out; omega
            have HN2 := Lib.hid (show CAt wr w.heap.size 3 n (ivs (List.replicate j 0 ++ bestP (ks.drop j))) from by
              have h := HAT2.out
              rw [hmr] at h
              have e : (r.zip (bestP r)).length = r.length := by rw [List.length_zip, best_len, Nat.min_self]
              rw [← e, foldT_all] at h
              rw [HN.out]
              exact h)
            clear hmr hat2 hbl2 ht
            go_wp2
            go_roundw
            case rel => exact ⟨j, by omega, by go_num, HN2.out, HBL2.out⟩
            case measure => simp [intOf]
end Go.Proofs.Ytedlfjolmhkpdaa
