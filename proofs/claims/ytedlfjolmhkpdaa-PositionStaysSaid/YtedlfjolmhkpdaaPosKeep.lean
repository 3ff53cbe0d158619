/- The contract of Keep. Condition: at most 1,000 keys. -/
import Derived.Test.YtedlfjolmhkpdaaPosChain
namespace Go.Proofs.Ytedlfjolmhkpdaa
open Go.RowKit
theorem bool_info : (Try.prog.info? 4).map (fun i => (i.zero, i.size, i.bytes)) = some (some (.bool false), 1, 1) := by kernel_rfl
def bls (l : List Bool) : List Value := l.map Value.bool
theorem bls_len (l : List Bool) : (bls l).length = l.length := by unfold bls; simp
theorem make_bools (n : Nat) (hn : n ≤ 1000) (w : World) : (Instr.makeSlice 34 (.int .i64 (n : Int)) (.int .i64 (n : Int))).run Try.prog w = .ok (.slice (some ⟨w.heap.size, 0, none⟩) n n) (w.alloc (.cells (madeCells #[.bool false] n) 4)) := by
  obtain ⟨i0, hi, hz0, hz1, hz2⟩ := info_parts bool_info
  have hr := run_make (P := Try.prog) w 34 4 i0 _ Try.underlying34 hi hz0 .i64 .i64 (n : Int) (n : Int) (by omega) (by omega) (by rw [hz2]; omega) (by omega)
  rw [hz1, Nat.mul_one, Int.toNat_natCast] at hr
  exact hr
def KeepPost (l : List Bool) (w : World) (e : Ending) (w' : World) : Prop := ∃ g, e = .returned (.slice (some ⟨g, 0, none⟩) l.length l.length) ∧ w.heap.size ≤ g ∧ CAt w' g 4 l.length (bls l) ∧ Below w.heap.size w w'
theorem ivs_get {l : List Nat} {j x : Nat} (h : l[j]? = some x) : (ivs l)[j]? = some (.int .i64 (x : Int)) := by unfold ivs; rw [List.getElem?_map, h]; rfl
theorem max_snoc (l : List Nat) (k : Nat) (h : k < l.length) : maxP (l.take (k + 1)) = max (maxP (l.take k)) l[k] := by
  unfold maxP
  rw [List.take_succ_eq_append_getElem h, List.foldl_append]
  rfl
def MaxRel (l : List Nat) (m i : Value) : Prop := ∃ k : Nat, k ≤ l.length ∧ i = .int .i64 (k : Int) ∧ m = .int .i64 (maxP (l.take k) : Nat)
def StayRel (l : List Nat) (gc cc g : Nat) (w : World) (m i : Value) (wr : World) : Prop := ∃ (k x : Nat) (p : List Bool), k ≤ l.length ∧ i = .int .i64 (k : Int) ∧ m = .int .i64 (x : Int) ∧ x ≤ 1000 ∧ p.length = k ∧ stayP l (maxP l) = p ++ stayP (l.drop k) x ∧ CAt wr g 4 l.length (bls (p ++ List.replicate (l.length - k) false)) ∧ CAt wr gc 3 cc (ivs l) ∧ Below w.heap.size w wr
theorem best_le (l : List Key) : ∀ x b, At l x b → b ≤ l.length := fun x b h => by
  induction l generalizing x b with
  | nil => exact absurd h List.not_mem_nil
  | cons k r ih =>
    rcases at_cons.1 h with ⟨_, hb⟩ | h
    · split at hb
      · rcases fold_is k (r.zip (bestP r)) 1 with h1 | ⟨p, hp, _, _, h1⟩
        · rw [hb, h1]; simp
        · rw [hb, h1]
          have := ih p.1 p.2 hp
          simp
          omega
      · omega
    · have := ih x b h
      simp
      omega
theorem best_all (l : List Key) : ∀ b ∈ bestP l, b ≤ l.length := fun b hb => by
  obtain ⟨x, hx⟩ := at_of_mem hb
  exact best_le l x b hx
theorem max_le {l : List Nat} {m : Nat} (h : ∀ x ∈ l, x ≤ m) : maxP l ≤ m := by
  unfold maxP
  rcases foldl_max_mem l 0 with h1 | h1
  · omega
  · exact h _ h1
set_option maxRecDepth 100000 in
set_option maxHeartbeats 1000000 in
theorem keep_any (ks : List Key) (AK : Option Addr) (c : Nat) (w : World) (hT : TAt w AK ks) (hn : ks.length ≤ 1000) (hl : ∀ k ∈ ks, k.length ≤ maxLen) :
    Calls Try.prog 21 #[.slice AK ks.length c] w (KeepPost (keepP ks) w) := by
  have HC := Lib.hid (chains_any ks AK c w hT hn hl)
  obtain ⟨n, hnn⟩ : ∃ n, n = ks.length := ⟨_, rfl⟩
  obtain ⟨bs, hbs⟩ : ∃ bs, bs = bestP ks := ⟨_, rfl⟩
  have hbl : bs.length = n := by rw [hbs, best_len, hnn]
  have HALL := Lib.hid (show ∀ x ∈ bs, x ≤ n by rw [hbs, hnn]; exact best_all ks)
  have HKP := Lib.hid (show keepP ks = stayP bs (maxP bs) by rw [hbs]; rfl)
  have HKL := Lib.hid (show (keepP ks).length = n by rw [keep_len, hnn])
  have HBS := Lib.hid hbs
  have HBL := Lib.hid hbl
  have HNN := Lib.hid hnn
  rw [← hnn] at HC hn ⊢
  clear hT hl hnn hbs hbl
  go_enter Try.func21, Try.ntmps21
  go_wp2_with fail
  refine HC.out.mono ?_
  rintro e w1 ⟨g, c1, rfl, hg, hat, hb1⟩
  rw [← HBS.out] at hat
  rw [← HNN.out]
  have HAT := Lib.hid hat
  have HB1 := Lib.hid hb1
  have HG := Lib.hid hg
  have hmk := make_bools n hn
  clear hat hb1 hg
  go_wp2
  go_loop [4, 14] (fun m i => MaxRel bs m i) (fun _ i => n - (intOf i).toNat)
  case atStart => exact ⟨0, Nat.zero_le _, rfl, rfl⟩
  case round =>
    obtain ⟨k, hk, rfl, rfl⟩ := hrel
    first | (rename w1 = w1 => hww; clear hww) | skip
    rw [HBL.out] at hk
    by_cases hlt : k < n
    · have hkb : k < bs.length := by rw [HBL.out]; exact hlt
      obtain ⟨x, hx⟩ : ∃ x, x = bs[k] := ⟨_, rfl⟩
      have hgx : bs[k]? = some x := by rw [hx]; exact List.getElem?_eq_getElem hkb
      have hcell := HAT.out.cell (ivs_get hgx)
      have hxn : x ≤ n := HALL.out x (by rw [hx]; exact List.getElem_mem _)
      have hms := max_snoc bs k hkb
      rw [← hx] at hms
      obtain ⟨m, hm⟩ : ∃ m, m = maxP (bs.take k) := ⟨_, rfl⟩
      rw [← hm] at hms ⊢
      have HMS := Lib.hid hms
      clear hx hgx hms hm
      go_wp2
      go_round
      case rel => exact ⟨k + 1, hkb, by go_num, by rw [HMS.out]; first | rfl | (congr 1; omega)⟩
      case measure => simp [intOf]; omega
    · have hkn : k = n := by omega
      obtain ⟨x0, hx0⟩ : ∃ x0, x0 = maxP (bs.take k) := ⟨_, rfl⟩
      have hxm : x0 = maxP bs := by rw [hx0, hkn, ← HBL.out, List.take_length]
      have hx0n : x0 ≤ n := by rw [hxm]; exact max_le HALL.out
      rw [← hx0]
      have HXM := Lib.hid hxm
      have hmk1 := hmk w1
      obtain ⟨C0, hC0⟩ : ∃ C, C = madeCells #[Value.bool false] n := ⟨_, rfl⟩
      rw [← hC0] at hmk1
      have H0 := Lib.hid (show CAt (w1.alloc (.cells C0 4)) w1.heap.size 4 n (bls (List.replicate n false)) from by
        have h := CAt.whole w1 4 C0 (by rw [hC0, size_madeCells]; unfold maxLen; omega)
        rw [hC0, size_madeCells, made_list, ← hC0] at h
        have e : bls (List.replicate n false) = List.replicate n (.bool false) := by unfold bls; simp
        rw [e]
        exact h)
      clear hkn hx0 hxm hmk hC0 hk
      go_wp2
      clear hmk1
      go_loopw [4, 27] (fun m i wr => StayRel bs g c1 w1.heap.size w m i wr) (fun _ i _ => n - (intOf i).toNat)
      case atStart =>
        refine ⟨0, x0, [], Nat.zero_le _, rfl, rfl, by omega, rfl, ?_, ?_, HAT.out.alloc _, HB1.out.alloc HB1.out.size _⟩
        · rw [HXM.out]; rfl
        · rw [HBL.out]; exact H0.out
      case round =>
        obtain ⟨k, x, p, hk, rfl, rfl, hx1, hpl, hst, hat, hct, hbl⟩ := hrel
        rw [HBL.out] at hk hat
        have HST := Lib.hid hst
        have HAT2 := Lib.hid hat
        have HBL2 := Lib.hid hbl
        have HPL := Lib.hid hpl
        have HCT := Lib.hid hct
        by_cases hlt : k < n
        · have hkb : k < bs.length := by rw [HBL.out]; exact hlt
          obtain ⟨y, hy⟩ : ∃ y, y = bs[k] := ⟨_, rfl⟩
          have hgy : bs[k]? = some y := by rw [hy]; exact List.getElem?_eq_getElem hkb
          have hyn : y ≤ n := HALL.out y (by rw [hy]; exact List.getElem_mem _)
          have hdrop : bs.drop k = y :: bs.drop (k + 1) := by rw [hy]; exact List.drop_eq_getElem_cons hkb
          have hcell := HCT.out.cell (ivs_get hgy)
          have hstep : stayP (bs.drop k) x = if 0 < x ∧ y = x then true :: stayP (bs.drop (k + 1)) (x - 1) else false :: stayP (bs.drop (k + 1)) x := by rw [hdrop, stayP]
          obtain ⟨u, hu⟩ := HAT2.out.any hlt
          have huf := HAT2.out.frozen k
          have hset : ∀ b : Bool, CAt wr w1.heap.size 4 n (bls (p ++ List.replicate (n - k) false)) → CAt (wr.setCell ⟨w1.heap.size, k, none⟩ (.bool b)) w1.heap.size 4 n (bls ((p ++ [b]) ++ List.replicate (n - (k + 1)) false)) := fun b h => by
            have h1 := h.set (j := k) (.bool b)
            unfold bls at h1 ⊢
            rw [← List.map_set, List.set_append_right _ _ (by rw [HPL.out]; exact Nat.le_refl _), HPL.out, Nat.sub_self, show n - k = n - (k + 1) + 1 by omega, List.replicate_succ, List.set_cons_zero] at h1
            rw [List.append_assoc]
            exact h1
          by_cases hc : 0 < x ∧ y = x
          · obtain ⟨hx0, hyx⟩ := hc
            rw [if_pos ⟨hx0, hyx⟩] at hstep
            have he : ((y : Int) == (x : Int)) = true := by simp [hyx]
            have hxi : ((x : Int) - 1) = ((x - 1 : Nat) : Int) := by omega
            have HXI := Lib.hid hxi
            have HN := Lib.hid (hset true HAT2.out)
            have HS := Lib.hid (show stayP bs (maxP bs) = (p ++ [true]) ++ stayP (bs.drop (k + 1)) (x - 1) by rw [HST.out, hstep, List.append_assoc]; rfl)
            have HNC := Lib.hid (HCT.out.far (p := ⟨w1.heap.size, k, none⟩) (HCT.out.ne HAT2.out (by decide)) (.bool true))
            have HNB := Lib.hid (HBL2.out.setCell (p := ⟨w1.heap.size, k, none⟩) (by exact HB1.out.size) (.bool true))
            clear hy hgy hdrop hstep hset hyx hxi hst hat hbl hct hpl
            go_wp2
            go_roundw
            case rel => exact ⟨k + 1, x - 1, p ++ [true], hkb, by go_num, by rw [HXI.out], by omega, by rw [List.length_append, HPL.out]; rfl, HS.out, by rw [HBL.out]; exact HN.out, HNC.out, HNB.out⟩
            case measure => simp [intOf]; omega
          · rw [if_neg hc] at hstep
            have HS := Lib.hid (show stayP bs (maxP bs) = (p ++ [false]) ++ stayP (bs.drop (k + 1)) x by rw [HST.out, hstep, List.append_assoc]; rfl)
            have HN := Lib.hid (show CAt wr w1.heap.size 4 n (bls ((p ++ [false]) ++ List.replicate (n - (k + 1)) false)) from by
              have h1 := HAT2.out
              rw [show n - k = n - (k + 1) + 1 by omega, List.replicate_succ] at h1
              rw [List.append_assoc]
              exact h1)
            by_cases hx0 : 0 < x
            · have hyx : ¬ y = x := fun h => hc ⟨hx0, h⟩
              have he : ((y : Int) == (x : Int)) = false := by simp; omega
              clear hy hgy hdrop hstep hset hyx hst hat hbl hct hpl hc hu huf
              go_wp2
              go_roundw
              case rel => exact ⟨k + 1, x, p ++ [false], hkb, by go_num, rfl, hx1, by rw [List.length_append, HPL.out]; rfl, HS.out, by rw [HBL.out]; exact HN.out, HCT.out, HBL2.out⟩
              case measure => simp [intOf]; omega
            · clear hy hgy hdrop hstep hset hst hat hbl hct hpl hc hu huf
              go_wp2
              go_roundw
              case rel => exact ⟨k + 1, x, p ++ [false], hkb, by go_num, rfl, hx1, by rw [List.length_append, HPL.out]; rfl, HS.out, by rw [HBL.out]; exact HN.out, HCT.out, HBL2.out⟩
              case measure => simp [intOf]; omega
        · have hkn : k = n := by omega
          have HF := Lib.hid (show CAt wr w1.heap.size 4 n (bls (keepP ks)) from by
            have h1 := HAT2.out
            rw [hkn, Nat.sub_self, List.replicate_zero, List.append_nil] at h1
            rw [HKP.out, HST.out, hkn, List.drop_of_length_le (by rw [HBL.out]; exact Nat.le_refl _)]
            show CAt wr w1.heap.size 4 n (bls (p ++ []))
            rw [List.append_nil]
            exact h1)
          clear hkn hst hat hbl hct hpl
          go_wp2
          go_ret
          exact ⟨w1.heap.size, by rw [HKL.out]; rfl, HB1.out.size, by rw [HKL.out]; exact HF.out, HBL2.out⟩
end Go.Proofs.Ytedlfjolmhkpdaa
