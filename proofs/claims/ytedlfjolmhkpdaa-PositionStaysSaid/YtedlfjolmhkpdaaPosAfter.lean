/- The contract of the reference's after. Condition: at most 60 letters. -/
import Derived.Test.YtedlfjolmhkpdaaPosBtw
import Derived.Laws.IdiomStrings
namespace Go.Proofs.Ytedlfjolmhkpdaa
open Go.RowKit
/-- A block (marked behind its cells) that begins with these bytes. -/
def BF (w : World) (g N : Nat) (l : List UInt8) : Prop := ∃ (cs : Array Value) (a b : Nat), w.heap[g]? = some (.cells cs 5 (a, b)) ∧ cs.size ≤ a ∧ l.length ≤ N ∧ N ≤ cs.size ∧ cs.toList.take l.length = bvs l
theorem BF.cell {w : World} {g N : Nat} {l : List UInt8} (h : BF w g N l) {j : Nat} {x : UInt8} (hx : l[j]? = some x) : w.cell? ⟨g, j, none⟩ = some (.int .u8 (x.toNat : Int)) := by
  obtain ⟨cs, a, b, hh, hs, hl, hN, ht⟩ := h
  have hj := (List.getElem?_eq_some_iff.1 hx).1
  have h1 := bvs_get hx
  rw [← ht, List.getElem?_take_of_lt hj, Array.getElem?_toList] at h1
  simp [World.cell?, hh, h1]
theorem BF.any {w : World} {g N : Nat} {l : List UInt8} (h : BF w g N l) {j : Nat} (hj : j < N) : ∃ v, w.cell? ⟨g, j, none⟩ = some v := by
  obtain ⟨cs, a, b, hh, hs, hl, hN, ht⟩ := h
  exact ⟨cs[j]'(by omega), by simp [World.cell?, hh, show j < cs.size by omega]⟩
theorem BF.frozen {w : World} {g N : Nat} {l : List UInt8} (h : BF w g N l) {j : Nat} (hj : j < N) : w.frozen? ⟨g, j, none⟩ = false := by
  obtain ⟨cs, a, b, hh, hs, hl, hN, ht⟩ := h
  simp [World.frozen?, hh]
  omega
theorem heap_setf {w : World} {g i : Nat} {cs : Array Value} {t : TypeId} {f : Nat × Nat} (h : w.heap[g]? = some (.cells cs t f)) (u : Value) : (w.setCell ⟨g, i, none⟩ u).heap[g]? = some (.cells (cs.setIfInBounds i u) t f) := by
  simp [World.setCell, Array.getElem?_modify, h]
theorem BF.next {w : World} {g N : Nat} {l : List UInt8} (h : BF w g N l) (y : UInt8) (hc : l.length < N) : BF (w.setCell ⟨g, l.length, none⟩ (.int .u8 (y.toNat : Int))) g N (l ++ [y]) := by
  obtain ⟨cs, a, b, hh, hs, hl, hN, ht⟩ := h
  refine ⟨_, a, b, heap_setf hh _, by simpa using hs, by simp; omega, by simpa using hN, ?_⟩
  rw [Array.toList_setIfInBounds, List.length_append, List.length_singleton, take_set _ _ _ (by simp; omega), ht, bvs_app]
  rfl
theorem BF.short {w : World} {g N : Nat} {l r : List UInt8} (h : BF w g N (l ++ r)) : BF w g N l := by
  obtain ⟨cs, a, b, hh, hs, hl, hN, ht⟩ := h
  rw [List.length_append] at hl ht
  refine ⟨cs, a, b, hh, hs, by omega, hN, ?_⟩
  have h1 := congrArg (List.take l.length) ht
  rw [List.take_take, Nat.min_eq_left (by omega), bvs_app, List.take_append_of_le_length (by rw [bvs_len]; exact Nat.le_refl _)] at h1
  rw [h1, List.take_of_length_le (by rw [bvs_len]; exact Nat.le_refl _)]
theorem BF.conv {w : World} {g N k : Nat} {l : List UInt8} (h : BF w g N l) : (convert 39 9 (.slice (some ⟨g, 0, none⟩) l.length k)).run Try.prog w = .ok (.string (strL l)) w := by
  have hq := run_convert_bytes_arg (P := Try.prog) w 39 5 Try.underlying39 Try.underlying5 g 0 l.length k (l.map fun c => (c.toNat : Int)) (by simp) (fun i hi => by
    have := h.cell (List.getElem?_eq_getElem hi)
    rw [Nat.zero_add, this]
    rw [List.getD_eq_getElem?_getD, List.getElem?_map, List.getElem?_eq_getElem hi]
    rfl) 9 Try.underlying9
  rw [str_nums] at hq
  exact hq
theorem take_ext (l : List UInt8) (n : Nat) : (strL l).extract 0 n = strL (l.take n) := by
  have h : ((strL l).extract 0 n).data.toList = l.take n := by
    rw [ByteArray.data_extract, Array.toList_extract, strL_list]
    simp [List.extract_eq_take_drop]
  rw [← strL_back ((strL l).extract 0 n), h]
/-- []byte(s). -/
theorem bytes_new (l : List UInt8) (w : World) : ∃ (C : Nat) (W : World), (convert 9 39 (.string (strL l))).run Try.prog w = .ok (.slice (some ⟨w.heap.size, 0, none⟩) l.length C) W ∧ BF W w.heap.size l.length l ∧ Below w.heap.size w W := by
  refine ⟨_, _, by have h := run_bytes_of_string (P := Try.prog) w 9 39 5 (strL l) Try.underlying9 Try.underlying39 Try.underlying5; rw [strL_size] at h; exact h, ?_, ?_⟩
  · refine ⟨_, _, _, heap_alloc_new w.drew _, Nat.le_refl _, Nat.le_refl _, ?_, ?_⟩
    · unfold bytesRow strL
      simp
    · unfold bytesRow strL
      simp [bvs]
  · exact (Below.refl w.heap.size w).drew.alloc (Nat.le_refl _) _
theorem strL_a (l : List UInt8) : strL l ++ ⟨#[97]⟩ = strL (l ++ [97]) := by
  unfold strL
  apply ByteArray.ext
  rw [ByteArray.data_append]
  simp
def strZ (v : Value) : Nat := match v with | .string s => s.size | _ => 0
def AfterPost (lo : List UInt8) (n : Nat) (w : World) (e : Ending) (w' : World) : Prop := e = .returned (.string (strL (afterL lo n))) ∧ Below w.heap.size w w'
def PadRel (lo : List UInt8) (n : Nat) (v : Value) : Prop := ∃ j : Nat, lo.length + j ≤ n ∧ v = .string (strL (lo ++ List.replicate j 97))
set_option maxHeartbeats 1000000 in
theorem after_short (lo : List UInt8) (n : Nat) (w : World) (hn : n ≤ 60) (hl : lo.length < n) : Calls Try.prog 32 #[.string (strL lo), .int .i64 (n : Int)] w (AfterPost lo n w) := by
  have HA := Lib.hid (show afterL lo n = lo ++ List.replicate (n - lo.length) 97 by unfold afterL; rw [if_pos hl])
  obtain ⟨S, hS⟩ : ∃ S, S = strL lo := ⟨_, rfl⟩
  have hsz : S.size < n := by rw [hS, strL_size]; exact hl
  rw [← hS]
  have HS := Lib.hid hS
  clear hS
  go_enter Try.func32, Try.ntmps32
  go_wp2
  go_loop [5] (fun v => PadRel lo n v) (fun v => n - strZ v)
  case atStart => exact ⟨0, by omega, by rw [HS.out]; simp⟩
  case round =>
    obtain ⟨j, hj, rfl⟩ := hrel
    obtain ⟨T, hT⟩ : ∃ T, T = strL (lo ++ List.replicate j 97) := ⟨_, rfl⟩
    have hTz : T.size = lo.length + j := by rw [hT, strL_size]; simp
    rw [← hT]
    have HT := Lib.hid hT
    have HTZ := Lib.hid hTz
    by_cases hlt : T.size < n
    · have HN := Lib.hid (show T ++ ⟨#[97]⟩ = strL (lo ++ List.replicate (j + 1) 97) by rw [hT, strL_a, List.append_assoc, ← List.replicate_succ'])
      have hbig : ¬ 9223372036854775807 < T.size + 1 := by omega
      have HZ := Lib.hid (show (T ++ ⟨#[97]⟩ : ByteArray).size = T.size + 1 by rw [ByteArray.size_append]; rfl)
      have hj2 : lo.length + (j + 1) ≤ n := by omega
      clear hT hTz hsz
      go_wp2
      go_round
      case rel => exact ⟨j + 1, hj2, by rw [← HN.out]⟩
      case measure => simp only [strZ, HZ.out]; omega
    · have hjn : j = n - lo.length := by omega
      have HJ := Lib.hid hjn
      clear hT hTz hsz hjn
      go_wp2
      go_ret
      exact ⟨ret_str (by rw [HT.out, HJ.out, HA.out]), Below.refl _ _⟩
theorem incr_none {q : List UInt8} (h : incr q = (incr []).map (· ++ List.replicate q.length 97)) : incr q = none := h
theorem incr_low {q : List UInt8} {j n : Nat} (hn : q.length = n) (hj : j < n) (hr : incr q = (incr (q.take (j + 1))).map (· ++ List.replicate (n - (j + 1)) 97)) (hc : (q[j]'(by omega)).toNat < 122) : incr q = some ((q.take j ++ [UInt8.ofNat ((q[j]'(by omega)).toNat + 1)]) ++ List.replicate (n - (j + 1)) 97) := by
  rw [hr, List.take_succ_eq_append_getElem (by omega), incr_snoc, if_pos hc]
  rfl
theorem incr_high {q : List UInt8} {j n : Nat} (hn : q.length = n) (hj : j < n) (hr : incr q = (incr (q.take (j + 1))).map (· ++ List.replicate (n - (j + 1)) 97)) (hc : ¬ (q[j]'(by omega)).toNat < 122) : incr q = (incr (q.take j)).map (· ++ List.replicate (n - j) 97) := by
  rw [hr, List.take_succ_eq_append_getElem (by omega), incr_snoc, if_neg hc, Option.map_map]
  congr 1
  funext x
  show (x ++ [97]) ++ List.replicate (n - (j + 1)) 97 = x ++ List.replicate (n - j) 97
  rw [List.append_assoc, show n - j = n - (j + 1) + 1 by omega, List.replicate_succ]
  rfl
def DownRel (q : List UInt8) (n : Nat) (v : Value) : Prop := ∃ j : Nat, j ≤ n ∧ v = .int .i64 ((j : Int) - 1) ∧ incr q = (incr (q.take j)).map (· ++ List.replicate (n - j) 97)
def FillRel (p : List UInt8) (g n B : Nat) (w : World) (v : Value) (wr : World) : Prop := ∃ i : Nat, p.length + i ≤ n ∧ v = .int .i64 ((p.length + i : Nat) : Int) ∧ BF wr g n (p ++ List.replicate i 97) ∧ Below B w wr
set_option maxHeartbeats 1000000 in
set_option maxRecDepth 100000 in
theorem after_long (lo : List UInt8) (n : Nat) (w : World) (hn : n ≤ 60) (hl : n ≤ lo.length) : Calls Try.prog 32 #[.string (strL lo), .int .i64 (n : Int)] w (AfterPost lo n w) := by
  have HA := Lib.hid (show afterL lo n = (incr (lo.take n)).getD [] by unfold afterL; rw [if_neg (by omega)])
  obtain ⟨q, hq⟩ : ∃ q, q = lo.take n := ⟨_, rfl⟩
  have hqn : q.length = n := by rw [hq, List.length_take]; omega
  have htx := take_ext lo n
  rw [← hq] at htx
  obtain ⟨C, W, hcv, hbf, hbl⟩ := bytes_new q w
  rw [hqn] at hcv hbf
  obtain ⟨S, hS⟩ : ∃ S, S = strL lo := ⟨_, rfl⟩
  have hsz : n ≤ S.size := by rw [hS, strL_size]; exact hl
  rw [← hS] at htx ⊢
  rw [← htx] at hcv
  rw [← hq] at HA
  have HBF := Lib.hid hbf
  have HBL := Lib.hid hbl
  have HQN := Lib.hid hqn
  clear hq hqn htx hS hbf hbl
  go_enter Try.func32, Try.ntmps32
  go_wp2
  clear hcv
  go_loop [7] (fun v => DownRel q n v) (fun v => (intOf v + 1).toNat)
  case atStart => exact ⟨n, Nat.le_refl _, rfl, by
    rw [List.take_of_length_le (by rw [HQN.out]; exact Nat.le_refl _), Nat.sub_self]
    cases incr q <;> simp⟩
  case round =>
    obtain ⟨j', hj, rfl, hrel⟩ := hrel
    rename W = W => hww
    clear hww
    have HR := Lib.hid hrel
    clear hrel
    by_cases h0 : j' = 0
    · subst h0
      have HF := Lib.hid (show afterL lo n = [] by rw [HA.out, HR.out]; rfl)
      go_wp2
      go_ret
      exact ⟨ret_str (by rw [HF.out]; rfl), HBL.out⟩
    · obtain ⟨j, rfl⟩ : ∃ j, j' = j + 1 := ⟨j' - 1, by omega⟩
      have hjq : j < q.length := by rw [HQN.out]; omega
      have hji : (((j + 1 : Nat) : Int) - 1) = (j : Int) := by omega
      rw [hji]
      obtain ⟨c, hc⟩ : ∃ c, c = q[j] := ⟨_, rfl⟩
      have hcell := HBF.out.cell (j := j) (x := c) (by rw [hc]; exact List.getElem?_eq_getElem hjq)
      obtain ⟨x, hx⟩ : ∃ x, x = c.toNat := ⟨_, rfl⟩
      have hx255 : x ≤ 255 := by have := c.toNat_lt; omega
      rw [← hx] at hcell
      have HX := Lib.hid hx
      have hfz := HBF.out.frozen (j := j) (by omega)
      have hjn : j < n := hj
      clear hji h0 hj
      by_cases hlt : x < 122
      · have HI := Lib.hid (incr_low HQN.out (by omega) HR.out (by rw [← hc, ← hx]; exact hlt))
        obtain ⟨p, hp⟩ : ∃ p, p = q.take j ++ [UInt8.ofNat (x + 1)] := ⟨_, rfl⟩
        have hpl : p.length = j + 1 := by rw [hp, List.length_append, List.length_take]; simp; omega
        have hp0 : BF W w.heap.size n (q.take j) := by
          have h1 := HBF.out
          rw [← List.take_append_drop j q] at h1
          exact h1.short
        have hput := hp0.next (UInt8.ofNat (x + 1)) (by rw [List.length_take]; omega)
        rw [List.length_take, Nat.min_eq_left (by omega), let_num (by omega), show ((x + 1 : Nat) : Int) = (x : Int) + 1 from rfl, ← hp] at hput
        have hbl1 := HBL.out.setCell (p := ⟨w.heap.size, j, none⟩) (Nat.le_refl _) (.int .u8 ((x : Int) + 1))
        rw [← hc, ← hx, ← hp] at HI
        have HPUT := Lib.hid hput
        have HBL1 := Lib.hid hbl1
        have HPL := Lib.hid hpl
        clear hc hp hpl hp0 hput hbl1 hx
        have hjn1 : j + 1 ≤ n := hjn
        go_wp2
        clear hcell hfz
        go_loopw [8] (fun v wr => FillRel p w.heap.size n w.heap.size w v wr) (fun v _ => n - (intOf v).toNat)
        case atStart => exact ⟨0, by rw [HPL.out]; omega, by rw [HPL.out]; go_num, by simpa using HPUT.out, HBL1.out⟩
        case round =>
          obtain ⟨i, hi, rfl, hb, hbl⟩ := hrel
          obtain ⟨t, ht⟩ : ∃ t, t = p.length + i := ⟨_, rfl⟩
          rw [← ht] at hi ⊢
          have HB := Lib.hid hb
          have HBL2 := Lib.hid hbl
          have HT := Lib.hid ht
          by_cases hlt2 : t < n
          · obtain ⟨u, hu⟩ := hb.any (j := t) hlt2
            have hf := hb.frozen (j := t) hlt2
            have HN := Lib.hid (show BF (wr.setCell ⟨w.heap.size, t, none⟩ (.int .u8 97)) w.heap.size n (p ++ List.replicate (i + 1) 97) from by
              have h := hb.next 97 (by rw [List.length_append, List.length_replicate, ← ht]; exact hlt2)
              rw [List.length_append, List.length_replicate, ← ht, List.append_assoc, ← List.replicate_succ'] at h
              exact h)
            have HNB := Lib.hid (hbl.setCell (p := ⟨w.heap.size, t, none⟩) (Nat.le_refl _) (.int .u8 97))
            clear hb hbl ht
            go_wp2
            go_roundw
            case rel => exact ⟨i + 1, by have := HT.out; omega, by have := HT.out; rw [show p.length + (i + 1) = t + 1 by omega]; go_num, HN.out, HNB.out⟩
            case measure => simp [intOf]; omega
          · have htn : t = n := by omega
            have hin : i = n - (j + 1) := by have := HPL.out; omega
            have hcv := hb.conv (k := C)
            rw [List.length_append, List.length_replicate, ← ht, htn] at hcv
            have HF := Lib.hid (show afterL lo n = p ++ List.replicate i 97 by rw [HA.out, HI.out, hin]; rfl)
            clear hb hbl ht hin htn
            go_wp2
            go_ret
            exact ⟨ret_str (by rw [HF.out]), HBL2.out⟩
      · have HI := Lib.hid (incr_high HQN.out (by omega) HR.out (by rw [← hc, ← hx]; exact hlt))
        clear hc hx
        go_wp2
        go_round
        case rel => exact ⟨j, by omega, by go_num, HI.out⟩
        case measure => simp [intOf]
theorem after_any (lo : List UInt8) (n : Nat) (w : World) (hn : n ≤ 60) : Calls Try.prog 32 #[.string (strL lo), .int .i64 (n : Int)] w (AfterPost lo n w) := by
  by_cases h : lo.length < n
  · exact after_short lo n w hn h
  · exact after_long lo n w hn (by omega)
end Go.Proofs.Ytedlfjolmhkpdaa
