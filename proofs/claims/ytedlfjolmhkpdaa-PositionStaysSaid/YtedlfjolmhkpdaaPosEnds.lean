/- The contracts of slices.Clone at bytes and of endings. Condition: bounds of at most 2^47 - 4096 bytes. -/
import Derived.Test.YtedlfjolmhkpdaaPosRow
import Derived.Deep.Cut
namespace Go.Proofs.Ytedlfjolmhkpdaa
open Go.RowKit
def RowPost (l : List UInt8) (w : World) (e : Ending) (w' : World) : Prop := ∃ v, e = .returned v ∧ BRow w' w.heap.size v l ∧ Below w.heap.size w w'
theorem eql_nil_bytes (w : World) (b off l c : Nat) : (binOp .eql 39 (.slice (some ⟨b, off, none⟩) l c) (.slice none 0 0)).run Try.prog w = .ok (.bool false) w := by
  have h0 : ∀ d : Nat, (Op.equalIn (d + 1) 39 (.slice (some ⟨b, off, none⟩) l c) (.slice none 0 0)).run Try.prog w = .ok false w := fun d => by
    simp [Op.equalIn, run_underlying Try.underlying39]
  have h : (Op.equal 39 (.slice (some ⟨b, off, none⟩) l c) (.slice none 0 0)).run Try.prog w = .ok false w := h0 9999
  simp [binOp, h]
theorem plain_add (b off j : Nat) : (⟨b, off, none⟩ : Addr).add j = ⟨b, off + j, none⟩ := by unfold Addr.add; split <;> simp_all
set_option maxHeartbeats 1000000 in
theorem clone_bytes (g c k : Nat) (st : List UInt8) (w : World) (h : BAt w g c st) (hl : st.length ≤ 1000) :
    Calls Try.prog 31 #[.slice (some ⟨g, 0, none⟩) st.length k] w (RowPost st w) := by
  obtain ⟨i0, hi, hz0, hz1, hz2⟩ := info_parts byte_info
  have HC := Lib.hid (show ∀ (j : Nat) (u : Value), (bvs st)[j]? = some u → (w.alloc (.cells #[] 5)).cell? ((⟨g, 0, none⟩ : Addr).add j) = some u from fun j u hu => by
    unfold bvs at hu
    rw [List.getElem?_map, Option.map_eq_some_iff] at hu
    obtain ⟨x, hx, rfl⟩ := hu
    rw [plain_add, Nat.zero_add]
    exact (h.alloc _).cell hx)
  have HO := Lib.hid (show (w.alloc (.cells #[] 5)).ownsRow w.heap.size 5 1 (.slice (some ⟨w.heap.size, 0, none⟩) 0 0) 0 [] from ⟨rfl, .inr ⟨w.heap.size, 0, #[], rfl, Nat.le_refl _, heap_alloc_new w _, Nat.le_refl _, Nat.zero_le _, rfl, rfl⟩⟩)
  have HSZ := Lib.hid (show w.heap.size ≤ (w.alloc (.cells #[] 5)).heap.size from by rw [World.size_alloc]; omega)
  have HB := Lib.hid ((Below.refl w.heap.size w).alloc (Nat.le_refl _) (.cells #[] 5))
  have hen := fun w => eql_nil_bytes w g 0 st.length k
  clear h
  go_enter Try.func31, Try.ntmps31
  go_wp2_with (at_builtin; refine wpList_append_own _ rfl (.tmp 5) (.tmp 6) 39 rfl w.heap.size 5 i0 _ 1 1 Try.underlying39 hi hz0 hz1 hz2 rfl (by decide) (.slice (some ⟨w.heap.size, 0, none⟩) 0 0) 0 [] rfl HO.out ⟨g, 0, none⟩ st.length k (bvs st) rfl (by rw [bvs_len, Nat.mul_one]) HC.out (bvs_one st) (by unfold maxLen; omega) (by omega) HSZ.out ?_)
  intro v1 w1 hown hgr _
  have HR := Lib.hid (show BRow w1 w.heap.size v1 st ∧ Below w.heap.size w w1 from by
    have hb := HB.out.grown hgr HSZ.out (fun k hk => by injection hk with hk; subst hk; exact Nat.le_refl _)
    exact ⟨⟨hown, hb.size⟩, hb⟩)
  clear hown hgr
  go_wp2
  go_ret
  exact ⟨v1, rfl, HR.out.1, HR.out.2⟩
attribute [local go_sem 2000] str_gtr str_leq
theorem ownsRow_low {w : World} {B B' : Nat} {e : TypeId} {size : Nat} {v : Value} {n : Nat} {xs : List Value} (h : w.ownsRow B e size v n xs) (hb : B' ≤ B) : w.ownsRow B' e size v n xs := by
  refine ⟨h.1, ?_⟩
  rcases h.2 with h0 | ⟨g, cap, cur, hv, hg, hr⟩
  · exact .inl h0
  · exact .inr ⟨g, cap, cur, hv, Nat.le_trans hb hg, hr⟩
def lettersU (st lo hi : List UInt8) (k : Nat) : List UInt8 := (((List.range' 98 k).filter fun e => bl lo (st ++ [UInt8.ofNat e]) && undB (st ++ [UInt8.ofNat e]) hi).map UInt8.ofNat)
theorem letters_yes {st lo hi : List UInt8} {k : Nat} (h : (bl lo (st ++ [UInt8.ofNat (98 + k)]) && undB (st ++ [UInt8.ofNat (98 + k)]) hi) = true) : lettersU st lo hi (k + 1) = lettersU st lo hi k ++ [UInt8.ofNat (98 + k)] := by
  unfold lettersU
  rw [List.range'_1_concat, List.filter_append, List.map_append]
  congr 1
  rw [List.filter_cons, h]
  rfl
theorem letters_no {st lo hi : List UInt8} {k : Nat} (h : (bl lo (st ++ [UInt8.ofNat (98 + k)]) && undB (st ++ [UInt8.ofNat (98 + k)]) hi) = false) : lettersU st lo hi (k + 1) = lettersU st lo hi k := by
  unfold lettersU
  rw [List.range'_1_concat, List.filter_append, List.map_append]
  rw [List.filter_cons, h]
  simp
theorem letters_len (st lo hi : List UInt8) (k : Nat) : (lettersU st lo hi k).length ≤ k := by
  unfold lettersU
  rw [List.length_map]
  exact Nat.le_trans (List.length_filter_le _ _) (by simp)
theorem letters_all (st lo hi : List UInt8) : lettersU st lo hi 25 = (endsL st lo hi).map UInt8.ofNat := rfl
theorem let_num {m : Nat} (h : m ≤ 255) : ((UInt8.ofNat m).toNat : Int) = (m : Int) := by
  rw [UInt8.toNat_ofNat']
  omega
/-- The loop of endings: the counter, the letters, the world. -/
def EndRel (st lo hi : List UInt8) (gk ck B B2 : Nat) (w : World) (v i : Value) (wr : World) : Prop :=
  ∃ k : Nat, k ≤ 25 ∧ i = .int .i64 (k : Int) ∧ BAt wr gk ck (st ++ [UInt8.ofNat (97 + k)]) ∧ BRow wr B2 v (lettersU st lo hi k) ∧ Below B w wr
theorem end_step {st lo hi ls : List UInt8} {gk ck B B2 k : Nat} {w W1 w5 : World} {u9 v5 : Value} {o : Obj} (hk : k < 25) (hn : BAt W1 gk ck (st ++ [UInt8.ofNat (97 + (k + 1))])) (hr : BRow W1 B2 u9 ls) (hlet : lettersU st lo hi (k + 1) = ls ++ [UInt8.ofNat (98 + k)])
    (hbl : Below B w W1) (hB : B ≤ B2) (hgk : gk < B2) (hown : w5.ownsRow B2 5 1 v5 (ls.length + 1) (bvs ls ++ [.int .u8 ((98 + k : Nat) : Int)])) (hg : (W1.alloc o).grownBy w5 u9.ownBlock) :
    BAt w5 gk ck (st ++ [UInt8.ofNat (97 + (k + 1))]) ∧ BRow w5 B2 v5 (lettersU st lo hi (k + 1)) ∧ Below B w w5 := by
  rw [← let_num (by omega)] at hown
  have h1 := brow_grow hr hown hg
  rw [← hlet] at h1
  refine ⟨(hn.alloc o).grown hg (fun e => ?_), h1.1, hbl.trans (h1.2.mono hB)⟩
  have := (World.ownsRow.lt hr.1 gk e.symm).1
  omega
set_option maxHeartbeats 1000000 in
theorem endings_any (st lo hi : List UInt8) (g c k0 : Nat) (w : World) (h : BAt w g c st) (hl : st.length ≤ 60) :
    Calls Try.prog 27 #[.slice (some ⟨g, 0, none⟩) st.length k0, .string (strL lo), .string (strL hi)] w (RowPost ((endsL st lo hi).map UInt8.ofNat) w) := by
  obtain ⟨i0, hi0, hz0, hz1, hz2⟩ := info_parts byte_info
  have HC := Lib.hid (clone_bytes g c k0 st w h (by omega))
  clear h
  go_enter Try.func27, Try.ntmps27
  go_wp2_with fail
  refine HC.out.mono ?_
  rintro e w1 ⟨v1, rfl, hb1, hbl1⟩
  have HB1 := Lib.hid hb1
  have HBL1 := Lib.hid hbl1
  clear hb1 hbl1
  go_wp2_with (at_builtin; refine wpList_append_own _ rfl (.tmp 13) (.tmp 14) 39 rfl w.heap.size 5 i0 _ 1 1 Try.underlying39 hi0 hz0 hz1 hz2 rfl (by omega) v1 st.length (bvs st) rfl (HB1.out.1.alloc _) ⟨w1.heap.size, 0, none⟩ 1 1 [.int .u8 97] rfl rfl ?c1 ?c2 ?c3 ?c4 ?c5 ?_)
  case c1 => exact cell_one_new _ _ _
  case c2 => simp [Value.oneCell']
  case c3 => unfold maxLen; omega
  case c4 => omega
  case c5 => rw [World.size_alloc]; have := HB1.out.2; omega
  intro v2 w2 hown2 hg2 _
  obtain ⟨hr2, hbl2⟩ := brow_grow (c := 97) HB1.out hown2 hg2
  obtain ⟨gk, ck, rfl, hgk, hat2⟩ := hr2.at (by simp)
  have hgk2 := hat2.lt
  have HAT := Lib.hid hat2
  have HBL := Lib.hid (HBL1.out.trans hbl2)
  obtain ⟨L, hL⟩ : ∃ L, L = (st ++ [(97 : UInt8)]).length := ⟨_, rfl⟩
  have hLn : L = st.length + 1 := by rw [hL]; simp
  have HLN := Lib.hid hLn
  have hLlt : st.length < L := by omega
  rw [← hL]
  clear hown2 hg2 hbl2 hat2 hL hLn hr2
  go_wp2
  go_loopw [9, 16] (fun v i wr => EndRel st lo hi gk ck w.heap.size w2.heap.size w v i wr) (fun _ i _ => 25 - (intOf i).toNat)
  case atStart => exact ⟨0, by omega, rfl, HAT.out, BRow.nil (Nat.le_refl _), HBL.out⟩
  case round =>
    obtain ⟨k, hk, rfl, hat, hrow, hbl⟩ := hrel
    by_cases hlt : k < 25
    · have hcell := hat.cell (j := st.length) (x := UInt8.ofNat (97 + k)) (by simp)
      rw [let_num (by omega), Int.natCast_add] at hcell
      have hfr := hat.frozen st.length
      have hput := hat.put (UInt8.ofNat (98 + k))
      rw [let_num (by omega), show ((98 + k : Nat) : Int) = (97 : Int) + (k : Int) + 1 by omega] at hput
      obtain ⟨W1, hW1⟩ : ∃ W, W = wr.setCell ⟨gk, st.length, none⟩ (.int .u8 ((97 : Int) + (k : Int) + 1)) := ⟨_, rfl⟩
      have hblW := hbl.setCell (p := ⟨gk, st.length, none⟩) (by exact hgk) (.int .u8 ((97 : Int) + (k : Int) + 1))
      have hrowW := hrow.set (p := ⟨gk, st.length, none⟩) (by exact hgk2) (.int .u8 ((97 : Int) + (k : Int) + 1))
      rw [← hW1] at hput hblW hrowW
      have HW1 := Lib.hid hW1
      clear hW1
      have hcell1 := hput.cell (j := st.length) (x := UInt8.ofNat (98 + k)) (by simp)
      have hfr1 := hput.frozen st.length
      have hconv := hput.conv (k := ck)
      obtain ⟨K, hK⟩ : ∃ K, K = strL (st ++ [UInt8.ofNat (98 + k)]) := ⟨_, rfl⟩
      rw [List.length_append, List.length_singleton, ← HLN.out, ← hK] at hconv
      rw [let_num (by omega)] at hcell1
      have HPUT := Lib.hid hput
      have HBLW := Lib.hid hblW
      have HRW := Lib.hid hrowW
      clear hput hblW hrowW hat hrow hbl
      go_upto_region 7 with (fail)
      rw [show wr.setCell ⟨gk, st.length, none⟩ (.int .u8 ((97 : Int) + (k : Int) + 1)) = W1 from HW1.out.symm]
      clear hcell hfr
      have HKB := Lib.hid hK
      have hKl : K.toList = st ++ [UInt8.ofNat (98 + k)] := by rw [hK, strL_toList]
      have HNEXT := Lib.hid (show BAt W1 gk ck (st ++ [UInt8.ofNat (97 + (k + 1))]) by rw [show 97 + (k + 1) = 98 + k by omega]; exact HPUT.out)
      have hc1 : W1.cell? ⟨gk, st.length, none⟩ = some (.int .u8 ((98 + k : Nat) : Int)) := hcell1
      clear hK
      cases h1 : bl lo (st ++ [UInt8.ofNat (98 + k)])
      · have HLET := Lib.hid (letters_no (hi := hi) (by rw [h1]; rfl))
        have hg1 : Op.bytesLess (strL lo).toList K.toList = false := by rw [strL_toList, hKl]; exact h1
        clear h1 hKl hcell1
        go_wp2
        go_roundw
        case rel => exact ⟨k + 1, by omega, by go_num, HNEXT.out, by rw [HLET.out]; exact HRW.out, HBLW.out⟩
        case measure => simp [intOf]; omega
      · have hg1 : Op.bytesLess (strL lo).toList K.toList = true := by rw [strL_toList, hKl]; exact h1
        cases h2 : undB (st ++ [UInt8.ofNat (98 + k)]) hi
        · have HLET := Lib.hid (letters_no (by rw [h1, h2]; rfl))
          have h3 : hi.isEmpty = false ∧ bl (st ++ [UInt8.ofNat (98 + k)]) hi = false := by unfold undB at h2; simpa using h2
          have hg2 : Op.bytesLess K.toList (strL hi).toList = false := by rw [strL_toList, hKl]; exact h3.2
          have e1 : (strL hi).toList.isEmpty = false := by rw [strL_toList]; exact h3.1
          have e2 : ¬ (strL hi).toList = [] := by rw [strL_toList]; simpa using h3.1
          clear h1 h2 h3 hKl hcell1
          go_wp2
          go_roundw
          case rel => exact ⟨k + 1, by omega, by go_num, HNEXT.out, by rw [HLET.out]; exact HRW.out, HBLW.out⟩
          case measure => simp [intOf]; omega
        · have HLET := Lib.hid (letters_yes (by rw [h1, h2]; rfl))
          have HLL := Lib.hid (letters_len st lo hi k)
          obtain ⟨ls, hls⟩ : ∃ ls, ls = lettersU st lo hi k := ⟨_, rfl⟩
          rw [← hls] at HLET HRW HLL
          have hll : ls.length ≤ 25 := by have := HLL.out; omega
          unfold undB at h2
          cases e0 : hi.isEmpty
          · rw [e0, Bool.false_or] at h2
            have hg2 : Op.bytesLess K.toList (strL hi).toList = true := by rw [strL_toList, hKl]; exact h2
            have e1 : (strL hi).toList.isEmpty = false := by rw [strL_toList]; exact e0
            have e2 : ¬ (strL hi).toList = [] := by rw [strL_toList]; simpa using e0
            clear h1 h2 hKl hcell1 e0 hls
            go_wp2_with (at_builtin; refine wpList_append_own _ rfl (.tmp 38) (.tmp 43) 39 rfl w2.heap.size 5 i0 _ 1 1 Try.underlying39 hi0 hz0 hz1 hz2 rfl (by omega) u9 ls.length (bvs ls) rfl (HRW.out.1.alloc _) ⟨W1.heap.size, 0, none⟩ 1 1 [.int .u8 ((98 + k : Nat) : Int)] rfl rfl ?c1 ?c2 ?c3 ?c4 ?c5 ?_)
            case c1 => exact cell_one_new _ _ _
            case c2 => simp [Value.oneCell']
            case c3 => unfold maxLen; omega
            case c4 => omega
            case c5 => rw [World.size_alloc]; have := HRW.out.2; omega
            intro v5 w5 hown5 hg5 _
            have HF := Lib.hid (end_step hlt HNEXT.out HRW.out HLET.out HBLW.out HBL.out.size hgk2 hown5 hg5)
            clear hown5 hg5
            go_wp2
            go_roundw
            case rel => exact ⟨k + 1, by omega, by go_num, HF.out.1, HF.out.2.1, HF.out.2.2⟩
            case measure => simp [intOf]; omega
          · have e1 : (strL hi).toList.isEmpty = true := by rw [strL_toList]; exact e0
            have e2 : (strL hi).toList = [] := by rw [strL_toList]; simpa using e0
            clear h1 h2 hKl hcell1 e0 hls
            go_wp2_with (at_builtin; refine wpList_append_own _ rfl (.tmp 38) (.tmp 43) 39 rfl w2.heap.size 5 i0 _ 1 1 Try.underlying39 hi0 hz0 hz1 hz2 rfl (by omega) u9 ls.length (bvs ls) rfl (HRW.out.1.alloc _) ⟨W1.heap.size, 0, none⟩ 1 1 [.int .u8 ((98 + k : Nat) : Int)] rfl rfl ?c1 ?c2 ?c3 ?c4 ?c5 ?_)
            case c1 => exact cell_one_new _ _ _
            case c2 => simp [Value.oneCell']
            case c3 => unfold maxLen; omega
            case c4 => omega
            case c5 => rw [World.size_alloc]; have := HRW.out.2; omega
            intro v5 w5 hown5 hg5 _
            have HF := Lib.hid (end_step hlt HNEXT.out HRW.out HLET.out HBLW.out HBL.out.size hgk2 hown5 hg5)
            clear hown5 hg5
            go_wp2
            go_roundw
            case rel => exact ⟨k + 1, by omega, by go_num, HF.out.1, HF.out.2.1, HF.out.2.2⟩
            case measure => simp [intOf]; omega
    · have hk25 : k = 25 := by omega
      have HE := Lib.hid (show BRow wr w2.heap.size u9 ((endsL st lo hi).map UInt8.ofNat) by rw [hk25] at hrow; exact hrow)
      have HBE := Lib.hid hbl
      clear hk25 hat hrow hbl
      go_wp2
      go_ret
      exact ⟨u9, rfl, ⟨ownsRow_low HE.out.1 HBL.out.size, HBE.out.size⟩, HBE.out⟩
end Go.Proofs.Ytedlfjolmhkpdaa
