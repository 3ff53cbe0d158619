/- Rows of bytes: of one's own, in a block; make, copy from a string; the contracts of prefix and slices.Clone at bytes. -/
import Derived.Test.YtedlfjolmhkpdaaPosStr
import Derived.Laws.CopyOwn
import Derived.Laws.CopyRow
import Derived.Laws.OwnMore
import Derived.Laws.MakeOwn
import Derived.Laws.IdiomCopy
import Derived.Deep.WholeRow
namespace Go.Proofs.Ytedlfjolmhkpdaa
open Go.RowKit
theorem byte_info : (Try.prog.info? 5).map (fun i => (i.zero, i.size, i.bytes)) = some (some (.int .u8 0), 1, 1) := by kernel_rfl
def bvs (l : List UInt8) : List Value := l.map fun c => .int .u8 (c.toNat : Int)
theorem bvs_len (l : List UInt8) : (bvs l).length = l.length := by unfold bvs; simp
theorem bvs_app (l r : List UInt8) : bvs (l ++ r) = bvs l ++ bvs r := by unfold bvs; simp
theorem bvs_one (l : List UInt8) : ∀ v ∈ bvs l, v.oneCell' = true := by
  intro v hv
  unfold bvs at hv
  obtain ⟨b, _, rfl⟩ := List.mem_map.1 hv
  rfl
theorem bvs_get {l : List UInt8} {j : Nat} {x : UInt8} (h : l[j]? = some x) : (bvs l)[j]? = some (.int .u8 (x.toNat : Int)) := by unfold bvs; rw [List.getElem?_map, h]; rfl
/-- The bytes of a slice of one's own. -/
def BRow (w : World) (B : Nat) (v : Value) (l : List UInt8) : Prop := w.ownsRow B 5 1 v l.length (bvs l) ∧ B ≤ w.heap.size
/-- A block that begins with these bytes. -/
def BAt (w : World) (g c : Nat) (l : List UInt8) : Prop := ∃ cs : Array Value, w.heap[g]? = some (.cells cs 5 (0, 0)) ∧ cs.size = c ∧ cs.toList.take l.length = bvs l ∧ l.length ≤ c ∧ c ≤ maxLen
theorem heap_lt {w : World} {g : Nat} {o : Obj} (h : w.heap[g]? = some o) : g < w.heap.size := by
  rcases Nat.lt_or_ge g w.heap.size with hlt | hge
  · exact hlt
  · rw [Array.getElem?_eq_none hge] at h; cases h
theorem BAt.lt {w : World} {g c : Nat} {l : List UInt8} (h : BAt w g c l) : g < w.heap.size := by
  obtain ⟨cs, hh, _⟩ := h
  exact heap_lt hh
theorem BAt.cell {w : World} {g c : Nat} {l : List UInt8} (h : BAt w g c l) {j : Nat} {x : UInt8} (hx : l[j]? = some x) : w.cell? ⟨g, j, none⟩ = some (.int .u8 (x.toNat : Int)) := by
  obtain ⟨cs, hh, hs, ht, hl, _⟩ := h
  have hj := (List.getElem?_eq_some_iff.1 hx).1
  have h1 := bvs_get hx
  rw [← ht, List.getElem?_take_of_lt hj, Array.getElem?_toList] at h1
  simp [World.cell?, hh, h1]
theorem BAt.frozen {w : World} {g c : Nat} {l : List UInt8} (h : BAt w g c l) (j : Nat) : w.frozen? ⟨g, j, none⟩ = false := by
  obtain ⟨cs, hh, _⟩ := h
  simp [World.frozen?, hh]
theorem BAt.keep {w w' : World} {g c : Nat} {l : List UInt8} (h : BAt w g c l) (hw : w'.heap[g]? = w.heap[g]?) : BAt w' g c l := by
  unfold BAt at h ⊢
  rw [hw]
  exact h
theorem BAt.below {w w' : World} {B g c : Nat} {l : List UInt8} (h : BAt w g c l) (hb : Below B w w') (hg : g < B) : BAt w' g c l := h.keep (hb.block g hg)
theorem BAt.alloc {w : World} {g c : Nat} {l : List UInt8} (h : BAt w g c l) (o : Obj) : BAt (w.alloc o) g c l := h.keep (Below.heap_alloc w o g h.lt)
theorem BAt.grown {w w' : World} {g c : Nat} {l : List UInt8} {row : Option Nat} (h : BAt w g c l) (hb : w.grownBy w' row) (hg : some g ≠ row) : BAt w' g c l := h.keep (hb.block g h.lt hg)
theorem heap_set {w : World} {g i : Nat} {cs : Array Value} {t : TypeId} (h : w.heap[g]? = some (.cells cs t (0, 0))) (u : Value) : (w.setCell ⟨g, i, none⟩ u).heap[g]? = some (.cells (cs.setIfInBounds i u) t (0, 0)) := by
  simp [World.setCell, Array.getElem?_modify, h]
theorem take_set {α : Type} (l : List α) (k : Nat) (u : α) (h : k < l.length) : (l.set k u).take (k + 1) = l.take k ++ [u] := by
  rw [List.take_succ_eq_append_getElem (by simpa using h), List.getElem_set_self, List.take_set_of_le (Nat.le_refl k)]
theorem BAt.next {w : World} {g c : Nat} {l : List UInt8} (h : BAt w g c l) (y : UInt8) (hc : l.length < c) : BAt (w.setCell ⟨g, l.length, none⟩ (.int .u8 (y.toNat : Int))) g c (l ++ [y]) := by
  obtain ⟨cs, hh, hs, ht, hl, hm⟩ := h
  refine ⟨_, heap_set hh _, by simpa using hs, ?_, by simp; omega, hm⟩
  rw [Array.toList_setIfInBounds, List.length_append, List.length_singleton, take_set _ _ _ (by simp; omega), ht, bvs_app]
  rfl
theorem BAt.short {w : World} {g c : Nat} {l r : List UInt8} (h : BAt w g c (l ++ r)) : BAt w g c l := by
  obtain ⟨cs, hh, hs, ht, hl, hm⟩ := h
  rw [List.length_append] at hl ht
  refine ⟨cs, hh, hs, ?_, by omega, hm⟩
  have h1 := congrArg (List.take l.length) ht
  rw [List.take_take, Nat.min_eq_left (by omega), bvs_app, List.take_append_of_le_length (by rw [bvs_len]; exact Nat.le_refl _)] at h1
  rw [h1, List.take_of_length_le (by rw [bvs_len]; exact Nat.le_refl _)]
theorem BAt.put {w : World} {g c : Nat} {p : List UInt8} {x : UInt8} (h : BAt w g c (p ++ [x])) (y : UInt8) : BAt (w.setCell ⟨g, p.length, none⟩ (.int .u8 (y.toNat : Int))) g c (p ++ [y]) :=
  h.short.next y (by obtain ⟨cs, _, _, _, hl, _⟩ := h; simp at hl; omega)
/-- The bytes of a block as a string. -/
theorem BAt.conv {w : World} {g c k : Nat} {l : List UInt8} (h : BAt w g c l) : (convert 39 9 (.slice (some ⟨g, 0, none⟩) l.length k)).run Try.prog w = .ok (.string (strL l)) w := by
  have hq := run_convert_bytes_arg (P := Try.prog) w 39 5 Try.underlying39 Try.underlying5 g 0 l.length k (l.map fun c => (c.toNat : Int)) (by simp) (fun i hi => by
    have := h.cell (List.getElem?_eq_getElem hi)
    rw [Nat.zero_add, this]
    rw [List.getD_eq_getElem?_getD, List.getElem?_map, List.getElem?_eq_getElem hi]
    rfl) 9 Try.underlying9
  rw [str_nums] at hq
  exact hq
theorem BRow.at {w : World} {B : Nat} {v : Value} {l : List UInt8} (h : BRow w B v l) (hl : 0 < l.length) : ∃ g c, v = .slice (some ⟨g, 0, none⟩) l.length c ∧ B ≤ g ∧ BAt w g c l := by
  rcases h.1.2 with ⟨_, h0⟩ | ⟨g, cap, cur, hv, hb, hh, hnc, hm, hsz, htk⟩
  · omega
  · rw [Nat.mul_one] at hsz htk
    exact ⟨g, cap, hv, hb, cur, hh, hsz, htk, hnc, hm⟩
theorem BAt.row {w : World} {g c B : Nat} {l : List UInt8} (h : BAt w g c l) (hB : B ≤ g) : BRow w B (.slice (some ⟨g, 0, none⟩) l.length c) l := by
  have hlt := h.lt
  obtain ⟨cs, hh, hs, ht, hl, hm⟩ := h
  exact ⟨⟨by rw [bvs_len, Nat.mul_one], .inr ⟨g, c, cs, rfl, hB, hh, hl, hm, by rw [hs, Nat.mul_one], by rw [Nat.mul_one, ht]⟩⟩, by omega⟩
theorem BRow.nil {w : World} {B : Nat} (h : B ≤ w.heap.size) : BRow w B (.slice none 0 0) [] := ⟨World.ownsRow_nil _ _ _ _, h⟩
theorem BRow.keep {w w' : World} {B : Nat} {v : Value} {l : List UInt8} (h : BRow w B v l) (hb : Below w.heap.size w w') : BRow w' B v l := by
  refine ⟨⟨h.1.1, ?_⟩, Nat.le_trans h.2 hb.size⟩
  rcases h.1.2 with h0 | ⟨g, cap, cur, hv, hb', hh, hr⟩
  · exact .inl h0
  · exact .inr ⟨g, cap, cur, hv, hb', (hb.block g (heap_lt hh)).trans hh, hr⟩
/-- A store below the base keeps a row. -/
theorem BRow.set {w : World} {B : Nat} {v : Value} {l : List UInt8} (h : BRow w B v l) {p : Addr} (hp : p.block < B) (u : Value) : BRow (w.setCell p u) B v l := by
  refine ⟨⟨h.1.1, ?_⟩, by simpa [World.setCell] using h.2⟩
  rcases h.1.2 with h0 | ⟨g, cap, cur, hv, hb', hh, hr⟩
  · exact .inl h0
  · exact .inr ⟨g, cap, cur, hv, hb', (Below.heap_setCell _ _ _ _ (by omega)).trans hh, hr⟩
theorem brow_grow {B : Nat} {w w1 : World} {v v' : Value} {l : List UInt8} {c : UInt8} {o : Obj} (hb : BRow w B v l) (h1 : w1.ownsRow B 5 1 v' (l.length + 1) (bvs l ++ [.int .u8 (c.toNat : Int)])) (h2 : (w.alloc o).grownBy w1 v.ownBlock) : BRow w1 B v' (l ++ [c]) ∧ Below B w w1 := by
  obtain ⟨ho, hB⟩ := hb
  have hbl : Below B w w1 := ((Below.refl _ _).alloc hB _).grown h2 (by rw [World.size_alloc]; omega) (fun j hj => (World.ownsRow.lt ho j hj).1)
  refine ⟨⟨?_, Nat.le_trans hB hbl.size⟩, hbl⟩
  rw [List.length_append, bvs_app]
  exact h1
theorem conv_row {w : World} {B : Nat} {v : Value} {l : List UInt8} (hb : BRow w B v l) (hl : 0 < l.length) : (convert 39 9 v).run Try.prog w = .ok (.string (strL l)) w := by
  obtain ⟨g, c, rfl, _, ha⟩ := hb.at hl
  exact ha.conv
/-- copy(dst, s) into a block of one's own, s a string of whatever length. -/
theorem copy_str (w : World) (g dLen dCap : Nat) (l : List UInt8) (cur : Array Value) (t ty : TypeId) (hg : w.heap[g]? = some (.cells cur t (0, 0))) (hle : dLen ≤ cur.size) :
    (Builtin.copy_ #[39, 9] ty #[.slice (some ⟨g, 0, none⟩) dLen dCap, .string (strL l)]).run Try.prog w =
      .ok (goInt ((min l.length dLen : Nat) : Int)) (w.setRow g (bvs (l.take dLen) ++ cur.toList.drop (min l.length dLen)).toArray) := by
  have hlen : (bvs (l.take dLen)).length = min l.length dLen := by rw [bvs_len, List.length_take, Nat.min_comm]
  have hst := run_storeCells_at Try.prog g 0 t (bvs (l.take dLen)) 0 cur w hg (by omega) (bvs_one _)
  have htk : List.take (min l.length dLen) (List.map (fun b : UInt8 => Value.int IntKind.u8 (b.toNat : Int)) l) = bvs (l.take dLen) := by
    unfold bvs
    rw [← List.map_take]
    congr 1
    rcases Nat.le_total l.length dLen with h | h
    · rw [Nat.min_eq_left h, List.take_of_length_le (Nat.le_refl _), List.take_of_length_le h]
    · rw [Nat.min_eq_right h]
  rw [hlen] at hst
  simp only [Nat.add_zero, Nat.zero_add, List.take_zero, List.nil_append] at hst
  obtain ⟨i0, hi, hz0, hz1, hz2⟩ := info_parts byte_info
  simp [Builtin.copy_, run_underlying Try.underlying39, Builtin.lenOf, Builtin.firstCells, sizeOf, typeInfo, hi, strL_list, strL_size]
  rw [htk, hst]
  simp [Result.andThen]
theorem make_bytes (n : Nat) (hn : n ≤ 1000) (w : World) : (Instr.makeSlice 39 (.int .i64 (n : Int)) (.int .i64 ((n : Int) + 1))).run Try.prog w = .ok (.slice (some ⟨w.heap.size, 0, none⟩) n (n + 1)) (w.alloc (.cells (madeCells #[.int .u8 0] (n + 1)) 5)) := by
  obtain ⟨i0, hi, hz0, hz1, hz2⟩ := info_parts byte_info
  have hr := run_make (P := Try.prog) w 39 5 i0 _ Try.underlying39 hi hz0 .i64 .i64 (n : Int) ((n : Int) + 1) (by omega) (by omega) (by rw [hz2]; omega) (by omega)
  rw [hz1, Nat.mul_one, show ((n : Int) + 1).toNat = n + 1 by omega, Int.toNat_natCast] at hr
  exact hr
theorem pfx_more {lo : List UInt8} {k : Nat} (h : lo.length ≤ k) : pfx lo (k + 1) = pfx lo k ++ [97] := by
  rw [pfx_rep lo k h, pfx_rep lo (k + 1) (by omega), show k + 1 - lo.length = k - lo.length + 1 by omega, List.replicate_succ', List.append_assoc]
/-- What prefix leaves. -/
def PfxPost (lo : List UInt8) (n : Nat) (w : World) (e : Ending) (w' : World) : Prop := ∃ g, e = .returned (.slice (some ⟨g, 0, none⟩) n (n + 1)) ∧ w.heap.size ≤ g ∧ BAt w' g (n + 1) (pfx lo n) ∧ Below w.heap.size w w'
def PfxRel (lo : List UInt8) (n : Nat) (w : World) (i : Value) (wr : World) : Prop := ∃ k, k ≤ n ∧ min lo.length n ≤ k ∧ i = .int .i64 (k : Int) ∧ BAt wr w.heap.size (n + 1) (pfx lo k) ∧ Below w.heap.size w wr
set_option maxHeartbeats 1000000 in
theorem prefix_any (lo : List UInt8) (n : Nat) (w : World) (hn : n ≤ 60) :
    Calls Try.prog 26 #[.string (strL lo), .int .i64 (n : Int)] w (PfxPost lo n w) := by
  have hmk := make_bytes n (by omega) w
  obtain ⟨C0, hC0⟩ : ∃ C, C = madeCells #[Value.int .u8 0] (n + 1) := ⟨_, rfl⟩
  have hs0 : C0.size = n + 1 := by rw [hC0, size_madeCells]
  rw [← hC0] at hmk
  have hcp := copy_str (w.alloc (.cells C0 5)) w.heap.size n (n + 1) lo C0 5 3 (heap_alloc_new w _) (by omega)
  rw [World.setRow_alloc_new] at hcp
  obtain ⟨C1, hC1⟩ : ∃ C, C = (bvs (lo.take n) ++ C0.toList.drop (min lo.length n)).toArray := ⟨_, rfl⟩
  rw [← hC1] at hcp
  obtain ⟨m, hm⟩ : ∃ m, m = min lo.length n := ⟨_, rfl⟩
  have hpm : pfx lo m = lo.take n := by
    rw [hm, pfx_take lo _ (by omega)]
    rcases Nat.le_total lo.length n with h | h
    · rw [Nat.min_eq_left h, List.take_of_length_le (Nat.le_refl _), List.take_of_length_le h]
    · rw [Nat.min_eq_right h]
  have H0 := Lib.hid (show BAt (w.alloc (.cells C1 5)) w.heap.size (n + 1) (pfx lo m) by
    refine ⟨C1, heap_alloc_new w _, ?_, ?_, by rw [pfx_len]; omega, by unfold maxLen; omega⟩
    · rw [hC1]
      simp [bvs_len, hs0]
      omega
    · rw [hC1, hpm, List.toList_toArray, List.take_append_of_le_length (by rw [bvs_len]; exact Nat.le_refl _), List.take_of_length_le (by rw [bvs_len]; exact Nat.le_refl _)])
  rw [← hm] at hcp
  have hmn : m ≤ n := by omega
  have HM := Lib.hid hm
  clear hC0 hC1 hs0 hpm hm
  go_enter Try.func26, Try.ntmps26
  go_wp2
  go_loopw [6] (fun i wr => PfxRel lo n w i wr) (fun i _ => n - (intOf i).toNat)
  case atStart => exact ⟨m, hmn, by rw [HM.out]; exact Nat.le_refl _, rfl, H0.out, (Below.refl _ _).alloc (Nat.le_refl _) _⟩
  case round =>
    obtain ⟨k, hk, hmk', rfl, hb, hbl⟩ := hrel
    have HB := Lib.hid hb
    have HBL := Lib.hid hbl
    by_cases hlt : k < n
    · have hlk : lo.length ≤ k := by omega
      obtain ⟨x, hx⟩ : ∃ v, wr.cell? ⟨w.heap.size, k, none⟩ = some v := by
        obtain ⟨cs, hh, hs, _⟩ := hb
        exact ⟨cs[k]'(by omega), by simp [World.cell?, hh, show k < cs.size by omega]⟩
      have hf := hb.frozen k
      have HN := Lib.hid (by have h := hb.next 97 (by rw [pfx_len]; omega); rw [pfx_len, ← pfx_more hlk] at h; exact h : BAt (wr.setCell ⟨w.heap.size, k, none⟩ (.int .u8 97)) w.heap.size (n + 1) (pfx lo (k + 1)))
      have HNB := Lib.hid (hbl.setCell (p := ⟨w.heap.size, k, none⟩) (Nat.le_refl _) (.int .u8 97))
      clear hb hbl hmk hcp
      go_wp2
      go_roundw
      case rel => exact ⟨k + 1, by omega, by omega, by go_num, HN.out, HNB.out⟩
      case measure => simp [intOf]; omega
    · have hkn : k = n := by omega
      have HK := Lib.hid hkn
      clear hkn hmk hcp hb hbl
      go_wp2
      go_ret
      exact ⟨w.heap.size, rfl, Nat.le_refl _, by have := HB.out; rw [HK.out] at this; exact this, HBL.out⟩
end Go.Proofs.Ytedlfjolmhkpdaa
