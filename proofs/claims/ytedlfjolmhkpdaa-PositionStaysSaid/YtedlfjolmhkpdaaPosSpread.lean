/- A block of cells of one's own; the contracts of Spread, the reference's Spread, SameTexts. No condition. -/
import Derived.Test.YtedlfjolmhkpdaaPosRBtw
namespace Go.Proofs.Ytedlfjolmhkpdaa
open Go.RowKit
attribute [local go_sem 2000] str_gtr str_leq
/-- A block that begins with these cells. -/
def CAt (w : World) (g : Nat) (T : TypeId) (c : Nat) (vs : List Value) : Prop := ∃ cs : Array Value, w.heap[g]? = some (.cells cs T (0, 0)) ∧ cs.size = c ∧ cs.toList.take vs.length = vs ∧ vs.length ≤ c ∧ c ≤ maxLen
theorem CAt.lt {w : World} {g c : Nat} {T : TypeId} {vs : List Value} (h : CAt w g T c vs) : g < w.heap.size := by
  obtain ⟨cs, hh, _⟩ := h
  exact heap_lt hh
theorem CAt.cell {w : World} {g c : Nat} {T : TypeId} {vs : List Value} (h : CAt w g T c vs) {j : Nat} {x : Value} (hx : vs[j]? = some x) : w.cell? ⟨g, j, none⟩ = some x := by
  obtain ⟨cs, hh, hs, ht, hl, _⟩ := h
  have hj := (List.getElem?_eq_some_iff.1 hx).1
  rw [← ht, List.getElem?_take_of_lt hj, Array.getElem?_toList] at hx
  simp [World.cell?, hh, hx]
theorem CAt.any {w : World} {g c : Nat} {T : TypeId} {vs : List Value} (h : CAt w g T c vs) {j : Nat} (hj : j < c) : ∃ x, w.cell? ⟨g, j, none⟩ = some x := by
  obtain ⟨cs, hh, hs, _⟩ := h
  exact ⟨cs[j]'(by omega), by simp [World.cell?, hh, show j < cs.size by omega]⟩
theorem CAt.frozen {w : World} {g c : Nat} {T : TypeId} {vs : List Value} (h : CAt w g T c vs) (j : Nat) : w.frozen? ⟨g, j, none⟩ = false := by
  obtain ⟨cs, hh, _⟩ := h
  simp [World.frozen?, hh]
theorem CAt.keep {w w' : World} {g c : Nat} {T : TypeId} {vs : List Value} (h : CAt w g T c vs) (hw : w'.heap[g]? = w.heap[g]?) : CAt w' g T c vs := by
  unfold CAt at h ⊢
  rw [hw]
  exact h
theorem CAt.below {w w' : World} {B g c : Nat} {T : TypeId} {vs : List Value} (h : CAt w g T c vs) (hb : Below B w w') (hg : g < B) : CAt w' g T c vs := h.keep (hb.block g hg)
theorem CAt.alloc {w : World} {g c : Nat} {T : TypeId} {vs : List Value} (h : CAt w g T c vs) (o : Obj) : CAt (w.alloc o) g T c vs := h.keep (Below.heap_alloc w o g h.lt)
theorem CAt.grown {w w' : World} {g c : Nat} {T : TypeId} {vs : List Value} {row : Option Nat} (h : CAt w g T c vs) (hb : w.grownBy w' row) (hg : some g ≠ row) : CAt w' g T c vs := h.keep (hb.block g h.lt hg)
theorem CAt.far {w : World} {g c : Nat} {T : TypeId} {vs : List Value} (h : CAt w g T c vs) {p : Addr} (hp : g ≠ p.block) (u : Value) : CAt (w.setCell p u) g T c vs := h.keep (Below.heap_setCell w p u g hp)
theorem CAt.next {w : World} {g c : Nat} {T : TypeId} {vs : List Value} (h : CAt w g T c vs) (y : Value) (hc : vs.length < c) : CAt (w.setCell ⟨g, vs.length, none⟩ y) g T c (vs ++ [y]) := by
  obtain ⟨cs, hh, hs, ht, hl, hm⟩ := h
  refine ⟨_, heap_set hh _, by simpa using hs, ?_, by simp; omega, hm⟩
  rw [Array.toList_setIfInBounds, List.length_append, List.length_singleton, take_set _ _ _ (by simp; omega), ht]
theorem CAt.set {w : World} {g c j : Nat} {T : TypeId} {vs : List Value} (h : CAt w g T c vs) (y : Value) : CAt (w.setCell ⟨g, j, none⟩ y) g T c (vs.set j y) := by
  obtain ⟨cs, hh, hs, ht, hl, hm⟩ := h
  refine ⟨_, heap_set hh _, by simpa using hs, ?_, by simpa using hl, hm⟩
  rw [Array.toList_setIfInBounds, List.length_set, List.take_set, ht]
theorem CAt.ne {w : World} {g g' c c' : Nat} {T T' : TypeId} {vs vs' : List Value} (h : CAt w g T c vs) (h' : CAt w g' T' c' vs') (hne : T ≠ T') : g ≠ g' := by
  rintro rfl
  obtain ⟨cs, hh, _⟩ := h
  obtain ⟨cs', hh', _⟩ := h'
  rw [hh] at hh'
  injection hh' with hh'
  injection hh' with _ ht
  exact hne ht
theorem CAt.row {w : World} {g c B : Nat} {T : TypeId} {vs : List Value} (h : CAt w g T c vs) (hB : B ≤ g) : w.ownsRow B T 1 (.slice (some ⟨g, 0, none⟩) vs.length c) vs.length vs := by
  obtain ⟨cs, hh, hs, ht, hl, hm⟩ := h
  exact ⟨by rw [Nat.mul_one], .inr ⟨g, c, cs, rfl, hB, hh, hl, hm, by rw [hs, Nat.mul_one], by rw [Nat.mul_one, ht]⟩⟩
theorem CAt.new (w : World) (T : TypeId) (cs : Array Value) (hm : cs.size ≤ maxLen) : CAt (w.alloc (.cells cs T)) w.heap.size T cs.size [] := ⟨cs, heap_alloc_new w _, rfl, rfl, Nat.zero_le _, hm⟩
theorem CAt.whole (w : World) (T : TypeId) (cs : Array Value) (hm : cs.size ≤ maxLen) : CAt (w.alloc (.cells cs T)) w.heap.size T cs.size cs.toList := ⟨cs, heap_alloc_new w _, rfl, by rw [List.take_of_length_le (Nat.le_refl _)], by simp, hm⟩
/-- The keys of a new list. -/
def spreadK (d i : Nat) : List UInt8 := [UInt8.ofNat (97 + i * d / 25), UInt8.ofNat (98 + i * d % 25)]
def spreadN (n : Nat) : List (List UInt8) := (List.range n).map fun i => spreadK (650 / (n + 1)) (i + 1)
def spreadI (n : Int) : List (List UInt8) := if n < 0 ∨ 400 < n then [] else spreadN n.toNat
theorem spread_snoc (d k : Nat) : (List.range (k + 1)).map (fun i => spreadK d (i + 1)) = (List.range k).map (fun i => spreadK d (i + 1)) ++ [spreadK d (k + 1)] := by
  rw [List.range_succ, List.map_append]
  rfl
theorem spread_len (n : Nat) : (spreadN n).length = n := by unfold spreadN; simp
theorem spread_low {n i : Nat} (hi : i ≤ n) : i * (650 / (n + 1)) ≤ 649 := by
  have h1 : i * (650 / (n + 1)) ≤ n * (650 / (n + 1)) := Nat.mul_le_mul_right _ hi
  have h2 : (n + 1) * (650 / (n + 1)) ≤ 650 := by rw [Nat.mul_comm]; exact Nat.div_mul_le_self 650 (n + 1)
  rw [Nat.add_mul, Nat.one_mul] at h2
  rcases Nat.eq_zero_or_pos (650 / (n + 1)) with h | h
  · rw [h] at h1 ⊢
    omega
  · omega
theorem two_conv (w : World) (x y : Int) : (convert 39 9 (.slice (some ⟨w.heap.size, 0, none⟩) 2 2)).run Try.prog (w.alloc (.cells #[.int .u8 x, .int .u8 y] 5)) = .ok (.string (strOfNums [x, y])) (w.alloc (.cells #[.int .u8 x, .int .u8 y] 5)) :=
  run_convert_bytes_arg _ 39 5 Try.underlying39 Try.underlying5 w.heap.size 0 2 2 [x, y] rfl (fun i hi => by
    have h : (w.alloc (.cells #[.int .u8 x, .int .u8 y] 5)).cell? ⟨w.heap.size, 0 + i, none⟩ = #[Value.int .u8 x, .int .u8 y][0 + i]? := by
      exact World.cell?_alloc_at _ _ _ _ rfl
    rw [h]
    have : i = 0 ∨ i = 1 := by omega
    rcases this with rfl | rfl <;> rfl) 9 Try.underlying9
theorem two_str (a b : Nat) : strOfNums [(a : Int), (b : Int)] = strL [UInt8.ofNat a, UInt8.ofNat b] := by
  unfold strOfNums strL
  simp
theorem make_strings (n : Nat) (hn : n ≤ 1000) (w : World) : (Instr.makeSlice 28 (.int .i64 (n : Int)) (.int .i64 (n : Int))).run Try.prog w = .ok (.slice (some ⟨w.heap.size, 0, none⟩) n n) (w.alloc (.cells (madeCells #[.string ⟨#[]⟩] n) 9)) := by
  obtain ⟨i0, hi, hz0, hz1, hz2⟩ := info_parts string_info
  have hr := run_make (P := Try.prog) w 28 9 i0 _ Try.underlying28 hi hz0 .i64 .i64 (n : Int) (n : Int) (by omega) (by omega) (by rw [hz2]; omega) (by omega)
  rw [hz1, Nat.mul_one, Int.toNat_natCast] at hr
  exact hr
/-- Strings in a block of one's own. -/
def STAt (w : World) (g c : Nat) (l : List (List UInt8)) : Prop := CAt w g 9 c (svs l)
def SprPost (l : List (List UInt8)) (w : World) (e : Ending) (w' : World) : Prop := ∃ v, e = .returned v ∧ SRow w' w.heap.size v l ∧ Below w.heap.size w w'
def SprRel (d n g : Nat) (w : World) (i : Value) (wr : World) : Prop := ∃ k : Nat, k ≤ n ∧ i = .int .i64 (k : Int) ∧ STAt wr g n ((List.range k).map fun i => spreadK d (i + 1)) ∧ Below w.heap.size w wr
set_option maxRecDepth 100000 in
set_option maxHeartbeats 1000000 in
theorem spread_nat (n : Nat) (w : World) (hn : n ≤ 400) : Calls Try.prog 16 #[.int .i64 (n : Int)] w (SprPost (spreadN n) w) := by
  have hmk := make_strings n (by omega) w
  obtain ⟨C0, hC0⟩ : ∃ C, C = madeCells #[Value.string ⟨#[]⟩] n := ⟨_, rfl⟩
  have hs0 : C0.size = n := by rw [hC0, size_madeCells]
  rw [← hC0] at hmk
  have H0 := Lib.hid (show STAt (w.alloc (.cells C0 9)) w.heap.size n [] from by have h := CAt.new w 9 C0 (by unfold maxLen; omega); rw [hs0] at h; exact h)
  obtain ⟨d, hd⟩ : ∃ d, d = 650 / (n + 1) := ⟨_, rfl⟩
  have HDI := Lib.hid (show (650 : Int) / ((n : Int) + 1) = (d : Int) by rw [hd, Int.natCast_ediv]; rfl)
  have HD := Lib.hid hd
  have kc := two_conv
  clear hC0 hs0 hd
  go_enter Try.func16, Try.ntmps16
  go_wp2
  clear hmk
  go_loopw [19] (fun i wr => SprRel d n w.heap.size w i wr) (fun i _ => n - (intOf i).toNat)
  case atStart => exact ⟨0, by omega, rfl, H0.out, (Below.refl _ _).alloc (Nat.le_refl _) _⟩
  case round =>
    obtain ⟨k, hk, rfl, hat, hbl⟩ := hrel
    by_cases hlt : k < n
    · obtain ⟨a, ha⟩ : ∃ a, a = (k + 1) * d := ⟨_, rfl⟩
      have ha649 : a ≤ 649 := by have h := spread_low (n := n) (i := k + 1) hlt; rw [← HD.out, ← ha] at h; exact h
      have hmul : ((k : Int) + 1) * (650 / ((n : Int) + 1)) = (a : Int) := by rw [HDI.out, ha]; simp
      have HN := Lib.hid (show STAt ((wr.alloc (.cells #[.int .u8 (97 + (a : Int) / 25), .int .u8 (98 + (a : Int) % 25)] 5)).setCell ⟨w.heap.size, k, none⟩ (.string (strOfNums [97 + (a : Int) / 25, 98 + (a : Int) % 25]))) w.heap.size n ((List.range (k + 1)).map fun i => spreadK d (i + 1)) from by
        have h := CAt.next (CAt.alloc hat (.cells #[.int .u8 (97 + (a : Int) / 25), .int .u8 (98 + (a : Int) % 25)] 5)) (.string (strOfNums [97 + (a : Int) / 25, 98 + (a : Int) % 25])) (by rw [svs_len]; simpa using hlt)
        rw [svs_len, List.length_map, List.length_range] at h
        unfold STAt
        rw [spread_snoc, svs_app]
        have e : (svs [spreadK d (k + 1)]) = [.string (strOfNums [97 + (a : Int) / 25, 98 + (a : Int) % 25])] := by
          show [Value.string (strL (spreadK d (k + 1)))] = _
          unfold spreadK
          rw [← ha, ← two_str]
          rfl
        rw [e]
        exact h)
      obtain ⟨u, hu⟩ := (CAt.alloc hat (.cells #[.int .u8 (97 + (a : Int) / 25), .int .u8 (98 + (a : Int) % 25)] 5)).any hlt
      have hf := (CAt.alloc hat (.cells #[.int .u8 (97 + (a : Int) / 25), .int .u8 (98 + (a : Int) % 25)] 5)).frozen k
      have HBL := Lib.hid (show Below w.heap.size w ((wr.alloc (.cells #[.int .u8 (97 + (a : Int) / 25), .int .u8 (98 + (a : Int) % 25)] 5)).setCell ⟨w.heap.size, k, none⟩ (.string (strOfNums [97 + (a : Int) / 25, 98 + (a : Int) % 25]))) from (hbl.alloc hbl.size _).setCell (Nat.le_refl _) _)
      clear hat hbl ha
      go_wp2
      go_roundw
      case rel => exact ⟨k + 1, by omega, by go_num, HN.out, HBL.out⟩
      case measure => simp [intOf]; omega
    · have hkn : k = n := by omega
      have HR := Lib.hid (show SRow wr w.heap.size (.slice (some ⟨w.heap.size, 0, none⟩) n n) (spreadN n) from by
        have h := CAt.row (B := w.heap.size) hat (Nat.le_refl _)
        rw [svs_len, List.length_map, List.length_range, hkn, HD.out] at h
        refine ⟨?_, hbl.size⟩
        rw [spread_len]
        exact h)
      have HBL := Lib.hid hbl
      clear hat hbl hkn
      go_wp2
      go_ret
      exact ⟨_, rfl, HR.out, HBL.out⟩
theorem spread_any (n : Int) (w : World) : Calls Try.prog 16 #[.int .i64 n] w (SprPost (spreadI n) w) := by
  by_cases h : n < 0 ∨ 400 < n
  · have HS := Lib.hid (show spreadI n = [] by unfold spreadI; rw [if_pos h])
    by_cases h0 : n < 0
    · clear h
      go_enter Try.func16, Try.ntmps16
      go_wp2
      go_ret
      exact ⟨_, rfl, by rw [HS.out]; exact SRow.nil (Nat.le_refl _), Below.refl _ _⟩
    · have h1 : 400 < n := by omega
      clear h
      go_enter Try.func16, Try.ntmps16
      go_wp2
      go_ret
      exact ⟨_, rfl, by rw [HS.out]; exact SRow.nil (Nat.le_refl _), Below.refl _ _⟩
  · obtain ⟨m, rfl⟩ : ∃ m : Nat, n = (m : Int) := ⟨n.toNat, by omega⟩
    have h2 : spreadI (m : Int) = spreadN m := by unfold spreadI; rw [if_neg h, Int.toNat_natCast]
    rw [h2]
    exact spread_nat m w (by omega)
theorem SRow.alloc {w : World} {B : Nat} {v : Value} {l : List (List UInt8)} (h : SRow w B v l) (o : Obj) : SRow (w.alloc o) B v l := ⟨h.1.alloc o, by rw [World.size_alloc]; exact Nat.le_succ_of_le h.2⟩
theorem cell_one_two (w : World) (o : Obj) (u : Value) (T : TypeId) : ∀ j x, [u][j]? = some x → ((w.alloc o).alloc (.cells #[u] T)).cell? ((⟨w.heap.size + 1, 0, none⟩ : Addr).add j) = some x := by
  have h := cell_one_new (w.alloc o) u T
  rw [World.size_alloc] at h
  exact h
def RSprRel (d n : Nat) (w : World) (v i : Value) (wr : World) : Prop := ∃ k : Nat, k ≤ n ∧ i = .int .i64 ((k + 1 : Nat) : Int) ∧ SRow wr w.heap.size v ((List.range k).map fun i => spreadK d (i + 1)) ∧ Below w.heap.size w wr
set_option maxRecDepth 100000 in
set_option maxHeartbeats 1000000 in
theorem rspread_nat (n : Nat) (w : World) (hn : n ≤ 400) : Calls Try.prog 18 #[.int .i64 (n : Int)] w (SprPost (spreadN n) w) := by
  obtain ⟨i0, hi0, hz0, hz1, hz2⟩ := info_parts string_info
  obtain ⟨d, hd⟩ : ∃ d, d = 650 / (n + 1) := ⟨_, rfl⟩
  have HDI := Lib.hid (show (650 : Int) / ((n : Int) + 1) = (d : Int) by rw [hd, Int.natCast_ediv]; rfl)
  have HD := Lib.hid hd
  have kc := two_conv
  clear hd
  go_enter Try.func18, Try.ntmps18
  go_wp2
  go_loopw [3, 5] (fun v i wr => RSprRel d n w v i wr) (fun _ i _ => n + 1 - (intOf i).toNat)
  case atStart => exact ⟨0, by omega, rfl, SRow.nil (Nat.le_refl _), Below.refl _ _⟩
  case round =>
    obtain ⟨k, hk, rfl, hrow, hbl⟩ := hrel
    have HROW := Lib.hid hrow
    have HBL := Lib.hid hbl
    clear hrow hbl
    by_cases hlt : k < n
    · obtain ⟨a, ha⟩ : ∃ a, a = (k + 1) * d := ⟨_, rfl⟩
      have ha649 : a ≤ 649 := by have h := spread_low (n := n) (i := k + 1) hlt; rw [← HD.out, ← ha] at h; exact h
      have hmul : ((k : Int) + 1) * (650 / ((n : Int) + 1)) = (a : Int) := by rw [HDI.out, ha]; simp
      have hle : (k : Int) + 1 ≤ (n : Int) := by omega
      have HK := Lib.hid (show strOfNums [97 + (a : Int) / 25, 98 + (a : Int) % 25] = strL (spreadK d (k + 1)) from by
        unfold spreadK
        rw [← ha, ← two_str]
        rfl)
      clear ha
      have HL := Lib.hid (show ((List.range k).map fun i => spreadK d (i + 1)).length = k by simp)
      obtain ⟨ls, hls⟩ : ∃ ls, ls = (List.range k).map fun i => spreadK d (i + 1) := ⟨_, rfl⟩
      rw [← hls] at HROW HL
      have HLS := Lib.hid hls
      clear hls
      have hll : ls.length ≤ 400 := by have := HL.out; omega
      go_wp2_with (at_builtin; refine wpList_append_own _ rfl (.tmp 20) (.tmp 35) 28 rfl w.heap.size 9 i0 _ 1 16 Try.underlying28 hi0 hz0 hz1 hz2 rfl (by omega) u3 ls.length (svs ls) rfl ((HROW.out.1.alloc _).alloc _) ⟨wr.heap.size + 1, 0, none⟩ 1 1 [.string (strOfNums [97 + (a : Int) / 25, 98 + (a : Int) % 25])] rfl rfl ?c1 ?c2 ?c3 ?c4 ?c5 ?_)
      case c1 => exact cell_one_two _ _ _ _
      case c2 => simp [Value.oneCell']
      case c3 => unfold maxLen; omega
      case c4 => omega
      case c5 => rw [World.size_alloc, World.size_alloc]; have := HROW.out.2; omega
      intro v5 w5 hown5 hg5 _
      have hgr := srow_grow (c := spreadK d (k + 1)) (HROW.out.alloc (.cells #[.int .u8 (97 + (a : Int) / 25), .int .u8 (98 + (a : Int) % 25)] 5)) (by rw [← HK.out]; exact hown5) hg5
      have HB := Lib.hid ((HBL.out.alloc HBL.out.size _).trans hgr.2)
      have HR := Lib.hid (show SRow w5 w.heap.size v5 ((List.range (k + 1)).map fun i => spreadK d (i + 1)) from by rw [spread_snoc, ← HLS.out]; exact hgr.1)
      clear hown5 hg5 hgr
      go_wp2
      go_roundw
      case rel => exact ⟨k + 1, by omega, by go_num, HR.out, HB.out⟩
      case measure => simp [intOf]; omega
    · have hkn : k = n := by omega
      have hle : ¬ (k : Int) + 1 ≤ (n : Int) := by omega
      have HR := Lib.hid (show SRow wr w.heap.size u3 (spreadN n) from by
        have h := HROW.out
        rw [hkn, HD.out] at h
        exact h)
      clear hkn
      go_wp2
      go_ret
      exact ⟨_, rfl, HR.out, HBL.out⟩
theorem rspread_any (n : Int) (w : World) : Calls Try.prog 18 #[.int .i64 n] w (SprPost (spreadI n) w) := by
  by_cases h : n < 0 ∨ 400 < n
  · have HS := Lib.hid (show spreadI n = [] by unfold spreadI; rw [if_pos h])
    by_cases h0 : n < 0
    · clear h
      go_enter Try.func18, Try.ntmps18
      go_wp2
      go_ret
      exact ⟨_, rfl, by rw [HS.out]; exact SRow.nil (Nat.le_refl _), Below.refl _ _⟩
    · have h1 : 400 < n := by omega
      clear h
      go_enter Try.func18, Try.ntmps18
      go_wp2
      go_ret
      exact ⟨_, rfl, by rw [HS.out]; exact SRow.nil (Nat.le_refl _), Below.refl _ _⟩
  · obtain ⟨m, rfl⟩ : ∃ m : Nat, n = (m : Int) := ⟨n.toNat, by omega⟩
    have h2 : spreadI (m : Int) = spreadN m := by unfold spreadI; rw [if_neg h, Int.toNat_natCast]
    rw [h2]
    exact rspread_nat m w (by omega)
end Go.Proofs.Ytedlfjolmhkpdaa
