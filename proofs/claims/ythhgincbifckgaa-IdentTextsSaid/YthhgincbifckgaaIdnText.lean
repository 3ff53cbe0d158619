/- The contracts of appendNumber, Format, readNumber and Parse. Condition: texts of at most 2^47 - 4096 bytes. -/
import Derived.Test.YthhgincbifckgaaIdnSmall
import Derived.Laws.BytesArg
import Derived.Deep.AppendLies
namespace Go.Proofs.Ythhgincbifckgaa
open Go.RowKit
theorem byte_info : (Try.prog.info? 5).map (fun i => (i.zero, i.size, i.bytes)) = some (some (.int .u8 0), 1, 1) := by kernel_rfl
def bvs (l : List UInt8) : List Value := l.map fun c => .int .u8 (c.toNat : Int)
theorem bvs_len (l : List UInt8) : (bvs l).length = l.length := by unfold bvs; simp
theorem bvs_app (l r : List UInt8) : bvs (l ++ r) = bvs l ++ bvs r := by unfold bvs; simp
/-- The bytes of a slice of one's own. -/
def BRow (w : World) (B : Nat) (v : Value) (l : List UInt8) : Prop := w.ownsRow B 5 1 v l.length (bvs l) ∧ B ≤ w.heap.size
def Post1 (B : Nat) (w : World) (l : List UInt8) (e : Ending) (w' : World) : Prop := ∃ v', e = .returned v' ∧ BRow w' B v' l ∧ Below B w w'
theorem digit_byte (n : Nat) : ((UInt8.ofNat (48 + n % 10)).toNat : Int) = 48 + (n : Int) % 10 := by
  rw [digit_nat (by omega)]
  omega
theorem brow_grow {B : Nat} {w w1 : World} {v v' : Value} {l : List UInt8} {c : UInt8} {o : Obj} (hb : BRow w B v l) (h1 : w1.ownsRow B 5 1 v' (l.length + 1) (bvs l ++ [.int .u8 (c.toNat : Int)])) (h2 : (w.alloc o).grownBy w1 v.ownBlock) : BRow w1 B v' (l ++ [c]) ∧ Below B w w1 := by
  obtain ⟨ho, hB⟩ := hb
  have hbl : Below B w w1 := ((Below.refl _ _).alloc hB _).grown h2 (by rw [World.size_alloc]; omega) (fun j hj => (World.ownsRow.lt ho j hj).1)
  refine ⟨⟨?_, Nat.le_trans hB hbl.size⟩, hbl⟩
  rw [List.length_append, bvs_app]
  exact h1
set_option maxHeartbeats 1000000 in
theorem append_number (n : Nat) : ∀ (B : Nat) (v : Value) (l : List UInt8) (w : World) (_ : BRow w B v l) (_ : n < 100000000) (_ : l.length + (decL n).length ≤ 1000),
    Calls Try.prog 29 #[v, .int .i64 (n : Int)] w (Post1 B w (l ++ decL n)) := by
  induction n using Nat.strongRecOn with
  | ind n ih =>
    intro B v l w hb hn hl
    obtain ⟨i0, hi, hz0, hz1, hz2⟩ := info_parts byte_info
    have HB := Lib.hid hb
    have hd := digit_byte n
    by_cases hlt : n < 10
    · have hm : n % 10 = n := by omega
      have HD := Lib.hid (show decL n = [UInt8.ofNat (48 + n % 10)] by rw [hm]; exact decL_low hlt)
      rw [HD.out] at hl
      simp only [List.length_singleton] at hl
      have HDB := Lib.hid hd
      clear hm ih hb hd
      go_enter Try.func29, Try.ntmps29
      go_wp2_with (at_builtin; refine wpList_append_own _ rfl (.tmp 11) (.tmp 16) 38 rfl B 5 i0 _ 1 1 Try.underlying38 hi hz0 hz1 hz2 rfl (by omega) v l.length (bvs l) rfl (HB.out.1.alloc _) ⟨w.heap.size, 0, none⟩ 1 1 [.int .u8 (48 + (n : Int) % 10)] rfl rfl ?c1 ?c2 ?c3 ?c4 ?c5 ?_)
      case c1 => exact cell_one_new _ _ _
      case c2 => simp [Value.oneCell']
      case c3 => unfold maxLen; omega
      case c4 => omega
      case c5 => rw [World.size_alloc]; have := HB.out.2; omega
      intro v' w1 hown1 hg1 _
      rw [← HDB.out] at hown1
      have HR := Lib.hid (brow_grow HB.out hown1 hg1)
      clear hown1 hg1
      go_wp2
      go_ret
      exact ⟨v', rfl, by rw [HD.out]; exact HR.out.1, HR.out.2⟩
    · have HD := Lib.hid (decL_big hlt)
      have hc : ((n : Int) / 10) = ((n / 10 : Nat) : Int) := by omega
      rw [HD.out, List.length_append] at hl
      simp only [List.length_singleton] at hl
      have HC := Lib.hid (by rw [hc]; exact ih (n / 10) (by omega) B v l w hb (by omega) (by omega) : Calls Try.prog 29 #[v, .int .i64 ((n : Int) / 10)] w (Post1 B w (l ++ decL (n / 10))))
      have hl' := Lib.hid hl
      have HDB := Lib.hid hd
      clear ih hb hd hc hl
      go_enter Try.func29, Try.ntmps29
      go_wp2_with fail
      refine HC.out.mono ?_
      rintro e w2 ⟨v2, rfl, hb2, hbl2⟩
      obtain ⟨l2, hl2⟩ : ∃ l2, l2 = l ++ decL (n / 10) := ⟨_, rfl⟩
      rw [← hl2] at hb2
      have hll : l2.length ≤ 999 := by rw [hl2, List.length_append]; have := hl'.out; omega
      have HL2 := Lib.hid hl2
      clear hl2
      have HB2 := Lib.hid hb2
      have HBL := Lib.hid hbl2
      clear hb2 hbl2
      go_wp2_with (at_builtin; refine wpList_append_own _ rfl (.tmp 11) (.tmp 16) 38 rfl B 5 i0 _ 1 1 Try.underlying38 hi hz0 hz1 hz2 rfl (by omega) v2 l2.length (bvs l2) rfl (HB2.out.1.alloc _) ⟨w2.heap.size, 0, none⟩ 1 1 [.int .u8 (48 + (n : Int) % 10)] rfl rfl ?c1 ?c2 ?c3 ?c4 ?c5 ?_)
      case c1 => exact cell_one_new _ _ _
      case c2 => simp [Value.oneCell']
      case c3 => unfold maxLen; omega
      case c4 => omega
      case c5 => rw [World.size_alloc]; have := HB2.out.2; omega
      intro v' w1 hown1 hg1 _
      rw [← HDB.out] at hown1
      have HR := Lib.hid (brow_grow HB2.out hown1 hg1)
      clear hown1 hg1
      go_wp2
      go_ret
      exact ⟨v', rfl, by rw [HD.out, ← List.append_assoc, ← HL2.out]; exact HR.out.1, HBL.out.trans HR.out.2⟩
theorem decL_pos (n : Nat) : 0 < (decL n).length := by
  rw [decL]
  split <;> simp
theorem decL_le7 (n : Nat) (h : n ≤ 1048575) : (decL n).length ≤ 7 := decL_len n 7 (by omega) (by decide)
/-- The string of a list of bytes. -/
def strL (l : List UInt8) : ByteArray := ⟨l.toArray⟩
theorem strL_size (l : List UInt8) : (strL l).size = l.length := by unfold strL; simp [ByteArray.size]
theorem strL_inj {l r : List UInt8} (h : strL l = strL r) : l = r := by
  have := congrArg (fun s : ByteArray => s.data.toList) h
  simpa [strL] using this
theorem strL_back (s : ByteArray) : strL s.data.toList = s := by cases s; simp [strL]
theorem str_nums (l : List UInt8) : strOfNums (l.map fun c => (c.toNat : Int)) = strL l := by
  unfold strOfNums strL
  rw [List.map_map]
  congr 2
  apply List.ext_getElem (by simp)
  intro i h1 h2
  simp
/-- A slice of one's own as a string. -/
theorem conv_row {w : World} {B : Nat} {v : Value} {l : List UInt8} (hb : BRow w B v l) (hl : 0 < l.length) : (convert 38 9 v).run Try.prog w = .ok (.string (strL l)) w := by
  obtain ⟨g, cap, hv, _, _⟩ := World.ownsRow.form hb.1 hl
  have hc := fun i (hi : i < l.length) => World.ownsRow.cells (g := g) hb.1 (by rw [hv]; rfl) i (.int .u8 (l[i].toNat : Int)) (by unfold bvs; rw [List.getElem?_map, List.getElem?_eq_getElem hi]; rfl)
  subst hv
  have hq := run_convert_bytes_arg (P := Try.prog) w 38 5 Try.underlying38 Try.underlying5 g 0 l.length cap (l.map fun c => (c.toNat : Int)) (by simp) (fun i hi => by
    have := hc i hi
    rw [show ((l.map fun c => (c.toNat : Int)).getD i 0) = (l[i].toNat : Int) from by rw [List.getD_eq_getElem?_getD, List.getElem?_map, List.getElem?_eq_getElem hi]; rfl]
    unfold Addr.add at this
    split at this
    · rename_i h0
      subst h0
      exact this
    · exact this) 9 Try.underlying9
  rw [str_nums] at hq
  exact hq
theorem ret_str {a b : ByteArray} (h : a = b) : Ending.returned (.string a) = .returned (.string b) := by rw [h]
set_option maxHeartbeats 1000000 in
theorem format_any (x : Int) (w : World) : Calls Try.prog 22 #[.int .i64 x] w fun e w' => e = .returned (.string (strL (fmtI x))) ∧ Below w.heap.size w w' := by
  cases hv : validB x
  · have HF := Lib.hid (show fmtI x = [] by unfold fmtI; rw [hv]; rfl)
    have HV := Lib.hid hv
    clear hv
    go_enter Try.func22, Try.ntmps22
    go_wp2_with (first | (go_at_call 12; refine (valid_any _ _).mono ?_; rintro e w' ⟨rfl, rfl⟩; rw [HV.out]))
    go_ret
    exact ⟨ret_str (by rw [HF.out]; rfl), Below.refl _ _⟩
  · have hbd : 1 ≤ x / 1048576 ∧ x / 1048576 ≤ 32 ∧ 1 ≤ x % 1048576 ∧ x % 1048576 ≤ 1048575 := by unfold validB siteB serB at hv; simp at hv; omega
    obtain ⟨a, ha⟩ : ∃ a : Nat, x / 1048576 = (a : Int) := ⟨(x / 1048576).toNat, by omega⟩
    obtain ⟨n, hn⟩ : ∃ n : Nat, x % 1048576 = (n : Int) := ⟨(x % 1048576).toNat, by omega⟩
    have HF := Lib.hid (show fmtI x = decL a ++ [46] ++ decL n by unfold fmtI fmtL; rw [hv, ha, hn]; simp)
    have HSP := Lib.hid (fun w => by have h := split_any x w; rw [ha, hn] at h; exact h : ∀ w, Calls Try.prog 26 #[.int .i64 x] w fun e w' => e = .returned (.tuple #[.int .i64 (a : Int), .int .i64 (n : Int)]) ∧ w = w')
    have HA7 := Lib.hid (decL_le7 a (by omega))
    have HN7 := Lib.hid (decL_le7 n (by omega))
    have ha' : a ≤ 1048575 := by omega
    have hn' : n ≤ 1048575 := by omega
    have HV := Lib.hid hv
    obtain ⟨i0, hi, hz0, hz1, hz2⟩ := info_parts byte_info
    clear hv hbd ha hn
    go_enter Try.func22, Try.ntmps22
    go_wp2_with (first | (go_at_call 12; refine (valid_any _ _).mono ?_; rintro e w' ⟨rfl, rfl⟩; rw [HV.out]) | (go_at_call 26; refine (HSP.out _).mono ?_; rintro e w' ⟨rfl, rfl⟩))
    refine (append_number a w.heap.size (.slice none 0 0) [] w ⟨World.ownsRow_nil _ _ _ _, Nat.le_refl _⟩ (by omega) (by have := HA7.out; simp; omega)).mono ?_
    rintro e w2 ⟨v2, rfl, hb2, hbl2⟩
    rw [List.nil_append] at hb2
    have HB2 := Lib.hid hb2
    have HBL := Lib.hid hbl2
    obtain ⟨l2, hl2⟩ : ∃ l2, l2 = decL a := ⟨_, rfl⟩
    rw [← hl2] at HB2 HF HA7
    clear hb2 hbl2 hl2
    have hl7 := HA7.out
    go_wp2_with (at_builtin; refine wpList_append_own _ rfl (.tmp 16) (.tmp 17) 38 rfl w.heap.size 5 i0 _ 1 1 Try.underlying38 hi hz0 hz1 hz2 rfl (by omega) v2 l2.length (bvs l2) rfl (HB2.out.1.alloc _) ⟨w2.heap.size, 0, none⟩ 1 1 [.int .u8 46] rfl rfl ?c1 ?c2 ?c3 ?c4 ?c5 ?_)
    case c1 => exact cell_one_new _ _ _
    case c2 => simp [Value.oneCell']
    case c3 => unfold maxLen; omega
    case c4 => omega
    case c5 => rw [World.size_alloc]; have := HB2.out.2; omega
    intro v3 w3 hown1 hg1 _
    have HR := Lib.hid (brow_grow (c := 46) HB2.out hown1 hg1)
    clear hown1 hg1
    obtain ⟨l3, hl3⟩ : ∃ l3, l3 = l2 ++ [46] := ⟨_, rfl⟩
    rw [← hl3] at HR HF
    have hl37 : l3.length ≤ 8 := by rw [hl3, List.length_append]; simp; omega
    clear hl3
    go_wp2_with fail
    refine (append_number n w.heap.size v3 l3 w3 HR.out.1 (by omega) (by have := HN7.out; omega)).mono ?_
    rintro e w4 ⟨v4, rfl, hb4, hbl4⟩
    have hcv := conv_row hb4 (by rw [List.length_append]; have := decL_pos n; omega)
    have HB4 := Lib.hid hbl4
    clear hb4 hbl4
    go_wp2
    go_ret
    exact ⟨ret_str (by rw [HF.out]), HBL.out.trans (HR.out.2.trans HB4.out)⟩
end Go.Proofs.Ythhgincbifckgaa
