/- The contract of lex.Join: the leads and texts in order, then the tail. Condition: they have at most 2^47 bytes together. -/
import Derived.Test.YtopnimajlgpdeaaLexBuilder
import Derived.Test.YtopnimajlgpdeaaLexKeepsPure
namespace Go.Proofs.Ytopnimajlgpdeaa
open Go.RowKit
theorem strCells_bl (s : ByteArray) : Lib.strCells s = Lib.byteCells (bl s) := by
  unfold Lib.strCells Lib.byteCells bl suf
  rw [List.drop_zero]
theorem byteCells_append (a b : List UInt8) : Lib.byteCells (a ++ b) = Lib.byteCells a ++ Lib.byteCells b := by
  unfold Lib.byteCells
  rw [List.map_append]
theorem joinL_take {ts : List Tok} {k : Nat} {t : Tok} (ht : ts[k]? = some t) : joinL (ts.take (k + 1)) [] = joinL (ts.take k) [] ++ (bl t.lead ++ bl t.text) := by
  obtain ⟨hk, e⟩ := List.getElem?_eq_some_iff.1 ht
  rw [← joinL_snoc, List.take_succ_eq_append_getElem hk, e]
theorem joinL_tail (ts : List Tok) (tail : List UInt8) : joinL ts tail = joinL ts [] ++ tail := by
  unfold joinL
  rw [List.append_nil]
theorem joinL_le (ts : List Tok) (k : Nat) : (joinL (ts.take k) []).length ≤ (joinL ts []).length := by
  have : joinL ts [] = joinL (ts.take k) [] ++ joinL (ts.drop k) [] := by
    unfold joinL
    rw [List.append_nil, List.append_nil, List.append_nil, ← List.flatMap_append, List.take_append_drop]
  rw [this, List.length_append]
  omega
theorem IsBuilder_below {B' : Nat} {T e : TypeId} {b : Nat} {bs : List Value} {w : World} (h : Lib.BuilderAt T e B' b (.pointer (some ⟨b, 0, none⟩)) bs w) : Lib.IsBuilder T e B' b bs w := .inr h
theorem builder_alloc {B' : Nat} {T e : TypeId} {b : Nat} {bs : List Value} {w : World} (h : Lib.IsBuilder T e B' b bs w) (o : Obj) : Lib.IsBuilder T e B' b bs (w.alloc o) := by
  have one : ∀ p, Lib.BuilderAt T e B' b p bs w → Lib.BuilderAt T e B' b p bs (w.alloc o) := fun p h1 => by
    have hlt := h1.lt
    obtain ⟨hB, v, hb, hown, hne⟩ := h1
    exact ⟨hB, v, (Below.heap_alloc w o b hlt).trans hb, hown.alloc o, hne⟩
  exact h.elim (fun x => .inl (one _ x)) (fun x => .inr (one _ x))
/-- The state of the loop of Join. -/
def JoinAt (ts : List Tok) (b B : Nat) (k : Nat) (w wr : World) : Prop :=
  k ≤ ts.length ∧ Lib.IsBuilder 52 5 B b (Lib.byteCells (joinL (ts.take k) [])) wr ∧ Below B w wr
theorem join_room1 {ts : List Tok} {k n : Nat} {t : Tok} (h : (joinL ts []).length + n ≤ 140737488355328) (ht : ts[k]? = some t) : (Lib.byteCells (joinL (ts.take k) [])).length + t.lead.size ≤ 140737488355328 := by
  have := joinL_le ts (k + 1)
  rw [joinL_take ht, List.length_append, List.length_append, bl_length, bl_length] at this
  rw [Lib.byteCells_length]
  omega
theorem join_room2 {ts : List Tok} {k n : Nat} {t : Tok} (h : (joinL ts []).length + n ≤ 140737488355328) (ht : ts[k]? = some t) : (Lib.byteCells (joinL (ts.take k) []) ++ Lib.strCells t.lead).length + t.text.size ≤ 140737488355328 := by
  have := joinL_le ts (k + 1)
  rw [joinL_take ht, List.length_append, List.length_append, bl_length, bl_length] at this
  rw [List.length_append, Lib.byteCells_length, Lib.strCells_length]
  omega
set_option maxHeartbeats 2000000 in
theorem join_any (A : Option Addr) (c : Nat) (ts : List Tok) (tail : ByteArray) (w : World) (ha : Toks w A ts) (hlen : (joinL ts (bl tail)).length ≤ 140737488355328) (hn : ts.length ≤ 1099511627776) :
    Calls Try.prog 19 #[.slice A ts.length c, .string tail] w fun e w' => e = .returned (.string ⟨(joinL ts (bl tail)).toArray⟩) ∧ Below w.heap.size w w' := by
  rw [joinL_tail, List.length_append] at hlen
  have HLen := Lib.hid hlen
  have HA := Lib.hid ha
  clear ha
  clear hlen
  go_enter Try.func19, Try.ntmps19
  go_wp2
  go_loopw [7, 10] (fun _ i wr => ∃ k : Nat, i = .int .i64 k ∧ k ≤ ts.length ∧ JoinAt ts w.heap.size w.heap.size k w wr) (fun _ i _ => ts.length - (intOf i).toNat)
  case atStart => exact ⟨0, rfl, Nat.zero_le _, Nat.zero_le _, Lib.fresh_isBuilder 52 5 w, (Below.refl _ _).alloc (Nat.le_refl _) _⟩
  case round =>
    obtain ⟨k, rfl, hk, hrel⟩ := hrel
    have HR := Lib.hid hrel
    clear hrel
    by_cases hlt : k < ts.length
    · obtain ⟨b', off, rfl, hca⟩ := (HA.out.below HR.out.2.2) (by intro e; rw [e] at hlt; simp at hlt)
      obtain ⟨t, ht⟩ : ∃ t, ts[k]? = some t := ⟨_, List.getElem?_eq_getElem hlt⟩
      obtain ⟨a0, a1, a2⟩ := hca k t ht
      have HT := Lib.hid ht
      clear hca ht
      have hbl := Lib.hid (show (Lib.byteCells (joinL (ts.take k) [])).length + t.lead.size ≤ 140737488355328 from join_room1 HLen.out HT.out)
      have hbt := Lib.hid (show (Lib.byteCells (joinL (ts.take k) []) ++ Lib.strCells t.lead).length + t.text.size ≤ 140737488355328 from join_room2 HLen.out HT.out)
      have hB0 := Lib.hid (Nat.le_trans HR.out.2.2.size (show wr.heap.size ≤ (wr.alloc (.cells #[.int .i64 t.kind, .string t.lead, .string t.text] 35)).heap.size from by simp))
      go_wp2_with fail
      refine (writeString_any w.heap.size w.heap.size _ t.lead _ (builder_alloc HR.out.2.1 _) hbl.out hB0.out).mono ?_
      rintro e w1 ⟨rfl, hbd1, hbe1, hk1⟩
      have HB1 := Lib.hid hbd1
      have HE1 := Lib.hid hbe1
      have hh1 := hk1 wr.heap.size #[.int .i64 t.kind, .string t.lead, .string t.text] 35 (0, 0) (heap_alloc_new wr _) (by have := HR.out.2.1.elim (fun x => x.lt) (fun x => x.lt); omega) (by decide)
      have d2 : w1.cell? ⟨wr.heap.size, 2, none⟩ = some (.string t.text) := by rw [Lib.cell_of_heap hh1]; rfl
      clear hbd1 hbe1 hk1 hh1
      go_wp2_with fail
      refine (writeString_any w.heap.size w.heap.size _ t.text _ (.inr HB1.out) hbt.out (Nat.le_trans hB0.out HE1.out.size)).mono ?_
      rintro e w2 ⟨rfl, hbd2, hbe2, _⟩
      have HB2 := Lib.hid hbd2
      have HE2 := Lib.hid hbe2
      clear hbd2 hbe2
      go_wp2
      go_roundw
      case rel =>
        refine ⟨k + 1, by go_num, by omega, by omega, ?_, ((HR.out.2.2.alloc HR.out.2.2.size _).trans HE1.out).trans HE2.out⟩
        rw [joinL_take HT.out, byteCells_append, byteCells_append, ← strCells_bl, ← strCells_bl, ← List.append_assoc]
        exact .inr HB2.out
      case measure => simp [intOf]; omega
    · have hkn : k = ts.length := by omega
      subst hkn
      have HX := Lib.hid (show JoinAt ts w.heap.size w.heap.size ts.length w wr from HR.out)
      have htl := Lib.hid (show (Lib.byteCells (joinL (ts.take ts.length) [])).length + tail.size ≤ 140737488355328 from by rw [List.take_length, Lib.byteCells_length, ← bl_length tail]; exact HLen.out)
      go_wp2_with fail
      refine (writeString_any w.heap.size w.heap.size _ tail _ HX.out.2.1 htl.out HX.out.2.2.size).mono ?_
      rintro e w1 ⟨rfl, hbd1, hbe1, _⟩
      have HB1 := Lib.hid hbd1
      have HE1 := Lib.hid hbe1
      clear hbd1 hbe1
      have HS := Lib.hid (show Lib.IsBuilder 52 5 w.heap.size w.heap.size (Lib.byteCells (joinL ts (bl tail))) w1 from by
        have := HB1.out
        rw [List.take_length, strCells_bl, ← byteCells_append, ← joinL_tail] at this
        exact .inr this)
      go_wp2_with fail
      refine (builderString w.heap.size w.heap.size _ w1 HS.out (Nat.le_trans HX.out.2.2.size HE1.out.size)).mono ?_
      rintro e w2 ⟨rfl, hbe2⟩
      have HE2 := Lib.hid hbe2
      clear hbe2
      go_wp2
      go_ret
      exact ⟨rfl, (HX.out.2.2.trans HE1.out).trans HE2.out⟩
end Go.Proofs.Ytopnimajlgpdeaa
