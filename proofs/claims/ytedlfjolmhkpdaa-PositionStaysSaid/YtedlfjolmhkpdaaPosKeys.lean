/- Rows of strings; the contracts of the reference's keys and Between. Condition: bounds of at most 2^47 - 4096 bytes. -/
import Derived.Test.YtedlfjolmhkpdaaPosAfter
namespace Go.Proofs.Ytedlfjolmhkpdaa
open Go.RowKit
attribute [local go_sem 2000] str_gtr str_leq
theorem string_info : (Try.prog.info? 9).map (fun i => (i.zero, i.size, i.bytes)) = some (some (.string ⟨#[]⟩), 1, 16) := by kernel_rfl
def svs (l : List (List UInt8)) : List Value := l.map fun x => .string (strL x)
theorem svs_len (l : List (List UInt8)) : (svs l).length = l.length := by unfold svs; simp
theorem svs_app (l r : List (List UInt8)) : svs (l ++ r) = svs l ++ svs r := by unfold svs; simp
/-- The strings of a slice of one's own. -/
def SRow (w : World) (B : Nat) (v : Value) (l : List (List UInt8)) : Prop := w.ownsRow B 9 1 v l.length (svs l) ∧ B ≤ w.heap.size
theorem SRow.nil {w : World} {B : Nat} (h : B ≤ w.heap.size) : SRow w B (.slice none 0 0) [] := ⟨World.ownsRow_nil _ _ _ _, h⟩
theorem ownsRow_keep {w w' : World} {B : Nat} {e : TypeId} {size : Nat} {v : Value} {n : Nat} {xs : List Value} (h : w.ownsRow B e size v n xs) (hb : Below w.heap.size w w') : w'.ownsRow B e size v n xs := by
  refine ⟨h.1, ?_⟩
  rcases h.2 with h0 | ⟨g, cap, cur, hv, hb', hh, hr⟩
  · exact .inl h0
  · exact .inr ⟨g, cap, cur, hv, hb', (hb.block g (heap_lt hh)).trans hh, hr⟩
theorem SRow.keep {w w' : World} {B : Nat} {v : Value} {l : List (List UInt8)} (h : SRow w B v l) (hb : Below w.heap.size w w') : SRow w' B v l := ⟨ownsRow_keep h.1 hb, Nat.le_trans h.2 hb.size⟩
theorem SRow.form {w : World} {B : Nat} {v : Value} {l : List (List UInt8)} (h : SRow w B v l) : ∃ A c, v = .slice A l.length c := by
  rcases h.1.2 with ⟨hv, h0⟩ | ⟨g, cap, cur, hv, _⟩
  · exact ⟨none, 0, by rw [hv, h0]⟩
  · exact ⟨_, cap, hv⟩
theorem svs_get {l : List (List UInt8)} {j : Nat} {x : List UInt8} (h : l[j]? = some x) : (svs l)[j]? = some (.string (strL x)) := by unfold svs; rw [List.getElem?_map, h]; rfl
/-- Where the strings of a slice lie. -/
def SAt (w : World) (g : Nat) (l : List (List UInt8)) : Prop := ∀ (j : Nat) (x : List UInt8), l[j]? = some x → w.cell? ⟨g, j, none⟩ = some (.string (strL x))
theorem SRow.at {w : World} {B : Nat} {v : Value} {l : List (List UInt8)} (h : SRow w B v l) (hl : 0 < l.length) : ∃ g c, v = .slice (some ⟨g, 0, none⟩) l.length c ∧ B ≤ g ∧ g < w.heap.size ∧ SAt w g l := by
  rcases h.1.2 with ⟨_, h0⟩ | ⟨g, cap, cur, hv, hb, hh, hnc, hm, hsz, htk⟩
  · omega
  · refine ⟨g, cap, hv, hb, heap_lt hh, fun j x hx => ?_⟩
    have hj := (List.getElem?_eq_some_iff.1 hx).1
    have h1 := svs_get hx
    rw [Nat.mul_one] at htk
    rw [← htk, List.getElem?_take_of_lt hj, Array.getElem?_toList] at h1
    simp [World.cell?, hh, h1]
theorem srow_grow {B : Nat} {w w1 : World} {v v' : Value} {l : List (List UInt8)} {c : List UInt8} {o : Obj} (hb : SRow w B v l) (h1 : w1.ownsRow B 9 1 v' (l.length + 1) (svs l ++ [.string (strL c)])) (h2 : (w.alloc o).grownBy w1 v.ownBlock) : SRow w1 B v' (l ++ [c]) ∧ Below B w w1 := by
  obtain ⟨ho, hB⟩ := hb
  have hbl : Below B w w1 := ((Below.refl _ _).alloc hB _).grown h2 (by rw [World.size_alloc]; omega) (fun j hj => (World.ownsRow.lt ho j hj).1)
  refine ⟨⟨?_, Nat.le_trans hB hbl.size⟩, hbl⟩
  rw [List.length_append, svs_app]
  exact h1
def SPost (l : List (List UInt8)) (w : World) (e : Ending) (w' : World) : Prop := ∃ v, e = .returned v ∧ SRow w' w.heap.size v l ∧ Below w.heap.size w w'
theorem incr_len : (q q' : List UInt8) → incr q = some q' → q'.length = q.length
  | [], _, h => by cases h
  | c :: r, q', h => by
    rw [incr] at h
    cases hr : incr r with
    | some r' =>
      rw [hr] at h
      injection h with h
      subst h
      simp [incr_len r r' hr]
    | none =>
      rw [hr] at h
      dsimp only at h
      split at h
      · injection h with h
        subst h
        simp
      · cases h
theorem afterL_len (lo : List UInt8) (n : Nat) : (afterL lo n).length ≤ n := by
  unfold afterL
  split
  · simp; omega
  · cases h : incr (lo.take n) with
    | none => simp
    | some q =>
      have := incr_len _ _ h
      rw [List.length_take] at this
      simp
      omega
theorem keysF_on {hi : List UInt8} {n f : Nat} {s : List UInt8} {acc l : List (List UInt8)} (h : keysF hi n (f + 1) s acc = some l) (hc : (!s.isEmpty && undB s hi && decide (acc.length < 100)) = true) : keysF hi n f (afterL s n) (if vldB s = true then acc ++ [s] else acc) = some l := by
  rw [keysF, if_pos hc] at h
  exact h
theorem keysF_off {hi : List UInt8} {n f : Nat} {s : List UInt8} {acc l : List (List UInt8)} (h : keysF hi n (f + 1) s acc = some l) (hc : (!s.isEmpty && undB s hi && decide (acc.length < 100)) = false) : acc = l := by
  rw [keysF, if_neg (by rw [hc]; decide)] at h
  injection h
def KeyRel (hi : List UInt8) (n : Nat) (l : List (List UInt8)) (w : World) (kx : Nat) (v s : Value) (wr : World) : Prop :=
  ∃ (f : Nat) (acc : List (List UInt8)) (t : List UInt8), f ≤ kx ∧ s = .string (strL t) ∧ t.length ≤ 60 ∧ keysF hi n f t acc = some l ∧ SRow wr w.heap.size v acc ∧ Below w.heap.size w wr
set_option maxRecDepth 100000 in
set_option maxHeartbeats 1000000 in
theorem keys_any (lo hi : List UInt8) (n : Nat) (l : List (List UInt8)) (w : World) (hn : n ≤ 60) (hf : keysF hi n 30 (afterL lo n) [] = some l) :
    Calls Try.prog 28 #[.string (strL lo), .string (strL hi), .int .i64 (n : Int)] w (SPost l w) := by
  obtain ⟨i0, hi0, hz0, hz1, hz2⟩ := info_parts string_info
  have HF := Lib.hid hf
  obtain ⟨H, hH⟩ : ∃ H, H = strL hi := ⟨_, rfl⟩
  have HHI := Lib.hid hH
  rw [← hH]
  clear hf hH
  go_enter Try.func28, Try.ntmps28
  go_wp2_with fail
  refine (after_any lo n w hn).mono ?_
  rintro e w1 ⟨rfl, hbl1⟩
  have HBL1 := Lib.hid hbl1
  clear hbl1
  have hal := Nat.le_trans (afterL_len lo n) hn
  obtain ⟨s0, hs0⟩ : ∃ s0, s0 = afterL lo n := ⟨_, rfl⟩
  rw [← hs0] at HF hal ⊢
  clear hs0
  go_wp2
  go_loopg [7, 8] 30 (fun kx v s wr => KeyRel hi n l w kx v s wr)
  case atStart => exact ⟨30, [], s0, Nat.le_refl _, rfl, hal, HF.out, SRow.nil HBL1.out.size, HBL1.out⟩
  case round =>
    obtain ⟨f, acc, t, hfx, rfl, ht, hkf, hrow, hbl⟩ := hrel
    obtain ⟨A, c, rfl⟩ := hrow.form
    cases f with
    | zero => cases hkf
    | succ f =>
      have HROW := Lib.hid hrow
      have HBL := Lib.hid hbl
      obtain ⟨T, hT⟩ : ∃ T, T = strL t := ⟨_, rfl⟩
      have hH := HHI.out
      have ht1 : T.toList.isEmpty = t.isEmpty := by rw [hT, strL_toList]
      have ht2 : (T.toList = []) = (t.isEmpty = true) := by rw [hT, strL_toList]; simp
      have hh1 : H.toList.isEmpty = hi.isEmpty := by rw [hH, strL_toList]
      have hh2 : (H.toList = []) = (hi.isEmpty = true) := by rw [hH, strL_toList]; simp
      have hth : Op.bytesLess T.toList H.toList = bl t hi := by rw [hT, hH, strL_toList, strL_toList]; rfl
      rw [← hT]
      have HT := Lib.hid hT
      have HV := Lib.hid (fun w => by have h := rvalid_list t w (by unfold maxLen; omega); rw [← hT] at h; exact h : ∀ w, Calls Try.prog 15 #[.string T] w fun e w' => e = .returned (.bool (vldB t)) ∧ w = w')
      have HA := Lib.hid (fun w => by have h := after_any t n w hn; rw [← hT] at h; exact h : ∀ w, Calls Try.prog 32 #[.string T, .int .i64 (n : Int)] w (AfterPost t n w))
      clear hT hH
      cases et : t.isEmpty <;> cases eh : hi.isEmpty <;> cases eb : bl t hi <;> by_cases la : acc.length < 100
      all_goals
        rw [et] at ht1 ht2
        rw [eh] at hh1 hh2
        rw [eb] at hth
        first | have ht3 : T.toList = [] := by rw [ht2] | have ht3 : ¬ T.toList = [] := by rw [ht2]; decide
        first | have hh3 : H.toList = [] := by rw [hh2] | have hh3 : ¬ H.toList = [] := by rw [hh2]; decide
        clear ht2 hh2
      all_goals
        first
          | (have hk := Lib.hid (keysF_off hkf (by unfold undB; rw [et, eh, eb]; simp [la]))
             clear hkf et eh eb hrow hbl
             go_wp2
             go_ret
             exact ⟨_, rfl, by rw [← hk.out]; exact HROW.out, HBL.out⟩)
          | (have hk := Lib.hid (keysF_on hkf (by unfold undB; rw [et, eh, eb]; simp [la]))
             clear hkf et eh eb hrow hbl
             cases hv : vldB t
             · have hk2 := Lib.hid (show keysF hi n f (afterL t n) acc = some l by have h := hk.out; rw [hv] at h; exact h)
               have HV2 := Lib.hid (fun w => by have h := HV.out w; rw [hv] at h; exact h : ∀ w, Calls Try.prog 15 #[.string T] w fun e w' => e = .returned (.bool false) ∧ w = w')
               clear hk HV hv
               go_wp2_with (first | (go_at_call 15; (with_reducible refine (HV2.out _).mono ?_); rintro e w' ⟨rfl, rfl⟩) | (go_at_call 32; (with_reducible refine (HA.out _).mono ?_); rintro e w3 ⟨rfl, hb3⟩; have HB3 := Lib.hid hb3; clear hb3))
               go_roundg f
               case rel => exact ⟨f, acc, afterL t n, Nat.le_refl _, rfl, Nat.le_trans (afterL_len t n) hn, hk2.out, HROW.out.keep HB3.out, HBL.out.trans (HB3.out.mono HBL.out.size)⟩
               case measure => omega
             · have hk2 := Lib.hid (show keysF hi n f (afterL t n) (acc ++ [t]) = some l by have h := hk.out; rw [hv] at h; exact h)
               have HV2 := Lib.hid (fun w => by have h := HV.out w; rw [hv] at h; exact h : ∀ w, Calls Try.prog 15 #[.string T] w fun e w' => e = .returned (.bool true) ∧ w = w')
               clear hk HV hv
               go_wp2_with (first | (go_at_call 15; (with_reducible refine (HV2.out _).mono ?_); rintro e w' ⟨rfl, rfl⟩) | (at_builtin; refine wpList_append_own _ rfl (.tmp 30) (.tmp 32) 28 rfl w.heap.size 9 i0 _ 1 16 Try.underlying28 hi0 hz0 hz1 hz2 rfl (by omega) _ acc.length (svs acc) rfl (HROW.out.1.alloc _) ⟨wr.heap.size, 0, none⟩ 1 1 [.string T] rfl rfl (cell_one_new _ _ _) (by simp [Value.oneCell']) (by unfold maxLen; omega) (by omega) (by rw [World.size_alloc]; have := HROW.out.2; omega) ?_))
               intro v5 w5 hown5 hg5 _
               have hgr := srow_grow (c := t) HROW.out (by rw [← HT.out]; exact hown5) hg5
               have HG := Lib.hid hgr
               clear hown5 hg5 hgr
               go_wp2_with ((go_at_call 32; (with_reducible refine (HA.out _).mono ?_); rintro e w3 ⟨rfl, hb3⟩; have HB3 := Lib.hid hb3; clear hb3))
               go_roundg f
               case rel => exact ⟨f, acc ++ [t], afterL t n, Nat.le_refl _, rfl, Nat.le_trans (afterL_len t n) hn, hk2.out, HG.out.1.keep HB3.out, (HBL.out.trans HG.out.2).trans (HB3.out.mono (HBL.out.trans HG.out.2).size)⟩
               case measure => omega)
end Go.Proofs.Ytedlfjolmhkpdaa
