/- The contract of Rekey. Condition: at most 1,000 keys. -/
import Derived.Test.YtedlfjolmhkpdaaPosFirst
import Derived.Deep.RegionHeld3
namespace Go.Proofs.Ytedlfjolmhkpdaa
open Go.RowKit
theorem make_room (n : Nat) (hn : n ≤ 1000) (w : World) : (Instr.makeSlice 28 (.int .i64 0) (.int .i64 (n : Int))).run Try.prog w = .ok (.slice (some ⟨w.heap.size, 0, none⟩) 0 n) (w.alloc (.cells (madeCells #[.string ⟨#[]⟩] n) 9)) := by
  obtain ⟨i0, hi, hz0, hz1, hz2⟩ := info_parts string_info
  have hr := run_make (P := Try.prog) w 28 9 i0 _ Try.underlying28 hi hz0 .i64 .i64 0 (n : Int) (by omega) (by omega) (by rw [hz2]; omega) (by omega)
  rw [hz1, Nat.mul_one, Int.toNat_natCast] at hr
  exact hr
/-- New keys, the result. -/
def rekeyP (ks : List Key) : List Key := if 400 < ks.length then [] else (rekL [] ks (keepP ks)).getD (spreadN ks.length)
theorem map_some {α : Type} (o : Option (List α)) (p q : List α) : (o.map (q ++ ·)).map (p ++ ·) = o.map ((p ++ q) ++ ·) := by
  cases o with
  | none => rfl
  | some l => simp
theorem rek_true (last k : Key) (r : List Key) (s : List Bool) : rekL last (k :: r) (true :: s) = (rekL k r s).map ([k] ++ ·) := by rw [rekL]; rfl
theorem rek_false {last k x : Key} {r : List Key} {s : List Bool} (h : betweenP last (nextS r s) = (x, 0)) : rekL last (k :: r) (false :: s) = (rekL x r s).map ([x] ++ ·) := by rw [rekL, h, if_pos rfl]; rfl
theorem rek_fail {last k : Key} {r : List Key} {s : List Bool} (h : (betweenP last (nextS r s)).2 ≠ 0) : rekL last (k :: r) (false :: s) = none := by rw [rekL, if_neg h]
theorem row_ne {w : World} {g c B : Nat} {T : TypeId} {vs : List Value} {v : Value} {l : List Key} (h : CAt w g T c vs) (hr : SRow w B v l) (hT : T ≠ 9) : some g ≠ v.ownBlock := fun e => by
  rcases hr.1.2 with ⟨hv, _⟩ | ⟨g', cap, cur, hv, _, hh, _⟩
  · rw [hv] at e; cases e
  · rw [hv] at e
    injection e with e
    exact heap_type h hh hT e
theorem TAt.cut {w : World} {b off : Nat} {l : List Key} (h : TAt w (some ⟨b, off, none⟩) l) (k : Nat) : TAt w (some ⟨b, off + k, none⟩) (l.drop k) := fun hne => by
  obtain ⟨b', off', hA, hlt, hc⟩ := h (by rintro rfl; simp at hne)
  injection hA with hA
  injection hA with h1 h2 _
  subst h1 h2
  exact ⟨b, off + k, rfl, hlt, fun j x hx => by rw [Nat.add_assoc]; exact hc (k + j) x (by rw [← hx, List.getElem?_drop])⟩
theorem LAt.cut {w : World} {b off : Nat} {l : List Bool} (h : LAt w (some ⟨b, off, none⟩) l) (k : Nat) : LAt w (some ⟨b, off + k, none⟩) (l.drop k) := fun hne => by
  obtain ⟨b', off', hA, hlt, hc⟩ := h (by rintro rfl; simp at hne)
  injection hA with hA
  injection hA with h1 h2 _
  subst h1 h2
  exact ⟨b, off + k, rfl, hlt, fun j x hx => by rw [Nat.add_assoc]; exact hc (k + j) x (by rw [← hx, List.getElem?_drop])⟩
def RekRel (ks : List Key) (st : List Bool) (g : Nat) (w : World) (v lastv i : Value) (wr : World) : Prop :=
  ∃ (k : Nat) (last : Key) (acc : List Key), k ≤ ks.length ∧ i = .int .i64 (k : Int) ∧ lastv = .string (strL last) ∧ last.length ≤ maxLen ∧ SRow wr w.heap.size v acc ∧ acc.length = k ∧ rekL [] ks st = (rekL last (ks.drop k) (st.drop k)).map (acc ++ ·) ∧ CAt wr g 4 st.length (bls st) ∧ Below w.heap.size w wr
theorem next_mem : (ks : List Key) → (st : List Bool) → nextS ks st = [] ∨ nextS ks st ∈ ks
  | [], st => by cases st <;> exact .inl rfl
  | k :: ks, [] => .inl rfl
  | k :: ks, true :: st => .inr List.mem_cons_self
  | k :: ks, false :: st => by
    rcases next_mem ks st with h | h
    · exact .inl h
    · exact .inr (List.mem_cons_of_mem _ h)
theorem next_skip (k : Key) (ks : List Key) (st : List Bool) : nextS (k :: ks) (false :: st) = nextS ks st := rfl
theorem between_len (lo hi : Key) : (betweenP lo hi).1.length ≤ 60 := by
  by_cases h : (betweenP lo hi).2 = 0
  · have := between_ok (lo := lo) (hi := hi) (k := (betweenP lo hi).1) (by rw [← h])
    exact ((vld_iff _).1 this.1).2.1
  · rw [between_bad h]
    simp
set_option maxRecDepth 100000 in
set_option maxHeartbeats 2000000 in
theorem rekey_any (ks : List Key) (AK : Option Addr) (c : Nat) (w : World) (hT : TAt w AK ks) (hn : ks.length ≤ 1000) (hc : ks.length ≤ c) (hl : ∀ k ∈ ks, k.length ≤ maxLen) :
    Calls Try.prog 23 #[.slice AK ks.length c] w (SPost (rekeyP ks) w) := by
  by_cases h400 : 400 < ks.length
  · have HR := Lib.hid (show rekeyP ks = [] by unfold rekeyP; rw [if_pos h400])
    clear hT hl
    go_enter Try.func23, Try.ntmps23
    go_wp2
    go_ret
    exact ⟨_, rfl, by rw [HR.out]; exact SRow.nil (Nat.le_refl _), Below.refl _ _⟩
  · have HRK := Lib.hid (show rekeyP ks = (rekL [] ks (keepP ks)).getD (spreadN ks.length) by unfold rekeyP; rw [if_neg h400])
    obtain ⟨i0, hi0, hz0, hz1, hz2⟩ := info_parts string_info
    have HK := Lib.hid (keep_any ks AK c w hT hn hl)
    obtain ⟨n, hnn⟩ : ∃ n, n = ks.length := ⟨_, rfl⟩
    obtain ⟨st, hst⟩ : ∃ st, st = keepP ks := ⟨_, rfl⟩
    have HSL := Lib.hid (show st.length = n by rw [hst, keep_len, hnn])
    rw [← hst] at HK HRK
    have HT := Lib.hid hT
    have HL := Lib.hid hl
    have HNN := Lib.hid hnn
    rw [← hnn] at HK HRK hn hc h400 ⊢
    clear hT hl hnn hst
    go_enter Try.func23, Try.ntmps23
    go_wp2_with fail
    refine HK.out.mono ?_
    rintro e w1 ⟨g, rfl, hg, hat, hb1⟩
    rw [HSL.out] at hat ⊢
    have HAT := Lib.hid hat
    have HB1 := Lib.hid hb1
    have hmk := make_room n hn w1
    obtain ⟨C0, hC0⟩ : ∃ C, C = madeCells #[Value.string ⟨#[]⟩] n := ⟨_, rfl⟩
    rw [← hC0] at hmk
    have H0 := Lib.hid (show SRow (w1.alloc (.cells C0 9)) w.heap.size (.slice (some ⟨w1.heap.size, 0, none⟩) 0 n) [] from
      ⟨World.ownsRow_made w1 C0 n hb1.size (by unfold maxLen; omega) (by rw [hC0, size_madeCells, Nat.mul_one]), by rw [World.size_alloc]; exact Nat.le_succ_of_le hb1.size⟩)
    clear hat hb1 hg hC0
    go_wp2
    clear hmk
    go_loopw [4, 5, 20] (fun v l i wr => RekRel ks st g w v l i wr) (fun _ _ i _ => n - (intOf i).toNat)
    case atStart =>
      refine ⟨0, [], [], Nat.zero_le _, rfl, rfl, by simp, H0.out, rfl, ?_, by rw [HSL.out]; exact HAT.out.alloc _, HB1.out.alloc HB1.out.size _⟩
      rw [List.drop_zero, List.drop_zero]
      cases rekL [] ks st <;> simp
    case round =>
      obtain ⟨k, last, acc, hk, rfl, rfl, hll, hrow, hal, hrek, hat, hbl⟩ := hrel
      rw [← HNN.out] at hk
      rw [HSL.out] at hat
      have HROW := Lib.hid hrow
      have HAL := Lib.hid hal
      have HREK := Lib.hid hrek
      have HATR := Lib.hid hat
      have HBL := Lib.hid hbl
      have HLL := Lib.hid hll
      obtain ⟨Vl, cl, rfl⟩ := hrow.form
      clear hrow hal hrek hat hbl hll
      by_cases hlt : k < n
      · have hkk : k < ks.length := by rw [← HNN.out]; exact hlt
        have hks : k < st.length := by rw [HSL.out]; exact hlt
        obtain ⟨x, hx⟩ : ∃ x, x = ks[k] := ⟨_, rfl⟩
        obtain ⟨s, hs⟩ : ∃ s, s = st[k] := ⟨_, rfl⟩
        have hgx : ks[k]? = some x := by rw [hx]; exact List.getElem?_eq_getElem hkk
        have hgs : st[k]? = some s := by rw [hs]; exact List.getElem?_eq_getElem hks
        have hdk : ks.drop k = x :: ks.drop (k + 1) := by rw [hx]; exact List.drop_eq_getElem_cons hkk
        have hds : st.drop k = s :: st.drop (k + 1) := by rw [hs]; exact List.drop_eq_getElem_cons hks
        obtain ⟨kb, ko, rfl, hkb, hcs⟩ := HT.out (by rintro rfl; simp at hkk)
        have c1 : wr.cell? ⟨kb, ko + k, none⟩ = some (.string (strL x)) := (HBL.out.cell (p := ⟨kb, ko + k, none⟩) hkb).trans (hcs k x hgx)
        have c2 : wr.cell? ⟨g, k, none⟩ = some (.bool s) := HATR.out.cell (by unfold bls; rw [List.getElem?_map, hgs]; rfl)
        have hxl : x.length ≤ maxLen := HL.out x (by rw [hx]; exact List.getElem_mem _)
        have HXL := Lib.hid hxl
        have HDK := Lib.hid hdk
        have HDS := Lib.hid hds
        have hac : acc.length ≤ 1000 := by rw [HAL.out]; omega
        clear hx hs hgx hgs hdk hds hcs hxl
        cases s
        · have hck : ¬ c = k := by omega
          have hnk : ¬ n = k := by omega
          have hkc : k ≤ c := by omega
          have hlk : (ks.drop k).length = n - k := by rw [List.length_drop, ← HNN.out]
          have hsk : (st.drop k).length = n - k := by rw [List.length_drop, HSL.out]
          have hfs := first_any (some ⟨kb, ko + k, none⟩) (some ⟨g, k, none⟩) (c - k) (n - k) (ks.drop k) (st.drop k) wr.drew ((HT.out.keep (by exact HBL.out.drew)).cut k) (by have h := LAt.cut (HATR.out.bools.keep ((Below.refl _ _).drew)) k; rw [Nat.zero_add] at h; exact h) (by rw [hlk, hsk]) (by rw [hlk]; omega)
          rw [hlk, hsk, HDK.out, HDS.out, next_skip] at hfs
          obtain ⟨nx, hnx⟩ : ∃ nx, nx = nextS (ks.drop (k + 1)) (st.drop (k + 1)) := ⟨_, rfl⟩
          have hnxl : nx.length ≤ maxLen := by
            rcases next_mem (ks.drop (k + 1)) (st.drop (k + 1)) with h | h
            · rw [hnx, h]; simp
            · rw [hnx]; exact HL.out _ (List.mem_of_mem_drop h)
          rw [← hnx] at hfs
          have HFS := Lib.hid hfs
          have HNX := Lib.hid hnx
          clear hlk hsk hfs hnx
          obtain ⟨y, hy⟩ : ∃ y, y = (betweenP last nx).1 := ⟨_, rfl⟩
          obtain ⟨en, hen⟩ : ∃ en, en = (betweenP last nx).2 := ⟨_, rfl⟩
          have hyl : y.length ≤ 60 := by rw [hy]; exact between_len last nx
          have HBT := Lib.hid (fun W => by have h := between_any last nx W HLL.out hnxl; unfold BtwPost at h; rw [← hy, ← hen] at h; exact h : ∀ W, Calls Try.prog 12 #[.string (strL last), .string (strL nx)] W fun e w' => e = .returned (.tuple #[.string (strL y), .int .i64 en]) ∧ Below W.heap.size W w')
          obtain ⟨Y, hY⟩ : ∃ Y, Y = strL y := ⟨_, rfl⟩
          rw [← hY] at HBT
          have HYS := Lib.hid hY
          have HEN := Lib.hid hen
          have HY := Lib.hid hy
          clear hy hen hY
          have HFD := Lib.hid (show ∀ W, W = wr.drew → Calls Try.prog 30 #[.slice (some ⟨kb, ko + k, none⟩) (n - k) (c - k), .slice (some ⟨g, k, none⟩) (n - k) (n - k)] W fun e w' => e = .returned (.string (strL nx)) ∧ W = w' from fun W hW => by
            rw [hW]; exact HFS.out)
          have i0' : (0 : Int) ≤ (k : Int) := by omega
          have i1' : (k : Int) ≤ (n : Int) := by omega
          have i2' : (k : Int) ≤ (c : Int) := by omega
          have i3' : (n : Int) ≤ (c : Int) := by omega
          have hkbr : kb < wr.heap.size := Nat.lt_of_lt_of_le hkb HBL.out.size
          go_wp2_with fail
          go_region_held3 (fun w' => w'.cell? ⟨kb, ko + k, none⟩ = some (.string (strL x))) (first | with_reducible exact c1 | go_keep) (first | (go_at_call 30; refine (HFD.out _ rfl).mono ?_; rintro e w' ⟨rfl, rfl⟩) | (go_at_call 12; refine (HBT.out _).mono ?_; rintro e w5 ⟨rfl, hb5⟩; have HB5 := Lib.hid hb5; have c1' := (hb5.cell (p := ⟨kb, ko + k, none⟩) hkbr).trans c1; clear hb5 c1; have c1 := c1'; clear c1'))
          have hsz5 := HB5.out.size
          have B5 := Lib.hid (HBL.out.trans ((show Below wr.heap.size wr w5 from (Below.refl _ _).drew.trans HB5.out).mono HBL.out.size))
          have R5 := Lib.hid (HROW.out.keep (show Below wr.heap.size wr w5 from (Below.refl _ _).drew.trans HB5.out))
          have A5 := Lib.hid (HATR.out.below (show Below wr.heap.size wr w5 from (Below.refl _ _).drew.trans HB5.out) HATR.out.lt)
          clear c1 c2 i0' i1' i2' i3' hkbr
          by_cases he : en = 0
          · have he1 : (en != 0) = false := by simp [he]
            have HRN := Lib.hid (show rekL [] ks st = (rekL y (ks.drop (k + 1)) (st.drop (k + 1))).map ((acc ++ [y]) ++ ·) by
              rw [HREK.out, HDK.out, HDS.out, rek_false (x := y) (by rw [← HNX.out, HY.out, ← he, HEN.out]), map_some])
            clear he
            go_wp2_with (at_builtin; refine wpList_append_own _ rfl (.tmp 48) (.tmp 50) 28 rfl w.heap.size 9 i0 _ 1 16 Try.underlying28 hi0 hz0 hz1 hz2 rfl (by omega) (.slice Vl acc.length cl) acc.length (svs acc) rfl (R5.out.1.alloc _) ⟨w5.heap.size, 0, none⟩ 1 1 [.string Y] rfl rfl ?c1 ?c2 ?c3 ?c4 ?c5 ?_)
            case c1 => exact cell_one_new _ _ _
            case c2 => simp [Value.oneCell']
            case c3 => unfold maxLen; omega
            case c4 => omega
            case c5 => rw [World.size_alloc]; have := R5.out.2; omega
            intro v6 w6 hown6 hg6 _
            have hgr := srow_grow (c := y) R5.out (by rw [← HYS.out]; exact hown6) hg6
            have HGR := Lib.hid hgr
            have HNA := Lib.hid ((A5.out.alloc _).grown hg6 (row_ne A5.out R5.out (by decide)))
            clear hown6 hg6 hgr
            go_wp2
            go_roundw
            case rel => exact ⟨k + 1, y, acc ++ [y], hkk, by go_num, by rw [← HYS.out], by unfold maxLen; omega, HGR.out.1, by rw [List.length_append, HAL.out]; rfl, HRN.out, by rw [HSL.out]; exact HNA.out, B5.out.trans HGR.out.2⟩
            case measure => simp [intOf]; omega
          · have he1 : (en != 0) = true := by simp [he]
            have HRS := Lib.hid (show rekeyP ks = spreadN n by
              rw [HRK.out, HREK.out, HDK.out, HDS.out, rek_fail (by rw [← HNX.out, ← HEN.out]; exact he), HNN.out]
              rfl)
            have HSP := Lib.hid (fun W => by have h := spread_any (n : Int) W; rw [show spreadI (n : Int) = spreadN n by unfold spreadI; rw [if_neg (by omega), Int.toNat_natCast]] at h; exact h : ∀ W, Calls Try.prog 16 #[.int .i64 (n : Int)] W (SprPost (spreadN n) W))
            clear he
            go_wp2_with fail
            refine (HSP.out _).mono ?_
            rintro e w6 ⟨v6, rfl, hr6, hb6⟩
            have HR6 := Lib.hid hr6
            have HB6 := Lib.hid hb6
            clear hr6 hb6
            go_wp2
            go_ret
            exact ⟨v6, rfl, by rw [HRS.out]; exact ⟨ownsRow_low HR6.out.1 B5.out.size, Nat.le_trans B5.out.size HB6.out.size⟩, B5.out.trans (HB6.out.mono B5.out.size)⟩
        · have HNX := Lib.hid (show rekL [] ks st = (rekL x (ks.drop (k + 1)) (st.drop (k + 1))).map ((acc ++ [x]) ++ ·) by
            rw [HREK.out, HDK.out, HDS.out, rek_true, map_some])
          obtain ⟨X, hX⟩ : ∃ X, X = strL x := ⟨_, rfl⟩
          rw [← hX] at c1
          have HX := Lib.hid hX
          clear hX
          go_wp2_with (at_builtin; refine wpList_append_own _ rfl (.tmp 48) (.tmp 50) 28 rfl w.heap.size 9 i0 _ 1 16 Try.underlying28 hi0 hz0 hz1 hz2 rfl (by omega) (.slice Vl acc.length cl) acc.length (svs acc) rfl (HROW.out.1.alloc _) ⟨wr.heap.size, 0, none⟩ 1 1 [.string X] rfl rfl ?c1 ?c2 ?c3 ?c4 ?c5 ?_)
          case c1 => exact cell_one_new _ _ _
          case c2 => simp [Value.oneCell']
          case c3 => unfold maxLen; omega
          case c4 => omega
          case c5 => rw [World.size_alloc]; have := HROW.out.2; omega
          intro v5 w5 hown5 hg5 _
          have hgr := srow_grow (c := x) HROW.out (by rw [← HX.out]; exact hown5) hg5
          have HGR := Lib.hid hgr
          have HNA := Lib.hid ((HATR.out.alloc _).grown hg5 (row_ne HATR.out HROW.out (by decide)))
          clear hown5 hg5 hgr
          go_wp2
          go_roundw
          case rel => exact ⟨k + 1, x, acc ++ [x], hkk, by go_num, by rw [← HX.out], HXL.out, HGR.out.1, by rw [List.length_append, HAL.out]; rfl, HNX.out, by rw [HSL.out]; exact HNA.out, HBL.out.trans HGR.out.2⟩
          case measure => simp [intOf]; omega
      · have hkn : k = n := by omega
        have HF := Lib.hid (show rekeyP ks = acc by
          rw [HRK.out, HREK.out, List.drop_of_length_le (by rw [← HNN.out, hkn]; exact Nat.le_refl _)]
          rw [rekL]
          simp)
        clear hkn
        go_wp2
        go_ret
        exact ⟨_, rfl, by rw [HF.out]; exact HROW.out, HBL.out⟩
end Go.Proofs.Ytedlfjolmhkpdaa
