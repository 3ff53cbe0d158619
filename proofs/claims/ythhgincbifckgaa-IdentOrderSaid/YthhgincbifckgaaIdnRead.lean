/- The contracts of readNumber and Parse. Condition: texts of at most 2^47 - 4096 bytes. -/
import Derived.Test.YthhgincbifckgaaIdnText
namespace Go.Proofs.Ythhgincbifckgaa
open Go.RowKit
/-- What is left of a string from a place on. -/
def suf (s : ByteArray) (k : Nat) : List UInt8 := s.data.toList.drop k
theorem suf_cons (s : ByteArray) (k : Nat) (h : k < s.size) : suf s k = s[k] :: suf s (k + 1) := by
  unfold suf
  rw [List.drop_eq_getElem_cons (by simpa using h)]
  rfl
theorem suf_end (s : ByteArray) (k : Nat) (h : s.size ≤ k) : suf s k = [] := by
  unfold suf
  exact List.drop_eq_nil_of_le (by simpa using h)
theorem str_ne {s : ByteArray} (h : 0 < s.size) : ¬ s.toList = [] := by
  rw [ByteArray.toList_eq]
  intro e
  have h2 : s.data.toList.length = s.size := Array.length_toList
  rw [e] at h2
  exact absurd h2.symm (by show ¬ s.size = 0; omega)
theorem str_some {s : ByteArray} (h : 0 < s.size) : s.toList.isEmpty = false := by
  have := str_ne h
  cases hl : s.toList with
  | nil => exact absurd hl this
  | cons => rfl
theorem extract_suf (s : ByteArray) (k : Nat) : s.extract k s.size = strL (suf s k) := by
  have h : (s.extract k s.size).data.toList = suf s k := by
    unfold suf
    rw [ByteArray.data_extract, Array.toList_extract]
    simp only [List.extract_eq_take_drop]
    exact List.take_of_length_le (by simp)
  rw [← strL_back (s.extract k s.size), h]
theorem drewN_below (w : World) (n : Nat) : Below w.heap.size w (w.drewN n) := (Below.refl _ _).trans ⟨rfl, rfl, rfl, Nat.le_refl _, fun _ _ => rfl⟩
theorem ret_num {a b : Int} {c d : ByteArray} (h : a = b) (h' : c = d) : Ending.returned (.tuple #[.int .i64 a, .string c]) = .returned (.tuple #[.int .i64 b, .string d]) := by rw [h, h']
set_option maxHeartbeats 1000000 in
theorem readNumber_any (s : ByteArray) (w : World) (hs : s.size ≤ maxLen) :
    Calls Try.prog 28 #[.string s] w fun e w' => e = .returned (.tuple #[.int .i64 ((readN s.data.toList).1 : Int), .string (strL (readN s.data.toList).2)]) ∧ Below w.heap.size w w' := by
  unfold maxLen at hs
  by_cases h0 : s.size = 0
  · have hl : s.data.toList = [] := List.eq_nil_of_length_eq_zero (by simpa using h0)
    have he : s = ⟨#[]⟩ := by cases s; simp at hl; rw [hl]
    have HL := Lib.hid hl
    clear hl
    subst he
    go_enter Try.func28, Try.ntmps28
    go_wp2
    go_ret2
    exact ⟨ret_num rfl rfl, Below.refl _ _⟩
  · have hpos : 0 < s.size := by omega
    have n3 := str_ne hpos
    have n1 := str_some hpos
    have hc0 := suf_cons s 0 hpos
    have hs0 : s.data.toList = suf s 0 := rfl
    have HS0 := Lib.hid hs0
    have HC0 := Lib.hid hc0
    clear hs0 hc0 h0
    by_cases hz : s[0].toNat = 48
    · have hz' : ((s[0].toNat : Int) == 48) = true := by simp [hz]
      have HZ := Lib.hid hz
      clear hz
      go_enter Try.func28, Try.ntmps28
      go_wp2
      all_goals
        go_ret2
        have hr : readN s.data.toList = (0, s.data.toList) := by
          rw [HS0.out, HC0.out]
          unfold readN
          dsimp only
          rw [if_pos HZ.out]
        exact ⟨ret_num (by rw [hr]; rfl) (by rw [hr]; exact (strL_back s).symm), Below.refl _ _⟩
    · have hz' : ((s[0].toNat : Int) == 48) = false := by simp; omega
      have HR : readN s.data.toList = readL 0 (suf s 0) := by
          rw [HS0.out, HC0.out]
          unfold readN
          dsimp only
          rw [if_neg hz]
      have HR := Lib.hid HR
      clear hz
      go_enter Try.func28, Try.ntmps28
      go_wp2
      go_loop [2, 4] (fun a b => ∃ (k n : Nat), k ≤ s.size ∧ n ≤ 10485759 ∧ a = .int .i64 n ∧ b = .int .i64 k ∧ readL 0 (suf s 0) = readL n (suf s k)) (fun _ b => s.size - (intOf b).toNat)
      case atStart => exact ⟨0, 0, by omega, by omega, rfl, rfl, rfl⟩
      case round =>
        obtain ⟨k, n, hk, hn, rfl, rfl, hrel⟩ := hrel
        have HL := Lib.hid hrel
        clear hrel hz' n1 n3
        by_cases hlt : k < s.size
        · have hcons := suf_cons s k hlt
          by_cases hd : 48 ≤ s[k].toNat ∧ s[k].toNat ≤ 57 ∧ n ≤ 1048575
          · have hstep : readL n (suf s k) = readL (n * 10 + (s[k].toNat - 48)) (suf s (k + 1)) := by
              rw [hcons, readL, if_pos hd]
            have HST := Lib.hid hstep
            clear hcons hstep
            obtain ⟨hd1, hd2, hd3⟩ := hd
            go_wp2
            go_round
            case rel => exact ⟨k + 1, n * 10 + (s[k].toNat - 48), by omega, by omega, by congr 1; omega, by go_num, HL.out.trans HST.out⟩
            case measure => simp [intOf]; omega
          · have hstop : readL n (suf s k) = (n, suf s k) := by
              rw [hcons, readL, if_neg hd]
            have HST := Lib.hid (HL.out.trans hstop)
            clear hcons hstop
            go_wp2
            all_goals
              go_quiet (fail)
              go_wp2
              go_ret2
              exact ⟨ret_num (by rw [HR.out, HST.out]) (by rw [HR.out, HST.out]; exact extract_suf s k), drewN_below w _⟩
        · have hstop : readL n (suf s k) = (n, suf s k) := by
            rw [suf_end s k (by omega)]
            rfl
          have HST := Lib.hid (HL.out.trans hstop)
          clear hstop
          go_wp2
          go_quiet (fail)
          go_wp2
          go_ret2
          exact ⟨ret_num (by rw [HR.out, HST.out]) (by rw [HR.out, HST.out]; exact extract_suf s k), drewN_below w _⟩
theorem strL_list (l : List UInt8) : (strL l).data.toList = l := by unfold strL; simp
theorem readNumber_list (l : List UInt8) (w : World) (hs : l.length ≤ maxLen) :
    Calls Try.prog 28 #[.string (strL l)] w fun e w' => e = .returned (.tuple #[.int .i64 ((readN l).1 : Int), .string (strL (readN l).2)]) ∧ Below w.heap.size w w' := by
  have h := readNumber_any (strL l) w (by rw [strL_size]; exact hs)
  rw [strL_list] at h
  exact h
theorem strL_tail (c : UInt8) (q : List UInt8) : (strL (c :: q)).extract 1 (strL (c :: q)).size = strL q := by
  rw [extract_suf]
  rfl
set_option maxHeartbeats 1000000 in
theorem parse_list (l : List UInt8) (w : World) (hs : l.length ≤ maxLen) :
    Calls Try.prog 20 #[.string (strL l)] w fun e w' => e = .returned (.tuple #[.int .i64 (parseP l).1, .int .i64 (parseP l).2]) ∧ Below w.heap.size w w' := by
  have hle := readN_le l
  have hr := readNumber_list l w hs
  have hp : parseP l = match (readN l).2 with
    | [] => (0, 13)
    | c :: r => if c.toNat = 46 then (if (readN r).2 = [] ∧ makeE (readN l).1 (readN r).1 = 0 then (makeI (readN l).1 (readN r).1, 0) else (0, 13)) else (0, 13) := rfl
  obtain ⟨n1, hn1⟩ : ∃ n1, (readN l).1 = n1 := ⟨_, rfl⟩
  obtain ⟨r1, hr1⟩ : ∃ r1, (readN l).2 = r1 := ⟨_, rfl⟩
  rw [hn1, hr1] at hr hp
  rw [hr1] at hle
  have HR := Lib.hid hr
  clear hr hn1 hr1
  cases r1 with
  | nil =>
    have HP := Lib.hid (show parseP l = (0, 13) from hp)
    clear hp
    have HR' : Hid (Calls Try.prog 28 #[.string (strL l)] w fun e w' => e = .returned (.tuple #[.int .i64 (n1 : Int), .string ⟨#[]⟩]) ∧ Below w.heap.size w w') := HR
    go_enter Try.func20, Try.ntmps20
    go_wp2_with fail
    refine HR'.out.mono ?_
    rintro e w1 ⟨rfl, hb1⟩
    have HB1 := Lib.hid hb1
    clear hb1
    go_wp2
    go_ret2
    exact ⟨ret_ints (by rw [HP.out]) (by rw [HP.out]), HB1.out⟩
  | cons c q =>
    obtain ⟨R, hR⟩ : ∃ R, strL (c :: q) = R := ⟨_, rfl⟩
    have hz : R.size = q.length + 1 := by rw [← hR, strL_size]; rfl
    have hpos : 0 < R.size := by omega
    have n3 := str_ne hpos
    have n1' := str_some hpos
    have hix : R[0] = c := by
      have h1 := suf_cons R 0 hpos
      have h2 : suf R 0 = c :: q := by unfold suf; rw [← hR, strL_list]; rfl
      rw [h2] at h1
      injection h1 with h1 _
      exact h1.symm
    have hq : R.extract 1 R.size = strL q := by rw [← hR]; exact strL_tail c q
    have hql : q.length ≤ maxLen := by simp at hle; omega
    have HQ := Lib.hid (fun w => by rw [hq]; exact readNumber_list q w hql : ∀ w, Calls Try.prog 28 #[.string (R.extract 1 R.size)] w fun e w' => e = .returned (.tuple #[.int .i64 ((readN q).1 : Int), .string (strL (readN q).2)]) ∧ Below w.heap.size w w')
    rw [hR] at HR
    have HIX := Lib.hid hix
    dsimp only at hp
    rw [← hix] at hp
    clear hR hq hix hz
    by_cases hc : R[0].toNat = 46
    · have hc1 : ((R[0].toNat : Int) != 46) = false := by simp [hc]
      rw [if_pos hc] at hp
      clear hc
      obtain ⟨n2, hn2⟩ : ∃ n2, (readN q).1 = n2 := ⟨_, rfl⟩
      obtain ⟨r2, hr2⟩ : ∃ r2, (readN q).2 = r2 := ⟨_, rfl⟩
      rw [hn2, hr2] at hp HQ
      clear hn2 hr2
      cases r2 with
      | nil =>
        have HQ2 : Hid (∀ w, Calls Try.prog 28 #[.string (R.extract 1 R.size)] w fun e w' => e = .returned (.tuple #[.int .i64 (n2 : Int), .string ⟨#[]⟩]) ∧ Below w.heap.size w w') := HQ
        by_cases he : makeE n1 n2 = 0
        · have HP := Lib.hid (show parseP l = (makeI n1 n2, 0) by rw [hp, if_pos ⟨rfl, he⟩])
          have he' : (makeE n1 n2 != 0) = false := by simp [he]
          clear hp he
          go_enter Try.func20, Try.ntmps20
          go_wp2_with fail
          refine HR.out.mono ?_
          rintro e w1 ⟨rfl, hb1⟩
          have HB1 := Lib.hid hb1
          clear hb1
          go_wp2_with fail
          refine (HQ2.out _).mono ?_
          rintro e w2 ⟨rfl, hb2⟩
          have HB2 := Lib.hid hb2
          clear hb2
          go_wp2_with fail
          refine (make_any _ _ _).mono ?_
          rintro e w' ⟨rfl, rfl⟩
          go_wp2
          go_ret2
          exact ⟨ret_ints (by rw [HP.out]) (by rw [HP.out]), HB1.out.trans (HB2.out.mono HB1.out.size)⟩
        · have HP := Lib.hid (show parseP l = (0, 13) by rw [hp, if_neg (fun h => he h.2)])
          have he' : (makeE n1 n2 != 0) = true := by simp [he]
          clear hp he
          go_enter Try.func20, Try.ntmps20
          go_wp2_with fail
          refine HR.out.mono ?_
          rintro e w1 ⟨rfl, hb1⟩
          have HB1 := Lib.hid hb1
          clear hb1
          go_wp2_with fail
          refine (HQ2.out _).mono ?_
          rintro e w2 ⟨rfl, hb2⟩
          have HB2 := Lib.hid hb2
          clear hb2
          go_wp2_with fail
          refine (make_any _ _ _).mono ?_
          rintro e w' ⟨rfl, rfl⟩
          go_wp2
          go_ret2
          exact ⟨ret_ints (by rw [HP.out]) (by rw [HP.out]), HB1.out.trans (HB2.out.mono HB1.out.size)⟩
      | cons d q2 =>
        have HP := Lib.hid (show parseP l = (0, 13) by rw [hp, if_neg (fun h => by cases h.1)])
        obtain ⟨R2, hR2⟩ : ∃ R2, strL (d :: q2) = R2 := ⟨_, rfl⟩
        have hpos2 : 0 < R2.size := by rw [← hR2, strL_size]; simp
        have m3 := str_ne hpos2
        have m1 := str_some hpos2
        rw [hR2] at HQ
        clear hp hR2
        go_enter Try.func20, Try.ntmps20
        go_wp2_with fail
        refine HR.out.mono ?_
        rintro e w1 ⟨rfl, hb1⟩
        have HB1 := Lib.hid hb1
        clear hb1
        go_wp2_with fail
        refine (HQ.out _).mono ?_
        rintro e w2 ⟨rfl, hb2⟩
        have HB2 := Lib.hid hb2
        clear hb2
        go_wp2
        go_ret2
        exact ⟨ret_ints (by rw [HP.out]) (by rw [HP.out]), HB1.out.trans (HB2.out.mono HB1.out.size)⟩
    · have hc1 : ((R[0].toNat : Int) != 46) = true := by simp; omega
      rw [if_neg hc] at hp
      have HP := Lib.hid hp
      clear hc hp
      go_enter Try.func20, Try.ntmps20
      go_wp2_with fail
      refine HR.out.mono ?_
      rintro e w1 ⟨rfl, hb1⟩
      have HB1 := Lib.hid hb1
      clear hb1
      go_wp2
      go_ret2
      exact ⟨ret_ints (by rw [HP.out]) (by rw [HP.out]), HB1.out⟩
end Go.Proofs.Ythhgincbifckgaa
