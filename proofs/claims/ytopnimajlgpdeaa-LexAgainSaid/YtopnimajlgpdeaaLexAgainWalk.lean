/- The walk of the law LexAgain. Condition: the tokens and the tail have fewer than 2^62 bytes together, if there are at most 100 tokens. -/
import Derived.Test.YtopnimajlgpdeaaLexAwake
import Derived.Test.YtopnimajlgpdeaaLexAgainPure
import Derived.Test.YtopnimajlgpdeaaLexRJoin
import Derived.Test.YtopnimajlgpdeaaLexTrivia
import Derived.StillTailTactics
namespace Go.Proofs.Ytopnimajlgpdeaa.lexAgain
open Go.RowKit
theorem trivia_val (s : ByteArray) (b : Bool) (w : World) (hs : s.size ≤ maxLen) : Calls Try.prog 17 #[.string s, .bool b] w fun e w' => e = .returned (.bool (triviaB s b)) ∧ w' = w := by
  refine (trivia_any s b w hs).mono fun e w' hh => ?_
  obtain ⟨he, hw⟩ := hh
  exact ⟨he, hw.symm⟩
theorem class_val (s : ByteArray) (w : World) (hs : s.size < maxLen) : Calls Try.prog 15 #[.string s] w fun e w' => e = .returned (.int .i64 (classN (bl s))) ∧ w' = w := by
  refine (class_any s w hs).mono fun e w' hh => ?_
  obtain ⟨he, hw⟩ := hh
  exact ⟨he, hw.symm⟩
theorem joinL_ge {ts : List Tok} {tail : List UInt8} {t : Tok} (h : t ∈ ts) : t.lead.size + t.text.size ≤ (joinL ts tail).length := by
  unfold joinL
  rw [List.length_append]
  have : t.lead.size + t.text.size ≤ (ts.flatMap fun t => bl t.lead ++ bl t.text).length := by
    induction ts with
    | nil => cases h
    | cons a r ih =>
      rw [List.flatMap_cons, List.length_append, List.length_append, bl_length, bl_length]
      rcases List.mem_cons.1 h with h | h
      · subst h
        omega
      · have := ih h
        omega
  omega
def FuseOk (ts : List Tok) (k : Nat) : Prop := ∀ i t u, i + 1 < k → ts[i]? = some t → ts[i + 1]? = some u → bl u.lead = [] → fusesB t.text u.text = false
theorem noFuse_of {ts : List Tok} (h : FuseOk ts ts.length) : NoFuse ts := by
  induction ts with
  | nil => trivial
  | cons t r ih =>
    refine ⟨fun u r' hr hl => h 0 t u (by rw [hr]; simp) rfl (by rw [hr]; rfl) hl, ih fun i a b hi ha hb hl => ?_⟩
    exact h (i + 1) a b (by simpa using hi) (by simpa using ha) (by simpa using hb) hl
/-- What has been found of the first k tokens. -/
def SeenTo (ts : List Tok) (k : Nat) : Prop := (∀ i t, i < k → ts[i]? = some t → GoodTok t) ∧ FuseOk ts k
theorem SeenTo.next {ts : List Tok} {k : Nat} {t : Tok} (h : SeenTo ts k) (ht : ts[k]? = some t) (hg : GoodTok t) (hf : ∀ i p, i + 1 = k → ts[i]? = some p → bl t.lead = [] → fusesB p.text t.text = false) : SeenTo ts (k + 1) := by
  refine ⟨fun i u hi hu => ?_, fun i p u hi hp hu hl => ?_⟩
  · by_cases hk : i < k
    · exact h.1 i u hk hu
    · obtain rfl : i = k := by omega
      rw [ht] at hu
      cases hu
      exact hg
  · by_cases hk : i + 1 < k
    · exact h.2 i p u hk hp hu hl
    · obtain rfl : i + 1 = k := by omega
      rw [ht] at hu
      cases hu
      exact hf i p rfl hp hl
theorem fuse_prev {ts : List Tok} {j : Nat} {p t : Tok} (hp : ts[j]? = some p) (hf : fusesB p.text t.text = false) : ∀ i q, i + 1 = j + 1 → ts[i]? = some q → bl t.lead = [] → fusesB q.text t.text = false := by
  intro i q hi hq _
  obtain rfl : i = j := by omega
  rw [hp] at hq
  cases hq
  exact hf
theorem scan_again (ts : List Tok) (tail : ByteArray) (w : World) (hsz : (joinL ts (bl tail)).length ≤ 4096) (hs : SeenTo ts ts.length) (htl : triviaB tail true = true) :
    Calls Try.prog 12 #[.string ⟨(joinL ts (bl tail)).toArray⟩] w fun e w' => ∃ A' c', e = .returned (.tuple #[.slice A' ts.length c', .string tail, .int .i64 0, .int .i64 0]) ∧ Toks w' A' ts ∧ Below w.heap.size w w' := by
  have hb : bl (⟨(joinL ts (bl tail)).toArray⟩ : ByteArray) = joinL ts (bl tail) := by
    generalize joinL ts (bl tail) = x
    unfold bl suf
    simp
  have hz : (⟨(joinL ts (bl tail)).toArray⟩ : ByteArray).size = (joinL ts (bl tail)).length := by rw [← bl_length, hb]
  have hg : ∀ u ∈ ts, GoodTok u := fun u hu => by
    obtain ⟨i, hi, e⟩ := List.getElem_of_mem hu
    exact hs.1 i u hi (by rw [List.getElem?_eq_getElem hi, e])
  have hr := again hb (by rw [hz]; exact hsz) hg (noFuse_of hs.2) htl
  refine (scan_any _ w (by rw [hz]; unfold maxLen; omega)).mono fun e w' hh => ?_
  obtain ⟨v, hv, ho, hbb⟩ := hh
  obtain ⟨A', c', rfl⟩ := own_shape ho
  have ht := Toks.of_own ho
  rw [hr] at hv ht
  exact ⟨A', c', hv, ht, hbb⟩
theorem same_self (A B : Option Addr) (c d : Nat) (ts : List Tok) (w : World) (ha : Toks w A ts) (hb : Toks w B ts) (hn : ts.length ≤ 4096) :
    Calls Try.prog 14 #[.slice A ts.length c, .slice B ts.length d] w fun e w' => e = .returned (.bool true) ∧ ∃ n, w' = w.drewN n := by
  have h := same_any A B c d ts ts w ha hb (by omega)
  rwa [sameB_self] at h
theorem rjoin_s (A : Option Addr) (c : Nat) (ts : List Tok) (tail s : ByteArray) (w : World) (ha : Toks w A ts) (hs : bl s = joinL ts (bl tail)) (hlen : s.size ≤ 4611686018427387904) (hn : ts.length ≤ 1099511627776) :
    Calls Try.prog 20 #[.slice A ts.length c, .string tail] w fun e w' => e = .returned (.string s) ∧ Below w.heap.size w w' := by
  refine (rjoin_any A c ts tail w ha (by rw [← hs, bl_length]; exact hlen) hn).mono fun e w' hh => ?_
  obtain ⟨he, hw⟩ := hh
  refine ⟨?_, hw⟩
  rw [he, ← hs, show (⟨(bl s).toArray⟩ : ByteArray) = s from bl_inj (by generalize hx : bl s = x; unfold bl suf; simp)]
section
variable (A : Option Addr) (c : Nat) (ts : List Tok) (tail : ByteArray) (w : World) (ha : Toks w A ts) (htl : tail.size ≤ maxLen)
include ha htl
theorem walk_long (hl : 100 < ts.length) : Calls Try.prog 9 #[.slice A ts.length c, .string tail] w fun e w' => e = .returned (.bool true) ∧ Below w.heap.size w w' := by
  have HT := Lib.hid htl
  have HA := Lib.hid ha
  clear ha htl
  go_enter Try.func9, Try.ntmps9
  go_wp2_with (go_at_call 11; refine (awake_any _).mono ?_; rintro e w9 ⟨rfl, hb9⟩; have HB9 := Lib.hid hb9; clear hb9)
  go_ret
  exact ⟨rfl, HB9.out⟩
theorem walk_tail (hl : ts.length ≤ 100) (hz : triviaB tail true = false) : Calls Try.prog 9 #[.slice A ts.length c, .string tail] w fun e w' => e = .returned (.bool true) ∧ Below w.heap.size w w' := by
  have HT := Lib.hid htl
  have HA := Lib.hid ha
  clear ha htl
  go_enter Try.func9, Try.ntmps9
  go_wp2_with (first | (go_at_call 11; refine (awake_any _).mono ?_; rintro e w9 ⟨rfl, hb9⟩; have HB9 := Lib.hid hb9; clear hb9) | (go_at_call 17; refine (trivia_any tail true _ HT.out).mono ?_; rintro e w' ⟨rfl, rfl⟩))
  go_ret
  exact ⟨rfl, HB9.out⟩
theorem walk_great (s : ByteArray) (hs : bl s = joinL ts (bl tail)) (hl : ts.length ≤ 100) (hz : triviaB tail true = true) (hj : s.size ≤ 4611686018427387904) (hg : 4096 < s.size) : Calls Try.prog 9 #[.slice A ts.length c, .string tail] w fun e w' => e = .returned (.bool true) ∧ Below w.heap.size w w' := by
  have HT := Lib.hid htl
  have HA := Lib.hid ha
  have HJ := Lib.hid hs
  have HL := Lib.hid hj
  have HN := Lib.hid (show ts.length ≤ 1099511627776 from by omega)
  clear ha htl hs
  go_enter Try.func9, Try.ntmps9
  go_wp2_with (first | (go_at_call 11; refine (awake_any _).mono ?_; rintro e w9 ⟨rfl, hb9⟩; have HB9 := Lib.hid hb9; clear hb9) | (go_at_call 17; refine (trivia_any tail true _ HT.out).mono ?_; rintro e w' ⟨rfl, rfl⟩) | (go_at_call 20; refine (rjoin_s A c ts tail s _ HA.out HJ.out HL.out HN.out).mono ?_; rintro e w1 ⟨rfl, hb1⟩; have HB1 := Lib.hid hb1; clear hb1))
  go_ret
  exact ⟨rfl, HB1.out.trans (HB9.out.mono HB1.out.size)⟩
set_option maxHeartbeats 8000000 in
set_option maxRecDepth 100000 in
theorem walk_loop (s : ByteArray) (hs : bl s = joinL ts (bl tail)) (hl : ts.length ≤ 100) (hz : triviaB tail true = true) (hg : s.size ≤ 4096) : Calls Try.prog 9 #[.slice A ts.length c, .string tail] w fun e w' => e = .returned (.bool true) ∧ Below w.heap.size w w' := by
  have HT := Lib.hid htl
  have HA := Lib.hid ha
  have HJ := Lib.hid hs
  have HG := Lib.hid hg
  have HL := Lib.hid (show s.size ≤ 4611686018427387904 from by omega)
  have HN := Lib.hid (show ts.length ≤ 1099511627776 from by omega)
  have HZ := Lib.hid hz
  clear ha htl hs
  go_enter Try.func9, Try.ntmps9
  go_wp2_with (first | (go_at_call 11; refine (awake_any _).mono ?_; rintro e w9 ⟨rfl, hb9⟩; have HB9 := Lib.hid hb9; clear hb9) | (go_at_call 17; refine (trivia_any tail true _ HT.out).mono ?_; rintro e w' ⟨rfl, rfl⟩) | (go_at_call 20; refine (rjoin_s A c ts tail s _ HA.out HJ.out HL.out HN.out).mono ?_; rintro e w1 ⟨rfl, hb1⟩; have HB1 := Lib.hid hb1; clear hb1))
  clear hz
  go_loopw [5] (fun i wr => ∃ k : Nat, i = .int .i64 k ∧ k ≤ ts.length ∧ SeenTo ts k ∧ Below w.heap.size w wr ∧ Toks wr A ts) (fun i _ => ts.length - (intOf i).toNat)
  case atStart => exact ⟨0, rfl, Nat.zero_le _, ⟨fun i t hi => by omega, fun i t u hi => by omega⟩, HB1.out, HA.out.below HB1.out⟩
  case round =>
    obtain ⟨k, rfl, hk, hsn, hbr, htr⟩ := hrel
    have HS := Lib.hid hsn
    have HBR := Lib.hid hbr
    have HTR := Lib.hid htr
    clear hsn hbr htr
    by_cases hlt : k < ts.length
    · obtain ⟨t, ht⟩ : ∃ t, ts[k]? = some t := ⟨_, List.getElem?_eq_getElem hlt⟩
      have hsz := joinL_ge (tail := bl tail) (List.mem_of_getElem? ht)
      rw [← HJ.out, bl_length] at hsz
      obtain ⟨b', off, rfl, hca⟩ := HTR.out (by intro e; rw [e] at hlt; simp at hlt)
      obtain ⟨q0, q1, q2⟩ := hca k t ht
      have HCA := Lib.hid hca
      have HTK := Lib.hid ht
      have HCV := Lib.hid (fun w => class_val t.text w (by unfold maxLen; omega))
      have HTV := Lib.hid (fun w => trivia_val t.lead false w (by unfold maxLen; omega))
      have hlt' : (k : Int) < (ts.length : Int) := by omega
      have hk1 : (0 : Int) ≤ (k : Int) := by omega
      have HSZ := Lib.hid hsz
      clear hca ht hsz
      by_cases hc : (classN (bl t.text) : Int) = t.kind
      · have gc : (((classN (bl t.text) : Nat) : Int) != t.kind) = false := by simp [hc]
        by_cases h0 : t.kind = 0
        · have g0 : (t.kind == 0) = true := by simp [h0]
          clear hc h0
          go_wp2_with fail
          go_quiet ((first | (go_at_call 15; exact Calls.quiet_of_same (HCV.out _)) | (go_at_call 17; exact Calls.quiet_of_same (HTV.out _))))
          go_wp2_with (go_at_call 11; refine (awake_any _).mono ?_; rintro e w9 ⟨rfl, hb9⟩; have HB9 := Lib.hid hb9; clear hb9)
          go_ret
          exact ⟨rfl, (below_drewN HBR.out _).trans (HB9.out.mono HBR.out.size)⟩
        · have g0 : (t.kind == 0) = false := by simp [h0]
          cases htv : triviaB t.lead false
          · clear hc h0
            go_wp2_with fail
            go_quiet ((first | (go_at_call 15; exact Calls.quiet_of_same (HCV.out _)) | (go_at_call 17; exact Calls.quiet_of_same (HTV.out _))))
            go_wp2_with (go_at_call 11; refine (awake_any _).mono ?_; rintro e w9 ⟨rfl, hb9⟩; have HB9 := Lib.hid hb9; clear hb9)
            go_ret
            exact ⟨rfl, (below_drewN HBR.out _).trans (HB9.out.mono HBR.out.size)⟩
          · have HGT := Lib.hid (show GoodTok t from ⟨hc, h0, htv⟩)
            clear hc h0
            by_cases hkz : k = 0
            · have gk : decide ((0 : Int) < (k : Int)) = false := decide_eq_false (by omega)
              have gk2 : decide (0 < k) = false := decide_eq_false (by omega)
              have HKZ := Lib.hid hkz
              clear hkz
              go_wp2_with fail
              go_quiet ((first | (go_at_call 15; exact Calls.quiet_of_same (HCV.out _)) | (go_at_call 17; exact Calls.quiet_of_same (HTV.out _))))
              go_wp2
              go_roundw
              case rel => exact ⟨k + 1, by go_num, by omega, HS.out.next HTK.out HGT.out (fun i p hi => by have := HKZ.out; omega), below_drewN HBR.out _, HTR.out.drewN _⟩
              case measure => simp [intOf]; omega
            · have gk : decide ((0 : Int) < (k : Int)) = true := decide_eq_true (by omega)
              have gk2 : decide (0 < k) = true := decide_eq_true (by omega)
              by_cases hle : bl t.lead = []
              · have gl := nil_yes hle
                obtain ⟨j, rfl⟩ : ∃ j, k = j + 1 := ⟨k - 1, by omega⟩
                obtain ⟨p, hp⟩ : ∃ p, ts[j]? = some p := ⟨_, List.getElem?_eq_getElem (by omega)⟩
                obtain ⟨r0, r1, r2⟩ := HCA.out j p hp
                have HPJ := Lib.hid hp
                have hszp := joinL_ge (tail := bl tail) (List.mem_of_getElem? hp)
                rw [← HJ.out, bl_length] at hszp
                have hszt := HSZ.out
                have HFS := Lib.hid (show p.text.size + t.text.size < maxLen from by unfold maxLen; omega)
                have HC2 := Lib.hid (fun w => class_any t.text w (by unfold maxLen; omega))
                have HT2 := Lib.hid (fun w => trivia_any t.lead false w (by unfold maxLen; omega))
                have HSN := Lib.hid HS.out
                clear hp hszp hszt r0 r1
                have j0 : (0 : Int) ≤ (j : Int) := by omega
                have j1 : (j : Int) < (ts.length : Int) := by omega
                have j2 : (0 : Int) ≤ (j : Int) + 1 := by omega
                have j3 : (j : Int) + 1 < (ts.length : Int) := by omega
                have t1 : ((j : Int) + 1).toNat = j + 1 := by omega
                have t2 : (j : Int) + 1 - 1 = (j : Int) := by omega
                have t3 : IntKind.i64.wrap ((j : Int) + 1 - 1) = (j : Int) := by rw [t2]; exact IntWalk.i64_in _ (by omega)
                have t4 : IntKind.i64.wrap (j : Int) = (j : Int) := IntWalk.i64_in _ (by omega)
                cases hfu : fusesB p.text t.text
                · go_wp2_with fail
                  refine wp_region_still_tail 52 (by kernel_rfl) (by kernel_rfl) ?_
                  simp only [List.take_succ_cons, List.take_zero, List.drop_succ_cons, List.drop_zero]
                  repeat still_step
                  still_call (HCV.out _)
                  repeat still_step
                  still_call (HTV.out _)
                  repeat still_step
                  refine wpStill_nil ?_
                  change wpList _ _ _ _ _ wr.drew
                  go_wp2_with (go_at_call 21; refine (fuses_any p.text t.text _ HFS.out).mono ?_; rintro e w7 ⟨rfl, hb7⟩; have HB7 := Lib.hid hb7; clear hb7)
                  go_roundw
                  case rel => exact ⟨j + 1 + 1, by go_num, by omega, HSN.out.next HTK.out HGT.out (fuse_prev HPJ.out hfu), HBR.out.drew.trans (HB7.out.mono HBR.out.size), (HTR.out.drewN 1).below HB7.out⟩
                  case measure => simp [intOf]; omega
                · go_wp2_with fail
                  refine wp_region_still_tail 52 (by kernel_rfl) (by kernel_rfl) ?_
                  simp only [List.take_succ_cons, List.take_zero, List.drop_succ_cons, List.drop_zero]
                  repeat still_step
                  still_call (HCV.out _)
                  repeat still_step
                  still_call (HTV.out _)
                  repeat still_step
                  refine wpStill_nil ?_
                  change wpList _ _ _ _ _ wr.drew
                  go_wp2_with (first | (go_at_call 21; refine (fuses_any p.text t.text _ HFS.out).mono ?_; rintro e w7 ⟨rfl, hb7⟩; have HB7 := Lib.hid hb7; clear hb7) | (go_at_call 11; refine (awake_any _).mono ?_; rintro e w9 ⟨rfl, hb9⟩; have HB9 := Lib.hid hb9; clear hb9))
                  go_ret
                  exact ⟨rfl, (HBR.out.drew.trans (HB7.out.mono HBR.out.size)).trans (HB9.out.mono (Nat.le_trans HBR.out.size HB7.out.size))⟩
              · have gl := nil_no hle
                have HLE := Lib.hid hle
                clear hle
                go_wp2_with fail
                go_quiet ((first | (go_at_call 15; exact Calls.quiet_of_same (HCV.out _)) | (go_at_call 17; exact Calls.quiet_of_same (HTV.out _))))
                go_wp2
                go_roundw
                case rel => exact ⟨k + 1, by go_num, by omega, HS.out.next HTK.out HGT.out (fun i p _ _ hl => absurd hl HLE.out), below_drewN HBR.out _, HTR.out.drewN _⟩
                case measure => simp [intOf]; omega
      · have gc : (((classN (bl t.text) : Nat) : Int) != t.kind) = true := by simpa using hc
        clear hc
        go_wp2_with fail
        go_quiet ((first | (go_at_call 15; exact Calls.quiet_of_same (HCV.out _)) | (go_at_call 17; exact Calls.quiet_of_same (HTV.out _))))
        go_wp2_with (go_at_call 11; refine (awake_any _).mono ?_; rintro e w9 ⟨rfl, hb9⟩; have HB9 := Lib.hid hb9; clear hb9)
        go_ret
        exact ⟨rfl, (below_drewN HBR.out _).trans (HB9.out.mono HBR.out.size)⟩
    · obtain rfl : k = ts.length := by omega
      have hj4 := Lib.hid (show (joinL ts (bl tail)).length ≤ 4096 from by rw [← HJ.out, bl_length]; exact HG.out)
      clear hg
      go_wp2_with (first | (go_at_call 19; refine (join_any A c ts tail _ HTR.out (Nat.le_trans hj4.out (by decide)) HN.out).mono ?_; rintro e w2 ⟨rfl, hb2⟩; have HB2 := Lib.hid hb2; clear hb2) | (go_at_call 12; refine (scan_again ts tail _ hj4.out HS.out HZ.out).mono ?_; rintro e w3 ⟨A', c', rfl, ht3, hb3⟩; have HT3 := Lib.hid ht3; have HB3 := Lib.hid hb3; clear ht3 hb3) | (go_at_call 11; refine (awake_any _).mono ?_; rintro e w4 ⟨rfl, hb4⟩; have HB4 := Lib.hid hb4; clear hb4) | (go_at_call 14; refine (same_self _ _ _ _ ts _ (HT3.out.below HB4.out) (((HTR.out.below HB2.out).below HB3.out).below HB4.out) (by omega)).mono ?_; rintro e w5 ⟨rfl, n5, rfl⟩))
      go_ret
      exact ⟨ret_bool (by simp), below_drewN (((HBR.out.trans (HB2.out.mono HBR.out.size)).trans (HB3.out.mono (Nat.le_trans HBR.out.size HB2.out.size))).trans (HB4.out.mono (Nat.le_trans (Nat.le_trans HBR.out.size HB2.out.size) HB3.out.size))) _⟩
end
end Go.Proofs.Ytopnimajlgpdeaa.lexAgain
