/- The contract of the reference's scan and Scan: the answer is scanG, scanR. Condition: at most api.MaxFile bytes for scan. -/
import Derived.Test.YtpdmklbfbpdneaaGreatLexScan
import Derived.Test.YtpdmklbfbpdneaaGreatLexRNext
import Derived.Test.YtpdmklbfbpdneaaGreatLexPlain
import Derived.Test.YtpdmklbfbpdneaaGreatLexRWordsC
import Derived.Test.YtpdmklbfbpdneaaGreatLexRTrivia
import Derived.StillTailTactics
import Derived.Deep.RegionHeld3
import Derived.Deep.AppendLies
namespace Go.Proofs.YtpdmklbfbpdneaaGreat
open Go.RowKit
theorem iAt_err {t : Tk} {a : Nat} (h : t.e ≠ 0) : iAt t a = ((a + t.n : Nat) : Int) := by
  unfold iAt
  rw [if_neg h]
  omega
theorem own_below {w w1 : World} {base : Nat} {e : TypeId} {size n : Nat} {v : Value} {xs : List Value} (h : w.ownsRow base e size v n xs) (hb : Below w.heap.size w w1) : w1.ownsRow base e size v n xs :=
  h.kept (row := none) ⟨hb.os, hb.tape, hb.output, hb.size, fun k hk _ => hb.block k hk⟩ (by cases h1 : v.ownBlock with | none => exact .inl rfl | some g => exact .inr (by simp))
def leadLen (s : ByteArray) (k : Nat) : Nat := skipTo s k - k
theorem leadLen_eq (s : ByteArray) (k : Nat) : skipTo s k = k + leadLen s k := by
  have := skipTo_ge s k
  unfold leadLen
  omega
theorem lead_len (s : ByteArray) (k : Nat) (w : World) (hk : k ≤ s.size) (hs : s.size ≤ maxLen) :
    Calls Tryz.prog 170 #[.string s, .int .i64 k] w fun e w' => e = .returned (.tuple #[.int .i64 (leadLen s k : Nat), .int .i64 (badAt s k)]) ∧ w = w' := by
  have h := lead_any s k w hk hs
  rwa [show ((skipTo s k : Nat) : Int) - (k : Int) = ((leadLen s k : Nat) : Int) from by rw [leadLen_eq]; omega] at h
theorem next_at (s : ByteArray) (k n : Nat) (w : World) (h0 : k + n < s.size) (hs : s.size < maxLen) :
    Calls Tryz.prog 139 #[.string s, .int .i64 ((k : Int) + (n : Int))] w (ItemPost (tokT (suf s (k + n))) (k + n) w) := by
  have h := next_any s (k + n) w h0 hs (fun hl w => words_any s (k + n) w h0 hl hs)
  rwa [show ((k + n : Nat) : Int) = (k : Int) + (n : Int) from by omega] at h
theorem ScanRel.step {s : ByteArray} {w W3 w' : World} {v v' : Value} {k : Nat} {acc : List Tok} {o : Obj}
    (h : ScanAt s (skipTo s k + (tokT (suf s (skipTo s k))).n) (acc ++ [⟨(tokT (suf s (skipTo s k))).kind, s.extract k (skipTo s k), s.extract (skipTo s k) (skipTo s k + (tokT (suf s (skipTo s k))).n)⟩]))
    (hS : skipTo s k = k + leadLen s k) (hown : W3.ownsRow w.heap.size 61 3 v acc.length (tokCells acc)) (hb : Below w.heap.size w W3)
    (hown' : w'.ownsRow w.heap.size 61 3 v' (acc.length + 1) (tokCells acc ++ [.int .i64 (tokT (suf s (k + leadLen s k))).kind, .string (s.extract k (k + leadLen s k)), .string (s.extract (k + leadLen s k) (k + leadLen s k + (tokT (suf s (k + leadLen s k))).n))]))
    (hg : ((W3.alloc o).drew).grownBy w' v.ownBlock) : ScanRel s w v' (.int .i64 ((k : Int) + (leadLen s k : Nat) + ((tokT (suf s (k + leadLen s k))).n : Nat))) w' := by
  rw [hS] at h
  refine ⟨_, _, ?_, h, by rw [tokCells_snoc]; simpa using hown', ?_⟩
  · rw [show ((k + leadLen s k + (tokT (suf s (k + leadLen s k))).n : Nat) : Int) = (k : Int) + (leadLen s k : Nat) + ((tokT (suf s (k + leadLen s k))).n : Nat) from by omega]
  · exact ((hb.alloc hb.size o).drew).grown hg (by have := hb.size; show w.heap.size ≤ (W3.alloc o).heap.size; rw [World.size_alloc]; omega) (fun j hj => (hown.lt j hj).1)
set_option maxRecDepth 100000 in
set_option maxHeartbeats 1000000 in
theorem rscan_any (s : ByteArray) (w : World) (hshort : s.size ≤ 4096) :
    Calls Tryz.prog 146 #[.string s] w (ScanPost (scanG s) w) := by
  have HL := Lib.hid (show s.size < maxLen from by unfold maxLen; omega)
  have HM := Lib.hid (Nat.le_of_lt HL.out)
  obtain ⟨i0, hi, hz0, hz1, hz2⟩ := info_parts token_info
  go_enter Tryz.func146, Tryz.ntmps146
  go_wp2
  go_loopw [6, 7] (fun v i wr => ScanRel s w v i wr) (fun _ i _ => s.size - (intOf i).toNat)
  case atStart => exact ScanRel.start s w
  case round =>
    obtain ⟨k, acc, rfl, hat, hown, hbl⟩ := hrel
    have HA := Lib.hid hat
    have hk := hat.1
    have hacc := hat.2.1
    have hge := skipTo_ge s k
    have hle := skipTo_le s k hk
    have HS := Lib.hid (leadLen_eq s k)
    have hn : k + leadLen s k ≤ s.size := by rw [← HS.out]; exact hle
    clear hat
    have HO := Lib.hid hown
    have HB := Lib.hid hbl
    clear hown hbl
    by_cases hst : k + leadLen s k = s.size
    · have hst' : ((k : Int) + (leadLen s k : Nat) == (s.size : Int)) = true := by simp; omega
      have HD := Lib.hid (HA.out.done (HS.out.trans hst))
      have hbad : badAt s k = -1 := badAt_no ⟨rfl, rfl⟩ (.inr (by rw [HS.out]; omega))
      clear hst hge hle
      have HE := Lib.hid (show s.extract k s.size = s.extract k s.size from rfl)
      go_wp2_with (go_at_call 170; refine (lead_len s k _ hk HM.out).mono ?_; rintro e w' ⟨rfl, rfl⟩)
      go_quiet (fail)
      go_wp2
      exact bodyPost_ret (v := .tuple #[u6, .string (s.extract k s.size), .int .i64 0, .int .i64 0]) (by simp [results, Tryz.results146, go_sem]) rfl ⟨_, by rw [HD.out]; rfl, by rw [HD.out]; exact HO.out, below_drewN HB.out _⟩
    · have hst' : ((k : Int) + (leadLen s k : Nat) == (s.size : Int)) = false := by simp; omega
      have hlt : k + leadLen s k < s.size := by omega
      have HK := Lib.hid (show skipTo s k < s.size from by rw [HS.out]; exact hlt)
      have HJ := Lib.hid (show skipTo s k ≠ s.size from by rw [HS.out]; exact hst)
      cases ho : skipOpen s k
      · have hbad : badAt s k = -1 := badAt_no ⟨rfl, ho⟩ (.inl rfl)
        by_cases he : (tokT (suf s (k + leadLen s k))).e = 0
        · have HN := Lib.hid (HA.out.next HJ.out (by rw [HS.out]; exact he))
          have hlen := tok_len he
          rw [suf_length] at hlen
          have he' : ((((tokT (suf s (k + leadLen s k))).e : Nat) : Int) != 0) = false := by simp [he]
          have hil : iLen (tokT (suf s (k + leadLen s k))) = (((tokT (suf s (k + leadLen s k))).n : Nat) : Int) := by unfold iLen; rw [if_pos he]
          clear he hst hge hle ho
          go_wp2_with (first | (go_at_call 170; refine (lead_len s k _ hk HM.out).mono ?_; rintro e w' ⟨rfl, rfl⟩) | (go_at_call 139; refine (next_at s k (leadLen s k) _ hlt HL.out).mono ?_; rintro e w1 ⟨rfl, hb1⟩; have HB1 := Lib.hid hb1; clear hb1))
          have c0 : (w1.alloc (.cells #[.int .i64 (tokT (suf s (k + leadLen s k))).n, .int .i64 (tokT (suf s (k + leadLen s k))).kind, .int .i64 (tokT (suf s (k + leadLen s k))).e, .int .i64 (iAt (tokT (suf s (k + leadLen s k))) (k + leadLen s k))] 145)).cell? ⟨w1.heap.size, 0, none⟩ = some (.int .i64 (tokT (suf s (k + leadLen s k))).n) := by simp
          have c1 : (w1.alloc (.cells #[.int .i64 (tokT (suf s (k + leadLen s k))).n, .int .i64 (tokT (suf s (k + leadLen s k))).kind, .int .i64 (tokT (suf s (k + leadLen s k))).e, .int .i64 (iAt (tokT (suf s (k + leadLen s k))) (k + leadLen s k))] 145)).cell? ⟨w1.heap.size, 1, none⟩ = some (.int .i64 (tokT (suf s (k + leadLen s k))).kind) := by simp
          have hb3 : Below w.heap.size w (w1.alloc (.cells #[.int .i64 (tokT (suf s (k + leadLen s k))).n, .int .i64 (tokT (suf s (k + leadLen s k))).kind, .int .i64 (tokT (suf s (k + leadLen s k))).e, .int .i64 (iAt (tokT (suf s (k + leadLen s k))) (k + leadLen s k))] 145)) := (HB.out.trans (HB1.out.mono HB.out.size)).alloc (Nat.le_trans HB.out.size HB1.out.size) _
          have hown3 : (w1.alloc (.cells #[.int .i64 (tokT (suf s (k + leadLen s k))).n, .int .i64 (tokT (suf s (k + leadLen s k))).kind, .int .i64 (tokT (suf s (k + leadLen s k))).e, .int .i64 (iAt (tokT (suf s (k + leadLen s k))) (k + leadLen s k))] 145)).ownsRow w.heap.size 61 3 u6 acc.length (tokCells acc) := (own_below HO.out HB1.out).alloc _
          have ag : u6.ownBlock ≠ some w1.heap.size := fun e => by have := (HO.out.lt _ e).2; have := HB1.out.size; omega
          have lg : w1.heap.size < (w1.alloc (.cells #[.int .i64 (tokT (suf s (k + leadLen s k))).n, .int .i64 (tokT (suf s (k + leadLen s k))).kind, .int .i64 (tokT (suf s (k + leadLen s k))).e, .int .i64 (iAt (tokT (suf s (k + leadLen s k))) (k + leadLen s k))] 145)).heap.size := by simp
          generalize w1.alloc (.cells #[.int .i64 (tokT (suf s (k + leadLen s k))).n, .int .i64 (tokT (suf s (k + leadLen s k))).kind, .int .i64 (tokT (suf s (k + leadLen s k))).e, .int .i64 (iAt (tokT (suf s (k + leadLen s k))) (k + leadLen s k))] 145) = W3 at c0 c1 hb3 hown3 lg ⊢
          generalize w1.heap.size = g1 at c0 c1 ag lg ⊢
          have hsz3 := hb3.size
          have h63 := Lib.hid (show acc.length + 1 ≤ maxLen from by unfold maxLen; omega)
          have hby := Lib.hid (show (acc.length + 1) * 40 ≤ 140737488355328 from by omega)
          have p0 : (0 : Int) ≤ (k : Int) := by omega
          have p1 : (0 : Int) ≤ (k : Int) + (leadLen s k : Nat) := by omega
          have p2 : (0 : Int) ≤ (k : Int) + (leadLen s k : Nat) + ((tokT (suf s (k + leadLen s k))).n : Nat) := by omega
          have q1 : (k : Int) ≤ (k : Int) + (leadLen s k : Nat) := by omega
          have q2 : (k : Int) + (leadLen s k : Nat) ≤ (k : Int) + (leadLen s k : Nat) + ((tokT (suf s (k + leadLen s k))).n : Nat) := by omega
          have r1 : (k : Int) + (leadLen s k : Nat) ≤ (s.size : Int) := by omega
          have r2 : (k : Int) + (leadLen s k : Nat) + ((tokT (suf s (k + leadLen s k))).n : Nat) ≤ (s.size : Int) := by omega
          have t1 : ((k : Int) + (leadLen s k : Nat)).toNat = k + leadLen s k := by omega
          have t2 : ((k : Int) + (leadLen s k : Nat) + ((tokT (suf s (k + leadLen s k))).n : Nat)).toNat = k + leadLen s k + (tokT (suf s (k + leadLen s k))).n := by omega
          have w1' : IntKind.i64.wrap ((k : Int) + (leadLen s k : Nat)) = (k : Int) + (leadLen s k : Nat) := IntWalk.i64_in _ (by omega)
          have w2' : IntKind.i64.wrap ((k : Int) + (leadLen s k : Nat) + ((tokT (suf s (k + leadLen s k))).n : Nat)) = (k : Int) + (leadLen s k : Nat) + ((tokT (suf s (k + leadLen s k))).n : Nat) := IntWalk.i64_in _ (by omega)
          go_region_held3 (fun w' => w'.cell? ⟨g1, 0, none⟩ = some (.int .i64 (tokT (suf s (k + leadLen s k))).n) ∧ w'.cell? ⟨g1, 1, none⟩ = some (.int .i64 (tokT (suf s (k + leadLen s k))).kind)) (first | go_keep | (go_split_ands; refine ⟨?_, ?_⟩ <;> (rw [hgrow.cell_far _ (Nat.lt_of_lt_of_le lg (by simp)) (Ne.symm ag)]; assumption))) ((refine step_append_lies _ (by rfl) _ _ _ (by rfl) w.heap.size 61 i0 _ 3 40 Tryz.underlying57 hi hz0 hz1 hz2 rfl (by decide) u6 acc.length (tokCells acc) (by rfl) ((hown3.alloc _).drew) ⟨W3.heap.size, 0, none⟩ 1 1 [.int .i64 (tokT (suf s (k + leadLen s k))).kind, .string (s.extract k (k + leadLen s k)), .string (s.extract (k + leadLen s k) (k + leadLen s k + (tokT (suf s (k + leadLen s k))).n))] (by rfl) (by rfl) (World.news_of_block (cs := #[.int .i64 (tokT (suf s (k + leadLen s k))).kind, .string (s.extract k (k + leadLen s k)), .string (s.extract (k + leadLen s k) (k + leadLen s k + (tokT (suf s (k + leadLen s k))).n))]) (t := 61) (fr := (0, 0)) (heap_alloc_new W3 _)) (one_three _ _ _) (by decide) h63.out hby.out (Nat.le_trans hsz3 (by simp)) (W3.heap.size + 1) (by simp) ?_; intro gg cap w4 hown4 hgrow hat4 hlt4))
          have HV := Lib.hid hown4
          have HG := Lib.hid hgrow
          have H3 := Lib.hid hown3
          have HB3 := Lib.hid hb3
          clear hown4 hgrow p0 p1 p2 q1 q2 r1 r2 t1 t2 w1' w2' hat4 hlt4 hown3 hb3 hil c0 c1 ag lg hsz3
          go_split_ands
          go_wp2
          go_roundw
          case rel => exact ScanRel.step HN.out HS.out H3.out HB3.out HV.out HG.out
          case measure => simp [intOf]; omega
        · have HD := Lib.hid (HA.out.stop HJ.out (by rw [HS.out]; exact he))
          have he' : ((((tokT (suf s (k + leadLen s k))).e : Nat) : Int) != 0) = true := by simp; omega
          have HX := Lib.hid (iAt_err (a := k + leadLen s k) he)
          have hmax : (tokT (suf s (k + leadLen s k))).n ≤ s.size := by have := tok_err_len he; rw [suf_length] at this; omega
          clear he hst hge hle ho
          go_wp2_with (first | (go_at_call 170; refine (lead_len s k _ hk HM.out).mono ?_; rintro e w' ⟨rfl, rfl⟩) | (go_at_call 139; refine (next_at s k (leadLen s k) _ hlt HL.out).mono ?_; rintro e w1 ⟨rfl, hb1⟩; have HB1 := Lib.hid hb1; clear hb1))
          go_quiet (fail)
          go_wp2
          exact bodyPost_ret (v := .tuple #[.slice none 0 0, .string ⟨#[]⟩, .int .i64 (iAt (tokT (suf s (k + leadLen s k))) (k + leadLen s k)), .int .i64 (tokT (suf s (k + leadLen s k))).e]) (by simp [results, Tryz.results146, go_sem]) rfl ⟨_, by rw [HD.out, HS.out, HX.out]; rfl, by rw [HD.out]; exact World.ownsRow_nil _ _ _ _, (below_drewN ((HB.out.trans (HB1.out.mono HB.out.size)).alloc (Nat.le_trans HB.out.size HB1.out.size) _) _)⟩
      · have hbad : badAt s k = ((k + leadLen s k : Nat) : Int) := badAt_yes ⟨HS.out, ho⟩ hlt
        have HT := Lib.hid (open_bad ho HK.out)
        have HD := Lib.hid (HA.out.stop HJ.out (by rw [HT.out]; decide))
        clear hst hge hle ho
        go_wp2_with (go_at_call 170; refine (lead_len s k _ hk HM.out).mono ?_; rintro e w' ⟨rfl, rfl⟩)
        exact bodyPost_ret (v := .tuple #[.slice none 0 0, .string ⟨#[]⟩, .int .i64 ((k : Int) + (leadLen s k : Nat)), .int .i64 1]) (by simp [results, Tryz.results146, go_sem]) rfl ⟨_, by rw [HD.out, HT.out, HS.out]; rfl, by rw [HD.out]; exact World.ownsRow_nil _ _ _ _, HB.out⟩
end Go.Proofs.YtpdmklbfbpdneaaGreat
