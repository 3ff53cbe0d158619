/- Part 18: The contract of the reference's words: the word or qualified word that begins at a place. The contract of the reference's words, all cases. The contract of the reference's scan and Scan: the answer is scanG, scanR. The contracts of the reference's Scan and Class. -/
import Derived.Test.YtnnfdbmanamfdaaGreatSt16
import Derived.Test.YtnnfdbmanamfdaaGreatSt4
import Derived.Test.YtnnfdbmanamfdaaGreatSt17
import Derived.Test.YtnnfdbmanamfdaaGreatSt1
import Derived.Test.YtnnfdbmanamfdaaGreatSt2
import Derived.StillTailTactics
import Derived.Deep.RegionHeld3
import Derived.Deep.AppendLies
set_option maxRecDepth 100000
set_option maxHeartbeats 4000000
namespace Go.Proofs.YtnnfdbmanamfdaaGreat
open Go.RowKit
section
variable (s:ByteArray) (a n:Nat)
theorem Qe4 (b m:Nat) (h:b < s.size) (hm:0 < m):0 < (s.extract b (b + m)).size:=by
 rw [ByteArray.size_extract]
 omega
theorem q_up2 (h:¬ (24 < n ∨ 24 < Qac (suf s (a + n + 1)))) (hr:Qar ((suf s (a + n + 1)).take (Qac (suf s (a + n + 1)))) = false) (hn:a + n + 1 < s.size) (hp:0 < Qac (suf s (a + n + 1)))
  (hu:Qbl ((s.extract (a + n + 1) (a + n + 1 + Qac (suf s (a + n + 1))))[0]'(Qe4 s _ _ hn hp)).toNat = true):Qc5 (suf s a) n = ⟨4,n + 1 + Qac (suf s (a + n + 1)),0⟩ :=
 q_up s a n h hr (by rwa [part_zero _ _ _ (Qe4 s _ _ hn hp)] at hu)
theorem q_low2 (h:¬ (24 < n ∨ 24 < Qac (suf s (a + n + 1)))) (hr:Qar ((suf s (a + n + 1)).take (Qac (suf s (a + n + 1)))) = false) (hn:a + n + 1 < s.size) (hp:0 < Qac (suf s (a + n + 1)))
  (hu:Qbl ((s.extract (a + n + 1) (a + n + 1 + Qac (suf s (a + n + 1))))[0]'(Qe4 s _ _ hn hp)).toNat = false):Qc5 (suf s a) n = ⟨3,n + 1 + Qac (suf s (a + n + 1)),0⟩ :=
 q_low s a n h hr (by rwa [part_zero _ _ _ (Qe4 s _ _ hn hp)] at hu)
end
theorem words_q1 (s:ByteArray) (a:Nat) (w:World) (h0:a < s.size) (hl:Qat s[a].toNat = true) (hs:s.size < maxLen) (hu:Qbl s[a].toNat = true) (hr:Qar ((suf s a).take (Qac (suf s a))) = false) (hn:a + Qac (suf s a) + 1 < s.size) (h46:s[a + Qac (suf s a)].toNat = 46) (hz:Qat s[a + Qac (suf s a) + 1].toNat = true) (h24:24 < Qac (suf s a)) :
  Calls Tryz.prog 192 #[.string s,.int .i64 a] w (Qdr s a w):=by
 have HS:=hQ (Nat.le_of_lt hs)
 have hm:=Qb3 s a
 have HL:=hQ hl
 have H0:=hQ (Qb1 s a h0)
 have HD:=hQ (Qep s a h0)
 clear hl
 unfold maxLen at hs
 have hn':(a:Int) + (Qac (suf s a):Nat) + 1 < (s.size:Int):=by omega
 have g46:((s[a + Qac (suf s a)].toNat:Int) == 46) = true:=Qc6 h46
 have hp:=Qfa hn hz
 have hm2:=Qb3 s (a + Qac (suf s a) + 1)
 have HZ:=hQ hz
 have HT:=hQ (show Qdm (suf s a) = Qc5 (suf s a) (Qac (suf s a)) from by
  unfold Qdm
  rw [if_pos (by rw [HD.out,hu,hr,at_suf s a _ (by omega),h46,at_two,Qb1 s (a + Qac (suf s a) + 1) hn,hz];simpa using hn)])
 clear h46 hz
 have HQ:=hQ (HT.out.trans (q_long s a _ (.inl h24)))
 go_enter Tryz.func192,Tryz.ntmps192
 go_wp2_with (first | (go_at_call 195;((with_reducible refine (Qd3 _ _ _ h0 HL.out HS.out).mono ?_);rintro e w' ⟨rfl,rfl⟩)) | (go_at_call 196;refine (Qb7 _ _ _ _).mono ?_;rintro e w' ⟨rfl,rfl⟩) | (go_at_call 191;refine (Qay _ _).mono ?_;rintro e w' ⟨rfl,rfl⟩) | (go_at_call 195;((with_reducible refine (rword_yes _ _ _ _ hn HZ.out HS.out).mono ?_);rintro e w' ⟨rfl,rfl⟩)))
 all_goals
  exact bodyPost_ret (v:=.agg #[.int .i64 0,.int .i64 0,.int .i64 3,.int .i64 a]) (by simp [results,Tryz.results192,go_sem]) rfl ⟨Qek 0 2 HQ.out rfl (by omega),(xC _ _).alloc (xA _) _⟩
theorem words_q2 (s:ByteArray) (a:Nat) (w:World) (h0:a < s.size) (hl:Qat s[a].toNat = true) (hs:s.size < maxLen) (hu:Qbl s[a].toNat = true) (hr:Qar ((suf s a).take (Qac (suf s a))) = false) (hn:a + Qac (suf s a) + 1 < s.size) (h46:s[a + Qac (suf s a)].toNat = 46) (hz:Qat s[a + Qac (suf s a) + 1].toNat = true) (h24:24 < Qac (suf s (a + Qac (suf s a) + 1))) :
  Calls Tryz.prog 192 #[.string s,.int .i64 a] w (Qdr s a w):=by
 have HS:=hQ (Nat.le_of_lt hs)
 have hm:=Qb3 s a
 have HL:=hQ hl
 have H0:=hQ (Qb1 s a h0)
 have HD:=hQ (Qep s a h0)
 clear hl
 unfold maxLen at hs
 have hn':(a:Int) + (Qac (suf s a):Nat) + 1 < (s.size:Int):=by omega
 have g46:((s[a + Qac (suf s a)].toNat:Int) == 46) = true:=Qc6 h46
 have hp:=Qfa hn hz
 have hm2:=Qb3 s (a + Qac (suf s a) + 1)
 have HZ:=hQ hz
 have HT:=hQ (show Qdm (suf s a) = Qc5 (suf s a) (Qac (suf s a)) from by
  unfold Qdm
  rw [if_pos (by rw [HD.out,hu,hr,at_suf s a _ (by omega),h46,at_two,Qb1 s (a + Qac (suf s a) + 1) hn,hz];simpa using hn)])
 clear h46 hz
 have HQ:=hQ (HT.out.trans (q_long s a _ (.inr h24)))
 go_enter Tryz.func192,Tryz.ntmps192
 go_wp2_with (first | (go_at_call 195;((with_reducible refine (Qd3 _ _ _ h0 HL.out HS.out).mono ?_);rintro e w' ⟨rfl,rfl⟩)) | (go_at_call 196;refine (Qb7 _ _ _ _).mono ?_;rintro e w' ⟨rfl,rfl⟩) | (go_at_call 191;refine (Qay _ _).mono ?_;rintro e w' ⟨rfl,rfl⟩) | (go_at_call 195;((with_reducible refine (rword_yes _ _ _ _ hn HZ.out HS.out).mono ?_);rintro e w' ⟨rfl,rfl⟩)))
 all_goals
  exact bodyPost_ret (v:=.agg #[.int .i64 0,.int .i64 0,.int .i64 3,.int .i64 a]) (by simp [results,Tryz.results192,go_sem]) rfl ⟨Qek 0 2 HQ.out rfl (by omega),(xC _ _).alloc (xA _) _⟩
theorem words_q3 (s:ByteArray) (a:Nat) (w:World) (h0:a < s.size) (hl:Qat s[a].toNat = true) (hs:s.size < maxLen) (hu:Qbl s[a].toNat = true) (hr:Qar ((suf s a).take (Qac (suf s a))) = false) (hn:a + Qac (suf s a) + 1 < s.size) (h46:s[a + Qac (suf s a)].toNat = 46) (hz:Qat s[a + Qac (suf s a) + 1].toNat = true) (h24:¬ (24 < Qac (suf s a) ∨ 24 < Qac (suf s (a + Qac (suf s a) + 1)))) (hr2:Qar ((suf s (a + Qac (suf s a) + 1)).take (Qac (suf s (a + Qac (suf s a) + 1)))) = true) :
  Calls Tryz.prog 192 #[.string s,.int .i64 a] w (Qdr s a w):=by
 have HS:=hQ (Nat.le_of_lt hs)
 have hm:=Qb3 s a
 have HL:=hQ hl
 have H0:=hQ (Qb1 s a h0)
 have HD:=hQ (Qep s a h0)
 clear hl
 unfold maxLen at hs
 have hn':(a:Int) + (Qac (suf s a):Nat) + 1 < (s.size:Int):=by omega
 have g46:((s[a + Qac (suf s a)].toNat:Int) == 46) = true:=Qc6 h46
 have hp:=Qfa hn hz
 have hm2:=Qb3 s (a + Qac (suf s a) + 1)
 have HZ:=hQ hz
 have HT:=hQ (show Qdm (suf s a) = Qc5 (suf s a) (Qac (suf s a)) from by
  unfold Qdm
  rw [if_pos (by rw [HD.out,hu,hr,at_suf s a _ (by omega),h46,at_two,Qb1 s (a + Qac (suf s a) + 1) hn,hz];simpa using hn)])
 clear h46 hz
 have h24a:Qac (suf s a) ≤ 24:=by omega
 have h24b:Qac (suf s (a + Qac (suf s a) + 1)) ≤ 24:=by omega
 have H24:=hQ h24
 clear h24
 have HQ:=hQ (HT.out.trans (q_res s a _ H24.out hr2))
 go_enter Tryz.func192,Tryz.ntmps192
 go_wp2_with (first | (go_at_call 195;((with_reducible refine (Qd3 _ _ _ h0 HL.out HS.out).mono ?_);rintro e w' ⟨rfl,rfl⟩)) | (go_at_call 196;refine (Qb7 _ _ _ _).mono ?_;rintro e w' ⟨rfl,rfl⟩) | (go_at_call 191;refine (Qay _ _).mono ?_;rintro e w' ⟨rfl,rfl⟩) | (go_at_call 195;((with_reducible refine (rword_yes _ _ _ _ hn HZ.out HS.out).mono ?_);rintro e w' ⟨rfl,rfl⟩)))
 all_goals
  exact bodyPost_ret (v:=.agg #[.int .i64 0,.int .i64 0,.int .i64 2,.int .i64 a]) (by simp [results,Tryz.results192,go_sem]) rfl ⟨Qek 0 1 HQ.out rfl (by omega),(xC _ _).alloc (xA _) _⟩
theorem words_q4 (s:ByteArray) (a:Nat) (w:World) (h0:a < s.size) (hl:Qat s[a].toNat = true) (hs:s.size < maxLen) (hu:Qbl s[a].toNat = true) (hr:Qar ((suf s a).take (Qac (suf s a))) = false) (hn:a + Qac (suf s a) + 1 < s.size) (h46:s[a + Qac (suf s a)].toNat = 46) (hz:Qat s[a + Qac (suf s a) + 1].toNat = true) (h24:¬ (24 < Qac (suf s a) ∨ 24 < Qac (suf s (a + Qac (suf s a) + 1)))) (hr2:Qar ((suf s (a + Qac (suf s a) + 1)).take (Qac (suf s (a + Qac (suf s a) + 1)))) = false) (hp0:0 < Qac (suf s (a + Qac (suf s a) + 1))) (hup:Qbl ((s.extract (a + Qac (suf s a) + 1) (a + Qac (suf s a) + 1 + Qac (suf s (a + Qac (suf s a) + 1))))[0]'(Qe4 s _ _ hn hp0)).toNat = true) :
  Calls Tryz.prog 192 #[.string s,.int .i64 a] w (Qdr s a w):=by
 have HS:=hQ (Nat.le_of_lt hs)
 have hm:=Qb3 s a
 have HL:=hQ hl
 have H0:=hQ (Qb1 s a h0)
 have HD:=hQ (Qep s a h0)
 clear hl
 unfold maxLen at hs
 have hn':(a:Int) + (Qac (suf s a):Nat) + 1 < (s.size:Int):=by omega
 have g46:((s[a + Qac (suf s a)].toNat:Int) == 46) = true:=Qc6 h46
 have hp:=Qfa hn hz
 have hm2:=Qb3 s (a + Qac (suf s a) + 1)
 have HZ:=hQ hz
 have HT:=hQ (show Qdm (suf s a) = Qc5 (suf s a) (Qac (suf s a)) from by
  unfold Qdm
  rw [if_pos (by rw [HD.out,hu,hr,at_suf s a _ (by omega),h46,at_two,Qb1 s (a + Qac (suf s a) + 1) hn,hz];simpa using hn)])
 clear h46 hz
 have h24a:Qac (suf s a) ≤ 24:=by omega
 have h24b:Qac (suf s (a + Qac (suf s a) + 1)) ≤ 24:=by omega
 have H24:=hQ h24
 clear h24
 go_enter Tryz.func192,Tryz.ntmps192
 go_wp2_with (first | (go_at_call 195;((with_reducible refine (Qd3 _ _ _ h0 HL.out HS.out).mono ?_);rintro e w' ⟨rfl,rfl⟩)) | (go_at_call 196;refine (Qb7 _ _ _ _).mono ?_;rintro e w' ⟨rfl,rfl⟩) | (go_at_call 191;refine (Qay _ _).mono ?_;rintro e w' ⟨rfl,rfl⟩) | (go_at_call 195;((with_reducible refine (rword_yes _ _ _ _ hn HZ.out HS.out).mono ?_);rintro e w' ⟨rfl,rfl⟩)))
 all_goals
  exact bodyPost_ret (v:=.agg #[.int .i64 (((Qac (suf s a):Nat):Int) + 1 + (Qac (suf s (a + Qac (suf s a) + 1)):Nat)),.int .i64 4,.int .i64 0,.int .i64 0]) (by simp [results,Tryz.results192,go_sem]) rfl ⟨Qeo 4 _ (HT.out.trans (q_up2 s a _ H24.out hr2 hn hp hup)) (by omega) rfl,(xC _ _).alloc (xA _) _⟩
theorem words_q5 (s:ByteArray) (a:Nat) (w:World) (h0:a < s.size) (hl:Qat s[a].toNat = true) (hs:s.size < maxLen) (hu:Qbl s[a].toNat = true) (hr:Qar ((suf s a).take (Qac (suf s a))) = false) (hn:a + Qac (suf s a) + 1 < s.size) (h46:s[a + Qac (suf s a)].toNat = 46) (hz:Qat s[a + Qac (suf s a) + 1].toNat = true) (h24:¬ (24 < Qac (suf s a) ∨ 24 < Qac (suf s (a + Qac (suf s a) + 1)))) (hr2:Qar ((suf s (a + Qac (suf s a) + 1)).take (Qac (suf s (a + Qac (suf s a) + 1)))) = false) (hp0:0 < Qac (suf s (a + Qac (suf s a) + 1))) (hup:Qbl ((s.extract (a + Qac (suf s a) + 1) (a + Qac (suf s a) + 1 + Qac (suf s (a + Qac (suf s a) + 1))))[0]'(Qe4 s _ _ hn hp0)).toNat = false) :
  Calls Tryz.prog 192 #[.string s,.int .i64 a] w (Qdr s a w):=by
 have HS:=hQ (Nat.le_of_lt hs)
 have hm:=Qb3 s a
 have HL:=hQ hl
 have H0:=hQ (Qb1 s a h0)
 have HD:=hQ (Qep s a h0)
 clear hl
 unfold maxLen at hs
 have hn':(a:Int) + (Qac (suf s a):Nat) + 1 < (s.size:Int):=by omega
 have g46:((s[a + Qac (suf s a)].toNat:Int) == 46) = true:=Qc6 h46
 have hp:=Qfa hn hz
 have hm2:=Qb3 s (a + Qac (suf s a) + 1)
 have HZ:=hQ hz
 have HT:=hQ (show Qdm (suf s a) = Qc5 (suf s a) (Qac (suf s a)) from by
  unfold Qdm
  rw [if_pos (by rw [HD.out,hu,hr,at_suf s a _ (by omega),h46,at_two,Qb1 s (a + Qac (suf s a) + 1) hn,hz];simpa using hn)])
 clear h46 hz
 have h24a:Qac (suf s a) ≤ 24:=by omega
 have h24b:Qac (suf s (a + Qac (suf s a) + 1)) ≤ 24:=by omega
 have H24:=hQ h24
 clear h24
 go_enter Tryz.func192,Tryz.ntmps192
 go_wp2_with (first | (go_at_call 195;((with_reducible refine (Qd3 _ _ _ h0 HL.out HS.out).mono ?_);rintro e w' ⟨rfl,rfl⟩)) | (go_at_call 196;refine (Qb7 _ _ _ _).mono ?_;rintro e w' ⟨rfl,rfl⟩) | (go_at_call 191;refine (Qay _ _).mono ?_;rintro e w' ⟨rfl,rfl⟩) | (go_at_call 195;((with_reducible refine (rword_yes _ _ _ _ hn HZ.out HS.out).mono ?_);rintro e w' ⟨rfl,rfl⟩)))
 all_goals
  exact bodyPost_ret (v:=.agg #[.int .i64 (((Qac (suf s a):Nat):Int) + 1 + (Qac (suf s (a + Qac (suf s a) + 1)):Nat)),.int .i64 3,.int .i64 0,.int .i64 0]) (by simp [results,Tryz.results192,go_sem]) rfl ⟨Qeo 3 _ (HT.out.trans (q_low2 s a _ H24.out hr2 hn hp hup)) (by omega) rfl,(xC _ _).alloc (xA _) _⟩
theorem hsec (s:ByteArray) (b m:Nat) (hn:b < s.size) (hp0:0 < m):Qbl ((s.extract b (b + m))[0]'(Qe4 s b m hn hp0)).toNat = true ∨ Qbl ((s.extract b (b + m))[0]'(Qe4 s b m hn hp0)).toNat = false:=by
 cases Qbl ((s.extract b (b + m))[0]'(Qe4 s b m hn hp0)).toNat
 ·exact .inr rfl
 ·exact .inl rfl
theorem words_any (s:ByteArray) (a:Nat) (w:World) (h0:a < s.size) (hl:Qat s[a].toNat = true) (hs:s.size < maxLen) :
  Calls Tryz.prog 192 #[.string s,.int .i64 a] w (Qdr s a w):=by
 cases hu:Qbl s[a].toNat
 ·exact words_low s a w h0 hl hs hu
 ·cases hr:Qar ((suf s a).take (Qac (suf s a)))
  ·by_cases hn:a + Qac (suf s a) + 1 < s.size
   ·by_cases h46:s[a + Qac (suf s a)].toNat = 46
    ·cases hz:Qat s[a + Qac (suf s a) + 1].toNat
     ·exact words_dot s a w h0 hl hs hu hr hn h46 hz
     ·by_cases h1:24 < Qac (suf s a)
      ·exact words_q1 s a w h0 hl hs hu hr hn h46 hz h1
      ·by_cases h2:24 < Qac (suf s (a + Qac (suf s a) + 1))
       ·exact words_q2 s a w h0 hl hs hu hr hn h46 hz h2
       ·have hp0:0 < Qac (suf s (a + Qac (suf s a) + 1)):=Qfa hn hz
        have h24:¬ (24 < Qac (suf s a) ∨ 24 < Qac (suf s (a + Qac (suf s a) + 1))):=by omega
        cases hr2:Qar ((suf s (a + Qac (suf s a) + 1)).take (Qac (suf s (a + Qac (suf s a) + 1))))
        ·rcases hsec s (a + Qac (suf s a) + 1) _ hn hp0 with hup | hup
         ·exact words_q4 s a w h0 hl hs hu hr hn h46 hz h24 hr2 hp0 hup
         ·exact words_q5 s a w h0 hl hs hu hr hn h46 hz h24 hr2 hp0 hup
        ·exact words_q3 s a w h0 hl hs hu hr hn h46 hz h24 hr2
    ·exact words_other s a w h0 hl hs hu hr hn h46
   ·exact words_short s a w h0 hl hs hu hr hn
  ·exact words_res s a w h0 hl hs hu hr
theorem iAt_err {t:Tk} {a:Nat} (h:t.e ≠ 0):iAt t a = ((a + t.n:Nat):Int):=by
 unfold iAt
 rw [if_neg h]
 omega
theorem own_below {w w1:World} {base:Nat} {e:TypeId} {size n:Nat} {v:Value} {xs:List Value} (h:w.ownsRow base e size v n xs) (hb:Below w.heap.size w w1):w1.ownsRow base e size v n xs :=
 h.kept (row:=none) ⟨hb.os,hb.tape,hb.output,hb.size,fun k hk _=>hb.block k hk⟩ (by cases h1:v.ownBlock with | none=>exact .inl rfl | some g=>exact .inr (by simp))
def Qaj (s:ByteArray) (k:Nat):Nat:=Qak s k - k
theorem leadLen_eq (s:ByteArray) (k:Nat):Qak s k = k + Qaj s k:=by
 have:=Qgs s k
 unfold Qaj
 omega
theorem lead_len (s:ByteArray) (k:Nat) (w:World) (hk:k ≤ s.size) (hs:s.size ≤ maxLen) :
  Calls Tryz.prog 183 #[.string s,.int .i64 k] w fun e w'=>e = .returned (.tuple #[.int .i64 (Qaj s k:Nat),.int .i64 (badAt s k)]) ∧ w = w':=by
 have h:=lead_any s k w hk hs
 rwa [show ((Qak s k:Nat):Int) - (k:Int) = ((Qaj s k:Nat):Int) from by rw [leadLen_eq];omega] at h
theorem next_at (s:ByteArray) (k n:Nat) (w:World) (h0:k + n < s.size) (hs:s.size < maxLen) :
  Calls Tryz.prog 182 #[.string s,.int .i64 ((k:Int) + (n:Int))] w (Qgh (Qbb (suf s (k + n))) (k + n) w):=by
 have h:=next_any s (k + n) w h0 hs (fun hl w=>words_any s (k + n) w h0 hl hs)
 rwa [show ((k + n:Nat):Int) = (k:Int) + (n:Int) from by omega] at h
theorem ScanRel.step {s:ByteArray} {w W3 w':World} {v v':Value} {k:Nat} {acc:List Tok} {o:Obj}
  (h:ScanAt s (Qak s k + (Qbb (suf s (Qak s k))).n) (acc ++ [⟨(Qbb (suf s (Qak s k))).kind,s.extract k (Qak s k),s.extract (Qak s k) (Qak s k + (Qbb (suf s (Qak s k))).n)⟩]))
  (hS:Qak s k = k + Qaj s k) (hown:W3.ownsRow w.heap.size 74 3 v acc.length (Qcg acc)) (hb:Below w.heap.size w W3)
  (hown':w'.ownsRow w.heap.size 74 3 v' (acc.length + 1) (Qcg acc ++ [.int .i64 (Qbb (suf s (k + Qaj s k))).kind,.string (s.extract k (k + Qaj s k)),.string (s.extract (k + Qaj s k) (k + Qaj s k + (Qbb (suf s (k + Qaj s k))).n))]))
  (hg:((W3.alloc o).drew).grownBy w' v.ownBlock):ScanRel s w v' (.int .i64 ((k:Int) + (Qaj s k:Nat) + ((Qbb (suf s (k + Qaj s k))).n:Nat))) w':=by
 rw [hS] at h
 refine ⟨_,_,?_,h,by rw [Qg8];simpa using hown',?_⟩
 ·rw [show ((k + Qaj s k + (Qbb (suf s (k + Qaj s k))).n:Nat):Int) = (k:Int) + (Qaj s k:Nat) + ((Qbb (suf s (k + Qaj s k))).n:Nat) from by omega]
 ·exact ((hb.alloc hb.size o).drew).grown hg (by have:=hb.size;show w.heap.size ≤ (W3.alloc o).heap.size;rw [xI];omega) (fun j hj=>(hown.lt j hj).1)
theorem rscan_any (s:ByteArray) (w:World) (hshort:s.size ≤ 4096) :
  Calls Tryz.prog 184 #[.string s] w (ScanPost (scanG s) w):=by
 have HL:=hQ (show s.size < maxLen from by unfold maxLen;omega)
 have HM:=hQ (Nat.le_of_lt HL.out)
 obtain ⟨i0,hi,hz0,hz1,hz2⟩:=info_parts token_info
 go_enter Tryz.func184,Tryz.ntmps184
 go_wp2
 go_loopw [6,7] (fun v i wr=>ScanRel s w v i wr) (fun _ i _=>s.size - (intOf i).toNat)
 case atStart=>exact ScanRel.start s w
 case round =>
  obtain ⟨k,acc,rfl,hat,hown,hbl⟩:=hrel
  have HA:=hQ hat
  have hk:=hat.1
  have hacc:=hat.2.1
  have hge:=Qgs s k
  have hle:=Qf0 s k hk
  have HS:=hQ (leadLen_eq s k)
  have hn:k + Qaj s k ≤ s.size:=by rw [← HS.out];exact hle
  clear hat
  have HO:=hQ hown
  have HB:=hQ hbl
  clear hown hbl
  by_cases hst:k + Qaj s k = s.size
  ·have hst':((k:Int) + (Qaj s k:Nat) == (s.size:Int)) = true:=by simp;omega
   have HD:=hQ (HA.out.done (HS.out.trans hst))
   have hbad:badAt s k = -1:=badAt_no ⟨rfl,rfl⟩ (.inr (by rw [HS.out];omega))
   clear hst hge hle
   have HE:=hQ (show s.extract k s.size = s.extract k s.size from rfl)
   go_wp2_with (go_at_call 183;refine (lead_len s k _ hk HM.out).mono ?_;rintro e w' ⟨rfl,rfl⟩)
   go_quiet (fail)
   go_wp2
   exact bodyPost_ret (v:=.tuple #[u6,.string (s.extract k s.size),.int .i64 0,.int .i64 0]) (by simp [results,Tryz.results184,go_sem]) rfl ⟨_,by rw [HD.out];rfl,by rw [HD.out];exact HO.out,below_drewN HB.out _⟩
  ·have hst':((k:Int) + (Qaj s k:Nat) == (s.size:Int)) = false:=by simp;omega
   have hlt:k + Qaj s k < s.size:=by omega
   have HK:=hQ (show Qak s k < s.size from by rw [HS.out];exact hlt)
   have HJ:=hQ (show Qak s k ≠ s.size from by rw [HS.out];exact hst)
   cases ho:Qc2 s k
   ·have hbad:badAt s k = -1:=badAt_no ⟨rfl,ho⟩ (.inl rfl)
    by_cases he:(Qbb (suf s (k + Qaj s k))).e = 0
    ·have HN:=hQ (HA.out.next HJ.out (by rw [HS.out];exact he))
     have hlen:=tok_len he
     rw [Qbt] at hlen
     have he':((((Qbb (suf s (k + Qaj s k))).e:Nat):Int) != 0) = false:=by simp [he]
     have hil:iLen (Qbb (suf s (k + Qaj s k))) = (((Qbb (suf s (k + Qaj s k))).n:Nat):Int):=by unfold iLen;rw [if_pos he]
     clear he hst hge hle ho
     go_wp2_with (first | (go_at_call 183;refine (lead_len s k _ hk HM.out).mono ?_;rintro e w' ⟨rfl,rfl⟩) | (go_at_call 182;refine (next_at s k (Qaj s k) _ hlt HL.out).mono ?_;rintro e w1 ⟨rfl,hb1⟩;have HB1:=hQ hb1;clear hb1))
     have c0:(w1.alloc (.cells #[.int .i64 (Qbb (suf s (k + Qaj s k))).n,.int .i64 (Qbb (suf s (k + Qaj s k))).kind,.int .i64 (Qbb (suf s (k + Qaj s k))).e,.int .i64 (iAt (Qbb (suf s (k + Qaj s k))) (k + Qaj s k))] 185)).cell? ⟨w1.heap.size,0,none⟩ = some (.int .i64 (Qbb (suf s (k + Qaj s k))).n):=by simp
     have c1:(w1.alloc (.cells #[.int .i64 (Qbb (suf s (k + Qaj s k))).n,.int .i64 (Qbb (suf s (k + Qaj s k))).kind,.int .i64 (Qbb (suf s (k + Qaj s k))).e,.int .i64 (iAt (Qbb (suf s (k + Qaj s k))) (k + Qaj s k))] 185)).cell? ⟨w1.heap.size,1,none⟩ = some (.int .i64 (Qbb (suf s (k + Qaj s k))).kind):=by simp
     have hb3:Below w.heap.size w (w1.alloc (.cells #[.int .i64 (Qbb (suf s (k + Qaj s k))).n,.int .i64 (Qbb (suf s (k + Qaj s k))).kind,.int .i64 (Qbb (suf s (k + Qaj s k))).e,.int .i64 (iAt (Qbb (suf s (k + Qaj s k))) (k + Qaj s k))] 185)):=(HB.out.trans (HB1.out.mono HB.out.size)).alloc (Nat.le_trans HB.out.size HB1.out.size) _
     have hown3:(w1.alloc (.cells #[.int .i64 (Qbb (suf s (k + Qaj s k))).n,.int .i64 (Qbb (suf s (k + Qaj s k))).kind,.int .i64 (Qbb (suf s (k + Qaj s k))).e,.int .i64 (iAt (Qbb (suf s (k + Qaj s k))) (k + Qaj s k))] 185)).ownsRow w.heap.size 74 3 u6 acc.length (Qcg acc):=(own_below HO.out HB1.out).alloc _
     have ag:u6.ownBlock ≠ some w1.heap.size:=fun e=>by have:=(HO.out.lt _ e).2;have:=HB1.out.size;omega
     have lg:w1.heap.size < (w1.alloc (.cells #[.int .i64 (Qbb (suf s (k + Qaj s k))).n,.int .i64 (Qbb (suf s (k + Qaj s k))).kind,.int .i64 (Qbb (suf s (k + Qaj s k))).e,.int .i64 (iAt (Qbb (suf s (k + Qaj s k))) (k + Qaj s k))] 185)).heap.size:=by simp
     generalize w1.alloc (.cells #[.int .i64 (Qbb (suf s (k + Qaj s k))).n,.int .i64 (Qbb (suf s (k + Qaj s k))).kind,.int .i64 (Qbb (suf s (k + Qaj s k))).e,.int .i64 (iAt (Qbb (suf s (k + Qaj s k))) (k + Qaj s k))] 185) = W3 at c0 c1 hb3 hown3 lg ⊢
     generalize w1.heap.size = g1 at c0 c1 ag lg ⊢
     have hsz3:=hb3.size
     have h63:=hQ (show acc.length + 1 ≤ maxLen from by unfold maxLen;omega)
     have hby:=hQ (show (acc.length + 1) * 40 ≤ 140737488355328 from by omega)
     have p0:(0:Int) ≤ (k:Int):=by omega
     have p1:(0:Int) ≤ (k:Int) + (Qaj s k:Nat):=by omega
     have p2:(0:Int) ≤ (k:Int) + (Qaj s k:Nat) + ((Qbb (suf s (k + Qaj s k))).n:Nat):=by omega
     have q1:(k:Int) ≤ (k:Int) + (Qaj s k:Nat):=by omega
     have q2:(k:Int) + (Qaj s k:Nat) ≤ (k:Int) + (Qaj s k:Nat) + ((Qbb (suf s (k + Qaj s k))).n:Nat):=by omega
     have r1:(k:Int) + (Qaj s k:Nat) ≤ (s.size:Int):=by omega
     have r2:(k:Int) + (Qaj s k:Nat) + ((Qbb (suf s (k + Qaj s k))).n:Nat) ≤ (s.size:Int):=by omega
     have t1:((k:Int) + (Qaj s k:Nat)).toNat = k + Qaj s k:=by omega
     have t2:((k:Int) + (Qaj s k:Nat) + ((Qbb (suf s (k + Qaj s k))).n:Nat)).toNat = k + Qaj s k + (Qbb (suf s (k + Qaj s k))).n:=by omega
     have w1':IntKind.i64.wrap ((k:Int) + (Qaj s k:Nat)) = (k:Int) + (Qaj s k:Nat):=IntWalk.i64_in _ (by omega)
     have w2':IntKind.i64.wrap ((k:Int) + (Qaj s k:Nat) + ((Qbb (suf s (k + Qaj s k))).n:Nat)) = (k:Int) + (Qaj s k:Nat) + ((Qbb (suf s (k + Qaj s k))).n:Nat):=IntWalk.i64_in _ (by omega)
     go_region_held3 (fun w'=>w'.cell? ⟨g1,0,none⟩ = some (.int .i64 (Qbb (suf s (k + Qaj s k))).n) ∧ w'.cell? ⟨g1,1,none⟩ = some (.int .i64 (Qbb (suf s (k + Qaj s k))).kind)) (first | go_keep | (go_split_ands;refine ⟨?_,?_⟩ <;> (rw [hgrow.cell_far _ (xE lg (by simp)) (Ne.symm ag)];assumption))) ((refine step_append_lies _ (by rfl) _ _ _ (by rfl) w.heap.size 74 i0 _ 3 40 Tryz.underlying70 hi hz0 hz1 hz2 rfl (by decide) u6 acc.length (Qcg acc) (by rfl) ((hown3.alloc _).drew) ⟨W3.heap.size,0,none⟩ 1 1 [.int .i64 (Qbb (suf s (k + Qaj s k))).kind,.string (s.extract k (k + Qaj s k)),.string (s.extract (k + Qaj s k) (k + Qaj s k + (Qbb (suf s (k + Qaj s k))).n))] (by rfl) (by rfl) (World.news_of_block (cs:=#[.int .i64 (Qbb (suf s (k + Qaj s k))).kind,.string (s.extract k (k + Qaj s k)),.string (s.extract (k + Qaj s k) (k + Qaj s k + (Qbb (suf s (k + Qaj s k))).n))]) (t:=74) (fr:=(0,0)) (xH W3 _)) (one_three _ _ _) (by decide) h63.out hby.out (Nat.le_trans hsz3 (by simp)) (W3.heap.size + 1) (by simp) ?_;intro gg cap w4 hown4 hgrow hat4 hlt4))
     have HV:=hQ hown4
     have HG:=hQ hgrow
     have H3:=hQ hown3
     have HB3:=hQ hb3
     clear hown4 hgrow p0 p1 p2 q1 q2 r1 r2 t1 t2 w1' w2' hat4 hlt4 hown3 hb3 hil c0 c1 ag lg hsz3
     go_split_ands
     go_wp2
     go_roundw
     case rel=>exact ScanRel.step HN.out HS.out H3.out HB3.out HV.out HG.out
     case measure=>simp [intOf];omega
    ·have HD:=hQ (HA.out.stop HJ.out (by rw [HS.out];exact he))
     have he':((((Qbb (suf s (k + Qaj s k))).e:Nat):Int) != 0) = true:=by simp;omega
     have HX:=hQ (iAt_err (a:=k + Qaj s k) he)
     have hmax:(Qbb (suf s (k + Qaj s k))).n ≤ s.size:=by have:=tok_err_len he;rw [Qbt] at this;omega
     clear he hst hge hle ho
     go_wp2_with (first | (go_at_call 183;refine (lead_len s k _ hk HM.out).mono ?_;rintro e w' ⟨rfl,rfl⟩) | (go_at_call 182;refine (next_at s k (Qaj s k) _ hlt HL.out).mono ?_;rintro e w1 ⟨rfl,hb1⟩;have HB1:=hQ hb1;clear hb1))
     go_quiet (fail)
     go_wp2
     exact bodyPost_ret (v:=.tuple #[.slice none 0 0,.string ⟨#[]⟩,.int .i64 (iAt (Qbb (suf s (k + Qaj s k))) (k + Qaj s k)),.int .i64 (Qbb (suf s (k + Qaj s k))).e]) (by simp [results,Tryz.results184,go_sem]) rfl ⟨_,by rw [HD.out,HS.out,HX.out];rfl,by rw [HD.out];exact World.ownsRow_nil _ _ _ _,(below_drewN ((HB.out.trans (HB1.out.mono HB.out.size)).alloc (Nat.le_trans HB.out.size HB1.out.size) _) _)⟩
   ·have hbad:badAt s k = ((k + Qaj s k:Nat):Int):=badAt_yes ⟨HS.out,ho⟩ hlt
    have HT:=hQ (open_bad ho HK.out)
    have HD:=hQ (HA.out.stop HJ.out (by rw [HT.out];decide))
    clear hst hge hle ho
    go_wp2_with (go_at_call 183;refine (lead_len s k _ hk HM.out).mono ?_;rintro e w' ⟨rfl,rfl⟩)
    exact bodyPost_ret (v:=.tuple #[.slice none 0 0,.string ⟨#[]⟩,.int .i64 ((k:Int) + (Qaj s k:Nat)),.int .i64 1]) (by simp [results,Tryz.results184,go_sem]) rfl ⟨_,by rw [HD.out,HT.out,HS.out];rfl,by rw [HD.out];exact World.ownsRow_nil _ _ _ _,HB.out⟩
theorem rScan_any (s:ByteArray) (w:World) (hs:s.size ≤ maxLen) :
  Calls Tryz.prog 170 #[.string s] w (ScanPost (Qbd s) w):=by
 unfold maxLen at hs
 by_cases hlong:4096 < s.size
 ·have HR:=hQ (show Qbd s = ⟨[],ByteArray.empty,4096,3⟩ from by unfold Qbd;rw [if_pos hlong])
  go_enter Tryz.func170,Tryz.ntmps170
  go_wp2
  exact bodyPost_ret (v:=.tuple #[.slice none 0 0,.string ⟨#[]⟩,.int .i64 4096,.int .i64 3]) (by simp [results,Tryz.results170,go_sem]) rfl ⟨_,by rw [HR.out];rfl,by rw [HR.out];exact World.ownsRow_nil _ _ _ _,xC _ _⟩
 ·have HR:=hQ (show Qbd s = scanG s from by unfold Qbd;rw [if_neg hlong])
  have hshort:s.size ≤ 4096:=by omega
  go_enter Tryz.func170,Tryz.ntmps170
  go_wp2_with (go_at_call 184;refine (rscan_any s _ hshort).mono ?_;rintro e w1 ⟨v,rfl,ho,hb⟩;have HO:=hQ ho;have HB:=hQ hb;clear ho hb)
  exact bodyPost_ret (v:=.tuple #[v,.string (scanG s).tail,.int .i64 (scanG s).place,.int .i64 (scanG s).e]) (by simp [results,Tryz.results170,go_sem]) rfl ⟨_,by rw [HR.out],by rw [HR.out];exact HO.out,HB.out⟩
theorem next_zero (s:ByteArray) (w:World) (h0:0 < s.size) (hs:s.size < maxLen) :
  Calls Tryz.prog 182 #[.string s,.int .i64 0] w (Qgh (Qbb (suf s 0)) 0 w):=by
 have h:=next_at s 0 0 w h0 hs
 simpa using h
theorem tok_none {l:List UInt8} (ha:Qaq (at' l 0) = true) (hl:Qat (at' l 0) = false) (hd:Qby (at' l 0) = false) (h34:at' l 0 ≠ 34) (h61:at' l 0 ≠ 61) (ho:Qey (at' l 0) = false):Qbb l = ⟨0,0,2⟩:=by
 have hs:Qbn l = 0:=by unfold Qbn;rw [if_neg h61,if_neg (by simp [ho])]
 unfold Qbb
 rw [if_neg (by simp [ha]),if_neg (by simp [hl]),if_neg (by simp [hd]),if_neg h34]
 unfold Qd7
 rw [if_pos hs]
theorem tok_white {l:List UInt8} (h:Qd8 (at' l 0) = true):Qbb l = ⟨0,0,2⟩:=by
 have:at' l 0 = 9 ∨ at' l 0 = 10 ∨ at' l 0 = 13 ∨ at' l 0 = 32:=by
  unfold Qd8 at h
  simp at h
  omega
 rcases this with h | h | h | h <;> exact tok_none (by rw [h];decide) (by rw [h];decide) (by rw [h];decide) (by rw [h];decide) (by rw [h];decide) (by rw [h];decide)
theorem tok_hash {l:List UInt8} (h:at' l 0 = 35):Qbb l = ⟨0,0,2⟩ :=
 tok_none (by rw [h];decide) (by rw [h];decide) (by rw [h];decide) (by rw [h];decide) (by rw [h];decide) (by rw [h];decide)
theorem class_none {l:List UInt8} (h:(Qbb l).e ≠ 0):Qam l = 0:=by
 unfold Qam
 split
 ·rfl
 ·rw [if_pos (.inl h)]
theorem Qaz (s:ByteArray) (w:World) (hs:s.size < maxLen) :
  Calls Tryz.prog 159 #[.string s] w fun e w'=>e = .returned (.int .i64 (Qam (suf s 0))) ∧ Below w.heap.size w w':=by
 have HS:=hQ hs
 by_cases h0:0 < s.size
 ·have hne:s.toList.isEmpty = false:=by
   have:=suf_ne h0
   rw [Qdx] at this
   simpa using this
  have HN:=hQ (suf_ne h0)
  have HL:=hQ (Qbt s 0)
  have H0:=hQ (Qej s 0 h0)
  unfold maxLen at hs
  cases hw:Qd8 s[0].toNat
  ·by_cases h35:s[0].toNat = 35
   ·have g35:((s[0].toNat:Int) == 35) = true:=Qc6 h35
    have HC:=hQ (class_none (l:=suf s 0) (by rw [tok_hash (H0.out.trans h35)];decide))
    clear h35
    go_enter Tryz.func159,Tryz.ntmps159
    go_wp2_with (go_at_call 181;refine (Qdo _ _).mono ?_;rintro e w' ⟨rfl,rfl⟩)
    go_ret
    exact ⟨Qb8 (by rw [HC.out];rfl),xC _ _⟩
   ·have g35:((s[0].toNat:Int) == 35) = false:=Qdu h35
    clear h35
    by_cases he:(Qbb (suf s 0)).e = 0
    ·have he':((((Qbb (suf s 0)).e:Nat):Int) != 0) = false:=by simp [he]
     have hil:iLen (Qbb (suf s 0)) = (((Qbb (suf s 0)).n:Nat):Int):=by unfold iLen;rw [if_pos he]
     by_cases hn:(Qbb (suf s 0)).n = s.size
     ·have hn':((((Qbb (suf s 0)).n:Nat):Int) != (s.size:Int)) = false:=by simp [hn]
      have HC:=hQ (show Qam (suf s 0) = (Qbb (suf s 0)).kind from by unfold Qam;rw [if_neg HN.out,if_neg (by rw [HL.out,he,hn];simp)])
      clear he hn
      go_enter Tryz.func159,Tryz.ntmps159
      go_wp2_with (first | (go_at_call 181;refine (Qdo _ _).mono ?_;rintro e w' ⟨rfl,rfl⟩) | (go_at_call 182;refine (next_zero s _ h0 HS.out).mono ?_;rintro e w1 ⟨rfl,hb1⟩;have HB:=hQ hb1;clear hb1))
      go_ret
      exact ⟨Qb8 (by rw [HC.out]),HB.out.alloc HB.out.size _⟩
     ·have hn':((((Qbb (suf s 0)).n:Nat):Int) != (s.size:Int)) = true:=by simp;omega
      have HC:=hQ (show Qam (suf s 0) = 0 from by unfold Qam;rw [if_neg HN.out,if_pos (.inr (by rw [HL.out];exact hn))])
      clear he hn
      go_enter Tryz.func159,Tryz.ntmps159
      go_wp2_with (first | (go_at_call 181;refine (Qdo _ _).mono ?_;rintro e w' ⟨rfl,rfl⟩) | (go_at_call 182;refine (next_zero s _ h0 HS.out).mono ?_;rintro e w1 ⟨rfl,hb1⟩;have HB:=hQ hb1;clear hb1))
      go_ret
      exact ⟨Qb8 (by rw [HC.out];rfl),HB.out.alloc HB.out.size _⟩
    ·have he':((((Qbb (suf s 0)).e:Nat):Int) != 0) = true:=by simp;omega
     have HC:=hQ (class_none he)
     clear he
     go_enter Tryz.func159,Tryz.ntmps159
     go_wp2_with (first | (go_at_call 181;refine (Qdo _ _).mono ?_;rintro e w' ⟨rfl,rfl⟩) | (go_at_call 182;refine (next_zero s _ h0 HS.out).mono ?_;rintro e w1 ⟨rfl,hb1⟩;have HB:=hQ hb1;clear hb1))
     go_ret
     exact ⟨Qb8 (by rw [HC.out];rfl),HB.out.alloc HB.out.size _⟩
  ·have HC:=hQ (class_none (l:=suf s 0) (by rw [tok_white (by rw [H0.out];exact hw)];decide))
   go_enter Tryz.func159,Tryz.ntmps159
   go_wp2_with (go_at_call 181;refine (Qdo _ _).mono ?_;rintro e w' ⟨rfl,rfl⟩)
   go_ret
   exact ⟨Qb8 (by rw [HC.out];rfl),xC _ _⟩
 ·have he:s.toList.isEmpty = true:=by rw [← Qdx,suf_nil (by omega)];rfl
  have HC:=hQ (show Qam (suf s 0) = 0 from by rw [suf_nil (by omega)];rfl)
  go_enter Tryz.func159,Tryz.ntmps159
  go_wp2
  go_ret
  exact ⟨Qb8 (by rw [HC.out];rfl),xC _ _⟩
end Go.Proofs.YtnnfdbmanamfdaaGreat
